/- Contracts over the calendar's program, each for every input under its hypotheses: slices of intervals that are read: Same, In of the reference, the closure of In. -/
import Derived.Test.YtbfpbmijmiljlaaDoorCalWalkE
import Derived.Test.YtbfpbmijmiljlaaDoorCalIv
import Derived.Laws.StructEq
import Derived.Deep.DeepFit
namespace Go.Proofs.YtbfpbmijmiljlaaDoor
set_option linter.unusedSimpArgs false
set_option linter.unusedVariables false
open Go.RowKit

theorem hide {p : Prop} (h : p) : Hid p := h
theorem unhide {p : Prop} (h : Hid p) : p := h

/-- the slice at A reads as the list l -/
def IvAt (w : World) (A : Option Addr) (l : List CalI.Iv) : Prop :=
  ∀ k (h : k < l.length), ∃ b off, A = some ⟨b, off, none⟩ ∧ w.cell? ⟨b, off + k * 2, none⟩ = some (.int .i64 l[k].1) ∧ w.cell? ⟨b, off + k * 2 + 1, none⟩ = some (.int .i64 l[k].2)

theorem IvAt.nil (w : World) (A : Option Addr) : IvAt w A [] := fun k h => absurd h (by simp)
theorem IvAt.below {w w' : World} {A : Option Addr} {l : List CalI.Iv} (h : IvAt w A l) (hb : Below w.heap.size w w') : IvAt w' A l := by
  intro k hk
  obtain ⟨b, off, e, h0, h1⟩ := h k hk
  refine ⟨b, off, e, ?_, ?_⟩
  · rw [hb.cell (World.block_lt_of_cell? w _ h0)]; exact h0
  · rw [hb.cell (World.block_lt_of_cell? w _ h1)]; exact h1
theorem IvAt.lt {w : World} {A : Option Addr} {l : List CalI.Iv} (h : IvAt w A l) {k : Nat} (hk : k < l.length) : ∃ b off, A = some ⟨b, off, none⟩ ∧ b < w.heap.size := by
  obtain ⟨b, off, e, h0, _⟩ := h k hk
  exact ⟨b, off, e, World.block_lt_of_cell? w _ h0⟩

theorem IvAt.row {w : World} {A : Option Addr} {l : List CalI.Iv} (h : IvAt w A l) (hl : 0 < l.length) :
    ∃ b off, A = some ⟨b, off, none⟩ ∧ b < w.heap.size ∧ ∀ k x, l[k]? = some x → w.cell? ⟨b, off + k * 2, none⟩ = some (.int .i64 x.1) ∧ w.cell? ⟨b, off + k * 2 + 1, none⟩ = some (.int .i64 x.2) := by
  obtain ⟨b, off, rfl, h0, _⟩ := h 0 hl
  refine ⟨b, off, rfl, World.block_lt_of_cell? w _ h0, fun k x hx => ?_⟩
  obtain ⟨hk, rfl⟩ := List.getElem?_eq_some_iff.1 hx
  obtain ⟨b', off', e, h1, h2⟩ := h k hk
  injection e with e
  injection e with e1 e2
  subst e1 e2
  exact ⟨h1, h2⟩

theorem run_neq_iv (a b c d : Int) (w : World) : (binOp .neq 34 (ivV a b) (ivV c d)).run Tryd.prog w = .ok (.bool (!(a == c && b == d))) w := by
  have u3 := Tryd.underlying3
  have a3 := Tryd.isAgg3
  have z3 := Tryd.sizeOf3
  have hS : Tryd.prog.underlying 34 = some (.struct (Tryd.prog.fieldsOf 34)) := by kernel_rfl
  have hp : Tryd.prog.stoodInHeld 34 = false := by kernel_rfl
  rw [run_neq_struct, show (10000 : Nat) = 9999 + 1 from rfl, run_equalIn_agg w 9999 34 _ _ hS hp]
  simp only [Program.fieldsOf, Tryd.underlying34]
  go_simp
  by_cases h1 : a = c <;> by_cases h2 : b = d <;> simp [h1, h2]


theorem same_len (A A' : Option Addr) (n n' c c' : Nat) (w : World) (hn : n ≤ 1000000) (hn' : n' ≤ 1000000) (h : n ≠ n') :
    Calls Tryd.prog 25 #[.slice A n c, .slice A' n' c'] w fun e w' => e = .returned (.bool false) ∧ w' = w := by
  have hb : ((n : Int) != (n' : Int)) = true := by simp; omega
  have hb2 : ((n : Int) == (n' : Int)) = false := by simp; omega
  go_enter Tryd.func25, Tryd.ntmps25
  go_wp2
  go_ret
  exact ⟨rfl, rfl⟩

theorem same_zero (A A' : Option Addr) (c c' : Nat) (w : World) :
    Calls Tryd.prog 25 #[.slice A 0 c, .slice A' 0 c'] w fun e w' => e = .returned (.bool true) ∧ w' = w := by
  go_enter Tryd.func25, Tryd.ntmps25
  go_wp2
  go_loop [5] (fun i => i = .int .i64 0) (fun _ => 0)
  case atStart => rfl
  case round =>
    subst hrel
    go_wp2
    go_ret
    exact ⟨rfl, rfl⟩

theorem drewN_zero (w : World) : w = w.drewN 0 := rfl

set_option maxHeartbeats 1000000 in
theorem same_rows (b off b' off' c c' n : Nat) (l l' : List CalI.Iv) (w : World) (hl : l.length = n) (hl' : l'.length = n) (hn : n ≤ 1000000)
    (h : ∀ k x, l[k]? = some x → w.cell? ⟨b, off + k * 2, none⟩ = some (.int .i64 x.1) ∧ w.cell? ⟨b, off + k * 2 + 1, none⟩ = some (.int .i64 x.2))
    (h' : ∀ k x, l'[k]? = some x → w.cell? ⟨b', off' + k * 2, none⟩ = some (.int .i64 x.1) ∧ w.cell? ⟨b', off' + k * 2 + 1, none⟩ = some (.int .i64 x.2)) :
    Calls Tryd.prog 25 #[.slice (some ⟨b, off, none⟩) n c, .slice (some ⟨b', off', none⟩) n c'] w fun e w' => e = .returned (.bool (decide (l = l'))) ∧ ∃ q, w' = w.drewN q := by
  have HL := Lib.hid hl; have HL' := Lib.hid hl'; clear hl hl'
  have H := Lib.hid h; have H' := Lib.hid h'; clear h h'
  go_enter Tryd.func25, Tryd.ntmps25
  go_wp2
  go_loopw [5] (fun i wr => ∃ k : Nat, k ≤ n ∧ i = .int .i64 k ∧ l.take k = l'.take k ∧ ∃ q, wr = w.drewN q) (fun i _ => n - (intOf i).toNat)
  case atStart => exact ⟨0, Nat.zero_le _, rfl, by simp, 0, rfl⟩
  case round =>
    obtain ⟨k, hk, rfl, htk, q, rfl⟩ := hrel
    have HT := Lib.hid htk; clear htk
    by_cases hlt : k < n
    · obtain ⟨⟨x1, x2⟩, hx⟩ : ∃ x, l[k]? = some x := ⟨_, List.getElem?_eq_getElem (by rw [HL.out]; exact hlt)⟩
      obtain ⟨⟨y1, y2⟩, hy⟩ : ∃ x, l'[k]? = some x := ⟨_, List.getElem?_eq_getElem (by rw [HL'.out]; exact hlt)⟩
      obtain ⟨c0, c1⟩ := H.out k _ hx
      obtain ⟨d0, d1⟩ := H'.out k _ hy
      have HX := Lib.hid hx; have HY := Lib.hid hy; clear hx hy
      simp only at c0 c1 d0 d1
      have hneq := run_neq_iv x1 x2 y1 y2
      by_cases hxy : x1 = y1 ∧ x2 = y2
      · have hbq : (!(x1 == y1 && x2 == y2)) = false := by simp [hxy.1, hxy.2]
        rw [hbq] at hneq
        have HXY := Lib.hid hxy; clear hxy hbq
        go_wp2
        go_quiet (fail)
        go_wp2
        go_roundw
        case rel =>
          refine ⟨k + 1, by omega, by go_num, ?_, _, rfl⟩
          have hx := HX.out
          have hy := HY.out
          obtain ⟨rfl, rfl⟩ := HXY.out
          rw [List.take_add_one, List.take_add_one, HT.out, hx, hy]
        case measure => simp [intOf]; omega
      · have hbq : (!(x1 == y1 && x2 == y2)) = true := by
          simp only [Bool.not_eq_true', Bool.and_eq_false_iff, beq_eq_false_iff_ne]
          by_cases h1 : x1 = y1
          · exact .inr (fun h2 => hxy ⟨h1, h2⟩)
          · exact .inl h1
        rw [hbq] at hneq
        have HXY := Lib.hid hxy; clear hxy hbq
        go_wp2
        go_quiet (fail)
        go_wp2
        go_ret
        refine ⟨?_, _, World.drewN_drewN _ _ _⟩
        rw [decide_eq_false]
        · rfl
        · rintro rfl
          have := HX.out.symm.trans HY.out
          simp at this
          exact HXY.out this
    · have hkn : k = n := by omega
      have HK := Lib.hid hkn; clear hkn
      go_wp2
      go_ret
      refine ⟨?_, _, rfl⟩
      rw [decide_eq_true]
      · rfl
      · have := HT.out
        rw [HK.out] at this
        rwa [List.take_of_length_le (by rw [HL.out]; exact Nat.le_refl _), List.take_of_length_le (by rw [HL'.out]; exact Nat.le_refl _)] at this

theorem same_any (A A' : Option Addr) (c c' : Nat) (l l' : List CalI.Iv) (w : World) (h : IvAt w A l) (h' : IvAt w A' l') (hn : l.length ≤ 1000000) (hn' : l'.length ≤ 1000000) :
    Calls Tryd.prog 25 #[.slice A l.length c, .slice A' l'.length c'] w fun e w' => e = .returned (.bool (decide (l = l'))) ∧ ∃ q, w' = w.drewN q := by
  by_cases hl : l.length = l'.length
  · by_cases h0 : 0 < l.length
    · obtain ⟨b, off, rfl, _, hr⟩ := h.row h0
      obtain ⟨b', off', rfl, _, hr'⟩ := h'.row (by omega)
      rw [← hl]
      exact same_rows b off b' off' c c' l.length l l' w rfl hl.symm hn hr hr'
    · have e : l = [] := List.length_eq_zero_iff.1 (by omega)
      have e' : l' = [] := List.length_eq_zero_iff.1 (by omega)
      subst e e'
      exact (same_zero A A' c c' w).mono fun e w' ⟨he, hw⟩ => ⟨by rw [he]; rfl, 0, hw⟩
  · refine (same_len A A' _ _ c c' w hn hn' hl).mono fun e w' ⟨he, hw⟩ => ⟨?_, 0, hw⟩
    rw [he, decide_eq_false (fun h => hl (by rw [h]))]

def inB (l : List CalI.Iv) (n : Int) : Bool := l.any fun i => decide (i.1 ≤ n) && decide (n ≤ i.2)

set_option maxHeartbeats 1000000 in
theorem refIn_rows (b off c n : Nat) (v : Int) (l : List CalI.Iv) (w : World) (hl : l.length = n) (hn : n ≤ 1000000)
    (h : ∀ k x, l[k]? = some x → w.cell? ⟨b, off + k * 2, none⟩ = some (.int .i64 x.1) ∧ w.cell? ⟨b, off + k * 2 + 1, none⟩ = some (.int .i64 x.2)) :
    Calls Tryd.prog 27 #[.int .i64 v, .slice (some ⟨b, off, none⟩) n c] w fun e w' => e = .returned (.bool (inB l v)) ∧ ∃ q, w' = w.drewN q := by
  have HL := Lib.hid hl; clear hl
  have H := Lib.hid h; clear h
  go_enter Tryd.func27, Tryd.ntmps27
  go_wp2
  go_loopw [5] (fun i wr => ∃ k : Nat, k ≤ n ∧ i = .int .i64 k ∧ inB (l.take k) v = false ∧ ∃ q, wr = w.drewN q) (fun i _ => n - (intOf i).toNat)
  case atStart => exact ⟨0, Nat.zero_le _, rfl, rfl, 0, rfl⟩
  case round =>
    obtain ⟨k, hk, rfl, htk, q, rfl⟩ := hrel
    have HT := Lib.hid htk; clear htk
    by_cases hlt : k < n
    · obtain ⟨⟨x1, x2⟩, hx⟩ : ∃ x, l[k]? = some x := ⟨_, List.getElem?_eq_getElem (by rw [HL.out]; exact hlt)⟩
      obtain ⟨c0, c1⟩ := H.out k _ hx
      have HX := Lib.hid hx; clear hx
      simp only at c0 c1
      by_cases h1 : x1 ≤ v
      · by_cases h2 : v ≤ x2
        · have d1 : decide (x1 ≤ v) = true := by simpa using h1
          have d2 : decide (v ≤ x2) = true := by simpa using h2
          go_wp2
          try go_quiet (fail)
          try go_wp2
          go_ret
          refine ⟨?_, _, rfl⟩
          have : inB l v = true := by
            simp only [inB, List.any_eq_true]
            exact ⟨(x1, x2), List.mem_of_getElem? HX.out, by simp [h1, h2]⟩
          rw [this]
          rfl
        · have d1 : decide (x1 ≤ v) = true := by simpa using h1
          have d2 : decide (v ≤ x2) = false := by simpa using h2
          go_wp2
          try go_quiet (fail)
          try go_wp2
          go_roundw
          case rel =>
            refine ⟨k + 1, by omega, by go_num, ?_, _, rfl⟩
            have := HT.out
            rw [List.take_add_one, HX.out]
            simp only [inB, List.any_append] at this ⊢
            rw [this]
            simp [h2]
          case measure => simp [intOf]; omega
      · have d1 : decide (x1 ≤ v) = false := by simpa using h1
        go_wp2
        try go_quiet (fail)
        try go_wp2
        go_roundw
        case rel =>
          refine ⟨k + 1, by omega, by go_num, ?_, _, rfl⟩
          have := HT.out
          rw [List.take_add_one, HX.out]
          simp only [inB, List.any_append] at this ⊢
          rw [this]
          simp [h1]
        case measure => simp [intOf]; omega
    · have hkn : k = n := by omega
      have HK := Lib.hid hkn; clear hkn
      go_wp2
      go_ret
      refine ⟨?_, _, rfl⟩
      have := HT.out
      rw [HK.out, List.take_of_length_le (by rw [HL.out]; exact Nat.le_refl _)] at this
      rw [this]
      rfl

theorem refIn_any (A : Option Addr) (c : Nat) (v : Int) (l : List CalI.Iv) (w : World) (h : IvAt w A l) (hn : l.length ≤ 1000000) :
    Calls Tryd.prog 27 #[.int .i64 v, .slice A l.length c] w fun e w' => e = .returned (.bool (inB l v)) ∧ ∃ q, w' = w.drewN q := by
  by_cases h0 : 0 < l.length
  · obtain ⟨b, off, rfl, _, hr⟩ := h.row h0
    exact refIn_rows b off c l.length v l w rfl hn hr
  · have e : l = [] := List.length_eq_zero_iff.1 (by omega)
    subst e
    go_enter Tryd.func27, Tryd.ntmps27
    go_wp2
    go_loop [5] (fun i => i = .int .i64 0) (fun _ => 0)
    case atStart => rfl
    case round =>
      subst hrel
      go_wp2
      go_ret
      exact ⟨rfl, 0, rfl⟩

/-- the closure of In, its variable in the cell at B -/
theorem inClosure (x1 x2 v : Int) (B : Nat) (w : World) (hc : w.cell? ⟨B, 0, none⟩ = some (.int .i64 v)) :
    Calls Tryd.prog 43 #[ivV x1 x2, .pointer (some ⟨B, 0, none⟩)] w fun e w' => e = .returned (.bool (decide (x1 ≤ v) && decide (v ≤ x2))) ∧ Below w.heap.size w w' := by
  have hB := World.block_lt_of_cell? w _ hc
  simp only at hB
  by_cases h1 : x1 ≤ v
  · by_cases h2 : v ≤ x2
    · have d1 : decide (x1 ≤ v) = true := by simpa using h1
      have d2 : decide (v ≤ x2) = true := by simpa using h2
      rw [d1, d2]
      go_enter Tryd.func43, Tryd.ntmps43
      go_wp2
      try go_quiet (fail)
      try go_wp2
      go_ret
      exact ⟨rfl, by go_grown⟩
    · have d1 : decide (x1 ≤ v) = true := by simpa using h1
      have d2 : decide (v ≤ x2) = false := by simpa using h2
      rw [d1, d2]
      go_enter Tryd.func43, Tryd.ntmps43
      go_wp2
      try go_quiet (fail)
      try go_wp2
      go_ret
      exact ⟨rfl, by go_grown⟩
  · have d1 : decide (x1 ≤ v) = false := by simpa using h1
    rw [d1]
    go_enter Tryd.func43, Tryd.ntmps43
    go_wp2
    try go_quiet (fail)
    try go_wp2
    go_ret
    exact ⟨rfl, by go_grown⟩

def idxB (l : List CalI.Iv) (v : Int) : Int := if inB l v then 0 else -1

set_option maxHeartbeats 1000000 in
theorem index_rows (b off c n : Nat) (v : Int) (B : Nat) (l : List CalI.Iv) (w : World) (hl : l.length = n) (hn : n ≤ 1000000) (hcv : w.cell? ⟨B, 0, none⟩ = some (.int .i64 v))
    (h : ∀ k x, l[k]? = some x → w.cell? ⟨b, off + k * 2, none⟩ = some (.int .i64 x.1) ∧ w.cell? ⟨b, off + k * 2 + 1, none⟩ = some (.int .i64 x.2)) (hb : 0 < n → b < w.heap.size) :
    Calls Tryd.prog 49 #[.slice (some ⟨b, off, none⟩) n c, .func (.func 43) #[] #[.pointer (some ⟨B, 0, none⟩)]] w
      fun e w' => (∃ r : Int, e = .returned (.int .i64 r) ∧ (inB l v = true ↔ 0 ≤ r) ∧ -1 ≤ r) ∧ Below w.heap.size w w' := by
  have HL := Lib.hid hl; clear hl
  have H := Lib.hid h; clear h
  have hB := World.block_lt_of_cell? w _ hcv
  simp only at hB
  go_enter Tryd.func49, Tryd.ntmps49
  go_wp2
  go_loopw [5, 8] (fun _ i wr => ∃ k : Nat, k ≤ n ∧ i = .int .i64 k ∧ inB (l.take k) v = false ∧ Below w.heap.size w wr) (fun _ i _ => n - (intOf i).toNat)
  case atStart => exact ⟨0, Nat.zero_le _, rfl, rfl, Below.refl _ _⟩
  case round =>
    obtain ⟨k, hk, rfl, htk, hbw⟩ := hrel
    have HT := Lib.hid htk; clear htk
    by_cases hlt : k < n
    · obtain ⟨⟨x1, x2⟩, hx⟩ : ∃ x, l[k]? = some x := ⟨_, List.getElem?_eq_getElem (by rw [HL.out]; exact hlt)⟩
      obtain ⟨c0, c1⟩ := H.out k _ hx
      have HX := Lib.hid hx; clear hx
      simp only at c0 c1
      rw [← hbw.cell (p := ⟨b, off + k * 2, none⟩) (hb (by omega))] at c0
      rw [← hbw.cell (p := ⟨b, off + k * 2 + 1, none⟩) (hb (by omega))] at c1
      have hcv' : wr.cell? ⟨B, 0, none⟩ = some (.int .i64 v) := by rw [hbw.cell (p := ⟨B, 0, none⟩) hB]; exact hcv
      have HC := fun x1 x2 => inClosure x1 x2 v B wr hcv'
      have HCV := Lib.hid hcv; have HCV' := Lib.hid hcv'; clear hcv hcv'
      cases hd : (decide (x1 ≤ v) && decide (v ≤ x2))
      · have hcall := HC x1 x2
        rw [hd] at hcall
        have HD := Lib.hid hd; clear hd HC
        have HCALL := hide hcall; clear hcall
        go_wp2_with (go_at_call 43; refine (unhide HCALL).mono ?_; rintro e w1 ⟨rfl, hb1⟩)
        go_roundw
        case rel =>
          refine ⟨k + 1, by omega, by go_num, ?_, hbw.trans (hb1.mono hbw.size)⟩
          have := HT.out
          rw [List.take_add_one, HX.out]
          simp only [inB, List.any_append] at this ⊢
          rw [this]
          simpa using HD.out
        case measure => simp [intOf]; omega
      · have hcall := HC x1 x2
        rw [hd] at hcall
        have HD := Lib.hid hd; clear hd HC
        have HCALL := hide hcall; clear hcall
        go_wp2_with (go_at_call 43; refine (unhide HCALL).mono ?_; rintro e w1 ⟨rfl, hb1⟩)
        go_ret
        refine ⟨⟨_, rfl, ?_, by omega⟩, hbw.trans (hb1.mono hbw.size)⟩
        have : inB l v = true := by
          simp only [inB, List.any_eq_true]
          exact ⟨(x1, x2), List.mem_of_getElem? HX.out, HD.out⟩
        simp [this]
    · have hkn : k = n := by omega
      have HK := Lib.hid hkn; clear hkn
      go_wp2
      go_ret
      refine ⟨⟨_, rfl, ?_, by omega⟩, hbw⟩
      have := HT.out
      rw [HK.out, List.take_of_length_le (by rw [HL.out]; exact Nat.le_refl _)] at this
      rw [this]
      simp

end Go.Proofs.YtbfpbmijmiljlaaDoor
