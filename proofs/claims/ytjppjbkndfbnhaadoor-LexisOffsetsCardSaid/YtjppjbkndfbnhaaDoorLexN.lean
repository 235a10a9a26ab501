/- Contracts over the program of lexis: equal lists, lists that are alike, few tokens. -/
import Derived.Test.YtjppjbkndfbnhaaDoorLexK
import Derived.Test.YtjppjbkndfbnhaaDoorLexM
import Derived.Test.YtjppjbkndfbnhaaDoorLexKw
namespace Go.Proofs.YtjppjbkndfbnhaaDoor
set_option linter.unusedSimpArgs false
set_option linter.unusedVariables false
open Go.RowKit

def TrueB (w : World) (e : Ending) (w' : World) : Prop := e = .returned (.bool true) ∧ Below w.heap.size w w'
/-- the slice of problems at A reads as the list of offsets -/
structure PbAt (w : World) (A : Option Addr) (l : List Int) : Prop where
  at_ : l ≠ [] → ∃ b o, A = some ⟨b, o, none⟩ ∧ b < w.heap.size ∧ ∀ j p, l[j]? = some p → w.cell? ⟨b, o + j * 2, none⟩ = some (.int .i64 p) ∧ w.cell? ⟨b, o + j * 2 + 1, none⟩ = some (.int .i64 60)
theorem PbAt.nil {w : World} {A : Option Addr} : PbAt w A [] := ⟨fun h => absurd rfl h⟩
theorem PbAt.keep {w w' : World} {A : Option Addr} {l : List Int} (h : PbAt w A l) (hb : Below w.heap.size w w') : PbAt w' A l := by
  refine ⟨fun hl => ?_⟩
  obtain ⟨b, o, e, hlt, hc⟩ := h.at_ hl
  have hk := hb.block b hlt
  refine ⟨b, o, e, Nat.lt_of_lt_of_le hlt hb.size, fun j t hj => ?_⟩
  rw [cell_block hk, cell_block hk]
  exact hc j t hj
theorem pbCells_get : ∀ {l : List Int} {j : Nat} {p : Int}, l[j]? = some p → (pbCells l)[j * 2]? = some (.int .i64 p) ∧ (pbCells l)[j * 2 + 1]? = some (.int .i64 60)
  | [], j, t, h => by simp at h
  | x :: r, 0, t, h => by simp at h; subst h; exact ⟨rfl, rfl⟩
  | x :: r, j + 1, t, h => by
    have e : pbCells (x :: r) = pb1 x ++ pbCells r := by simp [pbCells]
    have ih := pbCells_get (l := r) (j := j) (p := t) (by simpa using h)
    have hl : (pb1 x).length = 2 := rfl
    rw [e, List.getElem?_append_right (by omega), List.getElem?_append_right (by omega), hl, show (j + 1) * 2 - 2 = j * 2 by omega, show (j + 1) * 2 + 1 - 2 = j * 2 + 1 by omega]
    exact ih
theorem own_pb {w : World} {B : Nat} {v : Value} {l : List Int} (h : OwnP w B v l) : ∃ A c, v = .slice A l.length c ∧ PbAt w A l ∧ l.length ≤ c := by
  have hh := h
  rcases h.2 with ⟨rfl, h0⟩ | ⟨g, cap, cur, rfl, hb, hg, hn, hm, hs, ht⟩
  · have : l = [] := List.length_eq_zero_iff.1 h0
    subst this
    exact ⟨none, 0, rfl, PbAt.nil, Nat.le_refl _⟩
  · refine ⟨_, cap, rfl, ⟨fun _ => ⟨g, 0, rfl, (Array.getElem?_eq_some_iff.1 hg).1, fun j t hj => ?_⟩⟩, hn⟩
    have hjl := (List.getElem?_eq_some_iff.1 hj).1
    obtain ⟨c0, c1⟩ := pbCells_get hj
    rw [Nat.zero_add, World.ownsRow.cellAt hh (j * 2) (by omega), World.ownsRow.cellAt hh (j * 2 + 1) (by omega)]
    exact ⟨c0, c1⟩
set_option maxRecDepth 100000 in
set_option maxHeartbeats 2000000 in
theorem same_eq (A B : Option Addr) (c d n : Nat) (l : List Lx.Tk) (w : World) (hn : l.length = n) (hA : TkAt w A l) (hB : TkAt w B l) (hl : n ≤ 1000000) :
    Calls Tryd.prog 14 #[.slice A n c, .slice B n d] w (TrueB w) := by
  have HN := hide hn; have HA := hide hA; have HB := hide hB
  clear hn hA hB
  go_enter Tryd.func14, Tryd.ntmps14
  go_wp2_with fail
  go_loopw [5] (fun i wr => ∃ k : Nat, k ≤ n ∧ i = .int .i64 (k : Int) ∧ Below w.heap.size w wr) (fun i wr => n - (intOf i).toNat)
  case atStart => exact ⟨0, Nat.zero_le _, rfl, Below.refl _ _⟩
  case round =>
    obtain ⟨k, hk, rfl, hb⟩ := hrel
    have HBW := hide hb
    by_cases hlt : k < n
    · obtain ⟨t, ht⟩ : ∃ t, l[k]? = some t := ⟨_, List.getElem?_eq_getElem (by have := unhide HN; omega)⟩
      have hne : l ≠ [] := List.ne_nil_of_length_pos (by have := unhide HN; omega)
      obtain ⟨b, o, rfl, _, hc⟩ := ((unhide HA).keep hb).at_ hne
      obtain ⟨b2, o2, rfl, _, hc2⟩ := ((unhide HB).keep hb).at_ hne
      obtain ⟨c0, c1, c2⟩ := hc k t ht
      obtain ⟨d0, d1, d2⟩ := hc2 k t ht
      obtain ⟨tk, ts, ta⟩ := t
      simp only at c0 c1 c2 d0 d1 d2
      clear hc hc2 hb hne ht
      go_wp2_with fail
      go_quiet (fail)
      go_wp2_with fail
      go_roundw
      case rel => exact ⟨k + 1, by omega, by go_num, belowDrewN _ (unhide HBW)⟩
      case measure => simp [intOf]; omega
    · clear hb
      go_wp2_with fail
      go_ret
      exact ⟨rfl, unhide HBW⟩
set_option maxRecDepth 100000 in
set_option maxHeartbeats 2000000 in
theorem sameP_eq (A B : Option Addr) (c d n : Nat) (l : List Int) (w : World) (hn : l.length = n) (hA : PbAt w A l) (hB : PbAt w B l) (hl : n ≤ 1000000) :
    Calls Tryd.prog 15 #[.slice A n c, .slice B n d] w (TrueB w) := by
  have HN := hide hn; have HA := hide hA; have HB := hide hB
  clear hn hA hB
  go_enter Tryd.func15, Tryd.ntmps15
  go_wp2_with fail
  go_loopw [5] (fun i wr => ∃ k : Nat, k ≤ n ∧ i = .int .i64 (k : Int) ∧ Below w.heap.size w wr) (fun i wr => n - (intOf i).toNat)
  case atStart => exact ⟨0, Nat.zero_le _, rfl, Below.refl _ _⟩
  case round =>
    obtain ⟨k, hk, rfl, hb⟩ := hrel
    have HBW := hide hb
    by_cases hlt : k < n
    · obtain ⟨t, ht⟩ : ∃ t, l[k]? = some t := ⟨_, List.getElem?_eq_getElem (by have := unhide HN; omega)⟩
      have hne : l ≠ [] := List.ne_nil_of_length_pos (by have := unhide HN; omega)
      obtain ⟨b, o, rfl, _, hc⟩ := ((unhide HA).keep hb).at_ hne
      obtain ⟨b2, o2, rfl, _, hc2⟩ := ((unhide HB).keep hb).at_ hne
      obtain ⟨c0, c1⟩ := hc k t ht
      obtain ⟨d0, d1⟩ := hc2 k t ht
      clear hc hc2 hb hne ht
      go_wp2_with fail
      go_quiet (fail)
      go_wp2_with fail
      go_roundw
      case rel => exact ⟨k + 1, by omega, by go_num, belowDrewN _ (unhide HBW)⟩
      case measure => simp [intOf]; omega
    · clear hb
      go_wp2_with fail
      go_ret
      exact ⟨rfl, unhide HBW⟩
/-- the same kinds and texts -/
def AlikeP (l m : List Lx.Tk) : Prop := l.map (fun t => (t.k, t.t)) = m.map (fun t => (t.k, t.t))
theorem AlikeP.len {l m : List Lx.Tk} (h : AlikeP l m) : l.length = m.length := by
  have := congrArg List.length h
  simpa using this
set_option maxRecDepth 100000 in
set_option maxHeartbeats 2000000 in
theorem alike_eq (A B : Option Addr) (c d n : Nat) (l m : List Lx.Tk) (w : World) (hn : l.length = n) (ha : AlikeP l m) (hA : TkAt w A l) (hB : TkAt w B m) (hl : n ≤ 1000000) :
    Calls Tryd.prog 23 #[.slice A n c, .slice B n d] w (TrueB w) := by
  have HN := hide hn; have HA := hide hA; have HB := hide hB; have HL := hide ha
  clear hn hA hB ha
  go_enter Tryd.func23, Tryd.ntmps23
  go_wp2_with fail
  go_loopw [5] (fun i wr => ∃ k : Nat, k ≤ n ∧ i = .int .i64 (k : Int) ∧ Below w.heap.size w wr) (fun i wr => n - (intOf i).toNat)
  case atStart => exact ⟨0, Nat.zero_le _, rfl, Below.refl _ _⟩
  case round =>
    obtain ⟨k, hk, rfl, hb⟩ := hrel
    have HBW := hide hb
    by_cases hlt : k < n
    · obtain ⟨t, ht⟩ : ∃ t, l[k]? = some t := ⟨_, List.getElem?_eq_getElem (by have := unhide HN; omega)⟩
      obtain ⟨u, hu⟩ : ∃ u, m[k]? = some u := ⟨_, List.getElem?_eq_getElem (by have := unhide HN; have := (unhide HL).len; omega)⟩
      have hne : l ≠ [] := List.ne_nil_of_length_pos (by have := unhide HN; omega)
      have hne2 : m ≠ [] := List.ne_nil_of_length_pos (by have := unhide HN; have := (unhide HL).len; omega)
      have heq : (t.k, t.t) = (u.k, u.t) := by
        have := congrArg (fun x => x[k]?) (unhide HL)
        simp only [List.getElem?_map, ht, hu, Option.map_some, Option.some.injEq] at this
        exact this
      obtain ⟨b, o, rfl, _, hc⟩ := ((unhide HA).keep hb).at_ hne
      obtain ⟨b2, o2, rfl, _, hc2⟩ := ((unhide HB).keep hb).at_ hne2
      obtain ⟨c0, c1, c2⟩ := hc k t ht
      obtain ⟨d0, d1, d2⟩ := hc2 k u hu
      obtain ⟨tk, ts, ta⟩ := t
      obtain ⟨uk, us, ua⟩ := u
      simp only [Prod.mk.injEq] at c0 c1 c2 d0 d1 d2 heq
      obtain ⟨rfl, rfl⟩ := heq
      have n1 : (tk != tk) = false := by simp
      have n2 : (!(ts.toList == ts.toList)) = false := by simp
      clear hc hc2 hb hne ht hne2 hu
      go_wp2_with fail
      go_quiet (fail)
      go_wp2_with fail
      go_roundw
      case rel => exact ⟨k + 1, by omega, by go_num, belowDrewN _ (unhide HBW)⟩
      case measure => simp [intOf]; omega
    · clear hb
      go_wp2_with fail
      go_ret
      exact ⟨rfl, unhide HBW⟩
theorem wgt_snoc (l : List Lx.Tk) (t : Lx.Tk) : Lx.wgt (l ++ [t]) = Lx.wgt l + (1 + t.t.size) := by rw [Lx.wgt_append]; rfl
set_option maxRecDepth 100000 in
set_option maxHeartbeats 2000000 in
theorem few_any (A : Option Addr) (c n : Nat) (l : List Lx.Tk) (w : World) (hn : l.length = n) (hA : TkAt w A l) (hl : n ≤ 140737488351232) (hs : ∀ t ∈ l, t.t.size ≤ 140737488351232) :
    Calls Tryd.prog 16 #[.slice A n c] w fun e w' => e = .returned (.bool (decide (Lx.wgt l ≤ 3000))) ∧ w' = w := by
  have HN := hide hn; have HA := hide hA; have HS := hide hs
  clear hn hA hs
  go_enter Tryd.func16, Tryd.ntmps16
  go_wp2_with fail
  go_loop [3, 4] (fun s i => ∃ (k m : Nat), k ≤ n ∧ i = .int .i64 (k : Int) ∧ s = .int .i64 (m : Int) ∧ m = Lx.wgt (l.take k) ∧ m ≤ 140737488359232) (fun _ i => n - (intOf i).toNat)
  case atStart => exact ⟨0, 0, Nat.zero_le _, rfl, rfl, by simp [Lx.wgt], by decide⟩
  case round =>
    obtain ⟨k, m, hk, rfl, rfl, hm, hm2⟩ := hrel
    have HM := hide hm
    clear hm
    by_cases hlt : k < n
    · by_cases h3 : m ≤ 3000
      · obtain ⟨t, ht⟩ : ∃ t, l[k]? = some t := ⟨_, List.getElem?_eq_getElem (by have := unhide HN; omega)⟩
        obtain ⟨b, o, rfl, _, hc⟩ := (unhide HA).at_ (List.ne_nil_of_length_pos (by have := unhide HN; omega))
        obtain ⟨c0, c1, c2⟩ := hc k t ht
        have hts := (unhide HS) t (List.mem_of_getElem? ht)
        have hns := List.take_add_one (l := l) (i := k)
        rw [ht] at hns
        have hws : Lx.wgt (l.take (k + 1)) = m + 1 + t.t.size := by
          rw [show l.take (k + 1) = l.take k ++ [t] from hns, wgt_snoc, ← unhide HM]; omega
        have HWS := hide hws
        obtain ⟨tk, ts, ta⟩ := t
        simp only at c0 c1 c2 hts HWS
        clear hc hns hws ht
        go_wp2_with fail
        go_round
        case rel => exact ⟨k + 1, m + 1 + ts.size, by omega, by go_num, by go_num, (unhide HWS).symm, by omega⟩
        case measure => simp [intOf] <;> omega
      · have hfin : decide (Lx.wgt l ≤ 3000) = false := by
          rw [decide_eq_false_iff_not]
          have := Lx.wgt_take l k
          have := unhide HM
          omega
        have HF := hide hfin
        have h3' : ¬ (m : Int) ≤ 3000 := by omega
        clear hfin
        go_wp2_with fail
        go_ret
        exact ⟨retB (unhide HF).symm, rfl⟩
    · have hfin : decide (Lx.wgt l ≤ 3000) = decide ((m : Int) ≤ 3000) := by
        have := unhide HM
        rw [List.take_of_length_le (by have := unhide HN; omega)] at this
        rw [decide_eq_decide]
        omega
      have HF := hide hfin
      clear hfin
      go_wp2_with fail
      go_ret
      exact ⟨retB (unhide HF).symm, rfl⟩
end Go.Proofs.YtjppjbkndfbnhaaDoor
