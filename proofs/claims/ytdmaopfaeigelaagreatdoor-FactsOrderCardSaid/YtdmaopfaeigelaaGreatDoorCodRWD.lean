/- Contracts over the codec's program, each for every input under its hypotheses: isIncreasing, fitsKind. Contracts over the codec's program, each for every value: isWellFormed, depth, Check. Contracts over the codec's program, each for every value that is not nested too deeply: depth, Check. -/
import Derived.Test.YtdmaopfaeigelaaGreatDoorCodVal
import Derived.Laws.Cover1
import Derived.IntWalk
namespace Go.Proofs.YtdmaopfaeigelaaGreatDoor
set_option linter.unusedSimpArgs false
set_option linter.unusedVariables false
open Go.RowKit

def ltB (a b : ByteArray) : Bool := Op.bytesLess a.toList b.toList
def incrTo (ks : List ByteArray) : Nat → Bool
  | 0 => true
  | k + 1 => incrTo ks k && ltB (ks.getD k ByteArray.empty) (ks.getD (k + 1) ByteArray.empty)
def incrB (ks : List ByteArray) : Bool := incrTo ks (ks.length - 1)
theorem incrTo_false {ks : List ByteArray} {k : Nat} (h : incrTo ks k = false) : ∀ m, k ≤ m → incrTo ks m = false := by
  intro m hm
  induction m with
  | zero =>
    obtain rfl : k = 0 := by omega
    exact h
  | succ m ih =>
    by_cases e : k = m + 1
    · exact e ▸ h
    · simp only [incrTo, ih (by omega), Bool.false_and]

theorem StrsAt.row {w : World} {A : Option Addr} {ks : List ByteArray} (h : StrsAt w A ks) (h0 : 0 < ks.length) :
    ∃ b o, A = some ⟨b, o, none⟩ ∧ b < w.heap.size ∧ ∀ i s, ks[i]? = some s → w.cell? ⟨b, o + i, none⟩ = some (.string s) := by
  obtain ⟨b, o, rfl, hc, _⟩ := h 0 _ (List.getElem?_eq_getElem h0)
  refine ⟨b, o, rfl, World.block_lt_of_cell? w _ hc, fun i s hs => ?_⟩
  obtain ⟨b', o', e, hc', _⟩ := h i s hs
  injection e with e
  injection e with e1 e2
  subst e1 e2
  exact hc'

theorem incr_short (A : Option Addr) (n c : Nat) (w : World) (hn : n ≤ 1) :
    Calls Tryz.prog 245 #[.slice A n c] w fun e w' => e = .returned (.bool true) ∧ w' = w := by
  have hd : decide ((1 : Int) < (n : Int)) = false := decide_eq_false (by omega)
  go_enter Tryz.func245, Tryz.ntmps245
  go_wp2
  go_loop [3] (fun i => i = .int .i64 1) (fun _ => 0)
  case atStart => rfl
  case round =>
    subst hrel
    go_wp2
    go_ret
    exact ⟨rfl, rfl⟩

set_option maxHeartbeats 1000000 in
theorem incr_rows (b o c n : Nat) (ks : List ByteArray) (w : World) (hl : ks.length = n) (h1 : 1 < n) (hn : n ≤ 140737488351232)
    (h : ∀ i s, ks[i]? = some s → w.cell? ⟨b, o + i, none⟩ = some (.string s)) :
    Calls Tryz.prog 245 #[.slice (some ⟨b, o, none⟩) n c] w fun e w' => e = .returned (.bool (incrB ks)) ∧ ∃ q, w' = w.drewN q := by
  have HL := hide hl; have H := hide h; clear hl h
  go_enter Tryz.func245, Tryz.ntmps245
  go_wp2
  go_loopw [3] (fun i wr => ∃ k : Nat, k + 1 ≤ n ∧ i = .int .i64 ((k + 1 : Nat) : Int) ∧ incrTo ks k = true ∧ ∃ q, wr = w.drewN q) (fun i _ => n - (intOf i).toNat)
  case atStart => exact ⟨0, by omega, rfl, rfl, 0, rfl⟩
  case round =>
    obtain ⟨k, hk, rfl, htk, q, rfl⟩ := hrel
    have HT := hide htk; clear htk
    by_cases hlt : k + 1 < n
    · obtain ⟨s0, hs0⟩ : ∃ x, ks[k]? = some x := ⟨_, List.getElem?_eq_getElem (by rw [unhide HL]; omega)⟩
      obtain ⟨s1, hs1⟩ : ∃ x, ks[k + 1]? = some x := ⟨_, List.getElem?_eq_getElem (by rw [unhide HL]; omega)⟩
      have c0 := (unhide H) k s0 hs0
      have c1 := (unhide H) (k + 1) s1 hs1
      have hstep : incrTo ks (k + 1) = ltB s0 s1 := by simp [incrTo, unhide HT, List.getD, hs0, hs1]
      have HS := hide hstep
      clear hs0 hs1 hstep
      have hk0 : (0 : Int) ≤ (k : Int) := Int.natCast_nonneg _
      cases hb : ltB s0 s1
      · have hb2 : Op.bytesLess s0.toList s1.toList = false := hb
        have HB := hide hb; clear hb
        go_wp2_with fail
        go_quiet (fail)
        go_wp2_with fail
        go_ret
        exact ⟨retB (incrTo_false ((unhide HS).trans (unhide HB)) _ (by rw [unhide HL]; omega)).symm, _, World.drewN_drewN _ _ _⟩
      · have hb2 : Op.bytesLess s0.toList s1.toList = true := hb
        have HB := hide hb; clear hb
        go_wp2_with fail
        go_quiet (fail)
        go_wp2_with fail
        go_roundw
        case rel => exact ⟨k + 1, by omega, by go_num, (unhide HS).trans (unhide HB), _, rfl⟩
        case measure => simp [intOf]; omega
    · have hkn : n = k + 1 := by omega
      have HK := hide hkn
      go_wp2_with fail
      go_ret
      exact ⟨retB (show incrB ks = true from by unfold incrB; rw [unhide HL, unhide HK]; exact unhide HT).symm, _, rfl⟩

theorem cincr_any (A : Option Addr) (c : Nat) (ks : List ByteArray) (w : World) (h : StrsAt w A ks) (hn : ks.length ≤ 140737488351232) :
    Calls Tryz.prog 245 #[.slice A ks.length c] w fun e w' => e = .returned (.bool (incrB ks)) ∧ ∃ q, w' = w.drewN q := by
  by_cases h1 : 1 < ks.length
  · obtain ⟨b, o, rfl, _, hr⟩ := h.row (by omega)
    exact incr_rows b o c ks.length ks w rfl h1 hn hr
  · refine (incr_short A ks.length c w (by omega)).mono ?_
    rintro e w' ⟨rfl, rfl⟩
    refine ⟨?_, 0, rfl⟩
    have : ks.length - 1 = 0 := by omega
    simp [incrB, this, incrTo]

abbrev vaV (k n : Int) (s : ByteArray) (A : Option Addr) (l c : Nat) (A' : Option Addr) (l' c' : Nat) : Value := .agg #[.int .i64 k, .int .i64 n, .string s, .slice A l c, .slice A' l' c']

/-- do the fields fit the kind (apart from the elements) -/
def fitsB (k n : Int) (s : ByteArray) (l l' : Nat) (inc : Bool) : Bool :=
  if k = 1 then s.toList.isEmpty && decide (l = 0) && decide (l' = 0)
  else if k = 2 then decide (n = 0) && decide (l = 0) && decide (l' = 0)
  else if k = 3 then decide (n = 0) && s.toList.isEmpty && decide (l' = 0)
  else if k = 4 then decide (n = 0) && s.toList.isEmpty && decide (l' = l) && inc
  else false

set_option maxHeartbeats 1000000 in
theorem fits_any (k n : Int) (s : ByteArray) (A : Option Addr) (l c : Nat) (A' : Option Addr) (l' c' : Nat) (inc : Bool) (w : World) (hl : l ≤ 140737488351232) (hl' : l' ≤ 140737488351232)
    (HI : Hid (∀ W, Below w.heap.size w W → Calls Tryz.prog 245 #[.slice A' l' c'] W fun e w' => e = .returned (.bool inc) ∧ ∃ q, w' = W.drewN q)) :
    Calls Tryz.prog 200 #[vaV k n s A l c A' l' c'] w fun e w' => e = .returned (.bool (fitsB k n s l l' inc)) ∧ Below w.heap.size w w' := by
  by_cases h1 : k = 1
  · subst h1
    go_enter Tryz.func200, Tryz.ntmps200
    go_wp2_with fail
    all_goals
      go_ret
      exact ⟨retB (by rw [Bool.eq_iff_iff]; simp [fitsB, *] <;> omega), by go_grown⟩
  by_cases h2 : k = 2
  · subst h2
    go_enter Tryz.func200, Tryz.ntmps200
    go_wp2_with fail
    all_goals
      go_ret
      exact ⟨retB (by rw [Bool.eq_iff_iff]; simp [fitsB, *] <;> omega), by go_grown⟩
  by_cases h3 : k = 3
  · subst h3
    go_enter Tryz.func200, Tryz.ntmps200
    go_wp2_with fail
    all_goals
      go_ret
      exact ⟨retB (by rw [Bool.eq_iff_iff]; simp [fitsB, *] <;> omega), by go_grown⟩
  by_cases h4 : k = 4
  · subst h4
    go_enter Tryz.func200, Tryz.ntmps200
    go_wp2_with (go_at_call 245; refine ((unhide HI) _ (by go_grown)).mono ?_; rintro e w' ⟨rfl, q, rfl⟩)
    all_goals
      go_ret
      exact ⟨retB (by rw [Bool.eq_iff_iff]; simp [fitsB, *] <;> omega), by first | exact belowDrewN _ ((Below.refl _ _).alloc (Nat.le_refl _) _) | go_grown⟩
  · go_enter Tryz.func200, Tryz.ntmps200
    go_wp2_with fail
    all_goals
      go_ret
      exact ⟨retB (by simp [fitsB, *]), by go_grown⟩
end Go.Proofs.YtdmaopfaeigelaaGreatDoor
namespace Go.Proofs.YtdmaopfaeigelaaGreatDoor
set_option linter.unusedSimpArgs false
set_option linter.unusedVariables false
open Go.RowKit

/-- the elements at A -/
def ElsAt (w : World) (A : Option Addr) (l : List Va) : Prop :=
  ∀ i x, l[i]? = some x → ∃ b o k n s A1 m c A2 m' c', A = some ⟨b, o, none⟩ ∧ w.cell? ⟨b, o + i * 5, none⟩ = some (.int .i64 k) ∧ w.cell? ⟨b, o + i * 5 + 1, none⟩ = some (.int .i64 n) ∧
    w.cell? ⟨b, o + i * 5 + 2, none⟩ = some (.string s) ∧ w.cell? ⟨b, o + i * 5 + 3, none⟩ = some (.slice A1 m c) ∧ w.cell? ⟨b, o + i * 5 + 4, none⟩ = some (.slice A2 m' c') ∧ VAt w x (vaV k n s A1 m c A2 m' c')

theorem VAt.open {w : World} {V : Va} {v : Value} (h : VAt w V v) : ∃ k n s l ks A c A' c', V = .mk k n s l ks ∧ v = vaV k n s A l.length c A' ks.length c' ∧ I64 k ∧ I64 n ∧ s.size ≤ 140737488351232 ∧
    l.length ≤ 140737488351232 ∧ ks.length ≤ 140737488351232 ∧ (A = none → c = 0) ∧ (A' = none → c' = 0) ∧ ElsAt w A l ∧ StrsAt w A' ks := by
  cases h with
  | mk k n s l ks A c A' c' hk hn hs hl hks hA hA' hcp b o vv h5 hat hkat =>
    refine ⟨k, n, s, l, ks, A, c, A', c', rfl, rfl, hk, hn, hs, hl, hks, hA, hA', fun i x hx => ?_, hkat⟩
    obtain ⟨hA, x0, x1, x2, x3, x4, he, c0, c1, c2, c3, c4⟩ := h5 i (List.getElem?_eq_some_iff.1 hx).1
    have hv := hat i x hx
    rw [he] at hv
    cases hv
    exact ⟨b, o, _, _, _, _, _, _, _, _, _, hA, c0, c1, c2, c3, c4, by have h := hat i _ hx; rw [he] at h; exact h⟩

theorem ElsAt.row {w : World} {A : Option Addr} {l : List Va} (h : ElsAt w A l) (h0 : 0 < l.length) :
    ∃ b o, A = some ⟨b, o, none⟩ ∧ b < w.heap.size ∧ ∀ i x, l[i]? = some x → ∃ k n s A1 m c A2 m' c', w.cell? ⟨b, o + i * 5, none⟩ = some (.int .i64 k) ∧ w.cell? ⟨b, o + i * 5 + 1, none⟩ = some (.int .i64 n) ∧
      w.cell? ⟨b, o + i * 5 + 2, none⟩ = some (.string s) ∧ w.cell? ⟨b, o + i * 5 + 3, none⟩ = some (.slice A1 m c) ∧ w.cell? ⟨b, o + i * 5 + 4, none⟩ = some (.slice A2 m' c') ∧ VAt w x (vaV k n s A1 m c A2 m' c') := by
  obtain ⟨b, o, _, _, _, _, _, _, _, _, _, rfl, hc, _⟩ := h 0 _ (List.getElem?_eq_getElem h0)
  refine ⟨b, o, rfl, World.block_lt_of_cell? w _ hc, fun i x hx => ?_⟩
  obtain ⟨b', o', k, n, s, A1, m, c, A2, m', c', e, r⟩ := h i x hx
  injection e with e
  injection e with e1 e2
  subst e1 e2
  exact ⟨k, n, s, A1, m, c, A2, m', c', r⟩

mutual
def Va.wf : Va → Bool
  | .mk k n s l ks => fitsB k n s l.length ks.length (incrB ks) && wfAll l
def wfAll : List Va → Bool
  | [] => true
  | x :: r => x.wf && wfAll r
end
theorem wfAll_take {l : List Va} {i : Nat} {x : Va} (h : l[i]? = some x) : wfAll (l.take (i + 1)) = (wfAll (l.take i) && x.wf) := by
  induction l generalizing i with
  | nil => simp at h
  | cons y r ih =>
    cases i with
    | zero => simp at h; subst h; simp [wfAll]
    | succ i => simp only [List.take_succ_cons, wfAll, ih (by simpa using h), Bool.and_assoc]
theorem wfAll_false {l : List Va} {i : Nat} (h : wfAll (l.take i) = false) : wfAll l = false := by
  induction l generalizing i with
  | nil => simp [wfAll] at h
  | cons y r ih =>
    cases i with
    | zero => simp [wfAll] at h
    | succ i =>
      simp only [List.take_succ_cons, wfAll, Bool.and_eq_false_iff] at h ⊢
      exact h.imp id ih
mutual
def Va.sz : Va → Nat
  | .mk _ _ _ l _ => szAll l + 1
def szAll : List Va → Nat
  | [] => 0
  | x :: r => x.sz + szAll r
end
theorem szAll_mem {l : List Va} {i : Nat} {x : Va} (hx : l[i]? = some x) : x.sz ≤ szAll l := by
  induction l generalizing i with
  | nil => simp at hx
  | cons y r ih =>
    simp only [szAll]
    cases i with
    | zero => simp at hx; subst hx; omega
    | succ i => have := ih (by simpa using hx); omega
theorem sz_mem {k n : Int} {s : ByteArray} {l : List Va} {ks : List ByteArray} {N i : Nat} {x : Va} (h : Va.sz (Va.mk k n s l ks) ≤ N + 1) (hx : l[i]? = some x) : x.sz ≤ N := by
  have h1 := szAll_mem hx
  simp only [Va.sz] at h
  omega
theorem sz_pos (V : Va) : 0 < V.sz := by
  cases V
  simp only [Va.sz]
  omega

abbrev WfIs (N : Nat) : Prop := ∀ (V : Va), V.sz ≤ N → ∀ v w, VAt w V v → Calls Tryz.prog 141 #[v] w fun e w' => e = .returned (.bool V.wf) ∧ Below w.heap.size w w'

set_option maxHeartbeats 2000000 in
theorem wf_step (N : Nat) (ih : Hid (WfIs N)) (k n : Int) (s : ByteArray) (l : List Va) (ks : List ByteArray) (A : Option Addr) (c : Nat) (A' : Option Addr) (c' : Nat) (m m' : Nat) (w : World)
    (HN : Hid (Va.sz (Va.mk k n s l ks) ≤ N + 1)) (hm : m ≤ 140737488351232) (hm' : m' ≤ 140737488351232) (HL : Hid (l.length = m)) (HK : Hid (ks.length = m')) (HE : Hid (ElsAt w A l)) (HS : Hid (StrsAt w A' ks)) :
    Calls Tryz.prog 141 #[vaV k n s A m c A' m' c'] w fun e w' => e = .returned (.bool (Va.wf (.mk k n s l ks))) ∧ Below w.heap.size w w' := by
  have HI : Hid (∀ W, Below w.heap.size w W → Calls Tryz.prog 245 #[.slice A' m' c'] W fun e w' => e = .returned (.bool (incrB ks)) ∧ ∃ q, w' = W.drewN q) := fun W hW =>
    (unhide HK) ▸ cincr_any A' c' ks W ((unhide HS).below hW) (by rw [unhide HK]; exact hm')
  have hF := fun (W : World) (hW : Below w.heap.size w W) => fits_any k n s A m c A' m' c' (incrB ks) W hm hm' (fun W' hW' => (unhide HI) W' (thenB hW hW'))
  cases hf : fitsB k n s m m' (incrB ks)
  · have hwf : Va.wf (.mk k n s l ks) = false := by simp only [Va.wf, unhide HL, unhide HK, hf, Bool.false_and]
    rw [hwf]
    rw [hf] at hF
    have HF := hide hF; clear hF hf hwf
    go_enter Tryz.func141, Tryz.ntmps141
    go_wp2_with (go_at_call 200; refine ((unhide HF) _ (by go_grown)).mono ?_; rintro e w1 ⟨rfl, hb1⟩)
    go_ret
    exact ⟨rfl, advB (Below.refl _ _) hb1⟩
  · have hwf : Va.wf (.mk k n s l ks) = wfAll l := by simp only [Va.wf, unhide HL, unhide HK, hf, Bool.true_and]
    rw [hwf]
    rw [hf] at hF
    have HF := hide hF; clear hF hf hwf
    by_cases h0 : 0 < m
    · obtain ⟨b, o, rfl, hbw, hr⟩ := (unhide HE).row (by rw [unhide HL]; exact h0)
      have HR := hide hr; clear hr
      go_enter Tryz.func141, Tryz.ntmps141
      go_wp2_with (go_at_call 200; refine ((unhide HF) _ (by go_grown)).mono ?_; rintro e w1 ⟨rfl, hb1⟩; obtain ⟨hc, hf⟩ := oldCells hb1)
      have HB1 : Hid (Below w.heap.size w w1) := advB (Below.refl _ _) hb1
      clear hb1 hc hf
      go_loopw [11] (fun i wr => ∃ j : Nat, j ≤ m ∧ i = .int .i64 j ∧ wfAll (l.take j) = true ∧ Below w.heap.size w wr) (fun i _ => m - (intOf i).toNat)
      case atStart => exact ⟨0, Nat.zero_le _, rfl, rfl, unhide HB1⟩
      case round =>
        obtain ⟨j, hj, rfl, htk, hb⟩ := hrel
        have HT := hide htk; have HB := hide hb; clear htk hb
        by_cases hlt : j < m
        · obtain ⟨x, hx⟩ : ∃ x, l[j]? = some x := ⟨_, List.getElem?_eq_getElem (by rw [unhide HL]; exact hlt)⟩
          obtain ⟨k1, n1, s1, A1, m1, c1, A2, m2, c2, d0, d1, d2, d3, d4, hv⟩ := (unhide HR) j x hx
          rw [← (unhide HB).cell (p := ⟨b, o + j * 5, none⟩) hbw] at d0
          rw [← (unhide HB).cell (p := ⟨b, o + j * 5 + 1, none⟩) hbw] at d1
          rw [← (unhide HB).cell (p := ⟨b, o + j * 5 + 2, none⟩) hbw] at d2
          rw [← (unhide HB).cell (p := ⟨b, o + j * 5 + 3, none⟩) hbw] at d3
          rw [← (unhide HB).cell (p := ⟨b, o + j * 5 + 4, none⟩) hbw] at d4
          have hW := fun (W : World) (hW : Below wr.heap.size wr W) => (unhide ih) x (sz_mem (unhide HN) hx) _ W ((hv.later (unhide HB)).later hW)
          have hst := wfAll_take hx
          rw [unhide HT, Bool.true_and] at hst
          cases hq : x.wf
          · rw [hq] at hW hst
            have HW := hide hW; have HST := hide hst; clear hW hst hq hx hv
            go_wp2_with (go_at_call 141; refine ((unhide HW) _ (by go_grown)).mono ?_; rintro e w2 ⟨rfl, hb2⟩)
            go_ret
            exact ⟨retB (wfAll_false (unhide HST)).symm, advB (unhide HB) hb2⟩
          · rw [hq] at hW hst
            have HW := hide hW; have HST := hide hst; clear hW hst hq hx hv
            go_wp2_with (go_at_call 141; refine ((unhide HW) _ (by go_grown)).mono ?_; rintro e w2 ⟨rfl, hb2⟩)
            go_roundw
            case rel => exact ⟨j + 1, by omega, by go_num, unhide HST, advB (unhide HB) hb2⟩
            case measure => simp [intOf]; omega
        · go_wp2_with fail
          go_ret
          have : l.take j = l := List.take_of_length_le (by rw [unhide HL]; omega)
          exact ⟨retB (this ▸ unhide HT).symm, unhide HB⟩
    · have e0 : l = [] := List.length_eq_zero_iff.1 (by rw [unhide HL]; omega)
      obtain rfl : m = 0 := by omega
      subst e0
      go_enter Tryz.func141, Tryz.ntmps141
      go_wp2_with (go_at_call 200; refine ((unhide HF) _ (by go_grown)).mono ?_; rintro e w1 ⟨rfl, hb1⟩; obtain ⟨hc, hf⟩ := oldCells hb1)
      have HB1 : Hid (Below w.heap.size w w1) := advB (Below.refl _ _) hb1
      clear hb1 hc hf
      go_loopw [11] (fun i wr => i = .int .i64 0 ∧ wr = w1) (fun _ _ => 0)
      case atStart => exact ⟨rfl, rfl⟩
      case round =>
        obtain ⟨rfl, rfl⟩ := hrel
        go_wp2_with fail
        go_ret
        exact ⟨rfl, unhide HB1⟩

theorem wf_all (N : Nat) : WfIs N := by
  induction N with
  | zero => intro V hV; have := sz_pos V; omega
  | succ N ih =>
    intro V hV v w h
    obtain ⟨k, n, s, l, ks, A, c, A', c', rfl, rfl, _, _, _, h1, h2, _, _, hE, hS⟩ := h.open
    exact wf_step N ih k n s l ks A c A' c' l.length ks.length w hV h1 h2 rfl rfl hE hS
theorem wf_any (V : Va) (v : Value) (w : World) (h : VAt w V v) : Calls Tryz.prog 141 #[v] w fun e w' => e = .returned (.bool V.wf) ∧ Below w.heap.size w w' := wf_all V.sz V (Nat.le_refl _) v w h
end Go.Proofs.YtdmaopfaeigelaaGreatDoor
namespace Go.Proofs.YtdmaopfaeigelaaGreatDoor
set_option linter.unusedSimpArgs false
set_option linter.unusedVariables false
open Go.RowKit

mutual
def Va.dep : Va → Nat
  | .mk k _ _ l _ => if k = 1 ∨ k = 2 then 0 else depAll l + 1
def depAll : List Va → Nat
  | [] => 0
  | x :: r => max x.dep (depAll r)
end
mutual
def Va.nest : Va → Nat
  | .mk _ _ _ l _ => nestAll l + 1
def nestAll : List Va → Nat
  | [] => 0
  | x :: r => max x.nest (nestAll r)
end
theorem depAll_take {l : List Va} {i : Nat} {x : Va} (h : l[i]? = some x) : depAll (l.take (i + 1)) = max (depAll (l.take i)) x.dep := by
  induction l generalizing i with
  | nil => simp at h
  | cons y r ih =>
    cases i with
    | zero => simp at h; subst h; simp [depAll]
    | succ i => simp only [List.take_succ_cons, depAll, ih (by simpa using h), Nat.max_assoc]
theorem nest_mem {l : List Va} {i : Nat} {x : Va} (hx : l[i]? = some x) : x.nest ≤ nestAll l := by
  induction l generalizing i with
  | nil => simp at hx
  | cons y r ih =>
    simp only [nestAll]
    cases i with
    | zero => simp at hx; subst hx; exact Nat.le_max_left _ _
    | succ i => exact Nat.le_trans (ih (by simpa using hx)) (Nat.le_max_right _ _)
mutual
theorem dep_nest : (V : Va) → V.dep ≤ V.nest
  | .mk k n s l ks => by
    have := depAll_nest l
    simp only [Va.dep, Va.nest]
    split <;> omega
theorem depAll_nest : (l : List Va) → depAll l ≤ nestAll l
  | [] => Nat.le_refl _
  | x :: r => by
    have h1 := dep_nest x
    have h2 := depAll_nest r
    simp only [depAll, nestAll]
    omega
end

abbrev DepIs (N : Nat) : Prop := ∀ (V : Va), V.sz ≤ N → V.nest ≤ 1000 → ∀ v w, VAt w V v → Calls Tryz.prog 142 #[v] w fun e w' => e = .returned (.int .i64 (V.dep : Int)) ∧ Below w.heap.size w w'

set_option maxHeartbeats 2000000 in
theorem dep_step (N : Nat) (ih : Hid (DepIs N)) (k n : Int) (s : ByteArray) (l : List Va) (ks : List ByteArray) (A : Option Addr) (c : Nat) (A' : Option Addr) (c' : Nat) (m m' : Nat) (w : World)
    (HN : Hid (Va.sz (Va.mk k n s l ks) ≤ N + 1)) (HD : Hid (Va.nest (Va.mk k n s l ks) ≤ 1000)) (hm : m ≤ 140737488351232) (HL : Hid (l.length = m)) (HE : Hid (ElsAt w A l)) :
    Calls Tryz.prog 142 #[vaV k n s A m c A' m' c'] w fun e w' => e = .returned (.int .i64 (Va.dep (.mk k n s l ks) : Int)) ∧ Below w.heap.size w w' := by
  by_cases hk1 : k = 1
  · subst hk1
    go_enter Tryz.func142, Tryz.ntmps142
    go_wp2_with fail
    go_ret
    exact ⟨retI (by simp [Va.dep]), by go_grown⟩
  by_cases hk2 : k = 2
  · subst hk2
    go_enter Tryz.func142, Tryz.ntmps142
    go_wp2_with fail
    go_ret
    exact ⟨retI (by simp [Va.dep]), by go_grown⟩
  have hdv : Va.dep (.mk k n s l ks) = depAll l + 1 := by simp [Va.dep, hk1, hk2]
  have hbk1 : (k == 1) = false := by simpa using hk1
  have hbk2 : (k == 2) = false := by simpa using hk2
  rw [hdv]
  have hnl : nestAll l ≤ 1000 := by have := unhide HD; simp only [Va.nest] at this; omega
  have hdl := depAll_nest l
  by_cases h0 : 0 < m
  · obtain ⟨b, o, rfl, hbw, hr⟩ := (unhide HE).row (by rw [unhide HL]; exact h0)
    have HR := hide hr; have HV := hide hdv; clear hr hdv hk1 hk2
    go_enter Tryz.func142, Tryz.ntmps142
    go_wp2_with fail
    go_loopw [3, 17] (fun d i wr => ∃ j : Nat, j ≤ m ∧ i = .int .i64 j ∧ d = .int .i64 (depAll (l.take j) : Int) ∧ Below w.heap.size w wr) (fun _ i _ => m - (intOf i).toNat)
    case atStart => exact ⟨0, Nat.zero_le _, rfl, rfl, by go_grown⟩
    case round =>
      obtain ⟨j, hj, rfl, rfl, hb⟩ := hrel
      have HB := hide hb; clear hb
      by_cases hlt : j < m
      · obtain ⟨x, hx⟩ : ∃ x, l[j]? = some x := ⟨_, List.getElem?_eq_getElem (by rw [unhide HL]; exact hlt)⟩
        obtain ⟨k1, n1, s1, A1, m1, c1, A2, m2, c2, d0, d1, d2, d3, d4, hv⟩ := (unhide HR) j x hx
        rw [← (unhide HB).cell (p := ⟨b, o + j * 5, none⟩) hbw] at d0
        rw [← (unhide HB).cell (p := ⟨b, o + j * 5 + 1, none⟩) hbw] at d1
        rw [← (unhide HB).cell (p := ⟨b, o + j * 5 + 2, none⟩) hbw] at d2
        rw [← (unhide HB).cell (p := ⟨b, o + j * 5 + 3, none⟩) hbw] at d3
        rw [← (unhide HB).cell (p := ⟨b, o + j * 5 + 4, none⟩) hbw] at d4
        have hxn := nest_mem hx
        have hW := fun (W : World) (hW : Below wr.heap.size wr W) => (unhide ih) x (sz_mem (unhide HN) hx) (by omega) _ W ((hv.later (unhide HB)).later hW)
        have hst := depAll_take hx
        have hxd := dep_nest x
        generalize x.dep = dx at hW hst hxd
        generalize hdj : depAll (l.take j) = dj at hst ⊢
        have HDJ := hide hdj
        have HW := hide hW; have HST := hide hst; clear hW hst hx hv hdj
        by_cases hcm : dj < dx
        · go_wp2_with (go_at_call 142; refine ((unhide HW) _ (by go_grown)).mono ?_; rintro e w2 ⟨rfl, hb2⟩; have HB2 := hide hb2; clear hb2)
          go_roundw
          case rel => exact ⟨j + 1, by omega, by go_num, by rw [unhide HST, Nat.max_eq_right (by omega)], advB (unhide HB) (unhide HB2)⟩
          case measure => simp [intOf]; omega
        · go_wp2_with (go_at_call 142; refine ((unhide HW) _ (by go_grown)).mono ?_; rintro e w2 ⟨rfl, hb2⟩; have HB2 := hide hb2; clear hb2)
          go_roundw
          case rel => exact ⟨j + 1, by omega, by go_num, by rw [unhide HST, Nat.max_eq_left (by omega)], advB (unhide HB) (unhide HB2)⟩
          case measure => simp [intOf]; omega
      · have htl : l.take j = l := List.take_of_length_le (by rw [unhide HL]; omega)
        rw [htl]
        generalize hdl2 : depAll l = dl at hdl ⊢
        have HDL := hide hdl2
        clear htl hdl2
        go_wp2_with fail
        go_ret
        exact ⟨retI (by have := unhide HDL; omega), unhide HB⟩
  · have e0 : l = [] := List.length_eq_zero_iff.1 (by rw [unhide HL]; omega)
    obtain rfl : m = 0 := by omega
    subst e0
    clear hdv hk1 hk2
    go_enter Tryz.func142, Tryz.ntmps142
    go_wp2_with fail
    go_loopw [3, 17] (fun d i wr => d = .int .i64 0 ∧ i = .int .i64 0 ∧ Below w.heap.size w wr) (fun _ _ _ => 0)
    case atStart => exact ⟨rfl, rfl, by go_grown⟩
    case round =>
      obtain ⟨rfl, rfl, hb⟩ := hrel
      go_wp2_with fail
      go_ret
      exact ⟨rfl, hb⟩

theorem dep_all (N : Nat) : DepIs N := by
  induction N with
  | zero => intro V hV; have := sz_pos V; omega
  | succ N ih =>
    intro V hV hn v w h
    obtain ⟨k, n, s, l, ks, A, c, A', c', rfl, rfl, _, _, _, h1, h2, _, _, hE, hS⟩ := h.open
    exact dep_step N ih k n s l ks A c A' c' l.length ks.length w hV hn h1 rfl hE
theorem dep_any (V : Va) (hn : V.nest ≤ 1000) (v : Value) (w : World) (h : VAt w V v) : Calls Tryz.prog 142 #[v] w fun e w' => e = .returned (.int .i64 (V.dep : Int)) ∧ Below w.heap.size w w' := dep_all V.sz V (Nat.le_refl _) hn v w h

def chkE (V : Va) : Int := if V.wf then (if V.dep ≤ 16 then 0 else 2) else 1

set_option maxHeartbeats 1000000 in
theorem check_any (V : Va) (hn : V.nest ≤ 1000) (v : Value) (w : World) (h : VAt w V v) : Calls Tryz.prog 77 #[v] w fun e w' => e = .returned (.int .i64 (chkE V)) ∧ Below w.heap.size w w' := by
  have hw := fun (W : World) (hW : Below w.heap.size w W) => wf_any V v W (h.later hW)
  have hd := fun (W : World) (hW : Below w.heap.size w W) => dep_any V hn v W (h.later hW)
  obtain ⟨k, n, s, l, ks, A, c, A', c', hV, rfl, _⟩ := h.open
  have hdn := dep_nest V
  cases hwf : V.wf
  · rw [hwf] at hw
    have he : chkE V = 1 := by simp [chkE, hwf]
    rw [he]
    have HW := hide hw; clear hw he hwf hd
    go_enter Tryz.func77, Tryz.ntmps77
    go_wp2_with (go_at_call 141; refine ((unhide HW) _ (by go_grown)).mono ?_; rintro e w1 ⟨rfl, hb1⟩)
    go_ret
    exact ⟨rfl, advB (Below.refl _ _) hb1⟩
  · rw [hwf] at hw
    have he : chkE V = if V.dep ≤ 16 then 0 else 2 := by simp [chkE, hwf]
    rw [he]
    generalize V.dep = d at hd hdn ⊢
    have HW := hide hw; have HD := hide hd; clear hw he hwf hd
    by_cases h16 : d ≤ 16
    · rw [if_pos h16]
      have hdc : decide ((16 : Int) < (d : Int)) = false := decide_eq_false (by omega)
      go_enter Tryz.func77, Tryz.ntmps77
      go_wp2_with (go_at_call 141; refine ((unhide HW) _ (by go_grown)).mono ?_; rintro e w1 ⟨rfl, hb1⟩; obtain ⟨hc, hf⟩ := oldCells hb1; have hz : w.heap.size < w1.heap.size := by have := hb1.size; simp at this; omega)
      have HB := hide (advB (Below.refl _ _) hb1)
      clear hb1
      go_wp2_with (go_at_call 142; refine ((unhide HD) _ (unhide HB)).mono ?_; rintro e w2 ⟨rfl, hb2⟩)
      go_ret
      exact ⟨rfl, thenB (unhide HB) hb2⟩
    · rw [if_neg h16]
      have hdc : decide ((16 : Int) < (d : Int)) = true := decide_eq_true (by omega)
      go_enter Tryz.func77, Tryz.ntmps77
      go_wp2_with (go_at_call 141; refine ((unhide HW) _ (by go_grown)).mono ?_; rintro e w1 ⟨rfl, hb1⟩; obtain ⟨hc, hf⟩ := oldCells hb1; have hz : w.heap.size < w1.heap.size := by have := hb1.size; simp at this; omega)
      have HB := hide (advB (Below.refl _ _) hb1)
      clear hb1
      go_wp2_with (go_at_call 142; refine ((unhide HD) _ (unhide HB)).mono ?_; rintro e w2 ⟨rfl, hb2⟩)
      go_ret
      exact ⟨rfl, thenB (unhide HB) hb2⟩
end Go.Proofs.YtdmaopfaeigelaaGreatDoor
