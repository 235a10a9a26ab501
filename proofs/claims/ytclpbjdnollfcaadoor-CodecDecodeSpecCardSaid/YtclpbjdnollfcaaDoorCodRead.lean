/- Contracts over the codec's program, each for every input under its hypotheses: isIncreasing, fitsKind. -/
import Derived.Test.YtclpbjdnollfcaaDoorCodVal
import Derived.Laws.Cover1
import Derived.IntWalk
namespace Go.Proofs.YtclpbjdnollfcaaDoor
set_option linter.unusedSimpArgs false
set_option linter.unusedVariables false
open Go.RowKit

def ltB (a b : ByteArray) : Bool := Op.bytesLess a.toList b.toList
def incrTo (ks : List ByteArray) : Nat → Bool
  | 0 => true
  | k + 1 => incrTo ks k && ltB (ks.getD k ByteArray.empty) (ks.getD (k + 1) ByteArray.empty)
def incrB (ks : List ByteArray) : Bool := incrTo ks (ks.length - 1)
theorem incrTo_false {ks : List ByteArray} {k : Nat} (h : incrTo ks k = false) : ∀ m, k ≤ m → incrTo ks m = false := by
  intro m hm
  induction m with
  | zero =>
    obtain rfl : k = 0 := by omega
    exact h
  | succ m ih =>
    by_cases e : k = m + 1
    · exact e ▸ h
    · simp only [incrTo, ih (by omega), Bool.false_and]

theorem StrsAt.row {w : World} {A : Option Addr} {ks : List ByteArray} (h : StrsAt w A ks) (h0 : 0 < ks.length) :
    ∃ b o, A = some ⟨b, o, none⟩ ∧ b < w.heap.size ∧ ∀ i s, ks[i]? = some s → w.cell? ⟨b, o + i, none⟩ = some (.string s) := by
  obtain ⟨b, o, rfl, hc, _⟩ := h 0 _ (List.getElem?_eq_getElem h0)
  refine ⟨b, o, rfl, World.block_lt_of_cell? w _ hc, fun i s hs => ?_⟩
  obtain ⟨b', o', e, hc', _⟩ := h i s hs
  injection e with e
  injection e with e1 e2
  subst e1 e2
  exact hc'

theorem incr_short (A : Option Addr) (n c : Nat) (w : World) (hn : n ≤ 1) :
    Calls Tryd.prog 58 #[.slice A n c] w fun e w' => e = .returned (.bool true) ∧ w' = w := by
  have hd : decide ((1 : Int) < (n : Int)) = false := decide_eq_false (by omega)
  go_enter Tryd.func58, Tryd.ntmps58
  go_wp2
  go_loop [3] (fun i => i = .int .i64 1) (fun _ => 0)
  case atStart => rfl
  case round =>
    subst hrel
    go_wp2
    go_ret
    exact ⟨rfl, rfl⟩

set_option maxHeartbeats 1000000 in
theorem incr_rows (b o c n : Nat) (ks : List ByteArray) (w : World) (hl : ks.length = n) (h1 : 1 < n) (hn : n ≤ 140737488351232)
    (h : ∀ i s, ks[i]? = some s → w.cell? ⟨b, o + i, none⟩ = some (.string s)) :
    Calls Tryd.prog 58 #[.slice (some ⟨b, o, none⟩) n c] w fun e w' => e = .returned (.bool (incrB ks)) ∧ ∃ q, w' = w.drewN q := by
  have HL := hide hl; have H := hide h; clear hl h
  go_enter Tryd.func58, Tryd.ntmps58
  go_wp2
  go_loopw [3] (fun i wr => ∃ k : Nat, k + 1 ≤ n ∧ i = .int .i64 ((k + 1 : Nat) : Int) ∧ incrTo ks k = true ∧ ∃ q, wr = w.drewN q) (fun i _ => n - (intOf i).toNat)
  case atStart => exact ⟨0, by omega, rfl, rfl, 0, rfl⟩
  case round =>
    obtain ⟨k, hk, rfl, htk, q, rfl⟩ := hrel
    have HT := hide htk; clear htk
    by_cases hlt : k + 1 < n
    · obtain ⟨s0, hs0⟩ : ∃ x, ks[k]? = some x := ⟨_, List.getElem?_eq_getElem (by rw [unhide HL]; omega)⟩
      obtain ⟨s1, hs1⟩ : ∃ x, ks[k + 1]? = some x := ⟨_, List.getElem?_eq_getElem (by rw [unhide HL]; omega)⟩
      have c0 := (unhide H) k s0 hs0
      have c1 := (unhide H) (k + 1) s1 hs1
      have hstep : incrTo ks (k + 1) = ltB s0 s1 := by simp [incrTo, unhide HT, List.getD, hs0, hs1]
      have HS := hide hstep
      clear hs0 hs1 hstep
      have hk0 : (0 : Int) ≤ (k : Int) := Int.natCast_nonneg _
      cases hb : ltB s0 s1
      · have hb2 : Op.bytesLess s0.toList s1.toList = false := hb
        have HB := hide hb; clear hb
        go_wp2_with fail
        go_quiet (fail)
        go_wp2_with fail
        go_ret
        exact ⟨retB (incrTo_false ((unhide HS).trans (unhide HB)) _ (by rw [unhide HL]; omega)).symm, _, World.drewN_drewN _ _ _⟩
      · have hb2 : Op.bytesLess s0.toList s1.toList = true := hb
        have HB := hide hb; clear hb
        go_wp2_with fail
        go_quiet (fail)
        go_wp2_with fail
        go_roundw
        case rel => exact ⟨k + 1, by omega, by go_num, (unhide HS).trans (unhide HB), _, rfl⟩
        case measure => simp [intOf]; omega
    · have hkn : n = k + 1 := by omega
      have HK := hide hkn
      go_wp2_with fail
      go_ret
      exact ⟨retB (show incrB ks = true from by unfold incrB; rw [unhide HL, unhide HK]; exact unhide HT).symm, _, rfl⟩

theorem incr_any (A : Option Addr) (c : Nat) (ks : List ByteArray) (w : World) (h : StrsAt w A ks) (hn : ks.length ≤ 140737488351232) :
    Calls Tryd.prog 58 #[.slice A ks.length c] w fun e w' => e = .returned (.bool (incrB ks)) ∧ ∃ q, w' = w.drewN q := by
  by_cases h1 : 1 < ks.length
  · obtain ⟨b, o, rfl, _, hr⟩ := h.row (by omega)
    exact incr_rows b o c ks.length ks w rfl h1 hn hr
  · refine (incr_short A ks.length c w (by omega)).mono ?_
    rintro e w' ⟨rfl, rfl⟩
    refine ⟨?_, 0, rfl⟩
    have : ks.length - 1 = 0 := by omega
    simp [incrB, this, incrTo]

abbrev vaV (k n : Int) (s : ByteArray) (A : Option Addr) (l c : Nat) (A' : Option Addr) (l' c' : Nat) : Value := .agg #[.int .i64 k, .int .i64 n, .string s, .slice A l c, .slice A' l' c']

/-- do the fields fit the kind (apart from the elements) -/
def fitsB (k n : Int) (s : ByteArray) (l l' : Nat) (inc : Bool) : Bool :=
  if k = 1 then s.toList.isEmpty && decide (l = 0) && decide (l' = 0)
  else if k = 2 then decide (n = 0) && decide (l = 0) && decide (l' = 0)
  else if k = 3 then decide (n = 0) && s.toList.isEmpty && decide (l' = 0)
  else if k = 4 then decide (n = 0) && s.toList.isEmpty && decide (l' = l) && inc
  else false

set_option maxHeartbeats 1000000 in
theorem fits_any (k n : Int) (s : ByteArray) (A : Option Addr) (l c : Nat) (A' : Option Addr) (l' c' : Nat) (inc : Bool) (w : World) (hl : l ≤ 140737488351232) (hl' : l' ≤ 140737488351232)
    (HI : Hid (∀ W, Below w.heap.size w W → Calls Tryd.prog 58 #[.slice A' l' c'] W fun e w' => e = .returned (.bool inc) ∧ ∃ q, w' = W.drewN q)) :
    Calls Tryd.prog 45 #[vaV k n s A l c A' l' c'] w fun e w' => e = .returned (.bool (fitsB k n s l l' inc)) ∧ Below w.heap.size w w' := by
  by_cases h1 : k = 1
  · subst h1
    go_enter Tryd.func45, Tryd.ntmps45
    go_wp2_with fail
    all_goals
      go_ret
      exact ⟨retB (by rw [Bool.eq_iff_iff]; simp [fitsB, *] <;> omega), by go_grown⟩
  by_cases h2 : k = 2
  · subst h2
    go_enter Tryd.func45, Tryd.ntmps45
    go_wp2_with fail
    all_goals
      go_ret
      exact ⟨retB (by rw [Bool.eq_iff_iff]; simp [fitsB, *] <;> omega), by go_grown⟩
  by_cases h3 : k = 3
  · subst h3
    go_enter Tryd.func45, Tryd.ntmps45
    go_wp2_with fail
    all_goals
      go_ret
      exact ⟨retB (by rw [Bool.eq_iff_iff]; simp [fitsB, *] <;> omega), by go_grown⟩
  by_cases h4 : k = 4
  · subst h4
    go_enter Tryd.func45, Tryd.ntmps45
    go_wp2_with (go_at_call 58; refine ((unhide HI) _ (by go_grown)).mono ?_; rintro e w' ⟨rfl, q, rfl⟩)
    all_goals
      go_ret
      exact ⟨retB (by rw [Bool.eq_iff_iff]; simp [fitsB, *] <;> omega), by first | exact belowDrewN _ ((Below.refl _ _).alloc (Nat.le_refl _) _) | go_grown⟩
  · go_enter Tryd.func45, Tryd.ntmps45
    go_wp2_with fail
    all_goals
      go_ret
      exact ⟨retB (by simp [fitsB, *]), by go_grown⟩
end Go.Proofs.YtclpbjdnollfcaaDoor
