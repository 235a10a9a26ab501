/- Contracts over the calendar's program, each for every input under its hypotheses: Check and Meet. -/
import Derived.Test.YtbfpbmijmiljlaaDoorCalWalkD
namespace Go.Proofs.YtbfpbmijmiljlaaDoor
set_option linter.unusedSimpArgs false
set_option linter.unusedVariables false
open Go.RowKit

abbrev ivV (a b : Int) : Value := .agg #[.int .i64 a, .int .i64 b]

def ivOk (a b : Int) : Bool := CalM.isDay a && (CalM.isDay b && decide (a ≤ b))
def ivE (a b : Int) : Int := if ivOk a b then 0 else 10

theorem check_any (a b : Int) (w : World) :
    Calls Tryd.prog 23 #[ivV a b] w fun e w' => e = .returned (.int .i64 (ivE a b)) ∧ Below w.heap.size w w' := by
  cases ha : CalM.isDay a
  · have e : ivE a b = 10 := by simp [ivE, ivOk, ha]
    rw [e]
    clear e
    go_enter Tryd.func23, Tryd.ntmps23
    go_wp2_with (go_at_call 32; refine (isDay_any _ _).mono ?_; rintro e w' ⟨rfl, rfl⟩)
    go_ret
    exact ⟨rfl, by go_grown⟩
  · cases hb : CalM.isDay b
    · have e : ivE a b = 10 := by simp [ivE, ivOk, hb]
      rw [e]
      clear e
      go_enter Tryd.func23, Tryd.ntmps23
      go_wp2_with (go_at_call 32; refine (isDay_any _ _).mono ?_; rintro e w' ⟨rfl, rfl⟩)
      go_ret
      exact ⟨rfl, by go_grown⟩
    · by_cases hl : a ≤ b
      · have e : ivE a b = 0 := by simp [ivE, ivOk, ha, hb, hl]
        rw [e]
        clear e
        have hl' : decide (b < a) = false := by simpa using hl
        go_enter Tryd.func23, Tryd.ntmps23
        go_wp2_with (go_at_call 32; refine (isDay_any _ _).mono ?_; rintro e w' ⟨rfl, rfl⟩)
        go_ret
        exact ⟨rfl, by go_grown⟩
      · have e : ivE a b = 10 := by simp [ivE, ivOk, hl]
        rw [e]
        clear e
        have hl' : decide (b < a) = true := by simpa using hl
        go_enter Tryd.func23, Tryd.ntmps23
        go_wp2_with (go_at_call 32; refine (isDay_any _ _).mono ?_; rintro e w' ⟨rfl, rfl⟩)
        go_ret
        exact ⟨rfl, by go_grown⟩

theorem refCheck_any (a b : Int) (w : World) :
    Calls Tryd.prog 24 #[ivV a b] w fun e w' => e = .returned (.int .i64 (ivE a b)) ∧ Below w.heap.size w w' := by
  cases ha : CalM.isDay a
  · have e : ivE a b = 10 := by simp [ivE, ivOk, ha]
    rw [e]
    clear e
    go_enter Tryd.func24, Tryd.ntmps24
    go_wp2_with (go_at_call 34; refine (valid_any _ _).mono ?_; rintro e w' ⟨rfl, rfl⟩)
    go_ret
    exact ⟨rfl, by go_grown⟩
  · cases hb : CalM.isDay b
    · have e : ivE a b = 10 := by simp [ivE, ivOk, hb]
      rw [e]
      clear e
      go_enter Tryd.func24, Tryd.ntmps24
      go_wp2_with (go_at_call 34; refine (valid_any _ _).mono ?_; rintro e w' ⟨rfl, rfl⟩)
      go_ret
      exact ⟨rfl, by go_grown⟩
    · by_cases hl : a ≤ b
      · have e : ivE a b = 0 := by simp [ivE, ivOk, ha, hb, hl]
        rw [e]
        clear e
        have hl' : decide (b < a) = false := by simpa using hl
        go_enter Tryd.func24, Tryd.ntmps24
        go_wp2_with (go_at_call 34; refine (valid_any _ _).mono ?_; rintro e w' ⟨rfl, rfl⟩)
        go_ret
        exact ⟨rfl, by go_grown⟩
      · have e : ivE a b = 10 := by simp [ivE, ivOk, hl]
        rw [e]
        clear e
        have hl' : decide (b < a) = true := by simpa using hl
        go_enter Tryd.func24, Tryd.ntmps24
        go_wp2_with (go_at_call 34; refine (valid_any _ _).mono ?_; rintro e w' ⟨rfl, rfl⟩)
        go_ret
        exact ⟨rfl, by go_grown⟩

def mx (a c : Int) : Int := if a < c then c else a
def mn (b d : Int) : Int := if d < b then d else b
def meetV (a b c d : Int) : Value := .tuple #[ivV (mx a c) (mn b d), .bool true]
def meetB (a b c d : Int) : Bool := ivOk a b && (ivOk c d && decide (mx a c ≤ mn b d))
def meetR (a b c d : Int) : Value := if meetB a b c d then meetV a b c d else .tuple #[ivV 0 0, .bool false]
theorem ivE_t {a b : Int} (h : ivOk a b = true) : ivE a b = 0 := by simp [ivE, h]
theorem ivE_f {a b : Int} (h : ivOk a b = false) : ivE a b = 10 := by simp [ivE, h]

theorem belowSet4 {B : Nat} {a w : World} (h : Below B a w) {p q r s : Addr} (hp : B ≤ p.block) (hq : B ≤ q.block) (hr : B ≤ r.block) (hs : B ≤ s.block) (x y z t : Value) : Below B a ((((w.setCell p x).setCell q y).setCell r z).setCell s t) :=
  (((h.setCell hp x).setCell hq y).setCell hr z).setCell hs t
theorem thenB {W w1 w2 : World} (h1 : Below W.heap.size W w1) (h2 : Below w1.heap.size w1 w2) : Below W.heap.size W w2 := h1.trans (h2.mono h1.size)

set_option maxHeartbeats 1000000 in
theorem meet_f1 (a b c d : Int) (w : World) (h : ivOk a b = false) :
    Calls Tryd.prog 19 #[ivV a b, ivV c d] w fun e w' => e = .returned (.tuple #[ivV 0 0, .bool false]) ∧ Below w.heap.size w w' := by
  have hE := ivE_f h
  clear h
  go_enter Tryd.func19, Tryd.ntmps19
  go_wp2_with (go_at_call 23; refine (check_any _ _ _).mono ?_; rintro e w1 ⟨rfl, hb1⟩; obtain ⟨hc, hf⟩ := oldCells hb1)
  have hz : w.heap.size + 2 < w1.heap.size := by have := hb1.size; simp at this; omega
  refine bodyPost_ret (v := .tuple #[ivV 0 0, .bool false]) (by simp [results, Tryd.results19, go_sem, hc, hf, hz]) rfl ⟨rfl, ?_⟩
  exact (((show Below w.heap.size w (((w.alloc _).alloc _).alloc _) from by go_grown).trans (hb1.mono (by simp; omega))).setCell (by simp; omega) _).setCell (by simp; omega) _

set_option maxHeartbeats 1000000 in
theorem meet_f2 (a b c d : Int) (w : World) (h : ivOk a b = true) (h' : ivOk c d = false) :
    Calls Tryd.prog 19 #[ivV a b, ivV c d] w fun e w' => e = .returned (.tuple #[ivV 0 0, .bool false]) ∧ Below w.heap.size w w' := by
  have hE := ivE_t h
  have hE' := ivE_f h'
  clear h h'
  go_enter Tryd.func19, Tryd.ntmps19
  go_wp2_with fail
  refine (check_any _ _ _).mono ?_; rintro e w1 ⟨rfl, hb1⟩; obtain ⟨hc, hf⟩ := oldCells hb1
  go_wp2_with fail
  refine (check_any _ _ _).mono ?_; rintro e w2 ⟨rfl, hb2⟩
  have hb := thenB hb1 hb2; clear hc hf hb1 hb2; obtain ⟨hc, hf⟩ := oldCells hb
  have hz : w.heap.size + 2 < w2.heap.size := by have := hb.size; simp at this; omega
  go_wp2_with fail
  refine bodyPost_ret (v := .tuple #[ivV 0 0, .bool false]) (by simp [results, Tryd.results19, go_sem, hc, hf, hz]) rfl ⟨rfl, ?_⟩
  exact (((show Below w.heap.size w (((w.alloc _).alloc _).alloc _) from by go_grown).trans (hb.mono (by simp; omega))).setCell (by simp; omega) _).setCell (by simp; omega) _

theorem mx_t {a c : Int} (h : a < c) : mx a c = c := if_pos h
theorem mx_f {a c : Int} (h : ¬ a < c) : mx a c = a := if_neg h
theorem mn_t {b d : Int} (h : d < b) : mn b d = d := if_pos h
theorem mn_f {b d : Int} (h : ¬ d < b) : mn b d = b := if_neg h

set_option maxHeartbeats 4000000 in
theorem meet_t (a b c d : Int) (w : World) (h : ivOk a b = true) (h' : ivOk c d = true) :
    Calls Tryd.prog 19 #[ivV a b, ivV c d] w fun e w' => e = .returned (if mx a c ≤ mn b d then meetV a b c d else .tuple #[ivV 0 0, .bool false]) ∧ Below w.heap.size w w' := by
  have hE := ivE_t h
  have hE' := ivE_t h'
  clear h h'
  unfold meetV
  by_cases hac : a < c
  all_goals by_cases hdb : d < b
  all_goals first | rw [mx_t hac] | rw [mx_f hac]
  all_goals first | rw [mn_t hdb] | rw [mn_f hdb]
  all_goals split
  all_goals
    go_enter Tryd.func19, Tryd.ntmps19
    go_wp2_with fail
    refine (check_any _ _ _).mono ?_; rintro e w1 ⟨rfl, hb1⟩; obtain ⟨hc, hf⟩ := oldCells hb1
    go_wp2_with fail
    refine (check_any _ _ _).mono ?_; rintro e w2 ⟨rfl, hb2⟩
    have hb := thenB hb1 hb2; clear hc hf hb1 hb2; obtain ⟨hc, hf⟩ := oldCells hb
    have hz : w.heap.size + 2 < w2.heap.size := by have := hb.size; simp at this; omega
    go_wp2_with fail
    refine bodyPost_ret ?_ rfl ⟨rfl, ?_⟩
    · simp (maxDischargeDepth := 10) [results, Tryd.results19, go_sem, hc, hf, hz]
    · exact belowSet4 (show Below w.heap.size w w2 from (show Below w.heap.size w (((w.alloc _).alloc _).alloc _) from by go_grown).trans (hb.mono (by simp; omega))) (by simp; omega) (by simp; omega) (by simp; omega) (by simp; omega) _ _ _ _

end Go.Proofs.YtbfpbmijmiljlaaDoor
