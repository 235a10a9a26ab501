/- Contracts over the calendar's program, each for every input under its hypotheses: the law CalendarOrder. -/
import Derived.Test.YtbfpbmijmiljlaaDoorCalSane
import Derived.Test.YtbfpbmijmiljlaaDoorClose
namespace Go.Proofs.YtbfpbmijmiljlaaDoor
set_option linter.unusedSimpArgs false
set_option linter.unusedVariables false
open Go.RowKit Go.LawClose

theorem dayR_t {y m d : Int} (h : CalM.ok y m d = true) : dayR y m d = .tuple #[.int .i64 (CalM.num y m d), .int .i64 0] := by simp [dayR, h]
theorem dayR_f {y m d : Int} (h : CalM.ok y m d = false) : dayR y m d = .tuple #[.int .i64 0, .int .i64 10] := by simp [dayR, h]




set_option maxHeartbeats 2000000 in
theorem order_f (y m d y' m' d' : Int) (r r' : Value) (n k f f' : Int) (w : World) (HT : Hid (Tab w)) (h : f ≠ 0 ∨ f' ≠ 0)
    (hr : r = .tuple #[.int .i64 n, .int .i64 f]) (hr' : r' = .tuple #[.int .i64 k, .int .i64 f'])
    (HD : Hid (∀ W, Tab W → Calls Tryd.prog 11 #[dateV y m d] W fun e w' => e = .returned r ∧ Below W.heap.size W w'))
    (HD' : Hid (∀ W, Tab W → Calls Tryd.prog 11 #[dateV y' m' d'] W fun e w' => e = .returned r' ∧ Below W.heap.size W w')) :
    Calls Tryd.prog 6 #[dateV y m d, dateV y' m' d'] w (LawOk w) := by
  subst hr hr'
  by_cases h1 : f = 0
  · have h2 : f' ≠ 0 := h.resolve_left (fun h => h h1)
    subst h1
    have hf2 : (f' != 0) = true := by simpa using h2
    clear h h2
    go_enter Tryd.func6, Tryd.ntmps6
    go_wp2_with fail
    refine (sane_any _ ((unhide HT).below (by go_grown))).mono ?_; rintro e w1 ⟨rfl, hb1⟩; obtain ⟨hc, hf⟩ := oldCells hb1
    have hz : w.heap.size + 1 < w1.heap.size := by have := hb1.size; simp at this; omega
    have hz0 : w.heap.size < w1.heap.size := by omega
    have hT1 : Tab w1 := ((unhide HT).below (show Below w.heap.size w ((w.alloc _).alloc _) from by go_grown)).below hb1
    go_wp2_with fail
    refine ((unhide HD) _ hT1).mono ?_; rintro e w2 ⟨rfl, hb2⟩
    have hT2 := hT1.below hb2
    have hb12 := thenB hb1 hb2; clear hc hf hb1 hb2 hz hz0 hT1; obtain ⟨hc, hf⟩ := oldCells hb12
    have hz : w.heap.size + 1 < w2.heap.size := by have := hb12.size; simp at this; omega
    have hz0 : w.heap.size < w2.heap.size := by omega
    go_wp2_with fail
    refine ((unhide HD') _ hT2).mono ?_; rintro e w3 ⟨rfl, hb3⟩
    have hb13 := thenB hb12 hb3; clear hc hf hb12 hb3 hz hz0 hT2; obtain ⟨hc, hf⟩ := oldCells hb13
    have hz : w.heap.size + 1 < w3.heap.size := by have := hb13.size; simp at this; omega
    have hz0 : w.heap.size < w3.heap.size := by omega
    go_wp2_with fail
    go_ret
    exact ⟨rfl, (show Below w.heap.size w ((w.alloc _).alloc _) from by go_grown).trans (hb13.mono (by simp; omega))⟩
  · have hf2 : (f != 0) = true := by simpa using h1
    clear h h1
    go_enter Tryd.func6, Tryd.ntmps6
    go_wp2_with fail
    refine (sane_any _ ((unhide HT).below (by go_grown))).mono ?_; rintro e w1 ⟨rfl, hb1⟩; obtain ⟨hc, hf⟩ := oldCells hb1
    have hz : w.heap.size + 1 < w1.heap.size := by have := hb1.size; simp at this; omega
    have hz0 : w.heap.size < w1.heap.size := by omega
    have hT1 : Tab w1 := ((unhide HT).below (show Below w.heap.size w ((w.alloc _).alloc _) from by go_grown)).below hb1
    go_wp2_with fail
    refine ((unhide HD) _ hT1).mono ?_; rintro e w2 ⟨rfl, hb2⟩
    have hT2 := hT1.below hb2
    have hb12 := thenB hb1 hb2; clear hc hf hb1 hb2 hz hz0 hT1; obtain ⟨hc, hf⟩ := oldCells hb12
    have hz : w.heap.size + 1 < w2.heap.size := by have := hb12.size; simp at this; omega
    have hz0 : w.heap.size < w2.heap.size := by omega
    go_wp2_with fail
    refine ((unhide HD') _ hT2).mono ?_; rintro e w3 ⟨rfl, hb3⟩
    have hb13 := thenB hb12 hb3; clear hc hf hb12 hb3 hz hz0 hT2; obtain ⟨hc, hf⟩ := oldCells hb13
    have hz : w.heap.size + 1 < w3.heap.size := by have := hb13.size; simp at this; omega
    have hz0 : w.heap.size < w3.heap.size := by omega
    go_wp2_with fail
    go_ret
    exact ⟨rfl, (show Below w.heap.size w ((w.alloc _).alloc _) from by go_grown).trans (hb13.mono (by simp; omega))⟩

theorem run_eql_bool_any (a b : Bool) (w : World) : (binOp .eql 4 (.bool a) (.bool b)).run Tryd.prog w = .ok (.bool (a == b)) w := by
  have u := Tryd.underlying4
  cases a <;> cases b <;> go_simp <;> rfl

set_option maxHeartbeats 4000000 in
theorem order_t (y m d y' m' d' n k : Int) (w : World) (HT : Hid (Tab w))
    (HD : Hid (∀ W, Tab W → Calls Tryd.prog 11 #[dateV y m d] W fun e w' => e = .returned (.tuple #[.int .i64 n, .int .i64 0]) ∧ Below W.heap.size W w'))
    (HD' : Hid (∀ W, Tab W → Calls Tryd.prog 11 #[dateV y' m' d'] W fun e w' => e = .returned (.tuple #[.int .i64 k, .int .i64 0]) ∧ Below W.heap.size W w'))
    (hlt : (y < y' ∨ y = y' ∧ (m < m' ∨ m = m' ∧ d < d')) → n < k) (hgt : (y' < y ∨ y' = y ∧ (m' < m ∨ m' = m ∧ d' < d)) → k < n) (heq : y = y' ∧ m = m' ∧ d = d' → n = k) :
    Calls Tryd.prog 6 #[dateV y m d, dateV y' m' d'] w (LawOk w) := by
  have hse := run_eql_date y m d y' m' d'
  have key : ∃ b1 e1 b2 e2 b3 N En : Bool, decide (y < y') = b1 ∧ (y == y') = e1 ∧ decide (m < m') = b2 ∧ (m == m') = e2 ∧ decide (d < d') = b3 ∧ decide (n < k) = N ∧ (n == k) = En ∧
      ((y == y' && (m == m' && d == d')) = En) ∧ (b1 || (e1 && (b2 || (e2 && b3)))) = N := by
    refine ⟨_, _, _, _, _, _, _, rfl, rfl, rfl, rfl, rfl, rfl, rfl, ?_, ?_⟩
    · rw [Bool.eq_iff_iff]
      simp only [Bool.and_eq_true, beq_iff_eq]
      constructor
      · exact heq
      · intro h
        by_cases a : y = y'
        · by_cases b : m = m'
          · by_cases c : d = d'
            · exact ⟨a, b, c⟩
            · rcases Int.lt_or_gt_of_ne c with c | c
              · have := hlt (.inr ⟨a, .inr ⟨b, c⟩⟩); omega
              · have := hgt (.inr ⟨a.symm, .inr ⟨b.symm, c⟩⟩); omega
          · rcases Int.lt_or_gt_of_ne b with b | b
            · have := hlt (.inr ⟨a, .inl b⟩); omega
            · have := hgt (.inr ⟨a.symm, .inl b⟩); omega
        · rcases Int.lt_or_gt_of_ne a with a | a
          · have := hlt (.inl a); omega
          · have := hgt (.inl a); omega
    · rw [Bool.eq_iff_iff]
      simp only [Bool.or_eq_true, Bool.and_eq_true, beq_iff_eq, decide_eq_true_eq]
      constructor
      · exact hlt
      · intro h
        by_cases a : y = y'
        · by_cases b : m = m'
          · by_cases c : d = d'
            · have := heq ⟨a, b, c⟩; omega
            · rcases Int.lt_or_gt_of_ne c with c | c
              · exact .inr ⟨a, .inr ⟨b, c⟩⟩
              · have := hgt (.inr ⟨a.symm, .inr ⟨b.symm, c⟩⟩); omega
          · rcases Int.lt_or_gt_of_ne b with b | b
            · exact .inr ⟨a, .inl b⟩
            · have := hgt (.inr ⟨a.symm, .inl b⟩); omega
        · rcases Int.lt_or_gt_of_ne a with a | a
          · exact .inl a
          · have := hgt (.inl a); omega
  obtain ⟨b1, e1, b2, e2, b3, N, En, q1, q2, q3, q4, q5, q6, q7, q8, q9⟩ := key
  rw [q8] at hse
  clear q8 hlt hgt heq
  cases b1
  · cases e1
    · simp only [Bool.false_or, Bool.false_and] at q9
      subst q9
      cases En
      all_goals
        go_enter Tryd.func6, Tryd.ntmps6
        go_wp2_with fail
        refine (sane_any _ ((unhide HT).below (by go_grown))).mono ?_; rintro e w1 ⟨rfl, hb1⟩; obtain ⟨hc, hf⟩ := oldCells hb1
        have hz : w.heap.size + 1 < w1.heap.size := by have := hb1.size; simp at this; omega
        have hz0 : w.heap.size < w1.heap.size := by omega
        have hT1 : Tab w1 := ((unhide HT).below (show Below w.heap.size w ((w.alloc _).alloc _) from by go_grown)).below hb1
        go_wp2_with fail
        refine ((unhide HD) _ hT1).mono ?_; rintro e w2 ⟨rfl, hb2⟩
        have hT2 := hT1.below hb2
        have hb12 := thenB hb1 hb2; clear hc hf hb1 hb2 hz hz0 hT1; obtain ⟨hc, hf⟩ := oldCells hb12
        have hz : w.heap.size + 1 < w2.heap.size := by have := hb12.size; simp at this; omega
        have hz0 : w.heap.size < w2.heap.size := by omega
        go_wp2_with fail
        refine ((unhide HD') _ hT2).mono ?_; rintro e w3 ⟨rfl, hb3⟩
        have hb13 := thenB hb12 hb3; clear hc hf hb12 hb3 hz hz0 hT2; obtain ⟨hc, hf⟩ := oldCells hb13
        have hz : w.heap.size + 1 < w3.heap.size := by have := hb13.size; simp at this; omega
        have hz0 : w.heap.size < w3.heap.size := by omega
        go_wp2_with fail
        go_ret
        exact ⟨rfl, (show Below w.heap.size w ((w.alloc _).alloc _) from by go_grown).trans (hb13.mono (by simp; omega))⟩
    · cases b2
      · cases e2
        · simp only [Bool.false_or, Bool.true_and, Bool.false_and] at q9
          subst q9
          cases En
          all_goals
            go_enter Tryd.func6, Tryd.ntmps6
            go_wp2_with fail
            refine (sane_any _ ((unhide HT).below (by go_grown))).mono ?_; rintro e w1 ⟨rfl, hb1⟩; obtain ⟨hc, hf⟩ := oldCells hb1
            have hz : w.heap.size + 1 < w1.heap.size := by have := hb1.size; simp at this; omega
            have hz0 : w.heap.size < w1.heap.size := by omega
            have hT1 : Tab w1 := ((unhide HT).below (show Below w.heap.size w ((w.alloc _).alloc _) from by go_grown)).below hb1
            go_wp2_with fail
            refine ((unhide HD) _ hT1).mono ?_; rintro e w2 ⟨rfl, hb2⟩
            have hT2 := hT1.below hb2
            have hb12 := thenB hb1 hb2; clear hc hf hb1 hb2 hz hz0 hT1; obtain ⟨hc, hf⟩ := oldCells hb12
            have hz : w.heap.size + 1 < w2.heap.size := by have := hb12.size; simp at this; omega
            have hz0 : w.heap.size < w2.heap.size := by omega
            go_wp2_with fail
            refine ((unhide HD') _ hT2).mono ?_; rintro e w3 ⟨rfl, hb3⟩
            have hb13 := thenB hb12 hb3; clear hc hf hb12 hb3 hz hz0 hT2; obtain ⟨hc, hf⟩ := oldCells hb13
            have hz : w.heap.size + 1 < w3.heap.size := by have := hb13.size; simp at this; omega
            have hz0 : w.heap.size < w3.heap.size := by omega
            go_wp2_with fail
            go_ret
            exact ⟨rfl, (show Below w.heap.size w ((w.alloc _).alloc _) from by go_grown).trans (hb13.mono (by simp; omega))⟩
        · simp only [Bool.false_or, Bool.true_and] at q9
          subst q9
          cases b3
          all_goals cases En
          all_goals
            go_enter Tryd.func6, Tryd.ntmps6
            go_wp2_with fail
            refine (sane_any _ ((unhide HT).below (by go_grown))).mono ?_; rintro e w1 ⟨rfl, hb1⟩; obtain ⟨hc, hf⟩ := oldCells hb1
            have hz : w.heap.size + 1 < w1.heap.size := by have := hb1.size; simp at this; omega
            have hz0 : w.heap.size < w1.heap.size := by omega
            have hT1 : Tab w1 := ((unhide HT).below (show Below w.heap.size w ((w.alloc _).alloc _) from by go_grown)).below hb1
            go_wp2_with fail
            refine ((unhide HD) _ hT1).mono ?_; rintro e w2 ⟨rfl, hb2⟩
            have hT2 := hT1.below hb2
            have hb12 := thenB hb1 hb2; clear hc hf hb1 hb2 hz hz0 hT1; obtain ⟨hc, hf⟩ := oldCells hb12
            have hz : w.heap.size + 1 < w2.heap.size := by have := hb12.size; simp at this; omega
            have hz0 : w.heap.size < w2.heap.size := by omega
            go_wp2_with fail
            refine ((unhide HD') _ hT2).mono ?_; rintro e w3 ⟨rfl, hb3⟩
            have hb13 := thenB hb12 hb3; clear hc hf hb12 hb3 hz hz0 hT2; obtain ⟨hc, hf⟩ := oldCells hb13
            have hz : w.heap.size + 1 < w3.heap.size := by have := hb13.size; simp at this; omega
            have hz0 : w.heap.size < w3.heap.size := by omega
            go_wp2_with fail
            go_ret
            exact ⟨rfl, (show Below w.heap.size w ((w.alloc _).alloc _) from by go_grown).trans (hb13.mono (by simp; omega))⟩
      · simp only [Bool.false_or, Bool.true_and, Bool.true_or] at q9
        subst q9
        cases En
        all_goals
          go_enter Tryd.func6, Tryd.ntmps6
          go_wp2_with fail
          refine (sane_any _ ((unhide HT).below (by go_grown))).mono ?_; rintro e w1 ⟨rfl, hb1⟩; obtain ⟨hc, hf⟩ := oldCells hb1
          have hz : w.heap.size + 1 < w1.heap.size := by have := hb1.size; simp at this; omega
          have hz0 : w.heap.size < w1.heap.size := by omega
          have hT1 : Tab w1 := ((unhide HT).below (show Below w.heap.size w ((w.alloc _).alloc _) from by go_grown)).below hb1
          go_wp2_with fail
          refine ((unhide HD) _ hT1).mono ?_; rintro e w2 ⟨rfl, hb2⟩
          have hT2 := hT1.below hb2
          have hb12 := thenB hb1 hb2; clear hc hf hb1 hb2 hz hz0 hT1; obtain ⟨hc, hf⟩ := oldCells hb12
          have hz : w.heap.size + 1 < w2.heap.size := by have := hb12.size; simp at this; omega
          have hz0 : w.heap.size < w2.heap.size := by omega
          go_wp2_with fail
          refine ((unhide HD') _ hT2).mono ?_; rintro e w3 ⟨rfl, hb3⟩
          have hb13 := thenB hb12 hb3; clear hc hf hb12 hb3 hz hz0 hT2; obtain ⟨hc, hf⟩ := oldCells hb13
          have hz : w.heap.size + 1 < w3.heap.size := by have := hb13.size; simp at this; omega
          have hz0 : w.heap.size < w3.heap.size := by omega
          go_wp2_with fail
          go_ret
          exact ⟨rfl, (show Below w.heap.size w ((w.alloc _).alloc _) from by go_grown).trans (hb13.mono (by simp; omega))⟩
  · simp only [Bool.true_or] at q9
    subst q9
    cases En
    all_goals
      go_enter Tryd.func6, Tryd.ntmps6
      go_wp2_with fail
      refine (sane_any _ ((unhide HT).below (by go_grown))).mono ?_; rintro e w1 ⟨rfl, hb1⟩; obtain ⟨hc, hf⟩ := oldCells hb1
      have hz : w.heap.size + 1 < w1.heap.size := by have := hb1.size; simp at this; omega
      have hz0 : w.heap.size < w1.heap.size := by omega
      have hT1 : Tab w1 := ((unhide HT).below (show Below w.heap.size w ((w.alloc _).alloc _) from by go_grown)).below hb1
      go_wp2_with fail
      refine ((unhide HD) _ hT1).mono ?_; rintro e w2 ⟨rfl, hb2⟩
      have hT2 := hT1.below hb2
      have hb12 := thenB hb1 hb2; clear hc hf hb1 hb2 hz hz0 hT1; obtain ⟨hc, hf⟩ := oldCells hb12
      have hz : w.heap.size + 1 < w2.heap.size := by have := hb12.size; simp at this; omega
      have hz0 : w.heap.size < w2.heap.size := by omega
      go_wp2_with fail
      refine ((unhide HD') _ hT2).mono ?_; rintro e w3 ⟨rfl, hb3⟩
      have hb13 := thenB hb12 hb3; clear hc hf hb12 hb3 hz hz0 hT2; obtain ⟨hc, hf⟩ := oldCells hb13
      have hz : w.heap.size + 1 < w3.heap.size := by have := hb13.size; simp at this; omega
      have hz0 : w.heap.size < w3.heap.size := by omega
      go_wp2_with fail
      go_ret
      exact ⟨rfl, (show Below w.heap.size w ((w.alloc _).alloc _) from by go_grown).trans (hb13.mono (by simp; omega))⟩

theorem order_any (y m d y' m' d' : Int) (w : World) (hT : Tab w) :
    Calls Tryd.prog 6 #[dateV y m d, dateV y' m' d'] w (LawOk w) := by
  have hD := fun W hW => day_any y m d W hW
  have hD' := fun W hW => day_any y' m' d' W hW
  cases h : CalM.ok y m d
  · cases h' : CalM.ok y' m' d'
    · exact order_f y m d y' m' d' _ _ 0 0 10 10 w hT (by decide) (dayR_f h) (dayR_f h') hD hD'
    · exact order_f y m d y' m' d' _ _ 0 (CalM.num y' m' d') 10 0 w hT (by decide) (dayR_f h) (dayR_t h') hD hD'
  · cases h' : CalM.ok y' m' d'
    · exact order_f y m d y' m' d' _ _ (CalM.num y m d) 0 0 10 w hT (by decide) (dayR_t h) (dayR_f h') hD hD'
    · have v := h
      have v' := h'
      simp only [CalM.ok, Bool.and_eq_true] at v v'
      rw [dayR_t h] at hD
      rw [dayR_t h'] at hD'
      refine order_t y m d y' m' d' _ _ w hT hD hD' (CalM.num_lt _ _ _ _ _ _ v.1 v'.1) (CalM.num_lt _ _ _ _ _ _ v'.1 v.1) ?_
      rintro ⟨rfl, rfl, rfl⟩
      rfl

end Go.Proofs.YtbfpbmijmiljlaaDoor
