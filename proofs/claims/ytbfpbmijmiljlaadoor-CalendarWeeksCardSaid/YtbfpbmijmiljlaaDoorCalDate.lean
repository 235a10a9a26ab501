/- Contracts over the calendar's program, each for every input under its hypotheses: Date of both, with one value. -/
import Derived.Test.YtbfpbmijmiljlaaDoorCalSane
namespace Go.Proofs.YtbfpbmijmiljlaaDoor
set_option linter.unusedSimpArgs false
set_option linter.unusedVariables false
open Go.RowKit

noncomputable def dateOf (n : Int) : Int × Int × Int := Classical.epsilon fun t : Int × Int × Int => CalM.vld t.1 t.2.1 t.2.2 = true ∧ CalM.num t.1 t.2.1 t.2.2 = n
theorem dateOf_eq {y m d n : Int} (h : CalM.vld y m d = true) (hn : CalM.num y m d = n) : dateOf n = (y, m, d) := by
  have hs : CalM.vld (dateOf n).1 (dateOf n).2.1 (dateOf n).2.2 = true ∧ CalM.num (dateOf n).1 (dateOf n).2.1 (dateOf n).2.2 = n :=
    Classical.epsilon_spec (p := fun t : Int × Int × Int => CalM.vld t.1 t.2.1 t.2.2 = true ∧ CalM.num t.1 t.2.1 t.2.2 = n) ⟨(y, m, d), h, hn⟩
  obtain ⟨e1, e2, e3⟩ := CalM.num_inj _ _ _ y m d hs.1 h (hs.2.trans hn.symm)
  exact Prod.ext e1 (Prod.ext e2 e3)
noncomputable def dateR (n : Int) : Value := if CalM.isDay n then .tuple #[dateV (dateOf n).1 (dateOf n).2.1 (dateOf n).2.2, .int .i64 0] else .tuple #[dateV 0 0 0, .int .i64 10]
theorem dateR_form (n : Int) : ∃ y m d e : Int, dateR n = .tuple #[dateV y m d, .int .i64 e] := by
  unfold dateR
  split
  · exact ⟨_, _, _, _, rfl⟩
  · exact ⟨_, _, _, _, rfl⟩
theorem dayR_form (y m d : Int) : ∃ n e : Int, dayR y m d = .tuple #[.int .i64 n, .int .i64 e] := by
  unfold dayR
  split
  · exact ⟨_, _, rfl⟩
  · exact ⟨_, _, rfl⟩
theorem nextR_form (n k : Int) : ∃ m e : Int, nextR n k = .tuple #[.int .i64 m, .int .i64 e] := by
  unfold nextR
  repeat' split
  all_goals exact ⟨_, _, rfl⟩

theorem date_any (n : Int) (w : World) (hT : Tab w) :
    Calls Tryd.prog 13 #[.int .i64 n] w fun e w' => e = .returned (dateR n) ∧ Below w.heap.size w w' := by
  cases h : CalM.isDay n
  · rw [show dateR n = .tuple #[dateV 0 0 0, .int .i64 10] by simp [dateR, h]]
    exact date_no n w h
  · refine (date_yes n w hT h).mono ?_
    rintro e w' ⟨y, m, d, rfl, hv, hn, hb⟩
    refine ⟨?_, hb⟩
    rw [show dateR n = .tuple #[dateV y m d, .int .i64 0] by simp [dateR, h, dateOf_eq hv hn]]
theorem refDate_any (n : Int) (w : World) :
    Calls Tryd.prog 14 #[.int .i64 n] w fun e w' => e = .returned (dateR n) ∧ Below w.heap.size w w' := by
  cases h : CalM.isDay n
  · rw [show dateR n = .tuple #[dateV 0 0 0, .int .i64 10] by simp [dateR, h]]
    exact refDate_no n w h
  · refine (refDate_yes n w h).mono ?_
    rintro e w' ⟨y, m, d, rfl, hv, hn, hb⟩
    refine ⟨?_, hb⟩
    rw [show dateR n = .tuple #[dateV y m d, .int .i64 0] by simp [dateR, h, dateOf_eq hv hn]]
def weekR (n : Int) : Value := if CalM.isDay n then .tuple #[.int .i64 ((n + 5) % 7), .int .i64 0] else .tuple #[.int .i64 0, .int .i64 10]
theorem weekR_form (n : Int) : ∃ m e : Int, weekR n = .tuple #[.int .i64 m, .int .i64 e] := by
  unfold weekR
  split
  all_goals exact ⟨_, _, rfl⟩

end Go.Proofs.YtbfpbmijmiljlaaDoor
