/- Contracts over the calendar's program, each for every input under its hypotheses: Meet of the reference. -/
import Derived.Test.YtbfpbmijmiljlaaDoorCalWalkE
namespace Go.Proofs.YtbfpbmijmiljlaaDoor
set_option linter.unusedSimpArgs false
set_option linter.unusedVariables false
open Go.RowKit

set_option maxHeartbeats 8000000 in
theorem refMeet_any (a b c d : Int) (w : World) :
    Calls Tryd.prog 20 #[ivV a b, ivV c d] w fun e w' => e = .returned (meetR a b c d) ∧ Below w.heap.size w w' := by

  cases h : ivOk a b
  · rw [show meetR a b c d = .tuple #[ivV 0 0, .bool false] by simp [meetR, meetB, h]]
    have hE := ivE_f h
    clear h
    by_cases hac : a < c
    all_goals by_cases hdb : d < b
    all_goals
      go_enter Tryd.func20, Tryd.ntmps20
      go_wp2_with fail
      refine (refCheck_any _ _ _).mono ?_; rintro e w1 ⟨rfl, hb1⟩; obtain ⟨hc, hf⟩ := oldCells hb1
      have hz : w.heap.size + 3 < w1.heap.size := by have := hb1.size; simp at this; omega
      go_wp2_with fail
      refine bodyPost_ret ?_ rfl ⟨rfl, ?_⟩
      · simp (maxDischargeDepth := 10) [results, Tryd.results20, go_sem, hc, hf, hz]
      · exact ((show Below w.heap.size w _ from (show Below w.heap.size w ((((w.alloc _).alloc _).alloc _).alloc _) from by go_grown).trans (hb1.mono (by simp; omega))).setCell (by simp; omega) _).setCell (by simp; omega) _
  · have hE := ivE_t h
    cases h' : ivOk c d
    · rw [show meetR a b c d = .tuple #[ivV 0 0, .bool false] by simp [meetR, meetB, h']]
      have hE' := ivE_f h'
      clear h h'
      by_cases hac : a < c
      all_goals by_cases hdb : d < b
      all_goals
        go_enter Tryd.func20, Tryd.ntmps20
        go_wp2_with fail
        refine (refCheck_any _ _ _).mono ?_; rintro e w1 ⟨rfl, hb1⟩; obtain ⟨hc, hf⟩ := oldCells hb1
        have hz : w.heap.size + 3 < w1.heap.size := by have := hb1.size; simp at this; omega
        go_wp2_with fail
        refine (refCheck_any _ _ _).mono ?_; rintro e w2 ⟨rfl, hb2⟩
        have hb := thenB hb1 hb2; clear hc hf hb1 hb2 hz; obtain ⟨hc, hf⟩ := oldCells hb
        have hz : w.heap.size + 3 < w2.heap.size := by have := hb.size; simp at this; omega
        go_wp2_with fail
        refine bodyPost_ret ?_ rfl ⟨rfl, ?_⟩
        · simp (maxDischargeDepth := 10) [results, Tryd.results20, go_sem, hc, hf, hz]
        · exact ((show Below w.heap.size w _ from (show Below w.heap.size w ((((w.alloc _).alloc _).alloc _).alloc _) from by go_grown).trans (hb.mono (by simp; omega))).setCell (by simp; omega) _).setCell (by simp; omega) _
    · have e : meetR a b c d = if mx a c ≤ mn b d then meetV a b c d else .tuple #[ivV 0 0, .bool false] := by simp [meetR, meetB, h, h']
      rw [e]
      have hE' := ivE_t h'
      clear h h' e
      unfold meetV
      by_cases hac : a < c
      all_goals by_cases hdb : d < b
      all_goals first | rw [mx_t hac] | rw [mx_f hac]
      all_goals first | rw [mn_t hdb] | rw [mn_f hdb]
      all_goals split
      all_goals
        go_enter Tryd.func20, Tryd.ntmps20
        go_wp2_with fail
        refine (refCheck_any _ _ _).mono ?_; rintro e w1 ⟨rfl, hb1⟩; obtain ⟨hc, hf⟩ := oldCells hb1
        have hz : w.heap.size + 3 < w1.heap.size := by have := hb1.size; simp at this; omega
        go_wp2_with fail
        refine (refCheck_any _ _ _).mono ?_; rintro e w2 ⟨rfl, hb2⟩
        have hb := thenB hb1 hb2; clear hc hf hb1 hb2 hz; obtain ⟨hc, hf⟩ := oldCells hb
        have hz : w.heap.size + 3 < w2.heap.size := by have := hb.size; simp at this; omega
        go_wp2_with fail
        refine bodyPost_ret ?_ rfl ⟨rfl, ?_⟩
        · simp (maxDischargeDepth := 10) [results, Tryd.results20, go_sem, hc, hf, hz]
        · exact ((show Below w.heap.size w _ from (show Below w.heap.size w ((((w.alloc _).alloc _).alloc _).alloc _) from by go_grown).trans (hb.mono (by simp; omega))).setCell (by simp; omega) _).setCell (by simp; omega) _

end Go.Proofs.YtbfpbmijmiljlaaDoor
