/- The walk of the law CalendarDaySpec. -/
import Derived.Test.YtbfpbmijmiljlaaDoorCalDate
import Derived.Test.YtbfpbmijmiljlaaDoorClose
namespace Go.Proofs.YtbfpbmijmiljlaaDoor
set_option linter.unusedSimpArgs false
set_option linter.unusedVariables false
open Go.RowKit Go.LawClose

set_option maxHeartbeats 4000000 in
theorem daySpec_any (y m d n k : Int) (w : World) (hT : Tab w) :
    Calls Tryd.prog 3 #[dateV y m d, .int .i64 n, .int .i64 k] w (LawOk w) := by
  have h1 := fun W hW => day_any y m d W hW
  have h2 := fun W => refDay_any y m d W
  have h3 := fun W hW => date_any n W hW
  have h4 := fun W => refDate_any n W
  have h5 : ∀ W, Calls Tryd.prog 15 #[.int .i64 n] W fun e w' => e = .returned (weekR n) ∧ w' = W := fun W => weekday_any n W
  have h6 : ∀ W, Calls Tryd.prog 16 #[.int .i64 n] W fun e w' => e = .returned (weekR n) ∧ w' = W := fun W => refWeekday_any n W
  have h7 := fun W => next_any n k W
  have h8 := fun W => refNext_any n k W
  obtain ⟨a1, a2, ea⟩ := dayR_form y m d
  obtain ⟨b1, b2, b3, b4, eb⟩ := dateR_form n
  obtain ⟨c1, c2, ec⟩ := weekR_form n
  obtain ⟨d1, d2, ed⟩ := nextR_form n k
  rw [ea] at h1 h2
  rw [eb] at h3 h4
  rw [ec] at h5 h6
  rw [ed] at h7 h8
  have H1 := hide h1; have H2 := hide h2; have H3 := hide h3; have H4 := hide h4; have H5 := hide h5; have H6 := hide h6; have H7 := hide h7; have H8 := hide h8
  clear ea eb ec ed h1 h2 h3 h4 h5 h6 h7 h8
  have HT := hide hT; clear hT
  have heq : ∀ W, (binOp .eql 23 (dateV b1 b2 b3) (dateV b1 b2 b3)).run Tryd.prog W = .ok (.bool true) W := fun W => by rw [run_eql_date]; simp
  go_enter Tryd.func3, Tryd.ntmps3
  go_wp2_with fail
  refine (sane_any _ ((unhide HT).below (by go_grown))).mono ?_; rintro e w1 ⟨rfl, hb1⟩; obtain ⟨hc, hf⟩ := oldCells hb1
  have hz : w.heap.size < w1.heap.size := by have := hb1.size; simp at this; omega
  have B1 : Below w.heap.size w w1 := (show Below w.heap.size w (w.alloc _) from by go_grown).trans (hb1.mono (by simp))
  go_wp2_with fail
  refine ((unhide H1) _ ((unhide HT).below B1)).mono ?_; rintro e w2 ⟨rfl, hb2⟩
  have hb12 := thenB hb1 hb2; clear hc hf hb1 hz; obtain ⟨hc, hf⟩ := oldCells hb12
  have hz : w.heap.size < w2.heap.size := by have := hb12.size; simp at this; omega
  have B2 : Below w.heap.size w w2 := B1.trans (hb2.mono B1.size)
  go_wp2_with fail
  refine ((unhide H2) _).mono ?_; rintro e w3 ⟨rfl, hb3⟩
  have B3 : Below w.heap.size w w3 := B2.trans (hb3.mono B2.size)
  clear hc hf hb12 hz hb2 hb3
  go_wp2_with fail
  refine ((unhide H3) _ ((unhide HT).below B3)).mono ?_; rintro e w4 ⟨rfl, hb4⟩
  have B4 : Below w.heap.size w w4 := B3.trans (hb4.mono B3.size)
  clear hb4
  go_wp2_with fail
  refine ((unhide H4) _).mono ?_; rintro e w5 ⟨rfl, hb5⟩; obtain ⟨hc, hf⟩ := oldCells hb5
  have hz : w4.heap.size < w5.heap.size := by have := hb5.size; simp at this; omega
  have B5 : Below w.heap.size w w5 := (B4.alloc B4.size _).trans (hb5.mono (by have := B4.size; simp; omega))
  go_wp2_with (first
    | (go_at_call 15; refine ((unhide H5) _).mono ?_; rintro e w' ⟨rfl, rfl⟩)
    | (go_at_call 16; refine ((unhide H6) _).mono ?_; rintro e w' ⟨rfl, rfl⟩)
    | (go_at_call 17; refine ((unhide H7) _).mono ?_; rintro e w' ⟨rfl, rfl⟩)
    | (go_at_call 18; refine ((unhide H8) _).mono ?_; rintro e w' ⟨rfl, rfl⟩))
  go_ways
  go_ret
  exact ⟨by simp, B5.alloc B5.size _⟩

end Go.Proofs.YtbfpbmijmiljlaaDoor
