/- Contracts over the calendar's program, each for every input under its hypotheses: the examples of the chapter. -/
import Derived.Test.YtbfpbmijmiljlaaDoorCalWalkK
namespace Go.Proofs.YtbfpbmijmiljlaaDoor
set_option linter.unusedSimpArgs false
set_option linter.unusedVariables false
open Go.RowKit

theorem run_eql_date (a b c d e f : Int) (w : World) : (binOp .eql 23 (dateV a b c) (dateV d e f)).run Tryd.prog w = .ok (.bool (a == d && (b == e && c == f))) w := by
  have u3 := Tryd.underlying3
  have a3 := Tryd.isAgg3
  have z3 := Tryd.sizeOf3
  have hS : Tryd.prog.underlying 23 = some (.struct (Tryd.prog.fieldsOf 23)) := by kernel_rfl
  have hp : Tryd.prog.stoodInHeld 23 = false := by kernel_rfl
  rw [run_eql_struct, show (10000 : Nat) = 9999 + 1 from rfl, run_equalIn_agg w 9999 23 _ _ hS hp]
  simp only [Program.fieldsOf, Tryd.underlying23]
  go_simp
  by_cases h1 : a = d <;> by_cases h2 : b = e <;> by_cases h3 : c = f <;> simp [h1, h2, h3]

theorem day_59 (w : World) (hT : Tab w) : Calls Tryd.prog 11 #[dateV 2000 2 29] w fun e w' => e = .returned (.tuple #[.int .i64 59, .int .i64 0]) ∧ Below w.heap.size w w' :=
  day_any 2000 2 29 w hT
theorem day_30 (w : World) (hT : Tab w) : Calls Tryd.prog 11 #[dateV 2000 2 30] w fun e w' => e = .returned (.tuple #[.int .i64 0, .int .i64 10]) ∧ Below w.heap.size w w' :=
  day_any 2000 2 30 w hT
theorem date_366 (w : World) (hT : Tab w) : Calls Tryd.prog 13 #[.int .i64 366] w fun e w' => e = .returned (.tuple #[dateV 2001 1 1, .int .i64 0]) ∧ Below w.heap.size w w' := by
  refine (date_yes 366 w hT (by decide)).mono ?_
  rintro e w' ⟨y, m, d, rfl, hv, hn, hb⟩
  obtain ⟨rfl, rfl, rfl⟩ := CalM.num_inj y m d 2001 1 1 hv (by decide) (by rw [hn]; decide)
  exact ⟨rfl, hb⟩
theorem date_neg (w : World) : Calls Tryd.prog 13 #[.int .i64 (-1)] w fun e w' => e = .returned (.tuple #[dateV 0 0 0, .int .i64 10]) ∧ Below w.heap.size w w' :=
  date_no (-1) w (by decide)
theorem weekday_0 (w : World) : Calls Tryd.prog 15 #[.int .i64 0] w fun e w' => e = .returned (.tuple #[.int .i64 5, .int .i64 0]) ∧ w' = w := weekday_any 0 w
theorem next_04 (w : World) : Calls Tryd.prog 17 #[.int .i64 0, .int .i64 4] w fun e w' => e = .returned (.tuple #[.int .i64 6, .int .i64 0]) ∧ w' = w := next_any 0 4 w
theorem next_07 (w : World) : Calls Tryd.prog 17 #[.int .i64 0, .int .i64 7] w fun e w' => e = .returned (.tuple #[.int .i64 0, .int .i64 1]) ∧ w' = w := next_any 0 7 w

theorem ivAt_of {w : World} {b off : Nat} {l : List CalI.Iv} (h : ∀ k x, l[k]? = some x → w.cell? ⟨b, off + k * 2, none⟩ = some (.int .i64 x.1) ∧ w.cell? ⟨b, off + k * 2 + 1, none⟩ = some (.int .i64 x.2)) : IvAt w (some ⟨b, off, none⟩) l :=
  fun k hk => ⟨b, off, rfl, h k _ (List.getElem?_eq_getElem hk)⟩

theorem union_ex (b : Nat) (w : World) (hi : IvAt w (some ⟨b, 0, none⟩) [(5, 6), (1, 2), (3, 3)]) :
    Calls Tryd.prog 21 #[.slice (some ⟨b, 0, none⟩) 3 3] w fun e w' => ∃ A c, e = .returned (.tuple #[.slice A 2 c, .int .i64 0]) ∧ IvAt w' A [(1, 3), (5, 6)] ∧ Below w.heap.size w w' := by
  refine (union_any (some ⟨b, 0, none⟩) 3 [(5, 6), (1, 2), (3, 3)] w hi (by decide) (fun h => by cases h) (by decide)).mono ?_
  rintro e w' ⟨u, A, c, rfl, hu, hun, _, _, hb⟩
  have : u = [(1, 3), (5, 6)] := hun.unique ⟨⟨by decide, by decide, (by decide : (5 : Int) ≤ 6)⟩, fun n => by
    simp only [CalI.pts, List.mem_cons, List.not_mem_nil, or_false, exists_eq_or_imp, exists_eq_left]
    omega⟩
  subst this
  exact ⟨A, c, rfl, hu, hb⟩

theorem same_ex (A A' : Option Addr) (c c' : Nat) (w : World) (h : IvAt w A [(1, 3), (5, 6)]) (h' : IvAt w A' [(1, 3), (5, 6)]) :
    Calls Tryd.prog 25 #[.slice A 2 c, .slice A' 2 c'] w fun e w' => e = .returned (.bool true) ∧ Below w.heap.size w w' := by
  refine (same_any A A' c c' [(1, 3), (5, 6)] [(1, 3), (5, 6)] w h h' (by decide) (by decide)).mono ?_
  rintro e w' ⟨rfl, q, rfl⟩
  exact ⟨by simp, belowDrewN _ (Below.refl _ _)⟩
theorem in_2 (A : Option Addr) (c : Nat) (w : World) (h : IvAt w A [(1, 3), (5, 6)]) :
    Calls Tryd.prog 26 #[.int .i64 2, .slice A 2 c] w fun e w' => e = .returned (.bool true) ∧ Below w.heap.size w w' := in_any A c 2 [(1, 3), (5, 6)] w h (by decide)
theorem in_4 (A : Option Addr) (c : Nat) (w : World) (h : IvAt w A [(1, 3), (5, 6)]) :
    Calls Tryd.prog 26 #[.int .i64 4, .slice A 2 c] w fun e w' => e = .returned (.bool false) ∧ Below w.heap.size w w' := in_any A c 4 [(1, 3), (5, 6)] w h (by decide)

set_option maxHeartbeats 2000000 in
theorem sane_any (w : World) (hT : Tab w) :
    Calls Tryd.prog 10 #[] w fun e w' => e = .returned (.bool true) ∧ Below w.heap.size w w' := by
  have heq := run_eql_date 2001 1 1 2001 1 1
  go_enter Tryd.func10, Tryd.ntmps10
  go_wp2_with fail
  refine (day_59 _ hT).mono ?_; rintro e w1 ⟨rfl, hb1⟩
  go_wp2_with fail
  refine (date_366 _ (hT.below hb1)).mono ?_; rintro e w2 ⟨rfl, hb2⟩
  have hB2 := thenB hb1 hb2; clear hb1 hb2
  go_wp2_with (go_at_call 15; refine (weekday_0 _).mono ?_; rintro e w' ⟨rfl, rfl⟩)
  refine (next_04 _).mono ?_; rintro e w' ⟨rfl, rfl⟩
  go_wp2_with fail
  refine (union_ex _ _ ?_).mono ?_
  · refine ivAt_of fun k x hx => ?_
    match k, hx with
    | 0, hx => simp at hx; subst hx; exact ⟨by go_simp, by go_simp⟩
    | 1, hx => simp at hx; subst hx; exact ⟨by go_simp, by go_simp⟩
    | 2, hx => simp at hx; subst hx; exact ⟨by go_simp, by go_simp⟩
    | k + 3, hx => simp at hx
  rintro e w3 ⟨A, c, rfl, hu, hb3⟩
  have HU := hide hu; clear hu
  have hT3 := (hT.below hB2).below ((show Below w2.heap.size w2 ((w2.alloc _).alloc _) from by go_grown).trans (hb3.mono (by simp; omega)))
  go_wp2_with fail
  refine (day_30 _ hT3).mono ?_; rintro e w4 ⟨rfl, hb4⟩
  go_wp2_with (go_at_call 13; refine (date_neg _).mono ?_; rintro e w5 ⟨rfl, hb5⟩)
  have hBB := thenB (thenB hb3 hb4) hb5
  have hB5 : Below w.heap.size w w5 := hB2.trans (((show Below w2.heap.size w2 ((w2.alloc _).alloc _) from by go_grown).trans (hBB.mono (by simp; omega))).mono hB2.size)
  have hu5 := ((unhide HU).below hb4).below hb5
  have HU5 := hide hu5; clear hu5 HU
  obtain ⟨hc, hf⟩ := oldCells hBB
  have hz : w2.heap.size + 1 < w5.heap.size := by have := hBB.size; simp at this; omega
  clear hb3 hb4 hb5 hBB
  have hz0 : w2.heap.size < w5.heap.size := by omega
  go_wp2_with (go_at_call 17; refine (next_07 _).mono ?_; rintro e w' ⟨rfl, rfl⟩)
  refine (same_ex _ _ _ _ _ ((unhide HU5).below (by go_grown)) ?_).mono ?_
  · refine ivAt_of fun k x hx => ?_
    match k, hx with
    | 0, hx => simp at hx; subst hx; exact ⟨by go_simp, by go_simp⟩
    | 1, hx => simp at hx; subst hx; exact ⟨by go_simp, by go_simp⟩
    | k + 2, hx => simp at hx
  rintro e w6 ⟨rfl, hb6⟩
  have hB6 : Below w5.heap.size w5 w6 := (show Below w5.heap.size w5 ((w5.alloc _).alloc _) from by go_grown).trans (hb6.mono (by simp; omega))
  clear hb6
  go_wp2_with fail
  refine (in_2 _ _ _ ((unhide HU5).below hB6)).mono ?_; rintro e w7 ⟨rfl, hb7⟩
  go_wp2_with fail
  refine (in_4 _ _ _ (((unhide HU5).below hB6).below hb7)).mono ?_; rintro e w8 ⟨rfl, hb8⟩
  go_wp2_with fail
  go_ret
  exact ⟨rfl, hB5.trans ((thenB (thenB hB6 hb7) hb8).mono hB5.size)⟩
end Go.Proofs.YtbfpbmijmiljlaaDoor
