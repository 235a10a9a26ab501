/- The walk of the law CalendarInverse. -/
import Derived.Test.YtbfpbmijmiljlaaDoorCalDate
import Derived.Test.YtbfpbmijmiljlaaDoorClose
namespace Go.Proofs.YtbfpbmijmiljlaaDoor.inv
set_option linter.unusedSimpArgs false
set_option linter.unusedVariables false
open Go.RowKit Go.LawClose

theorem advW {W0 cur cur' : World} {o : Obj} (h : Below W0.heap.size W0 cur) (hb : Below (cur.alloc o).heap.size (cur.alloc o) cur') : Below W0.heap.size W0 cur' :=
  (h.alloc h.size o).trans (hb.mono (by have := h.size; simp; omega))
theorem thenW {W0 cur cur' : World} (h : Below W0.heap.size W0 cur) (hb : Below cur.heap.size cur cur') : Below W0.heap.size W0 cur' := h.trans (hb.mono h.size)
theorem adv {W0 cur cur' : World} {o : Obj} (h : Below W0.heap.size W0 cur) (hb : Below (cur.alloc o).heap.size (cur.alloc o) cur') : Below W0.heap.size W0 cur' :=
  (h.alloc h.size o).trans (hb.mono (by have := h.size; simp; omega))

theorem run_neq_date (a b c d e f : Int) (w : World) : (binOp .neq 23 (dateV a b c) (dateV d e f)).run Tryd.prog w = .ok (.bool (!(a == d && (b == e && c == f)))) w := by
  have u3 := Tryd.underlying3
  have a3 := Tryd.isAgg3
  have z3 := Tryd.sizeOf3
  have hS : Tryd.prog.underlying 23 = some (.struct (Tryd.prog.fieldsOf 23)) := by kernel_rfl
  have hp : Tryd.prog.stoodInHeld 23 = false := by kernel_rfl
  rw [run_neq_struct, show (10000 : Nat) = 9999 + 1 from rfl, run_equalIn_agg w 9999 23 _ _ hS hp]
  simp only [Program.fieldsOf, Tryd.underlying23]
  go_simp
  by_cases h1 : a = d <;> by_cases h2 : b = e <;> by_cases h3 : c = f <;> simp [h1, h2, h3]

abbrev DateIs (n y m d e : Int) : Prop := ∀ W, Tab W → Calls Tryd.prog 13 #[.int .i64 n] W fun e' w' => e' = .returned (.tuple #[dateV y m d, .int .i64 e]) ∧ Below W.heap.size W w'
abbrev DayIs (y m d n e : Int) : Prop := ∀ W, Tab W → Calls Tryd.prog 11 #[dateV y m d] W fun e' w' => e' = .returned (.tuple #[.int .i64 n, .int .i64 e]) ∧ Below W.heap.size W w'

set_option maxHeartbeats 4000000 in
theorem inv_no (n y' m' d' k f : Int) (w : World) (HT : Hid (Tab w)) (hn : n < 0 ∨ 1048576 < n) (HD : Hid (DateIs n 0 0 0 10)) (HDd : Hid (DayIs y' m' d' k f)) (hk : (f = 10 ∧ k = 0) ∨ f = 0)
    (HDk : Hid (f = 0 → DateIs k y' m' d' 0)) :
    Calls Tryd.prog 5 #[.int .i64 n, dateV y' m' d'] w (LawOk w) := by
  have heq : ∀ W, (binOp .eql 23 (dateV y' m' d') (dateV y' m' d')).run Tryd.prog W = .ok (.bool true) W := fun W => by rw [run_eql_date]; simp
  rcases hk with ⟨rfl, rfl⟩ | rfl
  all_goals rcases hn with hn | hn
  all_goals
    go_enter Tryd.func5, Tryd.ntmps5
    go_wp2_with fail
    refine (sane_any _ ((unhide HT).below (by go_grown))).mono ?_; rintro e w1 ⟨rfl, hb1⟩
    have HA1 := hide hb1; clear hb1
    have hw1 : w.heap.size < w1.heap.size := by have := (unhide HA1).size; simp at this; omega
    have HW1 : Hid (Below w.heap.size w w1) := (show Below w.heap.size w (w.alloc (.cells #[.int .i64 y', .int .i64 m', .int .i64 d'] 23)) from by go_grown).trans ((unhide HA1).mono (by simp))
    go_wp2_with fail
    refine ((unhide HD) _ ((unhide HT).below (unhide HW1))).mono ?_; rintro e w2 ⟨rfl, hb⟩
    have HA2 := hide (thenB (unhide HA1) hb); have HW2 := hide (thenW (unhide HW1) hb); clear hb
    have hw2 : w.heap.size < w2.heap.size := by have := (unhide HA2).size; simp at this; omega
    obtain ⟨hc, hf⟩ := oldCells (unhide HA2)
    go_wp2_with fail
    clear hc hf
    refine ((unhide HDd) _ ((unhide HT).below ((unhide HW2).alloc (unhide HW2).size _))).mono ?_; rintro e w3 ⟨rfl, hb⟩
    have HA3 := hide (adv (unhide HA2) hb); have HW3 := hide (advW (unhide HW2) hb); clear hb
    obtain ⟨hc, hf⟩ := oldCells (unhide HA3)
    have hw3 : w.heap.size < w3.heap.size := by have := (unhide HA3).size; simp at this; omega
    go_wp2_with fail
    first
      | (go_ret; exact ⟨rfl, unhide HW3⟩)
      | (clear hc hf
         refine ((unhide HDk) (by first | rfl | trivial) _ ((unhide HT).below (unhide HW3))).mono ?_; rintro e w4 ⟨rfl, hb⟩
         have HA4 := hide (thenB (unhide HA3) hb); have HW4 := hide (thenW (unhide HW3) hb); clear hb
         obtain ⟨hc, hf⟩ := oldCells (unhide HA4)
         have hw4 : w.heap.size < w4.heap.size := by have := (unhide HA4).size; simp at this; omega
         go_wp2_with fail
         go_ret
         exact ⟨rfl, (unhide HW4).alloc (unhide HW4).size _⟩)


set_option maxHeartbeats 4000000 in
theorem inv_A (n y mo dd L p q r g y' m' d' k f : Int) (w : World) (HT : Hid (Tab w)) (h0 : 0 ≤ n) (h1 : n ≤ 1048576) (HD : Hid (DateIs n y mo dd 0)) (HDy : Hid (DayIs y mo dd n 0)) (HD1 : Hid (DateIs (n + 1) p q r g))
    (hy0 : 2000 ≤ y) (hy1 : y ≤ 100000) (hm0 : 1 ≤ mo) (hm1 : mo ≤ 12) (hd0 : 1 ≤ dd) (hd1 : dd ≤ 31) (hL : CalM.ml y mo = L)
    (hlt : dd + 1 ≤ L) (hg : g = 10 ∨ (g = 0 ∧ y = p ∧ mo = q ∧ dd + 1 = r))
    (HDd : Hid (DayIs y' m' d' k f)) (hk : (f = 10 ∧ k = 0) ∨ f = 0) (HDk : Hid (f = 0 → DateIs k y' m' d' 0)) :
    Calls Tryd.prog 5 #[.int .i64 n, dateV y' m' d'] w (LawOk w) := by
  have heq : ∀ W, (binOp .eql 23 (dateV y' m' d') (dateV y' m' d')).run Tryd.prog W = .ok (.bool true) W := fun W => by rw [run_eql_date]; simp
  have hne : ∀ (p q r : Int) W, (binOp .neq 23 (dateV p q r) (dateV p q r)).run Tryd.prog W = .ok (.bool false) W := fun p q r W => by rw [run_neq_date]; simp
  rcases hg with rfl | ⟨rfl, rfl, rfl, rfl⟩
  all_goals rcases hk with ⟨rfl, rfl⟩ | rfl
  all_goals
    go_enter Tryd.func5, Tryd.ntmps5
    go_wp2_with fail
    refine (sane_any _ ((unhide HT).below (by go_grown))).mono ?_; rintro e w1 ⟨rfl, hb1⟩
    have HA1 := hide hb1; clear hb1
    have hw1 : w.heap.size < w1.heap.size := by have := (unhide HA1).size; simp at this; omega
    have HW1 : Hid (Below w.heap.size w w1) := (show Below w.heap.size w (w.alloc (.cells #[.int .i64 y', .int .i64 m', .int .i64 d'] 23)) from by go_grown).trans ((unhide HA1).mono (by simp))
    go_wp2_with fail
    refine ((unhide HD) _ ((unhide HT).below (unhide HW1))).mono ?_; rintro e w2 ⟨rfl, hb⟩
    have HA2 := hide (thenB (unhide HA1) hb); have HW2 := hide (thenW (unhide HW1) hb); clear hb
    have hw2 : w.heap.size < w2.heap.size := by have := (unhide HA2).size; simp at this; omega
    obtain ⟨hc, hf⟩ := oldCells (unhide HA2)
    go_wp2_with fail
    clear hc hf
    refine ((unhide HDy) _ ((unhide HT).below ((unhide HW2).alloc (unhide HW2).size _))).mono ?_; rintro e w3 ⟨rfl, hb⟩
    have HX3 := hide hb; have HA3 := hide (adv (unhide HA2) hb); have HW3 := hide (advW (unhide HW2) hb); clear hb
    obtain ⟨hcx, hfx⟩ := oldCells (unhide HX3)
    have hw3 : w.heap.size < w3.heap.size := by have := (unhide HA3).size; simp at this; omega
    have hw3x : w2.heap.size < w3.heap.size := by have := (unhide HX3).size; simp at this; omega
    go_wp2_with fail
    go_quiet ((go_at_call 28; exact Calls.quiet_of_same (refMonth_any _ _ _ (by omega))))
    go_wp2_with fail
    have hNb : Below w.heap.size w ((w3.alloc (.cells #[.int .i64 y, .int .i64 mo, .int .i64 (dd + 1)] 23)).drewN nq) := (belowDrewN nq ((unhide HW3).alloc (unhide HW3).size _))
    have hNa : Below (w.alloc (.cells #[.int .i64 y', .int .i64 m', .int .i64 d'] 23)).heap.size (w.alloc (.cells #[.int .i64 y', .int .i64 m', .int .i64 d'] 23)) ((w3.alloc (.cells #[.int .i64 y, .int .i64 mo, .int .i64 (dd + 1)] 23)).drewN nq) := (belowDrewN nq ((unhide HA3).alloc (unhide HA3).size _))
    have HNb := hide hNb; have HNa := hide hNa; clear hNb hNa hcx hfx
    refine ((unhide HD1) _ ((unhide HT).below (unhide HNb))).mono ?_; rintro e w4 ⟨rfl, hb⟩
    have HA4 := hide (thenB (unhide HNa) hb); have HW4 := hide (thenW (unhide HNb) hb)
    obtain ⟨hc, hf⟩ := oldCells (unhide HA4)
    obtain ⟨hcn, hfn⟩ := oldCells hb
    have hw4n : w3.heap.size < w4.heap.size := by have := hb.size; simp [World.setCell] at this; omega
    have hn0 : w4.cell? ⟨w3.heap.size, 0, none⟩ = some (.int .i64 y) := by rw [hcn _ _ (by simp [World.setCell])]; simp (maxDischargeDepth := 10) [go_sem]
    have hn1 : w4.cell? ⟨w3.heap.size, 1, none⟩ = some (.int .i64 mo) := by rw [hcn _ _ (by simp [World.setCell])]; simp (maxDischargeDepth := 10) [go_sem]
    have hn2 : w4.cell? ⟨w3.heap.size, 2, none⟩ = some (.int .i64 (dd + 1)) := by rw [hcn _ _ (by simp [World.setCell])]; simp (maxDischargeDepth := 10) [go_sem]
    clear hcn hfn hb
    have hw4 : w.heap.size < w4.heap.size := by have := (unhide HA4).size; simp at this; omega
    go_wp2_with fail
    clear hc hf
    refine ((unhide HDd) _ ((unhide HT).below ((unhide HW4).alloc (unhide HW4).size _))).mono ?_; rintro e w5 ⟨rfl, hb⟩
    have HA5 := hide (adv (unhide HA4) hb); have HW5 := hide (advW (unhide HW4) hb); clear hb
    obtain ⟨hc, hf⟩ := oldCells (unhide HA5)
    have hw5 : w.heap.size < w5.heap.size := by have := (unhide HA5).size; simp at this; omega
    go_wp2_with fail
    first
      | (go_ret; exact ⟨rfl, unhide HW5⟩)
      | (clear hc hf
         refine ((unhide HDk) (by first | rfl | trivial) _ ((unhide HT).below (unhide HW5))).mono ?_; rintro e w6 ⟨rfl, hb⟩
         have HA6 := hide (thenB (unhide HA5) hb); have HW6 := hide (thenW (unhide HW5) hb); clear hb
         obtain ⟨hc, hf⟩ := oldCells (unhide HA6)
         have hw6 : w.heap.size < w6.heap.size := by have := (unhide HA6).size; simp at this; omega
         go_wp2_with fail
         go_ret
         exact ⟨rfl, (unhide HW6).alloc (unhide HW6).size _⟩)



set_option maxHeartbeats 4000000 in
theorem inv_B (n y mo dd L p q r g y' m' d' k f : Int) (w : World) (HT : Hid (Tab w)) (h0 : 0 ≤ n) (h1 : n ≤ 1048576) (HD : Hid (DateIs n y mo dd 0)) (HDy : Hid (DayIs y mo dd n 0)) (HD1 : Hid (DateIs (n + 1) p q r g))
    (hy0 : 2000 ≤ y) (hy1 : y ≤ 100000) (hm0 : 1 ≤ mo) (hm1 : mo ≤ 12) (hd0 : 1 ≤ dd) (hd1 : dd ≤ 31) (hL : CalM.ml y mo = L)
    (hlt : L < dd + 1) (hmo : mo + 1 ≤ 12) (hg : g = 10 ∨ (g = 0 ∧ y = p ∧ mo + 1 = q ∧ 1 = r))
    (HDd : Hid (DayIs y' m' d' k f)) (hk : (f = 10 ∧ k = 0) ∨ f = 0) (HDk : Hid (f = 0 → DateIs k y' m' d' 0)) :
    Calls Tryd.prog 5 #[.int .i64 n, dateV y' m' d'] w (LawOk w) := by
  have heq : ∀ W, (binOp .eql 23 (dateV y' m' d') (dateV y' m' d')).run Tryd.prog W = .ok (.bool true) W := fun W => by rw [run_eql_date]; simp
  have hne : ∀ (p q r : Int) W, (binOp .neq 23 (dateV p q r) (dateV p q r)).run Tryd.prog W = .ok (.bool false) W := fun p q r W => by rw [run_neq_date]; simp
  rcases hg with rfl | ⟨rfl, rfl, rfl, rfl⟩
  all_goals rcases hk with ⟨rfl, rfl⟩ | rfl
  all_goals
    go_enter Tryd.func5, Tryd.ntmps5
    go_wp2_with fail
    refine (sane_any _ ((unhide HT).below (by go_grown))).mono ?_; rintro e w1 ⟨rfl, hb1⟩
    have HA1 := hide hb1; clear hb1
    have hw1 : w.heap.size < w1.heap.size := by have := (unhide HA1).size; simp at this; omega
    have HW1 : Hid (Below w.heap.size w w1) := (show Below w.heap.size w (w.alloc (.cells #[.int .i64 y', .int .i64 m', .int .i64 d'] 23)) from by go_grown).trans ((unhide HA1).mono (by simp))
    go_wp2_with fail
    refine ((unhide HD) _ ((unhide HT).below (unhide HW1))).mono ?_; rintro e w2 ⟨rfl, hb⟩
    have HA2 := hide (thenB (unhide HA1) hb); have HW2 := hide (thenW (unhide HW1) hb); clear hb
    have hw2 : w.heap.size < w2.heap.size := by have := (unhide HA2).size; simp at this; omega
    obtain ⟨hc, hf⟩ := oldCells (unhide HA2)
    go_wp2_with fail
    clear hc hf
    refine ((unhide HDy) _ ((unhide HT).below ((unhide HW2).alloc (unhide HW2).size _))).mono ?_; rintro e w3 ⟨rfl, hb⟩
    have HX3 := hide hb; have HA3 := hide (adv (unhide HA2) hb); have HW3 := hide (advW (unhide HW2) hb); clear hb
    obtain ⟨hcx, hfx⟩ := oldCells (unhide HX3)
    have hw3 : w.heap.size < w3.heap.size := by have := (unhide HA3).size; simp at this; omega
    have hw3x : w2.heap.size < w3.heap.size := by have := (unhide HX3).size; simp at this; omega
    go_wp2_with fail
    go_quiet ((go_at_call 28; exact Calls.quiet_of_same (refMonth_any _ _ _ (by omega))))
    go_wp2_with fail
    have hNb : Below w.heap.size w (((((w3.alloc (.cells #[.int .i64 y, .int .i64 mo, .int .i64 (dd + 1)] 23)).drewN nq).setCell ⟨w3.heap.size, 0, none⟩ (.int .i64 y)).setCell ⟨w3.heap.size, 1, none⟩ (.int .i64 (mo + 1))).setCell ⟨w3.heap.size, 2, none⟩ (.int .i64 1)) := ((((belowDrewN nq ((unhide HW3).alloc (unhide HW3).size _)).setCell (p := ⟨w3.heap.size, 0, none⟩) (unhide HW3).size _).setCell (p := ⟨w3.heap.size, 1, none⟩) (unhide HW3).size _).setCell (p := ⟨w3.heap.size, 2, none⟩) (unhide HW3).size _)
    have hNa : Below (w.alloc (.cells #[.int .i64 y', .int .i64 m', .int .i64 d'] 23)).heap.size (w.alloc (.cells #[.int .i64 y', .int .i64 m', .int .i64 d'] 23)) (((((w3.alloc (.cells #[.int .i64 y, .int .i64 mo, .int .i64 (dd + 1)] 23)).drewN nq).setCell ⟨w3.heap.size, 0, none⟩ (.int .i64 y)).setCell ⟨w3.heap.size, 1, none⟩ (.int .i64 (mo + 1))).setCell ⟨w3.heap.size, 2, none⟩ (.int .i64 1)) := ((((belowDrewN nq ((unhide HA3).alloc (unhide HA3).size _)).setCell (p := ⟨w3.heap.size, 0, none⟩) (unhide HA3).size _).setCell (p := ⟨w3.heap.size, 1, none⟩) (unhide HA3).size _).setCell (p := ⟨w3.heap.size, 2, none⟩) (unhide HA3).size _)
    have HNb := hide hNb; have HNa := hide hNa; clear hNb hNa hcx hfx
    refine ((unhide HD1) _ ((unhide HT).below (unhide HNb))).mono ?_; rintro e w4 ⟨rfl, hb⟩
    have HA4 := hide (thenB (unhide HNa) hb); have HW4 := hide (thenW (unhide HNb) hb)
    obtain ⟨hc, hf⟩ := oldCells (unhide HA4)
    obtain ⟨hcn, hfn⟩ := oldCells hb
    have hw4n : w3.heap.size < w4.heap.size := by have := hb.size; simp [World.setCell] at this; omega
    have hn0 : w4.cell? ⟨w3.heap.size, 0, none⟩ = some (.int .i64 y) := by rw [hcn _ _ (by simp [World.setCell])]; simp (maxDischargeDepth := 10) [go_sem]
    have hn1 : w4.cell? ⟨w3.heap.size, 1, none⟩ = some (.int .i64 (mo + 1)) := by rw [hcn _ _ (by simp [World.setCell])]; simp (maxDischargeDepth := 10) [go_sem]
    have hn2 : w4.cell? ⟨w3.heap.size, 2, none⟩ = some (.int .i64 1) := by rw [hcn _ _ (by simp [World.setCell])]; simp (maxDischargeDepth := 10) [go_sem]
    clear hcn hfn hb
    have hw4 : w.heap.size < w4.heap.size := by have := (unhide HA4).size; simp at this; omega
    go_wp2_with fail
    clear hc hf
    refine ((unhide HDd) _ ((unhide HT).below ((unhide HW4).alloc (unhide HW4).size _))).mono ?_; rintro e w5 ⟨rfl, hb⟩
    have HA5 := hide (adv (unhide HA4) hb); have HW5 := hide (advW (unhide HW4) hb); clear hb
    obtain ⟨hc, hf⟩ := oldCells (unhide HA5)
    have hw5 : w.heap.size < w5.heap.size := by have := (unhide HA5).size; simp at this; omega
    go_wp2_with fail
    first
      | (go_ret; exact ⟨rfl, unhide HW5⟩)
      | (clear hc hf
         refine ((unhide HDk) (by first | rfl | trivial) _ ((unhide HT).below (unhide HW5))).mono ?_; rintro e w6 ⟨rfl, hb⟩
         have HA6 := hide (thenB (unhide HA5) hb); have HW6 := hide (thenW (unhide HW5) hb); clear hb
         obtain ⟨hc, hf⟩ := oldCells (unhide HA6)
         have hw6 : w.heap.size < w6.heap.size := by have := (unhide HA6).size; simp at this; omega
         go_wp2_with fail
         go_ret
         exact ⟨rfl, (unhide HW6).alloc (unhide HW6).size _⟩)



set_option maxHeartbeats 4000000 in
theorem inv_C (n y mo dd L p q r g y' m' d' k f : Int) (w : World) (HT : Hid (Tab w)) (h0 : 0 ≤ n) (h1 : n ≤ 1048576) (HD : Hid (DateIs n y mo dd 0)) (HDy : Hid (DayIs y mo dd n 0)) (HD1 : Hid (DateIs (n + 1) p q r g))
    (hy0 : 2000 ≤ y) (hy1 : y ≤ 100000) (hm0 : 1 ≤ mo) (hm1 : mo ≤ 12) (hd0 : 1 ≤ dd) (hd1 : dd ≤ 31) (hL : CalM.ml y mo = L)
    (hlt : L < dd + 1) (hmo : 12 < mo + 1) (hg : g = 10 ∨ (g = 0 ∧ y + 1 = p ∧ 1 = q ∧ 1 = r))
    (HDd : Hid (DayIs y' m' d' k f)) (hk : (f = 10 ∧ k = 0) ∨ f = 0) (HDk : Hid (f = 0 → DateIs k y' m' d' 0)) :
    Calls Tryd.prog 5 #[.int .i64 n, dateV y' m' d'] w (LawOk w) := by
  have heq : ∀ W, (binOp .eql 23 (dateV y' m' d') (dateV y' m' d')).run Tryd.prog W = .ok (.bool true) W := fun W => by rw [run_eql_date]; simp
  have hne : ∀ (p q r : Int) W, (binOp .neq 23 (dateV p q r) (dateV p q r)).run Tryd.prog W = .ok (.bool false) W := fun p q r W => by rw [run_neq_date]; simp
  rcases hg with rfl | ⟨rfl, rfl, rfl, rfl⟩
  all_goals rcases hk with ⟨rfl, rfl⟩ | rfl
  all_goals
    go_enter Tryd.func5, Tryd.ntmps5
    go_wp2_with fail
    refine (sane_any _ ((unhide HT).below (by go_grown))).mono ?_; rintro e w1 ⟨rfl, hb1⟩
    have HA1 := hide hb1; clear hb1
    have hw1 : w.heap.size < w1.heap.size := by have := (unhide HA1).size; simp at this; omega
    have HW1 : Hid (Below w.heap.size w w1) := (show Below w.heap.size w (w.alloc (.cells #[.int .i64 y', .int .i64 m', .int .i64 d'] 23)) from by go_grown).trans ((unhide HA1).mono (by simp))
    go_wp2_with fail
    refine ((unhide HD) _ ((unhide HT).below (unhide HW1))).mono ?_; rintro e w2 ⟨rfl, hb⟩
    have HA2 := hide (thenB (unhide HA1) hb); have HW2 := hide (thenW (unhide HW1) hb); clear hb
    have hw2 : w.heap.size < w2.heap.size := by have := (unhide HA2).size; simp at this; omega
    obtain ⟨hc, hf⟩ := oldCells (unhide HA2)
    go_wp2_with fail
    clear hc hf
    refine ((unhide HDy) _ ((unhide HT).below ((unhide HW2).alloc (unhide HW2).size _))).mono ?_; rintro e w3 ⟨rfl, hb⟩
    have HX3 := hide hb; have HA3 := hide (adv (unhide HA2) hb); have HW3 := hide (advW (unhide HW2) hb); clear hb
    obtain ⟨hcx, hfx⟩ := oldCells (unhide HX3)
    have hw3 : w.heap.size < w3.heap.size := by have := (unhide HA3).size; simp at this; omega
    have hw3x : w2.heap.size < w3.heap.size := by have := (unhide HX3).size; simp at this; omega
    go_wp2_with fail
    go_quiet ((go_at_call 28; exact Calls.quiet_of_same (refMonth_any _ _ _ (by omega))))
    go_wp2_with fail
    have hNb : Below w.heap.size w ((((((((w3.alloc (.cells #[.int .i64 y, .int .i64 mo, .int .i64 (dd + 1)] 23)).drewN nq).setCell ⟨w3.heap.size, 0, none⟩ (.int .i64 y)).setCell ⟨w3.heap.size, 1, none⟩ (.int .i64 (mo + 1))).setCell ⟨w3.heap.size, 2, none⟩ (.int .i64 1)).setCell ⟨w3.heap.size, 0, none⟩ (.int .i64 (y + 1))).setCell ⟨w3.heap.size, 1, none⟩ (.int .i64 1)).setCell ⟨w3.heap.size, 2, none⟩ (.int .i64 1)) := (((((((belowDrewN nq ((unhide HW3).alloc (unhide HW3).size _)).setCell (p := ⟨w3.heap.size, 0, none⟩) (unhide HW3).size _).setCell (p := ⟨w3.heap.size, 1, none⟩) (unhide HW3).size _).setCell (p := ⟨w3.heap.size, 2, none⟩) (unhide HW3).size _).setCell (p := ⟨w3.heap.size, 0, none⟩) (unhide HW3).size _).setCell (p := ⟨w3.heap.size, 1, none⟩) (unhide HW3).size _).setCell (p := ⟨w3.heap.size, 2, none⟩) (unhide HW3).size _)
    have hNa : Below (w.alloc (.cells #[.int .i64 y', .int .i64 m', .int .i64 d'] 23)).heap.size (w.alloc (.cells #[.int .i64 y', .int .i64 m', .int .i64 d'] 23)) ((((((((w3.alloc (.cells #[.int .i64 y, .int .i64 mo, .int .i64 (dd + 1)] 23)).drewN nq).setCell ⟨w3.heap.size, 0, none⟩ (.int .i64 y)).setCell ⟨w3.heap.size, 1, none⟩ (.int .i64 (mo + 1))).setCell ⟨w3.heap.size, 2, none⟩ (.int .i64 1)).setCell ⟨w3.heap.size, 0, none⟩ (.int .i64 (y + 1))).setCell ⟨w3.heap.size, 1, none⟩ (.int .i64 1)).setCell ⟨w3.heap.size, 2, none⟩ (.int .i64 1)) := (((((((belowDrewN nq ((unhide HA3).alloc (unhide HA3).size _)).setCell (p := ⟨w3.heap.size, 0, none⟩) (unhide HA3).size _).setCell (p := ⟨w3.heap.size, 1, none⟩) (unhide HA3).size _).setCell (p := ⟨w3.heap.size, 2, none⟩) (unhide HA3).size _).setCell (p := ⟨w3.heap.size, 0, none⟩) (unhide HA3).size _).setCell (p := ⟨w3.heap.size, 1, none⟩) (unhide HA3).size _).setCell (p := ⟨w3.heap.size, 2, none⟩) (unhide HA3).size _)
    have HNb := hide hNb; have HNa := hide hNa; clear hNb hNa hcx hfx
    refine ((unhide HD1) _ ((unhide HT).below (unhide HNb))).mono ?_; rintro e w4 ⟨rfl, hb⟩
    have HA4 := hide (thenB (unhide HNa) hb); have HW4 := hide (thenW (unhide HNb) hb)
    obtain ⟨hc, hf⟩ := oldCells (unhide HA4)
    obtain ⟨hcn, hfn⟩ := oldCells hb
    have hw4n : w3.heap.size < w4.heap.size := by have := hb.size; simp [World.setCell] at this; omega
    have hn0 : w4.cell? ⟨w3.heap.size, 0, none⟩ = some (.int .i64 (y + 1)) := by rw [hcn _ _ (by simp [World.setCell])]; simp (maxDischargeDepth := 10) [go_sem]
    have hn1 : w4.cell? ⟨w3.heap.size, 1, none⟩ = some (.int .i64 1) := by rw [hcn _ _ (by simp [World.setCell])]; simp (maxDischargeDepth := 10) [go_sem]
    have hn2 : w4.cell? ⟨w3.heap.size, 2, none⟩ = some (.int .i64 1) := by rw [hcn _ _ (by simp [World.setCell])]; simp (maxDischargeDepth := 10) [go_sem]
    clear hcn hfn hb
    have hw4 : w.heap.size < w4.heap.size := by have := (unhide HA4).size; simp at this; omega
    go_wp2_with fail
    clear hc hf
    refine ((unhide HDd) _ ((unhide HT).below ((unhide HW4).alloc (unhide HW4).size _))).mono ?_; rintro e w5 ⟨rfl, hb⟩
    have HA5 := hide (adv (unhide HA4) hb); have HW5 := hide (advW (unhide HW4) hb); clear hb
    obtain ⟨hc, hf⟩ := oldCells (unhide HA5)
    have hw5 : w.heap.size < w5.heap.size := by have := (unhide HA5).size; simp at this; omega
    go_wp2_with fail
    first
      | (go_ret; exact ⟨rfl, unhide HW5⟩)
      | (clear hc hf
         refine ((unhide HDk) (by first | rfl | trivial) _ ((unhide HT).below (unhide HW5))).mono ?_; rintro e w6 ⟨rfl, hb⟩
         have HA6 := hide (thenB (unhide HA5) hb); have HW6 := hide (thenW (unhide HW5) hb); clear hb
         obtain ⟨hc, hf⟩ := oldCells (unhide HA6)
         have hw6 : w.heap.size < w6.heap.size := by have := (unhide HA6).size; simp at this; omega
         go_wp2_with fail
         go_ret
         exact ⟨rfl, (unhide HW6).alloc (unhide HW6).size _⟩)


theorem vld_next (y mo dd : Int) (h : CalM.vld y mo dd = true) :
    (dd + 1 ≤ CalM.ml y mo → CalM.vld y mo (dd + 1) = true ∧ CalM.num y mo (dd + 1) = CalM.num y mo dd + 1) ∧
    (CalM.ml y mo < dd + 1 → mo + 1 ≤ 12 → CalM.vld y (mo + 1) 1 = true ∧ CalM.num y (mo + 1) 1 = CalM.num y mo dd + 1) ∧
    (CalM.ml y mo < dd + 1 → 12 < mo + 1 → CalM.vld (y + 1) 1 1 = true ∧ CalM.num (y + 1) 1 1 = CalM.num y mo dd + 1) := by
  obtain ⟨g1, g2, g3, g4, g5⟩ := (CalM.vld_iff _ _ _).1 h
  refine ⟨fun a => ⟨(CalM.vld_iff _ _ _).2 ⟨g1, g2, g3, by omega, a⟩, by unfold CalM.num; omega⟩, fun a b => ?_, fun a b => ?_⟩
  · have := CalM.ml_bd y (mo + 1)
    have cs := CalM.cum_succ y mo g2 g3
    exact ⟨(CalM.vld_iff _ _ _).2 ⟨g1, by omega, b, by omega, by omega⟩, by unfold CalM.num; omega⟩
  · have e : mo = 12 := by omega
    subst e
    have := CalM.ml_bd (y + 1) 1
    have cs := CalM.cum_succ y 12 g2 g3
    have h13 : CalM.cum y (12 + 1) = CalM.yl y := CalM.cum_13 y
    have hf := CalM.fd_succ y
    have h1 : CalM.cum (y + 1) 1 = 0 := by simp [CalM.cum]
    exact ⟨(CalM.vld_iff _ _ _).2 ⟨by omega, by omega, by omega, by omega, by omega⟩, by unfold CalM.num; omega⟩

theorem inv_any (n y' m' d' : Int) (w : World) (hT : Tab w) :
    Calls Tryd.prog 5 #[.int .i64 n, dateV y' m' d'] w (LawOk w) := by
  have hDd : ∃ k f, DayIs y' m' d' k f ∧ ((f = 10 ∧ k = 0) ∨ f = 0) ∧ (f = 0 → DateIs k y' m' d' 0) := by
    cases h : CalM.ok y' m' d'
    · exact ⟨0, 10, fun W hW => by have := day_any y' m' d' W hW; rwa [show dayR y' m' d' = .tuple #[.int .i64 0, .int .i64 10] by simp [dayR, h]] at this, .inl ⟨rfl, rfl⟩, fun h => by cases h⟩
    · refine ⟨CalM.num y' m' d', 0, fun W hW => by have := day_any y' m' d' W hW; rwa [show dayR y' m' d' = .tuple #[.int .i64 (CalM.num y' m' d'), .int .i64 0] by simp [dayR, h]] at this, .inr rfl, fun _ W hW => ?_⟩
      simp only [CalM.ok, Bool.and_eq_true, decide_eq_true_eq] at h
      have hb := CalM.num_bd _ _ _ h.1
      have hl := CalM.fd_lower y' ((CalM.vld_iff _ _ _).1 h.1).1
      have hy := ((CalM.vld_iff _ _ _).1 h.1).1
      have hd : CalM.isDay (CalM.num y' m' d') = true := (CalM.isDay_iff _).2 ⟨by omega, h.2⟩
      have e : dateR (CalM.num y' m' d') = .tuple #[dateV y' m' d', .int .i64 0] := by simp [dateR, hd, dateOf_eq h.1 rfl]
      exact e ▸ date_any _ W hW
  obtain ⟨k, f, hDd, hk, hDk⟩ := hDd
  cases hd : CalM.isDay n
  · have hn : n < 0 ∨ 1048576 < n := by
      by_cases h : 0 ≤ n ∧ n ≤ 1048576
      · rw [(CalM.isDay_iff n).2 h] at hd; cases hd
      · omega
    exact inv_no n y' m' d' k f w hT hn (fun W _ => date_no n W hd) hDd hk hDk
  · have hn := (CalM.isDay_iff n).1 hd
    obtain ⟨y, mo, dd, hv, hnum⟩ : ∃ y mo d, CalM.vld y mo d = true ∧ CalM.num y mo d = n := by
      obtain ⟨e, w', fr, ⟨y, mo, d, _, hv, hnum, _⟩, _⟩ := date_yes n w hT hd []
      exact ⟨y, mo, d, hv, hnum⟩
    obtain ⟨g1, g2, g3, g4, g5⟩ := (CalM.vld_iff _ _ _).1 hv
    have hyb := CalM.vld_year y mo dd hv (by omega)
    have hml := CalM.ml_bd y mo
    have e1 : dateR n = .tuple #[dateV y mo dd, .int .i64 0] := by simp [dateR, hd, dateOf_eq hv hnum]
    have hD : DateIs n y mo dd 0 := fun W hW => e1 ▸ date_any n W hW
    have hDy : DayIs y mo dd n 0 := fun W hW => by have := day_any y mo dd W hW; rwa [show dayR y mo dd = .tuple #[.int .i64 n, .int .i64 0] by simp [dayR, CalM.ok, hv, hnum, hn.2]] at this
    have hnx : ∀ p q r, CalM.vld p q r = true → CalM.num p q r = n + 1 → ∃ p' q' r' g, DateIs (n + 1) p' q' r' g ∧ (g = 10 ∨ (g = 0 ∧ p = p' ∧ q = q' ∧ r = r')) := by
      intro p q r hpv hpn
      cases hd1 : CalM.isDay (n + 1)
      · exact ⟨0, 0, 0, 10, fun W _ => date_no (n + 1) W hd1, .inl rfl⟩
      · have e2 : dateR (n + 1) = .tuple #[dateV p q r, .int .i64 0] := by simp [dateR, hd1, dateOf_eq hpv hpn]
        exact ⟨p, q, r, 0, fun W hW => e2 ▸ date_any (n + 1) W hW, .inr ⟨rfl, rfl, rfl, rfl⟩⟩
    obtain ⟨nA, nB, nC⟩ := vld_next y mo dd hv
    rw [hnum] at nA nB nC
    by_cases hlt : dd + 1 ≤ CalM.ml y mo
    · obtain ⟨a, b⟩ := nA hlt
      obtain ⟨p, q, r, g, hD1, hg⟩ := hnx _ _ _ a b
      exact inv_A n y mo dd _ p q r g y' m' d' k f w hT hn.1 hn.2 hD hDy hD1 g1 (by omega) g2 g3 g4 (by omega) rfl hlt hg hDd hk hDk
    · by_cases hmo : mo + 1 ≤ 12
      · obtain ⟨a, b⟩ := nB (by omega) hmo
        obtain ⟨p, q, r, g, hD1, hg⟩ := hnx _ _ _ a b
        exact inv_B n y mo dd _ p q r g y' m' d' k f w hT hn.1 hn.2 hD hDy hD1 g1 (by omega) g2 g3 g4 (by omega) rfl (by omega) hmo hg hDd hk hDk
      · obtain ⟨a, b⟩ := nC (by omega) (by omega)
        obtain ⟨p, q, r, g, hD1, hg⟩ := hnx _ _ _ a b
        exact inv_C n y mo dd _ p q r g y' m' d' k f w hT hn.1 hn.2 hD hDy hD1 g1 (by omega) g2 g3 g4 (by omega) rfl (by omega) (by omega) hg hDd hk hDk

end Go.Proofs.YtbfpbmijmiljlaaDoor.inv
