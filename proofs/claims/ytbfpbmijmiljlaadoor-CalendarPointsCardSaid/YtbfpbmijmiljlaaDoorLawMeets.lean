/- The walk of the law CalendarMeets. -/
import Derived.Test.YtbfpbmijmiljlaaDoorCalSane
import Derived.Test.YtbfpbmijmiljlaaDoorClose
namespace Go.Proofs.YtbfpbmijmiljlaaDoor
set_option linter.unusedSimpArgs false
set_option linter.unusedVariables false
open Go.RowKit Go.LawClose

theorem run_eql_iv (a b c d : Int) (w : World) : (binOp .eql 34 (ivV a b) (ivV c d)).run Tryd.prog w = .ok (.bool (a == c && b == d)) w := by
  have u3 := Tryd.underlying3
  have a3 := Tryd.isAgg3
  have z3 := Tryd.sizeOf3
  have hS : Tryd.prog.underlying 34 = some (.struct (Tryd.prog.fieldsOf 34)) := by kernel_rfl
  have hp : Tryd.prog.stoodInHeld 34 = false := by kernel_rfl
  rw [run_eql_struct, show (10000 : Nat) = 9999 + 1 from rfl, run_equalIn_agg w 9999 34 _ _ hS hp]
  simp only [Program.fieldsOf, Tryd.underlying34]
  go_simp
  by_cases h1 : a = c <;> by_cases h2 : b = d <;> simp [h1, h2]

theorem meet_any (a b c d : Int) (w : World) :
    Calls Tryd.prog 19 #[ivV a b, ivV c d] w fun e w' => e = .returned (meetR a b c d) ∧ Below w.heap.size w w' := by
  cases h : ivOk a b
  · rw [show meetR a b c d = .tuple #[ivV 0 0, .bool false] by simp [meetR, meetB, h]]
    exact meet_f1 a b c d w h
  · cases h' : ivOk c d
    · rw [show meetR a b c d = .tuple #[ivV 0 0, .bool false] by simp [meetR, meetB, h']]
      exact meet_f2 a b c d w h h'
    · have e : meetR a b c d = if mx a c ≤ mn b d then meetV a b c d else .tuple #[ivV 0 0, .bool false] := by simp [meetR, meetB, h, h']
      rw [e]
      exact meet_t a b c d w h h'

theorem in_one (p q v : Int) (b : Nat) (i : Bool) (w : World) (hi : inB [(p, q)] v = i) (h0 : w.cell? ⟨b, 0, none⟩ = some (.int .i64 p)) (h1 : w.cell? ⟨b, 1, none⟩ = some (.int .i64 q)) :
    Calls Tryd.prog 26 #[.int .i64 v, .slice (some ⟨b, 0, none⟩) 1 1] w fun e w' => e = .returned (.bool i) ∧ Below w.heap.size w w' := by
  rw [← hi]
  exact in_any (some ⟨b, 0, none⟩) 1 v [(p, q)] w (ivAt_of fun k x hx => by
    match k, hx with
    | 0, hx => simp at hx; subst hx; exact ⟨h0, h1⟩
    | k + 1, hx => simp at hx) (by simp)

theorem advW {W0 cur cur' : World} {o : Obj} (h : Below W0.heap.size W0 cur) (hb : Below (cur.alloc o).heap.size (cur.alloc o) cur') : Below W0.heap.size W0 cur' :=
  (h.alloc h.size o).trans (hb.mono (by have := h.size; simp; omega))
theorem thenW {W0 cur cur' : World} (h : Below W0.heap.size W0 cur) (hb : Below cur.heap.size cur cur') : Below W0.heap.size W0 cur' := h.trans (hb.mono h.size)
theorem adv {W0 cur cur' : World} {o : Obj} (h : Below W0.heap.size W0 cur) (hb : Below (cur.alloc o).heap.size (cur.alloc o) cur') : Below W0.heap.size W0 cur' :=
  (h.alloc h.size o).trans (hb.mono (by have := h.size; simp; omega))

abbrev MeetIs (a b c d x1 x2 : Int) (ok : Bool) : Prop := ∀ W, Calls Tryd.prog 19 #[ivV a b, ivV c d] W fun e w' => e = .returned (.tuple #[ivV x1 x2, .bool ok]) ∧ Below W.heap.size W w'
abbrev CheckIs (a b r : Int) : Prop := ∀ W, Calls Tryd.prog 23 #[ivV a b] W fun e w' => e = .returned (.int .i64 r) ∧ Below W.heap.size W w'

set_option maxHeartbeats 4000000 in
theorem meets_bad (a b c d n x1 x2 r1 r2 : Int) (w : World) (HT : Hid (Tab w)) (HM : Hid (MeetIs a b c d x1 x2 false)) (HM' : Hid (MeetIs c d a b x1 x2 false))
    (HC : Hid (CheckIs a b r1)) (HC' : Hid (CheckIs c d r2)) (hr : r1 = 10 ∨ (r1 = 0 ∧ r2 = 10)) :
    Calls Tryd.prog 9 #[ivV a b, ivV c d, .int .i64 n] w (LawOk w) := by
  have hneq : ∀ W, (binOp .neq 34 (ivV x1 x2) (ivV x1 x2)).run Tryd.prog W = .ok (.bool false) W := fun W => by rw [run_neq_iv]; simp
  rcases hr with rfl | ⟨rfl, rfl⟩
  · go_enter Tryd.func9, Tryd.ntmps9
    go_wp2_with fail
    refine (sane_any _ ((unhide HT).below (by go_grown))).mono ?_; rintro e w1 ⟨rfl, hb1⟩; obtain ⟨hc, hf⟩ := oldCells hb1
    have hz : w.heap.size + 1 < w1.heap.size := by have := hb1.size; simp at this; omega
    have hz0 : w.heap.size < w1.heap.size := by omega
    go_wp2_with fail
    refine ((unhide HM) _).mono ?_; rintro e w2 ⟨rfl, hb2⟩
    have hbA := thenB hb1 hb2; clear hc hf hb1 hb2 hz hz0; obtain ⟨hc, hf⟩ := oldCells hbA
    have hz : w.heap.size + 1 < w2.heap.size := by have := hbA.size; simp at this; omega
    have hz0 : w.heap.size < w2.heap.size := by omega
    go_wp2_with fail
    refine ((unhide HM') _).mono ?_; rintro e w3 ⟨rfl, hb3⟩
    have hbX := hb3
    have hbA3 := (hbA.alloc hbA.size (.cells #[.int .i64 x1, .int .i64 x2] 34)).trans (hb3.mono (by have := hbA.size; simp at this ⊢; omega))
    have hzx : w2.heap.size < w3.heap.size := by have := hbX.size; simp at this; omega
    have hz2 : w.heap.size + 1 < w3.heap.size := by omega
    have hz20 : w.heap.size < w3.heap.size := by omega
    clear hc hf hb3 hbA; obtain ⟨hc, hf⟩ := oldCells hbA3; obtain ⟨hcx, hfx⟩ := oldCells hbX
    have hW3 : Below w.heap.size w w3 := (show Below w.heap.size w ((w.alloc _).alloc _) from by go_grown).trans (hbA3.mono (by simp; omega))
    have HA := hide hbA3; have HX := hide hbX; have HW3 := hide hW3; clear hbA3 hbX hW3
    go_wp2_with fail
    refine ((unhide HC) _).mono ?_; rintro e w4 ⟨rfl, hbw4⟩
    have hB4 := (unhide HW3).alloc (unhide HW3).size (.cells #[.int .i64 x1, .int .i64 x2] 34)
    have HB4 := hide hB4; clear hB4
    go_wp2_with fail
    go_ret
    exact ⟨rfl, (unhide HB4).trans (hbw4.mono (unhide HB4).size)⟩
  · go_enter Tryd.func9, Tryd.ntmps9
    go_wp2_with fail
    refine (sane_any _ ((unhide HT).below (by go_grown))).mono ?_; rintro e w1 ⟨rfl, hb1⟩; obtain ⟨hc, hf⟩ := oldCells hb1
    have hz : w.heap.size + 1 < w1.heap.size := by have := hb1.size; simp at this; omega
    have hz0 : w.heap.size < w1.heap.size := by omega
    go_wp2_with fail
    refine ((unhide HM) _).mono ?_; rintro e w2 ⟨rfl, hb2⟩
    have hbA := thenB hb1 hb2; clear hc hf hb1 hb2 hz hz0; obtain ⟨hc, hf⟩ := oldCells hbA
    have hz : w.heap.size + 1 < w2.heap.size := by have := hbA.size; simp at this; omega
    have hz0 : w.heap.size < w2.heap.size := by omega
    go_wp2_with fail
    refine ((unhide HM') _).mono ?_; rintro e w3 ⟨rfl, hb3⟩
    have hbX := hb3
    have hbA3 := (hbA.alloc hbA.size (.cells #[.int .i64 x1, .int .i64 x2] 34)).trans (hb3.mono (by have := hbA.size; simp at this ⊢; omega))
    have hzx : w2.heap.size < w3.heap.size := by have := hbX.size; simp at this; omega
    have hz2 : w.heap.size + 1 < w3.heap.size := by omega
    have hz20 : w.heap.size < w3.heap.size := by omega
    clear hc hf hb3 hbA; obtain ⟨hc, hf⟩ := oldCells hbA3; obtain ⟨hcx, hfx⟩ := oldCells hbX
    have hW3 : Below w.heap.size w w3 := (show Below w.heap.size w ((w.alloc _).alloc _) from by go_grown).trans (hbA3.mono (by simp; omega))
    have HA := hide hbA3; have HX := hide hbX; have HW3 := hide hW3; clear hbA3 hbX hW3
    go_wp2_with fail
    refine ((unhide HC) _).mono ?_; rintro e w4 ⟨rfl, hbw4⟩
    have hB4 := (unhide HW3).alloc (unhide HW3).size (.cells #[.int .i64 x1, .int .i64 x2] 34)
    have HB4 := hide hB4; clear hB4
    have hbA4 := ((unhide HA).alloc (unhide HA).size (.cells #[.int .i64 x1, .int .i64 x2] 34)).trans (hbw4.mono (by have := (unhide HA).size; simp at this ⊢; omega))
    have hz4 : w3.heap.size < w4.heap.size := by have := hbw4.size; simp at this; omega
    clear hc hf hcx hfx; obtain ⟨hc, hf⟩ := oldCells hbA4
    have hz5 : w.heap.size + 1 < w4.heap.size := by omega
    clear hbA4
    go_wp2_with fail
    refine ((unhide HC') _).mono ?_; rintro e w5 ⟨rfl, hbw5⟩
    go_wp2_with fail
    go_ret
    exact ⟨rfl, ((unhide HB4).trans (hbw4.mono (unhide HB4).size)).trans (hbw5.mono (Nat.le_trans (unhide HB4).size hbw4.size))⟩

set_option maxHeartbeats 4000000 in
theorem meets_none (a b c d n : Int) (i1 i2 : Bool) (w : World) (HT : Hid (Tab w)) (HM : Hid (MeetIs a b c d 0 0 false)) (HM' : Hid (MeetIs c d a b 0 0 false))
    (HC : Hid (CheckIs a b 0)) (HC' : Hid (CheckIs c d 0))
    (HI1 : Hid (inB [(a, b)] n = i1)) (HI2 : Hid (inB [(c, d)] n = i2)) (hi : i1 = false ∨ (i1 = true ∧ i2 = false)) :
    Calls Tryd.prog 9 #[ivV a b, ivV c d, .int .i64 n] w (LawOk w) := by
  have hneq : ∀ W, (binOp .neq 34 (ivV 0 0) (ivV 0 0)).run Tryd.prog W = .ok (.bool false) W := fun W => by rw [run_neq_iv]; simp
  have heq : ∀ W, (binOp .eql 34 (ivV 0 0) (ivV 0 0)).run Tryd.prog W = .ok (.bool true) W := fun W => by rw [run_eql_iv]; simp
  rcases hi with rfl | ⟨rfl, rfl⟩
  · go_enter Tryd.func9, Tryd.ntmps9
    go_wp2_with fail
    refine (sane_any _ ((unhide HT).below (by go_grown))).mono ?_; rintro e w1 ⟨rfl, hb1⟩; obtain ⟨hc, hf⟩ := oldCells hb1
    have hz : w.heap.size + 1 < w1.heap.size := by have := hb1.size; simp at this; omega
    have hz0 : w.heap.size < w1.heap.size := by omega
    go_wp2_with fail
    refine ((unhide HM) _).mono ?_; rintro e w2 ⟨rfl, hb2⟩
    have hbA := thenB hb1 hb2; clear hc hf hb1 hb2 hz hz0; obtain ⟨hc, hf⟩ := oldCells hbA
    have hz : w.heap.size + 1 < w2.heap.size := by have := hbA.size; simp at this; omega
    have hz0 : w.heap.size < w2.heap.size := by omega
    go_wp2_with fail
    refine ((unhide HM') _).mono ?_; rintro e w3 ⟨rfl, hb3⟩
    have hbX := hb3
    have hbA3 := (hbA.alloc hbA.size (.cells #[.int .i64 0, .int .i64 0] 34)).trans (hb3.mono (by have := hbA.size; simp at this ⊢; omega))
    have hzx : w2.heap.size < w3.heap.size := by have := hbX.size; simp at this; omega
    have hz2 : w.heap.size + 1 < w3.heap.size := by omega
    have hz20 : w.heap.size < w3.heap.size := by omega
    clear hc hf hb3 hbA; obtain ⟨hc, hf⟩ := oldCells hbA3; obtain ⟨hcx, hfx⟩ := oldCells hbX
    have hW3 : Below w.heap.size w w3 := (show Below w.heap.size w ((w.alloc _).alloc _) from by go_grown).trans (hbA3.mono (by simp; omega))
    have HA3 := hide hbA3; have HX3 := hide hbX; have HW3 := hide hW3; clear hbA3 hbX hW3
    go_wp2_with fail
    refine ((unhide HC) _).mono ?_; rintro e w4 ⟨rfl, hb⟩
    have HA4 := hide (adv (unhide HA3) hb); have HX4 := hide (adv (unhide HX3) hb); have HW4 := hide (advW (unhide HW3) hb); clear hb
    clear hc hf hcx hfx; obtain ⟨hc, hf⟩ := oldCells (unhide HA4); obtain ⟨hcx, hfx⟩ := oldCells (unhide HX4)
    have hy4 : w.heap.size + 1 < w4.heap.size ∧ w.heap.size < w4.heap.size ∧ w2.heap.size < w4.heap.size := by have h1 := (unhide HA4).size; have h2 := (unhide HX4).size; simp at h1 h2; omega
    obtain ⟨hy4a, hy4b, hy4c⟩ := hy4
    go_wp2_with fail
    refine ((unhide HC') _).mono ?_; rintro e w5 ⟨rfl, hb⟩
    have HA5 := hide (thenB (unhide HA4) hb); have HX5 := hide (thenB (unhide HX4) hb); have HW5 := hide (thenW (unhide HW4) hb); clear hb
    clear hc hf hcx hfx; obtain ⟨hc, hf⟩ := oldCells (unhide HA5); obtain ⟨hcx, hfx⟩ := oldCells (unhide HX5)
    have hy5 : w.heap.size + 1 < w5.heap.size ∧ w.heap.size < w5.heap.size ∧ w2.heap.size < w5.heap.size := by have h1 := (unhide HA5).size; have h2 := (unhide HX5).size; simp at h1 h2; omega
    obtain ⟨hy5a, hy5b, hy5c⟩ := hy5
    go_wp2_with fail
    refine (in_one a b n _ _ _ (unhide HI1) (by go_simp) (by go_simp)).mono ?_; rintro e w6 ⟨rfl, hb⟩
    have HA6 := hide (adv (unhide HA5) hb); have HX6 := hide (adv (unhide HX5) hb); have HW6 := hide (advW (unhide HW5) hb); clear hb
    clear hc hf hcx hfx; obtain ⟨hc, hf⟩ := oldCells (unhide HA6); obtain ⟨hcx, hfx⟩ := oldCells (unhide HX6)
    have hy6 : w.heap.size + 1 < w6.heap.size ∧ w.heap.size < w6.heap.size ∧ w2.heap.size < w6.heap.size := by have h1 := (unhide HA6).size; have h2 := (unhide HX6).size; simp at h1 h2; omega
    obtain ⟨hy6a, hy6b, hy6c⟩ := hy6
    go_wp2_with fail
    go_ret
    exact ⟨rfl, unhide HW6⟩
  · go_enter Tryd.func9, Tryd.ntmps9
    go_wp2_with fail
    refine (sane_any _ ((unhide HT).below (by go_grown))).mono ?_; rintro e w1 ⟨rfl, hb1⟩; obtain ⟨hc, hf⟩ := oldCells hb1
    have hz : w.heap.size + 1 < w1.heap.size := by have := hb1.size; simp at this; omega
    have hz0 : w.heap.size < w1.heap.size := by omega
    go_wp2_with fail
    refine ((unhide HM) _).mono ?_; rintro e w2 ⟨rfl, hb2⟩
    have hbA := thenB hb1 hb2; clear hc hf hb1 hb2 hz hz0; obtain ⟨hc, hf⟩ := oldCells hbA
    have hz : w.heap.size + 1 < w2.heap.size := by have := hbA.size; simp at this; omega
    have hz0 : w.heap.size < w2.heap.size := by omega
    go_wp2_with fail
    refine ((unhide HM') _).mono ?_; rintro e w3 ⟨rfl, hb3⟩
    have hbX := hb3
    have hbA3 := (hbA.alloc hbA.size (.cells #[.int .i64 0, .int .i64 0] 34)).trans (hb3.mono (by have := hbA.size; simp at this ⊢; omega))
    have hzx : w2.heap.size < w3.heap.size := by have := hbX.size; simp at this; omega
    have hz2 : w.heap.size + 1 < w3.heap.size := by omega
    have hz20 : w.heap.size < w3.heap.size := by omega
    clear hc hf hb3 hbA; obtain ⟨hc, hf⟩ := oldCells hbA3; obtain ⟨hcx, hfx⟩ := oldCells hbX
    have hW3 : Below w.heap.size w w3 := (show Below w.heap.size w ((w.alloc _).alloc _) from by go_grown).trans (hbA3.mono (by simp; omega))
    have HA3 := hide hbA3; have HX3 := hide hbX; have HW3 := hide hW3; clear hbA3 hbX hW3
    go_wp2_with fail
    refine ((unhide HC) _).mono ?_; rintro e w4 ⟨rfl, hb⟩
    have HA4 := hide (adv (unhide HA3) hb); have HX4 := hide (adv (unhide HX3) hb); have HW4 := hide (advW (unhide HW3) hb); clear hb
    clear hc hf hcx hfx; obtain ⟨hc, hf⟩ := oldCells (unhide HA4); obtain ⟨hcx, hfx⟩ := oldCells (unhide HX4)
    have hy4 : w.heap.size + 1 < w4.heap.size ∧ w.heap.size < w4.heap.size ∧ w2.heap.size < w4.heap.size := by have h1 := (unhide HA4).size; have h2 := (unhide HX4).size; simp at h1 h2; omega
    obtain ⟨hy4a, hy4b, hy4c⟩ := hy4
    go_wp2_with fail
    refine ((unhide HC') _).mono ?_; rintro e w5 ⟨rfl, hb⟩
    have HA5 := hide (thenB (unhide HA4) hb); have HX5 := hide (thenB (unhide HX4) hb); have HW5 := hide (thenW (unhide HW4) hb); clear hb
    clear hc hf hcx hfx; obtain ⟨hc, hf⟩ := oldCells (unhide HA5); obtain ⟨hcx, hfx⟩ := oldCells (unhide HX5)
    have hy5 : w.heap.size + 1 < w5.heap.size ∧ w.heap.size < w5.heap.size ∧ w2.heap.size < w5.heap.size := by have h1 := (unhide HA5).size; have h2 := (unhide HX5).size; simp at h1 h2; omega
    obtain ⟨hy5a, hy5b, hy5c⟩ := hy5
    go_wp2_with fail
    refine (in_one a b n _ _ _ (unhide HI1) (by go_simp) (by go_simp)).mono ?_; rintro e w6 ⟨rfl, hb⟩
    have HA6 := hide (adv (unhide HA5) hb); have HX6 := hide (adv (unhide HX5) hb); have HW6 := hide (advW (unhide HW5) hb); clear hb
    clear hc hf hcx hfx; obtain ⟨hc, hf⟩ := oldCells (unhide HA6); obtain ⟨hcx, hfx⟩ := oldCells (unhide HX6)
    have hy6 : w.heap.size + 1 < w6.heap.size ∧ w.heap.size < w6.heap.size ∧ w2.heap.size < w6.heap.size := by have h1 := (unhide HA6).size; have h2 := (unhide HX6).size; simp at h1 h2; omega
    obtain ⟨hy6a, hy6b, hy6c⟩ := hy6
    go_wp2_with fail
    refine (in_one c d n _ _ _ (unhide HI2) (by go_simp) (by go_simp)).mono ?_; rintro e w7 ⟨rfl, hb⟩
    have HA7 := hide (adv (unhide HA6) hb); have HX7 := hide (adv (unhide HX6) hb); have HW7 := hide (advW (unhide HW6) hb); clear hb
    clear hc hf hcx hfx; obtain ⟨hc, hf⟩ := oldCells (unhide HA7); obtain ⟨hcx, hfx⟩ := oldCells (unhide HX7)
    have hy7 : w.heap.size + 1 < w7.heap.size ∧ w.heap.size < w7.heap.size ∧ w2.heap.size < w7.heap.size := by have h1 := (unhide HA7).size; have h2 := (unhide HX7).size; simp at h1 h2; omega
    obtain ⟨hy7a, hy7b, hy7c⟩ := hy7
    go_wp2_with fail
    go_ret
    exact ⟨rfl, unhide HW7⟩

set_option maxHeartbeats 4000000 in
theorem meets_some (a b c d n x1 x2 : Int) (i1 i2 i3 : Bool) (w : World) (HT : Hid (Tab w)) (HM : Hid (MeetIs a b c d x1 x2 true)) (HM' : Hid (MeetIs c d a b x1 x2 true))
    (HC : Hid (CheckIs a b 0)) (HC' : Hid (CheckIs c d 0)) (HCx : Hid (CheckIs x1 x2 0))
    (HI1 : Hid (inB [(a, b)] n = i1)) (HI2 : Hid (inB [(c, d)] n = i2)) (HI3 : Hid (inB [(x1, x2)] n = i3)) (hi : (i1 = false ∧ i3 = false) ∨ (i1 = true ∧ i3 = i2)) :
    Calls Tryd.prog 9 #[ivV a b, ivV c d, .int .i64 n] w (LawOk w) := by
  have hneq : ∀ W, (binOp .neq 34 (ivV x1 x2) (ivV x1 x2)).run Tryd.prog W = .ok (.bool false) W := fun W => by rw [run_neq_iv]; simp
  rcases hi with ⟨rfl, rfl⟩ | ⟨rfl, rfl⟩
  · go_enter Tryd.func9, Tryd.ntmps9
    go_wp2_with fail
    refine (sane_any _ ((unhide HT).below (by go_grown))).mono ?_; rintro e w1 ⟨rfl, hb1⟩; obtain ⟨hc, hf⟩ := oldCells hb1
    have hz : w.heap.size + 1 < w1.heap.size := by have := hb1.size; simp at this; omega
    have hz0 : w.heap.size < w1.heap.size := by omega
    go_wp2_with fail
    refine ((unhide HM) _).mono ?_; rintro e w2 ⟨rfl, hb2⟩
    have hbA := thenB hb1 hb2; clear hc hf hb1 hb2 hz hz0; obtain ⟨hc, hf⟩ := oldCells hbA
    have hz : w.heap.size + 1 < w2.heap.size := by have := hbA.size; simp at this; omega
    have hz0 : w.heap.size < w2.heap.size := by omega
    go_wp2_with fail
    refine ((unhide HM') _).mono ?_; rintro e w3 ⟨rfl, hb3⟩
    have hbX := hb3
    have hbA3 := (hbA.alloc hbA.size (.cells #[.int .i64 x1, .int .i64 x2] 34)).trans (hb3.mono (by have := hbA.size; simp at this ⊢; omega))
    have hzx : w2.heap.size < w3.heap.size := by have := hbX.size; simp at this; omega
    have hz2 : w.heap.size + 1 < w3.heap.size := by omega
    have hz20 : w.heap.size < w3.heap.size := by omega
    clear hc hf hb3 hbA; obtain ⟨hc, hf⟩ := oldCells hbA3; obtain ⟨hcx, hfx⟩ := oldCells hbX
    have hW3 : Below w.heap.size w w3 := (show Below w.heap.size w ((w.alloc _).alloc _) from by go_grown).trans (hbA3.mono (by simp; omega))
    have HA3 := hide hbA3; have HX3 := hide hbX; have HW3 := hide hW3; clear hbA3 hbX hW3
    go_wp2_with fail
    refine ((unhide HC) _).mono ?_; rintro e w4 ⟨rfl, hb⟩
    have HA4 := hide (adv (unhide HA3) hb); have HX4 := hide (adv (unhide HX3) hb); have HW4 := hide (advW (unhide HW3) hb); clear hb
    clear hc hf hcx hfx; obtain ⟨hc, hf⟩ := oldCells (unhide HA4); obtain ⟨hcx, hfx⟩ := oldCells (unhide HX4)
    have hy4 : w.heap.size + 1 < w4.heap.size ∧ w.heap.size < w4.heap.size ∧ w2.heap.size < w4.heap.size := by have h1 := (unhide HA4).size; have h2 := (unhide HX4).size; simp at h1 h2; omega
    obtain ⟨hy4a, hy4b, hy4c⟩ := hy4
    go_wp2_with fail
    refine ((unhide HC') _).mono ?_; rintro e w5 ⟨rfl, hb⟩
    have HA5 := hide (thenB (unhide HA4) hb); have HX5 := hide (thenB (unhide HX4) hb); have HW5 := hide (thenW (unhide HW4) hb); clear hb
    clear hc hf hcx hfx; obtain ⟨hc, hf⟩ := oldCells (unhide HA5); obtain ⟨hcx, hfx⟩ := oldCells (unhide HX5)
    have hy5 : w.heap.size + 1 < w5.heap.size ∧ w.heap.size < w5.heap.size ∧ w2.heap.size < w5.heap.size := by have h1 := (unhide HA5).size; have h2 := (unhide HX5).size; simp at h1 h2; omega
    obtain ⟨hy5a, hy5b, hy5c⟩ := hy5
    go_wp2_with fail
    refine (in_one a b n _ _ _ (unhide HI1) (by go_simp) (by go_simp)).mono ?_; rintro e w6 ⟨rfl, hb⟩
    have HA6 := hide (adv (unhide HA5) hb); have HX6 := hide (adv (unhide HX5) hb); have HW6 := hide (advW (unhide HW5) hb); clear hb
    clear hc hf hcx hfx; obtain ⟨hc, hf⟩ := oldCells (unhide HA6); obtain ⟨hcx, hfx⟩ := oldCells (unhide HX6)
    have hy6 : w.heap.size + 1 < w6.heap.size ∧ w.heap.size < w6.heap.size ∧ w2.heap.size < w6.heap.size := by have h1 := (unhide HA6).size; have h2 := (unhide HX6).size; simp at h1 h2; omega
    obtain ⟨hy6a, hy6b, hy6c⟩ := hy6
    go_wp2_with fail
    refine ((unhide HCx) _).mono ?_; rintro e w7 ⟨rfl, hb⟩
    have HA7 := hide (thenB (unhide HA6) hb); have HX7 := hide (thenB (unhide HX6) hb); have HW7 := hide (thenW (unhide HW6) hb); clear hb
    clear hc hf hcx hfx; obtain ⟨hc, hf⟩ := oldCells (unhide HA7); obtain ⟨hcx, hfx⟩ := oldCells (unhide HX7)
    have hy7 : w.heap.size + 1 < w7.heap.size ∧ w.heap.size < w7.heap.size ∧ w2.heap.size < w7.heap.size := by have h1 := (unhide HA7).size; have h2 := (unhide HX7).size; simp at h1 h2; omega
    obtain ⟨hy7a, hy7b, hy7c⟩ := hy7
    go_wp2_with fail
    refine (in_one x1 x2 n _ _ _ (unhide HI3) (by go_simp) (by go_simp)).mono ?_; rintro e w8 ⟨rfl, hb⟩
    have HA8 := hide (adv (unhide HA7) hb); have HX8 := hide (adv (unhide HX7) hb); have HW8 := hide (advW (unhide HW7) hb); clear hb
    go_wp2_with fail
    go_ret
    exact ⟨rfl, unhide HW8⟩
  · cases i3
    all_goals
      go_enter Tryd.func9, Tryd.ntmps9
      go_wp2_with fail
      refine (sane_any _ ((unhide HT).below (by go_grown))).mono ?_; rintro e w1 ⟨rfl, hb1⟩; obtain ⟨hc, hf⟩ := oldCells hb1
      have hz : w.heap.size + 1 < w1.heap.size := by have := hb1.size; simp at this; omega
      have hz0 : w.heap.size < w1.heap.size := by omega
      go_wp2_with fail
      refine ((unhide HM) _).mono ?_; rintro e w2 ⟨rfl, hb2⟩
      have hbA := thenB hb1 hb2; clear hc hf hb1 hb2 hz hz0; obtain ⟨hc, hf⟩ := oldCells hbA
      have hz : w.heap.size + 1 < w2.heap.size := by have := hbA.size; simp at this; omega
      have hz0 : w.heap.size < w2.heap.size := by omega
      go_wp2_with fail
      refine ((unhide HM') _).mono ?_; rintro e w3 ⟨rfl, hb3⟩
      have hbX := hb3
      have hbA3 := (hbA.alloc hbA.size (.cells #[.int .i64 x1, .int .i64 x2] 34)).trans (hb3.mono (by have := hbA.size; simp at this ⊢; omega))
      have hzx : w2.heap.size < w3.heap.size := by have := hbX.size; simp at this; omega
      have hz2 : w.heap.size + 1 < w3.heap.size := by omega
      have hz20 : w.heap.size < w3.heap.size := by omega
      clear hc hf hb3 hbA; obtain ⟨hc, hf⟩ := oldCells hbA3; obtain ⟨hcx, hfx⟩ := oldCells hbX
      have hW3 : Below w.heap.size w w3 := (show Below w.heap.size w ((w.alloc _).alloc _) from by go_grown).trans (hbA3.mono (by simp; omega))
      have HA3 := hide hbA3; have HX3 := hide hbX; have HW3 := hide hW3; clear hbA3 hbX hW3
      go_wp2_with fail
      refine ((unhide HC) _).mono ?_; rintro e w4 ⟨rfl, hb⟩
      have HA4 := hide (adv (unhide HA3) hb); have HX4 := hide (adv (unhide HX3) hb); have HW4 := hide (advW (unhide HW3) hb); clear hb
      clear hc hf hcx hfx; obtain ⟨hc, hf⟩ := oldCells (unhide HA4); obtain ⟨hcx, hfx⟩ := oldCells (unhide HX4)
      have hy4 : w.heap.size + 1 < w4.heap.size ∧ w.heap.size < w4.heap.size ∧ w2.heap.size < w4.heap.size := by have h1 := (unhide HA4).size; have h2 := (unhide HX4).size; simp at h1 h2; omega
      obtain ⟨hy4a, hy4b, hy4c⟩ := hy4
      go_wp2_with fail
      refine ((unhide HC') _).mono ?_; rintro e w5 ⟨rfl, hb⟩
      have HA5 := hide (thenB (unhide HA4) hb); have HX5 := hide (thenB (unhide HX4) hb); have HW5 := hide (thenW (unhide HW4) hb); clear hb
      clear hc hf hcx hfx; obtain ⟨hc, hf⟩ := oldCells (unhide HA5); obtain ⟨hcx, hfx⟩ := oldCells (unhide HX5)
      have hy5 : w.heap.size + 1 < w5.heap.size ∧ w.heap.size < w5.heap.size ∧ w2.heap.size < w5.heap.size := by have h1 := (unhide HA5).size; have h2 := (unhide HX5).size; simp at h1 h2; omega
      obtain ⟨hy5a, hy5b, hy5c⟩ := hy5
      go_wp2_with fail
      refine (in_one a b n _ _ _ (unhide HI1) (by go_simp) (by go_simp)).mono ?_; rintro e w6 ⟨rfl, hb⟩
      have HA6 := hide (adv (unhide HA5) hb); have HX6 := hide (adv (unhide HX5) hb); have HW6 := hide (advW (unhide HW5) hb); clear hb
      clear hc hf hcx hfx; obtain ⟨hc, hf⟩ := oldCells (unhide HA6); obtain ⟨hcx, hfx⟩ := oldCells (unhide HX6)
      have hy6 : w.heap.size + 1 < w6.heap.size ∧ w.heap.size < w6.heap.size ∧ w2.heap.size < w6.heap.size := by have h1 := (unhide HA6).size; have h2 := (unhide HX6).size; simp at h1 h2; omega
      obtain ⟨hy6a, hy6b, hy6c⟩ := hy6
      go_wp2_with fail
      refine (in_one c d n _ _ _ (unhide HI2) (by go_simp) (by go_simp)).mono ?_; rintro e w7 ⟨rfl, hb⟩
      have HA7 := hide (adv (unhide HA6) hb); have HX7 := hide (adv (unhide HX6) hb); have HW7 := hide (advW (unhide HW6) hb); clear hb
      clear hc hf hcx hfx; obtain ⟨hc, hf⟩ := oldCells (unhide HA7); obtain ⟨hcx, hfx⟩ := oldCells (unhide HX7)
      have hy7 : w.heap.size + 1 < w7.heap.size ∧ w.heap.size < w7.heap.size ∧ w2.heap.size < w7.heap.size := by have h1 := (unhide HA7).size; have h2 := (unhide HX7).size; simp at h1 h2; omega
      obtain ⟨hy7a, hy7b, hy7c⟩ := hy7
      go_wp2_with fail
      refine ((unhide HCx) _).mono ?_; rintro e w8 ⟨rfl, hb⟩
      have HA8 := hide (thenB (unhide HA7) hb); have HX8 := hide (thenB (unhide HX7) hb); have HW8 := hide (thenW (unhide HW7) hb); clear hb
      clear hc hf hcx hfx; obtain ⟨hc, hf⟩ := oldCells (unhide HA8); obtain ⟨hcx, hfx⟩ := oldCells (unhide HX8)
      have hy8 : w.heap.size + 1 < w8.heap.size ∧ w.heap.size < w8.heap.size ∧ w2.heap.size < w8.heap.size := by have h1 := (unhide HA8).size; have h2 := (unhide HX8).size; simp at h1 h2; omega
      obtain ⟨hy8a, hy8b, hy8c⟩ := hy8
      go_wp2_with fail
      refine (in_one x1 x2 n _ _ _ (unhide HI3) (by go_simp) (by go_simp)).mono ?_; rintro e w9 ⟨rfl, hb⟩
      have HA9 := hide (adv (unhide HA8) hb); have HX9 := hide (adv (unhide HX8) hb); have HW9 := hide (advW (unhide HW8) hb); clear hb
      go_wp2_with fail
      go_ret
      exact ⟨rfl, unhide HW9⟩

theorem mx_comm (a c : Int) : mx a c = mx c a := by unfold mx; split <;> split <;> omega
theorem mn_comm (a c : Int) : mn a c = mn c a := by unfold mn; split <;> split <;> omega
theorem meetR_comm (a b c d : Int) : meetR c d a b = meetR a b c d := by
  unfold meetR meetB meetV
  rw [mx_comm c a, mn_comm d b]
  cases ivOk a b <;> cases ivOk c d <;> rfl
theorem inB_one (a b n : Int) : inB [(a, b)] n = true ↔ a ≤ n ∧ n ≤ b := by simp [inB]

theorem meets_any (a b c d n : Int) (w : World) (hT : Tab w) :
    Calls Tryd.prog 9 #[ivV a b, ivV c d, .int .i64 n] w (LawOk w) := by
  have hm := fun W => meet_any a b c d W
  have hm' := fun W => meet_any c d a b W
  rw [meetR_comm] at hm'
  have hc := fun W => check_any a b W
  have hc' := fun W => check_any c d W
  cases h : ivOk a b
  · have e : meetR a b c d = .tuple #[ivV 0 0, .bool false] := by simp [meetR, meetB, h]
    rw [e] at hm hm'
    rw [ivE_f h] at hc
    exact meets_bad a b c d n 0 0 10 _ w hT hm hm' hc hc' (.inl rfl)
  · rw [ivE_t h] at hc
    cases h' : ivOk c d
    · have e : meetR a b c d = .tuple #[ivV 0 0, .bool false] := by simp [meetR, meetB, h']
      rw [e] at hm hm'
      rw [ivE_f h'] at hc'
      exact meets_bad a b c d n 0 0 0 10 w hT hm hm' hc hc' (.inr ⟨rfl, rfl⟩)
    · rw [ivE_t h'] at hc'
      by_cases hle : mx a c ≤ mn b d
      · have e : meetR a b c d = .tuple #[ivV (mx a c) (mn b d), .bool true] := by simp [meetR, meetB, h, h', hle, meetV]
        rw [e] at hm hm'
        have hok : ivOk (mx a c) (mn b d) = true := by
          have g := (ivOk_iff _ _).1 h
          have g' := (ivOk_iff _ _).1 h'
          refine (ivOk_iff _ _).2 ⟨?_, ?_, hle⟩
          · unfold mx; split <;> omega
          · unfold mn; split <;> omega
        have hcx := fun W => check_any (mx a c) (mn b d) W
        rw [ivE_t hok] at hcx
        refine meets_some a b c d n _ _ _ _ _ w hT hm hm' hc hc' hcx rfl rfl rfl ?_
        have key : (inB [(a, b)] n && inB [(c, d)] n) = inB [(mx a c, mn b d)] n := by
          rw [Bool.eq_iff_iff, Bool.and_eq_true, inB_one, inB_one, inB_one]
          unfold mx mn
          split <;> split <;> omega
        cases h1 : inB [(a, b)] n
        · rw [h1, Bool.false_and] at key; exact .inl ⟨rfl, key.symm⟩
        · rw [h1, Bool.true_and] at key; exact .inr ⟨rfl, key.symm⟩
      · have e : meetR a b c d = .tuple #[ivV 0 0, .bool false] := by simp [meetR, meetB, hle]
        rw [e] at hm hm'
        refine meets_none a b c d n _ _ w hT hm hm' hc hc' rfl rfl ?_
        cases h1 : inB [(a, b)] n
        · exact .inl rfl
        · refine .inr ⟨rfl, ?_⟩
          cases h2 : inB [(c, d)] n
          · rfl
          · exfalso
            have g1 := (inB_one _ _ _).1 h1
            have g2 := (inB_one _ _ _).1 h2
            apply hle
            unfold mx mn
            split <;> split <;> omega

end Go.Proofs.YtbfpbmijmiljlaaDoor
