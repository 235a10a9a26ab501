/- Contracts over the calendar's program, each for every input under its hypotheses: isDate, Day, Weekday, Next. -/
import Derived.Test.YtbfpbmijmiljlaaDoorCalWalkA
namespace Go.Proofs.YtbfpbmijmiljlaaDoor
set_option linter.unusedSimpArgs false
set_option linter.unusedVariables false
open Go.RowKit

theorem belowDrewN {B : Nat} {a w : World} (n : Nat) (h : Below B a w) : Below B a (w.drewN n) := ⟨h.os, h.tape, h.output, h.size, h.block⟩

theorem oldCells {W w1 : World} (hb : Below W.heap.size W w1) : (∀ b o, b < W.heap.size → w1.cell? ⟨b, o, none⟩ = W.cell? ⟨b, o, none⟩) ∧ (∀ b o, b < W.heap.size → w1.frozen? ⟨b, o, none⟩ = W.frozen? ⟨b, o, none⟩) :=
  ⟨fun b o h => hb.cell (p := ⟨b, o, none⟩) h, fun b o h => hb.frozen (p := ⟨b, o, none⟩) h⟩

abbrev dateV (y m d : Int) : Value := .agg #[.int .i64 y, .int .i64 m, .int .i64 d]

theorem Tab.below {w w' : World} (h : Tab w) (hb : Below w.heap.size w w') : Tab w' := by
  intro k hk
  have h0 : 0 < w.heap.size := by
    rcases Nat.eq_zero_or_pos w.heap.size with e | e
    · have := h 0 (by omega)
      simp [World.cell?, Array.eq_empty_of_size_eq_zero e] at this
    · exact e
  rw [hb.cell (p := ⟨0, k, none⟩) h0]
  exact h k hk

theorem isDate_yes (y m d : Int) (w : World) (hT : Tab w) (h : CalM.vld y m d = true) (hy : y ≤ 1050576) :
    Calls Tryd.prog 29 #[dateV y m d] w fun e w' => e = .returned (.bool true) ∧ Below w.heap.size w w' := by
  obtain ⟨g1, g2, g3, g4, g5⟩ := (CalM.vld_iff y m d).1 h
  clear h
  go_enter Tryd.func29, Tryd.ntmps29
  go_wp2
  go_quiet ((go_at_call 31; exact Calls.quiet_of_same (monthLength_any _ _ _ (hT.below (belowDrewN _ (by go_grown))) (by omega) (by omega) (by omega))))
  go_wp2
  go_ret
  exact ⟨rfl, belowDrewN _ (by go_grown)⟩


theorem isDate_no (y m d : Int) (w : World) (hT : Tab w) (h : ¬ (2000 ≤ y ∧ y ≤ 1050576 ∧ 1 ≤ m ∧ m ≤ 12 ∧ 1 ≤ d ∧ d ≤ CalM.ml y m)) :
    Calls Tryd.prog 29 #[dateV y m d] w fun e w' => e = .returned (.bool false) ∧ Below w.heap.size w w' := by
  by_cases h1 : 2000 ≤ y
  · by_cases h2 : y ≤ 1050576
    · by_cases h3 : 1 ≤ m
      · by_cases h4 : m ≤ 12
        · by_cases h5 : 1 ≤ d
          · have h6 : CalM.ml y m < d := by omega
            have h6' : decide (d ≤ CalM.ml y m) = false := by simpa using h6
            clear h
            go_enter Tryd.func29, Tryd.ntmps29
            go_wp2
            go_quiet ((go_at_call 31; exact Calls.quiet_of_same (monthLength_any _ _ _ (hT.below (belowDrewN _ (by go_grown))) (by omega) (by omega) (by omega))))
            go_wp2
            go_ret
            exact ⟨rfl, belowDrewN _ (by go_grown)⟩
          · clear h
            have h5' : decide (1 ≤ d) = false := by simpa using h5
            go_enter Tryd.func29, Tryd.ntmps29
            go_wp2
            go_quiet (fail)
            go_wp2
            go_ret
            exact ⟨rfl, belowDrewN _ (by go_grown)⟩
        · clear h
          go_enter Tryd.func29, Tryd.ntmps29
          go_wp2
          go_ret
          exact ⟨rfl, by go_grown⟩
      · clear h
        go_enter Tryd.func29, Tryd.ntmps29
        go_wp2
        go_ret
        exact ⟨rfl, by go_grown⟩
    · clear h
      go_enter Tryd.func29, Tryd.ntmps29
      go_wp2
      go_ret
      exact ⟨rfl, by go_grown⟩
  · clear h
    go_enter Tryd.func29, Tryd.ntmps29
    go_wp2
    go_ret
    exact ⟨rfl, by go_grown⟩

def dayR (y m d : Int) : Value := if CalM.ok y m d then .tuple #[.int .i64 (CalM.num y m d), .int .i64 0] else .tuple #[.int .i64 0, .int .i64 10]

set_option maxHeartbeats 1000000 in
theorem day_valid (y m d : Int) (w : World) (hT : Tab w) (h : CalM.vld y m d = true) (hy : y ≤ 1050576) :
    Calls Tryd.prog 11 #[dateV y m d] w fun e w' => e = .returned (dayR y m d) ∧ Below w.heap.size w w' := by
  obtain ⟨g1, g2, g3, g4, g5⟩ := (CalM.vld_iff y m d).1 h
  have hml := CalM.ml_bd y m
  have hfu := CalM.fd_upper y g1
  have hfl := CalM.fd_lower y g1
  have hnum : CalM.num y m d = CalM.fd y + CalM.cum y m + d - 1 := rfl
  have H := Lib.hid h; clear h
  have HN := Lib.hid hnum; clear hnum
  go_enter Tryd.func11, Tryd.ntmps11
  go_wp2_with (go_at_call 29; refine (isDate_yes _ _ _ _ (hT.below (by go_grown)) H.out hy).mono ?_; rintro e w1 ⟨rfl, hb1⟩)
  obtain ⟨hc, hf⟩ := oldCells hb1
  go_quiet ((go_at_call 30; exact Calls.quiet_of_same (firstDay_any _ _ (by omega) (by omega))))
  have hT1 : Tab (w1.drewN nq) := hT.below (belowDrewN _ ((show Below w.heap.size w (w.alloc _) from by go_grown).trans (hb1.mono (by simp))))
  go_wp2
  go_loop [2, 18] (fun a i => ∃ k : Nat, k ≤ m - 1 ∧ i = .int .i64 k ∧ a = .int .i64 (CalM.fd y + d - 1 + CalM.cum y (k + 1))) (fun _ i => (m - 1 - intOf i).toNat)
  case atStart => exact ⟨0, by omega, rfl, by simp [CalM.cum]⟩
  case round =>
    obtain ⟨k, hk, rfl, rfl⟩ := hrel
    have hcb := CalM.cum_bd y (k + 1)
    by_cases hlt : (k : Int) < m - 1
    · have hcs := CalM.cum_succ y (k + 1) (by omega) (by omega)
      have hmb := CalM.ml_bd y (k + 1)
      have HC := Lib.hid hcs; clear hcs
      go_wp2_with (go_at_call 31; refine (monthLength_any _ _ _ hT1 (by omega) (by omega) (by omega)).mono ?_; rintro e w' ⟨rfl, rfl⟩)
      go_round
      case rel =>
        refine ⟨k + 1, by omega, by go_num, ?_⟩
        have := HC.out
        congr 1
        push_cast
        omega
      case measure => simp [intOf]; omega
    · have hkm : (k : Int) + 1 = m := by omega
      have HK := Lib.hid hkm; clear hkm
      by_cases hbig : CalM.fd y + d - 1 + CalM.cum y (k + 1) ≤ 1048576
      · have hd : CalM.isDay (CalM.fd y + d - 1 + CalM.cum y (k + 1)) = true := by simp [CalM.isDay]; omega
        have HD := Lib.hid hd; clear hd
        go_wp2_with (go_at_call 32; refine (isDay_any _ _).mono ?_; rintro e w' ⟨rfl, rfl⟩; rw [HD.out])
        go_ret2
        refine ⟨?_, ?_⟩
        · have := HN.out
          have hk' := HK.out
          rw [hk'] at hbig ⊢
          unfold dayR
          rw [if_pos (by simp [CalM.ok, H.out]; omega), show CalM.num y m d = CalM.fd y + d - 1 + CalM.cum y m by omega]
          rfl
        · exact belowDrewN _ ((show Below w.heap.size w (w.alloc _) from by go_grown).trans (hb1.mono (by simp)))
      · have hd : CalM.isDay (CalM.fd y + d - 1 + CalM.cum y (k + 1)) = false := by simp [CalM.isDay]; omega
        have HD := Lib.hid hd; clear hd
        go_wp2_with (go_at_call 32; refine (isDay_any _ _).mono ?_; rintro e w' ⟨rfl, rfl⟩; rw [HD.out])
        go_ret2
        refine ⟨?_, ?_⟩
        · have := HN.out
          have hk' := HK.out
          rw [hk'] at hbig
          unfold dayR
          rw [if_neg (by simp [CalM.ok, H.out]; omega)]
          rfl
        · exact belowDrewN _ ((show Below w.heap.size w (w.alloc _) from by go_grown).trans (hb1.mono (by simp)))

theorem day_any (y m d : Int) (w : World) (hT : Tab w) :
    Calls Tryd.prog 11 #[dateV y m d] w fun e w' => e = .returned (dayR y m d) ∧ Below w.heap.size w w' := by
  by_cases h : 2000 ≤ y ∧ y ≤ 1050576 ∧ 1 ≤ m ∧ m ≤ 12 ∧ 1 ≤ d ∧ d ≤ CalM.ml y m
  · exact day_valid y m d w hT ((CalM.vld_iff y m d).2 (by omega)) (by omega)
  · have e : dayR y m d = .tuple #[.int .i64 0, .int .i64 10] := by
      unfold dayR
      rw [if_neg]
      intro hh
      simp only [CalM.ok, Bool.and_eq_true, decide_eq_true_eq] at hh
      have := CalM.vld_year y m d hh.1 hh.2
      have := (CalM.vld_iff y m d).1 hh.1
      omega
    rw [e]
    have H := Lib.hid h; clear h e
    go_enter Tryd.func11, Tryd.ntmps11
    go_wp2_with (go_at_call 29; refine (isDate_no _ _ _ _ (hT.below (by go_grown)) H.out).mono ?_; rintro e w1 ⟨rfl, hb1⟩)
    go_ret2
    exact ⟨rfl, (show Below w.heap.size w (w.alloc _) from by go_grown).trans (hb1.mono (by simp))⟩

theorem weekday_any (n : Int) (w : World) :
    Calls Tryd.prog 15 #[.int .i64 n] w fun e w' => e = .returned (if CalM.isDay n then .tuple #[.int .i64 ((n + 5) % 7), .int .i64 0] else .tuple #[.int .i64 0, .int .i64 10]) ∧ w' = w := by
  cases hd : CalM.isDay n
  · have HD := Lib.hid hd; clear hd
    simp only [Bool.false_eq_true, if_false]
    go_enter Tryd.func15, Tryd.ntmps15
    go_wp2_with (go_at_call 32; refine (isDay_any _ _).mono ?_; rintro e w' ⟨rfl, rfl⟩; rw [HD.out])
    go_ret2
    exact ⟨rfl, rfl⟩
  · have hb : 0 ≤ n ∧ n ≤ 1048576 := by simpa [CalM.isDay] using hd
    have HD := Lib.hid hd; clear hd
    simp only [if_true]
    obtain ⟨hb1, hb2⟩ := hb
    go_enter Tryd.func15, Tryd.ntmps15
    go_wp2_with (go_at_call 32; refine (isDay_any _ _).mono ?_; rintro e w' ⟨rfl, rfl⟩; rw [HD.out])
    go_ret2
    exact ⟨rfl, rfl⟩

theorem refWeekday_any (n : Int) (w : World) :
    Calls Tryd.prog 16 #[.int .i64 n] w fun e w' => e = .returned (if CalM.isDay n then .tuple #[.int .i64 ((n + 5) % 7), .int .i64 0] else .tuple #[.int .i64 0, .int .i64 10]) ∧ w' = w := by
  cases hd : CalM.isDay n
  · have HD := Lib.hid hd; clear hd
    simp only [Bool.false_eq_true, if_false]
    go_enter Tryd.func16, Tryd.ntmps16
    go_wp2_with (go_at_call 34; refine (valid_any _ _).mono ?_; rintro e w' ⟨rfl, rfl⟩; rw [HD.out])
    go_ret2
    exact ⟨rfl, rfl⟩
  · have hb : 0 ≤ n ∧ n ≤ 1048576 := by simpa [CalM.isDay] using hd
    have HD := Lib.hid hd; clear hd
    simp only [if_true]
    obtain ⟨hb1, hb2⟩ := hb
    go_enter Tryd.func16, Tryd.ntmps16
    go_wp2_with (go_at_call 34; refine (valid_any _ _).mono ?_; rintro e w' ⟨rfl, rfl⟩; rw [HD.out])
    go_ret2
    exact ⟨rfl, rfl⟩

def nextR (n k : Int) : Value :=
  if CalM.isDay n then (if 0 ≤ k ∧ k < 7 then (if CalM.isDay (n + (k - (n + 5)) % 7) then .tuple #[.int .i64 (n + (k - (n + 5)) % 7), .int .i64 0] else .tuple #[.int .i64 0, .int .i64 10]) else .tuple #[.int .i64 0, .int .i64 1]) else .tuple #[.int .i64 0, .int .i64 10]

theorem next_any (n k : Int) (w : World) :
    Calls Tryd.prog 17 #[.int .i64 n, .int .i64 k] w fun e w' => e = .returned (nextR n k) ∧ w' = w := by
  cases hd : CalM.isDay n
  · have HD := Lib.hid hd
    have e : nextR n k = .tuple #[.int .i64 0, .int .i64 10] := by simp [nextR, hd]
    rw [e]
    clear hd e
    go_enter Tryd.func17, Tryd.ntmps17
    go_wp2_with (go_at_call 15; refine (weekday_any _ _).mono ?_; rintro e w' ⟨rfl, rfl⟩; rw [HD.out, if_neg (by simp)])
    go_ret2
    exact ⟨rfl, rfl⟩
  · have hb : 0 ≤ n ∧ n ≤ 1048576 := by simpa [CalM.isDay] using hd
    have HD := Lib.hid hd
    obtain ⟨hb1, hb2⟩ := hb
    by_cases hk : 0 ≤ k ∧ k < 7
    · obtain ⟨k1, k2⟩ := hk
      have hm0 : 0 ≤ (n + 5) % 7 := by omega
      have hm1 : (n + 5) % 7 < 7 := by omega
      cases hd2 : CalM.isDay (n + (k - (n + 5)) % 7)
      · have e : nextR n k = .tuple #[.int .i64 0, .int .i64 10] := by simp [nextR, hd, k1, k2, hd2]
        rw [e]
        have HD2 := Lib.hid hd2
        clear hd e hd2
        go_enter Tryd.func17, Tryd.ntmps17
        go_wp2_with (first
          | (go_at_call 15; refine (weekday_any _ _).mono ?_; rintro e w' ⟨rfl, rfl⟩; rw [HD.out, if_pos rfl])
          | (go_at_call 32; refine (isDay_any _ _).mono ?_; rintro e w' ⟨rfl, rfl⟩; rw [HD2.out]))
        go_ret2
        exact ⟨rfl, rfl⟩
      · have e : nextR n k = .tuple #[.int .i64 (n + (k - (n + 5)) % 7), .int .i64 0] := by simp [nextR, hd, k1, k2, hd2]
        rw [e]
        have HD2 := Lib.hid hd2
        clear hd e hd2
        go_enter Tryd.func17, Tryd.ntmps17
        go_wp2_with (first
          | (go_at_call 15; refine (weekday_any _ _).mono ?_; rintro e w' ⟨rfl, rfl⟩; rw [HD.out, if_pos rfl])
          | (go_at_call 32; refine (isDay_any _ _).mono ?_; rintro e w' ⟨rfl, rfl⟩; rw [HD2.out]))
        go_ret2
        exact ⟨rfl, rfl⟩
    · have e : nextR n k = .tuple #[.int .i64 0, .int .i64 1] := by simp [nextR, hd]; omega
      rw [e]
      clear hd e
      have hk' : k < 0 ∨ 6 < k := by omega
      clear hk
      rcases hk' with hk | hk
      all_goals
        go_enter Tryd.func17, Tryd.ntmps17
        go_wp2_with (go_at_call 15; refine (weekday_any _ _).mono ?_; rintro e w' ⟨rfl, rfl⟩; rw [HD.out, if_pos rfl])
        go_ret2
        exact ⟨rfl, rfl⟩

end Go.Proofs.YtbfpbmijmiljlaaDoor
