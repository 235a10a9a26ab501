/- Contracts over the calendar's program, each for every input under its hypotheses: Day and Date of the reference. -/
import Derived.Test.YtbfpbmijmiljlaaDoorCalWalkC
namespace Go.Proofs.YtbfpbmijmiljlaaDoor
set_option linter.unusedSimpArgs false
set_option linter.unusedVariables false
open Go.RowKit

set_option maxHeartbeats 1000000 in
theorem refDay_bad (y m d : Int) (w : World) (h : ¬ (2000 ≤ y ∧ y ≤ 5000 ∧ 1 ≤ m ∧ m ≤ 12 ∧ 1 ≤ d ∧ d ≤ CalM.ml y m)) :
    Calls Tryd.prog 12 #[dateV y m d] w fun e w' => e = .returned (.tuple #[.int .i64 0, .int .i64 10]) ∧ Below w.heap.size w w' := by
  by_cases h1 : y < 2000
  · clear h
    have b1 : decide (y < 2000) = true := by simpa using h1
    go_enter Tryd.func12, Tryd.ntmps12
    go_wp2
    go_quiet (fail)
    go_wp2
    go_ret2
    exact ⟨rfl, belowDrewN _ (by go_grown)⟩
  · have b1 : decide (y < 2000) = false := by simpa using h1
    by_cases h2 : 5000 < y
    · clear h
      have b2 : decide (5000 < y) = true := by simpa using h2
      go_enter Tryd.func12, Tryd.ntmps12
      go_wp2
      go_quiet (fail)
      go_wp2
      go_ret2
      exact ⟨rfl, belowDrewN _ (by go_grown)⟩
    · have b2 : decide (5000 < y) = false := by simpa using h2
      by_cases h3 : m < 1
      · clear h
        have b3 : decide (m < 1) = true := by simpa using h3
        go_enter Tryd.func12, Tryd.ntmps12
        go_wp2
        go_quiet (fail)
        go_wp2
        go_ret2
        exact ⟨rfl, belowDrewN _ (by go_grown)⟩
      · have b3 : decide (m < 1) = false := by simpa using h3
        by_cases h4 : 12 < m
        · clear h
          have b4 : decide (12 < m) = true := by simpa using h4
          go_enter Tryd.func12, Tryd.ntmps12
          go_wp2
          go_quiet (fail)
          go_wp2
          go_ret2
          exact ⟨rfl, belowDrewN _ (by go_grown)⟩
        · have b4 : decide (12 < m) = false := by simpa using h4
          by_cases h5 : d < 1
          · clear h
            have b5 : decide (d < 1) = true := by simpa using h5
            go_enter Tryd.func12, Tryd.ntmps12
            go_wp2
            go_quiet (fail)
            go_wp2
            go_ret2
            exact ⟨rfl, belowDrewN _ (by go_grown)⟩
          · have b5 : decide (d < 1) = false := by simpa using h5
            have h6 : CalM.ml y m < d := by omega
            have b6 : decide (CalM.ml y m < d) = true := by simpa using h6
            clear h
            go_enter Tryd.func12, Tryd.ntmps12
            go_wp2
            go_quiet ((go_at_call 28; exact Calls.quiet_of_same (refMonth_any _ _ _ (by omega))))
            go_wp2
            go_ret2
            exact ⟨rfl, belowDrewN _ (by go_grown)⟩

set_option maxHeartbeats 2000000 in
theorem refDay_good (y m d : Int) (w : World) (h : CalM.vld y m d = true) (hy : y ≤ 5000) :
    Calls Tryd.prog 12 #[dateV y m d] w fun e w' => e = .returned (dayR y m d) ∧ Below w.heap.size w w' := by
  obtain ⟨g1, g2, g3, g4, g5⟩ := (CalM.vld_iff y m d).1 h
  have hml := CalM.ml_bd y m
  have hfu := CalM.fd_upper y g1
  have hfl := CalM.fd_lower y g1
  have hcm := CalM.cum_bd y m
  have hnum : CalM.num y m d = CalM.fd y + CalM.cum y m + d - 1 := rfl
  have H := Lib.hid h; clear h
  have HN := Lib.hid hnum; clear hnum
  have b1 : decide (y < 2000) = false := by simpa using g1
  have b2 : decide (5000 < y) = false := by simpa using hy
  have b3 : decide (m < 1) = false := by simpa using g2
  have b4 : decide (12 < m) = false := by simpa using g3
  have b5 : decide (d < 1) = false := by simpa using g4
  have b6 : decide (CalM.ml y m < d) = false := by simpa using g5
  go_enter Tryd.func12, Tryd.ntmps12
  go_wp2
  go_quiet ((go_at_call 28; exact Calls.quiet_of_same (refMonth_any _ _ _ (by omega))))
  clear b1 b2 b3 b4 b5 b6
  go_wp2
  go_loop [4, 5] (fun a i => ∃ k : Int, 2000 ≤ k ∧ k ≤ y ∧ i = .int .i64 k ∧ a = .int .i64 (d - 1 + CalM.fd k)) (fun _ i => (y - intOf i).toNat)
  case atStart => exact ⟨2000, by omega, by omega, rfl, by simp [CalM.fd]⟩
  case round =>
    obtain ⟨k, hk1, hk2, rfl, rfl⟩ := hrel
    have hku := CalM.fd_upper k hk1
    have hkl := CalM.fd_lower k hk1
    have hyb := CalM.yl_bd k
    by_cases hlt : k < y
    · have hfs := CalM.fd_succ k
      have HF := Lib.hid hfs; clear hfs
      go_wp2_with (go_at_call 33; refine (refYear_any _ _ (by omega)).mono ?_; rintro e w' ⟨rfl, rfl⟩)
      go_round
      case rel =>
        have := HF.out
        exact ⟨k + 1, by omega, by omega, rfl, by congr 1; omega⟩
      case measure => simp [intOf]; omega
    · obtain rfl : k = y := by omega
      clear hlt hk1 hk2 hku hkl
      go_wp2_with (fail)
      go_loop [4, 6] (fun a i => ∃ j : Int, 1 ≤ j ∧ j ≤ m ∧ i = .int .i64 j ∧ a = .int .i64 (d - 1 + CalM.fd k + CalM.cum k j)) (fun _ i => (m - intOf i).toNat)
      case atStart => exact ⟨1, by omega, by omega, rfl, by simp [CalM.cum]⟩
      case round =>
        obtain ⟨j, hj1, hj2, rfl, rfl⟩ := hrel
        have hcb := CalM.cum_bd k j
        have hmb := CalM.ml_bd k j
        by_cases hlt : j < m
        · have hcs := CalM.cum_succ k j (by omega) (by omega)
          have HC := Lib.hid hcs; clear hcs
          go_wp2_with (go_at_call 28; refine (refMonth_any _ _ _ (by omega)).mono ?_; rintro e w' ⟨rfl, rfl⟩)
          go_round
          case rel =>
            have := HC.out
            exact ⟨j + 1, by omega, by omega, rfl, by congr 1; omega⟩
          case measure => simp [intOf]; omega
        · obtain rfl : j = m := by omega
          cases hd : CalM.isDay (d - 1 + CalM.fd k + CalM.cum k j)
          all_goals
            have HD := Lib.hid hd; clear hd
            go_wp2_with (go_at_call 34; refine (valid_any _ _).mono ?_; rintro e w' ⟨rfl, rfl⟩; rw [HD.out])
            go_ret2
            refine ⟨?_, belowDrewN _ (by go_grown)⟩
            have hn := HN.out
            have hd := HD.out
            have hv := H.out
            unfold dayR
          · rw [if_neg]
            · rfl
            · intro hh
              simp only [CalM.ok, Bool.and_eq_true, decide_eq_true_eq] at hh
              have h2 : CalM.isDay (d - 1 + CalM.fd k + CalM.cum k j) = true := (CalM.isDay_iff _).2 ⟨by omega, by omega⟩
              rw [hd] at h2
              cases h2
          · have h2 := (CalM.isDay_iff _).1 hd
            rw [if_pos, show CalM.num k j d = d - 1 + CalM.fd k + CalM.cum k j by omega]
            · rfl
            · simp only [CalM.ok, Bool.and_eq_true, decide_eq_true_eq]
              exact ⟨hv, by omega⟩

theorem refDay_any (y m d : Int) (w : World) :
    Calls Tryd.prog 12 #[dateV y m d] w fun e w' => e = .returned (dayR y m d) ∧ Below w.heap.size w w' := by
  by_cases h : 2000 ≤ y ∧ y ≤ 5000 ∧ 1 ≤ m ∧ m ≤ 12 ∧ 1 ≤ d ∧ d ≤ CalM.ml y m
  · exact refDay_good y m d w ((CalM.vld_iff y m d).2 (by omega)) (by omega)
  · have e : dayR y m d = .tuple #[.int .i64 0, .int .i64 10] := by
      unfold dayR
      rw [if_neg]
      intro hh
      simp only [CalM.ok, Bool.and_eq_true, decide_eq_true_eq] at hh
      have := CalM.vld_year y m d hh.1 hh.2
      have := (CalM.vld_iff y m d).1 hh.1
      omega
    rw [e]
    exact refDay_bad y m d w h

theorem refDate_no (n : Int) (w : World) (h : CalM.isDay n = false) :
    Calls Tryd.prog 14 #[.int .i64 n] w fun e w' => e = .returned (.tuple #[dateV 0 0 0, .int .i64 10]) ∧ Below w.heap.size w w' := by
  have HD := Lib.hid h; clear h
  go_enter Tryd.func14, Tryd.ntmps14
  go_wp2_with (go_at_call 34; refine (valid_any _ _).mono ?_; rintro e w' ⟨rfl, rfl⟩; rw [HD.out])
  exact bodyPost_ret (v := .tuple #[dateV 0 0 0, .int .i64 10]) (by simp [results, Tryd.results14, go_sem]) rfl ⟨rfl, by go_grown⟩

set_option maxHeartbeats 2000000 in
theorem refDate_yes (n : Int) (w : World) (h : CalM.isDay n = true) :
    Calls Tryd.prog 14 #[.int .i64 n] w fun e w' => ∃ y m d : Int, e = .returned (.tuple #[dateV y m d, .int .i64 0]) ∧ CalM.vld y m d = true ∧ CalM.num y m d = n ∧ Below w.heap.size w w' := by
  have hb : 0 ≤ n ∧ n ≤ 1048576 := by simpa [CalM.isDay] using h
  have HD := Lib.hid h; clear h
  obtain ⟨hb1, hb2⟩ := hb
  go_enter Tryd.func14, Tryd.ntmps14
  go_wp2_with (go_at_call 34; refine (valid_any _ _).mono ?_; rintro e w' ⟨rfl, rfl⟩; rw [HD.out])
  go_loopw [0] (fun a wr => ∃ y : Int, 2000 ≤ y ∧ y ≤ 10000 ∧ CalM.fd y ≤ n ∧ a = .int .i64 (n - CalM.fd y) ∧
      wr = (w.alloc (.cells #[.int .i64 0, .int .i64 0, .int .i64 0] 23)).alloc (.cells #[.int .i64 y, .int .i64 1, .int .i64 0] 23)) (fun a _ => (intOf a).toNat)
  case atStart => exact ⟨2000, by omega, by omega, by simp [CalM.fd]; omega, by simp [CalM.fd], rfl⟩
  case round =>
    obtain ⟨y, hy1, hy2, hy3, rfl, rfl⟩ := hrel
    have hyb := CalM.yl_bd y
    have hfs := CalM.fd_succ y
    have hfl := CalM.fd_lower y hy1
    have HF := Lib.hid hfs
    by_cases hlt : CalM.yl y ≤ n - CalM.fd y
    · clear hfs
      go_wp2_with (go_at_call 33; refine (refYear_any _ _ (by omega)).mono ?_; rintro e w' ⟨rfl, rfl⟩)
      go_roundw
      case rel =>
        have := HF.out
        exact ⟨y + 1, by omega, by omega, by omega, by congr 1; omega, by first | rfl | (go_simp; rfl) | go_simp⟩
      case measure => simp [intOf]; omega
    · clear hfs
      go_wp2_with (go_at_call 33; refine (refYear_any _ _ (by omega)).mono ?_; rintro e w' ⟨rfl, rfl⟩)
      have hn0 : 0 ≤ n - CalM.fd y := by omega
      go_loopw [0] (fun a wr => ∃ m : Int, 1 ≤ m ∧ m ≤ 12 ∧ 0 ≤ n - CalM.fd y - CalM.cum y m ∧ a = .int .i64 (n - CalM.fd y - CalM.cum y m) ∧
          wr = (w.alloc (.cells #[.int .i64 0, .int .i64 0, .int .i64 0] 23)).alloc (.cells #[.int .i64 y, .int .i64 m, .int .i64 0] 23)) (fun a _ => (intOf a).toNat)
      case atStart => exact ⟨1, by omega, by omega, by simp [CalM.cum]; omega, by simp [CalM.cum], rfl⟩
      case round =>
        obtain ⟨m, hm1, hm2, hr, rfl, rfl⟩ := hrel
        have cb := CalM.cum_bd y m
        have db := CalM.ml_bd y m
        have cs := CalM.cum_succ y m hm1 hm2
        have CS := Lib.hid cs
        by_cases hc : CalM.ml y m ≤ n - CalM.fd y - CalM.cum y m
        · have hlt12 : m < 12 := by
            by_cases e : m = 12
            case neg => omega
            case pos =>
              subst e
              have h13 := CalM.cum_13 y
              have e13 : CalM.cum y (12 + 1) = CalM.cum y 13 := rfl
              omega
          clear cs
          go_wp2_with (go_at_call 28; refine (refMonth_any _ _ _ (by omega)).mono ?_; rintro e w' ⟨rfl, rfl⟩)
          go_roundw
          case rel =>
            have := CS.out
            exact ⟨m + 1, by omega, by omega, by omega, by congr 1; omega, by first | rfl | (go_simp; rfl) | go_simp⟩
          case measure => simp [intOf]; omega
        · clear cs
          go_wp2_with (go_at_call 28; refine (refMonth_any _ _ _ (by omega)).mono ?_; rintro e w' ⟨rfl, rfl⟩)
          refine bodyPost_ret (v := .tuple #[dateV y m (n - CalM.fd y - CalM.cum y m + 1), .int .i64 0]) (by simp [results, Tryd.results14, go_sem]) rfl ⟨y, m, _, rfl, (CalM.vld_iff _ _ _).2 ⟨by omega, by omega, by omega, by omega, by omega⟩, by unfold CalM.num; omega, ?_⟩
          go_grown

end Go.Proofs.YtbfpbmijmiljlaaDoor
