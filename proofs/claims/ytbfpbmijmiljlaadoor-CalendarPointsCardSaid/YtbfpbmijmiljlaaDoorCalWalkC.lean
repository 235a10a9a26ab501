/- Contracts over the calendar's program, each for every input under its hypotheses: Next, Month, Year of the reference, Date. -/
import Derived.Test.YtbfpbmijmiljlaaDoorCalWalkB
namespace Go.Proofs.YtbfpbmijmiljlaaDoor
set_option linter.unusedSimpArgs false
set_option linter.unusedVariables false
open Go.RowKit

theorem refNext_any (n k : Int) (w : World) :
    Calls Tryd.prog 18 #[.int .i64 n, .int .i64 k] w fun e w' => e = .returned (nextR n k) ∧ w' = w := by
  cases hd : CalM.isDay n
  · have HD := Lib.hid hd
    have e : nextR n k = .tuple #[.int .i64 0, .int .i64 10] := by simp [nextR, hd]
    rw [e]
    clear hd e
    go_enter Tryd.func18, Tryd.ntmps18
    go_wp2_with (go_at_call 34; refine (valid_any _ _).mono ?_; rintro e w' ⟨rfl, rfl⟩; rw [HD.out])
    go_ret2
    exact ⟨rfl, rfl⟩
  · have hb : 0 ≤ n ∧ n ≤ 1048576 := by simpa [CalM.isDay] using hd
    have HD := Lib.hid hd
    obtain ⟨hb1, hb2⟩ := hb
    by_cases hk : 0 ≤ k ∧ k < 7
    · obtain ⟨k1, k2⟩ := hk
      have hR : nextR n k = if CalM.isDay (n + (k - (n + 5)) % 7) then .tuple #[.int .i64 (n + (k - (n + 5)) % 7), .int .i64 0] else .tuple #[.int .i64 0, .int .i64 10] := by
        simp [nextR, hd, k1, k2]
      have HR := Lib.hid hR
      clear hd hR
      go_enter Tryd.func18, Tryd.ntmps18
      go_wp2_with (go_at_call 34; refine (valid_any _ _).mono ?_; rintro e w' ⟨rfl, rfl⟩; rw [HD.out])
      go_loop [0] (fun t => ∃ x : Int, n ≤ x ∧ x ≤ n + (k - (n + 5)) % 7 ∧ t = .int .i64 x) (fun t => (n + 7 - intOf t).toNat)
      case atStart => exact ⟨n, by omega, by omega, rfl⟩
      case round =>
        obtain ⟨x, hx1, hx2, rfl⟩ := hrel
        by_cases hx : (x + 5) % 7 = k
        · have hxe : x = n + (k - (n + 5)) % 7 := by omega
          have HX := Lib.hid hxe
          have hx' : ((x + 5) % 7 != k) = false := by simpa using hx
          cases hd2 : CalM.isDay x
          all_goals
            have HD2 := Lib.hid hd2
            clear hx hxe hd2
            go_wp2_with (go_at_call 34; refine (valid_any _ _).mono ?_; rintro e w' ⟨rfl, rfl⟩; rw [HD2.out])
            go_ret2
            exact ⟨by rw [HR.out, ← HX.out, HD2.out]; rfl, rfl⟩
        · have hx' : ((x + 5) % 7 != k) = true := by simpa using hx
          have hlt : x < n + (k - (n + 5)) % 7 := by omega
          clear hx
          go_wp2_with (fail)
          go_round
          case rel => exact ⟨x + 1, by omega, by omega, rfl⟩
          case measure => simp [intOf]; omega
    · have e : nextR n k = .tuple #[.int .i64 0, .int .i64 1] := by simp [nextR, hd]; omega
      rw [e]
      clear hd e
      have hk' : k < 0 ∨ 6 < k := by omega
      clear hk
      rcases hk' with hk | hk
      all_goals
        go_enter Tryd.func18, Tryd.ntmps18
        go_wp2_with (go_at_call 34; refine (valid_any _ _).mono ?_; rintro e w' ⟨rfl, rfl⟩; rw [HD.out])
        go_ret2
        exact ⟨rfl, rfl⟩

theorem refMonth_any (y m : Int) (w : World) (h0 : 0 ≤ y) :
    Calls Tryd.prog 28 #[.int .i64 y, .int .i64 m] w fun e w' => e = .returned (.int .i64 (CalM.ml y m)) ∧ w' = w := by
  by_cases h2 : m = 2
  · subst h2
    cases hl : CalM.leap y
    all_goals
      have e : CalM.ml y 2 = if CalM.leap y then 29 else 28 := by simp [CalM.ml]
      rw [e, hl]
      have HL := Lib.hid hl; clear hl e
      go_enter Tryd.func28, Tryd.ntmps28
      go_wp2_with (go_at_call 44; refine (refLeap_any _ _ h0).mono ?_; rintro e w' ⟨rfl, rfl⟩; rw [HL.out])
      go_ret
      exact ⟨rfl, rfl⟩
  · by_cases h4 : m = 4
    · subst h4
      go_enter Tryd.func28, Tryd.ntmps28
      go_wp2
      go_ret
      exact ⟨rfl, rfl⟩
    · by_cases h6 : m = 6
      · subst h6
        go_enter Tryd.func28, Tryd.ntmps28
        go_wp2
        go_ret
        exact ⟨rfl, rfl⟩
      · by_cases h9 : m = 9
        · subst h9
          go_enter Tryd.func28, Tryd.ntmps28
          go_wp2
          go_ret
          exact ⟨rfl, rfl⟩
        · by_cases h11 : m = 11
          · subst h11
            go_enter Tryd.func28, Tryd.ntmps28
            go_wp2
            go_ret
            exact ⟨rfl, rfl⟩
          · have e : CalM.ml y m = 31 := by simp [CalM.ml, h2, h4, h6, h9, h11]
            rw [e]
            have b2 : (m == 2) = false := by simpa using h2
            have b4 : (m == 4) = false := by simpa using h4
            have b6 : (m == 6) = false := by simpa using h6
            have b9 : (m == 9) = false := by simpa using h9
            have b11 : (m == 11) = false := by simpa using h11
            go_enter Tryd.func28, Tryd.ntmps28
            go_wp2
            go_ret
            exact ⟨rfl, rfl⟩

theorem refYear_any (y : Int) (w : World) (h0 : 0 ≤ y) :
    Calls Tryd.prog 33 #[.int .i64 y] w fun e w' => e = .returned (.int .i64 (CalM.yl y)) ∧ w' = w := by
  cases hl : CalM.leap y
  all_goals
    have e : CalM.yl y = if CalM.leap y then 366 else 365 := rfl
    rw [e, hl]
    have HL := Lib.hid hl; clear hl e
    go_enter Tryd.func33, Tryd.ntmps33
    go_wp2_with (go_at_call 44; refine (refLeap_any _ _ h0).mono ?_; rintro e w' ⟨rfl, rfl⟩; rw [HL.out])
    go_ret
    exact ⟨rfl, rfl⟩

theorem date_no (n : Int) (w : World) (h : CalM.isDay n = false) :
    Calls Tryd.prog 13 #[.int .i64 n] w fun e w' => e = .returned (.tuple #[dateV 0 0 0, .int .i64 10]) ∧ Below w.heap.size w w' := by
  have HD := Lib.hid h; clear h
  go_enter Tryd.func13, Tryd.ntmps13
  go_wp2_with (go_at_call 32; refine (isDay_any _ _).mono ?_; rintro e w' ⟨rfl, rfl⟩; rw [HD.out])
  exact bodyPost_ret (v := .tuple #[dateV 0 0 0, .int .i64 10]) (by simp [results, Tryd.results13, go_sem]) rfl ⟨rfl, by go_grown⟩

set_option maxHeartbeats 1000000 in
theorem date_yes (n : Int) (w : World) (hT : Tab w) (h : CalM.isDay n = true) :
    Calls Tryd.prog 13 #[.int .i64 n] w fun e w' => ∃ y m d : Int, e = .returned (.tuple #[dateV y m d, .int .i64 0]) ∧ CalM.vld y m d = true ∧ CalM.num y m d = n ∧ Below w.heap.size w w' := by
  have hb : 0 ≤ n ∧ n ≤ 1048576 := by simpa [CalM.isDay] using h
  have HD := Lib.hid h; clear h
  obtain ⟨hb1, hb2⟩ := hb
  go_enter Tryd.func13, Tryd.ntmps13
  go_wp2_with (first
    | (go_at_call 32; refine (isDay_any _ _).mono ?_; rintro e w' ⟨rfl, rfl⟩; rw [HD.out])
    | (go_at_call 35; refine (yearOf_any _ _ hb1 hb2).mono ?_; rintro e w' ⟨y, hy1, hy2, hy3, hy4, rfl, rfl⟩; have hfu := CalM.fd_upper y hy1; have hfl := CalM.fd_lower y hy1)
    | (go_at_call 30; refine (firstDay_any _ _ (by omega) (by omega)).mono ?_; rintro e w' ⟨rfl, rfl⟩))
  go_loop [5, 6] (fun r i => ∃ m : Int, 1 ≤ m ∧ m ≤ 12 ∧ i = .int .i64 m ∧ 0 ≤ n - CalM.fd y - CalM.cum y m ∧ r = .int .i64 (n - CalM.fd y - CalM.cum y m)) (fun _ i => (12 - intOf i).toNat)
  case atStart => exact ⟨1, by omega, by omega, rfl, by simp [CalM.cum]; omega, by simp [CalM.cum]⟩
  case round =>
    obtain ⟨m, hm1, hm2, rfl, hr, rfl⟩ := hrel
    have cb := CalM.cum_bd y m
    have db := CalM.ml_bd y m
    have cs := CalM.cum_succ y m hm1 hm2
    have hT1 : Tab (w.alloc (.cells #[.int .i64 0, .int .i64 0, .int .i64 0] 23)) := hT.below (by go_grown)
    have CS := Lib.hid cs
    by_cases hc : CalM.ml y m ≤ n - CalM.fd y - CalM.cum y m
    · have hlt : m < 12 := by
        by_cases e : m = 12
        case neg => omega
        case pos =>
          subst e
          have h13 := CalM.cum_13 y
          have := CalM.fd_succ y
          have e13 : CalM.cum y (12 + 1) = CalM.cum y 13 := rfl
          omega
      clear cs
      go_wp2_with (go_at_call 31; refine (monthLength_any _ _ _ hT1 (by omega) (by omega) (by omega)).mono ?_; rintro e w' ⟨rfl, rfl⟩)
      go_round
      case rel =>
        have := CS.out
        exact ⟨m + 1, by omega, by omega, rfl, by omega, by congr 1; omega⟩
      case measure => simp [intOf]; omega
    · clear cs
      go_wp2_with (go_at_call 31; refine (monthLength_any _ _ _ hT1 (by omega) (by omega) (by omega)).mono ?_; rintro e w' ⟨rfl, rfl⟩)
      refine bodyPost_ret (v := .tuple #[dateV y m (n - CalM.fd y - CalM.cum y m + 1), .int .i64 0]) (by simp [results, Tryd.results13, go_sem]) rfl ⟨y, m, _, rfl, (CalM.vld_iff _ _ _).2 ⟨by omega, by omega, by omega, by omega, by omega⟩, by unfold CalM.num; omega, ?_⟩
      go_grown

end Go.Proofs.YtbfpbmijmiljlaaDoor
