/- Contracts over the calendar's program, each for every input under its hypotheses: days, years and lengths of months. -/
import Derived.Test.YtbfpbmijmiljlaaDoorChecked
import Derived.Test.YtbfpbmijmiljlaaDoorCalMath
import Derived.WalkKit
import Derived.ProofKit
import Derived.Handy
import Derived.Deep.QuietTactic
import Derived.BigQuiet
import Derived.Lib.Hide
import Derived.Outline
namespace Go.Proofs.YtbfpbmijmiljlaaDoor
set_option linter.unusedSimpArgs false
set_option linter.unusedVariables false
open Go.RowKit

theorem isDay_any (n : Int) (w : World) :
    Calls Tryd.prog 32 #[.int .i64 n] w fun e w' => e = .returned (.bool (CalM.isDay n)) ∧ w' = w := by
  by_cases h0 : 0 ≤ n
  · by_cases h1 : n ≤ 1048576
    · have e : CalM.isDay n = true := by simp [CalM.isDay, h0, h1]
      rw [e]
      go_enter Tryd.func32, Tryd.ntmps32
      go_wp2
      go_ret
      exact ⟨rfl, rfl⟩
    · have e : CalM.isDay n = false := by simp [CalM.isDay, h0, h1]
      rw [e]
      go_enter Tryd.func32, Tryd.ntmps32
      go_wp2
      go_ret
      exact ⟨rfl, rfl⟩
  · have e : CalM.isDay n = false := by simp [CalM.isDay, h0]
    rw [e]
    go_enter Tryd.func32, Tryd.ntmps32
    go_wp2
    go_ret
    exact ⟨rfl, rfl⟩

theorem valid_any (n : Int) (w : World) :
    Calls Tryd.prog 34 #[.int .i64 n] w fun e w' => e = .returned (.bool (CalM.isDay n)) ∧ w' = w := by
  by_cases h0 : 0 ≤ n
  · by_cases h1 : n ≤ 1048576
    · have e : CalM.isDay n = true := by simp [CalM.isDay, h0, h1]
      rw [e]
      go_enter Tryd.func34, Tryd.ntmps34
      go_wp2
      go_ret
      exact ⟨rfl, rfl⟩
    · have e : CalM.isDay n = false := by simp [CalM.isDay, h0, h1]
      rw [e]
      go_enter Tryd.func34, Tryd.ntmps34
      go_wp2
      go_ret
      exact ⟨rfl, rfl⟩
  · have e : CalM.isDay n = false := by simp [CalM.isDay, h0]
    rw [e]
    go_enter Tryd.func34, Tryd.ntmps34
    go_wp2
    go_ret
    exact ⟨rfl, rfl⟩

theorem firstDay_any (y : Int) (w : World) (h0 : 2000 ≤ y) (h1 : y ≤ 2000000) :
    Calls Tryd.prog 30 #[.int .i64 y] w fun e w' => e = .returned (.int .i64 (CalM.fd y)) ∧ w' = w := by
  go_enter Tryd.func30, Tryd.ntmps30
  go_wp2
  go_ret
  exact ⟨rfl, rfl⟩

theorem isLeap_any (y : Int) (w : World) (h0 : 0 ≤ y) :
    Calls Tryd.prog 45 #[.int .i64 y] w fun e w' => e = .returned (.bool (CalM.leap y)) ∧ w' = w := by
  by_cases h4 : y % 4 = 0
  · by_cases h1 : y % 100 = 0
    · by_cases h2 : y % 400 = 0
      · rw [CalM.leap_t h4 (.inr h2)]
        go_enter Tryd.func45, Tryd.ntmps45
        go_wp2
        go_ret
        exact ⟨rfl, rfl⟩
      · rw [CalM.leap_f h1 h2]
        have b2 : (y % 400 == 0) = false := by simpa using h2
        go_enter Tryd.func45, Tryd.ntmps45
        go_wp2
        go_ret
        exact ⟨rfl, rfl⟩
    · rw [CalM.leap_t h4 (.inl h1)]
      go_enter Tryd.func45, Tryd.ntmps45
      go_wp2
      go_ret
      exact ⟨rfl, rfl⟩
  · rw [CalM.leap_f4 h4]
    go_enter Tryd.func45, Tryd.ntmps45
    go_wp2
    go_ret
    exact ⟨rfl, rfl⟩

theorem refLeap_any (y : Int) (w : World) (h0 : 0 ≤ y) :
    Calls Tryd.prog 44 #[.int .i64 y] w fun e w' => e = .returned (.bool (CalM.leap y)) ∧ w' = w := by
  by_cases h4 : y % 4 = 0
  · by_cases h1 : y % 100 = 0
    · by_cases h2 : y % 400 = 0
      · rw [CalM.leap_t h4 (.inr h2)]
        go_enter Tryd.func44, Tryd.ntmps44
        go_wp2
        go_ret
        exact ⟨rfl, rfl⟩
      · rw [CalM.leap_f h1 h2]
        have b2 : (y % 400 == 0) = false := by simpa using h2
        go_enter Tryd.func44, Tryd.ntmps44
        go_wp2
        go_ret
        exact ⟨rfl, rfl⟩
    · rw [CalM.leap_t h4 (.inl h1)]
      go_enter Tryd.func44, Tryd.ntmps44
      go_wp2
      go_ret
      exact ⟨rfl, rfl⟩
  · rw [CalM.leap_f4 h4]
    go_enter Tryd.func44, Tryd.ntmps44
    go_wp2
    go_ret
    exact ⟨rfl, rfl⟩

def Tab (w : World) : Prop := ∀ k : Nat, k < 12 → w.cell? ⟨0, k, none⟩ = some (.int .i64 (CalM.lens k))

theorem monthLength_any (y m : Int) (w : World) (hT : Tab w) (h0 : 0 ≤ y) (h1 : 1 ≤ m) (h2 : m ≤ 12) :
    Calls Tryd.prog 31 #[.int .i64 y, .int .i64 m] w fun e w' => e = .returned (.int .i64 (CalM.ml y m)) ∧ w' = w := by
  by_cases hm : m = 2
  · subst hm
    have hc := hT 1 (by omega)
    cases hl : CalM.leap y
    · rw [show CalM.ml y 2 = CalM.lens 1 by simp [CalM.ml, hl, CalM.lens]]
      have HL := Lib.hid hl; clear hl
      go_enter Tryd.func31, Tryd.ntmps31
      go_wp2_with (go_at_call 45; refine (isLeap_any _ _ h0).mono ?_; rintro e w' ⟨rfl, rfl⟩; rw [HL.out])
      go_ret
      exact ⟨rfl, rfl⟩
    · rw [show CalM.ml y 2 = 29 by simp [CalM.ml, hl]]
      replace hc : w.cell? ⟨0, 1, none⟩ = some (.int .i64 28) := hc
      have HL := Lib.hid hl; clear hl
      go_enter Tryd.func31, Tryd.ntmps31
      go_wp2_with (go_at_call 45; refine (isLeap_any _ _ h0).mono ?_; rintro e w' ⟨rfl, rfl⟩; rw [HL.out])
      go_ret
      exact ⟨rfl, rfl⟩
  · rw [CalM.ml_lens y m h1 h2 (fun h => hm h.1), show (m - 1).toNat = m.toNat - 1 by omega]
    have hc := hT (m.toNat - 1) (by omega)
    have hm' : (m == 2) = false := by simpa using hm
    go_enter Tryd.func31, Tryd.ntmps31
    go_wp2
    go_ret
    exact ⟨rfl, rfl⟩

theorem yearOf_any (n : Int) (w : World) (h0 : 0 ≤ n) (h1 : n ≤ 1048576) :
    Calls Tryd.prog 35 #[.int .i64 n] w fun e w' => ∃ y : Int, 2000 ≤ y ∧ y ≤ 10000 ∧ CalM.fd y ≤ n ∧ n < CalM.fd (y + 1) ∧ e = .returned (.int .i64 y) ∧ w' = w := by
  go_enter Tryd.func35, Tryd.ntmps35
  go_wp2
  go_loop [3] (fun t => ∃ y : Int, 2000 ≤ y ∧ y ≤ 10000 ∧ CalM.fd y ≤ n ∧ t = .int .i64 y) (fun t => (10000 - intOf t).toNat)
  case atStart => exact ⟨_, by omega, by omega, by unfold CalM.fd; omega, rfl⟩
  case round =>
    obtain ⟨y, hy1, hy2, hy3, rfl⟩ := hrel
    by_cases hc : CalM.fd (y + 1) ≤ n
    · have hb : y < 10000 := by unfold CalM.fd at hc; omega
      go_wp2_with (go_at_call 30; refine (firstDay_any _ _ (by omega) (by omega)).mono ?_; rintro e w' ⟨rfl, rfl⟩)
      go_round
      case rel => exact ⟨y + 1, by omega, by omega, hc, rfl⟩
      case measure => simp [intOf]; omega
    · go_wp2_with (go_at_call 30; refine (firstDay_any _ _ (by omega) (by omega)).mono ?_; rintro e w' ⟨rfl, rfl⟩)
      go_ret
      exact ⟨y, hy1, hy2, hy3, by omega, rfl, rfl⟩

end Go.Proofs.YtbfpbmijmiljlaaDoor
