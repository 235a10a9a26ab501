/- Contracts over the program of money: the reference's decimals. -/
import Derived.Test.YthbdhlcimgiemaaDoorMonParse
namespace Go.Proofs.YthbdhlcimgiemaaDoor
set_option linter.unusedSimpArgs false
set_option linter.unusedVariables false
open Go.RowKit

theorem dd_len {u : Nat} (h : u < 18446744073709551616) : (Lib.decDigits u).length ≤ 20 := by
  rw [Lib.decDigits_length]
  by_cases h0 : 1 ≤ u
  · have := Lib.numDigits_eq u h0 h
    have h1 := this.1
    have h2 := this.2
    split at h1 <;> omega
  · obtain rfl : u = 0 := by omega
    rw [Lib.nDigits_small (by omega)]
    omega
def digS (u : Nat) : ByteArray := ⟨(Lib.decDigits u).toArray⟩
theorem digS_size {u : Nat} (h : u < 18446744073709551616) : (digS u).size ≤ 20 := by
  have := dd_len h
  show ((Lib.decDigits u).toArray).size ≤ 20
  simpa using this
theorem digS_small {u : Nat} (h : u < 10) : digS u = ⟨#[UInt8.ofNat (48 + u)]⟩ := by
  unfold digS
  rw [Lib.decDigits_one h]
theorem digS_big {u : Nat} (h : ¬ u < 10) : digS u = digS (u / 10) ++ ⟨#[UInt8.ofNat (48 + u % 10)]⟩ := by
  unfold digS
  rw [Lib.decDigits, dif_neg h]
  apply ByteArray.ext
  simp

theorem tenths : ∀ d : Fin 10, (⟨#[48, 49, 50, 51, 52, 53, 54, 55, 56, 57]⟩ : ByteArray).extract d.val (d.val + 1) = ⟨#[UInt8.ofNat (48 + d.val)]⟩ := by decide +kernel
theorem slice_digit (d : Nat) (hd : d < 10) (W : World) : (Instr.slice 9 (.string ⟨#[48, 49, 50, 51, 52, 53, 54, 55, 56, 57]⟩) (some (.int .u64 (d : Int))) (some (.int .u64 ((d : Int) + 1))) none).run Tryd.prog W = .ok (.string ⟨#[UInt8.ofNat (48 + d)]⟩) W := by
  have h10 : (⟨#[48, 49, 50, 51, 52, 53, 54, 55, 56, 57]⟩ : ByteArray).size = 10 := rfl
  rw [run_slice_string W 9 _ .u64 .u64 (d : Int) ((d : Int) + 1) Tryd.underlying9 (by omega) (by omega) (by rw [h10]; omega)]
  have := tenths ⟨d, hd⟩
  simp only at this
  have e1 : ((d : Int)).toNat = d := by omega
  have e2 : ((d : Int) + 1).toNat = d + 1 := by omega
  rw [e1, e2, this]

abbrev RDigIs (n : Nat) : Prop := ∀ (w : World), Calls Tryd.prog 38 #[.int .u64 (n : Int)] w fun e w' => e = .returned (.string (digS n)) ∧ w' = w
set_option maxRecDepth 100000 in
set_option maxHeartbeats 4000000 in
theorem rdigits_small (n d : Nat) (w : World) (hd : d < 10) (hdn : Int.tmod (n : Int) 10 = (d : Int)) (hlt : n < 10) (hs : digS n = ⟨#[UInt8.ofNat (48 + d)]⟩) : Calls Tryd.prog 38 #[.int .u64 (n : Int)] w fun e w' => e = .returned (.string (digS n)) ∧ w' = w := by
  have hdn2 : (n : Int) % 10 = (d : Int) := by rw [← hdn, Int.tmod_eq_emod_of_nonneg (by omega)]
  have hl : decide ((n : Int) < 10) = true := decide_eq_true (by omega)
  have hsl := slice_digit d hd
  rw [hs]
  generalize (⟨#[UInt8.ofNat (48 + d)]⟩ : ByteArray) = sd at hsl
  clear hs
  go_enter Tryd.func38, Tryd.ntmps38
  go_wp2_with fail
  go_ret
  exact ⟨rfl, rfl⟩
set_option maxRecDepth 100000 in
set_option maxHeartbeats 4000000 in
theorem rdigits_big (n d p : Nat) (w : World) (hd : d < 10) (hdn : Int.tmod (n : Int) 10 = (d : Int)) (hpn : Int.tdiv (n : Int) 10 = (p : Int)) (hge : ¬ n < 10) (hp : p < 18446744073709551616) (hs : digS n = digS p ++ ⟨#[UInt8.ofNat (48 + d)]⟩) (HP : Hid (RDigIs p)) :
    Calls Tryd.prog 38 #[.int .u64 (n : Int)] w fun e w' => e = .returned (.string (digS n)) ∧ w' = w := by
  have hdn2 : (n : Int) % 10 = (d : Int) := by rw [← hdn, Int.tmod_eq_emod_of_nonneg (by omega)]
  have hpn2 : (n : Int) / 10 = (p : Int) := by rw [← hpn, Int.tdiv_eq_ediv_of_nonneg (by omega)]
  have hl : decide ((n : Int) < 10) = false := decide_eq_false (by omega)
  have hsl := slice_digit d hd
  have hsz := digS_size hp
  rw [hs]
  have e1 : (⟨#[UInt8.ofNat (48 + d)]⟩ : ByteArray).size = 1 := rfl
  have hadd := run_string_add_sum (P := Tryd.prog) (w := w) (digS p) (⟨#[UInt8.ofNat (48 + d)]⟩ : ByteArray) (by omega)
  clear e1
  generalize (⟨#[UInt8.ofNat (48 + d)]⟩ : ByteArray) = sd at hsl hadd
  have HC := hide ((unhide HP) w)
  generalize digS p = sp at HC hadd
  clear hs hsz HP
  go_enter Tryd.func38, Tryd.ntmps38
  go_wp2_with fail
  refine (unhide HC).mono ?_; rintro e w1 ⟨rfl, rfl⟩
  go_wp2_with fail
  go_ret
  exact ⟨rfl, rfl⟩
theorem rdigits_any (n : Nat) : n < 18446744073709551616 → RDigIs n := by
  induction n using Nat.strongRecOn with
  | _ n ih =>
    intro hn w
    have h1 : Int.tmod (n : Int) 10 = ((n % 10 : Nat) : Int) := by rw [Int.tmod_eq_emod_of_nonneg (by omega)]; omega
    by_cases h : n < 10
    · have e : n % 10 = n := by omega
      exact rdigits_small n (n % 10) w (by omega) h1 h (by rw [e]; exact digS_small h)
    · have h2 : Int.tdiv (n : Int) 10 = ((n / 10 : Nat) : Int) := by rw [Int.tdiv_eq_ediv_of_nonneg (by omega)]; omega
      exact rdigits_big n (n % 10) (n / 10) w (by omega) h1 h2 h (by omega) (digS_big h) (ih (n / 10) (by omega) (by omega))

/-! Decimal -/
def itoS (n : Int) : ByteArray := ⟨(Lib.itoa n).toArray⟩
theorem itoS_nat (p : Nat) : itoS (p : Int) = digS p := by
  unfold itoS digS Lib.itoa
  rw [if_neg (by omega)]
  simp
theorem itoS_neg {p : Nat} (h : 1 ≤ p) : itoS (-(p : Int)) = ⟨#[45]⟩ ++ digS p := by
  unfold itoS digS Lib.itoa
  rw [if_pos (by omega)]
  apply ByteArray.ext
  simp
set_option maxRecDepth 100000 in
set_option maxHeartbeats 4000000 in
theorem rdec_pos (p : Nat) (w : World) (hp : p ≤ 9223372036854775807) : Calls Tryd.prog 28 #[.int .i64 (p : Int)] w fun e w' => e = .returned (.string (itoS (p : Int))) ∧ w' = w := by
  have hl : decide ((p : Int) < 0) = false := decide_eq_false (by omega)
  have HC := hide (rdigits_any p (by omega) w)
  have hwr : IntKind.u64.wrap (p : Int) = (p : Int) := by
    unfold IntKind.wrap
    simp [IntKind.signed, IntKind.bits]
    omega
  rw [itoS_nat]
  generalize digS p = sp at HC
  go_enter Tryd.func28, Tryd.ntmps28
  go_wp2_with fail
  refine (unhide HC).mono ?_; rintro e w1 ⟨rfl, rfl⟩
  go_wp2_with fail
  go_ret
  exact ⟨rfl, rfl⟩
set_option maxRecDepth 100000 in
set_option maxHeartbeats 4000000 in
theorem rdec_neg (q : Nat) (w : World) (hp : q ≤ 9223372036854775807) : Calls Tryd.prog 28 #[.int .i64 (-(q : Int) - 1)] w fun e w' => e = .returned (.string (itoS (-(q : Int) - 1))) ∧ w' = w := by
  have hl : decide (-(q : Int) - 1 < 0) = true := decide_eq_true (by omega)
  have HC := hide (rdigits_any (q + 1) (by omega) w)
  have e0 : -(q : Int) - 1 + 1 = -(q : Int) := by omega
  have e1 : IntKind.i64.wrap (-(q : Int)) = -(q : Int) := IntWalk.i64_in _ (by omega)
  have e2 : wrap64 (-(q : Int)) = -(q : Int) := IntWalk.wrap64_in _ (by omega)
  have e3 : IntKind.i64.wrap (q : Int) = (q : Int) := IntWalk.i64_in _ (by omega)
  have e4 : wrap64 (q : Int) = (q : Int) := IntWalk.wrap64_in _ (by omega)
  have e5 : IntKind.u64.wrap (q : Int) = (q : Int) := IntWalk.u64_in _ (by omega)
  have e6 : IntKind.u64.wrap ((q : Int) + 1) = (q : Int) + 1 := IntWalk.u64_in _ (by omega)
  have hs : itoS (-(q : Int) - 1) = ⟨#[45]⟩ ++ digS (q + 1) := by
    rw [← itoS_neg (by omega)]
    congr 1
    omega
  rw [hs]
  have hsz := digS_size (u := q + 1) (by omega)
  have e7 : (⟨#[45]⟩ : ByteArray).size = 1 := rfl
  have hadd := run_string_add_sum (P := Tryd.prog) (w := w) (⟨#[45]⟩ : ByteArray) (digS (q + 1)) (by omega)
  generalize digS (q + 1) = sp at HC hadd
  clear hs hsz e7
  go_enter Tryd.func28, Tryd.ntmps28
  go_wp2_with fail
  refine (unhide HC).mono ?_; rintro e w1 ⟨rfl, rfl⟩
  go_wp2_with fail
  go_ret
  exact ⟨rfl, rfl⟩
theorem rdec_any (n : Int) (w : World) (hn : I64 n) : Calls Tryd.prog 28 #[.int .i64 n] w fun e w' => e = .returned (.string (itoS n)) ∧ w' = w := by
  obtain ⟨h0, h1⟩ := hn
  by_cases h : 0 ≤ n
  · obtain ⟨p, rfl⟩ : ∃ p : Nat, n = p := ⟨n.toNat, by omega⟩
    exact rdec_pos p w (by omega)
  · obtain ⟨q, rfl⟩ : ∃ q : Nat, n = -(q : Int) - 1 := ⟨(-n - 1).toNat, by omega⟩
    exact rdec_neg q w (by omega)

/-! text -/
end Go.Proofs.YthbdhlcimgiemaaDoor
