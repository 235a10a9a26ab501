/- Contracts over the digest's program: a rotation. -/
import Derived.Test.YtceppmajbkmbdaaDoorChecked
import Derived.WalkKit
import Derived.ProofKit
import Derived.Handy
import Derived.Deep.QuietTactic
import Derived.BigQuiet
import Derived.Lib.Hide
import Derived.OwnWalk
import Derived.IntWalk
import Derived.Laws.BitsAllLaws
namespace Go.Proofs.YtceppmajbkmbdaaDoor
set_option linter.unusedSimpArgs false
set_option linter.unusedVariables false
open Go.RowKit

abbrev X (a b : Int) : Int := bits .xor .u64 a b
abbrev An (a b : Int) : Int := bits .and .u64 a b
abbrev Or' (a b : Int) : Int := bits .or .u64 a b
def rol (v : Int) (n : Nat) : Int := bits .or .u64 (IntKind.u64.wrap (v * 2 ^ n)) (v / 2 ^ (64 - n))
theorem and63 (n : Nat) (h : n < 64) : bits .and .u64 (n : Int) 63 = (n : Int) := by
  rw [show (63 : Int) = ((63 : Nat) : Int) from rfl, u64_and_nat n 63 (by omega) (by omega), show (63 : Nat) = 2 ^ 6 - 1 from rfl, Nat.and_two_pow_sub_one_eq_mod, Nat.mod_eq_of_lt h]

set_option maxHeartbeats 1000000 in
theorem rot_any (v : Int) (n : Nat) (h : n < 64) (w : World) :
    Calls Tryd.prog 104 #[.int .u64 v, .int .i64 (n : Int)] w fun e w' => e = .returned (.int .u64 (rol v n)) ∧ w' = w := by
  have h63 := and63 n h
  have hn0 : (0 : Int) ≤ (n : Int) := Int.natCast_nonneg _
  have hn1 : (n : Int) < 64 := by omega
  have hw : IntKind.u64.wrap (64 - (n : Int)) = 64 - (n : Int) := IntWalk.u64_in _ (by omega)
  have hs1 := shift_shl .u64 .u64 v (n : Int) hn0 (by simp [IntKind.bits]; omega)
  have hs2 := shift_shr .u64 .u64 v (64 - (n : Int)) (by omega) (by simp [IntKind.bits]; omega)
  have ht : (64 - (n : Int)).toNat = 64 - n := by omega
  rw [ht] at hs2
  clear ht h
  go_enter Tryd.func104, Tryd.ntmps104
  go_wp2_with fail
  go_ret
  exact ⟨rfl, rfl⟩
theorem rot_one (v : Int) (w : World) : Calls Tryd.prog 104 #[.int .u64 v, .int .i64 1] w fun e w' => e = .returned (.int .u64 (rol v 1)) ∧ w' = w := rot_any v 1 (by decide) w
end Go.Proofs.YtceppmajbkmbdaaDoor
