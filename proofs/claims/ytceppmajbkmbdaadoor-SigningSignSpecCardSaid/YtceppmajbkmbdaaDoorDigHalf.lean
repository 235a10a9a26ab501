/- Contracts over the digest's program: split; the pure tree. -/
import Derived.Test.YtceppmajbkmbdaaDoorDigTag
import Derived.Test.YtceppmajbkmbdaaDoorDigShelf
import Derived.Lib.ItoaNum
namespace Go.Proofs.YtceppmajbkmbdaaDoor
set_option linter.unusedSimpArgs false
set_option linter.unusedVariables false
open Go.RowKit

/-- the greatest power of 2 that is less than n -/
def halfN (n : Nat) : Nat := 2 ^ Nat.log2 (n - 1)
theorem halfN_lt {n : Nat} (h : 2 ≤ n) : halfN n < n := by
  have := Nat.log2_self_le (n := n - 1) (by omega)
  unfold halfN; omega
theorem halfN_pos (n : Nat) : 0 < halfN n := Nat.pow_pos (by omega)
theorem halfN_ge {n : Nat} (h : 2 ≤ n) : n ≤ 2 * halfN n := by
  have := Nat.lt_log2_self (n := n - 1)
  rw [Nat.pow_succ] at this
  unfold halfN; omega
theorem bitLen_log (x : Nat) (h0 : x ≠ 0) (h : x < 2 ^ 64) : Lib.bitLen x = Nat.log2 x + 1 := by
  obtain ⟨h1, h2, h3⟩ := Lib.bitLenAux_bounds 64 x h h0
  have := (Nat.log2_eq_iff h0).2 ⟨h2, by rw [show Lib.bitLenAux 64 x - 1 + 1 = Lib.bitLenAux 64 x by omega]; exact h3⟩
  unfold Lib.bitLen
  omega

set_option maxRecDepth 100000 in
set_option maxHeartbeats 4000000 in
theorem split_any (n : Nat) (h2 : 2 ≤ n) (hn : n ≤ 1099511627776) (w : World) :
    Calls Tryd.prog 51 #[.int .i64 (n : Int)] w fun e w' => e = .returned (.int .i64 ((halfN n : Nat) : Int)) ∧ w' = w := by
  obtain ⟨e, he⟩ : ∃ e, e = Nat.log2 (n - 1) := ⟨_, rfl⟩
  have hl := bitLen_log (n - 1) (by omega) (by omega)
  rw [← he] at hl
  have hh : halfN n = 2 ^ e := by rw [he]; rfl
  have hlt := halfN_lt h2
  rw [hh] at hlt ⊢
  have he40 : e ≤ 40 := by
    rcases Nat.lt_or_ge 40 e with h | h
    · have := Nat.pow_le_pow_right (n := 2) (by omega) (show 41 ≤ e by omega)
      omega
    · exact h
  obtain ⟨m, hm⟩ : ∃ m, m = n - 1 := ⟨_, rfl⟩
  rw [← hm] at hl
  have w1 : IntKind.i64.wrap ((n : Int) - 1) = (m : Int) := (IntWalk.i64_in _ (by omega)).trans (by omega)
  have w2 : IntKind.u64.wrap (m : Int) = (m : Int) := IntWalk.u64_in _ (by omega)
  have HC : Hid (Lib.bitLen (m : Int).toNat = e + 1) := by rw [Int.toNat_natCast]; exact hl
  have HM : Hid (m ≤ 1099511627776) := by show m ≤ _; omega
  have w3 : IntKind.i64.wrap (((e + 1 : Nat) : Int) - 1) = (e : Int) := (IntWalk.i64_in _ (by omega)).trans (by omega)
  have e0 : (0 : Int) ≤ (e : Int) := Int.natCast_nonneg _
  have hs : IntKind.i64.wrap (2 ^ e) = 2 ^ e := IntWalk.i64_in (2 ^ e) (by
    have h2 : (2 : Int) ^ e = ((2 ^ e : Nat) : Int) := by push_cast; rfl
    rw [h2]; omega)
  have HE : Hid (((2 ^ e : Nat) : Int) = 2 ^ e) := by show _ = _; push_cast; rfl
  rw [show ((2 ^ e : Nat) : Int) = 2 ^ e from unhide HE]
  obtain ⟨E, hE⟩ : ∃ E : Int, E = 2 ^ e := ⟨_, rfl⟩
  have HS : Hid (IntKind.i64.wrap (2 ^ e) = E) := by rw [hE]; exact hs
  rw [← hE]
  clear he hl hh hlt hm hE HE hs
  go_enter Tryd.func51, Tryd.ntmps51
  go_wp2_with fail
  refine (Tryd.bits_Len (m : Int) w (Int.natCast_nonneg _) (by have := unhide HM; omega)).mono ?_; rintro e' w' ⟨rfl, rfl⟩
  rw [unhide HC]
  go_wp2_with fail
  go_ret
  exact ⟨by rw [← unhide HS, IntWalk.i64_left]; rfl, rfl⟩
end Go.Proofs.YtceppmajbkmbdaaDoor
