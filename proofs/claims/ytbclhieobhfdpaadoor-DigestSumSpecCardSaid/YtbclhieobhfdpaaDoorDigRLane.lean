/- The reference takes a block's bytes one by one: pure. -/
import Derived.Test.YtbclhieobhfdpaaDoorDigRMath
namespace Go.Proofs.YtbclhieobhfdpaaDoor
set_option linter.unusedSimpArgs false
set_option linter.unusedVariables false

theorem or_eq_xor (a b n : Nat) (ha : a < 2 ^ n) : a ||| 2 ^ n * b = a ^^^ 2 ^ n * b := by
  apply Nat.eq_of_testBit_eq
  intro i
  rw [Nat.testBit_or, Nat.testBit_xor, Nat.testBit_two_pow_mul]
  by_cases hi : i ≥ n
  · rw [Nat.testBit_lt_two_pow (Nat.lt_of_lt_of_le ha (Nat.pow_le_pow_right (by decide) hi))]
    simp
  · simp [hi]
theorem X_nat (a b : Nat) (ha : a < 2 ^ 64) (hb : b < 2 ^ 64) : X (a : Int) (b : Int) = ((a ^^^ b : Nat) : Int) := by
  rw [X_def, BitVec.ofInt_natCast, BitVec.ofInt_natCast, BitVec.toNat_xor, BitVec.toNat_ofNat, BitVec.toNat_ofNat, Nat.mod_eq_of_lt ha, Nat.mod_eq_of_lt hb]
theorem Or_nat (a b : Nat) (ha : a < 2 ^ 64) (hb : b < 2 ^ 64) : Or' (a : Int) (b : Int) = ((a ||| b : Nat) : Int) := by
  show IntKind.u64.wrap ((BitVec.ofInt 64 (a : Int) ||| BitVec.ofInt 64 (b : Int)).toNat : Int) = _
  have hl : a ||| b < 2 ^ 64 := Nat.or_lt_two_pow ha hb
  rw [IntKind.wrap_u64, BitVec.ofInt_natCast, BitVec.ofInt_natCast, BitVec.toNat_or, BitVec.toNat_ofNat, BitVec.toNat_ofNat, Nat.mod_eq_of_lt ha, Nat.mod_eq_of_lt hb]
  generalize a ||| b = c at hl ⊢
  omega
theorem sh_nat (b n : Nat) (hb : b < 256) (hn : n + 8 ≤ 64) : sh (b : Int) n = ((2 ^ n * b : Nat) : Int) ∧ 2 ^ n * b < 2 ^ (n + 8) := by
  have h1 : 2 ^ n * b < 2 ^ (n + 8) := by
    rw [Nat.pow_add]
    exact Nat.mul_lt_mul_of_pos_left hb (Nat.two_pow_pos n)
  have h2 : 2 ^ (n + 8) ≤ 2 ^ 64 := Nat.pow_le_pow_right (by decide) hn
  have h3 : 2 ^ n * b < 2 ^ 64 := Nat.lt_of_lt_of_le h1 h2
  refine ⟨?_, h1⟩
  show IntKind.u64.wrap ((b : Int) * 2 ^ n) = _
  have e : (b : Int) * 2 ^ n = ((2 ^ n * b : Nat) : Int) := by push_cast; rw [Int.mul_comm]
  rw [e, IntKind.wrap_u64]
  generalize 2 ^ n * b = c at h3 ⊢
  omega
theorem lane_step (a b n : Nat) (ha : a < 2 ^ n) (hb : b < 256) (hn : n + 8 ≤ 64) : ∃ c : Nat, c < 2 ^ (n + 8) ∧ Or' (a : Int) (sh (b : Int) n) = (c : Int) ∧ X (a : Int) (sh (b : Int) n) = (c : Int) := by
  obtain ⟨e, h1⟩ := sh_nat b n hb hn
  have h2 : 2 ^ (n + 8) ≤ 2 ^ 64 := Nat.pow_le_pow_right (by decide) hn
  have ha8 : a < 2 ^ (n + 8) := Nat.lt_of_lt_of_le ha (Nat.pow_le_pow_right (by decide) (by omega))
  refine ⟨a ||| 2 ^ n * b, Nat.or_lt_two_pow ha8 h1, ?_, ?_⟩
  · rw [e, Or_nat _ _ (by omega) (by omega)]
  · rw [e, X_nat _ _ (by omega) (by omega), or_eq_xor _ _ _ ha]
def laneX (g : Nat → Int) : Int := X (X (X (X (X (X (X (sh (g 0) 0) (sh (g 1) 8)) (sh (g 2) 16)) (sh (g 3) 24)) (sh (g 4) 32)) (sh (g 5) 40)) (sh (g 6) 48)) (sh (g 7) 56)
theorem byt_nat {c : Int} (h : 0 ≤ c ∧ c < 256) : ∃ b : Nat, b < 256 ∧ c = (b : Int) := ⟨c.toNat, by omega, by omega⟩
theorem laneF_X (g : Nat → Int) (hg : ∀ i, i < 8 → 0 ≤ g i ∧ g i < 256) : laneF g = laneX g := by
  unfold laneF laneX
  obtain ⟨b0, l0, e0⟩ := byt_nat (hg 0 (by omega))
  obtain ⟨b1, l1, e1⟩ := byt_nat (hg 1 (by omega))
  obtain ⟨b2, l2, e2⟩ := byt_nat (hg 2 (by omega))
  obtain ⟨b3, l3, e3⟩ := byt_nat (hg 3 (by omega))
  obtain ⟨b4, l4, e4⟩ := byt_nat (hg 4 (by omega))
  obtain ⟨b5, l5, e5⟩ := byt_nat (hg 5 (by omega))
  obtain ⟨b6, l6, e6⟩ := byt_nat (hg 6 (by omega))
  obtain ⟨b7, l7, e7⟩ := byt_nat (hg 7 (by omega))
  rw [e0, e1, e2, e3, e4, e5, e6, e7]
  have s0 : sh (b0 : Int) 0 = (b0 : Int) := by rw [(sh_nat b0 0 l0 (by omega)).1]; simp
  rw [s0]
  obtain ⟨c1, h1, o1, x1⟩ := lane_step b0 b1 8 l0 l1 (by omega)
  rw [o1, x1]
  obtain ⟨c2, h2, o2, x2⟩ := lane_step c1 b2 16 h1 l2 (by omega)
  rw [o2, x2]
  obtain ⟨c3, h3, o3, x3⟩ := lane_step c2 b3 24 h2 l3 (by omega)
  rw [o3, x3]
  obtain ⟨c4, h4, o4, x4⟩ := lane_step c3 b4 32 h3 l4 (by omega)
  rw [o4, x4]
  obtain ⟨c5, h5, o5, x5⟩ := lane_step c4 b5 40 h4 l5 (by omega)
  rw [o5, x5]
  obtain ⟨c6, h6, o6, x6⟩ := lane_step c5 b6 48 h5 l6 (by omega)
  rw [o6, x6]
  obtain ⟨c7, h7, o7, x7⟩ := lane_step c6 b7 56 h6 l7 (by omega)
  rw [o7, x7]
/-- the lanes with the first bytes of a block taken in -/
def addR (f : Nat → Int) (q : Nat → Int) : Nat → (Nat → Int)
  | 0 => f
  | i + 1 => upd (addR f q i) (i / 8) (X (addR f q i (i / 8)) (sh (q i) (8 * (i % 8))))
theorem addR_next (f q : Nat → Int) (k r : Nat) (hr : r < 8) : addR f q (8 * k + r + 1) = upd (addR f q (8 * k + r)) k (X (addR f q (8 * k + r) k) (sh (q (8 * k + r)) (8 * r))) := by
  show upd (addR f q (8 * k + r)) ((8 * k + r) / 8) (X (addR f q (8 * k + r) ((8 * k + r) / 8)) (sh (q (8 * k + r)) (8 * ((8 * k + r) % 8)))) = _
  rw [show (8 * k + r) / 8 = k by omega, show (8 * k + r) % 8 = r by omega]
theorem addR_off (f q : Nat → Int) (k j : Nat) (hj : j ≠ k) : ∀ r, r ≤ 8 → addR f q (8 * k + r) j = addR f q (8 * k) j
  | 0, _ => rfl
  | r + 1, h => by
    rw [← Nat.add_assoc, addR_next f q k r (by omega)]
    unfold upd
    rw [if_neg hj]
    exact addR_off f q k j hj r (by omega)
theorem addR_on (f q : Nat → Int) (k r : Nat) (hr : r < 8) : addR f q (8 * k + r + 1) k = X (addR f q (8 * k + r) k) (sh (q (8 * k + r)) (8 * r)) := by
  rw [addR_next f q k r hr]
  unfold upd
  rw [if_pos rfl]
theorem addR_lane (f q : Nat → Int) (k : Nat) : addR f q (8 * (k + 1)) k = X (addR f q (8 * k) k) (laneX fun i => q (8 * k + i)) := by
  rw [show 8 * (k + 1) = 8 * k + 7 + 1 by omega, addR_on f q k 7 (by omega)]
  rw [show 8 * k + 7 = 8 * k + 6 + 1 by omega, addR_on f q k 6 (by omega)]
  rw [show 8 * k + 6 = 8 * k + 5 + 1 by omega, addR_on f q k 5 (by omega)]
  rw [show 8 * k + 5 = 8 * k + 4 + 1 by omega, addR_on f q k 4 (by omega)]
  rw [show 8 * k + 4 = 8 * k + 3 + 1 by omega, addR_on f q k 3 (by omega)]
  rw [show 8 * k + 3 = 8 * k + 2 + 1 by omega, addR_on f q k 2 (by omega)]
  rw [show 8 * k + 2 = 8 * k + 1 + 1 by omega, addR_on f q k 1 (by omega)]
  rw [show 8 * k + 1 = 8 * k + 0 + 1 by omega, addR_on f q k 0 (by omega)]
  unfold laneX
  simp only [X_assoc, Nat.add_zero, Nat.add_assoc, Nat.mul_zero, Nat.reduceMul, Nat.reduceAdd]
theorem addR_eq (f : Nat → Int) (q : List Int) (hq : ∀ i, 0 ≤ q.getD i 0 ∧ q.getD i 0 < 256) (j : Nat) : ∀ k, addR f (fun i => q.getD i 0) (8 * k) j = addF f q k j
  | 0 => by unfold addF; rw [if_neg (by omega)]; rfl
  | k + 1 => by
    have ih := addR_eq f q hq j k
    by_cases hj : j = k
    · subst hj
      rw [addR_lane, ih]
      unfold addF
      rw [if_neg (by omega), if_pos (by omega), laneF_X _ fun i _ => hq _]
    · rw [show 8 * (k + 1) = 8 * k + 8 by omega, addR_off f _ k j hj 8 (by omega), ih]
      unfold addF
      by_cases hk : j < k
      · rw [if_pos hk, if_pos (by omega)]
      · rw [if_neg hk, if_neg (by omega)]
end Go.Proofs.YtbclhieobhfdpaaDoor
