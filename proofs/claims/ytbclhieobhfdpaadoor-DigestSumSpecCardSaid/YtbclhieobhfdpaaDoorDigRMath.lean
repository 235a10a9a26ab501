/- The reference's round is that of the program: pure. -/
import Derived.Test.YtbclhieobhfdpaaDoorDigRCon
namespace Go.Proofs.YtbclhieobhfdpaaDoor
set_option linter.unusedSimpArgs false
set_option linter.unusedVariables false

theorem X_def (a b : Int) : X a b = ((BitVec.ofInt 64 a ^^^ BitVec.ofInt 64 b).toNat : Int) := by
  show IntKind.u64.wrap ((BitVec.ofInt 64 a ^^^ BitVec.ofInt 64 b).toNat : Int) = _
  rw [IntKind.wrap_u64]
  have := (BitVec.ofInt 64 a ^^^ BitVec.ofInt 64 b).isLt
  omega
theorem ofInt_X (a b : Int) : BitVec.ofInt 64 (X a b) = BitVec.ofInt 64 a ^^^ BitVec.ofInt 64 b := by
  rw [X_def, BitVec.ofInt_natCast, BitVec.ofNat_toNat, BitVec.setWidth_eq]
theorem X_comm (a b : Int) : X a b = X b a := by rw [X_def, X_def, BitVec.xor_comm]
theorem X_assoc (a b c : Int) : X (X a b) c = X a (X b c) := by rw [X_def, ofInt_X, X_def a, ofInt_X, BitVec.xor_assoc]
theorem X_zero_X (a b : Int) : X 0 (X a b) = X a b := by
  rw [X_def 0, ofInt_X, X_def a]
  congr 2
  simp
def cR (f : Nat → Int) (x : Nat) : Int := X (X (X (X (X 0 (f x)) (f (x + 5))) (f (x + 10))) (f (x + 15))) (f (x + 20))
theorem cR_eq (f : Nat → Int) (x : Nat) : cR f x = colF f x := by
  unfold cR colF
  rw [X_assoc 0, X_zero_X]
def vR (f : Nat → Int) (x y : Nat) : Int := X (X (f (5 * y + x)) (cR f ((x + 4) % 5))) (rolR (cR f ((x + 1) % 5)) 1)
theorem vR_eq (f : Nat → Int) (x y : Nat) (hx : x < 5) (hy : y < 5) : vR f x y = colsF f 5 (5 * y + x) := by
  unfold vR colsF difF
  rw [if_pos (by omega), X_assoc, cR_eq, cR_eq, show (5 * y + x) % 5 = x by omega]
  rfl
def pR (x y : Nat) : Nat := 5 * ((2 * x + 3 * y) % 5) + y
def bR (f : Nat → Int) (rt : Nat → Nat) : Nat → (Nat → Int)
  | 0 => fun _ => 0
  | m + 1 => upd (bR f rt m) (pR (m / 5) (m % 5)) (rolR (vR f (m / 5) (m % 5)) (rt (5 * (m % 5) + m / 5)))
def mOf (j : Nat) : Nat := ((List.range 25).find? fun m => pR (m / 5) (m % 5) == j).getD 0
theorem mOf_p : ∀ j, j < 25 → pR (mOf j / 5) (mOf j % 5) = j ∧ mOf j < 25 := by decide
theorem p_mOf : ∀ m, m < 25 → mOf (pR (m / 5) (m % 5)) = m := by decide
theorem bR_at (f : Nat → Int) (rt : Nat → Nat) (j : Nat) (hj : j < 25) : ∀ n, n ≤ 25 → bR f rt n j = if mOf j < n then rolR (vR f (mOf j / 5) (mOf j % 5)) (rt (5 * (mOf j % 5) + mOf j / 5)) else 0
  | 0, _ => rfl
  | n + 1, hn => by
    unfold bR upd
    have ih := bR_at f rt j hj n (by omega)
    by_cases h : j = pR (n / 5) (n % 5)
    · have e : mOf j = n := by rw [h]; exact p_mOf n (by omega)
      rw [if_pos h, if_pos (by omega), e]
    · rw [if_neg h, ih]
      have hne : mOf j ≠ n := fun e => h (by rw [← e]; exact (mOf_p j hj).1.symm)
      by_cases hl : mOf j < n
      · rw [if_pos hl, if_pos (by omega)]
      · rw [if_neg hl, if_neg (by omega)]
/-- the reference's numbers of turns -/
def rtN (q : Nat) : Nat := (rT 24 q).toNat
theorem rtN_lt : ∀ q, q < 25 → rtN q < 64 ∧ rT 24 q = (rtN q : Int) := by decide +kernel
theorem turn_tab : ∀ j, j < 25 → (idxOf j < 24 → prevAt (idxOf j) = 5 * (mOf j % 5) + mOf j / 5 ∧ turnAt (idxOf j) = rtN (5 * (mOf j % 5) + mOf j / 5) ∧ turnAt (idxOf j) ≠ 0) ∧ (¬ idxOf j < 24 → j = 5 * (mOf j % 5) + mOf j / 5 ∧ rtN (5 * (mOf j % 5) + mOf j / 5) = 0) := by decide +kernel
theorem bR_eq (f : Nat → Int) (j : Nat) (hj : j < 25) : bR f rtN 25 j = turnF (colsF f 5) 24 j := by
  obtain ⟨h1, h2⟩ := mOf_p j hj
  obtain ⟨t1, t2⟩ := turn_tab j hj
  rw [bR_at f rtN j hj 25 (Nat.le_refl _), if_pos h2, vR_eq f _ _ (by omega) (by omega)]
  unfold turnF
  by_cases hi : idxOf j < 24
  · obtain ⟨a1, a2, a3⟩ := t1 hi
    rw [if_pos hi, a1, ← a2]
    exact if_neg a3
  · obtain ⟨a1, a2⟩ := t2 hi
    rw [if_neg hi, a2, ← a1]
    rfl
def oR (g : Nat → Int) : Nat → (Nat → Int)
  | 0 => fun _ => 0
  | m + 1 => upd (oR g m) (5 * (m % 5) + m / 5) (X (g (5 * (m % 5) + m / 5)) (An (X (g (5 * (m % 5) + (m / 5 + 1) % 5)) 18446744073709551615) (g (5 * (m % 5) + (m / 5 + 2) % 5))))
theorem oR_at (g : Nat → Int) (j : Nat) (hj : j < 25) : ∀ n, n ≤ 25 → oR g n j = if 5 * (j % 5) + j / 5 < n then X (g j) (An (X (g (5 * (j / 5) + (j % 5 + 1) % 5)) 18446744073709551615) (g (5 * (j / 5) + (j % 5 + 2) % 5))) else 0
  | 0, _ => rfl
  | n + 1, hn => by
    unfold oR upd
    have ih := oR_at g j hj n (by omega)
    by_cases h : j = 5 * (n % 5) + n / 5
    · rw [if_pos h, if_pos (by omega), ← h, show n % 5 = j / 5 by omega, show n / 5 = j % 5 by omega]
    · rw [if_neg h, ih]
      by_cases hl : 5 * (j % 5) + j / 5 < n
      · rw [if_pos hl, if_pos (by omega)]
      · rw [if_neg hl, if_neg (by omega)]
theorem oR_eq (g : Nat → Int) (j : Nat) (hj : j < 25) : oR g 25 j = rowsF g 5 j := by
  rw [oR_at g j hj 25 (Nat.le_refl _), if_pos (by omega)]
  unfold rowsF
  rw [if_pos (by omega), X_comm (g _) 18446744073709551615, show j / 5 * 5 = 5 * (j / 5) by omega]
  rw [show (j + 1) % 5 = (j % 5 + 1) % 5 by omega, show (j + 2) % 5 = (j % 5 + 2) % 5 by omega]
  rfl
theorem oR_congr {g h : Nat → Int} (e : ∀ j, j < 25 → g j = h j) (j : Nat) (hj : j < 25) : oR g 25 j = oR h 25 j := by
  rw [oR_at g j hj 25 (Nat.le_refl _), oR_at h j hj 25 (Nat.le_refl _), e j hj, e (5 * (j / 5) + (j % 5 + 1) % 5) (by omega), e (5 * (j / 5) + (j % 5 + 2) % 5) (by omega)]
/-- the reference's round -/
def rndR (f : Nat → Int) (k : Int) : Nat → Int := upd (oR (bR f rtN 25) 25) 0 (X (oR (bR f rtN 25) 25 0) k)
theorem rndR_eq (f : Nat → Int) (i j : Nat) (hj : j < 25) : rndR f (constT.getD i 0) j = roundF f i j := by
  have e : ∀ j, j < 25 → oR (bR f rtN 25) 25 j = rowsF (turnF (colsF f 5) 24) 5 j := fun j hj => by
    rw [oR_congr (fun q hq => bR_eq f q hq) j hj, oR_eq _ j hj]
  unfold rndR roundF upd
  by_cases h : j = 0
  · rw [if_pos h, if_pos h, e 0 (by omega)]
  · rw [if_neg h, if_neg h, e j hj]
theorem cR_congr {f g : Nat → Int} (h : ∀ j, j < 25 → f j = g j) (x : Nat) (hx : x < 5) : cR f x = cR g x := by
  unfold cR
  rw [h x (by omega), h (x + 5) (by omega), h (x + 10) (by omega), h (x + 15) (by omega), h (x + 20) (by omega)]
end Go.Proofs.YtbclhieobhfdpaaDoor
