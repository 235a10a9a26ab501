/- The hash of the digest as a pure function, in the model's own operations. -/
import Derived.Test.YtceppmajbkmbdaaDoorDigLane
namespace Go.Proofs.YtceppmajbkmbdaaDoor
set_option linter.unusedSimpArgs false
set_option linter.unusedVariables false
open Go.RowKit

/-! the first step -/
def colF (f : Nat → Int) (x : Nat) : Int := X (X (X (X (f x) (f (x + 5))) (f (x + 10))) (f (x + 15))) (f (x + 20))
def difF (f : Nat → Int) (x : Nat) : Int := X (colF f ((x + 4) % 5)) (rol (colF f ((x + 1) % 5)) 1)
def colsF (f : Nat → Int) (k : Nat) (j : Nat) : Int := if j < 5 * k then X (f j) (difF f (j % 5)) else f j
theorem colsF_step (f : Nat → Int) (k : Nat) : ∀ j, (upd (upd (upd (upd (upd (colsF f k) (5 * k) (X (f (5 * k)) (difF f 0))) (5 * k + 1) (X (f (5 * k + 1)) (difF f 1)))
    (5 * k + 2) (X (f (5 * k + 2)) (difF f 2))) (5 * k + 3) (X (f (5 * k + 3)) (difF f 3))) (5 * k + 4) (X (f (5 * k + 4)) (difF f 4))) j = colsF f (k + 1) j := by
  intro j
  unfold upd colsF
  by_cases h4 : j = 5 * k + 4
  · subst h4
    rw [if_pos rfl, if_pos (by omega), show (5 * k + 4) % 5 = 4 by omega]
  rw [if_neg h4]
  by_cases h3 : j = 5 * k + 3
  · subst h3
    rw [if_pos rfl, if_pos (by omega), show (5 * k + 3) % 5 = 3 by omega]
  rw [if_neg h3]
  by_cases h2 : j = 5 * k + 2
  · subst h2
    rw [if_pos rfl, if_pos (by omega), show (5 * k + 2) % 5 = 2 by omega]
  rw [if_neg h2]
  by_cases h1 : j = 5 * k + 1
  · subst h1
    rw [if_pos rfl, if_pos (by omega), show (5 * k + 1) % 5 = 1 by omega]
  rw [if_neg h1]
  by_cases h0 : j = 5 * k
  · subst h0
    rw [if_pos rfl, if_pos (by omega), show (5 * k) % 5 = 0 by omega]
  rw [if_neg h0]
  by_cases h : j < 5 * k
  · rw [if_pos h, if_pos (by omega)]
  · rw [if_neg h, if_neg (by omega)]
def colsH (f : Nat → Int) (m : Nat) (j : Nat) : Int := if j < m then X (f j) (difF f (j % 5)) else f j
theorem colsH_step (f : Nat → Int) (m : Nat) (j : Nat) : upd (colsH f m) m (X (f m) (difF f (m % 5))) j = colsH f (m + 1) j := by
  unfold upd colsH
  by_cases h : j = m
  · subst h; rw [if_pos rfl, if_pos (by omega)]
  · rw [if_neg h]
    by_cases hk : j < m
    · rw [if_pos hk, if_pos (by omega)]
    · rw [if_neg hk, if_neg (by omega)]

/-! the second and the third step -/
def placeT : List Nat := [10, 7, 11, 17, 18, 3, 5, 16, 8, 21, 24, 4, 15, 23, 19, 13, 12, 2, 20, 14, 22, 9, 6, 1]
def turnT : List Nat := [1, 3, 6, 10, 15, 21, 28, 36, 45, 55, 2, 14, 27, 41, 56, 8, 25, 43, 62, 18, 39, 61, 20, 44]
def constT : List Int := [0x0000000000000001, 0x0000000000008082, 0x800000000000808a, 0x8000000080008000, 0x000000000000808b, 0x0000000080000001, 0x8000000080008081, 0x8000000000008009,
  0x000000000000008a, 0x0000000000000088, 0x0000000080008009, 0x000000008000000a, 0x000000008000808b, 0x800000000000008b, 0x8000000000008089, 0x8000000000008003,
  0x8000000000008002, 0x8000000000000080, 0x000000000000800a, 0x800000008000000a, 0x8000000080008081, 0x8000000000008080, 0x0000000080000001, 0x8000000080008008]
def placeAt (t : Nat) : Nat := placeT.getD t 0
def turnAt (t : Nat) : Nat := turnT.getD t 0
def prevAt (t : Nat) : Nat := (1 :: placeT).getD t 0
def idxOf (j : Nat) : Nat := placeT.idxOf j
def turnF (f : Nat → Int) (t : Nat) (j : Nat) : Int := if idxOf j < t then rol (f (prevAt (idxOf j))) (turnAt (idxOf j)) else f j
theorem placeAt_lt : ∀ t, t < 24 → placeAt t < 25 := by decide
theorem turnAt_lt : ∀ t, t < 24 → turnAt t < 64 := by decide
theorem idx_place : ∀ t, t < 24 → idxOf (placeAt t) = t := by decide
theorem prev_place (t : Nat) : prevAt (t + 1) = placeAt t := rfl
theorem place_idx : ∀ j, j < 25 → idxOf j < 24 → placeAt (idxOf j) = j := by decide
theorem turnF_step (f : Nat → Int) (t : Nat) (ht : t < 24) : ∀ j, j < 25 → upd (turnF f t) (placeAt t) (rol (f (prevAt t)) (turnAt t)) j = turnF f (t + 1) j := by
  intro j hj
  unfold upd turnF
  by_cases h : j = placeAt t
  · subst h
    rw [if_pos rfl, idx_place t ht, if_pos (by omega)]
  · rw [if_neg h]
    by_cases hi : idxOf j < t
    · rw [if_pos hi, if_pos (by omega)]
    · have hne : idxOf j ≠ t := fun e => h (by rw [← e]; exact (place_idx j hj (by omega)).symm)
      rw [if_neg hi, if_neg (by omega)]
theorem turnF_next (f : Nat → Int) (t : Nat) (ht : t < 24) : turnF f t (placeAt t) = f (prevAt (t + 1)) := by
  unfold turnF
  rw [idx_place t ht, if_neg (by omega), prev_place]

/-! the rounds -/
def roundF (f : Nat → Int) (i : Nat) : Nat → Int := upd (rowsF (turnF (colsF f 5) 24) 5) 0 (X (rowsF (turnF (colsF f 5) 24) 5 0) (constT.getD i 0))
def permN (f : Nat → Int) : Nat → (Nat → Int)
  | 0 => f
  | n + 1 => roundF (permN f n) n
def permF (f : Nat → Int) : Nat → Int := permN f 24

/-! a block -/
abbrev sh (v : Int) (n : Nat) : Int := IntKind.u64.wrap (v * 2 ^ n)
def laneF (g : Nat → Int) : Int := Or' (Or' (Or' (Or' (Or' (Or' (Or' (g 0) (sh (g 1) 8)) (sh (g 2) 16)) (sh (g 3) 24)) (sh (g 4) 32)) (sh (g 5) 40)) (sh (g 6) 48)) (sh (g 7) 56)
def addF (f : Nat → Int) (q : List Int) (k : Nat) (j : Nat) : Int := if j < k then X (f j) (laneF fun i => q.getD (8 * j + i) 0) else f j
theorem addF_step (f : Nat → Int) (q : List Int) (k : Nat) : ∀ j, upd (addF f q k) k (X (f k) (laneF fun i => q.getD (8 * k + i) 0)) j = addF f q (k + 1) j := by
  intro j
  unfold upd addF
  by_cases h : j = k
  · subst h; rw [if_pos rfl, if_pos (by omega)]
  · rw [if_neg h]
    by_cases hk : j < k
    · rw [if_pos hk, if_pos (by omega)]
    · rw [if_neg hk, if_neg (by omega)]
def absF (f : Nat → Int) (q : List Int) : Nat → Int := permF (addF f q 17)

/-! the sponge -/
def stepS (s : (Nat → Int) × List Int) (c : Int) : (Nat → Int) × List Int := if s.2.length + 1 = 136 then (absF s.1 (s.2 ++ [c]), []) else (s.1, s.2 ++ [c])
def runS (s : (Nat → Int) × List Int) (l : List Int) : (Nat → Int) × List Int := l.foldl stepS s
theorem runS_append (s : (Nat → Int) × List Int) (a b : List Int) : runS s (a ++ b) = runS (runS s a) b := List.foldl_append
theorem runS_lt (l : List Int) : ∀ s : (Nat → Int) × List Int, s.2.length < 136 → (runS s l).2.length < 136 := by
  induction l with
  | nil => intro s h; exact h
  | cons c l ih =>
    intro s h
    refine ih (stepS s c) ?_
    unfold stepS
    split
    · simp
    · simp; omega
theorem runS_chunk (l : List Int) : ∀ s : (Nat → Int) × List Int, l ≠ [] → s.2.length + l.length ≤ 136 →
    runS s l = if s.2.length + l.length = 136 then (absF s.1 (s.2 ++ l), []) else (s.1, s.2 ++ l) := by
  induction l with
  | nil => intro s h; exact absurd rfl h
  | cons c l ih =>
    intro s _ h
    simp only [List.length_cons] at h ⊢
    show runS (stepS s c) l = _
    by_cases hl : l = []
    · subst hl
      show stepS s c = _
      unfold stepS
      rfl
    · have hp : 0 < l.length := List.length_pos_iff.2 hl
      have e : stepS s c = (s.1, s.2 ++ [c]) := if_neg (by omega)
      rw [e, ih _ hl (by simp; omega)]
      simp only [List.length_append, List.length_cons, List.length_nil, List.append_assoc, List.singleton_append, show s.2.length + (0 + 1) + l.length = s.2.length + (l.length + 1) by omega]
def padB (q : List Int) : List Int := (q ++ 6 :: List.replicate (135 - q.length) 0).set 135 (bits .xor .u8 ((q ++ 6 :: List.replicate (135 - q.length) 0).getD 135 0) 128)
def outF (f : Nat → Int) : List Int := (List.range 32).map fun i => IntKind.u8.wrap (f (i / 8) / 2 ^ (8 * (i % 8)))
def hashF (l : List Int) : List Int := outF (absF (runS (fun _ => 0, []) l).1 (padB (runS (fun _ => 0, []) l).2))
def tagF (t b : List Int) : List Int := hashF (hashF t ++ b)
theorem outF_length (f : Nat → Int) : (outF f).length = 32 := by simp [outF]
theorem hashF_length (l : List Int) : (hashF l).length = 32 := outF_length _
end Go.Proofs.YtceppmajbkmbdaaDoor
