/- What the reference's reader reads from what encode writes: numbers, texts. -/
import Derived.Test.YtclpbjdnollfcaaDoorCodRInt
import Derived.Test.YtclpbjdnollfcaaDoorCodBack
import Derived.Test.YtclpbjdnollfcaaDoorCodRefDig
namespace Go.Proofs.YtclpbjdnollfcaaDoor
set_option linter.unusedSimpArgs false
set_option linter.unusedVariables false
open Go.RowKit

theorem dd_lenK : ∀ (k u : Nat), u < 10 ^ (k + 1) → (Lib.decDigits u).length ≤ k + 1
  | 0, u, h => by rw [Lib.decDigits_one (by simpa using h)]; simp
  | k + 1, u, h => by
    by_cases h10 : u < 10
    · rw [Lib.decDigits_one h10]; simp
    · rw [Lib.decDigits, dif_neg h10, List.length_append]
      have := dd_lenK k (u / 10) (by rw [Nat.pow_succ] at h; omega)
      simp
      omega
theorem dd_head0 (u : Nat) : (Lib.decDigits u).head? = some 48 → u = 0 := by
  induction u using Nat.strongRecOn with
  | _ u ih =>
    intro h
    by_cases h10 : u < 10
    · rw [Lib.decDigits_one h10] at h
      simp only [List.head?_cons, Option.some.injEq] at h
      have := congrArg UInt8.toNat h
      rw [dig_toNat h10] at this
      have e : (48 : UInt8).toNat = 48 := rfl
      omega
    · rw [Lib.decDigits, dif_neg h10] at h
      have hne := dd_ne (u / 10)
      cases hd : Lib.decDigits (u / 10) with
      | nil => exact absurd hd hne
      | cons a r =>
        rw [hd] at h
        have := ih (u / 10) (by omega) (by rw [hd]; simpa using h)
        omega
theorem numRL_digits (e : UInt8) (he : 57 < e.toNat) (z : Bool) (u : Nat) : ∀ (r : List UInt8), u < 10 ^ 19 → (z = true → u < 10) → numRL e z (Lib.decDigits u ++ r) 0 0 = numRL e z r (Lib.decDigits u).length u := by
  induction u using Nat.strongRecOn with
  | _ u ih =>
    intro r hu hz
    by_cases h : u < 10
    · rw [Lib.decDigits_one h]
      have hd := dig_toNat h
      have hne : UInt8.ofNat (48 + u) ≠ e := fun h => by rw [← h, hd] at he; omega
      simp only [List.cons_append, List.nil_append, numRL, if_neg hne, hd, List.length_cons, List.length_nil]
      rw [if_neg (by omega)]
      congr 1; omega
    · have hzf : ¬ z = true := fun hz' => h (hz hz')
      have hm : u % 10 < 10 := Nat.mod_lt _ (by decide)
      have hu10 : u / 10 < 10 ^ 18 := by
        have : (10 : Nat) ^ 19 = 10 ^ 18 * 10 := rfl
        omega
      have hlen := dd_lenK 17 (u / 10) hu10
      rw [Lib.decDigits, dif_neg h, List.append_assoc, ih (u / 10) (by omega) _ (by have : (10 : Nat) ^ 19 = 10 ^ 18 * 10 := rfl; omega) (fun h => absurd h hzf)]
      have hd := dig_toNat hm
      have hne : UInt8.ofNat (48 + u % 10) ≠ e := fun h => by rw [← h, hd] at he; omega
      simp only [List.cons_append, List.nil_append, numRL, if_neg hne, hd, List.length_append, List.length_cons, List.length_nil]
      rw [if_neg (by intro h; rcases h with h | h | h | ⟨_, h⟩; omega; omega; omega; exact hzf h)]
      congr 1; omega
theorem numR_digits {e : UInt8} (he : 57 < e.toNat) {most u : Nat} (hu : u ≤ most) (hb : u < 10 ^ 19) (r : List UInt8) : numR e most (Lib.decDigits u ++ e :: r) = some (u, r) := by
  have hz : (((Lib.decDigits u ++ e :: r).head? == some 48) = true) → u < 10 := by
    intro h
    cases hd : Lib.decDigits u with
    | nil => exact absurd hd (dd_ne u)
    | cons a q =>
      rw [hd] at h
      have : u = 0 := dd_head0 u (by rw [hd]; simpa using h)
      omega
  have hl : (Lib.decDigits u).length ≠ 0 := fun h => dd_ne u (List.length_eq_zero_iff.1 h)
  unfold numR
  generalize ((Lib.decDigits u ++ e :: r).head? == some 48) = z at hz
  rw [numRL_digits e he z u _ hb hz, numRL, if_pos rfl]
  simp only
  rw [if_neg (by omega)]
theorem textR_encT (L : Nat) (s : ByteArray) (rest : List UInt8) (hs : s.size ≤ L) (hL : L ≤ 2000) : textR L (encT s ++ rest) = some (s.data.toList, rest) := by
  have e : s.data.toList.length = s.size := by simp
  have h1 : encT s ++ rest = Lib.decDigits s.size ++ 58 :: (s.data.toList ++ rest) := by
    unfold encT Lib.itoa
    simp
  rw [h1]
  unfold textR
  rw [numR_digits (by decide) hs (by omega)]
  simp only
  rw [if_neg (by rw [List.length_append]; omega), ← e, List.take_left, List.drop_left]
theorem abs_le {n : Int} (hn : I64 n) (h : n < 0) : n.natAbs ≤ 9223372036854775808 ∧ n.natAbs < 10 ^ 19 ∧ n.natAbs ≠ 0 ∧ -(n.natAbs : Int) = n := by
  obtain ⟨h0, h1⟩ := hn
  refine ⟨by omega, by omega, by omega, by omega⟩
theorem nat_le {n : Int} (hn : I64 n) (h : ¬ n < 0) : n.toNat ≤ 9223372036854775807 ∧ n.toNat < 10 ^ 19 ∧ (n.toNat : Int) = n := by
  obtain ⟨h0, h1⟩ := hn
  refine ⟨by omega, by omega, by omega⟩
theorem intR_itoa {n : Int} (hn : I64 n) (rest : List UInt8) : intR (Lib.itoa n ++ 101 :: rest) = some (n, rest) := by
  unfold Lib.itoa
  by_cases h : n < 0
  · obtain ⟨h1, h2, h3, h4⟩ := abs_le hn h
    rw [if_pos h, List.cons_append, intR, if_pos (by decide), numR_digits (by decide) h1 h2]
    simp only
    rw [if_neg h3, h4]
  · obtain ⟨h1, h2, h3⟩ := nat_le hn h
    rw [if_neg h]
    have hr := numR_digits (e := 101) (by decide) h1 h2 rest
    cases hd : Lib.decDigits n.toNat with
    | nil => exact absurd hd (dd_ne _)
    | cons a q =>
      have ha := dd_mem n.toNat a (by rw [hd]; simp)
      rw [hd, List.cons_append] at hr
      rw [List.cons_append, intR, if_neg (by omega), hr, Option.map_some]
      simp only
      rw [h3]
/-! what Value reads -/
def pairsR (L : Nat) (v : List UInt8 → Option (Va × List UInt8)) : Nat → List UInt8 → List Va → List ByteArray → Option ((List Va × List ByteArray) × List UInt8)
  | 0, _, _, _ => none
  | _ + 1, [], _, _ => none
  | f + 1, b :: r, acc, ks => if b.toNat = 101 then some ((acc, ks), r) else match textR L (b :: r) with
    | none => none
    | some (key, q) => match v q with
        | none => none
        | some (x, q') => pairsR L v f q' (acc ++ [x]) (ks ++ [⟨key.toArray⟩])
def valRF (L : Nat) (sub : Option (List UInt8 → Option (Va × List UInt8))) : List UInt8 → Option (Va × List UInt8)
  | [] => none
  | b :: r =>
    if b.toNat = 105 then (intR r).map fun p => (.mk 1 p.1 ⟨#[]⟩ [] [], p.2)
    else if b.toNat = 108 then match sub with
      | none => none
      | some v => (elemsP v (r.length + 1) r []).map fun p => (.mk 3 0 ⟨#[]⟩ p.1 [], p.2)
    else if b.toNat = 100 then match sub with
      | none => none
      | some v => (pairsR L v (r.length + 1) r [] []).map fun p => (.mk 4 0 ⟨#[]⟩ p.1.1 p.1.2, p.2)
    else (textR L (b :: r)).map fun p => (.mk 2 0 ⟨p.1.toArray⟩ [] [], p.2)
def valR (L : Nat) : Nat → List UInt8 → Option (Va × List UInt8)
  | 0 => valRF L none
  | d + 1 => valRF L (some (valR L d))
end Go.Proofs.YtclpbjdnollfcaaDoor
