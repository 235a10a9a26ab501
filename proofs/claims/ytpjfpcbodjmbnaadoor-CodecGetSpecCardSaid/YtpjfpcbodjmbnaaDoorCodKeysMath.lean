/- Keys of dictionaries are found again: pure mathematics. -/
import Derived.Test.YtpjfpcbodjmbnaaDoorCodLaw
namespace Go.Proofs.YtpjfpcbodjmbnaaDoor
set_option linter.unusedSimpArgs false
set_option linter.unusedVariables false
open Go.RowKit

theorem bytesLess_eq' : ∀ (x y : List UInt8), Op.bytesLess x y = decide (x < y)
  | [], [] => by simp [Op.bytesLess]
  | _ :: _, [] => by simp [Op.bytesLess]
  | [], _ :: _ => by simp [Op.bytesLess]
  | a :: x, b :: y => by
    simp only [Op.bytesLess, bytesLess_eq' x y, List.cons_lt_cons_iff]
    by_cases h : a < b
    · simp [h]
    · by_cases e : a = b
      · simp [h, e]
      · simp [h, e]
theorem ltB_lt {a b : ByteArray} : ltB a b = true ↔ a.toList < b.toList := by
  unfold ltB
  rw [bytesLess_eq']
  simp
theorem incrTo_lt {ks : List ByteArray} : ∀ m, incrTo ks m = true → ∀ i j, i < j → j ≤ m → (ks.getD i ByteArray.empty).toList < (ks.getD j ByteArray.empty).toList
  | 0, _, i, j, h1, h2 => by omega
  | m + 1, h, i, j, h1, h2 => by
    simp only [incrTo, Bool.and_eq_true] at h
    have hl := ltB_lt.1 h.2
    by_cases hj : j ≤ m
    · exact incrTo_lt m h.1 i j h1 hj
    · obtain rfl : j = m + 1 := by omega
      by_cases hi : i = m
      · subst hi; exact hl
      · exact List.lt_trans (incrTo_lt m h.1 i m (by omega) (Nat.le_refl _)) hl
theorem incr_ne {ks : List ByteArray} (h : incrB ks = true) {i j : Nat} (hij : i < j) (hj : j < ks.length) : ks.getD i ByteArray.empty ≠ ks.getD j ByteArray.empty := fun e => by
  have := incrTo_lt (ks.length - 1) h i j hij (by omega)
  rw [e] at this
  exact List.lt_irrefl _ this
theorem idx_at {ks : List ByteArray} (h : incrB ks = true) {i : Nat} {q : ByteArray} (hq : ks[i]? = some q) : Lib.idxOfS ks q = (i : Int) := by
  have hi := (List.getElem?_eq_some_iff.1 hq).1
  have e : ks.getD i ByteArray.empty = q := by rw [List.getD_eq_getElem?_getD, hq]; rfl
  have := Lib.idxFromS_hit q ks i 0 hi e (fun j hj => by rw [← e]; exact incr_ne h hj hi)
  simpa [Lib.idxOfS] using this
theorem getF_at {n : Int} {s : ByteArray} {l : List Va} {ks : List ByteArray} (h : incrB ks = true) {i : Nat} {q : ByteArray} {x : Va} (hq : ks[i]? = some q) (hx : l[i]? = some x) : getF (.mk 4 n s l ks) q = some x := by
  simp only [getF, idx_at h hq]
  rw [if_pos ⟨trivial, by omega⟩]
  simpa using hx
def memB (q : ByteArray) : List ByteArray → Bool
  | [] => false
  | x :: r => decide (x = q) || memB q r
theorem memB_iff (q : ByteArray) : ∀ (ks : List ByteArray), memB q ks = true ↔ q ∈ ks
  | [] => by simp [memB]
  | x :: r => by
    simp only [memB, Bool.or_eq_true, decide_eq_true_eq, memB_iff q r, List.mem_cons]
    exact ⟨fun h => h.imp (fun e => e.symm) id, fun h => h.imp (fun e => e.symm) id⟩
theorem memB_take {q x : ByteArray} : ∀ {ks : List ByteArray} {j : Nat}, ks[j]? = some x → memB q (ks.take (j + 1)) = (memB q (ks.take j) || decide (x = q))
  | [], _, h => by simp at h
  | y :: r, 0, h => by simp at h; subst h; simp [memB]
  | y :: r, j + 1, h => by
    have := memB_take (q := q) (ks := r) (j := j) (by simpa using h)
    simp only [List.take_succ_cons, memB, this, Bool.or_assoc]
theorem getF_some {n : Int} {s : ByteArray} {l : List Va} {ks : List ByteArray} (hl : ks.length = l.length) (q : ByteArray) : (getF (.mk 4 n s l ks) q).isSome = memB q ks := by
  cases hm : memB q ks with
  | true =>
    have h0 := (Lib.idxOfS_nonneg_iff ks q).2 ((memB_iff q ks).1 hm)
    have hr := idx_range q ks
    simp only [getF]
    rw [if_pos ⟨trivial, h0⟩, List.getElem?_eq_getElem (by omega)]
    rfl
  | false =>
    have h0 : ¬ 0 ≤ Lib.idxOfS ks q := fun h => by
      have := (memB_iff q ks).2 ((Lib.idxOfS_nonneg_iff ks q).1 h)
      rw [hm] at this
      cases this
    simp only [getF]
    rw [if_neg (fun h => h0 h.2)]
    rfl
end Go.Proofs.YtpjfpcbodjmbnaaDoor
