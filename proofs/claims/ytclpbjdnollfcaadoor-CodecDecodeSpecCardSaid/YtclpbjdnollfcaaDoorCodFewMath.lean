/- Plain mathematics: a value of few parts is not nested deeply, and its encoding is short. -/
import Derived.Test.YtclpbjdnollfcaaDoorCodFew
import Derived.Test.YtclpbjdnollfcaaDoorCodWrite3
namespace Go.Proofs.YtclpbjdnollfcaaDoor
set_option linter.unusedSimpArgs false
set_option linter.unusedVariables false
open Go.RowKit

def sumC (d : Int) : List Va → Nat
  | [] => 0
  | x :: r => x.cnt d + sumC d r
theorem cntL_ge (d : Int) : ∀ (l : List Va) (a : Nat), a ≤ cntL l d a
  | [], a => by simp [cntL]
  | x :: r, a => by
    simp only [cntL]
    split
    · have := cntL_ge d r (a + x.cnt d); omega
    · omega
theorem cntL_sum (d : Int) : ∀ (l : List Va) (a : Nat), cntL l d a ≤ 200 → cntL l d a = a + sumC d l ∧ ∀ (i : Nat) (x : Va), l[i]? = some x → x.cnt d ≤ 200
  | [], a, h => ⟨by simp [cntL, sumC], fun i x hx => by simp at hx⟩
  | x :: r, a, h => by
    simp only [cntL] at h ⊢
    split at h
    · rename_i ha
      rw [if_pos ha]
      have h1 := cntL_sum d r (a + x.cnt d) h
      have h2 := cntL_ge d r (a + x.cnt d)
      refine ⟨by rw [h1.1]; simp only [sumC]; omega, fun i y hy => ?_⟩
      cases i with
      | zero => simp at hy; subst hy; omega
      | succ i => exact h1.2 i y (by simpa using hy)
    · omega
theorem nestAll_le {l : List Va} {B : Nat} (h : ∀ (i : Nat) (x : Va), l[i]? = some x → x.nest ≤ B) : nestAll l ≤ B := by
  induction l with
  | nil => simp [nestAll]
  | cons x r ih =>
    have h0 := h 0 x rfl
    have h1 := ih fun i y hy => h (i + 1) y (by simpa using hy)
    simp only [nestAll]
    omega
theorem cnt_parts {k n : Int} {s : ByteArray} {l : List Va} {ks : List ByteArray} {d : Int} (h : Va.cnt (.mk k n s l ks) d ≤ 200) :
    0 ≤ d ∧ l.length ≤ 60 ∧ ks.length ≤ 60 ∧ Va.cnt (.mk k n s l ks) d = 1 + s.size / 200 + ks.length + keyS ks + sumC (d - 1) l ∧ ∀ (i : Nat) (x : Va), l[i]? = some x → x.cnt (d - 1) ≤ 200 := by
  simp only [Va.cnt] at h ⊢
  split at h
  · omega
  · rename_i hc
    rw [if_neg hc]
    have h1 := cntL_sum (d - 1) l _ h
    exact ⟨by omega, by omega, by omega, h1.1, h1.2⟩
theorem nest_all (N : Nat) : ∀ (V : Va), V.sz ≤ N → ∀ (d : Int), V.cnt d ≤ 200 → (V.nest : Int) ≤ d + 1 := by
  induction N with
  | zero => intro V hV; have := sz_pos V; omega
  | succ N ih =>
    intro V hV d h
    obtain ⟨k, n, s, l, ks⟩ := V
    obtain ⟨hd, _, _, _, hx⟩ := cnt_parts h
    have hN : szAll l ≤ N := by simp only [Va.sz] at hV; omega
    have hb : nestAll l ≤ d.toNat := nestAll_le fun i x hi => by
      have := ih x (Nat.le_trans (szAll_mem hi) hN) (d - 1) (hx i x hi)
      omega
    simp only [Va.nest]
    omega
theorem few_nest {V : Va} (h : fewB V = true) : V.nest ≤ 21 := by
  have := nest_all V.sz V (Nat.le_refl _) 20 (of_decide_eq_true h)
  omega

theorem encT_len (s : ByteArray) (hs : s.size ≤ 140737488351232) : (encT s).length ≤ 22 + s.size := by
  have := Lib.itoa_length_le (s.size : Int) (by omega) (by omega)
  simp only [encT, List.length_append, List.length_cons, Array.length_toList]
  have e : s.data.size = s.size := rfl
  omega
theorem encL_le (d : Int) : ∀ (l : List Va), (∀ (i : Nat) (x : Va), l[i]? = some x → x.enc.length ≤ 300 * x.cnt d) → (encL l).length ≤ 300 * sumC d l
  | [], _ => by simp [encL]
  | x :: r, h => by
    have h0 := h 0 x rfl
    have h1 := encL_le d r fun i y hy => h (i + 1) y (by simpa using hy)
    simp only [encL, sumC, List.length_append]
    omega
theorem encD_le (d : Int) : ∀ (l : List Va) (ks : List ByteArray), (∀ (i : Nat) (x : Va), l[i]? = some x → x.enc.length ≤ 300 * x.cnt d) → (∀ (i : Nat) (q : ByteArray), ks[i]? = some q → q.size ≤ 140737488351232) →
    (encD l ks).length ≤ 300 * sumC d l + 300 * (ks.length + keyS ks)
  | [], _, _, _ => by simp [encD]
  | _ :: _, [], _, _ => by simp [encD]
  | x :: r, q :: qs, h, hk => by
    have h0 := h 0 x rfl
    have h1 := encD_le d r qs (fun i y hy => h (i + 1) y (by simpa using hy)) (fun i y hy => hk (i + 1) y (by simpa using hy))
    have h2 := encT_len q (hk 0 q rfl)
    simp only [encD, sumC, keyS, List.length_append, List.length_cons]
    omega
theorem enc_all (N : Nat) : ∀ (V : Va), V.sz ≤ N → ∀ (v : Value) (w : World), VAt w V v → ∀ (d : Int), V.cnt d ≤ 200 → V.enc.length ≤ 300 * V.cnt d := by
  induction N with
  | zero => intro V hV; have := sz_pos V; omega
  | succ N ih =>
    intro V hV v w hv d h
    obtain ⟨k, n, s, l, ks, A, c, A', c', rfl, rfl, _, hn, hs, _, _, _, _, hE, hS⟩ := hv.open
    obtain ⟨hd, _, _, he, hx⟩ := cnt_parts h
    have hN : szAll l ≤ N := by simp only [Va.sz] at hV; omega
    have hel : ∀ (i : Nat) (x : Va), l[i]? = some x → x.enc.length ≤ 300 * x.cnt (d - 1) := fun i x hi => by
      obtain ⟨b, o, k1, n1, s1, A1, m1, c1, A2, m2, c2, _, _, _, _, _, _, hv1⟩ := hE i x hi
      exact ih x (Nat.le_trans (szAll_mem hi) hN) _ w hv1 (d - 1) (hx i x hi)
    have hkl : ∀ (i : Nat) (q : ByteArray), ks[i]? = some q → q.size ≤ 140737488351232 := fun i q hi => by obtain ⟨_, _, _, _, h⟩ := hS i q hi; exact h
    rw [he]
    simp only [Va.enc]
    split
    · have := Lib.itoa_length_le n hn.1 hn.2
      simp only [List.length_append, List.length_cons, List.length_nil]
      omega
    split
    · have := encT_len s hs
      omega
    split
    · have := encL_le (d - 1) l hel
      simp only [List.length_append, List.length_cons, List.length_nil]
      omega
    · have := encD_le (d - 1) l ks hel hkl
      simp only [List.length_append, List.length_cons, List.length_nil]
      omega
theorem few_enc {V : Va} {v : Value} {w : World} (hv : VAt w V v) (h : fewB V = true) : V.enc.length ≤ 60000 := by
  have hc := of_decide_eq_true h
  have := enc_all V.sz V (Nat.le_refl _) v w hv 20 hc
  omega
end Go.Proofs.YtclpbjdnollfcaaDoor
