/- What the reference's reader reads: how much of it, and how large it is. -/
import Derived.Test.YtclpbjdnollfcaaDoorCodRForw
namespace Go.Proofs.YtclpbjdnollfcaaDoor
set_option linter.unusedSimpArgs false
set_option linter.unusedVariables false
open Go.RowKit

theorem numRL_len {e : UInt8} {z : Bool} : ∀ (bs : List UInt8) (k n m k' : Nat) (t : List UInt8), numRL e z bs k n = some (m, k', t) → k ≤ k' ∧ t.length + 1 + (k' - k) = bs.length
  | [], _, _, _, _, _, h => by simp [numRL] at h
  | b :: r, k, n, m, k', t, h => by
    simp only [numRL] at h
    split at h
    · injection h with h
      injection h with h1 h2
      injection h2 with h2 h3
      subst h2 h3
      simp
    · split at h
      · cases h
      · have := numRL_len r (k + 1) _ m k' t h
        simp only [List.length_cons]
        omega
theorem numR_len {e : UInt8} {most : Nat} {bs : List UInt8} {n : Nat} {t : List UInt8} (h : numR e most bs = some (n, t)) : t.length + 2 ≤ bs.length := by
  unfold numR at h
  split at h
  · rename_i n' k' t' heq
    have := numRL_len _ _ _ _ _ _ heq
    split at h
    · cases h
    · injection h with h
      injection h with h1 h2
      subst h2
      omega
  · cases h
theorem textR_len2 {L : Nat} {bs s t : List UInt8} (h : textR L bs = some (s, t)) : t.length + s.length + 2 ≤ bs.length := by
  unfold textR at h
  cases hn : numR 58 L bs with
  | none => rw [hn] at h; cases h
  | some q =>
    obtain ⟨n, t'⟩ := q
    rw [hn] at h
    simp only at h
    split at h
    · cases h
    · injection h with h
      injection h with h1 h2
      have := numR_len hn
      rw [← h1, ← h2, List.length_take, List.length_drop]
      omega
theorem intR_len {bs t : List UInt8} {n : Int} (h : intR bs = some (n, t)) : t.length + 2 ≤ bs.length ∧ I64 n := by
  cases bs with
  | nil => simp [intR] at h
  | cons b r =>
    simp only [intR] at h
    split at h
    · cases hn : numR 101 9223372036854775808 r with
      | none => rw [hn] at h; cases h
      | some q =>
        obtain ⟨m, t'⟩ := q
        rw [hn] at h
        simp only at h
        split at h
        · cases h
        · injection h with h
          injection h with h1 h2
          subst h1 h2
          have := numR_len hn
          exact ⟨by simp; omega, i64_neg m (numR_le hn)⟩
    · cases hn : numR 101 9223372036854775807 (b :: r) with
      | none => rw [hn] at h; cases h
      | some q =>
        obtain ⟨m, t'⟩ := q
        rw [hn] at h
        injection h with h
        injection h with h1 h2
        subst h1 h2
        exact ⟨numR_len hn, i64_of m (numR_le hn)⟩

theorem encT_le (s : List UInt8) (h : s.length ≤ 1000000) : (encT ⟨s.toArray⟩).length ≤ s.length + 21 := by
  have e : (⟨s.toArray⟩ : ByteArray).size = s.length := by show s.toArray.size = _; simp
  have e2 : (⟨s.toArray⟩ : ByteArray).data.toList.length = s.length := by simp
  have := dd_len (u := s.length) (by omega)
  unfold encT Lib.itoa
  rw [e, if_neg (by omega), List.length_append, List.length_cons, e2]
  simp
  omega
abbrev Good (d : Nat) (v : List UInt8 → Option (Va × List UInt8)) : Prop := ∀ (bs : List UInt8) (x : Va) (q : List UInt8), v bs = some (x, q) → q.length < bs.length ∧ x.enc.length + 50 * q.length ≤ 50 * bs.length ∧ x.nest ≤ d
theorem elemsR_good {d : Nat} {v : List UInt8 → Option (Va × List UInt8)} (hv : Good d v) : ∀ (f : Nat) (bs : List UInt8) (acc l : List Va) (q : List UInt8), elemsP v f bs acc = some (l, q) →
    q.length < bs.length ∧ ∃ more, l = acc ++ more ∧ (encL more).length + 50 * q.length + 50 ≤ 50 * bs.length ∧ nestAll more ≤ d
  | 0, _, _, _, _, h => by simp [elemsP] at h
  | _ + 1, [], _, _, _, h => by simp [elemsP] at h
  | f + 1, b :: r, acc, l, q, h => by
    simp only [elemsP] at h
    split at h
    · injection h with h
      injection h with h1 h2
      subst h1 h2
      exact ⟨by simp, [], by simp, by simp [encL]; omega, by simp [nestAll]⟩
    · cases hq : v (b :: r) with
      | none => rw [hq] at h; cases h
      | some p =>
        obtain ⟨x, q'⟩ := p
        rw [hq] at h
        obtain ⟨h1, h2, h3⟩ := hv _ _ _ hq
        obtain ⟨h4, more, rfl, h5, h6⟩ := elemsR_good hv f q' _ _ _ h
        refine ⟨by omega, x :: more, by simp, ?_, ?_⟩
        · simp only [encL, List.length_append]; omega
        · simp only [nestAll]; omega
theorem pairsR_good {L d : Nat} (hL : L ≤ 2000) {v : List UInt8 → Option (Va × List UInt8)} (hv : Good d v) : ∀ (f : Nat) (bs : List UInt8) (acc l : List Va) (ks m : List ByteArray) (q : List UInt8), pairsR L v f bs acc ks = some ((l, m), q) →
    q.length < bs.length ∧ ∃ more mk, l = acc ++ more ∧ m = ks ++ mk ∧ (encD more mk).length + 50 * q.length + 50 ≤ 50 * bs.length ∧ nestAll more ≤ d
  | 0, _, _, _, _, _, _, h => by simp [pairsR] at h
  | _ + 1, [], _, _, _, _, _, h => by simp [pairsR] at h
  | f + 1, b :: r, acc, l, ks, m, q, h => by
    simp only [pairsR] at h
    split at h
    · injection h with h
      injection h with h1 h2
      injection h1 with h1 h3
      subst h1 h2 h3
      exact ⟨by simp, [], [], by simp, by simp, by simp [encD]; omega, by simp [nestAll]⟩
    · cases ht : textR L (b :: r) with
      | none => rw [ht] at h; cases h
      | some p =>
        obtain ⟨key, q0⟩ := p
        rw [ht] at h
        simp only at h
        cases hq : v q0 with
        | none => rw [hq] at h; cases h
        | some p =>
          obtain ⟨x, q'⟩ := p
          rw [hq] at h
          have h0 := textR_len2 ht
          have hk := encT_le key (by have := textR_len ht; omega)
          obtain ⟨h1, h2, h3⟩ := hv _ _ _ hq
          obtain ⟨h4, more, mk, rfl, rfl, h5, h6⟩ := pairsR_good hL hv f q' _ _ _ _ _ h
          refine ⟨by omega, x :: more, ⟨key.toArray⟩ :: mk, by simp, by simp, ?_, ?_⟩
          · simp only [encD, List.length_append]; omega
          · simp only [nestAll]; omega
theorem valRF_good {L d : Nat} (hL : L ≤ 2000) (sub : Option (List UInt8 → Option (Va × List UInt8))) (hs : ∀ v, sub = some v → Good d v) : Good (d + 1) (valRF L sub) := by
  intro bs x q h
  cases bs with
  | nil => simp [valRF] at h
  | cons b r =>
    simp only [valRF] at h
    split at h
    · obtain ⟨⟨n, q'⟩, h1, h2⟩ := Option.map_eq_some_iff.1 h
      injection h2 with h2 h3
      subst h2 h3
      obtain ⟨h4, h5⟩ := intR_len h1
      have := Lib.itoa_length_le n h5.1 h5.2
      refine ⟨by simp; omega, ?_, by simp [Va.nest, nestAll]⟩
      simp only [Va.enc, if_true, List.length_append, List.length_cons, List.length_nil]
      omega
    · split at h
      · cases sub with
        | none => cases h
        | some v =>
          obtain ⟨⟨l, q'⟩, h1, h2⟩ := Option.map_eq_some_iff.1 h
          injection h2 with h2 h3
          subst h2 h3
          obtain ⟨h4, more, e, h5, h6⟩ := elemsR_good (hs v rfl) _ _ _ _ _ h1
          simp only [List.nil_append] at e
          subst e
          refine ⟨by simp; omega, ?_, by simp only [Va.nest]; omega⟩
          simp only [Va.enc]
          rw [if_neg (by decide), if_neg (by decide), if_pos trivial]
          simp only [List.length_append, List.length_cons, List.length_nil]
          omega
      · split at h
        · cases sub with
          | none => cases h
          | some v =>
            obtain ⟨⟨⟨l, m⟩, q'⟩, h1, h2⟩ := Option.map_eq_some_iff.1 h
            injection h2 with h2 h3
            subst h2 h3
            obtain ⟨h4, more, mk, e, e2, h5, h6⟩ := pairsR_good hL (hs v rfl) _ _ _ _ _ _ _ h1
            simp only [List.nil_append] at e e2
            subst e e2
            refine ⟨by simp; omega, ?_, by simp only [Va.nest]; omega⟩
            simp only [Va.enc]
            rw [if_neg (by decide), if_neg (by decide), if_neg (by decide)]
            simp only [List.length_append, List.length_cons, List.length_nil]
            omega
        · obtain ⟨⟨s, q'⟩, h1, h2⟩ := Option.map_eq_some_iff.1 h
          injection h2 with h2 h3
          subst h2 h3
          have h4 := textR_len2 h1
          have hk := encT_le s (by have := textR_len h1; omega)
          refine ⟨by simp at h4 ⊢; omega, ?_, by simp [Va.nest, nestAll]⟩
          simp only [Va.enc]
          rw [if_neg (by decide), if_pos trivial]
          simp at h4 hk ⊢
          omega
theorem valR_good {L : Nat} (hL : L ≤ 2000) : ∀ (d : Nat), Good (d + 1) (valR L d)
  | 0 => valRF_good hL none (fun v h => by cases h)
  | d + 1 => valRF_good hL _ (fun v h => by injection h with h; subst h; exact valR_good hL d)
end Go.Proofs.YtclpbjdnollfcaaDoor
