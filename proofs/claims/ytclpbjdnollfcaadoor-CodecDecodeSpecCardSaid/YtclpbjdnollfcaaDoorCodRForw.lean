/- The reference's reader reads back what encode writes. -/
import Derived.Test.YtclpbjdnollfcaaDoorCodRMath
namespace Go.Proofs.YtclpbjdnollfcaaDoor
set_option linter.unusedSimpArgs false
set_option linter.unusedVariables false
open Go.RowKit

theorem elemsR_forw {v : List UInt8 → Option (Va × List UInt8)} : ∀ (l : List Va) (f : Nat) (acc : List Va) (q : List UInt8), (∀ (i : Nat) (x : Va), l[i]? = some x → ∀ rest, v (x.enc ++ rest) = some (x, rest)) → l.length < f →
    elemsP v f (encL l ++ 101 :: q) acc = some (acc ++ l, q)
  | [], f, acc, q, _, hf => by
    obtain ⟨g, rfl⟩ : ∃ g, f = g + 1 := ⟨f - 1, by simp at hf; omega⟩
    simp [encL, elemsP]
  | x :: r, f, acc, q, h, hf => by
    obtain ⟨g, rfl⟩ : ∃ g, f = g + 1 := ⟨f - 1, by simp at hf; omega⟩
    have ih := elemsR_forw r g (acc ++ [x]) q (fun i y hy => h (i + 1) y (by simpa using hy)) (by simp at hf; omega)
    have h0 := h 0 x rfl (encL r ++ 101 :: q)
    obtain ⟨b, t, hb, hne⟩ := enc_head x
    rw [encL, List.append_assoc]
    rw [hb, List.cons_append] at h0 ⊢
    simp only [elemsP, if_neg hne, h0, ih]
    simp [List.append_assoc]
theorem pairsR_forw {L : Nat} (hL : L ≤ 2000) {v : List UInt8 → Option (Va × List UInt8)} : ∀ (l : List Va) (m : List ByteArray) (f : Nat) (acc : List Va) (ks : List ByteArray) (q : List UInt8), l.length = m.length →
    (∀ (i : Nat) (x : Va), l[i]? = some x → ∀ rest, v (x.enc ++ rest) = some (x, rest)) → (∀ (i : Nat) (s : ByteArray), m[i]? = some s → s.size ≤ L) → l.length < f →
    pairsR L v f (encD l m ++ 101 :: q) acc ks = some ((acc ++ l, ks ++ m), q)
  | [], [], f, acc, ks, q, _, _, _, hf => by
    obtain ⟨g, rfl⟩ : ∃ g, f = g + 1 := ⟨f - 1, by simp at hf; omega⟩
    simp [encD, pairsR]
  | [], _ :: _, _, _, _, _, h, _, _, _ => by simp at h
  | _ :: _, [], _, _, _, _, h, _, _, _ => by simp at h
  | x :: r, s :: m, f, acc, ks, q, hl, h, hm, hf => by
    obtain ⟨g, rfl⟩ : ∃ g, f = g + 1 := ⟨f - 1, by simp at hf; omega⟩
    have ih := pairsR_forw hL r m g (acc ++ [x]) (ks ++ [s]) q (by simpa using hl) (fun i y hy => h (i + 1) y (by simpa using hy)) (fun i y hy => hm (i + 1) y (by simpa using hy)) (by simp at hf; omega)
    have h0 := h 0 x rfl (encD r m ++ 101 :: q)
    have ht := textR_encT L s (x.enc ++ (encD r m ++ 101 :: q)) (hm 0 s rfl) hL
    obtain ⟨b, t, hb, hne⟩ := encT_head s
    rw [encD, List.append_assoc, List.append_assoc]
    rw [hb, List.cons_append] at ht ⊢
    simp only [pairsR, if_neg hne, ht, bytes_eta, h0, ih]
    simp [List.append_assoc]
theorem encL_mem {l : List Va} {i : Nat} {x : Va} (hx : l[i]? = some x) : x.enc.length ≤ (encL l).length := by
  induction l generalizing i with
  | nil => simp at hx
  | cons y r ih =>
    simp only [encL, List.length_append]
    cases i with
    | zero => simp at hx; subst hx; omega
    | succ i => have := ih (i := i) (by simpa using hx); omega
theorem encD_mem : ∀ (l : List Va) (m : List ByteArray), l.length = m.length → (∀ (i : Nat) (x : Va), l[i]? = some x → x.enc.length ≤ (encD l m).length) ∧ (∀ (i : Nat) (s : ByteArray), m[i]? = some s → s.size ≤ (encD l m).length)
  | [], [], _ => ⟨fun i x h => by simp at h, fun i x h => by simp at h⟩
  | [], _ :: _, h => by simp at h
  | _ :: _, [], h => by simp at h
  | y :: r, q :: m, h => by
    obtain ⟨h1, h2⟩ := encD_mem r m (by simpa using h)
    refine ⟨fun i x hx => ?_, fun i s hs => ?_⟩
    · simp only [encD, List.length_append]
      cases i with
      | zero => simp at hx; subst hx; omega
      | succ i => have := h1 i x (by simpa using hx); omega
    · simp only [encD, List.length_append]
      cases i with
      | zero => simp at hs; subst hs; have e : q.data.toList.length = q.size := by simp
                unfold encT; rw [List.length_append, List.length_cons, e]; omega
      | succ i => have := h2 i s (by simpa using hs); omega
abbrev ForwR (L N d : Nat) : Prop := ∀ (V : Va), V.sz ≤ N → V.wf = true → V.bd → V.dep ≤ d → V.enc.length ≤ L → ∀ rest, valR L d (V.enc ++ rest) = some (V, rest)
theorem valR_forw (L : Nat) (hL : L ≤ 2000) : ∀ (N d : Nat), ForwR L N d := by
  intro N
  induction N with
  | zero => intro d V hV; have := sz_pos V; omega
  | succ N ih =>
    intro d V hV hwf hbd hdep hlen rest
    cases V with
    | mk k n s l ks =>
      have hwf' := hwf
      unfold Va.wf at hwf
      rw [Bool.and_eq_true] at hwf
      obtain ⟨hfit, hall⟩ := hwf
      unfold Va.bd at hbd
      obtain ⟨hn, hs, hbl, hbk⟩ := hbd
      have valEq : ∃ sub, (d = 0 ∧ sub = none ∨ ∃ e, d = e + 1 ∧ sub = some (valR L e)) ∧ valR L d = valRF L sub := by
        cases d with
        | zero => exact ⟨none, .inl ⟨rfl, rfl⟩, rfl⟩
        | succ e => exact ⟨_, .inr ⟨e, rfl, rfl⟩, rfl⟩
      obtain ⟨sub, hsub, hval⟩ := valEq
      rw [hval]
      rcases fits_cases hfit with ⟨rfl, rfl, h1, h2⟩ | ⟨rfl, rfl, h1, h2⟩ | ⟨rfl, rfl, rfl, h2⟩ | ⟨rfl, rfl, rfl, h2, hi⟩
      · obtain rfl := List.length_eq_zero_iff.1 h1
        obtain rfl := List.length_eq_zero_iff.1 h2
        have := intR_itoa hn rest
        simp only [Va.enc, if_true, List.cons_append, List.append_assoc, List.nil_append, valRF]
        rw [if_pos (by decide), this]
        rfl
      · obtain rfl := List.length_eq_zero_iff.1 h1
        obtain rfl := List.length_eq_zero_iff.1 h2
        have hsl : s.size ≤ L := by
          simp only [Va.enc] at hlen
          rw [if_neg (by decide), if_pos trivial] at hlen
          have e : s.data.toList.length = s.size := by simp
          unfold encT at hlen
          rw [List.length_append, List.length_cons, e] at hlen
          omega
        have ht := textR_encT L s rest hsl hL
        obtain ⟨b, t, hb, hne⟩ : ∃ b r, encT s = b :: r ∧ (48 ≤ b.toNat ∧ b.toNat ≤ 57) := by
          cases h : Lib.itoa (s.size : Int) with
          | nil => exact absurd h (itoa_ne _)
          | cons b r => exact ⟨b, r ++ 58 :: s.data.toList, by rw [encT, h]; rfl, itoa_nat_mem (n := s.size) (b := b) (by rw [h]; exact List.mem_cons_self)⟩
        simp only [Va.enc]
        rw [if_neg (by decide), if_pos trivial]
        rw [hb, List.cons_append] at ht ⊢
        simp only [valRF]
        rw [if_neg (by omega), if_neg (by omega), if_neg (by omega), ht]
        simp only [Option.map_some, bytes_eta]
      · obtain rfl := List.length_eq_zero_iff.1 h2
        simp only [Va.dep] at hdep
        rw [if_neg (by decide)] at hdep
        rcases hsub with ⟨hd, _⟩ | ⟨e, he, hse⟩
        · omega
        subst hse
        simp only [Va.enc] at hlen
        rw [if_neg (by decide), if_neg (by decide), if_pos trivial] at hlen
        have hel : ∀ (i : Nat) (x : Va), l[i]? = some x → ∀ rest, valR L e (x.enc ++ rest) = some (x, rest) := fun i x hx =>
          ih e x (sz_mem hV hx) (wfAll_mem' hall hx) (bdAll_mem hbl hx) (by have := depAll_mem hx; omega) (by have := encL_mem hx; simp at hlen; omega)
        have := elemsR_forw l ((encL l ++ 101 :: rest).length + 1) [] rest hel (by have := encL_ge l; simp; omega)
        simp only [Va.enc]
        rw [if_neg (by decide), if_neg (by decide), if_pos trivial]
        simp only [List.cons_append, List.append_assoc, List.nil_append, valRF]
        rw [if_neg (by decide), if_pos (by decide), this]
        simp
      · simp only [Va.dep] at hdep
        rw [if_neg (by decide)] at hdep
        rcases hsub with ⟨hd, _⟩ | ⟨e, he, hse⟩
        · omega
        subst hse
        simp only [Va.enc] at hlen
        rw [if_neg (by decide), if_neg (by decide), if_neg (by decide)] at hlen
        obtain ⟨g1, g2⟩ := encD_mem l ks h2.symm
        have hel : ∀ (i : Nat) (x : Va), l[i]? = some x → ∀ rest, valR L e (x.enc ++ rest) = some (x, rest) := fun i x hx =>
          ih e x (sz_mem hV hx) (wfAll_mem' hall hx) (bdAll_mem hbl hx) (by have := depAll_mem hx; omega) (by have := g1 i x hx; simp at hlen; omega)
        have := pairsR_forw hL l ks ((encD l ks ++ 101 :: rest).length + 1) [] [] rest h2.symm hel (fun i s hs => by have := g2 i s hs; simp at hlen; omega) (by have := encD_ge l ks h2.symm; simp; omega)
        simp only [Va.enc]
        rw [if_neg (by decide), if_neg (by decide), if_neg (by decide)]
        simp only [List.cons_append, List.append_assoc, List.nil_append, valRF]
        rw [if_neg (by decide), if_neg (by decide), if_pos (by decide), this]
        simp
theorem forwR {L : Nat} (hL : L ≤ 2000) {V : Va} (h1 : V.wf = true) (h2 : V.bd) (h3 : V.dep ≤ 16) (h4 : V.enc.length ≤ L) (rest : List UInt8) : valR L 16 (V.enc ++ rest) = some (V, rest) := valR_forw L hL V.sz 16 V (Nat.le_refl _) h1 h2 h3 h4 rest
end Go.Proofs.YtclpbjdnollfcaaDoor
