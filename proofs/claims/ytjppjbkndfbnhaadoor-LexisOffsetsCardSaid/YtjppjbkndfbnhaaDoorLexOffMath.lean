/- Plain mathematics of the tokens of texts: where tokens and invalid bytes begin. -/
import Derived.Test.YtjppjbkndfbnhaaDoorLexStep
import Derived.Test.YtjppjbkndfbnhaaDoorLexTok
namespace Lx
set_option linter.unusedSimpArgs false
set_option linter.unusedVariables false

/-- a token is what the text has at its offset -/
structure TokOk (S : List B) (t : Tk) : Prop where
  off : ∃ j : Nat, t.a = (j : Int) ∧ j < S.length ∧ t.k ≠ 5 ∧ (t.k = 3 → S.getD j 0 = 34) ∧ (t.k ≠ 3 → t.t.data.toList ≠ [] ∧ j + t.t.data.toList.length ≤ S.length ∧ t.t.data.toList = (S.drop j).take t.t.data.toList.length)
theorem tok1_text (c : B) (r : List B) (h0 : (tok1 (c :: r)).1 ≠ 0) : ((tok1 (c :: r)).1 = 3 → c = 34) ∧ ((tok1 (c :: r)).1 ≠ 3 → (tok1 (c :: r)).2.1 = (c :: r).take (tok1 (c :: r)).2.2) := by
  revert h0
  show (tokC c r).1 ≠ 0 → ((tokC c r).1 = 3 → c = 34) ∧ ((tokC c r).1 ≠ 3 → (tokC c r).2.1 = (c :: r).take (tokC c r).2.2)
  unfold tokC
  split
  · intro _
    exact ⟨fun h => by simp at h, fun _ => takeWhile_eq_take _ _⟩
  · split
    · split
      · intro _
        refine ⟨fun h => by simp at h, fun _ => ?_⟩
        show c :: r.takeWhile isInn = (c :: r).take (spanN isInn r + 1)
        rw [List.take_succ_cons, ← takeWhile_eq_take]
      · intro h; simp at h
    · split
      · rename_i h34
        cases qb r with
        | none => intro h; simp at h
        | some x => intro _; exact ⟨fun _ => h34, fun h => by simp at h⟩
      · split
        · split
          · intro _; exact ⟨fun h => by simp at h, fun _ => rfl⟩
          · intro _; exact ⟨fun h => by simp at h, fun _ => rfl⟩
        · intro h; simp at h
/-- what the scan finds from an offset on -/
structure Good (S : List B) (k : Nat) (T : List Tk) (b : List Int) : Prop where
  toks : ∃ p, T = p ++ [⟨5, ⟨#[]⟩, (S.length : Int)⟩] ∧ (∀ t ∈ p, TokOk S t ∧ (k : Int) ≤ t.a) ∧ p.Pairwise (fun x y => x.a < y.a) ∧ (∀ x ∈ b, (k : Int) ≤ x ∧ x < (S.length : Int) ∧ ∀ t ∈ p, t.a ≠ x)
  bad : b.Pairwise (· < ·)
theorem R_good (S : List B) : ∀ (d k : Nat) (e : Int) (nb : Nat), S.length - k < d → k ≤ S.length → Good S k (R S k e nb).1 (R S k e nb).2 := by
  intro d
  induction d with
  | zero => intro k e nb h; omega
  | succ d ih =>
    intro k e nb hd hk
    have hble := blk_le false (S.drop k)
    rw [List.length_drop] at hble
    obtain ⟨k1, hk1⟩ : ∃ k1, k + blk false (S.drop k) = k1 := ⟨_, rfl⟩
    by_cases hend : k1 = S.length
    · rw [R_end e nb hk (hk1.trans hend)]
      exact ⟨⟨[], rfl, (fun t h => by cases h), List.Pairwise.nil, (fun x h => by cases h)⟩, List.Pairwise.nil⟩
    · obtain ⟨c, r, hcr⟩ : ∃ c r, S.drop k1 = c :: r := by
        cases hc : S.drop k1 with
        | nil => have := congrArg List.length hc; rw [List.length_drop] at this; simp at this; omega
        | cons c r => exact ⟨c, r, rfl⟩
      obtain ⟨hle, hR⟩ := R_more (S := S) e nb hk hk1 hcr
      have hp := tok1_pos c r
      have hkd := tok1_kind c r
      have htx := tok1_text c r
      have hg : S.getD k1 0 = c := by
        rw [List.getD_eq_getElem?_getD, ← List.head?_drop, hcr]; rfl
      generalize hx : tok1 (c :: r) = x at hle hR hp hkd htx
      obtain ⟨kd, tx, m⟩ := x
      simp only at hle hR hp hkd htx
      by_cases h0 : kd = 0
      · rw [if_pos h0] at hR
        by_cases hc : (k1 : Int) ≠ e ∧ nb < 64
        · rw [if_pos hc] at hR
          obtain ⟨⟨p, h1, h2, h3, h4⟩, h5⟩ := ih (k1 + m) ((k1 + m : Nat) : Int) (nb + 1) (by omega) hle
          rw [hR]
          refine ⟨⟨p, h1, fun t ht => ⟨(h2 t ht).1, by have := (h2 t ht).2; omega⟩, h3, fun x hx => ?_⟩, ?_⟩
          · rcases List.mem_cons.1 hx with rfl | hx
            · exact ⟨by omega, by omega, fun t ht e => by have := (h2 t ht).2; omega⟩
            · obtain ⟨g1, g2, g3⟩ := h4 x hx
              exact ⟨by omega, g2, g3⟩
          · exact List.pairwise_cons.2 ⟨fun x hx => by have := (h4 x hx).1; omega, h5⟩
        · rw [if_neg hc] at hR
          obtain ⟨⟨p, h1, h2, h3, h4⟩, h5⟩ := ih (k1 + m) ((k1 + m : Nat) : Int) nb (by omega) hle
          rw [hR]
          exact ⟨⟨p, h1, fun t ht => ⟨(h2 t ht).1, by have := (h2 t ht).2; omega⟩, h3, fun x hx => by obtain ⟨g1, g2, g3⟩ := h4 x hx; exact ⟨by omega, g2, g3⟩⟩, h5⟩
      · rw [if_neg h0] at hR
        obtain ⟨⟨p, h1, h2, h3, h4⟩, h5⟩ := ih (k1 + m) e nb (by omega) hle
        rw [hR]
        have hlen : (c :: r).length = S.length - k1 := by rw [← hcr, List.length_drop]
        rw [List.length_cons] at hlen
        have hok : TokOk S ⟨(kd : Int), ⟨tx.toArray⟩, (k1 : Int)⟩ := by
          obtain ⟨t1, t2⟩ := htx h0
          refine ⟨⟨k1, rfl, by omega, by show (kd : Int) ≠ 5; omega, fun h => ?_, fun h => ?_⟩⟩
          · rw [hg]; exact t1 (by have : (kd : Int) = 3 := h; omega)
          · have e1 := t2 (fun e => h (by show (kd : Int) = 3; omega))
            have e2 : tx.length = m := by rw [e1, List.length_take, List.length_cons]; omega
            show tx.toArray.toList ≠ [] ∧ k1 + tx.toArray.toList.length ≤ S.length ∧ tx.toArray.toList = (S.drop k1).take tx.toArray.toList.length
            simp only
            refine ⟨fun e => ?_, by omega, by rw [hcr, e2]; exact e1⟩
            rw [e] at e2
            simp at e2
            omega
        refine ⟨⟨⟨(kd : Int), ⟨tx.toArray⟩, (k1 : Int)⟩ :: p, by rw [h1]; rfl, fun t ht => ?_, List.pairwise_cons.2 ⟨fun y hy => by have := (h2 y hy).2; show (k1 : Int) < y.a; omega, h3⟩, fun x hx => ?_⟩, h5⟩
        · rcases List.mem_cons.1 ht with rfl | ht
          · exact ⟨hok, by show (k : Int) ≤ (k1 : Int); omega⟩
          · exact ⟨(h2 t ht).1, by have := (h2 t ht).2; omega⟩
        · obtain ⟨g1, g2, g3⟩ := h4 x hx
          refine ⟨by omega, g2, fun t ht => ?_⟩
          rcases List.mem_cons.1 ht with rfl | ht
          · show (k1 : Int) ≠ x; omega
          · exact g3 t ht
theorem scan_pl0 : ∀ (f : Nat) (l : List B) (a : Nat) (e : Int) (nb : Nat), (scan f l a e nb).2.length ≤ 64 - nb := by
  intro f
  induction f with
  | zero => intro l a e nb; exact Nat.zero_le _
  | succ f ih =>
    intro l a e nb
    conv => lhs; unfold scan
    split
    · exact Nat.zero_le _
    · rename_i c r hd
      split
      · split
        · rename_i h0 hc
          have := ih ((c :: r).drop (tok1 (c :: r)).2.2) (a + blk false l + (tok1 (c :: r)).2.2) ((a + blk false l + (tok1 (c :: r)).2.2 : Nat) : Int) (nb + 1)
          simp only [List.length_cons]
          omega
        · exact ih _ _ _ _
      · exact ih _ _ _ _
theorem scan_pl' (S : List B) : (toks S).2.length ≤ 64 := scan_pl0 _ _ _ _ _
theorem toks_good (S : List B) : Good S 0 (toks S).1 (toks S).2 := R_good S (S.length + 1) 0 (-1) 0 (by omega) (Nat.zero_le _)
end Lx
