/- Contracts over the program of lexis: joined texts as sources; lists that are alike are joined alike. -/
import Derived.Test.YtjppjbkndfbnhaaDoorLexSane
import Derived.Test.YtjppjbkndfbnhaaDoorLexBackMath
import Derived.Test.YtjppjbkndfbnhaaDoorClose
namespace Go.Proofs.YtjppjbkndfbnhaaDoor
set_option linter.unusedSimpArgs false
set_option linter.unusedVariables false
open Go.RowKit Go.LawClose

theorem own_src {w : World} {B : Nat} {v : Value} {l : List Lx.B} (h : OwnB w B v l) : ∃ A c, v = .slice A l.length c ∧ Src w A ⟨l.toArray⟩ ∧ l.length ≤ c := by
  have hh := h
  rcases h.2 with ⟨rfl, h0⟩ | ⟨g, cap, cur, rfl, hb, hg, hn, hm, hs, ht⟩
  · have : l = [] := List.length_eq_zero_iff.1 h0
    subst this
    exact ⟨none, 0, rfl, .inl ⟨rfl, rfl⟩, Nat.le_refl _⟩
  · refine ⟨_, cap, rfl, .inr ⟨g, 0, rfl, (Array.getElem?_eq_some_iff.1 hg).1, fun i hi => ?_⟩, hn⟩
    have hi' : i < l.length := hi
    rw [Nat.zero_add, World.ownsRow.cellAt hh i (by omega)]
    simp [Lib.byteCells, hi']
    rfl
theorem outT_kt {t u : Lx.Tk} (h : Lx.kt t = Lx.kt u) : Lx.outT t = Lx.outT u ∧ Lx.fitP t = Lx.fitP u ∧ Lx.endP t = Lx.endP u ∧ t.t.size = u.t.size := by
  obtain ⟨a, b, c⟩ := t
  obtain ⟨d, e, f⟩ := u
  simp only [Lx.kt, Prod.mk.injEq] at h
  obtain ⟨rfl, rfl⟩ := h
  exact ⟨rfl, rfl, rfl, rfl⟩
theorem joinT_kt : ∀ {l m : List Lx.Tk}, l.map Lx.kt = m.map Lx.kt → Lx.joinT l = Lx.joinT m ∧ l.all Lx.fitP = m.all Lx.fitP ∧ Lx.wgt l = Lx.wgt m
  | [], [], _ => ⟨rfl, rfl, rfl⟩
  | [], _ :: _, h => by simp at h
  | _ :: _, [], h => by simp at h
  | t :: l, u :: m, h => by
    simp only [List.map_cons, List.cons.injEq] at h
    obtain ⟨h1, h2, _, h4⟩ := outT_kt h.1
    obtain ⟨i1, i2, i3⟩ := joinT_kt h.2
    exact ⟨by simp only [Lx.joinT, h1, i1], by simp only [List.all_cons, h2, i2], by simp only [Lx.wgt, h4, i3]⟩
theorem joinL_kt {l m : List Lx.Tk} (h : l.map Lx.kt = m.map Lx.kt) : Lx.joinL l = Lx.joinL m := by
  match l, m, h with
  | [], [], _ => rfl
  | [], _ :: _, h => simp at h
  | _ :: _, [], h => simp at h
  | t :: l, u :: m, h =>
    simp only [List.map_cons, List.cons.injEq] at h
    simp only [Lx.joinL, (outT_kt h.1).1, (joinT_kt h.2).1]
theorem joinR_kt {l m : List Lx.Tk} (h : l.map Lx.kt = m.map Lx.kt) : Lx.joinR l = Lx.joinR m := by
  rcases List.eq_nil_or_concat l with rfl | ⟨p, t, rfl⟩
  · have : m = [] := by cases m with | nil => rfl | cons _ _ => simp at h
    rw [this]
  · rcases List.eq_nil_or_concat m with rfl | ⟨q, u, rfl⟩
    · simp at h
    · simp only [List.concat_eq_append, List.map_append, List.map_cons, List.map_nil] at h ⊢
      obtain ⟨h1, h2⟩ := List.append_inj' h rfl
      simp only [List.cons.injEq, and_true] at h2
      obtain ⟨_, _, h4, _⟩ := outT_kt h2
      rw [joinR_snoc, joinR_snoc, h4, (joinT_kt h1).2.1, joinL_kt h1]
/-- what Join accepts is what its text is split into -/
theorem back_math {l : List Lx.Tk} {b : List Lx.B} (h : Lx.joinR l = some b) : AlikeP l (Lx.toks b).1 ∧ (Lx.toks b).2 = [] ∧ Lx.joinR (Lx.toks b).1 = some b ∧ Lx.wgt (Lx.toks b).1 = Lx.wgt l ∧ b.length ≤ 3 * Lx.wgt l := by
  rcases List.eq_nil_or_concat l with rfl | ⟨p, t, rfl⟩
  · simp [Lx.joinR] at h
  · rw [List.concat_eq_append] at h ⊢
    rw [joinR_snoc] at h
    split at h
    · rename_i hc
      injection h with h
      subst h
      obtain ⟨h1, h2⟩ := Lx.toks_join p hc.2
      have he : Lx.kt t = (5, ⟨#[]⟩) := by
        have := hc.1
        unfold Lx.endP at this
        simp only [Bool.and_eq_true, beq_iff_eq] at this
        show (t.k, t.t) = _
        rw [this.1, size0 this.2]
        rfl
      have hal : (p ++ [t]).map Lx.kt = (Lx.toks (Lx.joinL p)).1.map Lx.kt := by
        rw [h1, List.map_append, List.map_singleton, he]
      refine ⟨hal, h2, ?_, (joinT_kt hal).2.2.symm, ?_⟩
      · rw [← joinR_kt hal, joinR_snoc, if_pos hc]
      · have := Lx.joinL_len p
        rw [Lx.wgt_append]
        omega
    · cases h
/-- the tokens of a text are joined -/
theorem again_math (S : List Lx.B) : ∃ b, Lx.joinR (Lx.toks S).1 = some b ∧ Lx.wgt (Lx.toks S).1 ≤ 2 * S.length + 1 := by
  obtain ⟨p, b, h1, h2, h3⟩ := Lx.toks_fit S
  refine ⟨Lx.joinL p, ?_, ?_⟩
  · rw [h1, joinR_snoc, if_pos ⟨by unfold Lx.endP; rfl, h2⟩]
  · rw [h1, Lx.wgt_append]
    show Lx.wgt p + (1 + 0 + 0) ≤ _
    omega
end Go.Proofs.YtjppjbkndfbnhaaDoor
