/- Plain mathematics of the reference's division: the greatest remainder is taken again and again. -/
import Derived.Test.YthbdhlcimgiemaaDoorMonRSplit
namespace Go.Proofs.YthbdhlcimgiemaaDoor
set_option linter.unusedSimpArgs false
set_option linter.unusedVariables false
open Go.RowKit

/-- what has been given when the first t of the order have got their cents -/
def givenOut (a : Int) (ws : List Int) (s : List Rm) (t : Nat) (i : Nat) : Int := (quoL a ws).getD i 0 + (cnt i (s.take t) : Int)
def givenRest (a : Int) (ws : List Int) (s : List Rm) (t : Nat) (i : Nat) : Int := if cnt i (s.take t) = 0 then (remL a ws).getD i 0 else -1
section
variable {a : Int} {ws : List Int} {s : List Rm}
theorem ord_mem (hp : s.Perm (rmsP a ws)) {i : Nat} (hi : i < ws.length) : ((i : Int), (remL a ws).getD i 0) ∈ s :=
  hp.mem_iff.2 (mem_rms.2 ⟨i, by rw [remL_len]; exact hi, rfl⟩)
theorem ord_at (hp : s.Perm (rmsP a ws)) {t : Nat} (ht : t < s.length) : ∃ i : Nat, i < ws.length ∧ s.getD t (0, 0) = ((i : Int), (remL a ws).getD i 0) := by
  have hm : s.getD t (0, 0) ∈ s := by rw [List.getD_eq_getElem?_getD, List.getElem?_eq_getElem ht]; exact List.getElem_mem ht
  obtain ⟨i, h1, h2⟩ := mem_rms.1 (hp.mem_iff.1 hm)
  exact ⟨i, by rwa [remL_len] at h1, h2⟩
theorem cnt_zero_iff (hp : s.Perm (rmsP a ws)) {t i : Nat} (hi : i < ws.length) : cnt i (s.take t) = 0 ↔ ((i : Int), (remL a ws).getD i 0) ∉ s.take t := by
  have hn : s.Nodup := hp.nodup_iff.2 (rms_nodup _ 0).1
  have hx := ord_mem hp hi
  rw [count_one (x := ((i : Int), (remL a ws).getD i 0)) rfl ((List.take_sublist t s).nodup hn) (fun y hy he => rms_unique (hp.mem_iff.1 (List.mem_of_mem_take hy)) (hp.mem_iff.1 hx) he)]
  by_cases h : ((i : Int), (remL a ws).getD i 0) ∈ s.take t
  · simp [h]
  · simp [h]
theorem take_drop_ne (hb : Before s) {t : Nat} (ht : t < s.length) : s.getD t (0, 0) ∉ s.take t ∧ ∀ y ∈ s, y ∉ s.take t → y ≠ s.getD t (0, 0) → ltR (s.getD t (0, 0)) y = true := by
  have hd : s.drop t = s.getD t (0, 0) :: s.drop (t + 1) := by
    rw [List.drop_eq_getElem_cons ht, List.getD_eq_getElem?_getD, List.getElem?_eq_getElem ht]
    rfl
  have hb2 : (s.take t ++ s.drop t).Pairwise fun x y => ltR x y = true := by rw [List.take_append_drop]; exact hb
  obtain ⟨_, h2, h3⟩ := List.pairwise_append.1 hb2
  rw [hd] at h2 h3
  refine ⟨fun hm => ?_, fun y hy hyt hne => ?_⟩
  · have := h3 _ hm _ List.mem_cons_self
    rw [ltR_irr] at this
    cases this
  · have hyd : y ∈ s.drop t := by
      rw [← List.take_append_drop t s] at hy
      rcases List.mem_append.1 hy with h | h
      · exact absurd h hyt
      · exact h
    rw [hd] at hyd
    rcases List.mem_cons.1 hyd with h | h
    · exact absurd h hne
    · exact (List.pairwise_cons.1 h2).1 y h
/-- the first of the greatest is the next in the order -/
theorem best_next (hT : 0 < tot ws) (hp : s.Perm (rmsP a ws)) (hb : Before s) {t : Nat} (ht : t < s.length) {i : Nat} (hi : i < ws.length) (hx : s.getD t (0, 0) = ((i : Int), (remL a ws).getD i 0)) {b : Nat} (hbl : b < ws.length)
    (h1 : ∀ k, k < ws.length → givenRest a ws s t k ≤ givenRest a ws s t b) (h2 : ∀ k, k < b → givenRest a ws s t k < givenRest a ws s t b) : b = i := by
  obtain ⟨hni, hlt⟩ := take_drop_ne hb ht
  rw [hx] at hni hlt
  have hci := (cnt_zero_iff hp (t := t) hi).2 hni
  have hri := rem_bd (a := a) hT _ (getD_mem (show i < (remL a ws).length by rw [remL_len]; exact hi))
  have hgi : givenRest a ws s t i = (remL a ws).getD i 0 := by unfold givenRest; rw [if_pos hci]
  have hall : ∀ k, k < ws.length → k ≠ i → givenRest a ws s t k < (remL a ws).getD i 0 ∨ givenRest a ws s t k = (remL a ws).getD i 0 ∧ i < k := by
    intro k hk hne
    unfold givenRest
    by_cases hc : cnt k (s.take t) = 0
    · rw [if_pos hc]
      have hnk := (cnt_zero_iff hp hk).1 hc
      have := hlt _ (ord_mem hp hk) hnk (fun e => hne (by have := congrArg Prod.fst e; exact Int.ofNat.inj this))
      rw [ltR_iff] at this
      rcases this with h | ⟨h, h'⟩
      · exact .inl h
      · right
        have h'' : (i : Int) < (k : Int) := h'
        exact ⟨h.symm, by omega⟩
    · rw [if_neg hc]
      left
      omega
  by_cases e : b = i
  · exact e
  · exfalso
    have hh1 := h1 i hi
    rw [hgi] at hh1
    rcases hall b hbl e with h | ⟨h, h'⟩
    · omega
    · have := h2 i h'
      rw [hgi] at this
      omega
theorem out_step (hp : s.Perm (rmsP a ws)) {t i : Nat} (ht : t < s.length) (hx : s.getD t (0, 0) = ((i : Int), (remL a ws).getD i 0)) (k : Nat) :
    givenOut a ws s (t + 1) k = if k = i then givenOut a ws s t i + 1 else givenOut a ws s t k := by
  unfold givenOut
  rw [cnt_take ht, hx]
  by_cases e : k = i
  · subst e; rw [if_pos rfl, if_pos rfl]; omega
  · rw [if_neg e, if_neg (show ¬ (i : Int) = (k : Int) by omega)]; rfl
theorem rest_step (hp : s.Perm (rmsP a ws)) {t i : Nat} (ht : t < s.length) (hx : s.getD t (0, 0) = ((i : Int), (remL a ws).getD i 0)) (k : Nat) :
    givenRest a ws s (t + 1) k = if k = i then -1 else givenRest a ws s t k := by
  unfold givenRest
  rw [cnt_take ht, hx]
  by_cases e : k = i
  · subst e; rw [if_pos rfl, if_pos rfl, if_neg (by omega)]
  · rw [if_neg e, if_neg (show ¬ (i : Int) = (k : Int) by omega)]; rfl
theorem rest_bd (hT : 0 < tot ws) {t k : Nat} (hk : k < ws.length) : -1 ≤ givenRest a ws s t k ∧ givenRest a ws s t k < tot ws := by
  have := rem_bd (a := a) hT _ (getD_mem (show k < (remL a ws).length by rw [remL_len]; exact hk))
  unfold givenRest
  split <;> omega
theorem out_end (hp : s.Perm (rmsP a ws)) (hb : Before s) {m k : Nat} (hm : centsP a ws = (m : Int)) (hk : k < ws.length) : givenOut a ws s m k = partAt a ws k := by
  unfold givenOut partAt
  rw [cnt_gets hp hb hm hk]
end
end Go.Proofs.YthbdhlcimgiemaaDoor
