/- Appending lists of digests; the length of a path. -/
import Derived.Test.YtceppmajbkmbdaaDoorDigPath
import Derived.Test.YtceppmajbkmbdaaDoorDigOf
namespace Go.Proofs.YtceppmajbkmbdaaDoor
set_option linter.unusedSimpArgs false
set_option linter.unusedVariables false
open Go.RowKit

theorem Ds.news {w : World} {a : Addr} {p : List (List Int)} (h : Ds w (some a) p) : ∀ j u, (dcells p)[j]? = some u → w.cell? (a.add j) = some u := by
  intro j u hu
  have hl := dcells_length h.dg
  have hj := (List.getElem?_eq_some_iff.1 hu).1
  obtain ⟨b, o, e, hc⟩ := h.at_ (fun e => by rw [e] at hj; simp [dcells] at hj)
  injection e with e
  subst e
  have hi : j / 32 < p.length := by omega
  have hd := List.getElem?_eq_getElem hi
  have hlen := (h.dg _ (List.getElem_mem hi)).len
  have hv : (p[j / 32].map (Value.int .u8))[j % 32]? = some (Value.int .u8 (p[j / 32][j % 32]'(by omega))) := by
    rw [List.getElem?_map, List.getElem?_eq_getElem (by omega)]; rfl
  have h1 := hc _ _ hd (j % 32) _ hv
  have h2 := dcells_get h.dg hd hv
  rw [show j / 32 * 32 + j % 32 = j by omega] at h2
  rw [h2] at hu
  rw [add_flat, ← hu, ← h1]
  congr 2
  omega
theorem own_kept {w w' : World} {v : Value} {b : Nat} {t : TypeId} {l : List Int} (h : ByAt w b t l) (hg : w.grownBy w' v.ownBlock) (hv : ∀ k, v.ownBlock = some k → k ≠ b) : ByAt w' b t l := by
  show w'.heap[b]? = _
  rw [hg.block b (lt_of_block h) (fun e => hv b e.symm rfl)]
  exact h
theorem own_ne {w : World} {v v' : Value} {b : Nat} (hob : v'.ownBlock = v.ownBlock ∨ v'.ownBlock = some w.heap.size) (hv : ∀ k, v.ownBlock = some k → k ≠ b) (hb : b < w.heap.size) : ∀ k, v'.ownBlock = some k → k ≠ b := fun k hk => by
  rcases hob with h | h
  · exact hv k (h ▸ hk)
  · rw [h] at hk; injection hk with hk; omega
theorem append_one {w : World} {base : Nat} {v : Value} {p : List (List Int)} (h : OwnD w base v p) (ty : TypeId) (N c : Nat) (d : List Int) (hd : Dg d) (hN : ByAt w N 24 d) (h63 : p.length ≤ 1000000000) (hbase : base ≤ w.heap.size) :
    ∃ v' w', (Builtin.append_ #[26, 26] ty #[v, .slice (some ⟨N, 0, none⟩) 1 c]).run Tryd.prog w = .ok v' w' ∧ OwnD w' base v' (p ++ [d]) ∧ w.grownBy w' v.ownBlock ∧ (v'.ownBlock = v.ownBlock ∨ v'.ownBlock = some w.heap.size) := by
  obtain ⟨i0, hi, hz0, hz1, hz2⟩ := info_parts infoDig
  obtain ⟨v', w', hr, h2, h3, _, h5⟩ := run_append_own_at (P := Tryd.prog) w base 26 ty 24 i0 (dv zeros) 32 32 Tryd.underlying26 hi hz0 hz1 hz2 rfl (by decide) v _ _ h ⟨N, 0, none⟩ 1 c (d.map (Value.int .u8)) (by simpa using hd.len) (fun j u hu => by
      have hj : j < d.length := by simpa using (List.getElem?_eq_some_iff.1 hu).1
      rw [add_flat, Nat.zero_add, hN.cell hj, ← hu, List.getElem?_map, List.getD_eq_getElem?_getD, List.getElem?_eq_getElem hj]
      rfl) (one_bytes d) (by unfold maxLen; omega) (by omega) hbase
  exact ⟨v', w', hr, by unfold OwnD; rw [List.length_append, dcells_append, dcells_one]; exact h2, h3, h5⟩
theorem append_many {w : World} {base : Nat} {v : Value} {p q : List (List Int)} (h : OwnD w base v p) (ty : TypeId) (A : Option Addr) (c : Nat) (hA : Ds w A q) (hn : A = none → c = 0) (h63 : p.length + q.length ≤ 1000000000) (hbase : base ≤ w.heap.size) :
    ∃ v' w', (Builtin.append_ #[26, 26] ty #[v, .slice A q.length c]).run Tryd.prog w = .ok v' w' ∧ OwnD w' base v' (p ++ q) ∧ w.grownBy w' v.ownBlock ∧ (v'.ownBlock = v.ownBlock ∨ v'.ownBlock = some w.heap.size) := by
  obtain ⟨i0, hi, hz0, hz1, hz2⟩ := info_parts infoDig
  cases A with
  | none =>
    obtain rfl : q = [] := by
      by_cases e : q = []
      · exact e
      · obtain ⟨b, o, e, _⟩ := hA.at_ e; cases e
    obtain rfl := hn rfl
    exact ⟨v, w, run_append_owned_none (P := Tryd.prog) w base 26 ty 24 i0 32 Tryd.underlying26 hi v _ _ h, by rw [List.append_nil]; exact h, ⟨rfl, rfl, rfl, Nat.le_refl _, fun _ _ _ => rfl⟩, .inl rfl⟩
  | some a =>
    obtain ⟨v', w', hr, h2, h3, _, h5⟩ := run_append_own_at (P := Tryd.prog) w base 26 ty 24 i0 (dv zeros) 32 32 Tryd.underlying26 hi hz0 hz1 hz2 rfl (by decide) v _ _ h a q.length c (dcells q) (dcells_length hA.dg) hA.news (one_dcells q) (by unfold maxLen; omega) (by omega) hbase
    exact ⟨v', w', hr, by unfold OwnD; rw [List.length_append, dcells_append]; exact h2, h3, h5⟩
theorem own_form {w : World} {base : Nat} {v : Value} {p : List (List Int)} (h : OwnD w base v p) (hb : ∀ d ∈ p, Dg d) : ∃ A c, v = .slice A p.length c ∧ p.length ≤ c ∧ Ds w A p ∧ (A = none → c = 0) := by
  have hh := h
  rcases h.2 with ⟨rfl, h0⟩ | ⟨g, cap, cur, rfl, _, hg, h1, h2, h3, h4⟩
  · obtain rfl := List.length_eq_zero_iff.1 h0
    exact ⟨none, 0, rfl, Nat.le_refl _, Ds.nil, fun _ => rfl⟩
  · obtain ⟨A, c, e, h5, h6⟩ := OwnD.ds hh hb
    injection e with e1 e2 e3
    subst e1 e3
    exact ⟨_, _, rfl, h5, h6, fun h => by cases h⟩
theorem halfN_pow_le {n j : Nat} (h2 : 2 ≤ n) (h : n ≤ 2 ^ (j + 1)) : halfN n ≤ 2 ^ j ∧ n - halfN n ≤ 2 ^ j := by
  have hlt := halfN_lt h2
  have hge := halfN_ge h2
  have hlog : Nat.log2 (n - 1) ≤ j := by
    have h3 : 2 ^ Nat.log2 (n - 1) < 2 ^ (j + 1) := Nat.lt_of_lt_of_le hlt h
    have := (Nat.pow_lt_pow_iff_right (by omega : 1 < 2)).1 h3
    omega
  have h1 : halfN n ≤ 2 ^ j := Nat.pow_le_pow_right (by omega) hlog
  exact ⟨h1, by omega⟩
theorem lenP_le (j : Nat) : ∀ n at_, 1 ≤ n → n ≤ 2 ^ j → at_ < n → lenP n at_ ≤ j := by
  induction j with
  | zero =>
    intro n at_ h1 h2 h3
    obtain rfl : n = 1 := by omega
    rw [lenP_one]; omega
  | succ j IH =>
    intro n at_ h1 h2 h3
    by_cases h4 : n = 1
    · subst h4; rw [lenP_one]; omega
    · have h5 := halfN_pow_le (by omega) h2
      have h6 := halfN_pos n
      have h7 := halfN_lt (n := n) (by omega)
      by_cases ha : at_ < halfN n
      · rw [lenP_left (by omega) ha]; have := IH (halfN n) at_ h6 h5.1 ha; omega
      · rw [lenP_right (by omega) ha]; have := IH (n - halfN n) (at_ - halfN n) (by omega) h5.2 (by omega); omega
theorem wp_neq {o : Oper} {a : Act} {w : World} {K : Act → World → Prop} {Q : Exit → Act → World → Prop} (x y : Operand) (t : TypeId) (ho : o.op = .binOp .neq 24 x y t) (l k : List Int) (hx : a.eval x = dv l) (hy : a.eval y = dv k) (hl : l.length = 32) (hk : k.length = 32)
    (h : K (a.put o.dst (.bool (!decide (l = k)))) w) : o.wp Tryd.prog a w K Q := by
  unfold Oper.wp execOp
  simp only [ho, hx, hy, Sem.run_bind, run_eqGuard_agg w _ _ _ _ _ _ guard_dg, run_neq_struct, eq_dg l k hl hk w, Result.andThen_ok, Sem.run_pure]
  exact h
theorem wpList_neq {ops : Array Oper} {rest : List Oper} {o : Oper} {a : Act} {w : World} {Q : Exit → Act → World → Prop} (hw : Region.wanted o (yielded ops a.tmps) = true) (x y : Operand) (t : TypeId) (ho : o.op = .binOp .neq 24 x y t) (l k : List Int) (hx : a.eval x = dv l) (hy : a.eval y = dv k) (hl : l.length = 32) (hk : k.length = 32)
    (h : wpList Tryd.prog ops Q rest (a.put o.dst (.bool (!decide (l = k)))) w) : wpList Tryd.prog ops Q (o :: rest) a w :=
  wpList_wanted hw fun _ hK => wp_neq x y t ho l k hx hy hl hk (hK _ _ h)
end Go.Proofs.YtceppmajbkmbdaaDoor
