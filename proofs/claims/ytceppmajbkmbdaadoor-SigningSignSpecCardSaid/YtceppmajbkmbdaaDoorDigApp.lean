/- Appending bytes and digests to rows that the call has made itself. -/
import Derived.Test.YtceppmajbkmbdaaDoorDigTree
import Derived.Maps.AppendAt
import Derived.Laws.OwnMore
import Derived.OwnWalk
namespace Go.Proofs.YtceppmajbkmbdaaDoor
set_option linter.unusedSimpArgs false
set_option linter.unusedVariables false
open Go.RowKit

theorem infoByte : (Tryd.prog.info? 5).map (fun i => (i.zero, i.size, i.bytes)) = some (some (.int .u8 0), 1, 1) := by kernel_rfl
theorem infoDig : (Tryd.prog.info? 24).map (fun i => (i.zero, i.size, i.bytes)) = some (some (dv zeros), 32, 32) := by kernel_rfl
def OwnB (w : World) (base : Nat) (v : Value) (l : List Int) : Prop := w.ownsRow base 5 1 v l.length (l.map (Value.int .u8))
def dcells (p : List (List Int)) : List Value := p.flatMap fun d => d.map (Value.int .u8)
def OwnD (w : World) (base : Nat) (v : Value) (p : List (List Int)) : Prop := w.ownsRow base 24 32 v p.length (dcells p)
theorem dcells_append (p q : List (List Int)) : dcells (p ++ q) = dcells p ++ dcells q := List.flatMap_append
theorem dcells_one (d : List Int) : dcells [d] = d.map (Value.int .u8) := by simp [dcells]
theorem dcells_length : ∀ {p : List (List Int)}, (∀ d ∈ p, Dg d) → (dcells p).length = p.length * 32
  | [], _ => rfl
  | d :: p, h => by
    have e : dcells (d :: p) = d.map (Value.int .u8) ++ dcells p := by simp [dcells]
    rw [e, List.length_append, dcells_length fun x hx => h x (List.mem_cons_of_mem _ hx), List.length_map, (h d List.mem_cons_self).len, List.length_cons]
    omega
theorem dcells_get : ∀ {p : List (List Int)}, (∀ d ∈ p, Dg d) → ∀ {i : Nat} {d : List Int}, p[i]? = some d → ∀ {j : Nat} {v : Value}, (d.map (Value.int .u8))[j]? = some v → (dcells p)[i * 32 + j]? = some v
  | [], _, i, d, hd, _, _, _ => by simp at hd
  | x :: p, h, 0, d, hd, j, v, hv => by
    have e : dcells (x :: p) = x.map (Value.int .u8) ++ dcells p := by simp [dcells]
    injection hd with hd
    subst hd
    have hj := (List.getElem?_eq_some_iff.1 hv).1
    rw [e, Nat.zero_mul, Nat.zero_add, List.getElem?_append_left hj, hv]
  | x :: p, h, i + 1, d, hd, j, v, hv => by
    have e : dcells (x :: p) = x.map (Value.int .u8) ++ dcells p := by simp [dcells]
    have hx : (x.map (Value.int .u8)).length = 32 := by simpa using (h x List.mem_cons_self).len
    rw [e, List.getElem?_append_right (by omega), show (i + 1) * 32 + j - (x.map (Value.int .u8)).length = i * 32 + j by omega]
    exact dcells_get (fun y hy => h y (List.mem_cons_of_mem _ hy)) (by simpa using hd) hv
theorem one_bytes (l : List Int) : ∀ u ∈ l.map (Value.int .u8), u.oneCell' = true := fun u hu => by obtain ⟨x, _, rfl⟩ := List.mem_map.1 hu; rfl
theorem one_dcells (p : List (List Int)) : ∀ u ∈ dcells p, u.oneCell' = true := fun u hu => by
  obtain ⟨d, _, h⟩ := List.mem_flatMap.1 hu
  exact one_bytes d u h
theorem add_flat (b o j : Nat) : (⟨b, o, none⟩ : Addr).add j = ⟨b, o + j, none⟩ := by unfold Addr.add; split <;> simp_all
theorem Bt.news {w : World} {a : Addr} {l : List Int} (h : Bt w (some a) l) : ∀ j u, (l.map (Value.int .u8))[j]? = some u → w.cell? (a.add j) = some u := by
  intro j u hu
  have hj : j < l.length := by simpa using (List.getElem?_eq_some_iff.1 hu).1
  obtain ⟨b, o, e, hc⟩ := h.at_ (fun e => by rw [e] at hj; simp at hj)
  injection e with e
  subst e
  rw [add_flat, hc j hj, ← hu, List.getElem?_map, List.getD_eq_getElem?_getD, List.getElem?_eq_getElem hj]
  rfl
theorem OwnB.bt {w : World} {base : Nat} {v : Value} {l : List Int} (h : OwnB w base v l) (hb : ∀ c ∈ l, Byt c) : ∃ A c, v = .slice A l.length c ∧ l.length ≤ c ∧ Bt w A l := by
  have hh := h
  rcases h.2 with ⟨rfl, h0⟩ | ⟨g, cap, cur, rfl, _, hg, h1, h2, h3, h4⟩
  · obtain rfl := List.length_eq_zero_iff.1 h0
    exact ⟨none, 0, rfl, Nat.le_refl _, Bt.nil⟩
  · refine ⟨_, cap, rfl, h1, hb, fun _ => ⟨g, 0, rfl, fun j hj => ?_⟩⟩
    rw [Nat.zero_add, hh.cellAt j (by omega), List.getElem?_map, List.getD_eq_getElem?_getD, List.getElem?_eq_getElem hj]
    rfl
theorem OwnD.ds {w : World} {base : Nat} {v : Value} {p : List (List Int)} (h : OwnD w base v p) (hb : ∀ d ∈ p, Dg d) : ∃ A c, v = .slice A p.length c ∧ p.length ≤ c ∧ Ds w A p := by
  have hh := h
  rcases h.2 with ⟨rfl, h0⟩ | ⟨g, cap, cur, rfl, _, hg, h1, h2, h3, h4⟩
  · obtain rfl := List.length_eq_zero_iff.1 h0
    exact ⟨none, 0, rfl, Nat.le_refl _, Ds.nil⟩
  · refine ⟨_, cap, rfl, h1, hb, fun _ => ⟨g, 0, rfl, fun i d hd j v hv => ?_⟩⟩
    have hi := (List.getElem?_eq_some_iff.1 hd).1
    have hj := (List.getElem?_eq_some_iff.1 hv).1
    have hd32 : (d.map (Value.int .u8)).length = 32 := by simpa using (hb d (List.mem_of_getElem? hd)).len
    rw [Nat.zero_add, hh.cellAt (i * 32 + j) (by omega)]
    exact dcells_get hb hd hv
theorem OwnB.later {w W : World} {base : Nat} {v : Value} {l : List Int} (h : OwnB w base v l) (hb : Below w.heap.size w W) : OwnB W base v l := by
  refine ⟨h.1, ?_⟩
  rcases h.2 with h | ⟨g, cap, cur, rfl, hbg, hg, r⟩
  · exact .inl h
  · exact .inr ⟨g, cap, cur, rfl, hbg, (hb.block g (Array.getElem?_eq_some_iff.1 hg).1).trans hg, r⟩
theorem OwnD.later {w W : World} {base : Nat} {v : Value} {l : List (List Int)} (h : OwnD w base v l) (hb : Below w.heap.size w W) : OwnD W base v l := by
  refine ⟨h.1, ?_⟩
  rcases h.2 with h | ⟨g, cap, cur, rfl, hbg, hg, r⟩
  · exact .inl h
  · exact .inr ⟨g, cap, cur, rfl, hbg, (hb.block g (Array.getElem?_eq_some_iff.1 hg).1).trans hg, r⟩
theorem run_append_B {w : World} {base : Nat} {v : Value} {l l2 : List Int} (h : OwnB w base v l) (ty : TypeId) (A : Option Addr) (c : Nat) (hA : Bt w A l2) (hn : A = none → c = 0) (h63 : l.length + l2.length ≤ 1000000000) (hbase : base ≤ w.heap.size) :
    ∃ v' w', (Builtin.append_ #[22, 22] ty #[v, .slice A l2.length c]).run Tryd.prog w = .ok v' w' ∧ OwnB w' base v' (l ++ l2) ∧ w.grownBy w' v.ownBlock := by
  obtain ⟨i0, hi, hz0, hz1, hz2⟩ := info_parts infoByte
  cases A with
  | none =>
    obtain rfl : l2 = [] := by
      by_cases e : l2 = []
      · exact e
      · obtain ⟨b, o, e, _⟩ := hA.at_ e; cases e
    obtain rfl := hn rfl
    exact ⟨v, w, run_append_owned_none (P := Tryd.prog) w base 22 ty 5 i0 1 Tryd.underlying22 hi v _ _ h, by rw [List.append_nil]; exact h, ⟨rfl, rfl, rfl, Nat.le_refl _, fun _ _ _ => rfl⟩⟩
  | some a =>
    obtain ⟨v', w', hr, h2, h3, _, _⟩ := run_append_own_at (P := Tryd.prog) w base 22 ty 5 i0 (.int .u8 0) 1 1 Tryd.underlying22 hi hz0 hz1 hz2 rfl (by decide) v _ _ h a l2.length c (l2.map (Value.int .u8)) (by simp) hA.news (one_bytes l2) (by unfold maxLen; omega) (by omega) hbase
    exact ⟨v', w', hr, by unfold OwnB; rw [List.length_append, List.map_append]; exact h2, h3⟩
theorem run_append_D {w : World} {base : Nat} {v : Value} {p : List (List Int)} (h : OwnD w base v p) (ty : TypeId) (N c : Nat) (d : List Int) (hd : Dg d) (hN : ByAt w N 24 d) (h63 : p.length ≤ 1000000000) (hbase : base ≤ w.heap.size) :
    ∃ v' w', (Builtin.append_ #[26, 26] ty #[v, .slice (some ⟨N, 0, none⟩) 1 c]).run Tryd.prog w = .ok v' w' ∧ OwnD w' base v' (p ++ [d]) ∧ w.grownBy w' v.ownBlock := by
  obtain ⟨i0, hi, hz0, hz1, hz2⟩ := info_parts infoDig
  obtain ⟨v', w', hr, h2, h3, _, _⟩ := run_append_own_at (P := Tryd.prog) w base 26 ty 24 i0 (dv zeros) 32 32 Tryd.underlying26 hi hz0 hz1 hz2 rfl (by decide) v _ _ h ⟨N, 0, none⟩ 1 c (d.map (Value.int .u8)) (by simpa using hd.len) (fun j u hu => by
      have hj : j < d.length := by simpa using (List.getElem?_eq_some_iff.1 hu).1
      rw [add_flat, Nat.zero_add, hN.cell hj, ← hu, List.getElem?_map, List.getD_eq_getElem?_getD, List.getElem?_eq_getElem hj]
      rfl) (one_bytes d) (by unfold maxLen; omega) (by omega) hbase
  exact ⟨v', w', hr, by unfold OwnD; rw [List.length_append, dcells_append, dcells_one]; exact h2, h3⟩
theorem wp_append {o : Oper} {a : Act} {w : World} {K : Act → World → Prop} {Q : Exit → Act → World → Prop} (s x : Operand) (t : TypeId) (ho : o.op = .call { callee := .builtin .append, args := #[s, x], argTypes := #[t, t] }) (v u v' : Value) (w' : World) (hs : a.eval s = v) (hx : a.eval x = u)
    (hr : (Builtin.append_ #[t, t] o.type #[v, u]).run Tryd.prog w = .ok v' w') (h : K (a.put o.dst v') w') : o.wp Tryd.prog a w K Q := by
  unfold Oper.wp execOp
  simp only [ho, resolve, invoke, builtin, Sem.run_bind, Sem.run_pure, Result.andThen_ok, List.map_toArray, List.map_cons, List.map_nil, hs, hx, hr]
  exact h
/-- an append to a row behind a world leaves that world's blocks -/
theorem grown_below {w0 w w' : World} {v : Value} (hb : Below w0.heap.size w0 w) (hg : w.grownBy w' v.ownBlock) (hv : ∀ k, v.ownBlock = some k → w0.heap.size ≤ k) : Below w0.heap.size w0 w' :=
  hb.grown hg hb.size (fun i e => hv i e)
end Go.Proofs.YtceppmajbkmbdaaDoor
