/- Drawn regions of any program: what reads comes first, the rest is a chain. -/
import Derived.Test.YtjppjbkndfbnhaaDoorLexH
import Derived.Deep.RegionHeld3
namespace Go.Proofs.YtjppjbkndfbnhaaDoor
set_option linter.unusedSimpArgs false
set_option linter.unusedVariables false
open Go.RowKit

def chainB (md : Region.Mode) (ops : Array Oper) : List Nat → Array Bool → Bool
  | [], listed => (Region.ready md ops listed).isEmpty
  | i :: is, listed => decide (Region.ready md ops listed = [i]) && chainB md ops is (listed.setIfInBounds i true)
theorem below_named {w W : World} (h : Hid (W = w.drewN 1)) : Below w.heap.size w W := by
  have e : W = w.drewN 1 := h
  subst e
  exact belowDrewN 1 (Below.refl _ _)
def wpChain (P : Program) (ops : Array Oper) (Q : Exit → Act → World → Prop) (S : World → Prop) : List Oper → Act → World → Prop
  | [], a, w => Q .normal a w
  | o :: l, a, w => if Region.wanted o (yielded ops a.tmps) = true then Oper.wp P o a w (fun a' w' => S w' ∧ wpChain P ops Q S l a' w') Q else S w ∧ wpChain P ops Q S l (a.put o.dst undef) w
theorem wpAnyH_chain {P : Program} {md : Region.Mode} {ops : Array Oper} {Q : Exit → Act → World → Prop} {S : World → Prop} : ∀ (is : List Nat) (l : List Oper) (listed : Array Bool) (a : Act) (w : World), is.map (ops[·]?) = l.map some → chainB md ops is listed = true →
    wpChain P ops Q S l a w → wpAnyH P md ops Q S is.length listed a w
  | [], [], _, _, _, _, hB, h => wpAnyH_done (by simpa [chainB] using hB) h _
  | i :: is, o :: l, listed, a, w, hl, hB, h => by
    simp only [List.map_cons, List.cons.injEq] at hl
    simp only [chainB, Bool.and_eq_true, decide_eq_true_eq] at hB
    refine wpAnyH_all hB.1 (by simp) fun j hj => ?_
    obtain rfl : j = i := by simpa using hj
    unfold wpOp
    simp only [hl.1]
    unfold wpChain at h
    split
    · rename_i hw
      rw [if_pos hw] at h
      exact .inl (Oper.wp_mono (fun a' w' (h' : S w' ∧ wpChain P ops Q S l a' w') => ⟨h'.1, wpAnyH_chain is l _ a' w' hl.2 hB.2 h'.2⟩) h)
    · rename_i hw
      rw [if_neg hw] at h
      exact ⟨h.1, wpAnyH_chain is l _ _ w hl.2 hB.2 h.2⟩
  | [], o :: l, _, _, _, hl, _, _ => by simp at hl
  | i :: is, [], _, _, _, hl, _, _ => by simp at hl
theorem filterMap_some {α β : Type} {f : α → Option β} : ∀ (is : List α), (is.all fun i => (f i).isSome) = true → is.map f = (is.filterMap f).map some
  | [], _ => rfl
  | i :: is, h => by
    simp only [List.all_cons, Bool.and_eq_true] at h
    obtain ⟨b, hb⟩ := Option.isSome_iff_exists.1 h.1
    rw [List.map_cons, List.filterMap_cons, hb, List.map_cons, filterMap_some is h.2]
theorem wpAnyH_chainOf {P : Program} {md : Region.Mode} {ops : Array Oper} {Q : Exit → Act → World → Prop} {S : World → Prop} (is : List Nat) (listed : Array Bool) (a : Act) (w : World) (hs : (is.all fun i => (ops[i]?).isSome) = true) (hB : chainB md ops is listed = true)
    (h : wpChain P ops Q S (is.filterMap (ops[·]?)) a w) : wpAnyH P md ops Q S is.length listed a w := wpAnyH_chain is _ listed a w (filterMap_some is hs) hB h
theorem wpChain_step {P : Program} {ops : Array Oper} {Q : Exit → Act → World → Prop} {S : World → Prop} {o : Oper} {l : List Oper} {a : Act} {w : World} (hgd : o.guard = none) (h : ∀ K : Act → World → Prop, (∀ a w, S w → wpChain P ops Q S l a w → K a w) → Oper.wp P o a w K Q) : wpChain P ops Q S (o :: l) a w := by
  unfold wpChain
  rw [if_pos (by simp [Region.wanted, hgd])]
  exact h _ fun a w h1 h2 => ⟨h1, h2⟩
theorem wpChain_nil {P : Program} {ops : Array Oper} {Q : Exit → Act → World → Prop} {S : World → Prop} {a : Act} {w : World} (h : Q .normal a w) : wpChain P ops Q S [] a w := h
theorem held {P : Program} {Q : Exit → Act → World → Prop} {S : World → Prop} {ops : Array Oper} {id : Nat} {a : Act} {w : World} (W : World) (hW : Hid (W = w.drewN 1)) (hm : P.follows .mixedOrders = true)
    (h : wpAnyH P .any ops Q S ops.size (Array.replicate ops.size false) a W) : (Code.region id ops true).wp P Q a w := by
  have e : W = w.drewN 1 := hW
  subst e
  exact wp_region_held hm h
/-- one operation that must come next -/
theorem wpAnyH_one {P : Program} {md : Region.Mode} {ops : Array Oper} {Q : Exit → Act → World → Prop} {S : World → Prop} {n : Nat} {listed : Array Bool} {a : Act} {w : World} (i : Nat) (o : Oper) (ho : ops[i]? = some o) (hr : Region.ready md ops listed = [i]) (hgd : Region.wanted o (yielded ops a.tmps) = true)
    (h : ∀ K : Act → World → Prop, (∀ a' w', S w' → wpAnyH P md ops Q S n (listed.setIfInBounds i true) a' w' → K a' w') → Oper.wp P o a w K Q) : wpAnyH P md ops Q S (n + 1) listed a w := by
  refine wpAnyH_all hr (by simp) fun j hj => ?_
  obtain rfl : j = i := by simpa using hj
  unfold wpOp
  simp only [ho]
  rw [if_pos hgd]
  exact .inl (h _ fun a' w' h1 h2 => ⟨h1, h2⟩)
theorem wp_append {o : Oper} {a : Act} {w : World} {K : Act → World → Prop} {Q : Exit → Act → World → Prop} (s x : Operand) (t : TypeId) (ho : o.op = .call { callee := .builtin .append, args := #[s, x], argTypes := #[t, t] }) (v u v' : Value) (w' : World) (hs : a.eval s = v) (hx : a.eval x = u)
    (hr : (Builtin.append_ #[t, t] o.type #[v, u]).run Tryd.prog w = .ok v' w') (h : K (a.put o.dst v') w') : o.wp Tryd.prog a w K Q := by
  unfold Oper.wp execOp
  simp only [ho, resolve, invoke, builtin, Sem.run_bind, Sem.run_pure, Result.andThen_ok, List.map_toArray, List.map_cons, List.map_nil, hs, hx, hr]
  exact h
theorem run_append_T {w : World} {base : Nat} {v : Value} {l : List Lx.Tk} (hown : OwnT w base v l) (ty : TypeId) (g c : Nat) (t : Lx.Tk)
    (h0 : w.cell? ⟨g, 0, none⟩ = some (.int .i64 t.k)) (h1 : w.cell? ⟨g, 1, none⟩ = some (.string t.t)) (h2 : w.cell? ⟨g, 2, none⟩ = some (.int .i64 t.a)) (hl : l.length ≤ 1000000) (hbase : base ≤ w.heap.size) :
    ∃ v' w', (Builtin.append_ #[24, 24] ty #[v, .slice (some ⟨g, 0, none⟩) 1 c]).run Tryd.prog w = .ok v' w' ∧ OwnT w' base v' (l ++ [t]) ∧ w.grownBy w' v.ownBlock ∧ (v'.ownBlock = v.ownBlock ∨ v'.ownBlock = some w.heap.size) := by
  obtain ⟨i0, hi, hz0, hz1, hz2⟩ := info_parts infoTok
  obtain ⟨v', w', hr, h2, h3, _, h5⟩ := run_append_own_at (P := Tryd.prog) w base 24 ty 41 i0 (.agg #[.int .i64 0, .string ⟨#[]⟩, .int .i64 0]) 3 32 Tryd.underlying24 hi hz0 hz1 hz2 rfl (by decide) v l.length (tkCells l) hown ⟨g, 0, none⟩ 1 c (tk1 t) rfl (threeAt h0 h1 h2) (tk1_one t) (by unfold maxLen; omega) (by omega) hbase
  refine ⟨v', w', hr, ?_, h3, h5⟩
  unfold OwnT
  rw [tkCells_append, tkCells_one, List.length_append]
  exact h2
end Go.Proofs.YtjppjbkndfbnhaaDoor
