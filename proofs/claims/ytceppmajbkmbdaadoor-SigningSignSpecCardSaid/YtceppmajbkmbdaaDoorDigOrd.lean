/- Drawn regions of any program: what reads comes first, the rest is a chain. -/
import Derived.Test.YtceppmajbkmbdaaDoorDigNew
import Derived.Deep.RegionHeld3
namespace Go.Proofs.YtceppmajbkmbdaaDoor
set_option linter.unusedSimpArgs false
set_option linter.unusedVariables false
open Go.RowKit

def chainB (md : Region.Mode) (ops : Array Oper) : List Nat → Array Bool → Bool
  | [], listed => (Region.ready md ops listed).isEmpty
  | i :: is, listed => decide (Region.ready md ops listed = [i]) && chainB md ops is (listed.setIfInBounds i true)
def wpChain (P : Program) (ops : Array Oper) (Q : Exit → Act → World → Prop) (S : World → Prop) : List Oper → Act → World → Prop
  | [], a, w => Q .normal a w
  | o :: l, a, w => if Region.wanted o (yielded ops a.tmps) = true then Oper.wp P o a w (fun a' w' => S w' ∧ wpChain P ops Q S l a' w') Q else S w ∧ wpChain P ops Q S l (a.put o.dst undef) w
theorem wpAnyH_chain {P : Program} {md : Region.Mode} {ops : Array Oper} {Q : Exit → Act → World → Prop} {S : World → Prop} : ∀ (is : List Nat) (l : List Oper) (listed : Array Bool) (a : Act) (w : World), is.map (ops[·]?) = l.map some → chainB md ops is listed = true →
    wpChain P ops Q S l a w → wpAnyH P md ops Q S is.length listed a w
  | [], [], _, _, _, _, hB, h => wpAnyH_done (by simpa [chainB] using hB) h _
  | i :: is, o :: l, listed, a, w, hl, hB, h => by
    simp only [List.map_cons, List.cons.injEq] at hl
    simp only [chainB, Bool.and_eq_true, decide_eq_true_eq] at hB
    refine wpAnyH_all hB.1 (by simp) fun j hj => ?_
    obtain rfl : j = i := by simpa using hj
    unfold wpOp
    simp only [hl.1]
    unfold wpChain at h
    split
    · rename_i hw
      rw [if_pos hw] at h
      exact .inl (Oper.wp_mono (fun a' w' (h' : S w' ∧ wpChain P ops Q S l a' w') => ⟨h'.1, wpAnyH_chain is l _ a' w' hl.2 hB.2 h'.2⟩) h)
    · rename_i hw
      rw [if_neg hw] at h
      exact ⟨h.1, wpAnyH_chain is l _ _ w hl.2 hB.2 h.2⟩
  | [], o :: l, _, _, _, hl, _, _ => by simp at hl
  | i :: is, [], _, _, _, hl, _, _ => by simp at hl
theorem filterMap_some {α β : Type} {f : α → Option β} : ∀ (is : List α), (is.all fun i => (f i).isSome) = true → is.map f = (is.filterMap f).map some
  | [], _ => rfl
  | i :: is, h => by
    simp only [List.all_cons, Bool.and_eq_true] at h
    obtain ⟨b, hb⟩ := Option.isSome_iff_exists.1 h.1
    rw [List.map_cons, List.filterMap_cons, hb, List.map_cons, filterMap_some is h.2]
theorem wpAnyH_chainOf {P : Program} {md : Region.Mode} {ops : Array Oper} {Q : Exit → Act → World → Prop} {S : World → Prop} (is : List Nat) (listed : Array Bool) (a : Act) (w : World) (hs : (is.all fun i => (ops[i]?).isSome) = true) (hB : chainB md ops is listed = true)
    (h : wpChain P ops Q S (is.filterMap (ops[·]?)) a w) : wpAnyH P md ops Q S is.length listed a w := wpAnyH_chain is _ listed a w (filterMap_some is hs) hB h
theorem wpChain_step {P : Program} {ops : Array Oper} {Q : Exit → Act → World → Prop} {S : World → Prop} {o : Oper} {l : List Oper} {a : Act} {w : World} (hgd : o.guard = none) (h : ∀ K : Act → World → Prop, (∀ a w, S w → wpChain P ops Q S l a w → K a w) → Oper.wp P o a w K Q) : wpChain P ops Q S (o :: l) a w := by
  unfold wpChain
  rw [if_pos (by simp [Region.wanted, hgd])]
  exact h _ fun a w h1 h2 => ⟨h1, h2⟩
theorem wpChain_nil {P : Program} {ops : Array Oper} {Q : Exit → Act → World → Prop} {S : World → Prop} {a : Act} {w : World} (h : Q .normal a w) : wpChain P ops Q S [] a w := h
theorem held {P : Program} {Q : Exit → Act → World → Prop} {S : World → Prop} {ops : Array Oper} {id : Nat} {a : Act} {w : World} (W : World) (hW : Hid (W = w.drewN 1)) (hm : P.follows .mixedOrders = true)
    (h : wpAnyH P .any ops Q S ops.size (Array.replicate ops.size false) a W) : (Code.region id ops true).wp P Q a w := by
  have e : W = w.drewN 1 := hW
  subst e
  exact wp_region_held hm h
/-- one operation that must come next -/
theorem wpAnyH_one {P : Program} {md : Region.Mode} {ops : Array Oper} {Q : Exit → Act → World → Prop} {S : World → Prop} {n : Nat} {listed : Array Bool} {a : Act} {w : World} (i : Nat) (o : Oper) (ho : ops[i]? = some o) (hr : Region.ready md ops listed = [i]) (hgd : Region.wanted o (yielded ops a.tmps) = true)
    (h : ∀ K : Act → World → Prop, (∀ a' w', S w' → wpAnyH P md ops Q S n (listed.setIfInBounds i true) a' w' → K a' w') → Oper.wp P o a w K Q) : wpAnyH P md ops Q S (n + 1) listed a w := by
  refine wpAnyH_all hr (by simp) fun j hj => ?_
  obtain rfl : j = i := by simpa using hj
  unfold wpOp
  simp only [ho]
  rw [if_pos hgd]
  exact .inl (h _ fun a' w' h1 h2 => ⟨h1, h2⟩)
theorem wpChain_bstore {P : Program} {ops : Array Oper} {l' : List Oper} {o : Oper} {a : Act} {w : World} {Q : Exit → Act → World → Prop} {S : World → Prop} (hgd : o.guard = none) (ty : TypeId) (x y : Operand) (ho : o.op = .store ty x y)
    (N : Nat) (hx : a.eval x = .pointer (some ⟨N, 0, none⟩)) (l : List Int) (hy : a.eval y = dv l) (n : Nat) (hi : (P.info? ty).map (·.size) = some n) (hl : l.length = n) (T : TypeId) (l0 : List Int) (h0 : ByAt w N T l0) (hl0 : l0.length = n)
    (h : ∀ W, Hid (ByAt W N T l) → Hid (w.grownBy W (some N)) → S W ∧ wpChain P ops Q S l' (a.put o.dst undef) W) : wpChain P ops Q S (o :: l') a w := by
  have hth : w.there N 0 (l.map (Value.int .u8)).toArray.size := fun j hj => by
    rw [Nat.zero_add]
    exact ⟨by rw [h0.cell (j := j) (by simp at hj; omega)]; rfl, h0.free j⟩
  obtain ⟨h1, h2⟩ := h _ (h0.setAll l (by omega)) (grownSetCells N _ _ w)
  exact wpChain_step hgd fun K hK => wp_store_mid ty x y ho N 0 (l.map (Value.int .u8)).toArray hx hy hth (by simpa [hl] using hi) (bytes_oneCell l) (hK _ _ h1 h2)
end Go.Proofs.YtceppmajbkmbdaaDoor
