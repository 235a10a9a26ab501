/- Kit: drawn regions, blocks of values. -/
import Derived.Test.YtdmaopfaeigelaaGreatDoorCodVal
import Derived.Deep.RegionHeld3
import Derived.Deep.MidRow
import Derived.Deep.DeepCutAuto
import Derived.Lib.SliceRun
import Derived.OneCell
import Derived.Laws.OwnMore
namespace Go.Proofs.YtdmaopfaeigelaaGreatDoor
set_option linter.unusedSimpArgs false
set_option linter.unusedVariables false
open Go.RowKit

theorem lt_of_cell {w : World} {a : Addr} {v : Value} (h : w.cell? a = some v) : a.block < w.heap.size := World.block_lt_of_cell? w a h
theorem lt_of_block {w : World} {b : Nat} {o : Obj} (h : w.heap[b]? = some o) : b < w.heap.size := (Array.getElem?_eq_some_iff.1 h).1
theorem cell_block {w w' : World} {b o : Nat} (h : w'.heap[b]? = w.heap[b]?) : w'.cell? ⟨b, o, none⟩ = w.cell? ⟨b, o, none⟩ := by
  unfold World.cell?
  rw [h]
def chainB (md : Region.Mode) (ops : Array Oper) : List Nat → Array Bool → Bool
  | [], listed => (Region.ready md ops listed).isEmpty
  | i :: is, listed => decide (Region.ready md ops listed = [i]) && chainB md ops is (listed.setIfInBounds i true)
theorem below_named {w W : World} (h : Hid (W = w.drewN 1)) : Below w.heap.size w W := by
  have e : W = w.drewN 1 := h
  subst e
  exact belowDrewN 1 (Below.refl _ _)
def wpChain (P : Program) (ops : Array Oper) (Q : Exit → Act → World → Prop) (S : World → Prop) : List Oper → Act → World → Prop
  | [], a, w => Q .normal a w
  | o :: l, a, w => if Region.wanted o (yielded ops a.tmps) = true then Oper.wp P o a w (fun a' w' => S w' ∧ wpChain P ops Q S l a' w') Q else S w ∧ wpChain P ops Q S l (a.put o.dst undef) w
theorem wpAnyH_chain {P : Program} {md : Region.Mode} {ops : Array Oper} {Q : Exit → Act → World → Prop} {S : World → Prop} : ∀ (is : List Nat) (l : List Oper) (listed : Array Bool) (a : Act) (w : World), is.map (ops[·]?) = l.map some → chainB md ops is listed = true →
    wpChain P ops Q S l a w → wpAnyH P md ops Q S is.length listed a w
  | [], [], _, _, _, _, hB, h => wpAnyH_done (by simpa [chainB] using hB) h _
  | i :: is, o :: l, listed, a, w, hl, hB, h => by
    simp only [List.map_cons, List.cons.injEq] at hl
    simp only [chainB, Bool.and_eq_true, decide_eq_true_eq] at hB
    refine wpAnyH_all hB.1 (by simp) fun j hj => ?_
    obtain rfl : j = i := by simpa using hj
    unfold wpOp
    simp only [hl.1]
    unfold wpChain at h
    split
    · rename_i hw
      rw [if_pos hw] at h
      exact .inl (Oper.wp_mono (fun a' w' (h' : S w' ∧ wpChain P ops Q S l a' w') => ⟨h'.1, wpAnyH_chain is l _ a' w' hl.2 hB.2 h'.2⟩) h)
    · rename_i hw
      rw [if_neg hw] at h
      exact ⟨h.1, wpAnyH_chain is l _ _ w hl.2 hB.2 h.2⟩
  | [], o :: l, _, _, _, hl, _, _ => by simp at hl
  | i :: is, [], _, _, _, hl, _, _ => by simp at hl
theorem filterMap_some {α β : Type} {f : α → Option β} : ∀ (is : List α), (is.all fun i => (f i).isSome) = true → is.map f = (is.filterMap f).map some
  | [], _ => rfl
  | i :: is, h => by
    simp only [List.all_cons, Bool.and_eq_true] at h
    obtain ⟨b, hb⟩ := Option.isSome_iff_exists.1 h.1
    rw [List.map_cons, List.filterMap_cons, hb, List.map_cons, filterMap_some is h.2]
theorem wpAnyH_chainOf {P : Program} {md : Region.Mode} {ops : Array Oper} {Q : Exit → Act → World → Prop} {S : World → Prop} (is : List Nat) (listed : Array Bool) (a : Act) (w : World) (hs : (is.all fun i => (ops[i]?).isSome) = true) (hB : chainB md ops is listed = true)
    (h : wpChain P ops Q S (is.filterMap (ops[·]?)) a w) : wpAnyH P md ops Q S is.length listed a w := wpAnyH_chain is _ listed a w (filterMap_some is hs) hB h
theorem wpChain_step {P : Program} {ops : Array Oper} {Q : Exit → Act → World → Prop} {S : World → Prop} {o : Oper} {l : List Oper} {a : Act} {w : World} (hgd : o.guard = none) (h : ∀ K : Act → World → Prop, (∀ a w, S w → wpChain P ops Q S l a w → K a w) → Oper.wp P o a w K Q) : wpChain P ops Q S (o :: l) a w := by
  unfold wpChain
  rw [if_pos (by simp [Region.wanted, hgd])]
  exact h _ fun a w h1 h2 => ⟨h1, h2⟩
theorem wpChain_nil {P : Program} {ops : Array Oper} {Q : Exit → Act → World → Prop} {S : World → Prop} {a : Act} {w : World} (h : Q .normal a w) : wpChain P ops Q S [] a w := h
theorem held {P : Program} {Q : Exit → Act → World → Prop} {S : World → Prop} {ops : Array Oper} {id : Nat} {a : Act} {w : World} (W : World) (hW : Hid (W = w.drewN 1)) (hm : P.follows .mixedOrders = true)
    (h : wpAnyH P .any ops Q S ops.size (Array.replicate ops.size false) a W) : (Code.region id ops true).wp P Q a w := by
  have e : W = w.drewN 1 := hW
  subst e
  exact wp_region_held hm h
/-- one operation that must come next -/
theorem wpAnyH_one {P : Program} {md : Region.Mode} {ops : Array Oper} {Q : Exit → Act → World → Prop} {S : World → Prop} {n : Nat} {listed : Array Bool} {a : Act} {w : World} (i : Nat) (o : Oper) (ho : ops[i]? = some o) (hr : Region.ready md ops listed = [i]) (hgd : Region.wanted o (yielded ops a.tmps) = true)
    (h : ∀ K : Act → World → Prop, (∀ a' w', S w' → wpAnyH P md ops Q S n (listed.setIfInBounds i true) a' w' → K a' w') → Oper.wp P o a w K Q) : wpAnyH P md ops Q S (n + 1) listed a w := by
  refine wpAnyH_all hr (by simp) fun j hj => ?_
  obtain rfl : j = i := by simpa using hj
  unfold wpOp
  simp only [ho]
  rw [if_pos hgd]
  exact .inl (h _ fun a' w' h1 h2 => ⟨h1, h2⟩)
theorem wpOp_one {P : Program} {ops : Array Oper} {Q : Exit → Act → World → Prop} {R : Act → World → Prop} {a : Act} {w : World} (i : Nat) (o : Oper) (ho : ops[i]? = some o) (hgd : Region.wanted o (yielded ops a.tmps) = true)
    (h : ∀ K : Act → World → Prop, (∀ a' w', R a' w' → K a' w') → Oper.wp P o a w K Q) : wpOp P ops Q i R a w := by
  unfold wpOp
  simp only [ho]
  rw [if_pos hgd]
  exact .inl (h _ fun a' w' h1 => h1)
theorem wpAnyH_two {P : Program} {md : Region.Mode} {ops : Array Oper} {Q : Exit → Act → World → Prop} {S : World → Prop} {n : Nat} {listed : Array Bool} {a : Act} {w : World} (i j : Nat) (o p : Oper) (ho : ops[i]? = some o) (hp : ops[j]? = some p) (hr : Region.ready md ops listed = [i, j])
    (hi : Region.wanted o (yielded ops a.tmps) = true) (hj : Region.wanted p (yielded ops a.tmps) = true)
    (h1 : ∀ K : Act → World → Prop, (∀ a' w', S w' → wpAnyH P md ops Q S n (listed.setIfInBounds i true) a' w' → K a' w') → Oper.wp P o a w K Q)
    (h2 : ∀ K : Act → World → Prop, (∀ a' w', S w' → wpAnyH P md ops Q S n (listed.setIfInBounds j true) a' w' → K a' w') → Oper.wp P p a w K Q) : wpAnyH P md ops Q S (n + 1) listed a w := by
  refine wpAnyH_all hr (by simp) fun x hx => ?_
  rcases (by simpa using hx : x = i ∨ x = j) with rfl | rfl
  · exact wpOp_one x o ho hi fun K hK => h1 K fun a' w' hs hw => hK a' w' ⟨hs, hw⟩
  · exact wpOp_one x p hp hj fun K hK => h2 K fun a' w' hs hw => hK a' w' ⟨hs, hw⟩
theorem wpList_wanted {P : Program} {ops : Array Oper} {Q : Exit → Act → World → Prop} {a : Act} {w : World} {rest : List Oper} {o : Oper} (hw : Region.wanted o (yielded ops a.tmps) = true)
    (h : ∀ K : Act → World → Prop, (∀ a w, wpList P ops Q rest a w → K a w) → o.wp P a w K Q) : wpList P ops Q (o :: rest) a w := by
  unfold wpList
  rw [if_pos hw]
  exact .inl (h _ fun a w h => h)
theorem rangeAt_keep {w w' : World} {b o : Nat} {cs : List Value} (h : w.rangeAt b o cs) (hb : Below w.heap.size w w') : w'.rangeAt b o cs := fun j v hv => by
  have hj := h j v hv
  rw [cell_block (hb.block b (lt_of_cell hj))]
  exact hj
theorem fbox_put {w : World} {N i : Nat} {v : Value} {cs : Array Value} {t : TypeId} {fz : Nat × Nat} (h : w.heap[N]? = some (.cells cs t fz)) : (w.setCell ⟨N, i, none⟩ v).heap[N]? = some (.cells (cs.setIfInBounds i v) t fz) := by
  have hlt := lt_of_block h
  have h' : w.heap[N] = .cells cs t fz := by simpa [Array.getElem?_eq_getElem hlt] using h
  show (w.heap.modify N _)[N]? = _
  rw [Array.getElem?_eq_getElem (by simpa using hlt), Array.getElem_modify_self, h']
  rfl
theorem fgrownSet {w W : World} {b : Nat} (h : w.grownBy W (some b)) (i : Nat) (x : Value) : w.grownBy (W.setCell ⟨b, i, none⟩ x) (some b) := by
  refine World.grownBy.trans h ⟨rfl, rfl, rfl, by simp, fun k hk hne => ?_⟩
  have : k ≠ b := fun e => hne (by rw [e])
  exact Below.heap_setCell _ _ _ _ (by show k ≠ b; exact this)
theorem results_cell_mid {P : Program} {fn : Func} {t : Tmp} {ty : TypeId} (h : fn.results = #[.cell t ty]) (tmps : Array Value) (w : World) (b : Nat) (cs : List Value) (d : TypeDesc) (hp : tmps.getD t undef = .pointer (some ⟨b, 0, none⟩)) (hc : w.rangeAt b 0 cs)
    (hu : P.underlying ty = some d) (hd : d.isRow = true) (hi : (P.info? ty).map (·.size) = some cs.length) : (results fn tmps).run P w = .ok (.agg cs.toArray) w := by
  have hl := run_loadVar_mid (P := P) w b 0 ty cs d hc hu hd hi
  have hp' : tmps[t]?.getD undef = .pointer (some ⟨b, 0, none⟩) := by simpa using hp
  simp [results, h, hp', asAddr, hl]
theorem fgrownSetCells (b : Nat) : ∀ (vs : List Value) (o : Nat) (w : World), w.grownBy (w.setCells b o vs) (some b)
  | [], _, w => World.grownBy.refl _ _
  | v :: vs, o, w => (fgrownSet (World.grownBy.refl _ _) o v).trans (fgrownSetCells b vs (o + 1) _)
def VsAt (w : World) (b : Nat) (t : TypeId) (cs : List Value) : Prop := w.heap[b]? = some (.cells cs.toArray t (0, 0))
theorem VsAt.keep {w w' : World} {b : Nat} {t : TypeId} {cs : List Value} (h : VsAt w b t cs) (hb : Below w.heap.size w w') : VsAt w' b t cs := (hb.block b (lt_of_block h)).trans h
theorem VsAt.grown {w w' : World} {b : Nat} {r : Option Nat} {t : TypeId} {cs : List Value} (h : VsAt w b t cs) (hb : w.grownBy w' r) (hne : r ≠ some b) : VsAt w' b t cs := (hb.block b (lt_of_block h) (fun e => hne e.symm)).trans h
theorem VsAt.cell {w : World} {b : Nat} {t : TypeId} {cs : List Value} (h : VsAt w b t cs) {j : Nat} {v : Value} (hj : cs[j]? = some v) : w.cell? ⟨b, j, none⟩ = some v := by
  unfold VsAt at h
  simp [World.cell?, h, hj]
theorem VsAt.free {w : World} {b : Nat} {t : TypeId} {cs : List Value} (h : VsAt w b t cs) (j : Nat) : w.frozen? ⟨b, j, none⟩ = false := by
  unfold VsAt at h
  simp [World.frozen?, h]
theorem VsAt.range {w : World} {b : Nat} {t : TypeId} {cs : List Value} (h : VsAt w b t cs) : w.rangeAt b 0 cs := fun j v hv => by rw [Nat.zero_add]; exact h.cell hv
theorem VsAt.mid {w : World} {b : Nat} {t : TypeId} {cs : List Value} (h : VsAt w b t cs) (o : Nat) (l : List Value) (he : ∀ j v, l[j]? = some v → cs[o + j]? = some v) : w.rangeAt b o l := fun j v hv => h.cell (he j v hv)
theorem VsAt.set {w : World} {b : Nat} {t : TypeId} {cs : List Value} (h : VsAt w b t cs) (j : Nat) (v : Value) : VsAt (w.setCell ⟨b, j, none⟩ v) b t (cs.set j v) := by
  unfold VsAt
  rw [fbox_put h, List.setIfInBounds_toArray]
theorem splice_stepV (B cs : List Value) (c : Value) (m : Nat) (h : m + (cs.length + 1) ≤ B.length) :
    (B.set m c).take (m + 1) ++ (cs ++ (B.set m c).drop (m + 1 + cs.length)) = B.take m ++ (c :: cs ++ B.drop (m + (cs.length + 1))) := by
  have e1 : (B.set m c).take (m + 1) = B.take m ++ [c] := by
    apply List.ext_getElem?
    intro j
    rw [List.getElem?_take, List.getElem?_set, List.getElem?_append, List.length_take, List.getElem?_take, Nat.min_eq_left (by omega)]
    by_cases hj : j < m
    · rw [if_pos (by omega), if_neg (by omega), if_pos hj, if_pos hj]
    · by_cases hj2 : j = m
      · subst hj2; simp; omega
      · rw [if_neg (by omega), if_neg hj, List.getElem?_eq_none (by simp; omega)]
  have e2 : (B.set m c).drop (m + 1 + cs.length) = B.drop (m + (cs.length + 1)) := by
    apply List.ext_getElem?
    intro j
    rw [List.getElem?_drop, List.getElem?_drop, List.getElem?_set, if_neg (by omega)]
    congr 1
    omega
  rw [e1, e2]
  simp
def spliceV (B vs : List Value) (m : Nat) : List Value := B.take m ++ (vs ++ B.drop (m + vs.length))
theorem VsAt.setCells {N : Nat} {t : TypeId} : ∀ (vs : List Value) (m : Nat) (w : World) (B : List Value), VsAt w N t B → m + vs.length ≤ B.length → VsAt (w.setCells N m vs) N t (spliceV B vs m)
  | [], m, w, B, h, _ => by
    have e : w.setCells N m [] = w := rfl
    rw [e]; simpa [spliceV] using h
  | c :: cs, m, w, B, h, hm => by
    simp only [List.length_cons] at hm
    have h2 := VsAt.setCells cs (m + 1) _ _ (h.set m c) (by simp; omega)
    simp only [World.setCells]
    unfold spliceV at h2 ⊢
    rw [splice_stepV B cs c m hm] at h2
    simpa using h2
theorem spliceV_all (B vs : List Value) (h : vs.length = B.length) : spliceV B vs 0 = vs := by
  unfold spliceV
  rw [List.take_zero, List.nil_append, Nat.zero_add, List.drop_eq_nil_of_le (by omega), List.append_nil]
theorem VsAt.there {w : World} {b : Nat} {t : TypeId} {cs : List Value} (h : VsAt w b t cs) (o n : Nat) (hn : o + n ≤ cs.length) : w.there b o n := fun j hj =>
  ⟨by rw [h.cell (List.getElem?_eq_getElem (by omega : o + j < cs.length))]; rfl, h.free _⟩
/-- a store into a part of a block (or all of it) -/
theorem wpList_vput {P : Program} {ops : Array Oper} {rest : List Oper} {o : Oper} {a : Act} {w : World} {Q : Exit → Act → World → Prop} (hgd : o.guard = none) (ty : TypeId) (x y : Operand) (ho : o.op = .store ty x y)
    (N m : Nat) (hx : a.eval x = .pointer (some ⟨N, m, none⟩)) (vs : List Value) (hy : a.eval y = .agg vs.toArray) (hi : (P.info? ty).map (·.size) = some vs.length) (h1 : ∀ v ∈ vs, v.oneCell' = true) (T : TypeId) (B : List Value) (h0 : VsAt w N T B) (hm : m + vs.length ≤ B.length)
    (h : ∀ W, Hid (VsAt W N T (spliceV B vs m)) → Hid (w.grownBy W (some N)) → wpList P ops Q rest (a.put o.dst undef) W) : wpList P ops Q (o :: rest) a w :=
  wpList_store_mid hgd ty x y ho N m vs.toArray hx hy (by simpa using h0.there m vs.length hm) (by simpa using hi) (all_oneCell_toArray h1) (h _ (hide (by simpa using h0.setCells vs m w B hm)) (hide (by simpa using fgrownSetCells N vs m w)))
theorem vret {fn : Func} {R : Ending → World → Prop} {a : Act} {w : World} {t : Tmp} {ty : TypeId} (h : fn.results = #[.cell t ty]) (hd : a.defers = []) (N : Nat) (hp : a.tmps.getD t undef = .pointer (some ⟨N, 0, none⟩)) (T : TypeId) (cs : List Value) (h0 : VsAt w N T cs) (d : TypeDesc) (hu : Tryz.prog.underlying ty = some d) (hr : d.isRow = true) (hi : (Tryz.prog.info? ty).map (·.size) = some cs.length) (hR : R (.returned (.agg cs.toArray)) w) :
    bodyPost Tryz.prog fn R .ret a w :=
  bodyPost_ret (v := .agg cs.toArray) (results_cell_mid h _ _ N cs _ hp h0.range hu hr hi) hd hR
theorem boxedV (w W : World) (cs : List Value) (t : TypeId) (hW : W.heap = w.heap.push (.cells cs.toArray t (0, 0))) : VsAt W w.heap.size t cs := by
  show W.heap[w.heap.size]? = _
  rw [hW, Array.getElem?_push_size]
theorem results_cell_tmp_mid {P : Program} {fn : Func} {t u : Tmp} {ty : TypeId} (h : fn.results = #[.cell t ty, .tmp u]) (tmps : Array Value) (w : World) (b : Nat) (cs : List Value) (d : TypeDesc) (hp : tmps.getD t undef = .pointer (some ⟨b, 0, none⟩)) (hc : w.rangeAt b 0 cs)
    (hu : P.underlying ty = some d) (hd : d.isRow = true) (hi : (P.info? ty).map (·.size) = some cs.length) : (results fn tmps).run P w = .ok (.tuple #[.agg cs.toArray, tmps.getD u undef]) w := by
  have hl := run_loadVar_mid (P := P) w b 0 ty cs d hc hu hd hi
  rw [results_cell_tmp h, hp]
  simp [asAddr, Result.andThen, hl]
theorem results_cct_mid {P : Program} {fn : Func} {t u v : Tmp} {ty tz : TypeId} (h : fn.results = #[.cell t ty, .cell u tz, .tmp v]) (tmps : Array Value) (w : World) (b b' : Nat) (cs cs' : List Value) (d d' : TypeDesc) (hp : tmps.getD t undef = .pointer (some ⟨b, 0, none⟩)) (hc : w.rangeAt b 0 cs) (hp' : tmps.getD u undef = .pointer (some ⟨b', 0, none⟩)) (hc' : w.rangeAt b' 0 cs')
    (hu : P.underlying ty = some d) (hd : d.isRow = true) (hi : (P.info? ty).map (·.size) = some cs.length) (hu' : P.underlying tz = some d') (hd' : d'.isRow = true) (hi' : (P.info? tz).map (·.size) = some cs'.length) : (results fn tmps).run P w = .ok (.tuple #[.agg cs.toArray, .agg cs'.toArray, tmps.getD v undef]) w := by
  have hl := run_loadVar_mid (P := P) w b 0 ty cs d hc hu hd hi
  have hl' := run_loadVar_mid (P := P) w b' 0 tz cs' d' hc' hu' hd' hi'
  have e1 : tmps[t]?.getD undef = .pointer (some ⟨b, 0, none⟩) := by simpa using hp
  have e2 : tmps[u]?.getD undef = .pointer (some ⟨b', 0, none⟩) := by simpa using hp'
  simp [results, h, e1, e2, asAddr, hl, hl']
theorem vret2 {fn : Func} {R : Ending → World → Prop} {a : Act} {w : World} {t u : Tmp} {ty : TypeId} (h : fn.results = #[.cell t ty, .tmp u]) (hd : a.defers = []) (N : Nat) (hp : a.tmps.getD t undef = .pointer (some ⟨N, 0, none⟩)) (T : TypeId) (cs : List Value) (h0 : VsAt w N T cs) (d : TypeDesc) (hu : Tryz.prog.underlying ty = some d) (hr : d.isRow = true) (hi : (Tryz.prog.info? ty).map (·.size) = some cs.length) (v : Value) (hv : a.tmps.getD u undef = v) (hR : R (.returned (.tuple #[.agg cs.toArray, v])) w) :
    bodyPost Tryz.prog fn R .ret a w := by
  subst hv
  exact bodyPost_ret (v := .tuple #[.agg cs.toArray, a.tmps.getD u undef]) (results_cell_tmp_mid h _ _ N cs _ hp h0.range hu hr hi) hd hR
theorem vret3 {fn : Func} {R : Ending → World → Prop} {a : Act} {w : World} {t u v : Tmp} {ty tz : TypeId} (h : fn.results = #[.cell t ty, .cell u tz, .tmp v]) (hd : a.defers = []) (N N' : Nat) (hp : a.tmps.getD t undef = .pointer (some ⟨N, 0, none⟩)) (hp' : a.tmps.getD u undef = .pointer (some ⟨N', 0, none⟩)) (T T' : TypeId) (cs cs' : List Value) (h0 : VsAt w N T cs) (h0' : VsAt w N' T' cs')
    (d d' : TypeDesc) (hu : Tryz.prog.underlying ty = some d) (hr : d.isRow = true) (hi : (Tryz.prog.info? ty).map (·.size) = some cs.length) (hu' : Tryz.prog.underlying tz = some d') (hr' : d'.isRow = true) (hi' : (Tryz.prog.info? tz).map (·.size) = some cs'.length) (x : Value) (hv : a.tmps.getD v undef = x) (hR : R (.returned (.tuple #[.agg cs.toArray, .agg cs'.toArray, x])) w) :
    bodyPost Tryz.prog fn R .ret a w := by
  subst hv
  exact bodyPost_ret (v := .tuple #[.agg cs.toArray, .agg cs'.toArray, a.tmps.getD v undef]) (results_cct_mid h _ _ N N' cs cs' _ _ hp h0.range hp' h0'.range hu hr hi hu' hr' hi') hd hR
end Go.Proofs.YtdmaopfaeigelaaGreatDoor
namespace Go.Proofs.YtdmaopfaeigelaaGreatDoor
theorem vs_set {w : World} {b P o : Nat} {t : TypeId} {cs : List Value} {u : Value} (h : VsAt w b t cs) (hne : b ≠ P) : VsAt (w.setCell ⟨P, o, none⟩ u) b t cs := (heap_setCell_other w _ b _ hne).trans h
/-- a load of values under a guard -/
theorem wpList_vgload {P : Program} {ops : Array Oper} {rest : List Oper} {o : Oper} {a : Act} {w : World} {Q : Exit → Act → World → Prop} (hw : Region.wanted o (yielded ops a.tmps) = true) (ty : TypeId) (x : Operand) (ho : o.op = .load ty x)
    (N off : Nat) (hx : a.eval x = .pointer (some ⟨N, off, none⟩)) (d : TypeDesc) (hu : P.underlying ty = some d) (hd : d.isRow = true) (cs : List Value) (hi : (P.info? ty).map (·.size) = some cs.length) (h0 : w.rangeAt N off cs)
    (h : wpList P ops Q rest (a.put o.dst (.agg cs.toArray)) w) : wpList P ops Q (o :: rest) a w :=
  wpList_wanted hw fun _ hK => wp_load_mid ty x ho N off hx cs d h0 hu hd hi (hK _ _ h)
/-- an operation that isn't wanted, once only it may come -/
theorem wpAnyH_skip {P : Program} {md : Region.Mode} {ops : Array Oper} {Q : Exit → Act → World → Prop} {S : World → Prop} {n : Nat} {listed : Array Bool} {a : Act} {w : World} (i : Nat) (o : Oper) (ho : ops[i]? = some o) (hr : Region.ready md ops listed = [i]) (hgd : Region.wanted o (yielded ops a.tmps) = false) (hS : S w)
    (h : wpAnyH P md ops Q S n (listed.setIfInBounds i true) (a.put o.dst undef) w) : wpAnyH P md ops Q S (n + 1) listed a w := by
  refine wpAnyH_all hr (by simp) fun j hj => ?_
  obtain rfl : j = i := by simpa using hj
  unfold wpOp
  simp only [ho]
  rw [if_neg (by rw [hgd]; simp)]
  exact ⟨hS, h⟩
end Go.Proofs.YtdmaopfaeigelaaGreatDoor
