/- Contracts over the program of facts: the value of a fact. -/
import Derived.Test.YtdmaopfaeigelaaGreatDoorFacRVW
import Derived.Test.YtdmaopfaeigelaaGreatDoorFacH
namespace Go.Proofs.YtdmaopfaeigelaaGreatDoor
set_option linter.unusedSimpArgs false
set_option linter.unusedVariables false
open Go.RowKit Go.Shelf
attribute [local go_sem] Oper.semAt_some

def listL (v : Value) : List Value := [.int .i64 3, .int .i64 0, .string ByteArray.empty, v, .slice none 0 0]
theorem listL_one {v : Value} (h : v.oneCell' = true) : ∀ x ∈ listL v, x.oneCell' = true := by
  intro x hx
  simp only [listL, List.mem_cons, List.not_mem_nil, or_false] at hx
  rcases hx with rfl | rfl | rfl | rfl | rfl <;> first | rfl | exact h
def rawCells (l : List Raw) : List Value := l.flatMap Raw.cs
theorem rawCells_len (l : List Raw) : (rawCells l).length = l.length * 5 := by
  induction l with
  | nil => rfl
  | cons x l ih => simp only [rawCells, List.flatMap_cons, List.length_append, x.len, List.length_cons] at ih ⊢; omega
theorem rawCells_snoc (l : List Raw) (x : Raw) : rawCells (l ++ [x]) = rawCells l ++ x.cs := by simp [rawCells]
def dayS : ByteArray := ⟨#[100, 97, 121]⟩
def kindS : ByteArray := ⟨#[107, 105, 110, 100]⟩
def knownS : ByteArray := ⟨#[107, 110, 111, 119, 110]⟩
def whatS : ByteArray := ⟨#[119, 104, 97, 116]⟩
def keysL : List Value := [.string dayS, .string kindS, .string knownS, .string whatS]
theorem infoVv : (Tryz.prog.info? 66).map (fun i => (i.zero, i.size, i.bytes)) = some (some (.agg fzeroV.toArray), 5, 80) := by kernel_rfl
/-- what a round knows: the list so far -/
def WhatI (X : Nat) (B : Nat) (W0 : World) (pre : List Raw) (W : World) : Prop :=
  (∃ v, VsAt W X 66 (listL v) ∧ W.ownsRow B 66 5 v pre.length (rawCells pre)) ∧ Below X W0 W
theorem whatI_own (X B D : Nat) (W0 : World) (hXD : X ≤ D) (hX0 : X ≤ W0.heap.size) : OwnFrom D (WhatI X B W0) := by
  rintro s W W' row ⟨⟨v, hv, hr⟩, hb⟩ hg hrow
  refine ⟨⟨v, hv.grown hg (fun e => ?_), hr.kept hg ?_⟩, ?_⟩
  · obtain ⟨_, o, ho, hc⟩ := hrow X e
    rw [show W.heap[X]? = _ from hv] at ho; cases ho; cases hc
  · rcases hr.2 with ⟨rfl, _⟩ | ⟨g, cap, cur, rfl, _, hgb, _⟩
    · exact .inl rfl
    · refine .inr fun e' => ?_
      obtain ⟨_, o, ho, hc⟩ := hrow g (by simpa [Value.ownBlock] using e'.symm)
      rw [hgb] at ho; cases ho; cases hc
  · exact hb.grown hg (Nat.le_trans hX0 hb.size) (fun r e => by have := (hrow r e).1; omega)
theorem whatI_below {X B : Nat} {W0 W W' : World} {pre : List Raw} (hX0 : X ≤ W0.heap.size) (h : WhatI X B W0 pre W) (hb : Below W.heap.size W W') : WhatI X B W0 pre W' :=
  whatI_own X B X W0 (Nat.le_refl _) hX0 _ _ _ none h ⟨hb.os, hb.tape, hb.output, hb.size, fun q hq _ => hb.block q hq⟩ (fun r e => by cases e)
theorem run_load_op {P : Program} {op : Oper} {a : Act} {w : World} (ty : TypeId) (x : Operand) (ho : op.op = .load ty x) (b o : Nat) (hx : a.eval x = .pointer (some ⟨b, o, none⟩)) (cs : List Value) (d : TypeDesc) (hc : w.rangeAt b o cs)
    (hu : P.underlying ty = some d) (hd : d.isRow = true) (hi : (P.info? ty).map (·.size) = some cs.length) : (execOp a.eval op).run P w = .ok (.value (.agg cs.toArray)) w := by
  have hl := run_loadVar_mid (P := P) w b o ty cs d hc hu hd hi
  unfold execOp
  simp [ho, hx, Instr.loadAt, Instr.sureAddr, hl, Result.andThen]
theorem wp_append {o : Oper} {a : Act} {w : World} {K : Act → World → Prop} {Q : Exit → Act → World → Prop} (s x : Operand) (t : TypeId) (ho : o.op = .call { callee := .builtin .append, args := #[s, x], argTypes := #[t, t] }) (v u v' : Value) (w' : World) (hs : a.eval s = v) (hx : a.eval x = u)
    (hr : (Builtin.append_ #[t, t] o.type #[v, u]).run Tryz.prog w = .ok v' w') (h : K (a.put o.dst v') w') : o.wp Tryz.prog a w K Q := by
  unfold Oper.wp execOp
  simp only [ho, resolve, invoke, builtin, Sem.run_bind, Sem.run_pure, Result.andThen_ok, List.map_toArray, List.map_cons, List.map_nil, hs, hx, hr]
  exact h
theorem own_store {w : World} {B g k cap : Nat} {xs : List Value} (h : w.ownsRow B 66 5 (.slice (some ⟨g, 0, none⟩) (k + 1) cap) (k + 1) (xs ++ fzeroV)) (hx : xs.length = k * 5) (vs : List Value) (hl : vs.length = 5) :
    (w.setCells g (k * 5) vs).ownsRow B 66 5 (.slice (some ⟨g, 0, none⟩) (k + 1) cap) (k + 1) (xs ++ vs) ∧ w.there g (k * 5) 5 ∧ B ≤ g ∧ g < w.heap.size ∧ ∃ cs : List Value, VsAt w g 66 cs := by
  rcases h.2 with ⟨h, _⟩ | ⟨g1, c1, cur, h, hb, hg, hnc, hm, hs, ht⟩
  · cases h
  injection h with h1 h2 h3
  injection h1 with h1
  injection h1 with h1 _
  subst h1 h3
  have hv : VsAt w g 66 cur.toList := by simpa [VsAt] using hg
  have hcl : cur.toList.length = cap * 5 := by simpa using hs
  have hset := hv.setCells vs (k * 5) w cur.toList (by omega)
  refine ⟨⟨by simp [hx, hl]; omega, .inr ⟨g, cap, (spliceV cur.toList vs (k * 5)).toArray, rfl, hb, hset, hnc, hm, ?_, ?_⟩⟩, hv.there (k * 5) 5 (by omega), hb, lt_of_block hv, _, hv⟩
  · simp only [spliceV, List.size_toArray, List.length_append, List.length_take, List.length_drop]
    omega
  · have h1 : cur.toList.take (k * 5) = xs := by
      have := congrArg (List.take (k * 5)) ht
      rw [List.take_take, Nat.min_eq_left (by omega), List.take_append_of_le_length (by omega), ← hx, List.take_length] at this
      rw [← hx]; exact this
    show (spliceV cur.toList vs (k * 5)).take ((k + 1) * 5) = xs ++ vs
    unfold spliceV
    rw [h1, ← List.append_assoc, List.take_append_of_le_length (by simp [hx, hl]; omega), List.take_of_length_le (by simp [hx, hl]; omega)]
theorem wp_vput {P : Program} {o : Oper} {a : Act} {w : World} {K : Act → World → Prop} {Q : Exit → Act → World → Prop} (ty : TypeId) (x y : Operand) (ho : o.op = .store ty x y)
    (N m : Nat) (hx : a.eval x = .pointer (some ⟨N, m, none⟩)) (vs : List Value) (hy : a.eval y = .agg vs.toArray) (hi : (P.info? ty).map (·.size) = some vs.length) (h1 : ∀ v ∈ vs, v.oneCell' = true) (hth : w.there N m vs.length)
    (h : K (a.put o.dst undef) (w.setCells N m vs)) : o.wp P a w K Q :=
  wp_store_mid ty x y ho N m vs.toArray hx hy (by simpa using hth) (by simpa using hi) (all_oneCell_toArray h1) (by simpa using h)
theorem addr_at (b j : Nat) : (⟨b, 0, none⟩ : Addr).add j = ⟨b, j, none⟩ := by
  unfold Addr.add
  split
  · rename_i e; simp [e]
  · simp
theorem fzeroV_one : ∀ u ∈ fzeroV, u.oneCell' = true := by
  intro v hv
  simp only [fzeroV, List.mem_cons, List.not_mem_nil, or_false] at hv
  rcases hv with rfl | rfl | rfl | rfl | rfl <;> rfl
theorem own_cap {w : World} {B g n cap : Nat} {t : TypeId} {s : Nat} {xs : List Value} (h : w.ownsRow B t s (.slice (some ⟨g, 0, none⟩) n cap) n xs) : n ≤ cap := by
  rcases h.2 with ⟨h, _⟩ | ⟨g1, c1, cur, h, hb, hg, hnc, hm, hs, ht⟩
  · cases h
  injection h with h1 h2 h3
  omega
theorem own_vs {w : World} {B : Nat} {t : TypeId} {s n : Nat} {v : Value} {xs : List Value} (h : w.ownsRow B t s v n xs) : ∀ q, v.ownBlock = some q → ∃ ds : List Value, VsAt w q t ds := by
  intro q hq
  rcases h.2 with ⟨rfl, _⟩ | ⟨g1, c1, cur, rfl, hb, hg, hnc, hm, hs, ht⟩
  · cases hq
  · obtain rfl : g1 = q := by simpa [Value.ownBlock] using hq
    exact ⟨cur.toList, by simpa [VsAt] using hg⟩
theorem listL_inj {v v' : Value} (h : listL v = listL v') : v = v' := by
  unfold listL at h
  injection h with _ h
  injection h with _ h
  injection h with _ h
  injection h with h _
theorem vs_same {w : World} {b : Nat} {t t' : TypeId} {l l' : List Value} (h : VsAt w b t l) (h' : VsAt w b t' l') : l = l' := by
  have := h.symm.trans h'
  injection this with this
  injection this with h1 _ _
  exact List.toArray_inj h1
theorem keepsFrom_below {D : Nat} {W W' : World} (hb : Below W.heap.size W W') : KeepsFrom D W W' := ⟨hb.size, fun k o _ hk _ => (hb.block k (Array.getElem?_eq_some_iff.1 hk).1).trans hk⟩
theorem ownSlice' {w : World} {base : Nat} {e : TypeId} {size : Nat} {v : Value} {n : Nat} {xs : List Value} (h : w.ownsRow base e size v n xs) : ∃ A c, v = .slice A n c := by
  rcases h.2 with ⟨rfl, h0⟩ | ⟨g, cap, cur, rfl, _⟩
  · exact ⟨none, 0, by rw [h0]⟩
  · exact ⟨_, _, rfl⟩
def resL (gL gK : Nat) : List Value := [.int .i64 4, .int .i64 0, .string ByteArray.empty, .slice (some ⟨gL, 0, none⟩) 4 4, .slice (some ⟨gK, 0, none⟩) 4 4]
theorem resL_one (gL gK : Nat) : ∀ u ∈ resL gL gK, u.oneCell' = true := by
  intro v hv
  simp only [resL, List.mem_cons, List.not_mem_nil, or_false] at hv
  rcases hv with rfl | rfl | rfl | rfl | rfl <;> rfl
theorem number_lit (n : Int) (w : World) : Calls Tryz.prog 80 #[.int .i64 n] w fun x w' => x = .returned (.agg #[.int .i64 1, .int .i64 n, .string ByteArray.empty, .slice none 0 0, .slice none 0 0]) ∧ Below w.heap.size w w' := fnumber_any n w
theorem own_below {w w' : World} {B : Nat} {t : TypeId} {s n : Nat} {v : Value} {xs : List Value} (h : w.ownsRow B t s v n xs) (hb : Below w.heap.size w w') : w'.ownsRow B t s v n xs :=
  h.kept ⟨hb.os, hb.tape, hb.output, hb.size, fun q hq _ => hb.block q hq⟩ (Classical.em _)
/-- what a round turns: the list's box and its row -/
structure Turned (X : Nat) (o : Option Nat) (W W' : World) : Prop where
  bel : Below X W W'
  same : ∀ q, q < W.heap.size → q ≠ X → o ≠ some q → W'.heap[q]? = W.heap[q]?
theorem Turned.keepsFrom {X D : Nat} {o : Option Nat} {W W' : World} {cs : List Value} {T : TypeId} (h : Turned X o W W') (hX : VsAt W X T cs) (ho : ∀ q, o = some q → ∃ T' ds, VsAt W q T' ds) : KeepsFrom D W W' := by
  refine ⟨h.bel.size, fun k ob _ hk hc => ?_⟩
  rw [h.same k (Array.getElem?_eq_some_iff.1 hk).1 (fun e => ?_) (fun e => ?_), hk]
  · subst e
    rw [show W.heap[k]? = _ from hX] at hk
    cases hk; cases hc
  · obtain ⟨T', ds, hq⟩ := ho k e
    rw [show W.heap[k]? = _ from hq] at hk
    cases hk; cases hc
theorem Turned.keepI {X : Nat} {o : Option Nat} {W W' : World} {cs : List Value} (h : Turned X o W W') (hX : VsAt W X 66 cs) (ho : ∀ q, o = some q → ∃ ds, VsAt W q 66 ds) : KeepI W W' := by
  refine ⟨h.bel.size, fun k ob fz hk => ?_⟩
  rw [h.same k (Array.getElem?_eq_some_iff.1 hk).1 (fun e => ?_) (fun e => ?_), hk]
  · subst e
    rw [show W.heap[k]? = _ from hX] at hk
    cases hk
  · obtain ⟨ds, hq⟩ := ho k e
    rw [show W.heap[k]? = _ from hq] at hk
    cases hk
/-- what valueOf hands back -/
def ValOf (f : Fc) (ys : List Raw) (w : World) (e : Ending) (w' : World) : Prop :=
  ∃ v gL gK, e = .returned (.agg #[.int .i64 4, .int .i64 0, .string ByteArray.empty, .slice (some ⟨gL, 0, none⟩) 4 4, .slice (some ⟨gK, 0, none⟩) 4 4]) ∧
    VsAt w' gL 66 (numL f.day ++ (numL f.kind ++ (numL f.known ++ listL v))) ∧ VsAt w' gK 9 keysL ∧ w'.ownsRow w.heap.size 66 5 v ys.length (rawCells ys) ∧ Below w.heap.size w w'
set_option maxRecDepth 100000 in
set_option maxHeartbeats 4000000 in
theorem valueOf_any (f : Fc) (a : Ad) (hv32 : f.void.length = 32) (ys : List Raw) (N : Nat) (hN : N ≤ 1000) (w : World)
    (hseq : ∀ W Bf, Below w.heap.size w W → VsAt W Bf 45 (fC f a) → SeqStopsK Fence.wide 4 Tryz.prog 147 #[.pointer (some ⟨Bf, 0, none⟩)] (fun x : Raw => #[.agg x.cs.toArray]) KeepI (fun zs => zs = ys) (fun pre => pre <+: ys) N W) :
    Calls Tryz.prog 40 #[.agg (fC f a).toArray] w (ValOf f ys w) := by
  obtain ⟨cs, hcs⟩ : ∃ zz, zz = fC f a := ⟨_, rfl⟩
  rw [← hcs]
  have HCS := hide hcs
  have HSEQ := hide hseq; have H32 := hide hv32; have HN := hide hN
  clear hcs hseq hv32 hN
  refine (callsIn_wide (n := 5)).1 ?_
  refine callsIn_of_wp_marks Tryz.func40 rfl trivial ?_ rfl
  simp only [Tryz.ntmps40, List.size_toArray, List.length_cons, List.length_nil, Nat.reduceAdd, Nat.reduceSub, Array.replicate_succ, Array.replicate_zero, List.push_toArray, List.append_toArray, List.nil_append, List.cons_append]
  refine wpIn_wide.2 ?_
  go_upto_region 1 with fail
  generalize hX1 : w.alloc _ = W1
  have hB1 : Below w.heap.size w W1 := hX1 ▸ (Below.refl _ _).alloc (Nat.le_refl _) _
  have hv1 := boxedV w W1 cs 45 (by rw [← hX1]; rfl)
  have hz1 : W1.heap.size = w.heap.size + 1 := by rw [← hX1]; show (w.heap.push _).size = _; rw [Array.size_push]
  generalize hX2 : W1.alloc _ = W2
  have hB2 : Below W1.heap.size W1 W2 := hX2 ▸ (Below.refl _ _).alloc (Nat.le_refl _) _
  have hz2 : W2.heap.size = w.heap.size + 2 := by rw [← hX2]; show (W1.heap.push _).size = _; rw [Array.size_push, hz1]
  have HR := hide (boxedV W1 W2 fzeroV 66 (by rw [← hX2]; rfl))
  rw [hz1] at HR
  have HF := hide (hv1.keep hB2)
  rw [unhide HCS] at HF
  have HB := hide (thenB hB1 hB2)
  have HZ := hide hz2
  clear hX1 hB1 hv1 hz1 hX2 hB2
  refine wp_region_lit ?_
  refine wpList_plain rfl fun Kt hKt => ?_
  go_simp
  refine hKt _ _ ?_
  clear hKt Kt
  try simp only [List.getElem_toArray, List.getElem_cons_zero, List.getElem_cons_succ, Act.put, List.setIfInBounds_toArray, List.set_cons_zero, List.set_cons_succ]
  refine wpList_plain rfl fun Kt hKt => ?_
  go_simp
  generalize hX3 : W2.alloc _ = W3
  have hB3 : Below W2.heap.size W2 W3 := hX3 ▸ (Below.refl _ _).alloc (Nat.le_refl _) _
  have hv3 := boxedV W2 W3 fzeroV 66 (by rw [← hX3]; rfl)
  rw [hz2] at hv3
  refine hKt _ _ ?_
  clear hKt Kt hX3 hz2
  try simp only [List.getElem_toArray, List.getElem_cons_zero, List.getElem_cons_succ, Act.put, List.setIfInBounds_toArray, List.set_cons_zero, List.set_cons_succ]
  have HF3 := hide ((unhide HF).keep hB3); have HR3 := hide ((unhide HR).keep hB3); have HB3 := hide (thenB (unhide HB) hB3); have HV3 := hide hv3
  clear hB3 hv3
  refine wpList_vput rfl 66 (.tmp 3) (.tmp 5) rfl (w.heap.size + 2) 0 rfl (listL (.slice none 0 0)) rfl infoVl (listL_one rfl) _ fzeroV (unhide HV3) (show 0 + 5 ≤ 5 by omega) ?_
  intro W4 HW4 HG4
  rw [spliceV_all fzeroV (listL _) rfl] at HW4
  have HF4 := hide ((unhide HF3).grown (unhide HG4) (fun e => by injection e with e; omega))
  have HR4 := hide ((unhide HR3).grown (unhide HG4) (fun e => by injection e with e; omega))
  have HB4 := hide ((unhide HB3).grown (unhide HG4) (unhide HB3).size (fun i e => by injection e with e; omega))
  clear HF HR HB HZ HF3 HR3 HB3 HV3 HG4
  go_upto_region 2 with fail
  refine wp_region_lit ?_
  refine wpList_vload rfl 45 (.tmp 1) rfl w.heap.size 0 rfl _ Tryz.underlying45 rfl (fC f a) (by rw [fC_length _ _ (unhide H32)]; exact infoFc) (unhide HF4).range ?_
  try simp only [List.getElem_toArray, List.getElem_cons_zero, List.getElem_cons_succ, Act.put, List.setIfInBounds_toArray, List.set_cons_zero, List.set_cons_succ]
  refine wpList_plain rfl fun Kt hKt => ?_
  go_simp
  refine (elements_any f a W4).mono ?_; rintro x W5 ⟨rfl, hfb, hG⟩
  dsimp only
  refine hKt _ _ ?_
  clear hKt Kt
  try simp only [List.getElem_toArray, List.getElem_cons_zero, List.getElem_cons_succ, Act.put, List.setIfInBounds_toArray, List.set_cons_zero, List.set_cons_succ]
  have HF5 := hide ((unhide HF4).keep hG); have HR5 := hide ((unhide HR4).keep hG); have HW5 := hide ((unhide HW4).keep hG); have HB5 := hide (thenB (unhide HB4) hG); have HFB := hide hfb
  have hsz : w.heap.size + 3 ≤ W5.heap.size := by have h1 := hG.size; have h2 := lt_of_block (unhide HW4); omega
  have HSZ := hide hsz
  clear hfb hG HF4 HR4 HW4 hsz
  obtain ⟨i0, hi, hz0, hz1, hz2⟩ := info_parts infoVv
  go_wp2_with fail
  refine (wpIn_wide (n := 5)).1 ?_
  refine wpIn_rangeFunc_ownH rfl (by omega) (gf := 147) (lb := #[.pointer (some ⟨W4.heap.size, 0, none⟩)]) rfl trivial (enters_of Tryz.func147 (by kernel_rfl) rfl)
    ((unhide HSEQ) W5 W4.heap.size (unhide HB5) (unhide HFB)) keepI.trans keepI_b (Below.refl _ _) (fun _ => rfl)
    (WhatI (w.heap.size + 2) (w.heap.size + 3) W5) (fun _ _ _ => False)
    (whatI_own _ _ _ _ (by have := unhide HSZ; omega) (by have := unhide HSZ; omega)) (fun _ _ _ _ _ hs _ _ => hs)
    ⟨⟨_, unhide HW5, World.ownsRow_nil _ _ _ _⟩, Below.refl _ _⟩
    (fun x a' W => ∃ Y, a' = { tmps := #[.agg cs.toArray, .pointer (some ⟨w.heap.size, 0, none⟩), .pointer (some ⟨w.heap.size + 1, 0, none⟩), .pointer (some ⟨w.heap.size + 2, 0, none⟩), .pointer (some ⟨Y, 0, none⟩), .agg #[.int .i64 3, .int .i64 0, .string ByteArray.empty, .slice none 0 0, .slice none 0 0], .agg (fC f a).toArray, .func (.func 147) #[] #[.pointer (some ⟨W4.heap.size, 0, none⟩)], .agg x.cs.toArray, undef, undef, undef, undef, undef, undef, undef, undef, undef, undef, undef, undef, undef, undef, undef, undef, undef, undef, undef, undef, undef], defers := [] } ∧ VsAt W Y 66 x.cs ∧ w.heap.size + 3 ≤ Y ∧ ∃ v, VsAt W (w.heap.size + 2) 66 (listL v) ∧ ∀ q, v.ownBlock = some q → q ≠ Y) ?hAx ?assign ?body ?done ?stop
  case hAx =>
    rintro x a' _ W W' row ⟨Y, e, hy, hle, v, hv, hne⟩ hg hrow
    refine ⟨Y, e, hy.grown hg (fun e => ?_), hle, v, hv.grown hg (fun e => ?_), hne⟩
    · obtain ⟨_, o, ho, hc⟩ := hrow Y e
      rw [show W.heap[Y]? = _ from hy] at ho; cases ho; cases hc
    · obtain ⟨_, o, ho, hc⟩ := hrow _ e
      rw [show W.heap[w.heap.size + 2]? = _ from hv] at ho; cases ho; cases hc
  case assign =>
    intro L pre x W Kc hI hKc
    have hsz := unhide HSZ
    obtain ⟨v, hv, hrow⟩ := hI.1
    have hXlt := lt_of_block hv
    have hb5 := hI.2.size
    go_simp
    refine round_plain (by kernel_rfl) fun Kk hKk => ?_
    refine wpList_plain rfl fun Kt hKt => ?_
    go_simp
    generalize hXa : W.alloc _ = Wa
    have hBa : Below W.heap.size W Wa := hXa ▸ (Below.refl _ _).alloc (Nat.le_refl _) _
    have hva := boxedV W Wa fzeroV 66 (by rw [← hXa]; rfl)
    refine hKt _ _ ?_
    clear hKt Kt hXa
    try simp only [List.getElem_toArray, List.getElem_cons_zero, List.getElem_cons_succ, Act.put, List.setIfInBounds_toArray, List.set_cons_zero, List.set_cons_succ]
    refine wpList_vput rfl 66 (.tmp 4) (.tmp 8) rfl W.heap.size 0 rfl x.cs rfl (by rw [infoVl, x.len]) x.one _ fzeroV hva (by rw [x.len]; exact Nat.le_refl 5) ?_
    intro Wb HWb HGb
    rw [spliceV_all fzeroV x.cs (by rw [x.len]; rfl)] at HWb
    have hBb : Below W.heap.size W Wb := hBa.grown (unhide HGb) hBa.size (fun i e => by injection e with e; omega)
    refine wpList_nil (hKk _ _ ?_)
    exact hKc _ _ (keepsFrom_below hBb) (keepI.below hBb) (whatI_below (by omega) hI hBb) ⟨W.heap.size, rfl, unhide HWb, by omega, v, hv.keep hBb, fun q e => by have := (hrow.lt q e).2; omega⟩
  case body =>
    rintro L pre x a' W hL ⟨r, hr⟩ ⟨⟨v, hv, hrow⟩, hb⟩ ⟨Y, rfl, hx, hY, v2, hv2, hYo⟩ hlt
    obtain rfl : v = v2 := listL_inj (vs_same hv hv2)
    obtain ⟨A, c, rfl⟩ := ownSlice' hrow
    obtain ⟨k, hk⟩ : ∃ k, k = pre.length := ⟨_, rfl⟩
    rw [← hk] at hv hrow hYo hlt
    have hkl : (rawCells pre).length = k * 5 := by rw [rawCells_len, hk]
    have hN := unhide HN
    have hsz := unhide HSZ
    have hb5 := hb.size
    have hYX : Y ≠ w.heap.size + 2 := by omega
    have hYlW := lt_of_block hx
    have hsnoc := rawCells_snoc pre x
    have hlen : (pre ++ [x]).length = k + 1 := by rw [hk]; simp
    refine wpIn_block ?_
    obtain ⟨Wd, hWd⟩ : ∃ Wd, Wd = W.drewN 1 := ⟨_, rfl⟩
    have HWd : Hid (Wd = W.drewN 1) := hWd
    refine round_region (S := fun V => V.rangeAt Y 0 x.cs) Wd HWd (by kernel_rfl) (by kernel_rfl) fun Kk hKk => ?_
    have hbd : Below W.heap.size W Wd := below_named HWd
    have hdh : Wd.heap = W.heap := by rw [hWd]; rfl
    have HDH := hide hdh
    have HK := hide hk
    have fin : ∀ (Wf : World) (g cap : Nat), Wf.ownsRow (w.heap.size + 3) 66 5 (.slice (some ⟨g, 0, none⟩) (k + 1) cap) (k + 1) (rawCells pre ++ x.cs) → VsAt Wf (w.heap.size + 2) 66 (listL (.slice (some ⟨g, 0, none⟩) (k + 1) cap)) → VsAt Wf Y 66 x.cs → Below (w.heap.size + 2) Wd Wf →
        (∀ q, q < Wd.heap.size → q ≠ w.heap.size + 2 → Value.ownBlock (.slice A k c) ≠ some q → Wf.heap[q]? = Wd.heap[q]?) → Wf.rangeAt Y 0 x.cs ∧ ∀ a', Kk a' Wf := by
      intro Wf g cap h1 h2 h3 h4 h5
      refine ⟨h3.range, fun a' => hKk a' Wf ?_⟩
      have hT : Turned (w.heap.size + 2) (Value.ownBlock (.slice A k c)) W Wf := ⟨(hbd.mono (by omega)).trans h4, fun q e1 e2 e3 => by rw [h5 q (by rw [unhide HDH]; exact e1) e2 e3, unhide HDH]⟩
      refine ⟨hT.keepsFrom hv (fun q e => ⟨_, own_vs hrow q e⟩), hT.keepI hv (own_vs hrow), ⟨⟨_, h2, ?_⟩, hb.trans hT.bel⟩⟩
      rw [hlen, hsnoc]
      exact h1
    have hXd : VsAt Wd (w.heap.size + 2) 66 (listL (.slice A k c)) := hv.keep hbd
    have hYd : VsAt Wd Y 66 x.cs := hx.keep hbd
    have hrd : Wd.ownsRow (w.heap.size + 3) 66 5 (.slice A k c) k (rawCells pre) := hrow.kept ⟨hbd.os, hbd.tape, hbd.output, hbd.size, fun q hq _ => hbd.block q hq⟩ (Classical.em _)
    have hYlt : Y < Wd.heap.size := by rw [hdh]; exact hYlW
    have hWds : w.heap.size + 3 ≤ Wd.heap.size := by rw [hdh]; omega
    have hSd : Wd.rangeAt Y 0 x.cs := hYd.range
    clear hWd hL hr hb hx hv hrow hv2 hb5 hYlW hsnoc hlen hbd hdh hk
    refine wpAnyH_take (i := 0) (v := ?_) rfl (by kernel_rfl) (by kernel_rfl) (by kernel_rfl) (fun _ _ _ h => h) (Or.inl ⟨by kernel_rfl, ?_⟩) (by assumption) ?_
    rotate_left
    · intro Wt hSt
      go_simp
      try with_reducible rfl
    try simp only [List.getElem_toArray, List.getElem_cons_zero, List.getElem_cons_succ, Act.put, List.setIfInBounds_toArray, List.set_cons_zero, List.set_cons_succ]
    refine wpAnyH_take (i := 2) (v := .agg x.cs.toArray) rfl (by kernel_rfl) (by kernel_rfl) (by kernel_rfl) (fun _ _ _ h => h) (Or.inl ⟨by kernel_rfl, ?_⟩) (by assumption) ?_
    · intro Wt hSt
      exact run_load_op 66 (.tmp 4) rfl Y 0 rfl x.cs _ hSt Tryz.underlying66 rfl (by rw [infoVl, x.len])
    try simp only [List.getElem_toArray, List.getElem_cons_zero, List.getElem_cons_succ, Act.put, List.setIfInBounds_toArray, List.set_cons_zero, List.set_cons_succ]
    refine wpAnyH_two 1 4 _ _ rfl rfl (by kernel_rfl) (by kernel_rfl) (by kernel_rfl) ?_ ?_
    · intro Kt hK
      have hc3 := hXd.cell (j := 3) (v := .slice A k c) rfl
      go_simp
      refine hK _ _ hSd ?_
      clear hK Kt
      try simp only [List.getElem_toArray, List.getElem_cons_zero, List.getElem_cons_succ, Act.put, List.setIfInBounds_toArray, List.set_cons_zero, List.set_cons_succ]
      refine wpAnyH_take (i := 3) (v := ?_) rfl (by kernel_rfl) (by kernel_rfl) (by kernel_rfl) (fun _ _ _ h => h) (Or.inl ⟨by kernel_rfl, ?_⟩) (by assumption) ?_
      rotate_left
      · intro Wt hSt
        go_simp
        try with_reducible rfl
      try simp only [List.getElem_toArray, List.getElem_cons_zero, List.getElem_cons_succ, Act.put, List.setIfInBounds_toArray, List.set_cons_zero, List.set_cons_succ]
      refine wpAnyH_one 4 _ rfl (by kernel_rfl) (by kernel_rfl) ?_
      skip
      intro Kt hK
      go_simp
      generalize hXv : Wd.alloc _ = V
      have hBv : Below Wd.heap.size Wd V := hXv ▸ (Below.refl _ _).alloc (Nat.le_refl _) _
      have hzV := boxedV Wd V fzeroV 66 (by rw [← hXv]; rfl)
      have hVs : V.heap.size = Wd.heap.size + 1 := by rw [← hXv]; show (Wd.heap.push _).size = _; rw [Array.size_push]
      have hXV := hXd.keep hBv
      have hYV := hYd.keep hBv
      have hrowV : V.ownsRow (w.heap.size + 3) 66 5 (.slice A k c) k (rawCells pre) := hXv ▸ hrd.alloc _
      have hBV : Below (w.heap.size + 2) Wd V := hBv.mono (by omega)
      have hsV : ∀ q, q < Wd.heap.size → V.heap[q]? = Wd.heap[q]? := fun q h => hBv.block q h
      refine hK _ _ hYV.range ?_
      clear hK Kt hXv hc3
      try simp only [List.getElem_toArray, List.getElem_cons_zero, List.getElem_cons_succ, Act.put, List.setIfInBounds_toArray, List.set_cons_zero, List.set_cons_succ]
      refine wpAnyH_one 5 _ rfl (by kernel_rfl) (by kernel_rfl) ?_
      skip
      intro Kt hK
      obtain ⟨v', w1, hr, hown, hgr, hnil, hob⟩ := run_append_own_at (P := Tryz.prog) V (w.heap.size + 3) 63 63 66 i0 (.agg fzeroV.toArray) 5 80 Tryz.underlying63 hi hz0 hz1 hz2 rfl (by decide) (.slice A k c) k (rawCells pre) hrowV ⟨Wd.heap.size, 0, none⟩ 1 1 fzeroV rfl (fun j u hj => by rw [addr_at]; exact hzV.cell hj) fzeroV_one (by unfold maxLen; omega) (by omega) (by omega)
      obtain ⟨g, cap, rfl⟩ := ownsRow_succ hown
      refine wp_append (.tmp 10) (.tmp 13) 63 rfl (.slice A k c) (.slice (some ⟨Wd.heap.size, 0, none⟩) 1 1) _ w1 rfl rfl hr ?_
      have hst := own_store hown hkl x.cs x.len
      have hgX : g ≠ w.heap.size + 2 := fun e => by have := hst.2.2.1; omega
      have hgv : some g = Value.ownBlock (.slice A k c) ∨ g = Wd.heap.size + 1 := by
        rcases hob with h | h
        · exact .inl h
        · injection h with h
          exact .inr (h.trans hVs)
      have hgY : g ≠ Y := fun e => by
        rcases hgv with h | h
        · exact hYo g h.symm e
        · have := hYlt
          omega
      have hgq : ∀ q, q < Wd.heap.size → Value.ownBlock (.slice A k c) ≠ some q → g ≠ q := fun q h1 h2 e => by
        rcases hgv with h | h
        · exact h2 (by rw [← h, e])
        · omega
      have hXV2 : VsAt w1 (w.heap.size + 2) 66 (listL (.slice A k c)) := hXV.grown hgr (fun e => by have := (hrowV.lt _ e).1; omega)
      have hYV2 : VsAt w1 Y 66 x.cs := hYV.grown hgr (fun e => hYo Y e rfl)
      have hB2 : Below (w.heap.size + 2) Wd w1 := hBV.grown hgr (by omega) (fun q e => by have := (hrowV.lt q e).1; omega)
      have hsame2 : ∀ q, q < Wd.heap.size → Value.ownBlock (.slice A k c) ≠ some q → w1.heap[q]? = Wd.heap[q]? := fun q h1 h2 => (hgr.block q (by omega) (fun e => h2 e.symm)).trans (hsV q h1)
      refine hK _ _ hYV2.range ?_
      clear hK Kt hr
      try simp only [List.getElem_toArray, List.getElem_cons_zero, List.getElem_cons_succ, Act.put, List.setIfInBounds_toArray, List.set_cons_zero, List.set_cons_succ]
      have hSw1 := hYV2.range
      have ik0 : (0 : Int) ≤ (k : Int) := Int.natCast_nonneg _
      have ik1 : (k : Int) < (k : Int) + 1 := by omega
      have ik2 : (k : Int) + 1 ≤ (cap : Int) := by have := own_cap hown; omega
      refine wpAnyH_take (i := 6) (v := ?_) rfl (by kernel_rfl) (by kernel_rfl) (by kernel_rfl) (fun _ _ _ h => h) (Or.inl ⟨by kernel_rfl, ?_⟩) (by assumption) ?_
      rotate_left
      · intro Wt hSt
        go_simp
        try with_reducible rfl
      try simp only [List.getElem_toArray, List.getElem_cons_zero, List.getElem_cons_succ, Act.put, List.setIfInBounds_toArray, List.set_cons_zero, List.set_cons_succ]
      refine wpAnyH_take (i := 8) (v := ?_) rfl (by kernel_rfl) (by kernel_rfl) (by kernel_rfl) (fun _ _ _ h => h) (Or.inl ⟨by kernel_rfl, ?_⟩) (by assumption) ?_
      rotate_left
      · intro Wt hSt
        go_simp
        try with_reducible rfl
      try simp only [List.getElem_toArray, List.getElem_cons_zero, List.getElem_cons_succ, Act.put, List.setIfInBounds_toArray, List.set_cons_zero, List.set_cons_succ]
      have hcX := hXV2.cell (j := 3) (v := .slice A k c) rfl
      have hfX := hXV2.free 3
      have hw1s : Wd.heap.size ≤ w1.heap.size := hB2.size
      refine wpAnyH_two 7 9 _ _ rfl rfl (by kernel_rfl) (by kernel_rfl) (by kernel_rfl) ?_ ?_
      · intro Kt hK
        refine wp_vput 66 (.tmp 15) (.tmp 11) rfl g (k * 5) rfl x.cs rfl (by rw [infoVl, x.len]) x.one (by rw [x.len]; exact hst.2.1) ?_
        have hgw := fgrownSetCells g x.cs (k * 5) w1
        have hY3 : VsAt (w1.setCells g (k * 5) x.cs) Y 66 x.cs := hYV2.grown hgw (fun e => hgY (Option.some.inj e))
        have hX3 : VsAt (w1.setCells g (k * 5) x.cs) (w.heap.size + 2) 66 (listL (.slice A k c)) := hXV2.grown hgw (fun e => hgX (Option.some.inj e))
        have hO3 := hst.1
        have hB3 : Below (w.heap.size + 2) Wd (w1.setCells g (k * 5) x.cs) := hB2.grown hgw (by omega) (fun q e => by injection e with e; have := hst.2.2.1; omega)
        have hs3 : ∀ q, q < Wd.heap.size → Value.ownBlock (.slice A k c) ≠ some q → (w1.setCells g (k * 5) x.cs).heap[q]? = Wd.heap[q]? := fun q h1 h2 => (hgw.block q (by omega) (fun e => hgq q h1 h2 (Option.some.inj e).symm)).trans (hsame2 q h1 h2)
        refine hK _ _ hY3.range ?_
        clear hK Kt
        generalize w1.setCells g (k * 5) x.cs = w2 at *
        try simp only [List.getElem_toArray, List.getElem_cons_zero, List.getElem_cons_succ, Act.put, List.setIfInBounds_toArray, List.set_cons_zero, List.set_cons_succ]
        refine wpAnyH_one 9 _ rfl (by kernel_rfl) (by kernel_rfl) ?_
        skip
        intro Kt hK
        have hc3 := hX3.cell (j := 3) (v := .slice A k c) rfl
        have hf3 := hX3.free 3
        go_simp
        have hg3 : w2.grownBy (w2.setCell ⟨w.heap.size + 2, 3, none⟩ (.slice (some ⟨g, 0, none⟩) (k + 1) cap)) (some (w.heap.size + 2)) := fgrownSetCells (w.heap.size + 2) [.slice (some ⟨g, 0, none⟩) (k + 1) cap] 3 w2
        have hfin := fin _ g cap (hO3.kept hg3 (.inr (fun e => hgX (Option.some.inj e)))) (hX3.set 3 _) (hY3.grown hg3 (fun e => hYX (Option.some.inj e).symm)) (hB3.setCell (p := ⟨w.heap.size + 2, 3, none⟩) (Nat.le_refl _) _) (fun q h1 h2 h3 => (hg3.block q (by have := hB3.size; omega) (fun e => h2 (Option.some.inj e))).trans (hs3 q h1 h3))
        refine hK _ _ hfin.1 ?_
        clear hK Kt
        try simp only [List.getElem_toArray, List.getElem_cons_zero, List.getElem_cons_succ, Act.put, List.setIfInBounds_toArray, List.set_cons_zero, List.set_cons_succ]
        refine wpAnyH_chainOf [] _ _ _ (by kernel_rfl) (by kernel_rfl) ?_
        refine wpChain_nil ?_
        exact hfin.2 _
      · intro Kt hK
        go_simp
        have hg3 : w1.grownBy (w1.setCell ⟨w.heap.size + 2, 3, none⟩ (.slice (some ⟨g, 0, none⟩) (k + 1) cap)) (some (w.heap.size + 2)) := fgrownSetCells (w.heap.size + 2) [.slice (some ⟨g, 0, none⟩) (k + 1) cap] 3 w1
        have hY3 := hYV2.grown hg3 (fun e => hYX (Option.some.inj e).symm)
        have hX3 := hXV2.set 3 (.slice (some ⟨g, 0, none⟩) (k + 1) cap)
        have hO3 := hown.kept hg3 (.inr (fun e => hgX (Option.some.inj e)))
        have hB3 := hB2.setCell (p := ⟨w.heap.size + 2, 3, none⟩) (Nat.le_refl _) (.slice (some ⟨g, 0, none⟩) (k + 1) cap)
        have hs3 : ∀ q, q < Wd.heap.size → q ≠ w.heap.size + 2 → Value.ownBlock (.slice A k c) ≠ some q → (w1.setCell ⟨w.heap.size + 2, 3, none⟩ (.slice (some ⟨g, 0, none⟩) (k + 1) cap)).heap[q]? = Wd.heap[q]? := fun q h1 h2 h3 => (hg3.block q (by omega) (fun e => h2 (Option.some.inj e))).trans (hsame2 q h1 h3)
        refine hK _ _ hY3.range ?_
        clear hK Kt
        generalize w1.setCell ⟨w.heap.size + 2, 3, none⟩ (.slice (some ⟨g, 0, none⟩) (k + 1) cap) = w2 at *
        try simp only [List.getElem_toArray, List.getElem_cons_zero, List.getElem_cons_succ, Act.put, List.setIfInBounds_toArray, List.set_cons_zero, List.set_cons_succ]
        refine wpAnyH_one 7 _ rfl (by kernel_rfl) (by kernel_rfl) ?_
        skip
        intro Kt hK
        have hst3 := own_store hO3 hkl x.cs x.len
        have hgw := fgrownSetCells g x.cs (k * 5) w2
        refine wp_vput 66 (.tmp 15) (.tmp 11) rfl g (k * 5) rfl x.cs rfl (by rw [infoVl, x.len]) x.one (by rw [x.len]; exact hst3.2.1) ?_
        have hfin := fin _ g cap hst3.1 (hX3.grown hgw (fun e => hgX (Option.some.inj e))) (hY3.grown hgw (fun e => hgY (Option.some.inj e))) (hB3.grown hgw (by have := hB3.size; omega) (fun q e => by injection e with e; have := hst3.2.2.1; omega)) (fun q h1 h2 h3 => (hgw.block q (by have := hB3.size; omega) (fun e => hgq q h1 h3 (Option.some.inj e).symm)).trans (hs3 q h1 h2 h3))
        refine hK _ _ hfin.1 ?_
        clear hK Kt
        try simp only [List.getElem_toArray, List.getElem_cons_zero, List.getElem_cons_succ, Act.put, List.setIfInBounds_toArray, List.set_cons_zero, List.set_cons_succ]
        refine wpAnyH_chainOf [] _ _ _ (by kernel_rfl) (by kernel_rfl) ?_
        refine wpChain_nil ?_
        exact hfin.2 _
    · intro Kt hK
      go_simp
      generalize hXv : Wd.alloc _ = V
      have hBv : Below Wd.heap.size Wd V := hXv ▸ (Below.refl _ _).alloc (Nat.le_refl _) _
      have hzV := boxedV Wd V fzeroV 66 (by rw [← hXv]; rfl)
      have hVs : V.heap.size = Wd.heap.size + 1 := by rw [← hXv]; show (Wd.heap.push _).size = _; rw [Array.size_push]
      have hXV := hXd.keep hBv
      have hYV := hYd.keep hBv
      have hrowV : V.ownsRow (w.heap.size + 3) 66 5 (.slice A k c) k (rawCells pre) := hXv ▸ hrd.alloc _
      have hBV : Below (w.heap.size + 2) Wd V := hBv.mono (by omega)
      have hsV : ∀ q, q < Wd.heap.size → V.heap[q]? = Wd.heap[q]? := fun q h => hBv.block q h
      refine hK _ _ hYV.range ?_
      clear hK Kt hXv
      try simp only [List.getElem_toArray, List.getElem_cons_zero, List.getElem_cons_succ, Act.put, List.setIfInBounds_toArray, List.set_cons_zero, List.set_cons_succ]
      refine wpAnyH_one 1 _ rfl (by kernel_rfl) (by kernel_rfl) ?_
      skip
      intro Kt hK
      have hc3 := hXV.cell (j := 3) (v := .slice A k c) rfl
      go_simp
      refine hK _ _ hYV.range ?_
      clear hK Kt hc3
      try simp only [List.getElem_toArray, List.getElem_cons_zero, List.getElem_cons_succ, Act.put, List.setIfInBounds_toArray, List.set_cons_zero, List.set_cons_succ]
      have hSV := hYV.range
      refine wpAnyH_take (i := 3) (v := ?_) rfl (by kernel_rfl) (by kernel_rfl) (by kernel_rfl) (fun _ _ _ h => h) (Or.inl ⟨by kernel_rfl, ?_⟩) (by assumption) ?_
      rotate_left
      · intro Wt hSt
        go_simp
        try with_reducible rfl
      try simp only [List.getElem_toArray, List.getElem_cons_zero, List.getElem_cons_succ, Act.put, List.setIfInBounds_toArray, List.set_cons_zero, List.set_cons_succ]
      refine wpAnyH_one 5 _ rfl (by kernel_rfl) (by kernel_rfl) ?_
      skip
      intro Kt hK
      obtain ⟨v', w1, hr, hown, hgr, hnil, hob⟩ := run_append_own_at (P := Tryz.prog) V (w.heap.size + 3) 63 63 66 i0 (.agg fzeroV.toArray) 5 80 Tryz.underlying63 hi hz0 hz1 hz2 rfl (by decide) (.slice A k c) k (rawCells pre) hrowV ⟨Wd.heap.size, 0, none⟩ 1 1 fzeroV rfl (fun j u hj => by rw [addr_at]; exact hzV.cell hj) fzeroV_one (by unfold maxLen; omega) (by omega) (by omega)
      obtain ⟨g, cap, rfl⟩ := ownsRow_succ hown
      refine wp_append (.tmp 10) (.tmp 13) 63 rfl (.slice A k c) (.slice (some ⟨Wd.heap.size, 0, none⟩) 1 1) _ w1 rfl rfl hr ?_
      have hst := own_store hown hkl x.cs x.len
      have hgX : g ≠ w.heap.size + 2 := fun e => by have := hst.2.2.1; omega
      have hgv : some g = Value.ownBlock (.slice A k c) ∨ g = Wd.heap.size + 1 := by
        rcases hob with h | h
        · exact .inl h
        · injection h with h
          exact .inr (h.trans hVs)
      have hgY : g ≠ Y := fun e => by
        rcases hgv with h | h
        · exact hYo g h.symm e
        · have := hYlt
          omega
      have hgq : ∀ q, q < Wd.heap.size → Value.ownBlock (.slice A k c) ≠ some q → g ≠ q := fun q h1 h2 e => by
        rcases hgv with h | h
        · exact h2 (by rw [← h, e])
        · omega
      have hXV2 : VsAt w1 (w.heap.size + 2) 66 (listL (.slice A k c)) := hXV.grown hgr (fun e => by have := (hrowV.lt _ e).1; omega)
      have hYV2 : VsAt w1 Y 66 x.cs := hYV.grown hgr (fun e => hYo Y e rfl)
      have hB2 : Below (w.heap.size + 2) Wd w1 := hBV.grown hgr (by omega) (fun q e => by have := (hrowV.lt q e).1; omega)
      have hsame2 : ∀ q, q < Wd.heap.size → Value.ownBlock (.slice A k c) ≠ some q → w1.heap[q]? = Wd.heap[q]? := fun q h1 h2 => (hgr.block q (by omega) (fun e => h2 e.symm)).trans (hsV q h1)
      refine hK _ _ hYV2.range ?_
      clear hK Kt hr
      try simp only [List.getElem_toArray, List.getElem_cons_zero, List.getElem_cons_succ, Act.put, List.setIfInBounds_toArray, List.set_cons_zero, List.set_cons_succ]
      have hSw1 := hYV2.range
      have ik0 : (0 : Int) ≤ (k : Int) := Int.natCast_nonneg _
      have ik1 : (k : Int) < (k : Int) + 1 := by omega
      have ik2 : (k : Int) + 1 ≤ (cap : Int) := by have := own_cap hown; omega
      refine wpAnyH_take (i := 6) (v := ?_) rfl (by kernel_rfl) (by kernel_rfl) (by kernel_rfl) (fun _ _ _ h => h) (Or.inl ⟨by kernel_rfl, ?_⟩) (by assumption) ?_
      rotate_left
      · intro Wt hSt
        go_simp
        try with_reducible rfl
      try simp only [List.getElem_toArray, List.getElem_cons_zero, List.getElem_cons_succ, Act.put, List.setIfInBounds_toArray, List.set_cons_zero, List.set_cons_succ]
      refine wpAnyH_take (i := 8) (v := ?_) rfl (by kernel_rfl) (by kernel_rfl) (by kernel_rfl) (fun _ _ _ h => h) (Or.inl ⟨by kernel_rfl, ?_⟩) (by assumption) ?_
      rotate_left
      · intro Wt hSt
        go_simp
        try with_reducible rfl
      try simp only [List.getElem_toArray, List.getElem_cons_zero, List.getElem_cons_succ, Act.put, List.setIfInBounds_toArray, List.set_cons_zero, List.set_cons_succ]
      have hcX := hXV2.cell (j := 3) (v := .slice A k c) rfl
      have hfX := hXV2.free 3
      have hw1s : Wd.heap.size ≤ w1.heap.size := hB2.size
      refine wpAnyH_two 7 9 _ _ rfl rfl (by kernel_rfl) (by kernel_rfl) (by kernel_rfl) ?_ ?_
      · intro Kt hK
        refine wp_vput 66 (.tmp 15) (.tmp 11) rfl g (k * 5) rfl x.cs rfl (by rw [infoVl, x.len]) x.one (by rw [x.len]; exact hst.2.1) ?_
        have hgw := fgrownSetCells g x.cs (k * 5) w1
        have hY3 : VsAt (w1.setCells g (k * 5) x.cs) Y 66 x.cs := hYV2.grown hgw (fun e => hgY (Option.some.inj e))
        have hX3 : VsAt (w1.setCells g (k * 5) x.cs) (w.heap.size + 2) 66 (listL (.slice A k c)) := hXV2.grown hgw (fun e => hgX (Option.some.inj e))
        have hO3 := hst.1
        have hB3 : Below (w.heap.size + 2) Wd (w1.setCells g (k * 5) x.cs) := hB2.grown hgw (by omega) (fun q e => by injection e with e; have := hst.2.2.1; omega)
        have hs3 : ∀ q, q < Wd.heap.size → Value.ownBlock (.slice A k c) ≠ some q → (w1.setCells g (k * 5) x.cs).heap[q]? = Wd.heap[q]? := fun q h1 h2 => (hgw.block q (by omega) (fun e => hgq q h1 h2 (Option.some.inj e).symm)).trans (hsame2 q h1 h2)
        refine hK _ _ hY3.range ?_
        clear hK Kt
        generalize w1.setCells g (k * 5) x.cs = w2 at *
        try simp only [List.getElem_toArray, List.getElem_cons_zero, List.getElem_cons_succ, Act.put, List.setIfInBounds_toArray, List.set_cons_zero, List.set_cons_succ]
        refine wpAnyH_one 9 _ rfl (by kernel_rfl) (by kernel_rfl) ?_
        skip
        intro Kt hK
        have hc3 := hX3.cell (j := 3) (v := .slice A k c) rfl
        have hf3 := hX3.free 3
        go_simp
        have hg3 : w2.grownBy (w2.setCell ⟨w.heap.size + 2, 3, none⟩ (.slice (some ⟨g, 0, none⟩) (k + 1) cap)) (some (w.heap.size + 2)) := fgrownSetCells (w.heap.size + 2) [.slice (some ⟨g, 0, none⟩) (k + 1) cap] 3 w2
        have hfin := fin _ g cap (hO3.kept hg3 (.inr (fun e => hgX (Option.some.inj e)))) (hX3.set 3 _) (hY3.grown hg3 (fun e => hYX (Option.some.inj e).symm)) (hB3.setCell (p := ⟨w.heap.size + 2, 3, none⟩) (Nat.le_refl _) _) (fun q h1 h2 h3 => (hg3.block q (by have := hB3.size; omega) (fun e => h2 (Option.some.inj e))).trans (hs3 q h1 h3))
        refine hK _ _ hfin.1 ?_
        clear hK Kt
        try simp only [List.getElem_toArray, List.getElem_cons_zero, List.getElem_cons_succ, Act.put, List.setIfInBounds_toArray, List.set_cons_zero, List.set_cons_succ]
        refine wpAnyH_chainOf [] _ _ _ (by kernel_rfl) (by kernel_rfl) ?_
        refine wpChain_nil ?_
        exact hfin.2 _
      · intro Kt hK
        go_simp
        have hg3 : w1.grownBy (w1.setCell ⟨w.heap.size + 2, 3, none⟩ (.slice (some ⟨g, 0, none⟩) (k + 1) cap)) (some (w.heap.size + 2)) := fgrownSetCells (w.heap.size + 2) [.slice (some ⟨g, 0, none⟩) (k + 1) cap] 3 w1
        have hY3 := hYV2.grown hg3 (fun e => hYX (Option.some.inj e).symm)
        have hX3 := hXV2.set 3 (.slice (some ⟨g, 0, none⟩) (k + 1) cap)
        have hO3 := hown.kept hg3 (.inr (fun e => hgX (Option.some.inj e)))
        have hB3 := hB2.setCell (p := ⟨w.heap.size + 2, 3, none⟩) (Nat.le_refl _) (.slice (some ⟨g, 0, none⟩) (k + 1) cap)
        have hs3 : ∀ q, q < Wd.heap.size → q ≠ w.heap.size + 2 → Value.ownBlock (.slice A k c) ≠ some q → (w1.setCell ⟨w.heap.size + 2, 3, none⟩ (.slice (some ⟨g, 0, none⟩) (k + 1) cap)).heap[q]? = Wd.heap[q]? := fun q h1 h2 h3 => (hg3.block q (by omega) (fun e => h2 (Option.some.inj e))).trans (hsame2 q h1 h3)
        refine hK _ _ hY3.range ?_
        clear hK Kt
        generalize w1.setCell ⟨w.heap.size + 2, 3, none⟩ (.slice (some ⟨g, 0, none⟩) (k + 1) cap) = w2 at *
        try simp only [List.getElem_toArray, List.getElem_cons_zero, List.getElem_cons_succ, Act.put, List.setIfInBounds_toArray, List.set_cons_zero, List.set_cons_succ]
        refine wpAnyH_one 7 _ rfl (by kernel_rfl) (by kernel_rfl) ?_
        skip
        intro Kt hK
        have hst3 := own_store hO3 hkl x.cs x.len
        have hgw := fgrownSetCells g x.cs (k * 5) w2
        refine wp_vput 66 (.tmp 15) (.tmp 11) rfl g (k * 5) rfl x.cs rfl (by rw [infoVl, x.len]) x.one (by rw [x.len]; exact hst3.2.1) ?_
        have hfin := fin _ g cap hst3.1 (hX3.grown hgw (fun e => hgX (Option.some.inj e))) (hY3.grown hgw (fun e => hgY (Option.some.inj e))) (hB3.grown hgw (by have := hB3.size; omega) (fun q e => by injection e with e; have := hst3.2.2.1; omega)) (fun q h1 h2 h3 => (hgw.block q (by have := hB3.size; omega) (fun e => hgq q h1 h3 (Option.some.inj e).symm)).trans (hs3 q h1 h2 h3))
        refine hK _ _ hfin.1 ?_
        clear hK Kt
        try simp only [List.getElem_toArray, List.getElem_cons_zero, List.getElem_cons_succ, Act.put, List.setIfInBounds_toArray, List.set_cons_zero, List.set_cons_succ]
        refine wpAnyH_chainOf [] _ _ _ (by kernel_rfl) (by kernel_rfl) ?_
        refine wpChain_nil ?_
        exact hfin.2 _
  case done =>
    rintro D zs W hD rfl ⟨⟨v, hv, hrow⟩, hb⟩ hK
    obtain ⟨A, c, rfl⟩ := ownSlice' hrow
    have hsz := unhide HSZ
    have hb5 := hb.size
    obtain ⟨k, hk⟩ : ∃ k, k = zs.length := ⟨_, rfl⟩
    rw [← hk] at hv hrow
    obtain ⟨dy, hdy⟩ : ∃ z, z = f.day := ⟨_, rfl⟩
    obtain ⟨kd, hkd⟩ : ∃ z, z = f.kind := ⟨_, rfl⟩
    obtain ⟨kn, hkn⟩ : ∃ z, z = f.known := ⟨_, rfl⟩
    have hfW : VsAt W w.heap.size 45 (fC f a) := (hb.block w.heap.size (by omega)).trans (unhide HF5)
    have hRW : VsAt W (w.heap.size + 1) 66 fzeroV := (hb.block (w.heap.size + 1) (by omega)).trans (unhide HR5)
    have HD : Hid (w.heap.size + 3 ≤ D ∧ W.heap[D]? = some (.deferred (some []))) := ⟨by omega, hK⟩
    have HKk := hide hk; have HDY := hide hdy; have HKD := hide hkd; have HKN := hide hkn
    have HBW := hide ((unhide HB5).trans (hb.mono (by omega)))
    clear hb hk hK hD HF5 HR5 HW5 HFB HSEQ HB5 hdy hkd hkn
    go_upto_region 5 with fail
    rename_i K5 hK5
    have cont : ∀ (gK gL : Nat) (V : World), Hid (VsAt V (w.heap.size + 1) 66 (resL gL gK)) → Hid (VsAt V gL 66 (numL dy ++ (numL kd ++ (numL kn ++ listL (.slice A k c))))) → Hid (VsAt V gK 9 keysL) → Hid (V.ownsRow (w.heap.size + 3) 66 5 (.slice A k c) k (rawCells zs)) → Hid (Below w.heap.size W V) → Hid (∀ q, q < W.heap.size → q ≠ w.heap.size + 1 → V.heap[q]? = W.heap[q]?) → K5 { tmps := #[.agg cs.toArray, .pointer (some ⟨w.heap.size, 0, none⟩), .pointer (some ⟨w.heap.size + 1, 0, none⟩), .pointer (some ⟨w.heap.size + 2, 0, none⟩), undef, .agg #[.int .i64 3, .int .i64 0, .string ByteArray.empty, .slice none 0 0, .slice none 0 0], .agg (fC f a).toArray, .func (.func 147) #[] #[.pointer (some ⟨W4.heap.size, 0, none⟩)], undef, undef, undef, undef, undef, undef, undef, undef, undef, .slice (some ⟨gK, 0, none⟩) 4 4, .pointer (some ⟨w.heap.size, 1, none⟩), .int .i64 dy, .agg #[.int .i64 1, .int .i64 dy, .string ByteArray.empty, .slice none 0 0, .slice none 0 0], .pointer (some ⟨w.heap.size, 0, none⟩), .int .i64 kd, .agg #[.int .i64 1, .int .i64 kd, .string ByteArray.empty, .slice none 0 0, .slice none 0 0], .pointer (some ⟨w.heap.size, 2, none⟩), .int .i64 kn, .agg #[.int .i64 1, .int .i64 kn, .string ByteArray.empty, .slice none 0 0, .slice none 0 0], .agg #[.int .i64 3, .int .i64 0, .string ByteArray.empty, .slice A k c, .slice none 0 0], .slice (some ⟨gL, 0, none⟩) 4 4, .agg #[.int .i64 4, .int .i64 0, .string ByteArray.empty, .slice (some ⟨gL, 0, none⟩) 4 4, .slice (some ⟨gK, 0, none⟩) 4 4]], defers := [{ target := .collected D, args := #[] }] } V := by
      intro gK gL V HVR HVL HVK HVO HVB HVE
      refine hK5 _ _ ?_
      clear hK5
      have hD := unhide HD
      have hDl := lt_of_block hD.2
      have hDV : Hid (V.heap[D]? = some (.deferred (some []))) := hide ((unhide HVE D hDl (by omega)).trans hD.2)
      go_wp2_with fail
      have hDV2 := unhide hDV
      have hgP := grownBy_putObj' V D (.deferred none)
      have hne : ∀ q (T : TypeId) (cs : List Value), VsAt V q T cs → some D ≠ some q := fun q T cs h e => by
        have e := Option.some.inj e
        subst e
        rw [show V.heap[D]? = _ from h] at hDV2
        cases hDV2
      refine ⟨by simp, .inl ⟨_, _, rfl, run_takeDeferred (unhide hDV), ?_⟩⟩
      refine ⟨.agg (resL gL gK).toArray, results_cell_mid rfl _ _ (w.heap.size + 1) (resL gL gK) _ rfl ((unhide HVR).grown hgP (hne _ _ _ (unhide HVR))).range Tryz.underlying66 rfl infoVl, .slice A k c, gL, gK, rfl, ?_, (unhide HVK).grown hgP (hne _ _ _ (unhide HVK)), ?_, ?_⟩
      · have h := (unhide HVL).grown hgP (hne _ _ _ (unhide HVL))
        rw [unhide HDY, unhide HKD, unhide HKN] at h
        exact h
      · rw [← unhide HKk]
        exact ownLe (ownsRow_putObj (unhide HVO) (.deferred none) (unhide hDV) rfl) (by omega)
      · exact ((unhide HBW).trans (unhide HVB)).trans (belowK_b (w := w) (Nat.le_refl _) _ D _ _ (by omega) (unhide hDV) rfl rfl)
    obtain ⟨Wd, hWd⟩ : ∃ Wd, Wd = W.drewN 1 := ⟨_, rfl⟩
    have HWd : Hid (Wd = W.drewN 1) := hWd
    have hbd : Below W.heap.size W Wd := below_named HWd
    have hSWd : VsAt Wd w.heap.size 45 (fC f a) ∧ VsAt Wd (w.heap.size + 2) 66 (listL (.slice A k c)) := ⟨hfW.keep hbd, hv.keep hbd⟩
    have hRWd := hRW.keep hbd
    have hoWd := own_below hrow hbd
    have hBWd : Below W.heap.size W Wd := hbd
    have hWs : w.heap.size + 3 ≤ W.heap.size := by omega
    clear hWd hbd hfW hRW hrow hv hb5 hsz
    refine heldQ (S := fun V => VsAt V w.heap.size 45 (fC f a) ∧ VsAt V (w.heap.size + 2) 66 (listL (.slice A k c))) Wd HWd (by kernel_rfl) fun Kq hKq => ?_
    refine wpAnyH_take (i := 1) (v := ?_) rfl (by kernel_rfl) (by kernel_rfl) (by kernel_rfl) (fun _ _ _ h => h) (Or.inl ⟨by kernel_rfl, ?_⟩) (by assumption) ?_
    rotate_left
    · intro Wt hSt
      go_simp
      try with_reducible rfl
    try simp only [List.getElem_toArray, List.getElem_cons_zero, List.getElem_cons_succ, Act.put, List.setIfInBounds_toArray, List.set_cons_zero, List.set_cons_succ]
    refine wpAnyH_take (i := 2) (v := ?_) rfl (by kernel_rfl) (by kernel_rfl) (by kernel_rfl) (fun _ _ _ h => h) (Or.inl ⟨by kernel_rfl, ?_⟩) (by assumption) ?_
    rotate_left
    · intro Wt hSt
      have hct := (show Wt.cell? ⟨w.heap.size, 1, none⟩ = some (.int .i64 dy) from by rw [unhide HDY]; exact hSt.1.cell rfl)
      go_simp
      try with_reducible rfl
    try simp only [List.getElem_toArray, List.getElem_cons_zero, List.getElem_cons_succ, Act.put, List.setIfInBounds_toArray, List.set_cons_zero, List.set_cons_succ]
    refine wpAnyH_take (i := 4) (v := ?_) rfl (by kernel_rfl) (by kernel_rfl) (by kernel_rfl) (fun _ _ _ h => h) (Or.inl ⟨by kernel_rfl, ?_⟩) (by assumption) ?_
    rotate_left
    · intro Wt hSt
      go_simp
      try with_reducible rfl
    try simp only [List.getElem_toArray, List.getElem_cons_zero, List.getElem_cons_succ, Act.put, List.setIfInBounds_toArray, List.set_cons_zero, List.set_cons_succ]
    refine wpAnyH_take (i := 5) (v := ?_) rfl (by kernel_rfl) (by kernel_rfl) (by kernel_rfl) (fun _ _ _ h => h) (Or.inl ⟨by kernel_rfl, ?_⟩) (by assumption) ?_
    rotate_left
    · intro Wt hSt
      have hct := (show Wt.cell? ⟨w.heap.size, 0, none⟩ = some (.int .i64 kd) from by rw [unhide HKD]; exact hSt.1.cell rfl)
      go_simp
      try with_reducible rfl
    try simp only [List.getElem_toArray, List.getElem_cons_zero, List.getElem_cons_succ, Act.put, List.setIfInBounds_toArray, List.set_cons_zero, List.set_cons_succ]
    refine wpAnyH_take (i := 7) (v := ?_) rfl (by kernel_rfl) (by kernel_rfl) (by kernel_rfl) (fun _ _ _ h => h) (Or.inl ⟨by kernel_rfl, ?_⟩) (by assumption) ?_
    rotate_left
    · intro Wt hSt
      go_simp
      try with_reducible rfl
    try simp only [List.getElem_toArray, List.getElem_cons_zero, List.getElem_cons_succ, Act.put, List.setIfInBounds_toArray, List.set_cons_zero, List.set_cons_succ]
    refine wpAnyH_take (i := 8) (v := ?_) rfl (by kernel_rfl) (by kernel_rfl) (by kernel_rfl) (fun _ _ _ h => h) (Or.inl ⟨by kernel_rfl, ?_⟩) (by assumption) ?_
    rotate_left
    · intro Wt hSt
      have hct := (show Wt.cell? ⟨w.heap.size, 2, none⟩ = some (.int .i64 kn) from by rw [unhide HKN]; exact hSt.1.cell rfl)
      go_simp
      try with_reducible rfl
    try simp only [List.getElem_toArray, List.getElem_cons_zero, List.getElem_cons_succ, Act.put, List.setIfInBounds_toArray, List.set_cons_zero, List.set_cons_succ]
    refine wpAnyH_take (i := 10) (v := .agg #[.int .i64 3, .int .i64 0, .string ByteArray.empty, .slice A k c, .slice none 0 0]) rfl (by kernel_rfl) (by kernel_rfl) (by kernel_rfl) (fun _ _ _ h => h) (Or.inl ⟨by kernel_rfl, ?_⟩) (by assumption) ?_
    · intro Wt hSt
      exact run_load_op 66 (.tmp 3) rfl (w.heap.size + 2) 0 rfl (listL (.slice A k c)) _ hSt.2.range Tryz.underlying66 rfl infoVl
    try simp only [List.getElem_toArray, List.getElem_cons_zero, List.getElem_cons_succ, Act.put, List.setIfInBounds_toArray, List.set_cons_zero, List.set_cons_succ]
    refine wpAnyH_two 0 3 _ _ rfl rfl (by kernel_rfl) (by kernel_rfl) (by kernel_rfl) ?_ ?_
    · intro Kt hK
      go_simp
      generalize hXq : World.alloc Wd _ = V1
      have hG : Below Wd.heap.size Wd V1 := hXq ▸ (Below.refl _ _).alloc (Nat.le_refl _) _
      have hgV1 := boxedV Wd V1 keysL 9 (by rw [← hXq]; rfl)
      have hLV1 : w.heap.size + 3 ≤ Wd.heap.size := by have := hBWd.size; omega
      have hkeyV1 := hgV1
      have hSV1 : VsAt V1 w.heap.size 45 (fC f a) ∧ VsAt V1 (w.heap.size + 2) 66 (listL (.slice A k c)) := ⟨hSWd.1.keep hG, hSWd.2.keep hG⟩
      have hRV1 := hRWd.keep hG
      have hoV1 := own_below hoWd hG
      have hBV1 := hBWd.trans (hG.mono hBWd.size)
      refine hK _ _ hSV1 ?_
      clear hK Kt hG hXq
      try simp only [List.getElem_toArray, List.getElem_cons_zero, List.getElem_cons_succ, Act.put, List.setIfInBounds_toArray, List.set_cons_zero, List.set_cons_succ]
      refine wpAnyH_one 3 _ rfl (by kernel_rfl) (by kernel_rfl) ?_
      skip
      intro Kt hK
      go_simp
      refine (number_lit dy V1).mono ?_; rintro e V2 ⟨rfl, hG⟩
      dsimp only
      have hSV2 : VsAt V2 w.heap.size 45 (fC f a) ∧ VsAt V2 (w.heap.size + 2) 66 (listL (.slice A k c)) := ⟨hSV1.1.keep hG, hSV1.2.keep hG⟩
      have hRV2 := hRV1.keep hG
      have hoV2 := own_below hoV1 hG
      have hBV2 := hBV1.trans (hG.mono hBV1.size)
      have hkeyV2 := hkeyV1.keep hG
      refine hK _ _ hSV2 ?_
      clear hK Kt hG
      try simp only [List.getElem_toArray, List.getElem_cons_zero, List.getElem_cons_succ, Act.put, List.setIfInBounds_toArray, List.set_cons_zero, List.set_cons_succ]
      refine wpAnyH_one 6 _ rfl (by kernel_rfl) (by kernel_rfl) ?_
      skip
      intro Kt hK
      go_simp
      refine (number_lit kd V2).mono ?_; rintro e V3 ⟨rfl, hG⟩
      dsimp only
      have hSV3 : VsAt V3 w.heap.size 45 (fC f a) ∧ VsAt V3 (w.heap.size + 2) 66 (listL (.slice A k c)) := ⟨hSV2.1.keep hG, hSV2.2.keep hG⟩
      have hRV3 := hRV2.keep hG
      have hoV3 := own_below hoV2 hG
      have hBV3 := hBV2.trans (hG.mono hBV2.size)
      have hkeyV3 := hkeyV2.keep hG
      refine hK _ _ hSV3 ?_
      clear hK Kt hG
      try simp only [List.getElem_toArray, List.getElem_cons_zero, List.getElem_cons_succ, Act.put, List.setIfInBounds_toArray, List.set_cons_zero, List.set_cons_succ]
      refine wpAnyH_one 9 _ rfl (by kernel_rfl) (by kernel_rfl) ?_
      skip
      intro Kt hK
      go_simp
      refine (number_lit kn V3).mono ?_; rintro e V4 ⟨rfl, hG⟩
      dsimp only
      have hSV4 : VsAt V4 w.heap.size 45 (fC f a) ∧ VsAt V4 (w.heap.size + 2) 66 (listL (.slice A k c)) := ⟨hSV3.1.keep hG, hSV3.2.keep hG⟩
      have hRV4 := hRV3.keep hG
      have hoV4 := own_below hoV3 hG
      have hBV4 := hBV3.trans (hG.mono hBV3.size)
      have hkeyV4 := hkeyV3.keep hG
      refine hK _ _ hSV4 ?_
      clear hK Kt hG
      try simp only [List.getElem_toArray, List.getElem_cons_zero, List.getElem_cons_succ, Act.put, List.setIfInBounds_toArray, List.set_cons_zero, List.set_cons_succ]
      refine wpAnyH_one 11 _ rfl (by kernel_rfl) (by kernel_rfl) ?_
      skip
      intro Kt hK
      go_simp
      generalize hXq : World.alloc V4 _ = V5
      have hG : Below V4.heap.size V4 V5 := hXq ▸ (Below.refl _ _).alloc (Nat.le_refl _) _
      have hgV5 := boxedV V4 V5 (numL dy ++ (numL kd ++ (numL kn ++ listL (.slice A k c)))) 66 (by rw [← hXq]; rfl)
      have hLV5 : w.heap.size + 3 ≤ V4.heap.size := by have := hBV4.size; omega
      have hlstV5 := hgV5
      have hSV5 : VsAt V5 w.heap.size 45 (fC f a) ∧ VsAt V5 (w.heap.size + 2) 66 (listL (.slice A k c)) := ⟨hSV4.1.keep hG, hSV4.2.keep hG⟩
      have hRV5 := hRV4.keep hG
      have hoV5 := own_below hoV4 hG
      have hBV5 := hBV4.trans (hG.mono hBV4.size)
      have hkeyV5 := hkeyV4.keep hG
      refine hK _ _ hSV5 ?_
      clear hK Kt hG hXq
      try simp only [List.getElem_toArray, List.getElem_cons_zero, List.getElem_cons_succ, Act.put, List.setIfInBounds_toArray, List.set_cons_zero, List.set_cons_succ]
      refine wpAnyH_chainOf [12, 13] _ _ _ (by kernel_rfl) (by kernel_rfl) ?_
      simp only [List.filterMap_cons, List.filterMap_nil, List.getElem?_toArray, List.getElem?_cons_zero, List.getElem?_cons_succ]
      refine wpChain_step rfl fun Kt hKt => ?_
      go_simp
      refine hKt _ _ hSV5 ?_
      clear hKt Kt
      refine wpChain_vput rfl 66 (.tmp 2) (.tmp 29) rfl (w.heap.size + 1) 0 rfl (resL (V4.heap.size) (Wd.heap.size)) rfl infoVl (resL_one _ _) _ fzeroV hRV5 (show 0 + 5 ≤ 5 by omega) ?_
      intro Ve HVe HGe
      rw [spliceV_all fzeroV (resL _ _) rfl] at HVe
      have hSe : VsAt Ve w.heap.size 45 (fC f a) ∧ VsAt Ve (w.heap.size + 2) 66 (listL (.slice A k c)) := ⟨hSV5.1.grown (unhide HGe) (fun e => by have := Option.some.inj e; omega), hSV5.2.grown (unhide HGe) (fun e => by have := Option.some.inj e; omega)⟩
      refine ⟨hSe, wpChain_nil ?_⟩
      exact hKq _ _ (cont (Wd.heap.size) (V4.heap.size) Ve HVe (hide (hlstV5.grown (unhide HGe) (fun e => by have := Option.some.inj e; omega))) (hide (hkeyV5.grown (unhide HGe) (fun e => by have := Option.some.inj e; omega))) (hide (hoV5.kept (unhide HGe) (.inr (fun e => by have := (hoV5.lt _ e).1; omega)))) (hide ((hBV5.mono (unhide HBW).size).grown (unhide HGe) (Nat.le_trans (unhide HBW).size hBV5.size) (fun q e => by have := Option.some.inj e; omega))) (hide (fun q h1 h2 => ((unhide HGe).block q (by have := hBV5.size; omega) (fun e => h2 (Option.some.inj e))).trans (hBV5.block q h1))))
    · intro Kt hK
      go_simp
      refine (number_lit dy Wd).mono ?_; rintro e V6 ⟨rfl, hG⟩
      dsimp only
      have hSV6 : VsAt V6 w.heap.size 45 (fC f a) ∧ VsAt V6 (w.heap.size + 2) 66 (listL (.slice A k c)) := ⟨hSWd.1.keep hG, hSWd.2.keep hG⟩
      have hRV6 := hRWd.keep hG
      have hoV6 := own_below hoWd hG
      have hBV6 := hBWd.trans (hG.mono hBWd.size)
      refine hK _ _ hSV6 ?_
      clear hK Kt hG
      try simp only [List.getElem_toArray, List.getElem_cons_zero, List.getElem_cons_succ, Act.put, List.setIfInBounds_toArray, List.set_cons_zero, List.set_cons_succ]
      refine wpAnyH_two 0 6 _ _ rfl rfl (by kernel_rfl) (by kernel_rfl) (by kernel_rfl) ?_ ?_
      · intro Kt hK
        go_simp
        generalize hXq : World.alloc V6 _ = V7
        have hG : Below V6.heap.size V6 V7 := hXq ▸ (Below.refl _ _).alloc (Nat.le_refl _) _
        have hgV7 := boxedV V6 V7 keysL 9 (by rw [← hXq]; rfl)
        have hLV7 : w.heap.size + 3 ≤ V6.heap.size := by have := hBV6.size; omega
        have hkeyV7 := hgV7
        have hSV7 : VsAt V7 w.heap.size 45 (fC f a) ∧ VsAt V7 (w.heap.size + 2) 66 (listL (.slice A k c)) := ⟨hSV6.1.keep hG, hSV6.2.keep hG⟩
        have hRV7 := hRV6.keep hG
        have hoV7 := own_below hoV6 hG
        have hBV7 := hBV6.trans (hG.mono hBV6.size)
        refine hK _ _ hSV7 ?_
        clear hK Kt hG hXq
        try simp only [List.getElem_toArray, List.getElem_cons_zero, List.getElem_cons_succ, Act.put, List.setIfInBounds_toArray, List.set_cons_zero, List.set_cons_succ]
        refine wpAnyH_one 6 _ rfl (by kernel_rfl) (by kernel_rfl) ?_
        skip
        intro Kt hK
        go_simp
        refine (number_lit kd V7).mono ?_; rintro e V8 ⟨rfl, hG⟩
        dsimp only
        have hSV8 : VsAt V8 w.heap.size 45 (fC f a) ∧ VsAt V8 (w.heap.size + 2) 66 (listL (.slice A k c)) := ⟨hSV7.1.keep hG, hSV7.2.keep hG⟩
        have hRV8 := hRV7.keep hG
        have hoV8 := own_below hoV7 hG
        have hBV8 := hBV7.trans (hG.mono hBV7.size)
        have hkeyV8 := hkeyV7.keep hG
        refine hK _ _ hSV8 ?_
        clear hK Kt hG
        try simp only [List.getElem_toArray, List.getElem_cons_zero, List.getElem_cons_succ, Act.put, List.setIfInBounds_toArray, List.set_cons_zero, List.set_cons_succ]
        refine wpAnyH_one 9 _ rfl (by kernel_rfl) (by kernel_rfl) ?_
        skip
        intro Kt hK
        go_simp
        refine (number_lit kn V8).mono ?_; rintro e V9 ⟨rfl, hG⟩
        dsimp only
        have hSV9 : VsAt V9 w.heap.size 45 (fC f a) ∧ VsAt V9 (w.heap.size + 2) 66 (listL (.slice A k c)) := ⟨hSV8.1.keep hG, hSV8.2.keep hG⟩
        have hRV9 := hRV8.keep hG
        have hoV9 := own_below hoV8 hG
        have hBV9 := hBV8.trans (hG.mono hBV8.size)
        have hkeyV9 := hkeyV8.keep hG
        refine hK _ _ hSV9 ?_
        clear hK Kt hG
        try simp only [List.getElem_toArray, List.getElem_cons_zero, List.getElem_cons_succ, Act.put, List.setIfInBounds_toArray, List.set_cons_zero, List.set_cons_succ]
        refine wpAnyH_one 11 _ rfl (by kernel_rfl) (by kernel_rfl) ?_
        skip
        intro Kt hK
        go_simp
        generalize hXq : World.alloc V9 _ = V10
        have hG : Below V9.heap.size V9 V10 := hXq ▸ (Below.refl _ _).alloc (Nat.le_refl _) _
        have hgV10 := boxedV V9 V10 (numL dy ++ (numL kd ++ (numL kn ++ listL (.slice A k c)))) 66 (by rw [← hXq]; rfl)
        have hLV10 : w.heap.size + 3 ≤ V9.heap.size := by have := hBV9.size; omega
        have hlstV10 := hgV10
        have hSV10 : VsAt V10 w.heap.size 45 (fC f a) ∧ VsAt V10 (w.heap.size + 2) 66 (listL (.slice A k c)) := ⟨hSV9.1.keep hG, hSV9.2.keep hG⟩
        have hRV10 := hRV9.keep hG
        have hoV10 := own_below hoV9 hG
        have hBV10 := hBV9.trans (hG.mono hBV9.size)
        have hkeyV10 := hkeyV9.keep hG
        refine hK _ _ hSV10 ?_
        clear hK Kt hG hXq
        try simp only [List.getElem_toArray, List.getElem_cons_zero, List.getElem_cons_succ, Act.put, List.setIfInBounds_toArray, List.set_cons_zero, List.set_cons_succ]
        refine wpAnyH_chainOf [12, 13] _ _ _ (by kernel_rfl) (by kernel_rfl) ?_
        simp only [List.filterMap_cons, List.filterMap_nil, List.getElem?_toArray, List.getElem?_cons_zero, List.getElem?_cons_succ]
        refine wpChain_step rfl fun Kt hKt => ?_
        go_simp
        refine hKt _ _ hSV10 ?_
        clear hKt Kt
        refine wpChain_vput rfl 66 (.tmp 2) (.tmp 29) rfl (w.heap.size + 1) 0 rfl (resL (V9.heap.size) (V6.heap.size)) rfl infoVl (resL_one _ _) _ fzeroV hRV10 (show 0 + 5 ≤ 5 by omega) ?_
        intro Ve HVe HGe
        rw [spliceV_all fzeroV (resL _ _) rfl] at HVe
        have hSe : VsAt Ve w.heap.size 45 (fC f a) ∧ VsAt Ve (w.heap.size + 2) 66 (listL (.slice A k c)) := ⟨hSV10.1.grown (unhide HGe) (fun e => by have := Option.some.inj e; omega), hSV10.2.grown (unhide HGe) (fun e => by have := Option.some.inj e; omega)⟩
        refine ⟨hSe, wpChain_nil ?_⟩
        exact hKq _ _ (cont (V6.heap.size) (V9.heap.size) Ve HVe (hide (hlstV10.grown (unhide HGe) (fun e => by have := Option.some.inj e; omega))) (hide (hkeyV10.grown (unhide HGe) (fun e => by have := Option.some.inj e; omega))) (hide (hoV10.kept (unhide HGe) (.inr (fun e => by have := (hoV10.lt _ e).1; omega)))) (hide ((hBV10.mono (unhide HBW).size).grown (unhide HGe) (Nat.le_trans (unhide HBW).size hBV10.size) (fun q e => by have := Option.some.inj e; omega))) (hide (fun q h1 h2 => ((unhide HGe).block q (by have := hBV10.size; omega) (fun e => h2 (Option.some.inj e))).trans (hBV10.block q h1))))
      · intro Kt hK
        go_simp
        refine (number_lit kd V6).mono ?_; rintro e V11 ⟨rfl, hG⟩
        dsimp only
        have hSV11 : VsAt V11 w.heap.size 45 (fC f a) ∧ VsAt V11 (w.heap.size + 2) 66 (listL (.slice A k c)) := ⟨hSV6.1.keep hG, hSV6.2.keep hG⟩
        have hRV11 := hRV6.keep hG
        have hoV11 := own_below hoV6 hG
        have hBV11 := hBV6.trans (hG.mono hBV6.size)
        refine hK _ _ hSV11 ?_
        clear hK Kt hG
        try simp only [List.getElem_toArray, List.getElem_cons_zero, List.getElem_cons_succ, Act.put, List.setIfInBounds_toArray, List.set_cons_zero, List.set_cons_succ]
        refine wpAnyH_two 0 9 _ _ rfl rfl (by kernel_rfl) (by kernel_rfl) (by kernel_rfl) ?_ ?_
        · intro Kt hK
          go_simp
          generalize hXq : World.alloc V11 _ = V12
          have hG : Below V11.heap.size V11 V12 := hXq ▸ (Below.refl _ _).alloc (Nat.le_refl _) _
          have hgV12 := boxedV V11 V12 keysL 9 (by rw [← hXq]; rfl)
          have hLV12 : w.heap.size + 3 ≤ V11.heap.size := by have := hBV11.size; omega
          have hkeyV12 := hgV12
          have hSV12 : VsAt V12 w.heap.size 45 (fC f a) ∧ VsAt V12 (w.heap.size + 2) 66 (listL (.slice A k c)) := ⟨hSV11.1.keep hG, hSV11.2.keep hG⟩
          have hRV12 := hRV11.keep hG
          have hoV12 := own_below hoV11 hG
          have hBV12 := hBV11.trans (hG.mono hBV11.size)
          refine hK _ _ hSV12 ?_
          clear hK Kt hG hXq
          try simp only [List.getElem_toArray, List.getElem_cons_zero, List.getElem_cons_succ, Act.put, List.setIfInBounds_toArray, List.set_cons_zero, List.set_cons_succ]
          refine wpAnyH_one 9 _ rfl (by kernel_rfl) (by kernel_rfl) ?_
          skip
          intro Kt hK
          go_simp
          refine (number_lit kn V12).mono ?_; rintro e V13 ⟨rfl, hG⟩
          dsimp only
          have hSV13 : VsAt V13 w.heap.size 45 (fC f a) ∧ VsAt V13 (w.heap.size + 2) 66 (listL (.slice A k c)) := ⟨hSV12.1.keep hG, hSV12.2.keep hG⟩
          have hRV13 := hRV12.keep hG
          have hoV13 := own_below hoV12 hG
          have hBV13 := hBV12.trans (hG.mono hBV12.size)
          have hkeyV13 := hkeyV12.keep hG
          refine hK _ _ hSV13 ?_
          clear hK Kt hG
          try simp only [List.getElem_toArray, List.getElem_cons_zero, List.getElem_cons_succ, Act.put, List.setIfInBounds_toArray, List.set_cons_zero, List.set_cons_succ]
          refine wpAnyH_one 11 _ rfl (by kernel_rfl) (by kernel_rfl) ?_
          skip
          intro Kt hK
          go_simp
          generalize hXq : World.alloc V13 _ = V14
          have hG : Below V13.heap.size V13 V14 := hXq ▸ (Below.refl _ _).alloc (Nat.le_refl _) _
          have hgV14 := boxedV V13 V14 (numL dy ++ (numL kd ++ (numL kn ++ listL (.slice A k c)))) 66 (by rw [← hXq]; rfl)
          have hLV14 : w.heap.size + 3 ≤ V13.heap.size := by have := hBV13.size; omega
          have hlstV14 := hgV14
          have hSV14 : VsAt V14 w.heap.size 45 (fC f a) ∧ VsAt V14 (w.heap.size + 2) 66 (listL (.slice A k c)) := ⟨hSV13.1.keep hG, hSV13.2.keep hG⟩
          have hRV14 := hRV13.keep hG
          have hoV14 := own_below hoV13 hG
          have hBV14 := hBV13.trans (hG.mono hBV13.size)
          have hkeyV14 := hkeyV13.keep hG
          refine hK _ _ hSV14 ?_
          clear hK Kt hG hXq
          try simp only [List.getElem_toArray, List.getElem_cons_zero, List.getElem_cons_succ, Act.put, List.setIfInBounds_toArray, List.set_cons_zero, List.set_cons_succ]
          refine wpAnyH_chainOf [12, 13] _ _ _ (by kernel_rfl) (by kernel_rfl) ?_
          simp only [List.filterMap_cons, List.filterMap_nil, List.getElem?_toArray, List.getElem?_cons_zero, List.getElem?_cons_succ]
          refine wpChain_step rfl fun Kt hKt => ?_
          go_simp
          refine hKt _ _ hSV14 ?_
          clear hKt Kt
          refine wpChain_vput rfl 66 (.tmp 2) (.tmp 29) rfl (w.heap.size + 1) 0 rfl (resL (V13.heap.size) (V11.heap.size)) rfl infoVl (resL_one _ _) _ fzeroV hRV14 (show 0 + 5 ≤ 5 by omega) ?_
          intro Ve HVe HGe
          rw [spliceV_all fzeroV (resL _ _) rfl] at HVe
          have hSe : VsAt Ve w.heap.size 45 (fC f a) ∧ VsAt Ve (w.heap.size + 2) 66 (listL (.slice A k c)) := ⟨hSV14.1.grown (unhide HGe) (fun e => by have := Option.some.inj e; omega), hSV14.2.grown (unhide HGe) (fun e => by have := Option.some.inj e; omega)⟩
          refine ⟨hSe, wpChain_nil ?_⟩
          exact hKq _ _ (cont (V11.heap.size) (V13.heap.size) Ve HVe (hide (hlstV14.grown (unhide HGe) (fun e => by have := Option.some.inj e; omega))) (hide (hkeyV14.grown (unhide HGe) (fun e => by have := Option.some.inj e; omega))) (hide (hoV14.kept (unhide HGe) (.inr (fun e => by have := (hoV14.lt _ e).1; omega)))) (hide ((hBV14.mono (unhide HBW).size).grown (unhide HGe) (Nat.le_trans (unhide HBW).size hBV14.size) (fun q e => by have := Option.some.inj e; omega))) (hide (fun q h1 h2 => ((unhide HGe).block q (by have := hBV14.size; omega) (fun e => h2 (Option.some.inj e))).trans (hBV14.block q h1))))
        · intro Kt hK
          go_simp
          refine (number_lit kn V11).mono ?_; rintro e V15 ⟨rfl, hG⟩
          dsimp only
          have hSV15 : VsAt V15 w.heap.size 45 (fC f a) ∧ VsAt V15 (w.heap.size + 2) 66 (listL (.slice A k c)) := ⟨hSV11.1.keep hG, hSV11.2.keep hG⟩
          have hRV15 := hRV11.keep hG
          have hoV15 := own_below hoV11 hG
          have hBV15 := hBV11.trans (hG.mono hBV11.size)
          refine hK _ _ hSV15 ?_
          clear hK Kt hG
          try simp only [List.getElem_toArray, List.getElem_cons_zero, List.getElem_cons_succ, Act.put, List.setIfInBounds_toArray, List.set_cons_zero, List.set_cons_succ]
          refine wpAnyH_two 0 11 _ _ rfl rfl (by kernel_rfl) (by kernel_rfl) (by kernel_rfl) ?_ ?_
          · intro Kt hK
            go_simp
            generalize hXq : World.alloc V15 _ = V16
            have hG : Below V15.heap.size V15 V16 := hXq ▸ (Below.refl _ _).alloc (Nat.le_refl _) _
            have hgV16 := boxedV V15 V16 keysL 9 (by rw [← hXq]; rfl)
            have hLV16 : w.heap.size + 3 ≤ V15.heap.size := by have := hBV15.size; omega
            have hkeyV16 := hgV16
            have hSV16 : VsAt V16 w.heap.size 45 (fC f a) ∧ VsAt V16 (w.heap.size + 2) 66 (listL (.slice A k c)) := ⟨hSV15.1.keep hG, hSV15.2.keep hG⟩
            have hRV16 := hRV15.keep hG
            have hoV16 := own_below hoV15 hG
            have hBV16 := hBV15.trans (hG.mono hBV15.size)
            refine hK _ _ hSV16 ?_
            clear hK Kt hG hXq
            try simp only [List.getElem_toArray, List.getElem_cons_zero, List.getElem_cons_succ, Act.put, List.setIfInBounds_toArray, List.set_cons_zero, List.set_cons_succ]
            refine wpAnyH_one 11 _ rfl (by kernel_rfl) (by kernel_rfl) ?_
            skip
            intro Kt hK
            go_simp
            generalize hXq : World.alloc V16 _ = V17
            have hG : Below V16.heap.size V16 V17 := hXq ▸ (Below.refl _ _).alloc (Nat.le_refl _) _
            have hgV17 := boxedV V16 V17 (numL dy ++ (numL kd ++ (numL kn ++ listL (.slice A k c)))) 66 (by rw [← hXq]; rfl)
            have hLV17 : w.heap.size + 3 ≤ V16.heap.size := by have := hBV16.size; omega
            have hlstV17 := hgV17
            have hSV17 : VsAt V17 w.heap.size 45 (fC f a) ∧ VsAt V17 (w.heap.size + 2) 66 (listL (.slice A k c)) := ⟨hSV16.1.keep hG, hSV16.2.keep hG⟩
            have hRV17 := hRV16.keep hG
            have hoV17 := own_below hoV16 hG
            have hBV17 := hBV16.trans (hG.mono hBV16.size)
            have hkeyV17 := hkeyV16.keep hG
            refine hK _ _ hSV17 ?_
            clear hK Kt hG hXq
            try simp only [List.getElem_toArray, List.getElem_cons_zero, List.getElem_cons_succ, Act.put, List.setIfInBounds_toArray, List.set_cons_zero, List.set_cons_succ]
            refine wpAnyH_chainOf [12, 13] _ _ _ (by kernel_rfl) (by kernel_rfl) ?_
            simp only [List.filterMap_cons, List.filterMap_nil, List.getElem?_toArray, List.getElem?_cons_zero, List.getElem?_cons_succ]
            refine wpChain_step rfl fun Kt hKt => ?_
            go_simp
            refine hKt _ _ hSV17 ?_
            clear hKt Kt
            refine wpChain_vput rfl 66 (.tmp 2) (.tmp 29) rfl (w.heap.size + 1) 0 rfl (resL (V16.heap.size) (V15.heap.size)) rfl infoVl (resL_one _ _) _ fzeroV hRV17 (show 0 + 5 ≤ 5 by omega) ?_
            intro Ve HVe HGe
            rw [spliceV_all fzeroV (resL _ _) rfl] at HVe
            have hSe : VsAt Ve w.heap.size 45 (fC f a) ∧ VsAt Ve (w.heap.size + 2) 66 (listL (.slice A k c)) := ⟨hSV17.1.grown (unhide HGe) (fun e => by have := Option.some.inj e; omega), hSV17.2.grown (unhide HGe) (fun e => by have := Option.some.inj e; omega)⟩
            refine ⟨hSe, wpChain_nil ?_⟩
            exact hKq _ _ (cont (V15.heap.size) (V16.heap.size) Ve HVe (hide (hlstV17.grown (unhide HGe) (fun e => by have := Option.some.inj e; omega))) (hide (hkeyV17.grown (unhide HGe) (fun e => by have := Option.some.inj e; omega))) (hide (hoV17.kept (unhide HGe) (.inr (fun e => by have := (hoV17.lt _ e).1; omega)))) (hide ((hBV17.mono (unhide HBW).size).grown (unhide HGe) (Nat.le_trans (unhide HBW).size hBV17.size) (fun q e => by have := Option.some.inj e; omega))) (hide (fun q h1 h2 => ((unhide HGe).block q (by have := hBV17.size; omega) (fun e => h2 (Option.some.inj e))).trans (hBV17.block q h1))))
          · intro Kt hK
            go_simp
            generalize hXq : World.alloc V15 _ = V18
            have hG : Below V15.heap.size V15 V18 := hXq ▸ (Below.refl _ _).alloc (Nat.le_refl _) _
            have hgV18 := boxedV V15 V18 (numL dy ++ (numL kd ++ (numL kn ++ listL (.slice A k c)))) 66 (by rw [← hXq]; rfl)
            have hLV18 : w.heap.size + 3 ≤ V15.heap.size := by have := hBV15.size; omega
            have hlstV18 := hgV18
            have hSV18 : VsAt V18 w.heap.size 45 (fC f a) ∧ VsAt V18 (w.heap.size + 2) 66 (listL (.slice A k c)) := ⟨hSV15.1.keep hG, hSV15.2.keep hG⟩
            have hRV18 := hRV15.keep hG
            have hoV18 := own_below hoV15 hG
            have hBV18 := hBV15.trans (hG.mono hBV15.size)
            refine hK _ _ hSV18 ?_
            clear hK Kt hG hXq
            try simp only [List.getElem_toArray, List.getElem_cons_zero, List.getElem_cons_succ, Act.put, List.setIfInBounds_toArray, List.set_cons_zero, List.set_cons_succ]
            refine wpAnyH_one 0 _ rfl (by kernel_rfl) (by kernel_rfl) ?_
            skip
            intro Kt hK
            go_simp
            generalize hXq : World.alloc V18 _ = V19
            have hG : Below V18.heap.size V18 V19 := hXq ▸ (Below.refl _ _).alloc (Nat.le_refl _) _
            have hgV19 := boxedV V18 V19 keysL 9 (by rw [← hXq]; rfl)
            have hLV19 : w.heap.size + 3 ≤ V18.heap.size := by have := hBV18.size; omega
            have hkeyV19 := hgV19
            have hSV19 : VsAt V19 w.heap.size 45 (fC f a) ∧ VsAt V19 (w.heap.size + 2) 66 (listL (.slice A k c)) := ⟨hSV18.1.keep hG, hSV18.2.keep hG⟩
            have hRV19 := hRV18.keep hG
            have hoV19 := own_below hoV18 hG
            have hBV19 := hBV18.trans (hG.mono hBV18.size)
            have hlstV19 := hlstV18.keep hG
            refine hK _ _ hSV19 ?_
            clear hK Kt hG hXq
            try simp only [List.getElem_toArray, List.getElem_cons_zero, List.getElem_cons_succ, Act.put, List.setIfInBounds_toArray, List.set_cons_zero, List.set_cons_succ]
            refine wpAnyH_chainOf [12, 13] _ _ _ (by kernel_rfl) (by kernel_rfl) ?_
            simp only [List.filterMap_cons, List.filterMap_nil, List.getElem?_toArray, List.getElem?_cons_zero, List.getElem?_cons_succ]
            refine wpChain_step rfl fun Kt hKt => ?_
            go_simp
            refine hKt _ _ hSV19 ?_
            clear hKt Kt
            refine wpChain_vput rfl 66 (.tmp 2) (.tmp 29) rfl (w.heap.size + 1) 0 rfl (resL (V15.heap.size) (V18.heap.size)) rfl infoVl (resL_one _ _) _ fzeroV hRV19 (show 0 + 5 ≤ 5 by omega) ?_
            intro Ve HVe HGe
            rw [spliceV_all fzeroV (resL _ _) rfl] at HVe
            have hSe : VsAt Ve w.heap.size 45 (fC f a) ∧ VsAt Ve (w.heap.size + 2) 66 (listL (.slice A k c)) := ⟨hSV19.1.grown (unhide HGe) (fun e => by have := Option.some.inj e; omega), hSV19.2.grown (unhide HGe) (fun e => by have := Option.some.inj e; omega)⟩
            refine ⟨hSe, wpChain_nil ?_⟩
            exact hKq _ _ (cont (V18.heap.size) (V15.heap.size) Ve HVe (hide (hlstV19.grown (unhide HGe) (fun e => by have := Option.some.inj e; omega))) (hide (hkeyV19.grown (unhide HGe) (fun e => by have := Option.some.inj e; omega))) (hide (hoV19.kept (unhide HGe) (.inr (fun e => by have := (hoV19.lt _ e).1; omega)))) (hide ((hBV19.mono (unhide HBW).size).grown (unhide HGe) (Nat.le_trans (unhide HBW).size hBV19.size) (fun q e => by have := Option.some.inj e; omega))) (hide (fun q h1 h2 => ((unhide HGe).block q (by have := hBV19.size; omega) (fun e => h2 (Option.some.inj e))).trans (hBV19.block q h1))))
  case stop =>
    rintro D c pre W _ _ h _
    exact h.elim
end Go.Proofs.YtdmaopfaeigelaaGreatDoor
