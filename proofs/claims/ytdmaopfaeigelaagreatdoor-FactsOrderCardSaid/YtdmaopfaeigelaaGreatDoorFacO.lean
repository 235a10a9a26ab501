/- Contracts over the program of facts: a fact's own fields. -/
import Derived.Test.YtdmaopfaeigelaaGreatDoorFacG
namespace Go.Proofs.YtdmaopfaeigelaaGreatDoor
set_option linter.unusedSimpArgs false
set_option linter.unusedVariables false
open Go.RowKit

/-- a load of several cells -/
theorem wpList_vload {P : Program} {ops : Array Oper} {rest : List Oper} {o : Oper} {a : Act} {w : World} {Q : Exit → Act → World → Prop} (hgd : o.guard = none) (ty : TypeId) (x : Operand) (ho : o.op = .load ty x)
    (N off : Nat) (hx : a.eval x = .pointer (some ⟨N, off, none⟩)) (d : TypeDesc) (hu : P.underlying ty = some d) (hd : d.isRow = true) (cs : List Value) (hi : (P.info? ty).map (·.size) = some cs.length) (h0 : w.rangeAt N off cs)
    (h : wpList P ops Q rest (a.put o.dst (.agg cs.toArray)) w) : wpList P ops Q (o :: rest) a w :=
  wpList_plain hgd fun _ hK => wp_load_mid ty x ho N off hx cs d h0 hu hd hi (hK _ _ h)
/-- a struct built -/
theorem wpList_build {P : Program} {ops : Array Oper} {rest : List Oper} {o : Oper} {a : Act} {w : World} {Q : Exit → Act → World → Prop} (hgd : o.guard = none) (t : TypeId) (parts : Array (Nat × Operand)) (ho : o.op = .build t parts) (cells : Array Value)
    (h0 : P.built t (parts.map fun p => (p.1, a.eval p.2)).toList = some cells) (h : wpList P ops Q rest (a.put o.dst (.agg cells)) w) : wpList P ops Q (o :: rest) a w := by
  refine wpList_plain hgd fun K' hK' => ?_
  have hr := run_build (P := P) w t _ cells h0
  unfold Oper.wp
  simp [execOp, ho, hr, Result.andThen]
  exact hK' _ _ h
theorem range_app {w : World} {b : Nat} {t : TypeId} {cs p l q : List Value} (h : VsAt w b t cs) (n : Nat) (hn : n = p.length) (e : cs = p ++ (l ++ q)) : w.rangeAt b n l := by
  subst e hn
  refine h.mid _ _ fun j v hj => ?_
  rw [List.getElem?_append_right (by omega), Nat.add_sub_cancel_left, List.getElem?_append_left (List.getElem?_eq_some_iff.1 hj).1]
  exact hj
def hC (f : Fc) : List Value := [.int .i64 f.kind, .int .i64 f.day, .int .i64 f.known]
def pC (f : Fc) : List Value := [.int .i64 f.ac, .int .i64 f.ai, .bool f.susp]
def mC (f : Fc) : List Value := [.int .i64 f.mp, .int .i64 f.mt]
def vC (f : Fc) : List Value := f.void.map (Value.int .u8)
theorem fC_eq (f : Fc) (a : Ad) : fC f a = hC f ++ (eC f.e a.cl a.ncl ++ (xC f.xg f.venue ++ (sC f.sh a ++ (rC f.r ++ (pC f ++ (mC f ++ (lC f.ls f.lc f.order a.od a.nod ++ vC f))))))) := by
  simp only [fC, hC, pC, mC, vC, List.append_assoc]
theorem VsAt.fe {w : World} {b : Nat} {t : TypeId} {f : Fc} {a : Ad} (h : VsAt w b t (fC f a)) : w.rangeAt b 3 (eC f.e a.cl a.ncl) := range_app h 3 (p := hC f) rfl (fC_eq f a)
theorem VsAt.fx {w : World} {b : Nat} {t : TypeId} {f : Fc} {a : Ad} (h : VsAt w b t (fC f a)) : w.rangeAt b 7 (xC f.xg f.venue) := range_app h 7 (p := hC f ++ eC f.e a.cl a.ncl) rfl ((fC_eq f a).trans (by simp only [List.append_assoc]; rfl))
theorem VsAt.fs {w : World} {b : Nat} {t : TypeId} {f : Fc} {a : Ad} (h : VsAt w b t (fC f a)) : w.rangeAt b 12 (sC f.sh a) := range_app h 12 (p := hC f ++ (eC f.e a.cl a.ncl ++ xC f.xg f.venue)) rfl ((fC_eq f a).trans (by simp only [List.append_assoc]; rfl))
theorem VsAt.fr {w : World} {b : Nat} {t : TypeId} {f : Fc} {a : Ad} (h : VsAt w b t (fC f a)) : w.rangeAt b 25 (rC f.r) := range_app h 25 (p := hC f ++ (eC f.e a.cl a.ncl ++ (xC f.xg f.venue ++ sC f.sh a))) rfl ((fC_eq f a).trans (by simp only [List.append_assoc]; rfl))
theorem VsAt.fp {w : World} {b : Nat} {t : TypeId} {f : Fc} {a : Ad} (h : VsAt w b t (fC f a)) : w.rangeAt b 42 (pC f) := range_app h 42 (p := hC f ++ (eC f.e a.cl a.ncl ++ (xC f.xg f.venue ++ (sC f.sh a ++ rC f.r)))) rfl ((fC_eq f a).trans (by simp only [List.append_assoc]; rfl))
theorem VsAt.fm {w : World} {b : Nat} {t : TypeId} {f : Fc} {a : Ad} (h : VsAt w b t (fC f a)) : w.rangeAt b 45 (mC f) := range_app h 45 (p := hC f ++ (eC f.e a.cl a.ncl ++ (xC f.xg f.venue ++ (sC f.sh a ++ (rC f.r ++ pC f))))) rfl ((fC_eq f a).trans (by simp only [List.append_assoc]; rfl))
theorem VsAt.fl {w : World} {b : Nat} {t : TypeId} {f : Fc} {a : Ad} (h : VsAt w b t (fC f a)) : w.rangeAt b 47 (lC f.ls f.lc f.order a.od a.nod) := range_app h 47 (p := hC f ++ (eC f.e a.cl a.ncl ++ (xC f.xg f.venue ++ (sC f.sh a ++ (rC f.r ++ (pC f ++ mC f)))))) rfl ((fC_eq f a).trans (by simp only [List.append_assoc]; rfl))
theorem VsAt.fv {w : World} {b : Nat} {t : TypeId} {f : Fc} {a : Ad} (h : VsAt w b t (fC f a)) : w.rangeAt b 50 (vC f) := range_app h 50 (p := hC f ++ (eC f.e a.cl a.ncl ++ (xC f.xg f.venue ++ (sC f.sh a ++ (rC f.r ++ (pC f ++ (mC f ++ lC f.ls f.lc f.order a.od a.nod))))))) (q := []) rfl ((fC_eq f a).trans (by simp only [List.append_assoc, List.append_nil]))
theorem infoFc : (Tryz.prog.info? 45).map (·.size) = some 82 := by kernel_rfl
theorem infoEn : (Tryz.prog.info? 24).map (·.size) = some 4 := by kernel_rfl
theorem infoFx : (Tryz.prog.info? 28).map (·.size) = some 5 := by kernel_rfl
theorem infoSh : (Tryz.prog.info? 31).map (·.size) = some 13 := by kernel_rfl
theorem infoAp : (Tryz.prog.info? 37).map (·.size) = some 3 := by kernel_rfl
theorem infoMv : (Tryz.prog.info? 39).map (·.size) = some 2 := by kernel_rfl
theorem infoLt : (Tryz.prog.info? 41).map (·.size) = some 3 := by kernel_rfl
theorem infoDg : (Tryz.prog.info? 43).map (·.size) = some 32 := by kernel_rfl
theorem fC_length (f : Fc) (a : Ad) (h : f.void.length = 32) : (fC f a).length = 82 := by
  rw [fC_eq]
  simp only [List.length_append, vC, List.length_map, h]
  rfl
theorem fC_one (f : Fc) (a : Ad) : ∀ v ∈ fC f a, v.oneCell' = true := by
  intro v hv
  rw [fC_eq] at hv
  simp only [hC, eC, xC, gC, sC, pC, mC, lC, vC, List.cons_append, List.nil_append, List.mem_cons, List.mem_append, List.not_mem_nil, or_false, List.mem_map] at hv
  have hr := rC_one f.r v
  rcases hv with rfl | rfl | rfl | rfl | rfl | rfl | rfl | rfl | rfl | rfl | rfl | rfl | rfl | rfl | rfl | rfl | rfl | rfl | rfl | rfl | rfl | rfl | rfl | rfl | rfl | h | rfl | rfl | rfl | rfl | rfl | rfl | rfl | rfl | ⟨x, _, rfl⟩
  all_goals first | exact hr h | rfl
def e0 : En := ⟨0, 0, [], ByteArray.empty⟩
def s0 : Sh := ⟨g0, 0, 0, 0, 0, 0, [], [], [], []⟩
def f0 : Fc := ⟨0, 0, 0, e0, g0, 0, s0, r0, 0, 0, false, 0, 0, 0, 0, [], List.replicate 32 0⟩
def a0 : Ad := ⟨none, 0, none, 0, none, 0, none, 0, none, 0, none, 0⟩
def fOwn (k : Int) (f : Fc) : Fc := match k with
  | 1 => { f0 with e := f.e }
  | 2 => { f0 with xg := f.xg, venue := f.venue }
  | 3 => { f0 with sh := f.sh }
  | 4 => { f0 with r := f.r }
  | 5 => { f0 with ac := f.ac, ai := f.ai, susp := f.susp }
  | 6 => { f0 with mp := f.mp, mt := f.mt }
  | 7 => { f0 with ls := f.ls, lc := f.lc, order := f.order }
  | 8 => { f0 with void := f.void }
  | _ => f0
def aOwn (k : Int) (a : Ad) : Ad := match k with
  | 1 => { a0 with cl := a.cl, ncl := a.ncl }
  | 3 => { a0 with hs := a.hs, nhs := a.nhs, as_ := a.as_, nas := a.nas, hc := a.hc, nhc := a.nhc, ac := a.ac, nac := a.nac }
  | 7 => { a0 with od := a.od, nod := a.nod }
  | _ => a0
theorem Sl.none {w : World} : Sl w none [] 0 := ⟨It.nil, Nat.le_refl _, fun _ => rfl, Nat.zero_le _⟩
theorem Sc.none {w : World} : Sc w none [] 0 := ⟨Ct.nil, Nat.le_refl _, fun _ => rfl, Nat.zero_le _⟩
theorem FAt.zero {w : World} : FAt w f0 a0 := ⟨Sl.none, Sl.none, Sl.none, Sc.none, Sc.none, Sl.none, by simp [f0]⟩
theorem FAt.own {w : World} {f : Fc} {a : Ad} (h : FAt w f a) (k : Int) (h1 : 1 ≤ k) (h2 : k ≤ 8) : FAt w (fOwn k f) (aOwn k a) := by
  have : k = 1 ∨ k = 2 ∨ k = 3 ∨ k = 4 ∨ k = 5 ∨ k = 6 ∨ k = 7 ∨ k = 8 := by omega
  rcases this with rfl | rfl | rfl | rfl | rfl | rfl | rfl | rfl
  · exact ⟨h.cl, Sl.none, Sl.none, Sc.none, Sc.none, Sl.none, rfl⟩
  · exact ⟨Sl.none, Sl.none, Sl.none, Sc.none, Sc.none, Sl.none, rfl⟩
  · exact ⟨Sl.none, h.hs, h.as_, h.hc, h.ac, Sl.none, rfl⟩
  · exact ⟨Sl.none, Sl.none, Sl.none, Sc.none, Sc.none, Sl.none, rfl⟩
  · exact ⟨Sl.none, Sl.none, Sl.none, Sc.none, Sc.none, Sl.none, rfl⟩
  · exact ⟨Sl.none, Sl.none, Sl.none, Sc.none, Sc.none, Sl.none, rfl⟩
  · exact ⟨Sl.none, Sl.none, Sl.none, Sc.none, Sc.none, h.od, rfl⟩
  · exact ⟨Sl.none, Sl.none, Sl.none, Sc.none, Sc.none, Sl.none, h.void⟩
theorem list32 (l : List Int) (h : l.length = 32) : l = [l.getD 0 0, l.getD 1 0, l.getD 2 0, l.getD 3 0, l.getD 4 0, l.getD 5 0, l.getD 6 0, l.getD 7 0, l.getD 8 0, l.getD 9 0, l.getD 10 0, l.getD 11 0, l.getD 12 0, l.getD 13 0, l.getD 14 0, l.getD 15 0, l.getD 16 0, l.getD 17 0, l.getD 18 0, l.getD 19 0, l.getD 20 0, l.getD 21 0, l.getD 22 0, l.getD 23 0, l.getD 24 0, l.getD 25 0, l.getD 26 0, l.getD 27 0, l.getD 28 0, l.getD 29 0, l.getD 30 0, l.getD 31 0] := by
  match l, h with
  | [x0, x1, x2, x3, x4, x5, x6, x7, x8, x9, x10, x11, x12, x13, x14, x15, x16, x17, x18, x19, x20, x21, x22, x23, x24, x25, x26, x27, x28, x29, x30, x31], _ => rfl
set_option maxRecDepth 100000 in
set_option maxHeartbeats 1000000 in
theorem fo1_any (f : Fc) (a : Ad) (hf : f.void.length = 32) (w : World) : Calls Tryz.prog 111 #[.agg (fC f a).toArray] w fun x w' => x = .returned (.agg (fC (fOwn 1 f) (aOwn 1 a)).toArray) ∧ Below w.heap.size w w' := by
  obtain ⟨cs, hcs⟩ : ∃ cs, cs = fC f a := ⟨_, rfl⟩
  rw [← hcs]
  have HCS := hide hcs
  have HF := hide hf
  clear hcs hf
  go_enter Tryz.func111, Tryz.ntmps111
  go_upto_region 1 with fail
  generalize hX1 : w.alloc _ = W1
  have hB1 : Below w.heap.size w W1 := hX1 ▸ (Below.refl _ _).alloc (Nat.le_refl _) _
  have hv1 := boxedV w W1 cs 45 (by rw [← hX1]; rfl)
  have hz1 : W1.heap.size = w.heap.size + 1 := by rw [← hX1]; show (w.heap.push _).size = _; rw [Array.size_push]
  generalize hX2 : W1.alloc _ = W2
  have hB2 : Below W1.heap.size W1 W2 := hX2 ▸ (Below.refl _ _).alloc (Nat.le_refl _) _
  have HV2 := hide (boxedV W1 W2 (fC f0 a0) 45 (by rw [← hX2]; rfl))
  rw [hz1] at HV2
  have HV1 := hide (hv1.keep hB2)
  rw [unhide HCS] at HV1
  have HB := hide (thenB hB1 hB2)
  clear hX1 hB1 hv1 hz1 hX2 hB2
  refine wp_region_lit ?_
  refine wpList_plain rfl fun Kt hKt => ?_
  go_simp
  refine hKt _ _ ?_
  clear hKt Kt
  refine wpList_vload rfl 24 (.tmp 3) rfl w.heap.size 3 rfl _ Tryz.underlying24 rfl (eC f.e a.cl a.ncl) infoEn (unhide HV1).fe ?_
  try simp only [List.getElem_toArray, List.getElem_cons_zero, List.getElem_cons_succ, Act.put, List.setIfInBounds_toArray, List.set_cons_zero, List.set_cons_succ]
  refine wpList_build rfl 45 _ rfl (fC (fOwn 1 f) (aOwn 1 a)).toArray (by kernel_rfl) ?_
  try simp only [List.getElem_toArray, List.getElem_cons_zero, List.getElem_cons_succ, Act.put, List.setIfInBounds_toArray, List.set_cons_zero, List.set_cons_succ]
  refine wpList_vput rfl 45 (.tmp 2) (.tmp 5) rfl (w.heap.size + 1) 0 rfl (fC (fOwn 1 f) (aOwn 1 a)) rfl (by rw [fC_length _ _ rfl]; exact infoFc) (fC_one _ _) _ (fC f0 a0) (unhide HV2) (by rw [fC_length _ _ rfl, fC_length _ _ rfl]; omega) ?_
  intro W9 HW9 HG
  rw [spliceV_all _ _ (by rw [fC_length _ _ rfl, fC_length _ _ rfl])] at HW9
  go_wp2_with fail
  try simp only [Exit.inBlock, Exit.then]
  exact vret rfl rfl (w.heap.size + 1) rfl _ _ (unhide HW9) _ Tryz.underlying45 rfl (by rw [fC_length _ _ rfl]; exact infoFc) ⟨rfl, (unhide HB).grown (unhide HG) (unhide HB).size (fun i e => by injection e with e; omega)⟩
set_option maxRecDepth 100000 in
set_option maxHeartbeats 1000000 in
theorem fo2_any (f : Fc) (a : Ad) (hf : f.void.length = 32) (w : World) : Calls Tryz.prog 114 #[.agg (fC f a).toArray] w fun x w' => x = .returned (.agg (fC (fOwn 2 f) (aOwn 2 a)).toArray) ∧ Below w.heap.size w w' := by
  obtain ⟨cs, hcs⟩ : ∃ cs, cs = fC f a := ⟨_, rfl⟩
  rw [← hcs]
  have HCS := hide hcs
  have HF := hide hf
  clear hcs hf
  go_enter Tryz.func114, Tryz.ntmps114
  go_upto_region 1 with fail
  generalize hX1 : w.alloc _ = W1
  have hB1 : Below w.heap.size w W1 := hX1 ▸ (Below.refl _ _).alloc (Nat.le_refl _) _
  have hv1 := boxedV w W1 cs 45 (by rw [← hX1]; rfl)
  have hz1 : W1.heap.size = w.heap.size + 1 := by rw [← hX1]; show (w.heap.push _).size = _; rw [Array.size_push]
  generalize hX2 : W1.alloc _ = W2
  have hB2 : Below W1.heap.size W1 W2 := hX2 ▸ (Below.refl _ _).alloc (Nat.le_refl _) _
  have HV2 := hide (boxedV W1 W2 (fC f0 a0) 45 (by rw [← hX2]; rfl))
  rw [hz1] at HV2
  have HV1 := hide (hv1.keep hB2)
  rw [unhide HCS] at HV1
  have HB := hide (thenB hB1 hB2)
  clear hX1 hB1 hv1 hz1 hX2 hB2
  refine wp_region_lit ?_
  refine wpList_plain rfl fun Kt hKt => ?_
  go_simp
  refine hKt _ _ ?_
  clear hKt Kt
  refine wpList_vload rfl 28 (.tmp 3) rfl w.heap.size 7 rfl _ Tryz.underlying28 rfl (xC f.xg f.venue) infoFx (unhide HV1).fx ?_
  try simp only [List.getElem_toArray, List.getElem_cons_zero, List.getElem_cons_succ, Act.put, List.setIfInBounds_toArray, List.set_cons_zero, List.set_cons_succ]
  refine wpList_build rfl 45 _ rfl (fC (fOwn 2 f) (aOwn 2 a)).toArray (by kernel_rfl) ?_
  try simp only [List.getElem_toArray, List.getElem_cons_zero, List.getElem_cons_succ, Act.put, List.setIfInBounds_toArray, List.set_cons_zero, List.set_cons_succ]
  refine wpList_vput rfl 45 (.tmp 2) (.tmp 5) rfl (w.heap.size + 1) 0 rfl (fC (fOwn 2 f) (aOwn 2 a)) rfl (by rw [fC_length _ _ rfl]; exact infoFc) (fC_one _ _) _ (fC f0 a0) (unhide HV2) (by rw [fC_length _ _ rfl, fC_length _ _ rfl]; omega) ?_
  intro W9 HW9 HG
  rw [spliceV_all _ _ (by rw [fC_length _ _ rfl, fC_length _ _ rfl])] at HW9
  go_wp2_with fail
  try simp only [Exit.inBlock, Exit.then]
  exact vret rfl rfl (w.heap.size + 1) rfl _ _ (unhide HW9) _ Tryz.underlying45 rfl (by rw [fC_length _ _ rfl]; exact infoFc) ⟨rfl, (unhide HB).grown (unhide HG) (unhide HB).size (fun i e => by injection e with e; omega)⟩
set_option maxRecDepth 100000 in
set_option maxHeartbeats 1000000 in
theorem fo3_any (f : Fc) (a : Ad) (hf : f.void.length = 32) (w : World) : Calls Tryz.prog 117 #[.agg (fC f a).toArray] w fun x w' => x = .returned (.agg (fC (fOwn 3 f) (aOwn 3 a)).toArray) ∧ Below w.heap.size w w' := by
  obtain ⟨cs, hcs⟩ : ∃ cs, cs = fC f a := ⟨_, rfl⟩
  rw [← hcs]
  have HCS := hide hcs
  have HF := hide hf
  clear hcs hf
  go_enter Tryz.func117, Tryz.ntmps117
  go_upto_region 1 with fail
  generalize hX1 : w.alloc _ = W1
  have hB1 : Below w.heap.size w W1 := hX1 ▸ (Below.refl _ _).alloc (Nat.le_refl _) _
  have hv1 := boxedV w W1 cs 45 (by rw [← hX1]; rfl)
  have hz1 : W1.heap.size = w.heap.size + 1 := by rw [← hX1]; show (w.heap.push _).size = _; rw [Array.size_push]
  generalize hX2 : W1.alloc _ = W2
  have hB2 : Below W1.heap.size W1 W2 := hX2 ▸ (Below.refl _ _).alloc (Nat.le_refl _) _
  have HV2 := hide (boxedV W1 W2 (fC f0 a0) 45 (by rw [← hX2]; rfl))
  rw [hz1] at HV2
  have HV1 := hide (hv1.keep hB2)
  rw [unhide HCS] at HV1
  have HB := hide (thenB hB1 hB2)
  clear hX1 hB1 hv1 hz1 hX2 hB2
  refine wp_region_lit ?_
  refine wpList_plain rfl fun Kt hKt => ?_
  go_simp
  refine hKt _ _ ?_
  clear hKt Kt
  refine wpList_vload rfl 31 (.tmp 3) rfl w.heap.size 12 rfl _ Tryz.underlying31 rfl (sC f.sh a) infoSh (unhide HV1).fs ?_
  try simp only [List.getElem_toArray, List.getElem_cons_zero, List.getElem_cons_succ, Act.put, List.setIfInBounds_toArray, List.set_cons_zero, List.set_cons_succ]
  refine wpList_build rfl 45 _ rfl (fC (fOwn 3 f) (aOwn 3 a)).toArray (by kernel_rfl) ?_
  try simp only [List.getElem_toArray, List.getElem_cons_zero, List.getElem_cons_succ, Act.put, List.setIfInBounds_toArray, List.set_cons_zero, List.set_cons_succ]
  refine wpList_vput rfl 45 (.tmp 2) (.tmp 5) rfl (w.heap.size + 1) 0 rfl (fC (fOwn 3 f) (aOwn 3 a)) rfl (by rw [fC_length _ _ rfl]; exact infoFc) (fC_one _ _) _ (fC f0 a0) (unhide HV2) (by rw [fC_length _ _ rfl, fC_length _ _ rfl]; omega) ?_
  intro W9 HW9 HG
  rw [spliceV_all _ _ (by rw [fC_length _ _ rfl, fC_length _ _ rfl])] at HW9
  go_wp2_with fail
  try simp only [Exit.inBlock, Exit.then]
  exact vret rfl rfl (w.heap.size + 1) rfl _ _ (unhide HW9) _ Tryz.underlying45 rfl (by rw [fC_length _ _ rfl]; exact infoFc) ⟨rfl, (unhide HB).grown (unhide HG) (unhide HB).size (fun i e => by injection e with e; omega)⟩
set_option maxRecDepth 100000 in
set_option maxHeartbeats 1000000 in
theorem fo4_any (f : Fc) (a : Ad) (hf : f.void.length = 32) (w : World) : Calls Tryz.prog 120 #[.agg (fC f a).toArray] w fun x w' => x = .returned (.agg (fC (fOwn 4 f) (aOwn 4 a)).toArray) ∧ Below w.heap.size w w' := by
  obtain ⟨cs, hcs⟩ : ∃ cs, cs = fC f a := ⟨_, rfl⟩
  rw [← hcs]
  have HCS := hide hcs
  have HF := hide hf
  clear hcs hf
  go_enter Tryz.func120, Tryz.ntmps120
  go_upto_region 1 with fail
  generalize hX1 : w.alloc _ = W1
  have hB1 : Below w.heap.size w W1 := hX1 ▸ (Below.refl _ _).alloc (Nat.le_refl _) _
  have hv1 := boxedV w W1 cs 45 (by rw [← hX1]; rfl)
  have hz1 : W1.heap.size = w.heap.size + 1 := by rw [← hX1]; show (w.heap.push _).size = _; rw [Array.size_push]
  generalize hX2 : W1.alloc _ = W2
  have hB2 : Below W1.heap.size W1 W2 := hX2 ▸ (Below.refl _ _).alloc (Nat.le_refl _) _
  have HV2 := hide (boxedV W1 W2 (fC f0 a0) 45 (by rw [← hX2]; rfl))
  rw [hz1] at HV2
  have HV1 := hide (hv1.keep hB2)
  rw [unhide HCS] at HV1
  have HB := hide (thenB hB1 hB2)
  clear hX1 hB1 hv1 hz1 hX2 hB2
  refine wp_region_lit ?_
  refine wpList_plain rfl fun Kt hKt => ?_
  go_simp
  refine hKt _ _ ?_
  clear hKt Kt
  refine wpList_vload rfl 35 (.tmp 3) rfl w.heap.size 25 rfl _ Tryz.underlying35 rfl (rC f.r) infoRu (unhide HV1).fr ?_
  try simp only [List.getElem_toArray, List.getElem_cons_zero, List.getElem_cons_succ, Act.put, List.setIfInBounds_toArray, List.set_cons_zero, List.set_cons_succ]
  refine wpList_build rfl 45 _ rfl (fC (fOwn 4 f) (aOwn 4 a)).toArray (by kernel_rfl) ?_
  try simp only [List.getElem_toArray, List.getElem_cons_zero, List.getElem_cons_succ, Act.put, List.setIfInBounds_toArray, List.set_cons_zero, List.set_cons_succ]
  refine wpList_vput rfl 45 (.tmp 2) (.tmp 5) rfl (w.heap.size + 1) 0 rfl (fC (fOwn 4 f) (aOwn 4 a)) rfl (by rw [fC_length _ _ rfl]; exact infoFc) (fC_one _ _) _ (fC f0 a0) (unhide HV2) (by rw [fC_length _ _ rfl, fC_length _ _ rfl]; omega) ?_
  intro W9 HW9 HG
  rw [spliceV_all _ _ (by rw [fC_length _ _ rfl, fC_length _ _ rfl])] at HW9
  go_wp2_with fail
  try simp only [Exit.inBlock, Exit.then]
  exact vret rfl rfl (w.heap.size + 1) rfl _ _ (unhide HW9) _ Tryz.underlying45 rfl (by rw [fC_length _ _ rfl]; exact infoFc) ⟨rfl, (unhide HB).grown (unhide HG) (unhide HB).size (fun i e => by injection e with e; omega)⟩
set_option maxRecDepth 100000 in
set_option maxHeartbeats 1000000 in
theorem fo5_any (f : Fc) (a : Ad) (hf : f.void.length = 32) (w : World) : Calls Tryz.prog 123 #[.agg (fC f a).toArray] w fun x w' => x = .returned (.agg (fC (fOwn 5 f) (aOwn 5 a)).toArray) ∧ Below w.heap.size w w' := by
  obtain ⟨cs, hcs⟩ : ∃ cs, cs = fC f a := ⟨_, rfl⟩
  rw [← hcs]
  have HCS := hide hcs
  have HF := hide hf
  clear hcs hf
  go_enter Tryz.func123, Tryz.ntmps123
  go_upto_region 1 with fail
  generalize hX1 : w.alloc _ = W1
  have hB1 : Below w.heap.size w W1 := hX1 ▸ (Below.refl _ _).alloc (Nat.le_refl _) _
  have hv1 := boxedV w W1 cs 45 (by rw [← hX1]; rfl)
  have hz1 : W1.heap.size = w.heap.size + 1 := by rw [← hX1]; show (w.heap.push _).size = _; rw [Array.size_push]
  generalize hX2 : W1.alloc _ = W2
  have hB2 : Below W1.heap.size W1 W2 := hX2 ▸ (Below.refl _ _).alloc (Nat.le_refl _) _
  have HV2 := hide (boxedV W1 W2 (fC f0 a0) 45 (by rw [← hX2]; rfl))
  rw [hz1] at HV2
  have HV1 := hide (hv1.keep hB2)
  rw [unhide HCS] at HV1
  have HB := hide (thenB hB1 hB2)
  clear hX1 hB1 hv1 hz1 hX2 hB2
  refine wp_region_lit ?_
  refine wpList_plain rfl fun Kt hKt => ?_
  go_simp
  refine hKt _ _ ?_
  clear hKt Kt
  refine wpList_vload rfl 37 (.tmp 3) rfl w.heap.size 42 rfl _ Tryz.underlying37 rfl (pC f) infoAp (unhide HV1).fp ?_
  try simp only [List.getElem_toArray, List.getElem_cons_zero, List.getElem_cons_succ, Act.put, List.setIfInBounds_toArray, List.set_cons_zero, List.set_cons_succ]
  refine wpList_build rfl 45 _ rfl (fC (fOwn 5 f) (aOwn 5 a)).toArray (by kernel_rfl) ?_
  try simp only [List.getElem_toArray, List.getElem_cons_zero, List.getElem_cons_succ, Act.put, List.setIfInBounds_toArray, List.set_cons_zero, List.set_cons_succ]
  refine wpList_vput rfl 45 (.tmp 2) (.tmp 5) rfl (w.heap.size + 1) 0 rfl (fC (fOwn 5 f) (aOwn 5 a)) rfl (by rw [fC_length _ _ rfl]; exact infoFc) (fC_one _ _) _ (fC f0 a0) (unhide HV2) (by rw [fC_length _ _ rfl, fC_length _ _ rfl]; omega) ?_
  intro W9 HW9 HG
  rw [spliceV_all _ _ (by rw [fC_length _ _ rfl, fC_length _ _ rfl])] at HW9
  go_wp2_with fail
  try simp only [Exit.inBlock, Exit.then]
  exact vret rfl rfl (w.heap.size + 1) rfl _ _ (unhide HW9) _ Tryz.underlying45 rfl (by rw [fC_length _ _ rfl]; exact infoFc) ⟨rfl, (unhide HB).grown (unhide HG) (unhide HB).size (fun i e => by injection e with e; omega)⟩
set_option maxRecDepth 100000 in
set_option maxHeartbeats 1000000 in
theorem fo6_any (f : Fc) (a : Ad) (hf : f.void.length = 32) (w : World) : Calls Tryz.prog 126 #[.agg (fC f a).toArray] w fun x w' => x = .returned (.agg (fC (fOwn 6 f) (aOwn 6 a)).toArray) ∧ Below w.heap.size w w' := by
  obtain ⟨cs, hcs⟩ : ∃ cs, cs = fC f a := ⟨_, rfl⟩
  rw [← hcs]
  have HCS := hide hcs
  have HF := hide hf
  clear hcs hf
  go_enter Tryz.func126, Tryz.ntmps126
  go_upto_region 1 with fail
  generalize hX1 : w.alloc _ = W1
  have hB1 : Below w.heap.size w W1 := hX1 ▸ (Below.refl _ _).alloc (Nat.le_refl _) _
  have hv1 := boxedV w W1 cs 45 (by rw [← hX1]; rfl)
  have hz1 : W1.heap.size = w.heap.size + 1 := by rw [← hX1]; show (w.heap.push _).size = _; rw [Array.size_push]
  generalize hX2 : W1.alloc _ = W2
  have hB2 : Below W1.heap.size W1 W2 := hX2 ▸ (Below.refl _ _).alloc (Nat.le_refl _) _
  have HV2 := hide (boxedV W1 W2 (fC f0 a0) 45 (by rw [← hX2]; rfl))
  rw [hz1] at HV2
  have HV1 := hide (hv1.keep hB2)
  rw [unhide HCS] at HV1
  have HB := hide (thenB hB1 hB2)
  clear hX1 hB1 hv1 hz1 hX2 hB2
  refine wp_region_lit ?_
  refine wpList_plain rfl fun Kt hKt => ?_
  go_simp
  refine hKt _ _ ?_
  clear hKt Kt
  refine wpList_vload rfl 39 (.tmp 3) rfl w.heap.size 45 rfl _ Tryz.underlying39 rfl (mC f) infoMv (unhide HV1).fm ?_
  try simp only [List.getElem_toArray, List.getElem_cons_zero, List.getElem_cons_succ, Act.put, List.setIfInBounds_toArray, List.set_cons_zero, List.set_cons_succ]
  refine wpList_build rfl 45 _ rfl (fC (fOwn 6 f) (aOwn 6 a)).toArray (by kernel_rfl) ?_
  try simp only [List.getElem_toArray, List.getElem_cons_zero, List.getElem_cons_succ, Act.put, List.setIfInBounds_toArray, List.set_cons_zero, List.set_cons_succ]
  refine wpList_vput rfl 45 (.tmp 2) (.tmp 5) rfl (w.heap.size + 1) 0 rfl (fC (fOwn 6 f) (aOwn 6 a)) rfl (by rw [fC_length _ _ rfl]; exact infoFc) (fC_one _ _) _ (fC f0 a0) (unhide HV2) (by rw [fC_length _ _ rfl, fC_length _ _ rfl]; omega) ?_
  intro W9 HW9 HG
  rw [spliceV_all _ _ (by rw [fC_length _ _ rfl, fC_length _ _ rfl])] at HW9
  go_wp2_with fail
  try simp only [Exit.inBlock, Exit.then]
  exact vret rfl rfl (w.heap.size + 1) rfl _ _ (unhide HW9) _ Tryz.underlying45 rfl (by rw [fC_length _ _ rfl]; exact infoFc) ⟨rfl, (unhide HB).grown (unhide HG) (unhide HB).size (fun i e => by injection e with e; omega)⟩
set_option maxRecDepth 100000 in
set_option maxHeartbeats 1000000 in
theorem fo7_any (f : Fc) (a : Ad) (hf : f.void.length = 32) (w : World) : Calls Tryz.prog 129 #[.agg (fC f a).toArray] w fun x w' => x = .returned (.agg (fC (fOwn 7 f) (aOwn 7 a)).toArray) ∧ Below w.heap.size w w' := by
  obtain ⟨cs, hcs⟩ : ∃ cs, cs = fC f a := ⟨_, rfl⟩
  rw [← hcs]
  have HCS := hide hcs
  have HF := hide hf
  clear hcs hf
  go_enter Tryz.func129, Tryz.ntmps129
  go_upto_region 1 with fail
  generalize hX1 : w.alloc _ = W1
  have hB1 : Below w.heap.size w W1 := hX1 ▸ (Below.refl _ _).alloc (Nat.le_refl _) _
  have hv1 := boxedV w W1 cs 45 (by rw [← hX1]; rfl)
  have hz1 : W1.heap.size = w.heap.size + 1 := by rw [← hX1]; show (w.heap.push _).size = _; rw [Array.size_push]
  generalize hX2 : W1.alloc _ = W2
  have hB2 : Below W1.heap.size W1 W2 := hX2 ▸ (Below.refl _ _).alloc (Nat.le_refl _) _
  have HV2 := hide (boxedV W1 W2 (fC f0 a0) 45 (by rw [← hX2]; rfl))
  rw [hz1] at HV2
  have HV1 := hide (hv1.keep hB2)
  rw [unhide HCS] at HV1
  have HB := hide (thenB hB1 hB2)
  clear hX1 hB1 hv1 hz1 hX2 hB2
  refine wp_region_lit ?_
  refine wpList_plain rfl fun Kt hKt => ?_
  go_simp
  refine hKt _ _ ?_
  clear hKt Kt
  refine wpList_vload rfl 41 (.tmp 3) rfl w.heap.size 47 rfl _ Tryz.underlying41 rfl (lC f.ls f.lc f.order a.od a.nod) infoLt (unhide HV1).fl ?_
  try simp only [List.getElem_toArray, List.getElem_cons_zero, List.getElem_cons_succ, Act.put, List.setIfInBounds_toArray, List.set_cons_zero, List.set_cons_succ]
  refine wpList_build rfl 45 _ rfl (fC (fOwn 7 f) (aOwn 7 a)).toArray (by kernel_rfl) ?_
  try simp only [List.getElem_toArray, List.getElem_cons_zero, List.getElem_cons_succ, Act.put, List.setIfInBounds_toArray, List.set_cons_zero, List.set_cons_succ]
  refine wpList_vput rfl 45 (.tmp 2) (.tmp 5) rfl (w.heap.size + 1) 0 rfl (fC (fOwn 7 f) (aOwn 7 a)) rfl (by rw [fC_length _ _ rfl]; exact infoFc) (fC_one _ _) _ (fC f0 a0) (unhide HV2) (by rw [fC_length _ _ rfl, fC_length _ _ rfl]; omega) ?_
  intro W9 HW9 HG
  rw [spliceV_all _ _ (by rw [fC_length _ _ rfl, fC_length _ _ rfl])] at HW9
  go_wp2_with fail
  try simp only [Exit.inBlock, Exit.then]
  exact vret rfl rfl (w.heap.size + 1) rfl _ _ (unhide HW9) _ Tryz.underlying45 rfl (by rw [fC_length _ _ rfl]; exact infoFc) ⟨rfl, (unhide HB).grown (unhide HG) (unhide HB).size (fun i e => by injection e with e; omega)⟩
set_option maxRecDepth 100000 in
set_option maxHeartbeats 1000000 in
theorem fo8_any (f : Fc) (a : Ad) (hf : f.void.length = 32) (w : World) : Calls Tryz.prog 131 #[.agg (fC f a).toArray] w fun x w' => x = .returned (.agg (fC (fOwn 8 f) (aOwn 8 a)).toArray) ∧ Below w.heap.size w w' := by
  have hl := list32 f.void hf
  have hfv : vC f = [.int .u8 (f.void.getD 0 0), .int .u8 (f.void.getD 1 0), .int .u8 (f.void.getD 2 0), .int .u8 (f.void.getD 3 0), .int .u8 (f.void.getD 4 0), .int .u8 (f.void.getD 5 0), .int .u8 (f.void.getD 6 0), .int .u8 (f.void.getD 7 0), .int .u8 (f.void.getD 8 0), .int .u8 (f.void.getD 9 0), .int .u8 (f.void.getD 10 0), .int .u8 (f.void.getD 11 0), .int .u8 (f.void.getD 12 0), .int .u8 (f.void.getD 13 0), .int .u8 (f.void.getD 14 0), .int .u8 (f.void.getD 15 0), .int .u8 (f.void.getD 16 0), .int .u8 (f.void.getD 17 0), .int .u8 (f.void.getD 18 0), .int .u8 (f.void.getD 19 0), .int .u8 (f.void.getD 20 0), .int .u8 (f.void.getD 21 0), .int .u8 (f.void.getD 22 0), .int .u8 (f.void.getD 23 0), .int .u8 (f.void.getD 24 0), .int .u8 (f.void.getD 25 0), .int .u8 (f.void.getD 26 0), .int .u8 (f.void.getD 27 0), .int .u8 (f.void.getD 28 0), .int .u8 (f.void.getD 29 0), .int .u8 (f.void.getD 30 0), .int .u8 (f.void.getD 31 0)] := by unfold vC; rw [hl]; rfl
  have hown : fOwn 8 f = { f0 with void := [f.void.getD 0 0, f.void.getD 1 0, f.void.getD 2 0, f.void.getD 3 0, f.void.getD 4 0, f.void.getD 5 0, f.void.getD 6 0, f.void.getD 7 0, f.void.getD 8 0, f.void.getD 9 0, f.void.getD 10 0, f.void.getD 11 0, f.void.getD 12 0, f.void.getD 13 0, f.void.getD 14 0, f.void.getD 15 0, f.void.getD 16 0, f.void.getD 17 0, f.void.getD 18 0, f.void.getD 19 0, f.void.getD 20 0, f.void.getD 21 0, f.void.getD 22 0, f.void.getD 23 0, f.void.getD 24 0, f.void.getD 25 0, f.void.getD 26 0, f.void.getD 27 0, f.void.getD 28 0, f.void.getD 29 0, f.void.getD 30 0, f.void.getD 31 0] } := by rw [← hl]; rfl
  rw [hown]
  obtain ⟨x0, hx0⟩ : ∃ x, x = f.void.getD 0 0 := ⟨_, rfl⟩
  obtain ⟨x1, hx1⟩ : ∃ x, x = f.void.getD 1 0 := ⟨_, rfl⟩
  obtain ⟨x2, hx2⟩ : ∃ x, x = f.void.getD 2 0 := ⟨_, rfl⟩
  obtain ⟨x3, hx3⟩ : ∃ x, x = f.void.getD 3 0 := ⟨_, rfl⟩
  obtain ⟨x4, hx4⟩ : ∃ x, x = f.void.getD 4 0 := ⟨_, rfl⟩
  obtain ⟨x5, hx5⟩ : ∃ x, x = f.void.getD 5 0 := ⟨_, rfl⟩
  obtain ⟨x6, hx6⟩ : ∃ x, x = f.void.getD 6 0 := ⟨_, rfl⟩
  obtain ⟨x7, hx7⟩ : ∃ x, x = f.void.getD 7 0 := ⟨_, rfl⟩
  obtain ⟨x8, hx8⟩ : ∃ x, x = f.void.getD 8 0 := ⟨_, rfl⟩
  obtain ⟨x9, hx9⟩ : ∃ x, x = f.void.getD 9 0 := ⟨_, rfl⟩
  obtain ⟨x10, hx10⟩ : ∃ x, x = f.void.getD 10 0 := ⟨_, rfl⟩
  obtain ⟨x11, hx11⟩ : ∃ x, x = f.void.getD 11 0 := ⟨_, rfl⟩
  obtain ⟨x12, hx12⟩ : ∃ x, x = f.void.getD 12 0 := ⟨_, rfl⟩
  obtain ⟨x13, hx13⟩ : ∃ x, x = f.void.getD 13 0 := ⟨_, rfl⟩
  obtain ⟨x14, hx14⟩ : ∃ x, x = f.void.getD 14 0 := ⟨_, rfl⟩
  obtain ⟨x15, hx15⟩ : ∃ x, x = f.void.getD 15 0 := ⟨_, rfl⟩
  obtain ⟨x16, hx16⟩ : ∃ x, x = f.void.getD 16 0 := ⟨_, rfl⟩
  obtain ⟨x17, hx17⟩ : ∃ x, x = f.void.getD 17 0 := ⟨_, rfl⟩
  obtain ⟨x18, hx18⟩ : ∃ x, x = f.void.getD 18 0 := ⟨_, rfl⟩
  obtain ⟨x19, hx19⟩ : ∃ x, x = f.void.getD 19 0 := ⟨_, rfl⟩
  obtain ⟨x20, hx20⟩ : ∃ x, x = f.void.getD 20 0 := ⟨_, rfl⟩
  obtain ⟨x21, hx21⟩ : ∃ x, x = f.void.getD 21 0 := ⟨_, rfl⟩
  obtain ⟨x22, hx22⟩ : ∃ x, x = f.void.getD 22 0 := ⟨_, rfl⟩
  obtain ⟨x23, hx23⟩ : ∃ x, x = f.void.getD 23 0 := ⟨_, rfl⟩
  obtain ⟨x24, hx24⟩ : ∃ x, x = f.void.getD 24 0 := ⟨_, rfl⟩
  obtain ⟨x25, hx25⟩ : ∃ x, x = f.void.getD 25 0 := ⟨_, rfl⟩
  obtain ⟨x26, hx26⟩ : ∃ x, x = f.void.getD 26 0 := ⟨_, rfl⟩
  obtain ⟨x27, hx27⟩ : ∃ x, x = f.void.getD 27 0 := ⟨_, rfl⟩
  obtain ⟨x28, hx28⟩ : ∃ x, x = f.void.getD 28 0 := ⟨_, rfl⟩
  obtain ⟨x29, hx29⟩ : ∃ x, x = f.void.getD 29 0 := ⟨_, rfl⟩
  obtain ⟨x30, hx30⟩ : ∃ x, x = f.void.getD 30 0 := ⟨_, rfl⟩
  obtain ⟨x31, hx31⟩ : ∃ x, x = f.void.getD 31 0 := ⟨_, rfl⟩
  rw [← hx0, ← hx1, ← hx2, ← hx3, ← hx4, ← hx5, ← hx6, ← hx7, ← hx8, ← hx9, ← hx10, ← hx11, ← hx12, ← hx13, ← hx14, ← hx15, ← hx16, ← hx17, ← hx18, ← hx19, ← hx20, ← hx21, ← hx22, ← hx23, ← hx24, ← hx25, ← hx26, ← hx27, ← hx28, ← hx29, ← hx30, ← hx31] at hfv ⊢
  have HFV := hide hfv
  clear hl hown hfv hx0 hx1 hx2 hx3 hx4 hx5 hx6 hx7 hx8 hx9 hx10 hx11 hx12 hx13 hx14 hx15 hx16 hx17 hx18 hx19 hx20 hx21 hx22 hx23 hx24 hx25 hx26 hx27 hx28 hx29 hx30 hx31
  obtain ⟨cs, hcs⟩ : ∃ cs, cs = fC f a := ⟨_, rfl⟩
  rw [← hcs]
  have HCS := hide hcs
  have HF := hide hf
  clear hcs hf
  go_enter Tryz.func131, Tryz.ntmps131
  go_upto_region 1 with fail
  generalize hX1 : w.alloc _ = W1
  have hB1 : Below w.heap.size w W1 := hX1 ▸ (Below.refl _ _).alloc (Nat.le_refl _) _
  have hv1 := boxedV w W1 cs 45 (by rw [← hX1]; rfl)
  have hz1 : W1.heap.size = w.heap.size + 1 := by rw [← hX1]; show (w.heap.push _).size = _; rw [Array.size_push]
  generalize hX2 : W1.alloc _ = W2
  have hB2 : Below W1.heap.size W1 W2 := hX2 ▸ (Below.refl _ _).alloc (Nat.le_refl _) _
  have HV2 := hide (boxedV W1 W2 (fC f0 a0) 45 (by rw [← hX2]; rfl))
  rw [hz1] at HV2
  have HV1 := hide (hv1.keep hB2)
  rw [unhide HCS] at HV1
  have HB := hide (thenB hB1 hB2)
  clear hX1 hB1 hv1 hz1 hX2 hB2
  refine wp_region_lit ?_
  refine wpList_plain rfl fun Kt hKt => ?_
  go_simp
  refine hKt _ _ ?_
  clear hKt Kt
  refine wpList_vload rfl 43 (.tmp 3) rfl w.heap.size 50 rfl _ Tryz.underlying43 rfl ([.int .u8 x0, .int .u8 x1, .int .u8 x2, .int .u8 x3, .int .u8 x4, .int .u8 x5, .int .u8 x6, .int .u8 x7, .int .u8 x8, .int .u8 x9, .int .u8 x10, .int .u8 x11, .int .u8 x12, .int .u8 x13, .int .u8 x14, .int .u8 x15, .int .u8 x16, .int .u8 x17, .int .u8 x18, .int .u8 x19, .int .u8 x20, .int .u8 x21, .int .u8 x22, .int .u8 x23, .int .u8 x24, .int .u8 x25, .int .u8 x26, .int .u8 x27, .int .u8 x28, .int .u8 x29, .int .u8 x30, .int .u8 x31]) infoDg (by have h := (unhide HV1).fv; rw [unhide HFV] at h; exact h) ?_
  try simp only [List.getElem_toArray, List.getElem_cons_zero, List.getElem_cons_succ, Act.put, List.setIfInBounds_toArray, List.set_cons_zero, List.set_cons_succ]
  refine wpList_build rfl 45 _ rfl (fC ({ f0 with void := [x0, x1, x2, x3, x4, x5, x6, x7, x8, x9, x10, x11, x12, x13, x14, x15, x16, x17, x18, x19, x20, x21, x22, x23, x24, x25, x26, x27, x28, x29, x30, x31] }) (aOwn 8 a)).toArray (by kernel_rfl) ?_
  try simp only [List.getElem_toArray, List.getElem_cons_zero, List.getElem_cons_succ, Act.put, List.setIfInBounds_toArray, List.set_cons_zero, List.set_cons_succ]
  refine wpList_vput rfl 45 (.tmp 2) (.tmp 5) rfl (w.heap.size + 1) 0 rfl (fC ({ f0 with void := [x0, x1, x2, x3, x4, x5, x6, x7, x8, x9, x10, x11, x12, x13, x14, x15, x16, x17, x18, x19, x20, x21, x22, x23, x24, x25, x26, x27, x28, x29, x30, x31] }) (aOwn 8 a)) rfl (by rw [fC_length _ _ rfl]; exact infoFc) (fC_one _ _) _ (fC f0 a0) (unhide HV2) (by rw [fC_length _ _ rfl, fC_length _ _ rfl]; omega) ?_
  intro W9 HW9 HG
  rw [spliceV_all _ _ (by rw [fC_length _ _ rfl, fC_length _ _ rfl])] at HW9
  go_wp2_with fail
  try simp only [Exit.inBlock, Exit.then]
  exact vret rfl rfl (w.heap.size + 1) rfl _ _ (unhide HW9) _ Tryz.underlying45 rfl (by rw [fC_length _ _ rfl]; exact infoFc) ⟨rfl, (unhide HB).grown (unhide HG) (unhide HB).size (fun i e => by injection e with e; omega)⟩
theorem fo_all (k : Int) (h1 : 1 ≤ k) (h2 : k ≤ 8) (f : Fc) (a : Ad) (hf : f.void.length = 32) (w : World) : Calls Tryz.prog (condI k).2 #[.agg (fC f a).toArray] w fun x w' => x = .returned (.agg (fC (fOwn k f) (aOwn k a)).toArray) ∧ Below w.heap.size w w' := by
  have : k = 1 ∨ k = 2 ∨ k = 3 ∨ k = 4 ∨ k = 5 ∨ k = 6 ∨ k = 7 ∨ k = 8 := by omega
  rcases this with rfl | rfl | rfl | rfl | rfl | rfl | rfl | rfl
  · exact fo1_any f a hf w
  · exact fo2_any f a hf w
  · exact fo3_any f a hf w
  · exact fo4_any f a hf w
  · exact fo5_any f a hf w
  · exact fo6_any f a hf w
  · exact fo7_any f a hf w
  · exact fo8_any f a hf w
theorem run_cond (k : Int) (h1 : 1 ≤ k) (h2 : k ≤ 8) (args : Array Value) (w : World) :
    (callFunc (condI k).1 args).run Tryz.prog w = .ok (.enter (condI k).1 args) w ∧ (callFunc (condI k).2 args).run Tryz.prog w = .ok (.enter (condI k).2 args) w := by
  have : k = 1 ∨ k = 2 ∨ k = 3 ∨ k = 4 ∨ k = 5 ∨ k = 6 ∨ k = 7 ∨ k = 8 := by omega
  rcases this with rfl | rfl | rfl | rfl | rfl | rfl | rfl | rfl
  · exact ⟨by kernel_rfl, by kernel_rfl⟩
  · exact ⟨by kernel_rfl, by kernel_rfl⟩
  · exact ⟨by kernel_rfl, by kernel_rfl⟩
  · exact ⟨by kernel_rfl, by kernel_rfl⟩
  · exact ⟨by kernel_rfl, by kernel_rfl⟩
  · exact ⟨by kernel_rfl, by kernel_rfl⟩
  · exact ⟨by kernel_rfl, by kernel_rfl⟩
  · exact ⟨by kernel_rfl, by kernel_rfl⟩
end Go.Proofs.YtdmaopfaeigelaaGreatDoor
