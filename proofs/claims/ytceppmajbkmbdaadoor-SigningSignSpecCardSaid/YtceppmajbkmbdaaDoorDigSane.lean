/- Contracts over the digest's program: the law's sane. -/
import Derived.Test.YtceppmajbkmbdaaDoorDigGrew1
import Derived.Test.YtceppmajbkmbdaaDoorDigTop
import Derived.Test.YtceppmajbkmbdaaDoorDigEval
import Derived.Test.YtceppmajbkmbdaaDoorDigClimbA
namespace Go.Proofs.YtceppmajbkmbdaaDoor
set_option linter.unusedSimpArgs false
set_option linter.unusedVariables false
open Go.RowKit

theorem lit3 (w W : World) (a b c : Int) (t : TypeId) (fr : Nat × Nat) (hW : W.heap = w.heap.push (.cells #[.int .u8 a, .int .u8 b, .int .u8 c] t fr)) (ha : Byt a) (hb : Byt b) (hc : Byt c) : Bt W (some ⟨w.heap.size, 0, none⟩) [a, b, c] := by
  refine ⟨fun x hx => ?_, fun _ => ⟨_, 0, rfl, fun j hj => ?_⟩⟩
  · simp only [List.mem_cons, List.not_mem_nil, or_false] at hx
    rcases hx with rfl | rfl | rfl <;> assumption
  · have e : W.heap[w.heap.size]? = some (.cells #[.int .u8 a, .int .u8 b, .int .u8 c] t fr) := by rw [hW, Array.getElem?_push_size]
    rw [Nat.zero_add]
    simp only [World.cell?, e]
    match j, hj with
    | 0, _ => rfl
    | 1, _ => rfl
    | 2, _ => rfl

theorem overwrite : ∀ (l : List Value) (k : Nat) (Z : Array Value), k + l.length = Z.size → (l.zipIdx k).foldl (fun cs x => cs.setIfInBounds x.snd x.fst) Z = (Z.toList.take k ++ l).toArray
  | [], k, Z, h => by
    have : Z.toList.take k = Z.toList := List.take_of_length_le (by simpa using Nat.le_of_eq h.symm)
    simp [this]
  | v :: l, k, Z, h => by
    rw [List.zipIdx_cons, List.foldl_cons, overwrite l (k + 1) _ (by simp at h ⊢; omega)]
    apply congrArg
    simp only [Array.toList_setIfInBounds]
    rw [List.take_add_one, List.take_set_of_le (Nat.le_refl k)]
    have hk : k < Z.toList.length := by simp at h ⊢; omega
    rw [List.getElem?_set_self hk]
    simp
theorem overwritten {cz Z : Array Value} (h : cz.size = 32) (hZ : Z.size = 32) : Array.foldl (fun cs x => cs.setIfInBounds x.snd x.fst) Z cz.zipIdx 0 32 = cz := by
  have h32 : 32 = cz.zipIdx.size := by simp [h]
  rw [h32, ← Array.foldl_toList, Array.toList_zipIdx, overwrite _ 0 Z (by simp [h, hZ])]
  simp
def oneD : List Int := 1 :: List.replicate 31 0
theorem dg_one : Dg oneD := ⟨rfl, fun c hc => by
  rcases List.mem_cons.1 hc with rfl | hc
  · exact ⟨by decide, by decide⟩
  · rw [List.eq_of_mem_replicate hc]; exact ⟨by decide, by decide⟩⟩
theorem built_one : Tryd.prog.built 24 [(0, .int .u8 1)] = some (oneD.map (Value.int .u8)).toArray := by kernel_rfl
theorem build_one (w : World) : (Instr.build 24 #[(0, .int .u8 1)]).run Tryd.prog w = .ok (dv oneD) w := run_build w _ _ _ built_one
theorem wp_build1 {P : Program} {o : Oper} {a : Act} {w : World} {K : Act → World → Prop} {Q : Exit → Act → World → Prop} (t : TypeId) (i : Nat) (x : Operand) (ho : o.op = .build t #[(i, x)]) (u r : Value) (hx : a.eval x = u)
    (hr : (Instr.build t #[(i, u)]).run P w = .ok r w) (h : K (a.put o.dst r) w) : o.wp P a w K Q := by
  subst hx
  unfold Oper.wp execOp
  simp only [ho]
  rw [show (Array.map (fun (x : Nat × Operand) => (x.fst, a.eval x.snd)) #[(i, x)]) = #[(i, a.eval x)] by simp]
  simp only [Sem.run_bind, Sem.run_pure, hr, Result.andThen_ok]
  exact h
theorem wpList_build1 {P : Program} {ops : Array Oper} {rest : List Oper} {o : Oper} {a : Act} {w : World} {Q : Exit → Act → World → Prop} (hgd : o.guard = none) (t : TypeId) (i : Nat) (x : Operand) (ho : o.op = .build t #[(i, x)]) (u r : Value) (hx : a.eval x = u)
    (hr : (Instr.build t #[(i, u)]).run P w = .ok r w) (h : wpList P ops Q rest (a.put o.dst r) w) : wpList P ops Q (o :: rest) a w :=
  wpList_plain hgd fun _ hK => wp_build1 t i x ho u r hx hr (hK _ _ h)

theorem yieldsIf_build1 {P : Program} {ops : Array Oper} {S : World → Prop} {o : Oper} {a : Act} (hw : Region.wanted o (yielded ops a.tmps) = true) (t : TypeId) (i : Nat) (x : Operand) (ho : o.op = .build t #[(i, x)]) (u r : Value) (hx : a.eval x = u)
    (hr : ∀ w, (Instr.build t #[(i, u)]).run P w = .ok r w) : YieldsIf P ops S o r a :=
  .inl ⟨hw, fun w _ => by
    subst hx
    unfold execOp
    simp only [ho]
    rw [show (Array.map (fun (x : Nat × Operand) => (x.fst, a.eval x.snd)) #[(i, x)]) = #[(i, a.eval x)] by simp]
    simp only [Sem.run_bind, Sem.run_pure, hr w, Result.andThen_ok]⟩

set_option maxRecDepth 100000 in
set_option maxHeartbeats 1000000 in
theorem sane_any (w : World) (hT : DTab w) :
    Calls Tryd.prog 13 #[] w fun x w' => x = .returned (.bool true) ∧ Below w.heap.size w w' := by
  have HT := hide hT
  clear hT
  go_enter Tryd.func13, Tryd.ntmps13
  have kc := fun (w : World) (C : Array Value) (n c : Nat) => Lib.run_convert_bytes_const (P := Tryd.prog) w 22 5 C n c Tryd.underlying22 Tryd.underlying5
  have B0 : ∀ c : Int, 0 ≤ c → c < 256 → Byt c := fun c h1 h2 => ⟨h1, h2⟩
  have HBy := hide B0
  clear B0
  go_wp2_with fail
  generalize hX1 : w.alloc _ = W1
  have hB1 : Below w.heap.size w W1 := hX1 ▸ (Below.refl _ _).alloc (Nat.le_refl _) _
  have hb1 : Bt W1 (some ⟨w.heap.size, 0, none⟩) [97, 98, 99] := lit3 w W1 _ _ _ 5 _ (by rw [← hX1]; rfl) (unhide HBy _ (by decide) (by decide)) (unhide HBy _ (by decide) (by decide)) (unhide HBy _ (by decide) (by decide))
  refine (sum_any W1 _ 3 [97, 98, 99] hb1 (by decide) ((unhide HT).keep hB1)).mono ?_; rintro x W2 ⟨rfl, hB2⟩
  have HB2 := hide (thenB hB1 hB2)
  obtain ⟨DA, hDA⟩ : ∃ D, D = hashF [97, 98, 99] := ⟨_, rfl⟩
  rw [← hDA]
  have hgA : Dg DA := hDA ▸ dg_hash _
  obtain ⟨ca, hca⟩ : ∃ cs, cs = (DA.map (Value.int .u8)).toArray := ⟨_, rfl⟩
  have hsa : ca.size = 32 := by rw [hca]; simpa using hgA.len
  rw [show dv DA = .agg ca by rw [hca]]
  have HDA := hide hDA
  have HGA := hide hgA
  have HCA := hide hca
  clear hX1 hB1 hb1 hB2 hDA hgA hca kc HBy
  go_wp2_with fail
  refine (sum_any W2 none 0 [] Bt.nil (Nat.le_refl _) ((unhide HT).keep (unhide HB2))).mono ?_; rintro x W3 ⟨rfl, hB3⟩
  have HB3 := hide (thenB (unhide HB2) hB3)
  obtain ⟨DB, hDB⟩ : ∃ D, D = hashF [] := ⟨_, rfl⟩
  rw [← hDB]
  have hgB : Dg DB := hDB ▸ dg_hash _
  obtain ⟨cb, hcb⟩ : ∃ cs, cs = (DB.map (Value.int .u8)).toArray := ⟨_, rfl⟩
  have hsb : cb.size = 32 := by rw [hcb]; simpa using hgB.len
  rw [show dv DB = .agg cb by rw [hcb]]
  have HDB := hide hDB
  have HGB := hide hgB
  have HCB := hide hcb
  clear hB3 hDB hgB hcb HB2
  dsimp only
  rename_i KK hK
  refine hK _ _ ?_
  clear hK KK
  refine wpList_plain rfl fun Kt hKt => ?_
  go_simp
  refine hKt _ _ ?_
  clear hKt Kt
  generalize hX4 : W3.alloc _ = W4
  have hB4 : Below W3.heap.size W3 W4 := hX4 ▸ (Below.refl _ _).alloc (Nat.le_refl _) _
  have ho4 := newBy W3 W4 (by rw [← hX4]; rfl)
  have hz4 : W4.heap.size = W3.heap.size + 1 := by rw [← hX4]; show (W3.heap.push _).size = _; rw [Array.size_push]
  refine wpList_plain rfl fun Kt hKt => ?_
  go_simp
  refine hKt _ _ ?_
  clear hKt Kt
  generalize hX5 : W4.alloc _ = W5
  have hB5 : Below W4.heap.size W4 W5 := hX5 ▸ (Below.refl _ _).alloc (Nat.le_refl _) _
  have ho5 := newBy W4 W5 (by rw [← hX5]; rfl)
  have hz5 : W5.heap.size = W3.heap.size + 2 := by rw [← hX5]; show (W4.heap.push _).size = _; rw [Array.size_push]; omega
  rw [hz4] at ho5
  have HZ : Hid (w.heap.size ≤ W3.heap.size) := (unhide HB3).size
  have HB5 := hide (thenB (unhide HB3) (thenB hB4 hB5))
  have HO4 := hide (ho4.keep hB5)
  have HO5 := hide ho5
  clear hX4 hX5 hB4 hB5 ho4 ho5 hz4 hz5 HB3
  refine wpList_bstore rfl 24 (.tmp 1) (.tmp 14) rfl W3.heap.size rfl DA (show Value.agg ca = _ by rw [unhide HCA]) 32 info32 (unhide HGA).len _ zeros (unhide HO4) rfl ?_
  intro W6 HW6 HG6
  have hB6 := (unhide HB5).grown (unhide HG6) (unhide HB5).size (fun i e => by injection e with e; have := unhide HZ; omega)
  have hO6 := (unhide HO5).grown (unhide HG6) (by omega)
  have HB6 := hide hB6
  have HO6 := hide hO6
  clear hB6 hO6 HG6 HO4 HO5 HB5
  refine wpList_bstore rfl 24 (.tmp 2) (.tmp 15) rfl (W3.heap.size + 1) rfl DB (show Value.agg cb = _ by rw [unhide HCB]) 32 info32 (unhide HGB).len _ zeros (unhide HO6) rfl ?_
  intro W7 HW7 HG7
  have hB7 := (unhide HB6).grown (unhide HG7) (unhide HB6).size (fun i e => by injection e with e; have := unhide HZ; omega)
  have hA7 := (unhide HW6).grown (unhide HG7) (by omega)
  have HB7 := hide hB7
  have HA7 := hide hA7
  clear hB7 hA7 HG7 HW6 HO6 HB6
  go_wp2_with fail
  refine (Path_bad 0 0 0 none (Or.inr (by decide)) W7).mono ?_; rintro x W8 ⟨rfl, rfl⟩
  go_upto_region 3 with fail
  refine wp_region_lit ?_
  refine wpList_build0 rfl 24 rfl (dv zeros) (build_zero _) ?_
  obtain ⟨cz, hcz⟩ : ∃ cs, cs = (zeros.map (Value.int .u8)).toArray := ⟨_, rfl⟩
  have hsz : cz.size = 32 := by rw [hcz]; rfl
  rw [show dv zeros = .agg cz by rw [hcz]]
  have HCZ := hide hcz
  clear hcz
  have HDZ : Hid (Dg zeros) := ⟨rfl, fun c hc => by rw [List.eq_of_mem_replicate hc]; exact ⟨by decide, by decide⟩⟩
  go_wp2_with fail
  have hcl := Climb_bad 0 2 0 (fun h => by have h5 := h.2.2.2.2; rw [show (2 : Int).toNat = 2 from rfl, show (0 : Int).toNat = 0 from rfl, lenP_left (by decide) (halfN_pos 2)] at h5; omega) zeros W8 0 none (unhide HDZ) ((unhide HT).keep (unhide HB7))
  rw [show dv zeros = .agg cz by rw [unhide HCZ]] at hcl
  refine hcl.mono ?_; rintro x W9 ⟨rfl, hB9⟩
  clear hcl
  have HB9 := hide (thenB (unhide HB7) hB9)
  have HA9 := hide ((unhide HA7).keep hB9)
  have HW9 := hide ((unhide HW7).keep hB9)
  clear hB9 HB7 HA7 HW7
  dsimp only
  rename_i KK hK
  refine hK _ _ ?_
  clear hK KK
  refine wpList_plain rfl fun Kt hKt => ?_
  go_simp
  refine hKt _ _ ?_
  clear hKt Kt
  refine wpList_plain rfl fun Kt hKt => ?_
  go_simp
  refine hKt _ _ ?_
  clear hKt Kt
  refine wpList_plain rfl fun Kt hKt => ?_
  go_simp
  refine hKt _ _ ?_
  clear hKt Kt
  refine wpList_plain rfl fun Kt hKt => ?_
  go_simp
  refine hKt _ _ ?_
  clear hKt Kt
  generalize hX10 : W9.alloc _ = V1
  have hB10 : Below W9.heap.size W9 V1 := hX10 ▸ (Below.refl _ _).alloc (Nat.le_refl _) _
  have HN1 := hide (newBy W9 V1 (by rw [← hX10]; rfl))
  have HB10 := hide (thenB (unhide HB9) hB10)
  have HA10 := hide ((unhide HA9).keep hB10)
  have HW10 := hide ((unhide HW9).keep hB10)
  have HZ9 : Hid (W3.heap.size + 1 < W9.heap.size) := lt_of_block (unhide HW9)
  clear hX10 hB10 HB9 HA9 HW9
  refine wpList_bstore rfl 24 (.tmp 5) (.tmp 23) rfl W9.heap.size rfl zeros (show Value.agg cz = _ by rw [unhide HCZ]) 32 info32 rfl _ zeros (unhide HN1) rfl ?_
  intro V2 HV2 HG2
  have hB11 := (unhide HB10).grown (unhide HG2) (unhide HB10).size (fun i e => by injection e with e; have := unhide HZ; have := unhide HZ9; omega)
  have hA11 := (unhide HA10).grown (unhide HG2) (by have := unhide HZ9; omega)
  have hW11 := (unhide HW10).grown (unhide HG2) (by have := unhide HZ9; omega)
  have HB11 := hide hB11
  have HA11 := hide hA11
  have HW11 := hide hW11
  clear hB11 hA11 hW11 HG2 HV2 HN1 HB10 HA10 HW10
  go_upto_region 4 with fail
  refine wp_region_lit ?_
  refine wpList_build0 rfl 24 rfl (dv zeros) (build_zero _) ?_
  rw [show dv zeros = .agg cz by rw [unhide HCZ]]
  go_wp2_with fail
  generalize hX12 : V2.alloc _ = V3
  have hB12 : Below V2.heap.size V2 V3 := hX12 ▸ (Below.refl _ _).alloc (Nat.le_refl _) _
  have HB12 := hide (thenB (unhide HB11) hB12)
  have HA12 := hide ((unhide HA11).keep hB12)
  have HW12 := hide ((unhide HW11).keep hB12)
  clear hX12 hB12 HB11 HA11 HW11
  refine (Grow_bad 0 1 1 (some ⟨V2.heap.size, 0, none⟩) (Or.inl (by decide)) V3).mono ?_; rintro x V4 ⟨rfl, hB13⟩
  have HB13 := hide (thenB (unhide HB12) hB13)
  have HA13 := hide ((unhide HA12).keep hB13)
  have HW13 := hide ((unhide HW12).keep hB13)
  clear hB13 HB12 HA12 HW12
  go_upto_region 5 with fail
  refine wp_region_lit ?_
  refine wpList_build1 rfl 24 0 (.const (.int .u8 1)) rfl (.int .u8 1) (dv oneD) rfl (build_one _) ?_
  obtain ⟨co, hco⟩ : ∃ cs, cs = (oneD.map (Value.int .u8)).toArray := ⟨_, rfl⟩
  have hso : co.size = 32 := by rw [hco]; rfl
  rw [show dv oneD = .agg co by rw [hco]]
  have HCO := hide hco
  clear hco
  have HDO : Hid (Dg oneD) := dg_one
  go_wp2_with fail
  have hcl := Climb_ok 0 1 (by decide) (by decide) (by decide) [] (lenP_one 0).symm oneD V4 0 0 none rfl (unhide HDO) ((unhide HT).keep (unhide HB13)) (Nat.le_refl _) Ds.nil (fun W hb h1 h2 h3 => climb_any 1 (by decide) 0 oneD [] W hb 0 0 none (by decide) (by decide) rfl (lenP_one 0).symm (Nat.le_refl _) (unhide HDO) h3 h1 h2)
  rw [climbP_one, show dv oneD = .agg co by rw [unhide HCO]] at hcl
  refine hcl.mono ?_; rintro x V5 ⟨rfl, hB14⟩
  have HB14 := hide (thenB (unhide HB13) hB14)
  have HA14 := hide ((unhide HA13).keep hB14)
  have HW14 := hide ((unhide HW13).keep hB14)
  clear hcl hB14 HB13 HA13 HW13
  obtain ⟨DC, hDC⟩ : ∃ D, D = leafP oneD := ⟨_, rfl⟩
  rw [← hDC]
  have hgC : Dg DC := hDC ▸ dg_hash _
  obtain ⟨cc, hcc⟩ : ∃ cs, cs = (DC.map (Value.int .u8)).toArray := ⟨_, rfl⟩
  have hsc : cc.size = 32 := by rw [hcc]; simpa using hgC.len
  rw [show dv DC = .agg cc by rw [hcc]]
  have HDC := hide hDC
  have HGC := hide hgC
  have HCC := hide hcc
  clear hDC hgC hcc
  dsimp only
  rename_i KK hK
  refine hK _ _ ?_
  clear hK KK
  refine wpList_plain rfl fun Kt hKt => ?_
  go_simp
  refine hKt _ _ ?_
  clear hKt Kt
  refine wpList_plain rfl fun Kt hKt => ?_
  go_simp
  refine hKt _ _ ?_
  clear hKt Kt
  refine wpList_plain rfl fun Kt hKt => ?_
  go_simp
  refine hKt _ _ ?_
  clear hKt Kt
  refine wpList_plain rfl fun Kt hKt => ?_
  go_simp
  refine hKt _ _ ?_
  clear hKt Kt
  generalize hX15 : V5.alloc _ = V6
  have hB15 : Below V5.heap.size V5 V6 := hX15 ▸ (Below.refl _ _).alloc (Nat.le_refl _) _
  have HN15 := hide (newBy V5 V6 (by rw [← hX15]; rfl))
  have HB15 := hide (thenB (unhide HB14) hB15)
  have HA15 := hide ((unhide HA14).keep hB15)
  have HW15 := hide ((unhide HW14).keep hB15)
  have HZ15 : Hid (W3.heap.size + 1 < V5.heap.size) := lt_of_block (unhide HW14)
  clear hX15 hB15 HB14 HA14 HW14
  refine wpList_bstore rfl 24 (.tmp 9) (.tmp 34) rfl V5.heap.size rfl DC (show Value.agg cc = _ by rw [unhide HCC]) 32 info32 (unhide HGC).len _ zeros (unhide HN15) rfl ?_
  intro V7 HV7 HG7
  have hB16 := (unhide HB15).grown (unhide HG7) (unhide HB15).size (fun i e => by injection e with e; have := unhide HZ; have := unhide HZ15; omega)
  have hA16 := (unhide HA15).grown (unhide HG7) (by have := unhide HZ15; omega)
  have hW16 := (unhide HW15).grown (unhide HG7) (by have := unhide HZ15; omega)
  have HB16 := hide hB16
  have HA16 := hide hA16
  have HW16 := hide hW16
  clear hB16 hA16 hW16 HG7 HN15 HB15 HA15 HW15
  go_upto_region 6 with fail
  have ha := fun (j : Nat) (hj : j < DA.length) => (unhide HA16).cell hj
  have hb := fun (j : Nat) (hj : j < DB.length) => (unhide HW16).cell hj
  rw [unhide HDA, hash_abc] at ha
  rw [unhide HDB, hash_nil] at hb
  have ha0 := ha 0 (by decide)
  have ha1 := ha 1 (by decide)
  have ha2 := ha 2 (by decide)
  have ha3 := ha 3 (by decide)
  have hb0 := hb 0 (by decide)
  have hb1 := hb 1 (by decide)
  have hb2 := hb 2 (by decide)
  have hb3 := hb 3 (by decide)
  simp only [List.getD_cons_zero, List.getD_cons_succ] at ha0 ha1 ha2 ha3 hb0 hb1 hb2 hb3
  clear ha hb
  go_wp2_with fail
  obtain ⟨W, hW⟩ : ∃ W, W = V7.drewN 1 := ⟨_, rfl⟩
  have HW : Hid (W = V7.drewN 1) := hW
  have HBW := hide (thenB (unhide HB16) (below_named HW))
  have HAW := hide ((unhide HA16).keep (below_named HW))
  have HWW := hide ((unhide HW16).keep (below_named HW))
  have HVW := hide ((unhide HV7).keep (below_named HW))
  have hSW : Below W.heap.size W W := Below.refl _ _
  clear hW HB16 HA16 HW16 HV7 ha0 ha1 ha2 ha3 hb0 hb1 hb2 hb3
  refine held (S := Below W.heap.size W) W HW (by kernel_rfl) ?_
  refine wpAnyH_take (i := 0) (v := ?_) rfl (by kernel_rfl) (by kernel_rfl) (by kernel_rfl) (fun _ _ _ h => h) (Or.inl ⟨by kernel_rfl, ?_⟩) (by assumption) ?_
  rotate_left
  · intro Wt hSt
    go_simp
    try with_reducible rfl
  try simp only [List.getElem_toArray, List.getElem_cons_zero, List.getElem_cons_succ, Act.put, List.setIfInBounds_toArray, List.set_cons_zero, List.set_cons_succ]
  refine wpAnyH_take (i := 1) (v := ?_) rfl (by kernel_rfl) (by kernel_rfl) (by kernel_rfl) (fun _ _ _ h => h) (Or.inl ⟨by kernel_rfl, ?_⟩) (by assumption) ?_
  rotate_left
  · intro Wt hSt
    go_simp
    try with_reducible rfl
  try simp only [List.getElem_toArray, List.getElem_cons_zero, List.getElem_cons_succ, Act.put, List.setIfInBounds_toArray, List.set_cons_zero, List.set_cons_succ]
  refine wpAnyH_take (i := 2) (v := ?_) rfl (by kernel_rfl) (by kernel_rfl) (by kernel_rfl) (fun _ _ _ h => h) (Or.inl ⟨by kernel_rfl, ?_⟩) (by assumption) ?_
  rotate_left
  · intro Wt hSt
    go_simp
    try with_reducible rfl
  try simp only [List.getElem_toArray, List.getElem_cons_zero, List.getElem_cons_succ, Act.put, List.setIfInBounds_toArray, List.set_cons_zero, List.set_cons_succ]
  refine wpAnyH_take (i := 3) (v := ?_) rfl (by kernel_rfl) (by kernel_rfl) (by kernel_rfl) (fun _ _ _ h => h) (Or.inl ⟨by kernel_rfl, ?_⟩) (by assumption) ?_
  rotate_left
  · intro Wt hSt
    go_simp
    try with_reducible rfl
  try simp only [List.getElem_toArray, List.getElem_cons_zero, List.getElem_cons_succ, Act.put, List.setIfInBounds_toArray, List.set_cons_zero, List.set_cons_succ]
  refine wpAnyH_take (i := 4) (v := ?_) rfl (by kernel_rfl) (by kernel_rfl) (by kernel_rfl) (fun _ _ _ h => h) (Or.inl ⟨by kernel_rfl, ?_⟩) (by assumption) ?_
  rotate_left
  · intro Wt hSt
    go_simp
    try with_reducible rfl
  try simp only [List.getElem_toArray, List.getElem_cons_zero, List.getElem_cons_succ, Act.put, List.setIfInBounds_toArray, List.set_cons_zero, List.set_cons_succ]
  refine wpAnyH_take (i := 5) (v := ?_) rfl (by kernel_rfl) (by kernel_rfl) (by kernel_rfl) (fun _ _ _ h => h) (Or.inl ⟨by kernel_rfl, ?_⟩) (by assumption) ?_
  rotate_left
  · intro Wt hSt
    go_simp
    try with_reducible rfl
  try simp only [List.getElem_toArray, List.getElem_cons_zero, List.getElem_cons_succ, Act.put, List.setIfInBounds_toArray, List.set_cons_zero, List.set_cons_succ]
  refine wpAnyH_take (i := 6) (v := ?_) rfl (by kernel_rfl) (by kernel_rfl) (by kernel_rfl) (fun _ _ _ h => h) (Or.inl ⟨by kernel_rfl, ?_⟩) (by assumption) ?_
  rotate_left
  · intro Wt hSt
    go_simp
    try with_reducible rfl
  try simp only [List.getElem_toArray, List.getElem_cons_zero, List.getElem_cons_succ, Act.put, List.setIfInBounds_toArray, List.set_cons_zero, List.set_cons_succ]
  refine wpAnyH_take (i := 7) (v := ?_) rfl (by kernel_rfl) (by kernel_rfl) (by kernel_rfl) (fun _ _ _ h => h) (Or.inl ⟨by kernel_rfl, ?_⟩) (by assumption) ?_
  rotate_left
  · intro Wt hSt
    go_simp
    try with_reducible rfl
  try simp only [List.getElem_toArray, List.getElem_cons_zero, List.getElem_cons_succ, Act.put, List.setIfInBounds_toArray, List.set_cons_zero, List.set_cons_succ]
  refine wpAnyH_take (i := 8) (v := ?_) rfl (by kernel_rfl) (by kernel_rfl) (by kernel_rfl) (fun _ _ _ h => h) (Or.inl ⟨by kernel_rfl, ?_⟩) (by assumption) ?_
  rotate_left
  · intro Wt hSt
    go_simp
    try with_reducible rfl
  try simp only [List.getElem_toArray, List.getElem_cons_zero, List.getElem_cons_succ, Act.put, List.setIfInBounds_toArray, List.set_cons_zero, List.set_cons_succ]
  refine wpAnyH_take (i := 9) (v := ?_) rfl (by kernel_rfl) (by kernel_rfl) (by kernel_rfl) (fun _ _ _ h => h) (Or.inl ⟨by kernel_rfl, ?_⟩) (by assumption) ?_
  rotate_left
  · intro Wt hSt
    go_simp
    try with_reducible rfl
  try simp only [List.getElem_toArray, List.getElem_cons_zero, List.getElem_cons_succ, Act.put, List.setIfInBounds_toArray, List.set_cons_zero, List.set_cons_succ]
  refine wpAnyH_take (i := 10) (v := ?_) rfl (by kernel_rfl) (by kernel_rfl) (by kernel_rfl) (fun _ _ _ h => h) (Or.inl ⟨by kernel_rfl, ?_⟩) (by assumption) ?_
  rotate_left
  · intro Wt hSt
    go_simp
    try with_reducible rfl
  try simp only [List.getElem_toArray, List.getElem_cons_zero, List.getElem_cons_succ, Act.put, List.setIfInBounds_toArray, List.set_cons_zero, List.set_cons_succ]
  refine wpAnyH_take (i := 11) (v := ?_) rfl (by kernel_rfl) (by kernel_rfl) (by kernel_rfl) (fun _ _ _ h => h) (Or.inl ⟨by kernel_rfl, ?_⟩) (by assumption) ?_
  rotate_left
  · intro Wt hSt
    go_simp
    try with_reducible rfl
  try simp only [List.getElem_toArray, List.getElem_cons_zero, List.getElem_cons_succ, Act.put, List.setIfInBounds_toArray, List.set_cons_zero, List.set_cons_succ]
  refine wpAnyH_take (i := 12) (v := ?_) rfl (by kernel_rfl) (by kernel_rfl) (by kernel_rfl) (fun _ _ _ h => h) (Or.inl ⟨by kernel_rfl, ?_⟩) (by assumption) ?_
  rotate_left
  · intro Wt hSt
    go_simp
    try with_reducible rfl
  try simp only [List.getElem_toArray, List.getElem_cons_zero, List.getElem_cons_succ, Act.put, List.setIfInBounds_toArray, List.set_cons_zero, List.set_cons_succ]
  refine wpAnyH_take (i := 13) (v := ?_) rfl (by kernel_rfl) (by kernel_rfl) (by kernel_rfl) (fun _ _ _ h => h) (Or.inl ⟨by kernel_rfl, ?_⟩) (by assumption) ?_
  rotate_left
  · intro Wt hSt
    go_simp
    try with_reducible rfl
  try simp only [List.getElem_toArray, List.getElem_cons_zero, List.getElem_cons_succ, Act.put, List.setIfInBounds_toArray, List.set_cons_zero, List.set_cons_succ]
  refine wpAnyH_take (i := 14) (v := ?_) rfl (by kernel_rfl) (by kernel_rfl) (by kernel_rfl) (fun _ _ _ h => h) (Or.inl ⟨by kernel_rfl, ?_⟩) (by assumption) ?_
  rotate_left
  · intro Wt hSt
    go_simp
    try with_reducible rfl
  try simp only [List.getElem_toArray, List.getElem_cons_zero, List.getElem_cons_succ, Act.put, List.setIfInBounds_toArray, List.set_cons_zero, List.set_cons_succ]
  refine wpAnyH_take (i := 15) (v := ?_) rfl (by kernel_rfl) (by kernel_rfl) (by kernel_rfl) (fun _ _ _ h => h) (Or.inl ⟨by kernel_rfl, ?_⟩) (by assumption) ?_
  rotate_left
  · intro Wt hSt
    go_simp
    try with_reducible rfl
  try simp only [List.getElem_toArray, List.getElem_cons_zero, List.getElem_cons_succ, Act.put, List.setIfInBounds_toArray, List.set_cons_zero, List.set_cons_succ]
  refine wpAnyH_take (i := 16) (v := ?_) rfl (by kernel_rfl) (by kernel_rfl) (by kernel_rfl) (fun _ _ _ h => h) (Or.inl ⟨by kernel_rfl, ?_⟩) (by assumption) ?_
  rotate_left
  · intro Wt hSt
    go_simp
    try with_reducible rfl
  try simp only [List.getElem_toArray, List.getElem_cons_zero, List.getElem_cons_succ, Act.put, List.setIfInBounds_toArray, List.set_cons_zero, List.set_cons_succ]
  refine wpAnyH_take (i := 17) (v := ?_) rfl (by kernel_rfl) (by kernel_rfl) (by kernel_rfl) (fun _ _ _ h => h) (Or.inl ⟨by kernel_rfl, ?_⟩) (by assumption) ?_
  rotate_left
  · intro Wt hSt
    go_simp
    try with_reducible rfl
  try simp only [List.getElem_toArray, List.getElem_cons_zero, List.getElem_cons_succ, Act.put, List.setIfInBounds_toArray, List.set_cons_zero, List.set_cons_succ]
  refine wpAnyH_take (i := 18) (v := .agg cc) rfl (by kernel_rfl) (by kernel_rfl) (by kernel_rfl) (fun _ _ _ h => h) (by rw [unhide HCC]; exact yieldsIf_load_mid (by kernel_rfl) 24 (.tmp 9) rfl V5.heap.size 0 rfl (DC.map (Value.int .u8)) _ (fun W hS => ((unhide HVW).keep hS).range) Tryd.underlying24 rfl (by rw [List.length_map, (unhide HGC).len]; exact info32)) (by assumption) ?_
  try simp only [List.getElem_toArray, List.getElem_cons_zero, List.getElem_cons_succ, Act.put, List.setIfInBounds_toArray, List.set_cons_zero, List.set_cons_succ]
  refine wpAnyH_take (i := 19) (v := .agg co) rfl (by kernel_rfl) (by kernel_rfl) (by kernel_rfl) (fun _ _ _ h => h) (by rw [unhide HCO]; exact yieldsIf_build1 (by kernel_rfl) 24 0 (.const (.int .u8 1)) rfl (.int .u8 1) (dv oneD) rfl build_one) (by assumption) ?_
  try simp only [List.getElem_toArray, List.getElem_cons_zero, List.getElem_cons_succ, Act.put, List.setIfInBounds_toArray, List.set_cons_zero, List.set_cons_succ]
  refine wpAnyH_one 20 _ rfl (by kernel_rfl) (by kernel_rfl) ?_
  intro K hK
  go_simp
  rw [overwritten hso (by rfl)]
  generalize hY1 : W.alloc _ = Y1
  have hBY1 : Below W.heap.size W Y1 := hY1 ▸ (Below.refl _ _).alloc (Nat.le_refl _) _
  have hoY : ByAt Y1 W.heap.size 24 oneD := boxed W Y1 oneD _ (by rw [← hY1, unhide HCO]; rfl)
  have hDY : Ds Y1 (some ⟨W.heap.size, 0, none⟩) [oneD] := ⟨fun d hd => by rw [List.mem_singleton.1 hd]; exact dg_one, fun _ => ⟨_, 0, rfl, fun i d hd => by
    match i, hd with
    | 0, hd => injection hd with hd; subst hd; exact hoY.range⟩⟩
  clear hY1 hoY
  refine hK _ _ hBY1 ?_
  clear hK K
  try simp only [List.getElem_toArray, List.getElem_cons_zero, List.getElem_cons_succ, Act.put, List.setIfInBounds_toArray, List.set_cons_zero, List.set_cons_succ]
  refine wpAnyH_one 21 _ rfl (by kernel_rfl) (by kernel_rfl) ?_
  intro K hK
  go_simp
  have htr := Tree_any Y1 1 (some ⟨W.heap.size, 0, none⟩) [oneD] hDY (Nat.le_refl _) (by decide) ((unhide HT).keep (thenB (unhide HBW) hBY1))
  rw [show treeD [oneD] = DC by rw [treeD, if_neg (by simp), treeP_one, unhide HDC], show dv DC = .agg cc by rw [unhide HCC]] at htr
  refine htr.mono ?_; rintro x Y2 ⟨rfl, hY2⟩
  have hBY2 := thenB hBY1 hY2
  clear htr hDY hY2 hBY1
  dsimp only
  refine hK _ _ hBY2 ?_
  clear hK K
  try simp only [List.getElem_toArray, List.getElem_cons_zero, List.getElem_cons_succ, Act.put, List.setIfInBounds_toArray, List.set_cons_zero, List.set_cons_succ]
  refine wpAnyH_one 22 _ rfl (by kernel_rfl) (by kernel_rfl) ?_
  intro K hK
  refine wp_eql (.tmp 92) (.tmp 95) _ rfl DC DC (show Value.agg cc = _ by rw [unhide HCC]) (show Value.agg cc = _ by rw [unhide HCC]) (unhide HGC).len (unhide HGC).len ?_
  rw [show decide (DC = DC) = true from decide_eq_true rfl]
  refine hK _ _ hBY2 ?_
  clear hK K
  try simp only [List.getElem_toArray, List.getElem_cons_zero, List.getElem_cons_succ, Act.put, List.setIfInBounds_toArray, List.set_cons_zero, List.set_cons_succ]
  refine wpAnyH_take (i := 23) (v := ?_) rfl (by kernel_rfl) (by kernel_rfl) (by kernel_rfl) (fun _ _ _ h => h) (Or.inl ⟨by kernel_rfl, ?_⟩) (by assumption) ?_
  rotate_left
  · intro Wt hSt
    go_simp
    try with_reducible rfl
  try simp only [List.getElem_toArray, List.getElem_cons_zero, List.getElem_cons_succ, Act.put, List.setIfInBounds_toArray, List.set_cons_zero, List.set_cons_succ]
  refine wpAnyH_take (i := 24) (v := ?_) rfl (by kernel_rfl) (by kernel_rfl) (by kernel_rfl) (fun _ _ _ h => h) (Or.inl ⟨by kernel_rfl, ?_⟩) (by assumption) ?_
  rotate_left
  · intro Wt hSt
    go_simp
    try with_reducible rfl
  try simp only [List.getElem_toArray, List.getElem_cons_zero, List.getElem_cons_succ, Act.put, List.setIfInBounds_toArray, List.set_cons_zero, List.set_cons_succ]
  refine wpAnyH_take (i := 25) (v := .agg ca) rfl (by kernel_rfl) (by kernel_rfl) (by kernel_rfl) (fun _ _ _ h => h) (by rw [unhide HCA]; exact yieldsIf_load_mid (by kernel_rfl) 24 (.tmp 1) rfl W3.heap.size 0 rfl (DA.map (Value.int .u8)) _ (fun W hS => ((unhide HAW).keep hS).range) Tryd.underlying24 rfl (by rw [List.length_map, (unhide HGA).len]; exact info32)) (by assumption) ?_
  try simp only [List.getElem_toArray, List.getElem_cons_zero, List.getElem_cons_succ, Act.put, List.setIfInBounds_toArray, List.set_cons_zero, List.set_cons_succ]
  refine wpAnyH_take (i := 26) (v := .agg ca) rfl (by kernel_rfl) (by kernel_rfl) (by kernel_rfl) (fun _ _ _ h => h) (by rw [unhide HCA]; exact yieldsIf_load_mid (by kernel_rfl) 24 (.tmp 1) rfl W3.heap.size 0 rfl (DA.map (Value.int .u8)) _ (fun W hS => ((unhide HAW).keep hS).range) Tryd.underlying24 rfl (by rw [List.length_map, (unhide HGA).len]; exact info32)) (by assumption) ?_
  try simp only [List.getElem_toArray, List.getElem_cons_zero, List.getElem_cons_succ, Act.put, List.setIfInBounds_toArray, List.set_cons_zero, List.set_cons_succ]
  refine wpAnyH_one 27 _ rfl (by kernel_rfl) (by kernel_rfl) ?_
  intro K hK
  go_simp
  have hg1 := Grew_one DA DA (unhide HGA) (unhide HGA) Y2 ((unhide HT).keep (thenB (unhide HBW) hBY2))
  rw [show decide (DA = DA) = true from decide_eq_true rfl, show dv DA = .agg ca by rw [unhide HCA]] at hg1
  refine hg1.mono ?_; rintro x Y3 ⟨rfl, hY3⟩
  have hBY3 := thenB hBY2 hY3
  clear hg1 hY3 hBY2
  dsimp only
  refine hK _ _ hBY3 ?_
  clear hK K
  try simp only [List.getElem_toArray, List.getElem_cons_zero, List.getElem_cons_succ, Act.put, List.setIfInBounds_toArray, List.set_cons_zero, List.set_cons_succ]
  refine wpAnyH_take (i := 28) (v := ?_) rfl (by kernel_rfl) (by kernel_rfl) (by kernel_rfl) (fun _ _ _ h => h) (Or.inl ⟨by kernel_rfl, ?_⟩) (by assumption) ?_
  rotate_left
  · intro Wt hSt
    go_simp
    try with_reducible rfl
  try simp only [List.getElem_toArray, List.getElem_cons_zero, List.getElem_cons_succ, Act.put, List.setIfInBounds_toArray, List.set_cons_zero, List.set_cons_succ]
  refine wpAnyH_take (i := 29) (v := ?_) rfl (by kernel_rfl) (by kernel_rfl) (by kernel_rfl) (fun _ _ _ h => h) (Or.inl ⟨by kernel_rfl, ?_⟩) (by assumption) ?_
  rotate_left
  · intro Wt hSt
    go_simp
    try with_reducible rfl
  try simp only [List.getElem_toArray, List.getElem_cons_zero, List.getElem_cons_succ, Act.put, List.setIfInBounds_toArray, List.set_cons_zero, List.set_cons_succ]
  refine wpAnyH_take (i := 30) (v := .agg ca) rfl (by kernel_rfl) (by kernel_rfl) (by kernel_rfl) (fun _ _ _ h => h) (by rw [unhide HCA]; exact yieldsIf_load_mid (by kernel_rfl) 24 (.tmp 1) rfl W3.heap.size 0 rfl (DA.map (Value.int .u8)) _ (fun W hS => ((unhide HAW).keep hS).range) Tryd.underlying24 rfl (by rw [List.length_map, (unhide HGA).len]; exact info32)) (by assumption) ?_
  try simp only [List.getElem_toArray, List.getElem_cons_zero, List.getElem_cons_succ, Act.put, List.setIfInBounds_toArray, List.set_cons_zero, List.set_cons_succ]
  refine wpAnyH_take (i := 31) (v := .agg cb) rfl (by kernel_rfl) (by kernel_rfl) (by kernel_rfl) (fun _ _ _ h => h) (by rw [unhide HCB]; exact yieldsIf_load_mid (by kernel_rfl) 24 (.tmp 2) rfl (W3.heap.size + 1) 0 rfl (DB.map (Value.int .u8)) _ (fun W hS => ((unhide HWW).keep hS).range) Tryd.underlying24 rfl (by rw [List.length_map, (unhide HGB).len]; exact info32)) (by assumption) ?_
  try simp only [List.getElem_toArray, List.getElem_cons_zero, List.getElem_cons_succ, Act.put, List.setIfInBounds_toArray, List.set_cons_zero, List.set_cons_succ]
  refine wpAnyH_one 32 _ rfl (by kernel_rfl) (by kernel_rfl) ?_
  intro K hK
  go_simp
  have hg2 := Grew_one DA DB (unhide HGA) (unhide HGB) Y3 ((unhide HT).keep (thenB (unhide HBW) hBY3))
  rw [show decide (DA = DB) = false by rw [unhide HDA, unhide HDB, hash_abc, hash_nil]; decide, show dv DA = .agg ca by rw [unhide HCA], show dv DB = .agg cb by rw [unhide HCB]] at hg2
  refine hg2.mono ?_; rintro x Y4 ⟨rfl, hY4⟩
  have hBY4 := thenB hBY3 hY4
  clear hg2 hY4 hBY3
  dsimp only
  refine hK _ _ hBY4 ?_
  clear hK K
  try simp only [List.getElem_toArray, List.getElem_cons_zero, List.getElem_cons_succ, Act.put, List.setIfInBounds_toArray, List.set_cons_zero, List.set_cons_succ]
  refine wpAnyH_take (i := 33) (v := ?_) rfl (by kernel_rfl) (by kernel_rfl) (by kernel_rfl) (fun _ _ _ h => h) (Or.inl ⟨by kernel_rfl, ?_⟩) (by assumption) ?_
  rotate_left
  · intro Wt hSt
    go_simp
    try with_reducible rfl
  try simp only [List.getElem_toArray, List.getElem_cons_zero, List.getElem_cons_succ, Act.put, List.setIfInBounds_toArray, List.set_cons_zero, List.set_cons_succ]
  refine wpAnyH_take (i := 34) (v := ?_) rfl (by kernel_rfl) (by kernel_rfl) (by kernel_rfl) (fun _ _ _ h => h) (Or.inl ⟨by kernel_rfl, ?_⟩) (by assumption) ?_
  rotate_left
  · intro Wt hSt
    go_simp
    try with_reducible rfl
  try simp only [List.getElem_toArray, List.getElem_cons_zero, List.getElem_cons_succ, Act.put, List.setIfInBounds_toArray, List.set_cons_zero, List.set_cons_succ]
  refine wpAnyH_chainOf [35] _ _ _ (by kernel_rfl) (by kernel_rfl) ?_
  simp only [List.filterMap_cons, List.filterMap_nil, List.getElem?_toArray, List.getElem?_cons_zero, List.getElem?_cons_succ]
  refine wpChain_step rfl fun K hK => ?_
  go_simp
  refine hK _ _ hBY4 (wpChain_nil ?_)
  clear hK K
  have HEND := hide (thenB (unhide HBW) hBY4)
  clear hBY4 hSW
  go_wp2_with fail
  go_ret
  exact ⟨rfl, unhide HEND⟩
end Go.Proofs.YtceppmajbkmbdaaDoor
