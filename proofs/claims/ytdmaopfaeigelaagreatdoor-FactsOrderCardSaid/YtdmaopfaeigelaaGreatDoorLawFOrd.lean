/- FactsOrder: the walk. -/
import Derived.Test.YtdmaopfaeigelaaGreatDoorFacOR
import Derived.Test.YtdmaopfaeigelaaGreatDoorFacFew
import Derived.Test.YtdmaopfaeigelaaGreatDoorFacSAD
import Derived.Test.YtdmaopfaeigelaaGreatDoorFacM
namespace Go.Proofs.YtdmaopfaeigelaaGreatDoor
set_option linter.unusedSimpArgs false
set_option linter.unusedVariables false
set_option maxRecDepth 100000
open Go.RowKit
open List renaming getElem_toArray → lx0, getElem_cons_zero → lx1, getElem_cons_succ → lx2, setIfInBounds_toArray → lx3, set_cons_zero → lx4, set_cons_succ → lx5

theorem wpList_off {P : Program} {ops : Array Oper} {rest : List Oper} {o : Oper} {a : Act} {w : World} {Q : Exit → Act → World → Prop} (hw : Region.wanted o (yielded ops a.tmps) = false) (h : wpList P ops Q rest (a.put o.dst undef) w) : wpList P ops Q (o :: rest) a w := by
  unfold wpList
  rw [if_neg (by rw [hw]; simp)]
  exact h
abbrev CChk (w : World) (cs : List Value) (ok : Bool) : Prop := ∀ W, Below w.heap.size w W → Calls Tryz.prog 13 #[.agg cs.toArray] W fun x w' => x = .returned (.int .i64 (if ok then 0 else 70)) ∧ Below W.heap.size W w'
abbrev CCmp (w : World) (cs ds : List Value) (z : Int) : Prop := ∀ W, Below w.heap.size w W → Calls Tryz.prog 24 #[.agg cs.toArray, .agg ds.toArray] W fun x w' => x = .returned (.int .i64 z) ∧ Below W.heap.size W w'
set_option maxHeartbeats 16000000 in
theorem order_core (cs ds es : List Value) (sm oa ob oc z : Bool) (ka kb da db x1 x2 x3 x4 : Int) (w : World) (hlc : cs.length = 82) (hld : ds.length = 82) (hle : es.length = 82)
    (hk1 : cs[2]? = some (.int .i64 ka)) (hk2 : ds[2]? = some (.int .i64 kb)) (hd1 : cs[1]? = some (.int .i64 da)) (hd2 : ds[1]? = some (.int .i64 db))
    (hsane : ∀ W, Below w.heap.size w W → Calls Tryz.prog 11 #[] W fun x w' => x = .returned (.bool true) ∧ Below W.heap.size W w')
    (hfew : ∀ W bb, VsAt W bb 45 (cs ++ (ds ++ (es ++ []))) → Calls Tryz.prog 12 #[.slice (some ⟨bb, 0, none⟩) 3 3] W fun x w' => x = .returned (.bool sm) ∧ Below W.heap.size W w')
    (hca : sm = true → CChk w cs oa) (hcb : sm = true → CChk w ds ob) (hcc : sm = true → CChk w es oc)
    (hsame : sm = true → ∀ W, Below w.heap.size w W → Calls Tryz.prog 26 #[.agg cs.toArray, .agg ds.toArray] W fun x w' => x = .returned (.bool z) ∧ Below W.heap.size W w')
    (h12 : sm = true → CCmp w cs ds x1) (h21 : sm = true → CCmp w ds cs x2) (h23 : sm = true → CCmp w ds es x3) (h13 : sm = true → CCmp w cs es x4)
    (m1 : sm = true → oa = true → ob = true → oc = true → IntKind.i64.wrap (-x2) = x1) (m2 : sm = true → oa = true → ob = true → oc = true → (x1 == 0) = z) (m3 : ka < kb → x1 = -1) (m4 : ka = kb → da < db → x1 = -1)
    (m5 : x1 > 0 ∨ x3 > 0 ∨ x4 ≤ 0) :
    Calls Tryz.prog 8 #[.agg cs.toArray, .agg ds.toArray, .agg es.toArray] w (LawOk w) := by
  have H_hlc := hide hlc
  have H_hld := hide hld
  have H_hle := hide hle
  have H_hk1 := hide hk1
  have H_hk2 := hide hk2
  have H_hd1 := hide hd1
  have H_hd2 := hide hd2
  have H_hsane := hide hsane
  have H_hfew := hide hfew
  have H_hca := hide hca
  have H_hcb := hide hcb
  have H_hcc := hide hcc
  have H_hsame := hide hsame
  have H_h12 := hide h12
  have H_h21 := hide h21
  have H_h23 := hide h23
  have H_h13 := hide h13
  have H_m1 := hide m1
  have H_m2 := hide m2
  have H_m3 := hide m3
  have H_m4 := hide m4
  have H_m5 := hide m5
  clear hlc hld hle hk1 hk2 hd1 hd2 hsane hfew hca hcb hcc hsame h12 h21 h23 h13 m1 m2 m3 m4 m5
  go_enter Tryz.func8, Tryz.ntmps8
  go_upto_region 1 with fail
  generalize hX1 : w.alloc _ = W1
  have hB1 : Below w.heap.size w W1 := hX1 ▸ (Below.refl _ _).alloc (Nat.le_refl _) _
  have hV1 := boxedV w W1 cs 45 (by rw [← hX1]; rfl)
  have hz1 : W1.heap.size = w.heap.size + 1 := by rw [← hX1]; show (w.heap.push _).size = _; rw [Array.size_push]
  clear hX1
  generalize hX2 : W1.alloc _ = W2
  have hB2 : Below W1.heap.size W1 W2 := hX2 ▸ (Below.refl _ _).alloc (Nat.le_refl _) _
  have hV2 := boxedV W1 W2 ds 45 (by rw [← hX2]; rfl)
  have hz2 : W2.heap.size = w.heap.size + 2 := by rw [← hX2]; show (W1.heap.push _).size = _; rw [Array.size_push, hz1]
  rw [hz1] at hV2
  clear hX2
  generalize hX3 : W2.alloc _ = W3
  have hB3 : Below W2.heap.size W2 W3 := hX3 ▸ (Below.refl _ _).alloc (Nat.le_refl _) _
  have hV3 := boxedV W2 W3 es 45 (by rw [← hX3]; rfl)
  rw [hz2] at hV3
  have HB := hide (thenB (thenB hB1 hB2) hB3); have HV1 := hide ((hV1.keep hB2).keep hB3); have HV2 := hide (hV2.keep hB3); have HV3 := hide hV3
  clear hX3 hB3 hV3 hz2 hB2 hV2 hz1 hV1 hB1
  go_wp2_with fail
  refine ((unhide H_hsane) W3 (unhide HB)).mono ?_; rintro e W4 ⟨rfl, hG⟩
  have HB := hide (thenB (unhide HB) hG); have HV1 := hide ((unhide HV1).keep hG); have HV2 := hide ((unhide HV2).keep hG); have HV3 := hide ((unhide HV3).keep hG)
  clear hG
  go_upto_region 3 with fail
  refine wp_region_lit ?_
  refine wpList_vload rfl 45 (.tmp 3) rfl w.heap.size 0 rfl _ Tryz.underlying45 rfl cs (by rw [unhide H_hlc]; exact infoFc) (unhide HV1).range ?_
  try simp only [lx0, lx1, lx2, Act.put, lx3, lx4, lx5]
  refine wpList_vload rfl 45 (.tmp 4) rfl (w.heap.size + 1) 0 rfl _ Tryz.underlying45 rfl ds (by rw [unhide H_hld]; exact infoFc) (unhide HV2).range ?_
  try simp only [lx0, lx1, lx2, Act.put, lx3, lx4, lx5]
  refine wpList_vload rfl 45 (.tmp 5) rfl (w.heap.size + 2) 0 rfl _ Tryz.underlying45 rfl es (by rw [unhide H_hle]; exact infoFc) (unhide HV3).range ?_
  try simp only [lx0, lx1, lx2, Act.put, lx3, lx4, lx5]
  refine wpList_buildRow rfl 78 45 3 _ rfl [.agg cs.toArray, .agg ds.toArray, .agg es.toArray] 82 (by decide) Tryz.underlying78 infoFc (by kernel_rfl) rfl (by decide) (by decide) (by rw [Array.toList_map]; rfl) (by intro v hv; simp at hv; rcases hv with rfl | rfl | rfl <;> simp [Value.cells, unhide H_hlc, unhide H_hld, unhide H_hle]) ?_
  try simp only [lx0, lx1, lx2, Act.put, lx3, lx4, lx5]
  generalize hXr : W4.alloc _ = W5
  have hG : Below W4.heap.size W4 W5 := hXr ▸ (Below.refl _ _).alloc (Nat.le_refl _) _
  have hvr := boxedV W4 W5 (cs ++ (ds ++ (es ++ []))) 45 (by rw [← hXr]; show W4.heap.push _ = _; simp [Value.cells])
  have HFW := hide ((unhide H_hfew) W5 W4.heap.size hvr)
  clear hXr hvr H_hfew H_hsane
  have HB := hide (thenB (unhide HB) hG); have HV1 := hide ((unhide HV1).keep hG); have HV2 := hide ((unhide HV2).keep hG); have HV3 := hide ((unhide HV3).keep hG)
  clear hG
  refine wpList_wanted (by kernel_rfl) fun Kt hKt => ?_
  go_simp
  refine (unhide HFW).mono ?_; rintro x W6 ⟨rfl, hG⟩
  dsimp only
  refine hKt _ _ ?_
  clear hKt Kt
  try simp only [lx0, lx1, lx2, Act.put, lx3, lx4, lx5]
  have HB := hide (thenB (unhide HB) hG); have HV1 := hide ((unhide HV1).keep hG); have HV2 := hide ((unhide HV2).keep hG); have HV3 := hide ((unhide HV3).keep hG)
  clear hG
  clear HFW
  cases sm
  case false =>
    go_wp2_with fail
    go_ret
    exact ⟨rfl, unhide HB⟩
  refine wpList_plain rfl fun Kt hKt => ?_
  go_simp
  refine hKt _ _ ?_
  clear hKt Kt
  try simp only [lx0, lx1, lx2, Act.put, lx3, lx4, lx5]
  refine wpList_plain rfl fun Kt hKt => ?_
  go_simp
  refine hKt _ _ ?_
  clear hKt Kt
  try simp only [lx0, lx1, lx2, Act.put, lx3, lx4, lx5]
  refine wpList_vgload (by kernel_rfl) 45 (.tmp 3) rfl w.heap.size 0 rfl _ Tryz.underlying45 rfl cs (by rw [unhide H_hlc]; exact infoFc) (unhide HV1).range ?_
  try simp only [lx0, lx1, lx2, Act.put, lx3, lx4, lx5]
  refine wpList_wanted (by kernel_rfl) fun Kt hKt => ?_
  go_simp
  refine ((unhide H_hca) rfl W6 (unhide HB)).mono ?_; rintro x W7 ⟨rfl, hG⟩
  dsimp only
  refine hKt _ _ ?_
  clear hKt Kt
  try simp only [lx0, lx1, lx2, Act.put, lx3, lx4, lx5]
  have HB := hide (thenB (unhide HB) hG); have HV1 := hide ((unhide HV1).keep hG); have HV2 := hide ((unhide HV2).keep hG); have HV3 := hide ((unhide HV3).keep hG)
  clear hG
  cases oa
  case false =>
    go_wp2_with fail
    go_ret
    exact ⟨rfl, unhide HB⟩
  refine wpList_wanted (by kernel_rfl) fun Kt hKt => ?_
  go_simp
  refine hKt _ _ ?_
  clear hKt Kt
  try simp only [lx0, lx1, lx2, Act.put, lx3, lx4, lx5]
  refine wpList_plain rfl fun Kt hKt => ?_
  go_simp
  refine hKt _ _ ?_
  clear hKt Kt
  try simp only [lx0, lx1, lx2, Act.put, lx3, lx4, lx5]
  refine wpList_plain rfl fun Kt hKt => ?_
  go_simp
  refine hKt _ _ ?_
  clear hKt Kt
  try simp only [lx0, lx1, lx2, Act.put, lx3, lx4, lx5]
  refine wpList_vgload (by kernel_rfl) 45 (.tmp 4) rfl (w.heap.size + 1) 0 rfl _ Tryz.underlying45 rfl ds (by rw [unhide H_hld]; exact infoFc) (unhide HV2).range ?_
  try simp only [lx0, lx1, lx2, Act.put, lx3, lx4, lx5]
  refine wpList_wanted (by kernel_rfl) fun Kt hKt => ?_
  go_simp
  refine ((unhide H_hcb) rfl W7 (unhide HB)).mono ?_; rintro x W8 ⟨rfl, hG⟩
  dsimp only
  refine hKt _ _ ?_
  clear hKt Kt
  try simp only [lx0, lx1, lx2, Act.put, lx3, lx4, lx5]
  have HB := hide (thenB (unhide HB) hG); have HV1 := hide ((unhide HV1).keep hG); have HV2 := hide ((unhide HV2).keep hG); have HV3 := hide ((unhide HV3).keep hG)
  clear hG
  cases ob
  case false =>
    go_wp2_with fail
    go_ret
    exact ⟨rfl, unhide HB⟩
  refine wpList_wanted (by kernel_rfl) fun Kt hKt => ?_
  go_simp
  refine hKt _ _ ?_
  clear hKt Kt
  try simp only [lx0, lx1, lx2, Act.put, lx3, lx4, lx5]
  refine wpList_plain rfl fun Kt hKt => ?_
  go_simp
  refine hKt _ _ ?_
  clear hKt Kt
  try simp only [lx0, lx1, lx2, Act.put, lx3, lx4, lx5]
  refine wpList_plain rfl fun Kt hKt => ?_
  go_simp
  refine hKt _ _ ?_
  clear hKt Kt
  try simp only [lx0, lx1, lx2, Act.put, lx3, lx4, lx5]
  refine wpList_vgload (by kernel_rfl) 45 (.tmp 5) rfl (w.heap.size + 2) 0 rfl _ Tryz.underlying45 rfl es (by rw [unhide H_hle]; exact infoFc) (unhide HV3).range ?_
  try simp only [lx0, lx1, lx2, Act.put, lx3, lx4, lx5]
  refine wpList_wanted (by kernel_rfl) fun Kt hKt => ?_
  go_simp
  refine ((unhide H_hcc) rfl W8 (unhide HB)).mono ?_; rintro x W9 ⟨rfl, hG⟩
  dsimp only
  refine hKt _ _ ?_
  clear hKt Kt
  try simp only [lx0, lx1, lx2, Act.put, lx3, lx4, lx5]
  have HB := hide (thenB (unhide HB) hG); have HV1 := hide ((unhide HV1).keep hG); have HV2 := hide ((unhide HV2).keep hG); have HV3 := hide ((unhide HV3).keep hG)
  clear hG
  cases oc
  case false =>
    go_wp2_with fail
    go_ret
    exact ⟨rfl, unhide HB⟩
  refine wpList_wanted (by kernel_rfl) fun Kt hKt => ?_
  go_simp
  refine hKt _ _ ?_
  clear hKt Kt
  try simp only [lx0, lx1, lx2, Act.put, lx3, lx4, lx5]
  refine wpList_plain rfl fun Kt hKt => ?_
  go_simp
  refine hKt _ _ ?_
  clear hKt Kt
  try simp only [lx0, lx1, lx2, Act.put, lx3, lx4, lx5]
  refine wpList_nil ?_
  go_upto_region 5 with fail
  have hm1 := (unhide H_m1) rfl rfl rfl rfl
  have hm2 := (unhide H_m2) rfl rfl rfl rfl
  obtain ⟨V, hV⟩ : ∃ V, V = W9.drewN 1 := ⟨_, rfl⟩
  have HVV : Hid (V = W9.drewN 1) := hV
  have hG : Below W9.heap.size W9 V := below_named HVV
  have hS : VsAt V w.heap.size 45 cs ∧ VsAt V (w.heap.size + 1) 45 ds ∧ VsAt V (w.heap.size + 2) 45 es := ⟨(unhide HV1).keep hG, (unhide HV2).keep hG, (unhide HV3).keep hG⟩
  have HB := hide (thenB (unhide HB) hG)
  clear hG hV HV1 HV2 HV3
  refine held (S := fun V => VsAt V w.heap.size 45 cs ∧ VsAt V (w.heap.size + 1) 45 ds ∧ VsAt V (w.heap.size + 2) 45 es) V HVV (by kernel_rfl) ?_
  refine wpAnyH_take (i := 0) (v := .agg cs.toArray) rfl (by kernel_rfl) (by kernel_rfl) (by kernel_rfl) (fun _ _ _ h => h) (Or.inl ⟨by kernel_rfl, ?_⟩) (by assumption) ?_
  · intro Wt hSt
    exact run_load_op 45 (.tmp 3) rfl w.heap.size 0 rfl cs _ hSt.1.range Tryz.underlying45 rfl (by rw [unhide H_hlc]; exact infoFc)
  try simp only [lx0, lx1, lx2, Act.put, lx3, lx4, lx5]
  refine wpAnyH_take (i := 1) (v := .agg ds.toArray) rfl (by kernel_rfl) (by kernel_rfl) (by kernel_rfl) (fun _ _ _ h => h) (Or.inl ⟨by kernel_rfl, ?_⟩) (by assumption) ?_
  · intro Wt hSt
    exact run_load_op 45 (.tmp 4) rfl (w.heap.size + 1) 0 rfl ds _ hSt.2.1.range Tryz.underlying45 rfl (by rw [unhide H_hld]; exact infoFc)
  try simp only [lx0, lx1, lx2, Act.put, lx3, lx4, lx5]
  refine wpAnyH_take (i := 3) (v := .agg ds.toArray) rfl (by kernel_rfl) (by kernel_rfl) (by kernel_rfl) (fun _ _ _ h => h) (Or.inl ⟨by kernel_rfl, ?_⟩) (by assumption) ?_
  · intro Wt hSt
    exact run_load_op 45 (.tmp 4) rfl (w.heap.size + 1) 0 rfl ds _ hSt.2.1.range Tryz.underlying45 rfl (by rw [unhide H_hld]; exact infoFc)
  try simp only [lx0, lx1, lx2, Act.put, lx3, lx4, lx5]
  refine wpAnyH_take (i := 4) (v := .agg cs.toArray) rfl (by kernel_rfl) (by kernel_rfl) (by kernel_rfl) (fun _ _ _ h => h) (Or.inl ⟨by kernel_rfl, ?_⟩) (by assumption) ?_
  · intro Wt hSt
    exact run_load_op 45 (.tmp 3) rfl w.heap.size 0 rfl cs _ hSt.1.range Tryz.underlying45 rfl (by rw [unhide H_hlc]; exact infoFc)
  try simp only [lx0, lx1, lx2, Act.put, lx3, lx4, lx5]
  refine wpAnyH_one 2 _ rfl (by kernel_rfl) (by kernel_rfl) ?_
  skip
  intro Kt hK
  go_simp
  refine ((unhide H_h12) rfl V (unhide HB)).mono ?_; rintro e V2 ⟨rfl, hG⟩
  dsimp only
  replace hS := And.intro (hS.1.keep hG) (And.intro (hS.2.1.keep hG) (hS.2.2.keep hG))
  replace HB := hide (thenB (unhide HB) hG)
  refine hK _ _ hS ?_
  clear hK Kt hG
  try simp only [lx0, lx1, lx2, Act.put, lx3, lx4, lx5]
  refine wpAnyH_one 5 _ rfl (by kernel_rfl) (by kernel_rfl) ?_
  skip
  intro Kt hK
  go_simp
  refine ((unhide H_h21) rfl V2 (unhide HB)).mono ?_; rintro e V5 ⟨rfl, hG⟩
  dsimp only
  replace hS := And.intro (hS.1.keep hG) (And.intro (hS.2.1.keep hG) (hS.2.2.keep hG))
  replace HB := hide (thenB (unhide HB) hG)
  refine hK _ _ hS ?_
  clear hK Kt hG
  try simp only [lx0, lx1, lx2, Act.put, lx3, lx4, lx5]
  refine wpAnyH_take (i := 6) (v := ?_) rfl (by kernel_rfl) (by kernel_rfl) (by kernel_rfl) (fun _ _ _ h => h) (Or.inl ⟨by kernel_rfl, ?_⟩) (by assumption) ?_
  rotate_left
  · intro Wt hSt
    go_simp
    try with_reducible rfl
  try simp only [lx0, lx1, lx2, Act.put, lx3, lx4, lx5]
  refine wpAnyH_take (i := 7) (v := ?_) rfl (by kernel_rfl) (by kernel_rfl) (by kernel_rfl) (fun _ _ _ h => h) (Or.inl ⟨by kernel_rfl, ?_⟩) (by assumption) ?_
  rotate_left
  · intro Wt hSt
    go_simp
    try with_reducible rfl
  try simp only [lx0, lx1, lx2, Act.put, lx3, lx4, lx5]
  refine wpAnyH_take (i := 8) (v := ?_) rfl (by kernel_rfl) (by kernel_rfl) (by kernel_rfl) (fun _ _ _ h => h) (Or.inl ⟨by kernel_rfl, ?_⟩) (by assumption) ?_
  rotate_left
  · intro Wt hSt
    go_simp
    try with_reducible rfl
  try simp only [lx0, lx1, lx2, Act.put, lx3, lx4, lx5]
  refine wpAnyH_take (i := 9) (v := .agg cs.toArray) rfl (by kernel_rfl) (by kernel_rfl) (by kernel_rfl) (fun _ _ _ h => h) (Or.inl ⟨by kernel_rfl, ?_⟩) (by assumption) ?_
  · intro Wt hSt
    exact run_load_op 45 (.tmp 3) rfl w.heap.size 0 rfl cs _ hSt.1.range Tryz.underlying45 rfl (by rw [unhide H_hlc]; exact infoFc)
  try simp only [lx0, lx1, lx2, Act.put, lx3, lx4, lx5]
  refine wpAnyH_take (i := 10) (v := .agg ds.toArray) rfl (by kernel_rfl) (by kernel_rfl) (by kernel_rfl) (fun _ _ _ h => h) (Or.inl ⟨by kernel_rfl, ?_⟩) (by assumption) ?_
  · intro Wt hSt
    exact run_load_op 45 (.tmp 4) rfl (w.heap.size + 1) 0 rfl ds _ hSt.2.1.range Tryz.underlying45 rfl (by rw [unhide H_hld]; exact infoFc)
  try simp only [lx0, lx1, lx2, Act.put, lx3, lx4, lx5]
  refine wpAnyH_take (i := 13) (v := .agg cs.toArray) rfl (by kernel_rfl) (by kernel_rfl) (by kernel_rfl) (fun _ _ _ h => h) (Or.inl ⟨by kernel_rfl, ?_⟩) (by assumption) ?_
  · intro Wt hSt
    exact run_load_op 45 (.tmp 3) rfl w.heap.size 0 rfl cs _ hSt.1.range Tryz.underlying45 rfl (by rw [unhide H_hlc]; exact infoFc)
  try simp only [lx0, lx1, lx2, Act.put, lx3, lx4, lx5]
  refine wpAnyH_take (i := 14) (v := .agg ds.toArray) rfl (by kernel_rfl) (by kernel_rfl) (by kernel_rfl) (fun _ _ _ h => h) (Or.inl ⟨by kernel_rfl, ?_⟩) (by assumption) ?_
  · intro Wt hSt
    exact run_load_op 45 (.tmp 4) rfl (w.heap.size + 1) 0 rfl ds _ hSt.2.1.range Tryz.underlying45 rfl (by rw [unhide H_hld]; exact infoFc)
  try simp only [lx0, lx1, lx2, Act.put, lx3, lx4, lx5]
  refine wpAnyH_one 11 _ rfl (by kernel_rfl) (by kernel_rfl) ?_
  skip
  intro Kt hK
  go_simp
  refine ((unhide H_h12) rfl V5 (unhide HB)).mono ?_; rintro e V11 ⟨rfl, hG⟩
  dsimp only
  replace hS := And.intro (hS.1.keep hG) (And.intro (hS.2.1.keep hG) (hS.2.2.keep hG))
  replace HB := hide (thenB (unhide HB) hG)
  refine hK _ _ hS ?_
  clear hK Kt hG
  try simp only [lx0, lx1, lx2, Act.put, lx3, lx4, lx5]
  refine wpAnyH_take (i := 12) (v := ?_) rfl (by kernel_rfl) (by kernel_rfl) (by kernel_rfl) (fun _ _ _ h => h) (Or.inl ⟨by kernel_rfl, ?_⟩) (by assumption) ?_
  rotate_left
  · intro Wt hSt
    go_simp
    try with_reducible rfl
  try simp only [lx0, lx1, lx2, Act.put, lx3, lx4, lx5]
  refine wpAnyH_one 15 _ rfl (by kernel_rfl) (by kernel_rfl) ?_
  skip
  intro Kt hK
  go_simp
  refine ((unhide H_hsame) rfl V11 (unhide HB)).mono ?_; rintro e V15 ⟨rfl, hG⟩
  dsimp only
  replace hS := And.intro (hS.1.keep hG) (And.intro (hS.2.1.keep hG) (hS.2.2.keep hG))
  replace HB := hide (thenB (unhide HB) hG)
  refine hK _ _ hS ?_
  clear hK Kt hG
  try simp only [lx0, lx1, lx2, Act.put, lx3, lx4, lx5]
  refine wpAnyH_take (i := 16) (v := ?_) rfl (by kernel_rfl) (by kernel_rfl) (by kernel_rfl) (fun _ _ _ h => h) (Or.inl ⟨by kernel_rfl, ?_⟩) (by assumption) ?_
  rotate_left
  · intro Wt hSt
    go_simp
    try with_reducible rfl
  try simp only [lx0, lx1, lx2, Act.put, lx3, lx4, lx5]
  refine wpAnyH_take (i := 17) (v := ?_) rfl (by kernel_rfl) (by kernel_rfl) (by kernel_rfl) (fun _ _ _ h => h) (Or.inl ⟨by kernel_rfl, ?_⟩) (by assumption) ?_
  rotate_left
  · intro Wt hSt
    go_simp
    try with_reducible rfl
  try simp only [lx0, lx1, lx2, Act.put, lx3, lx4, lx5]
  refine wpAnyH_chainOf [] _ _ _ (by kernel_rfl) (by kernel_rfl) ?_
  refine wpChain_nil ?_
  have HV1 := hide hS.1; have HV2 := hide hS.2.1; have HV3 := hide hS.2.2
  clear hS hm1 hm2
  obtain ⟨W50, hW50⟩ : ∃ W50, W50 = V15 := ⟨_, rfl⟩
  rw [← hW50] at HV1 HV2 HV3 HB ⊢
  clear hW50
  go_upto_region 7 with fail
  refine wp_region_lit ?_
  have hc1 : W50.cell? ⟨w.heap.size, 2, none⟩ = some (.int .i64 ka) := (unhide HV1).cell (unhide H_hk1)
  have hc2 : W50.cell? ⟨w.heap.size + 1, 2, none⟩ = some (.int .i64 kb) := (unhide HV2).cell (unhide H_hk2)
  have hc3 : W50.cell? ⟨w.heap.size, 1, none⟩ = some (.int .i64 da) := (unhide HV1).cell (unhide H_hd1)
  have hc4 : W50.cell? ⟨w.heap.size + 1, 1, none⟩ = some (.int .i64 db) := (unhide HV2).cell (unhide H_hd2)
  by_cases hkl : ka < kb
  · have hx1 := (unhide H_m3) hkl
    have hne : (ka == kb) = false := by rw [beq_eq_false_iff_ne]; omega
    have hb1 : (x1 != -1) = false := by rw [hx1]; rfl
    refine wpList_plain rfl fun Kt hKt => ?_
    go_simp
    refine hKt _ _ ?_
    clear hKt Kt
    try simp only [lx0, lx1, lx2, Act.put, lx3, lx4, lx5]
    refine wpList_plain rfl fun Kt hKt => ?_
    go_simp
    refine hKt _ _ ?_
    clear hKt Kt
    try simp only [lx0, lx1, lx2, Act.put, lx3, lx4, lx5]
    refine wpList_plain rfl fun Kt hKt => ?_
    go_simp
    refine hKt _ _ ?_
    clear hKt Kt
    try simp only [lx0, lx1, lx2, Act.put, lx3, lx4, lx5]
    refine wpList_plain rfl fun Kt hKt => ?_
    go_simp
    refine hKt _ _ ?_
    clear hKt Kt
    try simp only [lx0, lx1, lx2, Act.put, lx3, lx4, lx5]
    refine wpList_plain rfl fun Kt hKt => ?_
    go_simp
    refine hKt _ _ ?_
    clear hKt Kt
    try simp only [lx0, lx1, lx2, Act.put, lx3, lx4, lx5]
    refine wpList_plain rfl fun Kt hKt => ?_
    go_simp
    refine hKt _ _ ?_
    clear hKt Kt
    try simp only [lx0, lx1, lx2, Act.put, lx3, lx4, lx5]
    refine wpList_vgload (by kernel_rfl) 45 (.tmp 3) rfl w.heap.size 0 rfl _ Tryz.underlying45 rfl cs (by rw [unhide H_hlc]; exact infoFc) (unhide HV1).range ?_
    try simp only [lx0, lx1, lx2, Act.put, lx3, lx4, lx5]
    refine wpList_vgload (by kernel_rfl) 45 (.tmp 4) rfl (w.heap.size + 1) 0 rfl _ Tryz.underlying45 rfl ds (by rw [unhide H_hld]; exact infoFc) (unhide HV2).range ?_
    try simp only [lx0, lx1, lx2, Act.put, lx3, lx4, lx5]
    refine wpList_wanted (by kernel_rfl) fun Kt hKt => ?_
    go_simp
    refine ((unhide H_h12) rfl W50 (unhide HB)).mono ?_; rintro x W51 ⟨rfl, hG⟩
    dsimp only
    refine hKt _ _ ?_
    clear hKt Kt
    try simp only [lx0, lx1, lx2, Act.put, lx3, lx4, lx5]
    have HB := hide (thenB (unhide HB) hG); have HV1 := hide ((unhide HV1).keep hG); have HV2 := hide ((unhide HV2).keep hG); have HV3 := hide ((unhide HV3).keep hG)
    clear hG
    have hc1 : W51.cell? ⟨w.heap.size, 2, none⟩ = some (.int .i64 ka) := (unhide HV1).cell (unhide H_hk1)
    have hc2 : W51.cell? ⟨w.heap.size + 1, 2, none⟩ = some (.int .i64 kb) := (unhide HV2).cell (unhide H_hk2)
    clear hkl hc3 hc4
    go_upto_region 9 with fail
    refine wp_region_lit ?_
    refine wpList_vload rfl 45 (.tmp 3) rfl w.heap.size 0 rfl _ Tryz.underlying45 rfl cs (by rw [unhide H_hlc]; exact infoFc) (unhide HV1).range ?_
    try simp only [lx0, lx1, lx2, Act.put, lx3, lx4, lx5]
    refine wpList_vload rfl 45 (.tmp 4) rfl (w.heap.size + 1) 0 rfl _ Tryz.underlying45 rfl ds (by rw [unhide H_hld]; exact infoFc) (unhide HV2).range ?_
    try simp only [lx0, lx1, lx2, Act.put, lx3, lx4, lx5]
    refine wpList_wanted (by kernel_rfl) fun Kt hKt => ?_
    go_simp
    refine ((unhide H_h12) rfl W51 (unhide HB)).mono ?_; rintro x W52 ⟨rfl, hG⟩
    dsimp only
    refine hKt _ _ ?_
    clear hKt Kt
    try simp only [lx0, lx1, lx2, Act.put, lx3, lx4, lx5]
    have HB := hide (thenB (unhide HB) hG); have HV1 := hide ((unhide HV1).keep hG); have HV2 := hide ((unhide HV2).keep hG); have HV3 := hide ((unhide HV3).keep hG)
    clear hG
    by_cases p1 : x1 > 0
    · clear H_m5
      first
      | (exfalso; omega)
      | (go_wp2_with fail
         go_ret
         exact ⟨rfl, unhide HB⟩)
    refine wpList_plain rfl fun Kt hKt => ?_
    go_simp
    refine hKt _ _ ?_
    clear hKt Kt
    try simp only [lx0, lx1, lx2, Act.put, lx3, lx4, lx5]
    refine wpList_plain rfl fun Kt hKt => ?_
    go_simp
    refine hKt _ _ ?_
    clear hKt Kt
    try simp only [lx0, lx1, lx2, Act.put, lx3, lx4, lx5]
    refine wpList_vgload (by kernel_rfl) 45 (.tmp 4) rfl (w.heap.size + 1) 0 rfl _ Tryz.underlying45 rfl ds (by rw [unhide H_hld]; exact infoFc) (unhide HV2).range ?_
    try simp only [lx0, lx1, lx2, Act.put, lx3, lx4, lx5]
    refine wpList_vgload (by kernel_rfl) 45 (.tmp 5) rfl (w.heap.size + 2) 0 rfl _ Tryz.underlying45 rfl es (by rw [unhide H_hle]; exact infoFc) (unhide HV3).range ?_
    try simp only [lx0, lx1, lx2, Act.put, lx3, lx4, lx5]
    refine wpList_wanted (by kernel_rfl) fun Kt hKt => ?_
    go_simp
    refine ((unhide H_h23) rfl W52 (unhide HB)).mono ?_; rintro x W53 ⟨rfl, hG⟩
    dsimp only
    refine hKt _ _ ?_
    clear hKt Kt
    try simp only [lx0, lx1, lx2, Act.put, lx3, lx4, lx5]
    have HB := hide (thenB (unhide HB) hG); have HV1 := hide ((unhide HV1).keep hG); have HV2 := hide ((unhide HV2).keep hG); have HV3 := hide ((unhide HV3).keep hG)
    clear hG
    by_cases p3 : x3 > 0
    · clear H_m5
      go_wp2_with fail
      go_ret
      exact ⟨rfl, unhide HB⟩
    refine wpList_wanted (by kernel_rfl) fun Kt hKt => ?_
    go_simp
    refine hKt _ _ ?_
    clear hKt Kt
    try simp only [lx0, lx1, lx2, Act.put, lx3, lx4, lx5]
    refine wpList_plain rfl fun Kt hKt => ?_
    go_simp
    refine hKt _ _ ?_
    clear hKt Kt
    try simp only [lx0, lx1, lx2, Act.put, lx3, lx4, lx5]
    refine wpList_plain rfl fun Kt hKt => ?_
    go_simp
    refine hKt _ _ ?_
    clear hKt Kt
    try simp only [lx0, lx1, lx2, Act.put, lx3, lx4, lx5]
    refine wpList_vgload (by kernel_rfl) 45 (.tmp 3) rfl w.heap.size 0 rfl _ Tryz.underlying45 rfl cs (by rw [unhide H_hlc]; exact infoFc) (unhide HV1).range ?_
    try simp only [lx0, lx1, lx2, Act.put, lx3, lx4, lx5]
    refine wpList_vgload (by kernel_rfl) 45 (.tmp 5) rfl (w.heap.size + 2) 0 rfl _ Tryz.underlying45 rfl es (by rw [unhide H_hle]; exact infoFc) (unhide HV3).range ?_
    try simp only [lx0, lx1, lx2, Act.put, lx3, lx4, lx5]
    refine wpList_wanted (by kernel_rfl) fun Kt hKt => ?_
    go_simp
    refine ((unhide H_h13) rfl W53 (unhide HB)).mono ?_; rintro x W54 ⟨rfl, hG⟩
    dsimp only
    refine hKt _ _ ?_
    clear hKt Kt
    try simp only [lx0, lx1, lx2, Act.put, lx3, lx4, lx5]
    have HB := hide (thenB (unhide HB) hG); have HV1 := hide ((unhide HV1).keep hG); have HV2 := hide ((unhide HV2).keep hG); have HV3 := hide ((unhide HV3).keep hG)
    clear hG
    have p4 : x4 ≤ 0 := by have := unhide H_m5; omega
    go_wp2_with fail
    go_ret
    exact ⟨rfl, unhide HB⟩
  by_cases hke : ka = kb
  · have heq : (ka == kb) = true := by rw [beq_iff_eq]; exact hke
    by_cases hdl : da < db
    · have hx1 := (unhide H_m4) hke hdl
      have hb1 : (x1 != -1) = false := by rw [hx1]; rfl
      refine wpList_plain rfl fun Kt hKt => ?_
      go_simp
      refine hKt _ _ ?_
      clear hKt Kt
      try simp only [lx0, lx1, lx2, Act.put, lx3, lx4, lx5]
      refine wpList_plain rfl fun Kt hKt => ?_
      go_simp
      refine hKt _ _ ?_
      clear hKt Kt
      try simp only [lx0, lx1, lx2, Act.put, lx3, lx4, lx5]
      refine wpList_plain rfl fun Kt hKt => ?_
      go_simp
      refine hKt _ _ ?_
      clear hKt Kt
      try simp only [lx0, lx1, lx2, Act.put, lx3, lx4, lx5]
      refine wpList_plain rfl fun Kt hKt => ?_
      go_simp
      refine hKt _ _ ?_
      clear hKt Kt
      try simp only [lx0, lx1, lx2, Act.put, lx3, lx4, lx5]
      refine wpList_plain rfl fun Kt hKt => ?_
      go_simp
      refine hKt _ _ ?_
      clear hKt Kt
      try simp only [lx0, lx1, lx2, Act.put, lx3, lx4, lx5]
      refine wpList_plain rfl fun Kt hKt => ?_
      go_simp
      refine hKt _ _ ?_
      clear hKt Kt
      try simp only [lx0, lx1, lx2, Act.put, lx3, lx4, lx5]
      refine wpList_off (by kernel_rfl) ?_
      try simp only [lx0, lx1, lx2, Act.put, lx3, lx4, lx5]
      refine wpList_off (by kernel_rfl) ?_
      try simp only [lx0, lx1, lx2, Act.put, lx3, lx4, lx5]
      refine wpList_off (by kernel_rfl) ?_
      try simp only [lx0, lx1, lx2, Act.put, lx3, lx4, lx5]
      refine wpList_off (by kernel_rfl) ?_
      try simp only [lx0, lx1, lx2, Act.put, lx3, lx4, lx5]
      refine wpList_plain rfl fun Kt hKt => ?_
      go_simp
      refine hKt _ _ ?_
      clear hKt Kt
      try simp only [lx0, lx1, lx2, Act.put, lx3, lx4, lx5]
      refine wpList_plain rfl fun Kt hKt => ?_
      go_simp
      refine hKt _ _ ?_
      clear hKt Kt
      try simp only [lx0, lx1, lx2, Act.put, lx3, lx4, lx5]
      refine wpList_wanted (by kernel_rfl) fun Kt hKt => ?_
      go_simp
      refine hKt _ _ ?_
      clear hKt Kt
      try simp only [lx0, lx1, lx2, Act.put, lx3, lx4, lx5]
      refine wpList_wanted (by kernel_rfl) fun Kt hKt => ?_
      go_simp
      refine hKt _ _ ?_
      clear hKt Kt
      try simp only [lx0, lx1, lx2, Act.put, lx3, lx4, lx5]
      refine wpList_wanted (by kernel_rfl) fun Kt hKt => ?_
      go_simp
      refine hKt _ _ ?_
      clear hKt Kt
      try simp only [lx0, lx1, lx2, Act.put, lx3, lx4, lx5]
      refine wpList_wanted (by kernel_rfl) fun Kt hKt => ?_
      go_simp
      refine hKt _ _ ?_
      clear hKt Kt
      try simp only [lx0, lx1, lx2, Act.put, lx3, lx4, lx5]
      refine wpList_wanted (by kernel_rfl) fun Kt hKt => ?_
      go_simp
      refine hKt _ _ ?_
      clear hKt Kt
      try simp only [lx0, lx1, lx2, Act.put, lx3, lx4, lx5]
      refine wpList_wanted (by kernel_rfl) fun Kt hKt => ?_
      go_simp
      refine hKt _ _ ?_
      clear hKt Kt
      try simp only [lx0, lx1, lx2, Act.put, lx3, lx4, lx5]
      refine wpList_wanted (by kernel_rfl) fun Kt hKt => ?_
      go_simp
      refine hKt _ _ ?_
      clear hKt Kt
      try simp only [lx0, lx1, lx2, Act.put, lx3, lx4, lx5]
      refine wpList_wanted (by kernel_rfl) fun Kt hKt => ?_
      go_simp
      refine hKt _ _ ?_
      clear hKt Kt
      try simp only [lx0, lx1, lx2, Act.put, lx3, lx4, lx5]
      refine wpList_wanted (by kernel_rfl) fun Kt hKt => ?_
      go_simp
      refine hKt _ _ ?_
      clear hKt Kt
      try simp only [lx0, lx1, lx2, Act.put, lx3, lx4, lx5]
      refine wpList_wanted (by kernel_rfl) fun Kt hKt => ?_
      go_simp
      refine hKt _ _ ?_
      clear hKt Kt
      try simp only [lx0, lx1, lx2, Act.put, lx3, lx4, lx5]
      refine wpList_wanted (by kernel_rfl) fun Kt hKt => ?_
      go_simp
      refine hKt _ _ ?_
      clear hKt Kt
      try simp only [lx0, lx1, lx2, Act.put, lx3, lx4, lx5]
      refine wpList_wanted (by kernel_rfl) fun Kt hKt => ?_
      go_simp
      refine hKt _ _ ?_
      clear hKt Kt
      try simp only [lx0, lx1, lx2, Act.put, lx3, lx4, lx5]
      refine wpList_wanted (by kernel_rfl) fun Kt hKt => ?_
      go_simp
      refine hKt _ _ ?_
      clear hKt Kt
      try simp only [lx0, lx1, lx2, Act.put, lx3, lx4, lx5]
      refine wpList_vgload (by kernel_rfl) 45 (.tmp 3) rfl w.heap.size 0 rfl _ Tryz.underlying45 rfl cs (by rw [unhide H_hlc]; exact infoFc) (unhide HV1).range ?_
      try simp only [lx0, lx1, lx2, Act.put, lx3, lx4, lx5]
      refine wpList_vgload (by kernel_rfl) 45 (.tmp 4) rfl (w.heap.size + 1) 0 rfl _ Tryz.underlying45 rfl ds (by rw [unhide H_hld]; exact infoFc) (unhide HV2).range ?_
      try simp only [lx0, lx1, lx2, Act.put, lx3, lx4, lx5]
      refine wpList_wanted (by kernel_rfl) fun Kt hKt => ?_
      go_simp
      refine ((unhide H_h12) rfl W50 (unhide HB)).mono ?_; rintro x W51 ⟨rfl, hG⟩
      dsimp only
      refine hKt _ _ ?_
      clear hKt Kt
      try simp only [lx0, lx1, lx2, Act.put, lx3, lx4, lx5]
      have HB := hide (thenB (unhide HB) hG); have HV1 := hide ((unhide HV1).keep hG); have HV2 := hide ((unhide HV2).keep hG); have HV3 := hide ((unhide HV3).keep hG)
      clear hG
      clear hc1 hc2 hc3 hc4 hdl hke
      go_upto_region 9 with fail
      refine wp_region_lit ?_
      refine wpList_vload rfl 45 (.tmp 3) rfl w.heap.size 0 rfl _ Tryz.underlying45 rfl cs (by rw [unhide H_hlc]; exact infoFc) (unhide HV1).range ?_
      try simp only [lx0, lx1, lx2, Act.put, lx3, lx4, lx5]
      refine wpList_vload rfl 45 (.tmp 4) rfl (w.heap.size + 1) 0 rfl _ Tryz.underlying45 rfl ds (by rw [unhide H_hld]; exact infoFc) (unhide HV2).range ?_
      try simp only [lx0, lx1, lx2, Act.put, lx3, lx4, lx5]
      refine wpList_wanted (by kernel_rfl) fun Kt hKt => ?_
      go_simp
      refine ((unhide H_h12) rfl W51 (unhide HB)).mono ?_; rintro x W52 ⟨rfl, hG⟩
      dsimp only
      refine hKt _ _ ?_
      clear hKt Kt
      try simp only [lx0, lx1, lx2, Act.put, lx3, lx4, lx5]
      have HB := hide (thenB (unhide HB) hG); have HV1 := hide ((unhide HV1).keep hG); have HV2 := hide ((unhide HV2).keep hG); have HV3 := hide ((unhide HV3).keep hG)
      clear hG
      by_cases p1 : x1 > 0
      · clear H_m5
        first
        | (exfalso; omega)
        | (go_wp2_with fail
           go_ret
           exact ⟨rfl, unhide HB⟩)
      refine wpList_plain rfl fun Kt hKt => ?_
      go_simp
      refine hKt _ _ ?_
      clear hKt Kt
      try simp only [lx0, lx1, lx2, Act.put, lx3, lx4, lx5]
      refine wpList_plain rfl fun Kt hKt => ?_
      go_simp
      refine hKt _ _ ?_
      clear hKt Kt
      try simp only [lx0, lx1, lx2, Act.put, lx3, lx4, lx5]
      refine wpList_vgload (by kernel_rfl) 45 (.tmp 4) rfl (w.heap.size + 1) 0 rfl _ Tryz.underlying45 rfl ds (by rw [unhide H_hld]; exact infoFc) (unhide HV2).range ?_
      try simp only [lx0, lx1, lx2, Act.put, lx3, lx4, lx5]
      refine wpList_vgload (by kernel_rfl) 45 (.tmp 5) rfl (w.heap.size + 2) 0 rfl _ Tryz.underlying45 rfl es (by rw [unhide H_hle]; exact infoFc) (unhide HV3).range ?_
      try simp only [lx0, lx1, lx2, Act.put, lx3, lx4, lx5]
      refine wpList_wanted (by kernel_rfl) fun Kt hKt => ?_
      go_simp
      refine ((unhide H_h23) rfl W52 (unhide HB)).mono ?_; rintro x W53 ⟨rfl, hG⟩
      dsimp only
      refine hKt _ _ ?_
      clear hKt Kt
      try simp only [lx0, lx1, lx2, Act.put, lx3, lx4, lx5]
      have HB := hide (thenB (unhide HB) hG); have HV1 := hide ((unhide HV1).keep hG); have HV2 := hide ((unhide HV2).keep hG); have HV3 := hide ((unhide HV3).keep hG)
      clear hG
      by_cases p3 : x3 > 0
      · clear H_m5
        go_wp2_with fail
        go_ret
        exact ⟨rfl, unhide HB⟩
      refine wpList_wanted (by kernel_rfl) fun Kt hKt => ?_
      go_simp
      refine hKt _ _ ?_
      clear hKt Kt
      try simp only [lx0, lx1, lx2, Act.put, lx3, lx4, lx5]
      refine wpList_plain rfl fun Kt hKt => ?_
      go_simp
      refine hKt _ _ ?_
      clear hKt Kt
      try simp only [lx0, lx1, lx2, Act.put, lx3, lx4, lx5]
      refine wpList_plain rfl fun Kt hKt => ?_
      go_simp
      refine hKt _ _ ?_
      clear hKt Kt
      try simp only [lx0, lx1, lx2, Act.put, lx3, lx4, lx5]
      refine wpList_vgload (by kernel_rfl) 45 (.tmp 3) rfl w.heap.size 0 rfl _ Tryz.underlying45 rfl cs (by rw [unhide H_hlc]; exact infoFc) (unhide HV1).range ?_
      try simp only [lx0, lx1, lx2, Act.put, lx3, lx4, lx5]
      refine wpList_vgload (by kernel_rfl) 45 (.tmp 5) rfl (w.heap.size + 2) 0 rfl _ Tryz.underlying45 rfl es (by rw [unhide H_hle]; exact infoFc) (unhide HV3).range ?_
      try simp only [lx0, lx1, lx2, Act.put, lx3, lx4, lx5]
      refine wpList_wanted (by kernel_rfl) fun Kt hKt => ?_
      go_simp
      refine ((unhide H_h13) rfl W53 (unhide HB)).mono ?_; rintro x W54 ⟨rfl, hG⟩
      dsimp only
      refine hKt _ _ ?_
      clear hKt Kt
      try simp only [lx0, lx1, lx2, Act.put, lx3, lx4, lx5]
      have HB := hide (thenB (unhide HB) hG); have HV1 := hide ((unhide HV1).keep hG); have HV2 := hide ((unhide HV2).keep hG); have HV3 := hide ((unhide HV3).keep hG)
      clear hG
      have p4 : x4 ≤ 0 := by have := unhide H_m5; omega
      go_wp2_with fail
      go_ret
      exact ⟨rfl, unhide HB⟩
    · clear hke
      go_upto_region 9 with fail
      refine wp_region_lit ?_
      refine wpList_vload rfl 45 (.tmp 3) rfl w.heap.size 0 rfl _ Tryz.underlying45 rfl cs (by rw [unhide H_hlc]; exact infoFc) (unhide HV1).range ?_
      try simp only [lx0, lx1, lx2, Act.put, lx3, lx4, lx5]
      refine wpList_vload rfl 45 (.tmp 4) rfl (w.heap.size + 1) 0 rfl _ Tryz.underlying45 rfl ds (by rw [unhide H_hld]; exact infoFc) (unhide HV2).range ?_
      try simp only [lx0, lx1, lx2, Act.put, lx3, lx4, lx5]
      refine wpList_wanted (by kernel_rfl) fun Kt hKt => ?_
      go_simp
      refine ((unhide H_h12) rfl W50 (unhide HB)).mono ?_; rintro x W51 ⟨rfl, hG⟩
      dsimp only
      refine hKt _ _ ?_
      clear hKt Kt
      try simp only [lx0, lx1, lx2, Act.put, lx3, lx4, lx5]
      have HB := hide (thenB (unhide HB) hG); have HV1 := hide ((unhide HV1).keep hG); have HV2 := hide ((unhide HV2).keep hG); have HV3 := hide ((unhide HV3).keep hG)
      clear hG
      by_cases p1 : x1 > 0
      · clear H_m5
        first
        | (exfalso; omega)
        | (go_wp2_with fail
           go_ret
           exact ⟨rfl, unhide HB⟩)
      refine wpList_plain rfl fun Kt hKt => ?_
      go_simp
      refine hKt _ _ ?_
      clear hKt Kt
      try simp only [lx0, lx1, lx2, Act.put, lx3, lx4, lx5]
      refine wpList_plain rfl fun Kt hKt => ?_
      go_simp
      refine hKt _ _ ?_
      clear hKt Kt
      try simp only [lx0, lx1, lx2, Act.put, lx3, lx4, lx5]
      refine wpList_vgload (by kernel_rfl) 45 (.tmp 4) rfl (w.heap.size + 1) 0 rfl _ Tryz.underlying45 rfl ds (by rw [unhide H_hld]; exact infoFc) (unhide HV2).range ?_
      try simp only [lx0, lx1, lx2, Act.put, lx3, lx4, lx5]
      refine wpList_vgload (by kernel_rfl) 45 (.tmp 5) rfl (w.heap.size + 2) 0 rfl _ Tryz.underlying45 rfl es (by rw [unhide H_hle]; exact infoFc) (unhide HV3).range ?_
      try simp only [lx0, lx1, lx2, Act.put, lx3, lx4, lx5]
      refine wpList_wanted (by kernel_rfl) fun Kt hKt => ?_
      go_simp
      refine ((unhide H_h23) rfl W51 (unhide HB)).mono ?_; rintro x W52 ⟨rfl, hG⟩
      dsimp only
      refine hKt _ _ ?_
      clear hKt Kt
      try simp only [lx0, lx1, lx2, Act.put, lx3, lx4, lx5]
      have HB := hide (thenB (unhide HB) hG); have HV1 := hide ((unhide HV1).keep hG); have HV2 := hide ((unhide HV2).keep hG); have HV3 := hide ((unhide HV3).keep hG)
      clear hG
      by_cases p3 : x3 > 0
      · clear H_m5
        go_wp2_with fail
        go_ret
        exact ⟨rfl, unhide HB⟩
      refine wpList_wanted (by kernel_rfl) fun Kt hKt => ?_
      go_simp
      refine hKt _ _ ?_
      clear hKt Kt
      try simp only [lx0, lx1, lx2, Act.put, lx3, lx4, lx5]
      refine wpList_plain rfl fun Kt hKt => ?_
      go_simp
      refine hKt _ _ ?_
      clear hKt Kt
      try simp only [lx0, lx1, lx2, Act.put, lx3, lx4, lx5]
      refine wpList_plain rfl fun Kt hKt => ?_
      go_simp
      refine hKt _ _ ?_
      clear hKt Kt
      try simp only [lx0, lx1, lx2, Act.put, lx3, lx4, lx5]
      refine wpList_vgload (by kernel_rfl) 45 (.tmp 3) rfl w.heap.size 0 rfl _ Tryz.underlying45 rfl cs (by rw [unhide H_hlc]; exact infoFc) (unhide HV1).range ?_
      try simp only [lx0, lx1, lx2, Act.put, lx3, lx4, lx5]
      refine wpList_vgload (by kernel_rfl) 45 (.tmp 5) rfl (w.heap.size + 2) 0 rfl _ Tryz.underlying45 rfl es (by rw [unhide H_hle]; exact infoFc) (unhide HV3).range ?_
      try simp only [lx0, lx1, lx2, Act.put, lx3, lx4, lx5]
      refine wpList_wanted (by kernel_rfl) fun Kt hKt => ?_
      go_simp
      refine ((unhide H_h13) rfl W52 (unhide HB)).mono ?_; rintro x W53 ⟨rfl, hG⟩
      dsimp only
      refine hKt _ _ ?_
      clear hKt Kt
      try simp only [lx0, lx1, lx2, Act.put, lx3, lx4, lx5]
      have HB := hide (thenB (unhide HB) hG); have HV1 := hide ((unhide HV1).keep hG); have HV2 := hide ((unhide HV2).keep hG); have HV3 := hide ((unhide HV3).keep hG)
      clear hG
      have p4 : x4 ≤ 0 := by have := unhide H_m5; omega
      go_wp2_with fail
      go_ret
      exact ⟨rfl, unhide HB⟩
  · have hne : (ka == kb) = false := by rw [beq_eq_false_iff_ne]; exact hke
    clear hke
    go_upto_region 9 with fail
    refine wp_region_lit ?_
    refine wpList_vload rfl 45 (.tmp 3) rfl w.heap.size 0 rfl _ Tryz.underlying45 rfl cs (by rw [unhide H_hlc]; exact infoFc) (unhide HV1).range ?_
    try simp only [lx0, lx1, lx2, Act.put, lx3, lx4, lx5]
    refine wpList_vload rfl 45 (.tmp 4) rfl (w.heap.size + 1) 0 rfl _ Tryz.underlying45 rfl ds (by rw [unhide H_hld]; exact infoFc) (unhide HV2).range ?_
    try simp only [lx0, lx1, lx2, Act.put, lx3, lx4, lx5]
    refine wpList_wanted (by kernel_rfl) fun Kt hKt => ?_
    go_simp
    refine ((unhide H_h12) rfl W50 (unhide HB)).mono ?_; rintro x W51 ⟨rfl, hG⟩
    dsimp only
    refine hKt _ _ ?_
    clear hKt Kt
    try simp only [lx0, lx1, lx2, Act.put, lx3, lx4, lx5]
    have HB := hide (thenB (unhide HB) hG); have HV1 := hide ((unhide HV1).keep hG); have HV2 := hide ((unhide HV2).keep hG); have HV3 := hide ((unhide HV3).keep hG)
    clear hG
    by_cases p1 : x1 > 0
    · clear H_m5
      first
      | (exfalso; omega)
      | (go_wp2_with fail
         go_ret
         exact ⟨rfl, unhide HB⟩)
    refine wpList_plain rfl fun Kt hKt => ?_
    go_simp
    refine hKt _ _ ?_
    clear hKt Kt
    try simp only [lx0, lx1, lx2, Act.put, lx3, lx4, lx5]
    refine wpList_plain rfl fun Kt hKt => ?_
    go_simp
    refine hKt _ _ ?_
    clear hKt Kt
    try simp only [lx0, lx1, lx2, Act.put, lx3, lx4, lx5]
    refine wpList_vgload (by kernel_rfl) 45 (.tmp 4) rfl (w.heap.size + 1) 0 rfl _ Tryz.underlying45 rfl ds (by rw [unhide H_hld]; exact infoFc) (unhide HV2).range ?_
    try simp only [lx0, lx1, lx2, Act.put, lx3, lx4, lx5]
    refine wpList_vgload (by kernel_rfl) 45 (.tmp 5) rfl (w.heap.size + 2) 0 rfl _ Tryz.underlying45 rfl es (by rw [unhide H_hle]; exact infoFc) (unhide HV3).range ?_
    try simp only [lx0, lx1, lx2, Act.put, lx3, lx4, lx5]
    refine wpList_wanted (by kernel_rfl) fun Kt hKt => ?_
    go_simp
    refine ((unhide H_h23) rfl W51 (unhide HB)).mono ?_; rintro x W52 ⟨rfl, hG⟩
    dsimp only
    refine hKt _ _ ?_
    clear hKt Kt
    try simp only [lx0, lx1, lx2, Act.put, lx3, lx4, lx5]
    have HB := hide (thenB (unhide HB) hG); have HV1 := hide ((unhide HV1).keep hG); have HV2 := hide ((unhide HV2).keep hG); have HV3 := hide ((unhide HV3).keep hG)
    clear hG
    by_cases p3 : x3 > 0
    · clear H_m5
      go_wp2_with fail
      go_ret
      exact ⟨rfl, unhide HB⟩
    refine wpList_wanted (by kernel_rfl) fun Kt hKt => ?_
    go_simp
    refine hKt _ _ ?_
    clear hKt Kt
    try simp only [lx0, lx1, lx2, Act.put, lx3, lx4, lx5]
    refine wpList_plain rfl fun Kt hKt => ?_
    go_simp
    refine hKt _ _ ?_
    clear hKt Kt
    try simp only [lx0, lx1, lx2, Act.put, lx3, lx4, lx5]
    refine wpList_plain rfl fun Kt hKt => ?_
    go_simp
    refine hKt _ _ ?_
    clear hKt Kt
    try simp only [lx0, lx1, lx2, Act.put, lx3, lx4, lx5]
    refine wpList_vgload (by kernel_rfl) 45 (.tmp 3) rfl w.heap.size 0 rfl _ Tryz.underlying45 rfl cs (by rw [unhide H_hlc]; exact infoFc) (unhide HV1).range ?_
    try simp only [lx0, lx1, lx2, Act.put, lx3, lx4, lx5]
    refine wpList_vgload (by kernel_rfl) 45 (.tmp 5) rfl (w.heap.size + 2) 0 rfl _ Tryz.underlying45 rfl es (by rw [unhide H_hle]; exact infoFc) (unhide HV3).range ?_
    try simp only [lx0, lx1, lx2, Act.put, lx3, lx4, lx5]
    refine wpList_wanted (by kernel_rfl) fun Kt hKt => ?_
    go_simp
    refine ((unhide H_h13) rfl W52 (unhide HB)).mono ?_; rintro x W53 ⟨rfl, hG⟩
    dsimp only
    refine hKt _ _ ?_
    clear hKt Kt
    try simp only [lx0, lx1, lx2, Act.put, lx3, lx4, lx5]
    have HB := hide (thenB (unhide HB) hG); have HV1 := hide ((unhide HV1).keep hG); have HV2 := hide ((unhide HV2).keep hG); have HV3 := hide ((unhide HV3).keep hG)
    clear hG
    have p4 : x4 ≤ 0 := by have := unhide H_m5; omega
    go_wp2_with fail
    go_ret
    exact ⟨rfl, unhide HB⟩
theorem small_lim {f : Fc} (h : smallF f = true) : f.e.rules.size ≤ 1000000 := by
  unfold smallF at h
  simp only [Bool.and_eq_true, decide_eq_true_eq] at h
  omega
theorem order_any (f g k : Fc) (a b c : Ad) (w : World) (hf : FArg w f a) (hg : FArg w g b) (hk : FArg w k c) (hE : Env w) (hgt : gTop ≤ w.heap.size) :
    Calls Tryz.prog 8 #[.agg (fC f a).toArray, .agg (fC g b).toArray, .agg (fC k c).toArray] w (LawOk w) := by
  have S : (smallF f && smallF g && smallF k) = true → smallF f = true ∧ smallF g = true ∧ smallF k = true := by
    intro h
    rw [Bool.and_eq_true, Bool.and_eq_true] at h
    exact ⟨h.1.1, h.1.2, h.2⟩
  refine order_core (fC f a) (fC g b) (fC k c) (smallF f && smallF g && smallF k) (okFact f) (okFact g) (okFact k) (fcEq f g) f.known g.known f.day g.day (cmpF f g) (cmpF g f) (cmpF g k) (cmpF f k) w (fC_length _ _ hf.void) (fC_length _ _ hg.void) (fC_length _ _ hk.void) rfl rfl rfl rfl
    (fun W hW => sane_any W (hE.to hgt hW) (Nat.le_trans hgt hW.size)) ?_
    (fun hs W hW => check_any' f a W ((hf.at_ (S hs).1).keep hW) hf.wf)
    (fun hs W hW => check_any' g b W ((hg.at_ (S hs).2.1).keep hW) hg.wf)
    (fun hs W hW => check_any' k c W ((hk.at_ (S hs).2.2).keep hW) hk.wf)
    (fun hs W hW => same_any f g a b W ((hf.at_ (S hs).1).keep hW) ((hg.at_ (S hs).2.1).keep hW))
    (fun hs W hW => compare_any f a g b W ((hf.at_ (S hs).1).keep hW) ((hg.at_ (S hs).2.1).keep hW) hf.wf hg.wf (small_lim (S hs).1) (small_lim (S hs).2.1) (hE.to hgt hW) (Nat.le_trans hgt hW.size))
    (fun hs W hW => compare_any g b f a W ((hg.at_ (S hs).2.1).keep hW) ((hf.at_ (S hs).1).keep hW) hg.wf hf.wf (small_lim (S hs).2.1) (small_lim (S hs).1) (hE.to hgt hW) (Nat.le_trans hgt hW.size))
    (fun hs W hW => compare_any g b k c W ((hg.at_ (S hs).2.1).keep hW) ((hk.at_ (S hs).2.2).keep hW) hg.wf hk.wf (small_lim (S hs).2.1) (small_lim (S hs).2.2) (hE.to hgt hW) (Nat.le_trans hgt hW.size))
    (fun hs W hW => compare_any f a k c W ((hf.at_ (S hs).1).keep hW) ((hk.at_ (S hs).2.2).keep hW) hf.wf hk.wf (small_lim (S hs).1) (small_lim (S hs).2.2) (hE.to hgt hW) (Nat.le_trans hgt hW.size))
    (fun _ _ _ _ => cmpF_anti f g)
    (fun hs of og _ => cmpF_zero (hf.at_ (S hs).1) (hg.at_ (S hs).2.1) of og (small_lim (S hs).1) (small_lim (S hs).2.1) hf.byt hg.byt)
    cmpF_lt1 cmpF_lt2 (cmpF_trans f g k)
  intro W bb h
  have hv : ∀ p ∈ [(f, a), (g, b), (k, c)], p.1.void.length = 32 := by
    intro p hp
    simp at hp
    rcases hp with rfl | rfl | rfl
    · exact hf.void
    · exact hg.void
    · exact hk.void
  have h1 := few_any bb 3 [(f, a), (g, b), (k, c)] W h hv (by simp) (by simp)
  rw [show ([(f, a), (g, b), (k, c)].all fun p => smallF p.1) = (smallF f && smallF g && smallF k) by simp [Bool.and_assoc]] at h1
  exact h1
end Go.Proofs.YtdmaopfaeigelaaGreatDoor
