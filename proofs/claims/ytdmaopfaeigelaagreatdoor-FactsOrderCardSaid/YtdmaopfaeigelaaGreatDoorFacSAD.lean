/- The chapter's examples: what is closed. The chapter's examples: the calls. The chapter's examples: sane. The chapter's examples: sane, whole. -/
import Derived.Test.YtdmaopfaeigelaaGreatDoorFacR6
import Derived.Test.YtdmaopfaeigelaaGreatDoorFacU
namespace Go.Proofs.YtdmaopfaeigelaaGreatDoor
set_option linter.unusedSimpArgs false
set_option linter.unusedVariables false
set_option maxRecDepth 100000
open Go.RowKit

def mvF : Fc := moveF 9 10 5 2
def earF : Fc := { f0 with kind := 8, day := 50, known := 9 }
def mvV : Va := factA mvF (moveA mvF)
def mvL : List UInt8 := [100, 51, 58, 100, 97, 121, 105, 57, 101, 52, 58, 107, 105, 110, 100, 105, 54, 101, 53, 58, 107, 110, 111, 119, 110, 105, 49, 48, 101, 52, 58, 119, 104, 97, 116, 108, 105, 53, 101, 105, 50, 101, 101, 101]
theorem mv_ok : okFact mvF = true := by kernel_rfl
theorem f0_bad : okFact f0 = false := by decide
theorem ear_ok : okFact earF = true := by kernel_rfl
theorem mv_same : fcEq mvF mvF = true := by kernel_rfl
theorem cmp1 : cmpN earF mvF = -1 := by decide
theorem cmp2 : cmpN mvF earF = 1 := by decide
theorem cmp3 : cmpN mvF mvF = 0 := by decide
theorem mv_kind : numF (G mvV kindS) = 6 := by decide
theorem mv_read : moveF (numF (G mvV dayS)) (numF (G mvV knownS)) (numF (nextF (lsF (G mvV whatS))).1) (numF (nextF (nextF (lsF (G mvV whatS))).2).1) = mvF := by rfl
theorem mv_nest : mvV.nest ≤ 1000 := by decide
theorem mv_chk : chkE mvV = 0 := by kernel_rfl
theorem mv_enc : mvV.enc = mvL := by kernel_rfl
end Go.Proofs.YtdmaopfaeigelaaGreatDoor
namespace Go.Proofs.YtdmaopfaeigelaaGreatDoor
set_option linter.unusedSimpArgs false
set_option linter.unusedVariables false
set_option maxRecDepth 100000
open Go.RowKit

theorem mv_fat {w : World} : FAt w mvF a0 := ⟨Sl.none, Sl.none, Sl.none, Sc.none, Sc.none, Sl.none, rfl⟩
theorem ear_fat {w : World} : FAt w earF a0 := ⟨Sl.none, Sl.none, Sl.none, Sc.none, Sc.none, Sl.none, rfl⟩
theorem numA_bd {n : Int} (h : I64 n) : (numA n).bd := ⟨h, by decide, trivial, fun i q h => by simp at h⟩
theorem mv_bd : mvV.bd := by
  refine ⟨⟨by decide, by decide⟩, by decide, ⟨numA_bd ⟨by decide, by decide⟩, numA_bd ⟨by decide, by decide⟩, numA_bd ⟨by decide, by decide⟩, ⟨⟨by decide, by decide⟩, by decide, ⟨numA_bd ⟨by decide, by decide⟩, numA_bd ⟨by decide, by decide⟩, trivial⟩, fun i q h => by simp at h⟩, trivial⟩, ?_⟩
  intro i q h
  match i, h with
  | 0, h => simp at h; subst h; decide
  | 1, h => simp at h; subst h; decide
  | 2, h => simp at h; subst h; decide
  | 3, h => simp at h; subst h; decide
  | n + 4, h => simp at h
theorem mv_dec : decF mvL = some mvV := by rw [← mv_enc]; exact decF_enc mv_chk mv_bd
theorem fwf_of {k r : Int} (h1 : (Lit.int .i64 k).wf = true) (h2 : (Lit.int .i64 r).wf = true) {f : Fc} (e1 : f.kind = k) (e2 : f.r.kind = r) : FWf f := ⟨by rw [e1]; exact h1, by rw [e2]; exact h2⟩
theorem mv_wf : FWf mvF := ⟨by kernel_rfl, by kernel_rfl⟩
theorem ear_wf : FWf earF := ⟨by kernel_rfl, by kernel_rfl⟩
theorem f0_wf : FWf f0 := ⟨by kernel_rfl, by kernel_rfl⟩
theorem mv_encode {w : World} (hE : Env w) (hg : gTop ≤ w.heap.size) : Calls Tryz.prog 17 #[.agg (fC mvF a0).toArray] w (FEnc w mvL 0) := by
  have h := encode_ok mvF a0 w mv_fat mv_wf mv_ok mvV mv_chk (fun W _ => valueMove_any mvF a0 rfl rfl ⟨by decide, by decide⟩ ⟨by decide, by decide⟩ ⟨by decide, by decide⟩ ⟨by decide, by decide⟩ W) mv_nest (by rw [mv_enc]; decide) hE hg
  rw [mv_enc] at h
  exact h
theorem mv_decode {w : World} (hE : Env w) (hg : gTop ≤ w.heap.size) {bv : Value} (hb : BAt w bv mvL) : Calls Tryz.prog 21 #[bv] w (DecGood w (fC mvF a0)) :=
  decode_good mvL bv w hb (by decide) hE hg mvV mv_dec (fC mvF a0) (fC_length _ _ rfl) (fC_one _ _)
    (fun W v hW hv => by
      have h := read_move mvV v W hv mv_kind
      rw [mv_read] at h
      exact h)
    (fun W hW => mv_encode (hE.to hg hW) (Nat.le_trans hg hW.size))
theorem gameE_any (g : Gm) (w : World) : Calls Tryz.prog 15 #[.agg (gC g).toArray] w fun x w' => x = .returned (.int .i64 (if okGame g then 0 else 70)) ∧ Below w.heap.size w w' := by
  have HG := hide fun W => game_any g W
  obtain ⟨b0, hb0⟩ : ∃ b, b = okGame g := ⟨_, rfl⟩
  rw [← hb0] at HG ⊢
  have HB0 := hide hb0
  clear hb0
  obtain ⟨cs, hcs⟩ : ∃ cs, cs = gC g := ⟨_, rfl⟩
  rw [← hcs] at HG ⊢
  have HCS := hide hcs
  clear hcs
  go_enter Tryz.func15, Tryz.ntmps15
  go_upto_region 1 with fail
  generalize hX1 : w.alloc _ = W1
  have hB1 : Below w.heap.size w W1 := hX1 ▸ (Below.refl _ _).alloc (Nat.le_refl _) _
  have HV := hide (boxedV w W1 cs 26 (by rw [← hX1]; rfl))
  have HB := hide hB1
  clear hX1 hB1
  refine wp_region_lit ?_
  refine wpList_vload rfl 26 (.tmp 1) rfl w.heap.size 0 rfl _ Tryz.underlying26 rfl cs (by rw [unhide HCS]; exact infoGm) (unhide HV).range ?_
  try simp only [List.getElem_toArray, List.getElem_cons_zero, List.getElem_cons_succ, Act.put, List.setIfInBounds_toArray, List.set_cons_zero, List.set_cons_succ]
  refine wpList_wanted (by kernel_rfl) fun Kt hKt => ?_
  go_simp
  refine ((unhide HG) W1).mono ?_; rintro x W2 ⟨rfl, hb⟩
  dsimp only
  refine hKt _ _ ?_
  clear hKt Kt
  try simp only [List.getElem_toArray, List.getElem_cons_zero, List.getElem_cons_succ, Act.put, List.setIfInBounds_toArray, List.set_cons_zero, List.set_cons_succ]
  have HB2 := hide (thenB (unhide HB) hb)
  clear hb
  cases b0
  case false =>
    go_wp2_with fail
    go_ret
    exact ⟨rfl, unhide HB2⟩
  case true =>
    go_wp2_with fail
    go_ret
    exact ⟨rfl, unhide HB2⟩
end Go.Proofs.YtdmaopfaeigelaaGreatDoor
namespace Go.Proofs.YtdmaopfaeigelaaGreatDoor
set_option linter.unusedSimpArgs false
set_option linter.unusedVariables false
open Go.RowKit

theorem wpList_gbuild {P : Program} {ops : Array Oper} {rest : List Oper} {o : Oper} {a : Act} {w : World} {Q : Exit → Act → World → Prop} (hw : Region.wanted o (yielded ops a.tmps) = true) (t : TypeId) (parts : Array (Nat × Operand)) (ho : o.op = .build t parts) (cells : Array Value)
    (h0 : P.built t (parts.map fun p => (p.1, a.eval p.2)).toList = some cells) (h : wpList P ops Q rest (a.put o.dst (.agg cells)) w) : wpList P ops Q (o :: rest) a w := by
  refine wpList_wanted hw fun K' hK' => ?_
  have hr := run_build (P := P) w t _ cells h0
  unfold Oper.wp
  simp [execOp, ho, hr, Result.andThen]
  exact hK' _ _ h
abbrev Ret (f : Nat) (args : Array Value) (v : Value) : Prop := ∀ W, Calls Tryz.prog f args W fun x w' => x = .returned v ∧ Below W.heap.size W w'
set_option maxRecDepth 100000 in
set_option maxHeartbeats 8000000 in
theorem sane_core (cs ds zs g0 g1 : List Value) (w : World) (hlc : cs.length = 82) (hld : ds.length = 82) (hoc : ∀ v ∈ cs, v.oneCell' = true) (hod : ∀ v ∈ ds, v.oneCell' = true)
    (hb1 : Tryz.prog.built 45 [(0, .int .i64 6), (1, .int .i64 9), (2, .int .i64 10), (8, .agg #[.int .i64 5, .int .i64 2])] = some cs.toArray)
    (hb2 : Tryz.prog.built 45 [(0, .int .i64 8), (1, .int .i64 50), (2, .int .i64 9)] = some ds.toArray)
    (hb3 : Tryz.prog.built 45 [] = some zs.toArray)
    (hb4 : Tryz.prog.built 26 [] = some g0.toArray)
    (hb5 : Tryz.prog.built 26 [(3, .int .i64 1)] = some g1.toArray)
    (henc : ∀ W, Below w.heap.size w W → Calls Tryz.prog 17 #[.agg cs.toArray] W (FEnc W mvL 0))
    (hdec : ∀ W bv, Below w.heap.size w W → BAt W bv mvL → Calls Tryz.prog 21 #[bv] W (DecGood W cs))
    (hsame : Ret 26 #[.agg cs.toArray, .agg cs.toArray] (.bool true))
    (hck0 : Ret 13 #[.agg zs.toArray] (.int .i64 70))
    (hck1 : Ret 13 #[.agg ds.toArray] (.int .i64 0))
    (hcm1 : Ret 24 #[.agg ds.toArray, .agg cs.toArray] (.int .i64 (-1)))
    (hcm2 : Ret 24 #[.agg cs.toArray, .agg ds.toArray] (.int .i64 1))
    (hcm3 : Ret 24 #[.agg cs.toArray, .agg cs.toArray] (.int .i64 0))
    (hga0 : Ret 15 #[.agg g0.toArray] (.int .i64 70))
    (hga1 : Ret 15 #[.agg g1.toArray] (.int .i64 0)) :
    Calls Tryz.prog 11 #[] w fun x w' => x = .returned (.bool true) ∧ Below w.heap.size w w' := by
  have HLC := hide hlc; have HLD := hide hld; have HOC := hide hoc; have HOD := hide hod
  have HB1' := hide hb1; have HB2' := hide hb2; have HB3' := hide hb3; have HB4' := hide hb4; have HB5' := hide hb5
  have HENC := hide henc; have HDEC := hide hdec; have HSAME := hide hsame; have HCK0 := hide hck0; have HCK1 := hide hck1
  have HCM1 := hide hcm1; have HCM2 := hide hcm2; have HCM3 := hide hcm3; have HGA0 := hide hga0; have HGA1 := hide hga1
  clear hlc hld hoc hod hb1 hb2 hb3 hb4 hb5 henc hdec hsame hck0 hck1 hcm1 hcm2 hcm3 hga0 hga1
  have HB : Hid (Below w.heap.size w w) := Below.refl _ _
  go_enter Tryz.func11, Tryz.ntmps11
  go_upto_region 1 with fail
  refine wp_region_lit ?_
  refine wpList_build rfl 39 _ rfl #[.int .i64 5, .int .i64 2] (by kernel_rfl) ?_
  try simp only [List.getElem_toArray, List.getElem_cons_zero, List.getElem_cons_succ, Act.put, List.setIfInBounds_toArray, List.set_cons_zero, List.set_cons_succ]
  refine wpList_build rfl 45 _ rfl cs.toArray (by have h := unhide HB1'; rw [Array.toList_map]; exact h) ?_
  try simp only [List.getElem_toArray, List.getElem_cons_zero, List.getElem_cons_succ, Act.put, List.setIfInBounds_toArray, List.set_cons_zero, List.set_cons_succ]
  refine wpList_wanted (by kernel_rfl) fun Kt hKt => ?_
  go_simp
  refine hKt _ _ ?_
  clear hKt Kt
  try simp only [List.getElem_toArray, List.getElem_cons_zero, List.getElem_cons_succ, Act.put, List.setIfInBounds_toArray, List.set_cons_zero, List.set_cons_succ]
  generalize hX : w.alloc _ = W1
  have hbx : Below w.heap.size w W1 := hX ▸ (Below.refl _ _).alloc (Nat.le_refl _) _
  have HZ := hide (boxedV w W1 (fC f0 a0) 45 (by rw [← hX]; rfl))
  have HBn := hide (thenB (unhide HB) hbx)
  clear hX hbx HB
  have HB := HBn
  clear HBn
  refine wpList_vput rfl 45 (.tmp 1) (.tmp 8) rfl w.heap.size 0 rfl cs rfl (by rw [unhide HLC]; exact infoFc) (unhide HOC) 45 _ (unhide HZ) (by rw [unhide HLC, fC_length _ _ rfl]; exact Nat.le_refl _) ?_
  intro W2 HV1 HG
  rw [spliceV_all _ _ (by rw [unhide HLC, fC_length _ _ rfl])] at HV1
  have HBn := hide ((unhide HB).grown (unhide HG) (unhide HB).size (fun i e => by injection e with e; have := Nat.le_refl w.heap.size; omega))
  clear HB HG HZ
  have HB := HBn
  clear HBn
  go_upto_region 2 with fail
  refine wp_region_lit ?_
  refine wpList_vload rfl 45 (.tmp 1) rfl (w.heap.size) 0 rfl _ Tryz.underlying45 rfl cs (by rw [unhide HLC]; exact infoFc) (unhide HV1).range ?_
  try simp only [List.getElem_toArray, List.getElem_cons_zero, List.getElem_cons_succ, Act.put, List.setIfInBounds_toArray, List.set_cons_zero, List.set_cons_succ]
  refine wpList_wanted (by kernel_rfl) fun Kt hKt => ?_
  go_simp
  refine ((unhide HENC) W2 (unhide HB)).mono ?_; rintro x W3 ⟨bv, rfl, hbv, hb⟩
  dsimp only
  refine hKt _ _ ?_
  clear hKt Kt
  try simp only [List.getElem_toArray, List.getElem_cons_zero, List.getElem_cons_succ, Act.put, List.setIfInBounds_toArray, List.set_cons_zero, List.set_cons_succ]
  have HBn := hide (thenB (unhide HB) hb)
  have HV1n := hide ((unhide HV1).keep hb)
  have HBV := hide hbv
  clear hbv
  clear hb HB HV1
  have HB := HBn
  have HV1 := HV1n
  clear HBn HV1n
  go_upto_region 3 with fail
  refine wp_region_lit ?_
  refine wpList_plain rfl fun Kt hKt => ?_
  go_simp
  refine hKt _ _ ?_
  clear hKt Kt
  try simp only [List.getElem_toArray, List.getElem_cons_zero, List.getElem_cons_succ, Act.put, List.setIfInBounds_toArray, List.set_cons_zero, List.set_cons_succ]
  refine wpList_wanted (by kernel_rfl) fun Kt hKt => ?_
  go_simp
  refine ((unhide HDEC) W3 bv (unhide HB) (unhide HBV)).mono ?_; rintro x W4 ⟨rfl, hb⟩
  dsimp only
  refine hKt _ _ ?_
  clear hKt Kt
  try simp only [List.getElem_toArray, List.getElem_cons_zero, List.getElem_cons_succ, Act.put, List.setIfInBounds_toArray, List.set_cons_zero, List.set_cons_succ]
  have HBn := hide (thenB (unhide HB) hb)
  have HV1n := hide ((unhide HV1).keep hb)
  have HBVn := hide ((unhide HBV).later hb)
  clear HBV
  have HBV := HBVn
  clear HBVn
  clear hb HB HV1
  have HB := HBn
  have HV1 := HV1n
  clear HBn HV1n
  refine wpList_plain rfl fun Kt hKt => ?_
  go_simp
  refine hKt _ _ ?_
  clear hKt Kt
  try simp only [List.getElem_toArray, List.getElem_cons_zero, List.getElem_cons_succ, Act.put, List.setIfInBounds_toArray, List.set_cons_zero, List.set_cons_succ]
  refine wpList_plain rfl fun Kt hKt => ?_
  go_simp
  refine hKt _ _ ?_
  clear hKt Kt
  try simp only [List.getElem_toArray, List.getElem_cons_zero, List.getElem_cons_succ, Act.put, List.setIfInBounds_toArray, List.set_cons_zero, List.set_cons_succ]
  refine wpList_plain rfl fun Kt hKt => ?_
  go_simp
  refine hKt _ _ ?_
  clear hKt Kt
  try simp only [List.getElem_toArray, List.getElem_cons_zero, List.getElem_cons_succ, Act.put, List.setIfInBounds_toArray, List.set_cons_zero, List.set_cons_succ]
  have HL4 := hide (unhide HB).size
  have HV10 := HV1
  refine wpList_wanted (by kernel_rfl) fun Kt hKt => ?_
  go_simp
  refine hKt _ _ ?_
  clear hKt Kt
  try simp only [List.getElem_toArray, List.getElem_cons_zero, List.getElem_cons_succ, Act.put, List.setIfInBounds_toArray, List.set_cons_zero, List.set_cons_succ]
  generalize hX : W4.alloc _ = W5
  have hbx : Below W4.heap.size W4 W5 := hX ▸ (Below.refl _ _).alloc (Nat.le_refl _) _
  have HZ := hide (boxedV W4 W5 (fC f0 a0) 45 (by rw [← hX]; rfl))
  clear hX
  refine wpList_vput rfl 45 (.tmp 4) (.tmp 17) rfl W4.heap.size 0 rfl cs rfl (by rw [unhide HLC]; exact infoFc) (unhide HOC) 45 _ (unhide HZ) (by rw [unhide HLC, fC_length _ _ rfl]; exact Nat.le_refl _) ?_
  intro W6 HV4 HG
  rw [spliceV_all _ _ (by rw [unhide HLC, fC_length _ _ rfl])] at HV4
  have hbb : Below W4.heap.size W4 W6 := hbx.grown (unhide HG) hbx.size (fun i e => by injection e with e; omega)
  have HBn := hide (thenB (unhide HB) hbb); have HBVn := hide ((unhide HBV).later hbb)
  have HV1n := hide ((unhide HV1).keep hbb)
  clear HB HG HZ HBV hbx hbb HL4 HV1 HV10
  have HB := HBn
  have HBV := HBVn
  have HV1 := HV1n
  clear HBn HBVn HV1n
  go_upto_region 4 with fail
  refine wp_region_lit ?_
  refine wpList_build rfl 45 _ rfl ds.toArray (by have h := unhide HB2'; rw [Array.toList_map]; exact h) ?_
  try simp only [List.getElem_toArray, List.getElem_cons_zero, List.getElem_cons_succ, Act.put, List.setIfInBounds_toArray, List.set_cons_zero, List.set_cons_succ]
  have HL6 := hide (unhide HB).size
  have HV10 := HV1
  have HV40 := HV4
  refine wpList_wanted (by kernel_rfl) fun Kt hKt => ?_
  go_simp
  refine hKt _ _ ?_
  clear hKt Kt
  try simp only [List.getElem_toArray, List.getElem_cons_zero, List.getElem_cons_succ, Act.put, List.setIfInBounds_toArray, List.set_cons_zero, List.set_cons_succ]
  generalize hX : W6.alloc _ = W7
  have hbx : Below W6.heap.size W6 W7 := hX ▸ (Below.refl _ _).alloc (Nat.le_refl _) _
  have HZ := hide (boxedV W6 W7 (fC f0 a0) 45 (by rw [← hX]; rfl))
  clear hX
  refine wpList_vput rfl 45 (.tmp 6) (.tmp 19) rfl W6.heap.size 0 rfl ds rfl (by rw [unhide HLD]; exact infoFc) (unhide HOD) 45 _ (unhide HZ) (by rw [unhide HLD, fC_length _ _ rfl]; exact Nat.le_refl _) ?_
  intro W8 HV6 HG
  rw [spliceV_all _ _ (by rw [unhide HLD, fC_length _ _ rfl])] at HV6
  have hbb : Below W6.heap.size W6 W8 := hbx.grown (unhide HG) hbx.size (fun i e => by injection e with e; omega)
  have HBn := hide (thenB (unhide HB) hbb); have HBVn := hide ((unhide HBV).later hbb)
  have HV1n := hide ((unhide HV1).keep hbb)
  have HV4n := hide ((unhide HV4).keep hbb)
  clear HB HG HZ HBV hbx hbb HL6 HV1 HV10 HV4 HV40
  have HB := HBn
  have HBV := HBVn
  have HV1 := HV1n
  have HV4 := HV4n
  clear HBn HBVn HV1n HV4n
  go_upto_region 5 with fail
  refine wp_region_lit ?_
  refine wpList_plain rfl fun Kt hKt => ?_
  go_simp
  refine hKt _ _ ?_
  clear hKt Kt
  try simp only [List.getElem_toArray, List.getElem_cons_zero, List.getElem_cons_succ, Act.put, List.setIfInBounds_toArray, List.set_cons_zero, List.set_cons_succ]
  refine wpList_plain rfl fun Kt hKt => ?_
  go_simp
  refine hKt _ _ ?_
  clear hKt Kt
  try simp only [List.getElem_toArray, List.getElem_cons_zero, List.getElem_cons_succ, Act.put, List.setIfInBounds_toArray, List.set_cons_zero, List.set_cons_succ]
  refine wpList_plain rfl fun Kt hKt => ?_
  go_simp
  refine hKt _ _ ?_
  clear hKt Kt
  try simp only [List.getElem_toArray, List.getElem_cons_zero, List.getElem_cons_succ, Act.put, List.setIfInBounds_toArray, List.set_cons_zero, List.set_cons_succ]
  refine wpList_wanted (by kernel_rfl) fun Kt hKt => ?_
  go_simp
  refine hKt _ _ ?_
  clear hKt Kt
  try simp only [List.getElem_toArray, List.getElem_cons_zero, List.getElem_cons_succ, Act.put, List.setIfInBounds_toArray, List.set_cons_zero, List.set_cons_succ]
  have hcv := (unhide HBV).conv
  unfold mvL at hcv
  refine wpList_wanted (by kernel_rfl) fun Kt hKt => ?_
  go_simp
  refine hKt _ _ ?_
  clear hKt Kt
  try simp only [List.getElem_toArray, List.getElem_cons_zero, List.getElem_cons_succ, Act.put, List.setIfInBounds_toArray, List.set_cons_zero, List.set_cons_succ]
  clear hcv
  refine wpList_wanted (by kernel_rfl) fun Kt hKt => ?_
  go_simp
  refine hKt _ _ ?_
  clear hKt Kt
  try simp only [List.getElem_toArray, List.getElem_cons_zero, List.getElem_cons_succ, Act.put, List.setIfInBounds_toArray, List.set_cons_zero, List.set_cons_succ]
  refine wpList_plain rfl fun Kt hKt => ?_
  go_simp
  refine hKt _ _ ?_
  clear hKt Kt
  try simp only [List.getElem_toArray, List.getElem_cons_zero, List.getElem_cons_succ, Act.put, List.setIfInBounds_toArray, List.set_cons_zero, List.set_cons_succ]
  refine wpList_plain rfl fun Kt hKt => ?_
  go_simp
  refine hKt _ _ ?_
  clear hKt Kt
  try simp only [List.getElem_toArray, List.getElem_cons_zero, List.getElem_cons_succ, Act.put, List.setIfInBounds_toArray, List.set_cons_zero, List.set_cons_succ]
  refine wpList_wanted (by kernel_rfl) fun Kt hKt => ?_
  go_simp
  refine hKt _ _ ?_
  clear hKt Kt
  try simp only [List.getElem_toArray, List.getElem_cons_zero, List.getElem_cons_succ, Act.put, List.setIfInBounds_toArray, List.set_cons_zero, List.set_cons_succ]
  refine wpList_wanted (by kernel_rfl) fun Kt hKt => ?_
  go_simp
  refine hKt _ _ ?_
  clear hKt Kt
  try simp only [List.getElem_toArray, List.getElem_cons_zero, List.getElem_cons_succ, Act.put, List.setIfInBounds_toArray, List.set_cons_zero, List.set_cons_succ]
  refine wpList_plain rfl fun Kt hKt => ?_
  go_simp
  refine hKt _ _ ?_
  clear hKt Kt
  try simp only [List.getElem_toArray, List.getElem_cons_zero, List.getElem_cons_succ, Act.put, List.setIfInBounds_toArray, List.set_cons_zero, List.set_cons_succ]
  refine wpList_plain rfl fun Kt hKt => ?_
  go_simp
  refine hKt _ _ ?_
  clear hKt Kt
  try simp only [List.getElem_toArray, List.getElem_cons_zero, List.getElem_cons_succ, Act.put, List.setIfInBounds_toArray, List.set_cons_zero, List.set_cons_succ]
  refine wpList_vgload (by kernel_rfl) 45 (.tmp 1) rfl (w.heap.size) 0 rfl _ Tryz.underlying45 rfl cs (by rw [unhide HLC]; exact infoFc) (unhide HV1).range ?_
  try simp only [List.getElem_toArray, List.getElem_cons_zero, List.getElem_cons_succ, Act.put, List.setIfInBounds_toArray, List.set_cons_zero, List.set_cons_succ]
  refine wpList_vgload (by kernel_rfl) 45 (.tmp 4) rfl (W4.heap.size) 0 rfl _ Tryz.underlying45 rfl cs (by rw [unhide HLC]; exact infoFc) (unhide HV4).range ?_
  try simp only [List.getElem_toArray, List.getElem_cons_zero, List.getElem_cons_succ, Act.put, List.setIfInBounds_toArray, List.set_cons_zero, List.set_cons_succ]
  refine wpList_wanted (by kernel_rfl) fun Kt hKt => ?_
  go_simp
  refine ((unhide HSAME) W8).mono ?_; rintro x W9 ⟨rfl, hb⟩
  dsimp only
  refine hKt _ _ ?_
  clear hKt Kt
  try simp only [List.getElem_toArray, List.getElem_cons_zero, List.getElem_cons_succ, Act.put, List.setIfInBounds_toArray, List.set_cons_zero, List.set_cons_succ]
  have HBn := hide (thenB (unhide HB) hb)
  have HV1n := hide ((unhide HV1).keep hb)
  have HV4n := hide ((unhide HV4).keep hb)
  have HV6n := hide ((unhide HV6).keep hb)
  clear hb HB HV1 HV4 HV6
  have HB := HBn
  have HV1 := HV1n
  have HV4 := HV4n
  have HV6 := HV6n
  clear HBn HV1n HV4n HV6n
  refine wpList_plain rfl fun Kt hKt => ?_
  go_simp
  refine hKt _ _ ?_
  clear hKt Kt
  try simp only [List.getElem_toArray, List.getElem_cons_zero, List.getElem_cons_succ, Act.put, List.setIfInBounds_toArray, List.set_cons_zero, List.set_cons_succ]
  refine wpList_plain rfl fun Kt hKt => ?_
  go_simp
  refine hKt _ _ ?_
  clear hKt Kt
  try simp only [List.getElem_toArray, List.getElem_cons_zero, List.getElem_cons_succ, Act.put, List.setIfInBounds_toArray, List.set_cons_zero, List.set_cons_succ]
  refine wpList_gbuild (by kernel_rfl) 45 _ rfl zs.toArray (by have h := unhide HB3'; rw [Array.toList_map]; exact h) ?_
  try simp only [List.getElem_toArray, List.getElem_cons_zero, List.getElem_cons_succ, Act.put, List.setIfInBounds_toArray, List.set_cons_zero, List.set_cons_succ]
  refine wpList_wanted (by kernel_rfl) fun Kt hKt => ?_
  go_simp
  refine ((unhide HCK0) W9).mono ?_; rintro x W10 ⟨rfl, hb⟩
  dsimp only
  refine hKt _ _ ?_
  clear hKt Kt
  try simp only [List.getElem_toArray, List.getElem_cons_zero, List.getElem_cons_succ, Act.put, List.setIfInBounds_toArray, List.set_cons_zero, List.set_cons_succ]
  have HBn := hide (thenB (unhide HB) hb)
  have HV1n := hide ((unhide HV1).keep hb)
  have HV4n := hide ((unhide HV4).keep hb)
  have HV6n := hide ((unhide HV6).keep hb)
  clear hb HB HV1 HV4 HV6
  have HB := HBn
  have HV1 := HV1n
  have HV4 := HV4n
  have HV6 := HV6n
  clear HBn HV1n HV4n HV6n
  refine wpList_wanted (by kernel_rfl) fun Kt hKt => ?_
  go_simp
  refine hKt _ _ ?_
  clear hKt Kt
  try simp only [List.getElem_toArray, List.getElem_cons_zero, List.getElem_cons_succ, Act.put, List.setIfInBounds_toArray, List.set_cons_zero, List.set_cons_succ]
  refine wpList_plain rfl fun Kt hKt => ?_
  go_simp
  refine hKt _ _ ?_
  clear hKt Kt
  try simp only [List.getElem_toArray, List.getElem_cons_zero, List.getElem_cons_succ, Act.put, List.setIfInBounds_toArray, List.set_cons_zero, List.set_cons_succ]
  refine wpList_plain rfl fun Kt hKt => ?_
  go_simp
  refine hKt _ _ ?_
  clear hKt Kt
  try simp only [List.getElem_toArray, List.getElem_cons_zero, List.getElem_cons_succ, Act.put, List.setIfInBounds_toArray, List.set_cons_zero, List.set_cons_succ]
  refine wpList_vgload (by kernel_rfl) 45 (.tmp 6) rfl (W6.heap.size) 0 rfl _ Tryz.underlying45 rfl ds (by rw [unhide HLD]; exact infoFc) (unhide HV6).range ?_
  try simp only [List.getElem_toArray, List.getElem_cons_zero, List.getElem_cons_succ, Act.put, List.setIfInBounds_toArray, List.set_cons_zero, List.set_cons_succ]
  refine wpList_wanted (by kernel_rfl) fun Kt hKt => ?_
  go_simp
  refine ((unhide HCK1) W10).mono ?_; rintro x W11 ⟨rfl, hb⟩
  dsimp only
  refine hKt _ _ ?_
  clear hKt Kt
  try simp only [List.getElem_toArray, List.getElem_cons_zero, List.getElem_cons_succ, Act.put, List.setIfInBounds_toArray, List.set_cons_zero, List.set_cons_succ]
  have HBn := hide (thenB (unhide HB) hb)
  have HV1n := hide ((unhide HV1).keep hb)
  have HV4n := hide ((unhide HV4).keep hb)
  have HV6n := hide ((unhide HV6).keep hb)
  clear hb HB HV1 HV4 HV6
  have HB := HBn
  have HV1 := HV1n
  have HV4 := HV4n
  have HV6 := HV6n
  clear HBn HV1n HV4n HV6n
  refine wpList_wanted (by kernel_rfl) fun Kt hKt => ?_
  go_simp
  refine hKt _ _ ?_
  clear hKt Kt
  try simp only [List.getElem_toArray, List.getElem_cons_zero, List.getElem_cons_succ, Act.put, List.setIfInBounds_toArray, List.set_cons_zero, List.set_cons_succ]
  refine wpList_plain rfl fun Kt hKt => ?_
  go_simp
  refine hKt _ _ ?_
  clear hKt Kt
  try simp only [List.getElem_toArray, List.getElem_cons_zero, List.getElem_cons_succ, Act.put, List.setIfInBounds_toArray, List.set_cons_zero, List.set_cons_succ]
  refine wpList_plain rfl fun Kt hKt => ?_
  go_simp
  refine hKt _ _ ?_
  clear hKt Kt
  try simp only [List.getElem_toArray, List.getElem_cons_zero, List.getElem_cons_succ, Act.put, List.setIfInBounds_toArray, List.set_cons_zero, List.set_cons_succ]
  refine wpList_vgload (by kernel_rfl) 45 (.tmp 6) rfl (W6.heap.size) 0 rfl _ Tryz.underlying45 rfl ds (by rw [unhide HLD]; exact infoFc) (unhide HV6).range ?_
  try simp only [List.getElem_toArray, List.getElem_cons_zero, List.getElem_cons_succ, Act.put, List.setIfInBounds_toArray, List.set_cons_zero, List.set_cons_succ]
  refine wpList_vgload (by kernel_rfl) 45 (.tmp 1) rfl (w.heap.size) 0 rfl _ Tryz.underlying45 rfl cs (by rw [unhide HLC]; exact infoFc) (unhide HV1).range ?_
  try simp only [List.getElem_toArray, List.getElem_cons_zero, List.getElem_cons_succ, Act.put, List.setIfInBounds_toArray, List.set_cons_zero, List.set_cons_succ]
  refine wpList_wanted (by kernel_rfl) fun Kt hKt => ?_
  go_simp
  refine ((unhide HCM1) W11).mono ?_; rintro x W12 ⟨rfl, hb⟩
  dsimp only
  refine hKt _ _ ?_
  clear hKt Kt
  try simp only [List.getElem_toArray, List.getElem_cons_zero, List.getElem_cons_succ, Act.put, List.setIfInBounds_toArray, List.set_cons_zero, List.set_cons_succ]
  have HBn := hide (thenB (unhide HB) hb)
  have HV1n := hide ((unhide HV1).keep hb)
  have HV4n := hide ((unhide HV4).keep hb)
  have HV6n := hide ((unhide HV6).keep hb)
  clear hb HB HV1 HV4 HV6
  have HB := HBn
  have HV1 := HV1n
  have HV4 := HV4n
  have HV6 := HV6n
  clear HBn HV1n HV4n HV6n
  refine wpList_wanted (by kernel_rfl) fun Kt hKt => ?_
  go_simp
  refine hKt _ _ ?_
  clear hKt Kt
  try simp only [List.getElem_toArray, List.getElem_cons_zero, List.getElem_cons_succ, Act.put, List.setIfInBounds_toArray, List.set_cons_zero, List.set_cons_succ]
  refine wpList_plain rfl fun Kt hKt => ?_
  go_simp
  refine hKt _ _ ?_
  clear hKt Kt
  try simp only [List.getElem_toArray, List.getElem_cons_zero, List.getElem_cons_succ, Act.put, List.setIfInBounds_toArray, List.set_cons_zero, List.set_cons_succ]
  refine wpList_plain rfl fun Kt hKt => ?_
  go_simp
  refine hKt _ _ ?_
  clear hKt Kt
  try simp only [List.getElem_toArray, List.getElem_cons_zero, List.getElem_cons_succ, Act.put, List.setIfInBounds_toArray, List.set_cons_zero, List.set_cons_succ]
  refine wpList_vgload (by kernel_rfl) 45 (.tmp 1) rfl (w.heap.size) 0 rfl _ Tryz.underlying45 rfl cs (by rw [unhide HLC]; exact infoFc) (unhide HV1).range ?_
  try simp only [List.getElem_toArray, List.getElem_cons_zero, List.getElem_cons_succ, Act.put, List.setIfInBounds_toArray, List.set_cons_zero, List.set_cons_succ]
  refine wpList_vgload (by kernel_rfl) 45 (.tmp 6) rfl (W6.heap.size) 0 rfl _ Tryz.underlying45 rfl ds (by rw [unhide HLD]; exact infoFc) (unhide HV6).range ?_
  try simp only [List.getElem_toArray, List.getElem_cons_zero, List.getElem_cons_succ, Act.put, List.setIfInBounds_toArray, List.set_cons_zero, List.set_cons_succ]
  refine wpList_wanted (by kernel_rfl) fun Kt hKt => ?_
  go_simp
  refine ((unhide HCM2) W12).mono ?_; rintro x W13 ⟨rfl, hb⟩
  dsimp only
  refine hKt _ _ ?_
  clear hKt Kt
  try simp only [List.getElem_toArray, List.getElem_cons_zero, List.getElem_cons_succ, Act.put, List.setIfInBounds_toArray, List.set_cons_zero, List.set_cons_succ]
  have HBn := hide (thenB (unhide HB) hb)
  have HV1n := hide ((unhide HV1).keep hb)
  have HV4n := hide ((unhide HV4).keep hb)
  have HV6n := hide ((unhide HV6).keep hb)
  clear hb HB HV1 HV4 HV6
  have HB := HBn
  have HV1 := HV1n
  have HV4 := HV4n
  have HV6 := HV6n
  clear HBn HV1n HV4n HV6n
  refine wpList_wanted (by kernel_rfl) fun Kt hKt => ?_
  go_simp
  refine hKt _ _ ?_
  clear hKt Kt
  try simp only [List.getElem_toArray, List.getElem_cons_zero, List.getElem_cons_succ, Act.put, List.setIfInBounds_toArray, List.set_cons_zero, List.set_cons_succ]
  refine wpList_plain rfl fun Kt hKt => ?_
  go_simp
  refine hKt _ _ ?_
  clear hKt Kt
  try simp only [List.getElem_toArray, List.getElem_cons_zero, List.getElem_cons_succ, Act.put, List.setIfInBounds_toArray, List.set_cons_zero, List.set_cons_succ]
  refine wpList_plain rfl fun Kt hKt => ?_
  go_simp
  refine hKt _ _ ?_
  clear hKt Kt
  try simp only [List.getElem_toArray, List.getElem_cons_zero, List.getElem_cons_succ, Act.put, List.setIfInBounds_toArray, List.set_cons_zero, List.set_cons_succ]
  refine wpList_vgload (by kernel_rfl) 45 (.tmp 1) rfl (w.heap.size) 0 rfl _ Tryz.underlying45 rfl cs (by rw [unhide HLC]; exact infoFc) (unhide HV1).range ?_
  try simp only [List.getElem_toArray, List.getElem_cons_zero, List.getElem_cons_succ, Act.put, List.setIfInBounds_toArray, List.set_cons_zero, List.set_cons_succ]
  refine wpList_vgload (by kernel_rfl) 45 (.tmp 4) rfl (W4.heap.size) 0 rfl _ Tryz.underlying45 rfl cs (by rw [unhide HLC]; exact infoFc) (unhide HV4).range ?_
  try simp only [List.getElem_toArray, List.getElem_cons_zero, List.getElem_cons_succ, Act.put, List.setIfInBounds_toArray, List.set_cons_zero, List.set_cons_succ]
  refine wpList_wanted (by kernel_rfl) fun Kt hKt => ?_
  go_simp
  refine ((unhide HCM3) W13).mono ?_; rintro x W14 ⟨rfl, hb⟩
  dsimp only
  refine hKt _ _ ?_
  clear hKt Kt
  try simp only [List.getElem_toArray, List.getElem_cons_zero, List.getElem_cons_succ, Act.put, List.setIfInBounds_toArray, List.set_cons_zero, List.set_cons_succ]
  have HBn := hide (thenB (unhide HB) hb)
  have HV1n := hide ((unhide HV1).keep hb)
  have HV4n := hide ((unhide HV4).keep hb)
  have HV6n := hide ((unhide HV6).keep hb)
  clear hb HB HV1 HV4 HV6
  have HB := HBn
  have HV1 := HV1n
  have HV4 := HV4n
  have HV6 := HV6n
  clear HBn HV1n HV4n HV6n
  refine wpList_wanted (by kernel_rfl) fun Kt hKt => ?_
  go_simp
  refine hKt _ _ ?_
  clear hKt Kt
  try simp only [List.getElem_toArray, List.getElem_cons_zero, List.getElem_cons_succ, Act.put, List.setIfInBounds_toArray, List.set_cons_zero, List.set_cons_succ]
  refine wpList_plain rfl fun Kt hKt => ?_
  go_simp
  refine hKt _ _ ?_
  clear hKt Kt
  try simp only [List.getElem_toArray, List.getElem_cons_zero, List.getElem_cons_succ, Act.put, List.setIfInBounds_toArray, List.set_cons_zero, List.set_cons_succ]
  refine wpList_plain rfl fun Kt hKt => ?_
  go_simp
  refine hKt _ _ ?_
  clear hKt Kt
  try simp only [List.getElem_toArray, List.getElem_cons_zero, List.getElem_cons_succ, Act.put, List.setIfInBounds_toArray, List.set_cons_zero, List.set_cons_succ]
  refine wpList_gbuild (by kernel_rfl) 26 _ rfl g0.toArray (by have h := unhide HB4'; rw [Array.toList_map]; exact h) ?_
  try simp only [List.getElem_toArray, List.getElem_cons_zero, List.getElem_cons_succ, Act.put, List.setIfInBounds_toArray, List.set_cons_zero, List.set_cons_succ]
  refine wpList_wanted (by kernel_rfl) fun Kt hKt => ?_
  go_simp
  refine ((unhide HGA0) W14).mono ?_; rintro x W15 ⟨rfl, hb⟩
  dsimp only
  refine hKt _ _ ?_
  clear hKt Kt
  try simp only [List.getElem_toArray, List.getElem_cons_zero, List.getElem_cons_succ, Act.put, List.setIfInBounds_toArray, List.set_cons_zero, List.set_cons_succ]
  have HBn := hide (thenB (unhide HB) hb)
  have HV1n := hide ((unhide HV1).keep hb)
  have HV4n := hide ((unhide HV4).keep hb)
  have HV6n := hide ((unhide HV6).keep hb)
  clear hb HB HV1 HV4 HV6
  have HB := HBn
  have HV1 := HV1n
  have HV4 := HV4n
  have HV6 := HV6n
  clear HBn HV1n HV4n HV6n
  refine wpList_wanted (by kernel_rfl) fun Kt hKt => ?_
  go_simp
  refine hKt _ _ ?_
  clear hKt Kt
  try simp only [List.getElem_toArray, List.getElem_cons_zero, List.getElem_cons_succ, Act.put, List.setIfInBounds_toArray, List.set_cons_zero, List.set_cons_succ]
  refine wpList_plain rfl fun Kt hKt => ?_
  go_simp
  refine hKt _ _ ?_
  clear hKt Kt
  try simp only [List.getElem_toArray, List.getElem_cons_zero, List.getElem_cons_succ, Act.put, List.setIfInBounds_toArray, List.set_cons_zero, List.set_cons_succ]
  refine wpList_plain rfl fun Kt hKt => ?_
  go_simp
  refine hKt _ _ ?_
  clear hKt Kt
  try simp only [List.getElem_toArray, List.getElem_cons_zero, List.getElem_cons_succ, Act.put, List.setIfInBounds_toArray, List.set_cons_zero, List.set_cons_succ]
  refine wpList_gbuild (by kernel_rfl) 26 _ rfl g1.toArray (by have h := unhide HB5'; rw [Array.toList_map]; exact h) ?_
  try simp only [List.getElem_toArray, List.getElem_cons_zero, List.getElem_cons_succ, Act.put, List.setIfInBounds_toArray, List.set_cons_zero, List.set_cons_succ]
  refine wpList_wanted (by kernel_rfl) fun Kt hKt => ?_
  go_simp
  refine ((unhide HGA1) W15).mono ?_; rintro x W16 ⟨rfl, hb⟩
  dsimp only
  refine hKt _ _ ?_
  clear hKt Kt
  try simp only [List.getElem_toArray, List.getElem_cons_zero, List.getElem_cons_succ, Act.put, List.setIfInBounds_toArray, List.set_cons_zero, List.set_cons_succ]
  have HBn := hide (thenB (unhide HB) hb)
  have HV1n := hide ((unhide HV1).keep hb)
  have HV4n := hide ((unhide HV4).keep hb)
  have HV6n := hide ((unhide HV6).keep hb)
  clear hb HB HV1 HV4 HV6
  have HB := HBn
  have HV1 := HV1n
  have HV4 := HV4n
  have HV6 := HV6n
  clear HBn HV1n HV4n HV6n
  refine wpList_wanted (by kernel_rfl) fun Kt hKt => ?_
  go_simp
  refine hKt _ _ ?_
  clear hKt Kt
  try simp only [List.getElem_toArray, List.getElem_cons_zero, List.getElem_cons_succ, Act.put, List.setIfInBounds_toArray, List.set_cons_zero, List.set_cons_succ]
  go_wp2_with fail
  go_ret
  exact ⟨rfl, unhide HB⟩
end Go.Proofs.YtdmaopfaeigelaaGreatDoor
namespace Go.Proofs.YtdmaopfaeigelaaGreatDoor
set_option linter.unusedSimpArgs false
set_option linter.unusedVariables false
set_option maxRecDepth 100000
open Go.RowKit

theorem built_mv : Tryz.prog.built 45 [(0, .int .i64 6), (1, .int .i64 9), (2, .int .i64 10), (8, .agg #[.int .i64 5, .int .i64 2])] = some (fC mvF a0).toArray := by kernel_rfl
theorem built_ear : Tryz.prog.built 45 [(0, .int .i64 8), (1, .int .i64 50), (2, .int .i64 9)] = some (fC earF a0).toArray := by kernel_rfl
theorem built_f0 : Tryz.prog.built 45 [] = some (fC f0 a0).toArray := by kernel_rfl
theorem built_g0 : Tryz.prog.built 26 [] = some (gC ⟨0, 0, 0, 0⟩).toArray := by kernel_rfl
theorem built_g1 : Tryz.prog.built 26 [(3, .int .i64 1)] = some (gC ⟨0, 0, 0, 1⟩).toArray := by kernel_rfl
theorem okg0 : okGame ⟨0, 0, 0, 0⟩ = false := by kernel_rfl
theorem okg1 : okGame ⟨0, 0, 0, 1⟩ = true := by kernel_rfl
theorem sane_any (w : World) (hE : Env w) (hg : gTop ≤ w.heap.size) : Calls Tryz.prog 11 #[] w fun x w' => x = .returned (.bool true) ∧ Below w.heap.size w w' := by
  refine sane_core (fC mvF a0) (fC earF a0) (fC f0 a0) (gC ⟨0, 0, 0, 0⟩) (gC ⟨0, 0, 0, 1⟩) w (fC_length _ _ rfl) (fC_length _ _ rfl) (fC_one _ _) (fC_one _ _) built_mv built_ear built_f0 built_g0 built_g1 ?_ ?_ ?_ ?_ ?_ ?_ ?_ ?_ ?_ ?_
  · exact fun W hW => mv_encode (hE.to hg hW) (Nat.le_trans hg hW.size)
  · exact fun W bv hW hb => mv_decode (hE.to hg hW) (Nat.le_trans hg hW.size) hb
  · intro W
    have h := same_any mvF mvF a0 a0 W mv_fat mv_fat
    rw [mv_same] at h
    exact h
  · intro W
    have h := check_any' f0 a0 W FAt.zero f0_wf
    rw [f0_bad] at h
    exact h
  · intro W
    have h := check_any' earF a0 W ear_fat ear_wf
    rw [ear_ok] at h
    exact h
  · intro W
    have h := compare_first earF a0 mvF a0 W rfl rfl (.inl (by rw [cmp1]; decide))
    rw [cmp1] at h
    exact h
  · intro W
    have h := compare_first mvF a0 earF a0 W rfl rfl (.inl (by rw [cmp2]; decide))
    rw [cmp2] at h
    exact h
  · intro W
    have h := compare_first mvF a0 mvF a0 W rfl rfl (.inr fun W' _ => by
      have h := same_any mvF mvF a0 a0 W' mv_fat mv_fat
      rw [mv_same] at h
      exact h)
    rw [cmp3] at h
    exact h
  · intro W
    have h := gameE_any ⟨0, 0, 0, 0⟩ W
    rw [okg0] at h
    exact h
  · intro W
    have h := gameE_any ⟨0, 0, 0, 1⟩ W
    rw [okg1] at h
    exact h
end Go.Proofs.YtdmaopfaeigelaaGreatDoor
