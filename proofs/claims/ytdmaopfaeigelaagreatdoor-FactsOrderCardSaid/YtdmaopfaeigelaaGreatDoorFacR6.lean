/- Contracts over the program of facts: read of a move; Decode of what Encode wrote. -/
import Derived.Test.YtdmaopfaeigelaaGreatDoorFacR5
import Derived.Test.YtdmaopfaeigelaaGreatDoorFacZ
namespace Go.Proofs.YtdmaopfaeigelaaGreatDoor
set_option linter.unusedSimpArgs false
set_option linter.unusedVariables false
open Go.RowKit

def moveF (d k p t : Int) : Fc := { f0 with kind := 6, day := d, known := k, mp := p, mt := t }
theorem moveF_put (d k p t : Int) : spliceV (fC { f0 with kind := 6, day := d, known := k } a0) [.int .i64 p, .int .i64 t] 45 = fC (moveF d k p t) a0 := rfl
theorem read_move (V : Va) (v : Value) (w : World) (hv : VAt w V v) (hk : numF (G V kindS) = 6) :
    Calls Tryz.prog 44 #[v] w fun e w' => e = .returned (.agg (fC (moveF (numF (G V dayS)) (numF (G V knownS)) (numF (nextF (lsF (G V whatS))).1) (numF (nextF (nextF (lsF (G V whatS))).2).1)) a0).toArray) ∧ Below w.heap.size w w' := by
  refine (read_some V v w hv (by rw [hk]; rfl) (fun cs _ => cs = fC (moveF (numF (G V dayS)) (numF (G V knownS)) (numF (nextF (lsF (G V whatS))).1) (numF (nextF (nextF (lsF (G V whatS))).2).1)) a0) ?_ ?_).mono ?_
  · intro W bx rb fb hW h1 h2 hr hbx hne hfr hbf hf
    rw [hk]
    refine (build6_any bx rb fb _ _ W hbx hne hfr hbf hr hf (fC_length _ _ rfl)).mono ?_
    rintro e w' ⟨rfl, hv, hb⟩
    have e1 : baseF V = { f0 with kind := 6, day := numF (G V dayS), known := numF (G V knownS) } := by unfold baseF; rw [hk]
    rw [e1, moveF_put] at hv
    exact ⟨rfl, ⟨_, hv, fC_length _ _ rfl, fC_one _ _, rfl⟩, hb⟩
  · intro cs W W' h _ _
    exact h
  · rintro e w' ⟨cs, rfl, _, rfl, hb⟩
    exact ⟨rfl, hb⟩
def DecGood (w : World) (cs : List Value) (e : Ending) (w' : World) : Prop := e = .returned (.tuple #[.agg cs.toArray, .int .i64 0]) ∧ Below w.heap.size w w'
set_option maxRecDepth 100000 in
set_option maxHeartbeats 4000000 in
theorem decode_good (l : List UInt8) (bv : Value) (w : World) (hbv : BAt w bv l) (hl : l.length ≤ 1000000000) (hE : Env w) (hg : gTop ≤ w.heap.size) (V : Va) (hd : decF l = some V) (cs : List Value) (hcl : cs.length = 82) (hone : ∀ v ∈ cs, v.oneCell' = true)
    (hread : ∀ W v, Below w.heap.size w W → VAt W V v → Calls Tryz.prog 44 #[v] W fun e w' => e = .returned (.agg cs.toArray) ∧ Below W.heap.size W w')
    (henc : ∀ W, Below w.heap.size w W → Calls Tryz.prog 17 #[.agg cs.toArray] W (FEnc W l 0)) :
    Calls Tryz.prog 21 #[bv] w (DecGood w cs) := by
  have HDEC := hide (fun W (h : Below w.heap.size w W) => decode_b (hbv.later h) hl (hE.to hg h) (Nat.le_trans hg h.size))
  have HRD := hide hread; have HEN := hide henc; have HL := hide hcl; have HO := hide hone; have HD := hide hd; have HBV := hide hbv
  obtain ⟨A, c, rfl, _⟩ := hbv
  clear hread henc hcl hone hd hE hg hl
  go_enter Tryz.func21, Tryz.ntmps21
  go_upto_region 1 with fail
  generalize hX1 : w.alloc _ = W1
  have hB1 : Below w.heap.size w W1 := hX1 ▸ (Below.refl _ _).alloc (Nat.le_refl _) _
  have HF1 := hide (boxedV w W1 (fC f0 a0) 45 (by rw [← hX1]; rfl))
  have HB1 := hide hB1
  clear hX1 hB1
  go_wp2_with fail
  refine ((unhide HDEC) W1 (unhide HB1)).mono ?_; rintro x W2 ⟨hx, hb⟩
  rw [unhide HD] at hx
  obtain ⟨v, rfl, hv⟩ := hx
  have HB2 := hide (thenB (unhide HB1) hb); have HF2 := hide ((unhide HF1).keep hb)
  have hva := hv.at
  obtain ⟨k1, n1, s1, l1, ks1, A1, c1, B1, d1, hV, rfl, _⟩ := hva.open
  have HVA := hide hva
  clear hb hv hva hV HF1 HB1 HDEC HD
  unfold vaV at *
  go_upto_region 2 with fail
  generalize hX3 : W2.alloc _ = W3
  have hB3 : Below W2.heap.size W2 W3 := hX3 ▸ (Below.refl _ _).alloc (Nat.le_refl _) _
  have HX3 := hide (boxedV W2 W3 [.int .i64 k1, .int .i64 n1, .string s1, .slice A1 l1.length c1, .slice B1 ks1.length d1] 66 (by rw [← hX3]; rfl))
  have HB3 := hide (thenB (unhide HB2) hB3); have HF3 := hide ((unhide HF2).keep hB3); have HV3 := hide ((unhide HVA).later hB3)
  clear hX3 hB3 HF2 HVA HB2
  go_upto_region 4 with fail
  refine wp_region_lit ?_
  refine wpList_vload rfl 66 (.tmp 4) rfl W2.heap.size 0 rfl _ Tryz.underlying66 rfl [.int .i64 k1, .int .i64 n1, .string s1, .slice A1 l1.length c1, .slice B1 ks1.length d1] infoVa (unhide HX3).range ?_
  try simp only [List.getElem_toArray, List.getElem_cons_zero, List.getElem_cons_succ, Act.put, List.setIfInBounds_toArray, List.set_cons_zero, List.set_cons_succ]
  refine wpList_wanted (by kernel_rfl) fun Kt hKt => ?_
  go_simp
  refine ((unhide HRD) W3 _ (unhide HB3) (unhide HV3)).mono ?_; rintro x W4 ⟨rfl, hb⟩
  dsimp only
  refine hKt _ _ ?_
  clear hKt Kt
  try simp only [List.getElem_toArray, List.getElem_cons_zero, List.getElem_cons_succ, Act.put, List.setIfInBounds_toArray, List.set_cons_zero, List.set_cons_succ]
  have HB4 := hide (thenB (unhide HB3) hb); have HF4 := hide ((unhide HF3).keep hb)
  clear hb HF3 HX3 HV3
  refine wpList_vput rfl 45 (.tmp 2) (.tmp 15) rfl w.heap.size 0 rfl cs rfl (by rw [unhide HL]; exact infoFc) (unhide HO) 45 _ (unhide HF4) (by rw [unhide HL, fC_length _ _ rfl]; exact Nat.le_refl _) ?_
  intro W5 HF5 HG5
  rw [spliceV_all _ _ (by rw [unhide HL, fC_length _ _ rfl])] at HF5
  have HB5 := hide ((unhide HB4).grown (unhide HG5) (unhide HB4).size (fun i e => by injection e with e; omega))
  clear HF4 HG5
  go_upto_region 5 with fail
  refine wp_region_lit ?_
  refine wpList_vload rfl 45 (.tmp 2) rfl w.heap.size 0 rfl _ Tryz.underlying45 rfl cs (by rw [unhide HL]; exact infoFc) (unhide HF5).range ?_
  try simp only [List.getElem_toArray, List.getElem_cons_zero, List.getElem_cons_succ, Act.put, List.setIfInBounds_toArray, List.set_cons_zero, List.set_cons_succ]
  refine wpList_wanted (by kernel_rfl) fun Kt hKt => ?_
  go_simp
  refine ((unhide HEN) W5 (unhide HB5)).mono ?_; rintro x W6 ⟨ev, rfl, hev, hb⟩
  dsimp only
  refine hKt _ _ ?_
  clear hKt Kt
  try simp only [List.getElem_toArray, List.getElem_cons_zero, List.getElem_cons_succ, Act.put, List.setIfInBounds_toArray, List.set_cons_zero, List.set_cons_succ]
  have HB6 := hide (thenB (unhide HB5) hb); have HF6 := hide ((unhide HF5).keep hb); have HEV := hide hev
  obtain ⟨A6, c6, rfl, _⟩ := hev
  clear hb HF5
  have HEQ := hide (bequal_any _ _ l l W6 (unhide HEV) ((unhide HBV).later (unhide HB6)))
  go_upto_region 6 with fail
  refine wp_region_lit ?_
  refine wpList_plain rfl fun Kt hKt => ?_
  go_simp
  refine hKt _ _ ?_
  clear hKt Kt
  try simp only [List.getElem_toArray, List.getElem_cons_zero, List.getElem_cons_succ, Act.put, List.setIfInBounds_toArray, List.set_cons_zero, List.set_cons_succ]
  refine wpList_plain rfl fun Kt hKt => ?_
  go_simp
  refine hKt _ _ ?_
  clear hKt Kt
  try simp only [List.getElem_toArray, List.getElem_cons_zero, List.getElem_cons_succ, Act.put, List.setIfInBounds_toArray, List.set_cons_zero, List.set_cons_succ]
  refine wpList_plain rfl fun Kt hKt => ?_
  go_simp
  refine hKt _ _ ?_
  clear hKt Kt
  try simp only [List.getElem_toArray, List.getElem_cons_zero, List.getElem_cons_succ, Act.put, List.setIfInBounds_toArray, List.set_cons_zero, List.set_cons_succ]
  refine wpList_wanted (by kernel_rfl) fun Kt hKt => ?_
  go_simp
  refine hKt _ _ ?_
  clear hKt Kt
  try simp only [List.getElem_toArray, List.getElem_cons_zero, List.getElem_cons_succ, Act.put, List.setIfInBounds_toArray, List.set_cons_zero, List.set_cons_succ]
  refine wpList_wanted (by kernel_rfl) fun Kt hKt => ?_
  go_simp
  refine hKt _ _ ?_
  clear hKt Kt
  try simp only [List.getElem_toArray, List.getElem_cons_zero, List.getElem_cons_succ, Act.put, List.setIfInBounds_toArray, List.set_cons_zero, List.set_cons_succ]
  refine wpList_wanted (by kernel_rfl) fun Kt hKt => ?_
  go_simp
  refine (unhide HEQ).mono ?_; rintro x W7 ⟨rfl, rfl⟩
  dsimp only
  refine hKt _ _ ?_
  clear hKt Kt
  try simp only [List.getElem_toArray, List.getElem_cons_zero, List.getElem_cons_succ, Act.put, List.setIfInBounds_toArray, List.set_cons_zero, List.set_cons_succ]
  have hdt : decide (l = l) = true := decide_eq_true rfl
  go_upto_region 8 with fail
  refine wp_region_lit ?_
  refine wpList_vload rfl 45 (.tmp 2) rfl w.heap.size 0 rfl _ Tryz.underlying45 rfl cs (by rw [unhide HL]; exact infoFc) (unhide HF6).range ?_
  try simp only [List.getElem_toArray, List.getElem_cons_zero, List.getElem_cons_succ, Act.put, List.setIfInBounds_toArray, List.set_cons_zero, List.set_cons_succ]
  refine wpList_vput rfl 45 (.tmp 2) (.tmp 30) rfl w.heap.size 0 rfl cs rfl (by rw [unhide HL]; exact infoFc) (unhide HO) 45 _ (unhide HF6) (by simp) ?_
  intro W9 HF9 HG9
  rw [spliceV_all _ _ rfl] at HF9
  have HB9 := hide ((unhide HB6).grown (unhide HG9) (unhide HB6).size (fun i e => by injection e with e; omega))
  go_wp2_with fail
  refine vret2 rfl rfl w.heap.size rfl 45 cs (unhide HF9) _ Tryz.underlying45 rfl (by rw [unhide HL]; exact infoFc) (.int .i64 0) rfl ⟨rfl, unhide HB9⟩
end Go.Proofs.YtdmaopfaeigelaaGreatDoor
