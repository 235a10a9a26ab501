/- Contracts over the program of facts: isFact. -/
import Derived.Test.YtdmaopfaeigelaaGreatDoorFacP
import Derived.Test.YtdmaopfaeigelaaGreatDoorFacT
namespace Go.Proofs.YtdmaopfaeigelaaGreatDoor
set_option linter.unusedSimpArgs false
set_option linter.unusedVariables false
open Go.RowKit

/-- what a look-up of a kind finds -/
theorem cond_look {W : World} {b : Nat} (h : W.ownsMap Tryz.prog 3 cR b 8 condD) (k : Int) (hk : (Lit.int .i64 k).wf = true) :
    ∃ p q, (Instr.lookup 102 (.map (some b)) (.int .i64 k) true).run Tryz.prog W = .ok (.tuple #[.agg #[p, q], .bool (inR k 1 8)]) W ∧ (inR k 1 8 = true → p = fnV (condI k).1 ∧ q = fnV (condI k).2) ∧ ∀ v ∈ [p, q], v.oneCell' = true := by
  obtain ⟨v, ps, hrun, hv⟩ := h.look_ok (Maps.int_keyed Tryz.underlying3) Tryz.underlying102 (cond_zero W) (zd := .agg [.lit (.int .i64 0), .lit (.int .i64 0)]) (zp := []) rfl (keyZ k hk)
  obtain ⟨p, q, rfl, hp, hq⟩ := cR_shape hv
  have hone : ∀ v ∈ [p, q], v.oneCell' = true := by
    intro v hv
    simp only [List.mem_cons, List.not_mem_nil, or_false] at hv
    rcases hv with rfl | rfl
    · exact hp
    · exact hq
  by_cases hin : 1 ≤ k ∧ k ≤ 8
  · obtain ⟨h1, h2⟩ := condD_yes k hin.1 hin.2 (.agg [.lit (.int .i64 0), .lit (.int .i64 0)])
    rw [h1] at hv
    rw [h2] at hrun
    have e := cR_inv hv
    have hb : inR k 1 8 = true := by unfold inR; rw [decide_eq_true hin.1, decide_eq_true hin.2]; rfl
    rw [hb]
    refine ⟨p, q, hrun, fun _ => ?_, hone⟩
    unfold cV at e
    injection e with e
    injection e with e
    injection e with e1 e
    injection e with e2 e
    exact ⟨e1, e2⟩
  · rw [condD_no k hin] at hrun
    have hb : inR k 1 8 = false := by
      unfold inR
      rw [Bool.and_eq_false_iff, decide_eq_false_iff_not, decide_eq_false_iff_not]
      omega
    rw [hb]
    exact ⟨p, q, hrun, (fun h => absurd h (by decide)), hone⟩
theorem infoCf : (Tryz.prog.info? 100).map (·.size) = some 2 := by kernel_rfl
/-- a fact with the kind and the days of another one -/
def withHead (f o : Fc) : Fc := { o with kind := f.kind, day := f.day, known := f.known }
def okFact (f : Fc) : Bool := inR f.kind 1 8 && inR f.day 0 1048576 && inR f.known 0 1048576 && fHold f.kind f && fcEq f (withHead f (fOwn f.kind f))
def LotOk : Prop := ∀ (f : Fc) (a : Ad) (w : World), FAt w f a → FWf f → Calls Tryz.prog 127 #[.agg (fC f a).toArray] w fun x w' => x = .returned (.bool (fHold 7 f)) ∧ Below w.heap.size w w'
theorem fh_all (H7 : LotOk) (k : Int) (h1 : 1 ≤ k) (h2 : k ≤ 8) (f : Fc) (a : Ad) (w : World) (hf : FAt w f a) (hw : FWf f) : Calls Tryz.prog (condI k).1 #[.agg (fC f a).toArray] w fun x w' => x = .returned (.bool (fHold k f)) ∧ Below w.heap.size w w' := by
  have : k = 1 ∨ k = 2 ∨ k = 3 ∨ k = 4 ∨ k = 5 ∨ k = 6 ∨ k = 7 ∨ k = 8 := by omega
  rcases this with rfl | rfl | rfl | rfl | rfl | rfl | rfl | rfl
  · exact fh1_any f a w hf hw
  · exact fh2_any f a w hf hw
  · exact fh3_any f a w hf hw
  · exact fh4_any f a w hf hw
  · exact fh5_any f a w hf hw
  · exact fh6_any f a w hf hw
  · exact H7 f a w hf hw
  · exact fh8_any f a w hf hw
set_option maxRecDepth 100000 in
set_option maxHeartbeats 4000000 in
theorem isFact_any (H7 : LotOk) (f : Fc) (a : Ad) (w : World) (hf : FAt w f a) (hw : FWf f) : Calls Tryz.prog 33 #[.agg (fC f a).toArray] w fun x w' => x = .returned (.bool (okFact f)) ∧ Below w.heap.size w w' := by
  obtain ⟨cs, hcs⟩ : ∃ zz, zz = fC f a := ⟨_, rfl⟩
  rw [← hcs]
  have HCS := hide hcs
  have HF := hide hf; have HW := hide hw; have HH7 := hide H7
  obtain ⟨R, hR⟩ : ∃ R, R = okFact f := ⟨_, rfl⟩
  rw [← hR]
  obtain ⟨kd, hkd⟩ : ∃ k, k = f.kind := ⟨_, rfl⟩
  obtain ⟨dy, hdy⟩ : ∃ k, k = f.day := ⟨_, rfl⟩
  obtain ⟨kn, hkn⟩ : ∃ k, k = f.known := ⟨_, rfl⟩
  obtain ⟨b0, hb0⟩ : ∃ b, b = inR kd 1 8 := ⟨_, rfl⟩
  obtain ⟨b1, hb1⟩ : ∃ b, b = inR dy 0 1048576 := ⟨_, rfl⟩
  obtain ⟨b2, hb2⟩ : ∃ b, b = inR kn 0 1048576 := ⟨_, rfl⟩
  obtain ⟨b3, hb3⟩ : ∃ b, b = fHold kd f := ⟨_, rfl⟩
  obtain ⟨b4, hb4⟩ : ∃ b, b = fcEq f (withHead f (fOwn kd f)) := ⟨_, rfl⟩
  have HR : Hid (R = (b0 && b1 && b2 && b3 && b4)) := by
    have : R = (b0 && b1 && b2 && b3 && b4) := by
      rw [hR, hb0, hb1, hb2, hb3, hb4, hkd, hdy, hkn]; rfl
    exact this
  have HWK : Hid ((Lit.int .i64 kd).wf = true) := by
    have : (Lit.int .i64 kd).wf = true := by rw [hkd]; exact hw.1
    exact this
  have HB0 := hide hb0; have HB1' := hide hb1; have HB2' := hide hb2; have HB3' := hide hb3; have HB4' := hide hb4
  have HKD := hide hkd; have HDY := hide hdy; have HKN := hide hkn
  clear hcs hf hw H7 hR hkd hdy hkn hb0 hb1 hb2 hb3 hb4
  go_enter Tryz.func33, Tryz.ntmps33
  go_upto_region 1 with fail
  generalize hX1 : w.alloc _ = W1
  have hB1 : Below w.heap.size w W1 := hX1 ▸ (Below.refl _ _).alloc (Nat.le_refl _) _
  have HV1 := hide (boxedV w W1 cs 45 (by rw [← hX1]; rfl))
  rw [unhide HCS] at HV1
  have HB1 := hide hB1
  clear hX1 hB1
  have hc2 : W1.cell? ⟨w.heap.size, 0, none⟩ = some (.int .i64 kd) := by rw [unhide HKD]; exact (unhide HV1).cell (j := 0) rfl
  have HC2 := hide hc2
  clear hc2
  rename_i Qx Kx hKx
  have cont : ∀ (mb pb : Nat) (p q : Value) (V : World), Hid (VsAt V pb 100 [p, q]) → Hid (Below W1.heap.size W1 V) → Hid (inR kd 1 8 = true → p = fnV (condI kd).1 ∧ q = fnV (condI kd).2) → Hid (W1.heap.size ≤ pb) →
      Kx { tmps := #[.agg cs.toArray, .pointer (some ⟨w.heap.size, 0, none⟩), .bool false, .pointer (some ⟨pb, 0, none⟩), .bool (inR kd 1 8), undef, .tuple #[.agg #[p, q], .bool (inR kd 1 8)], .map (some mb), .pointer (some ⟨w.heap.size, 0, none⟩), .int .i64 kd, .tuple #[.agg #[p, q], .bool (inR kd 1 8)], .agg #[p, q], .bool (inR kd 1 8), undef, undef, undef, undef, undef, undef, undef, undef, undef, undef, undef, undef, undef, undef, undef, undef, undef, undef, undef, undef, undef, undef, undef, undef, undef, undef, undef, undef, undef, undef, undef, undef, undef, undef, undef, undef, undef], defers := [] } V := by
    intro mb pb p q V HVC HBV HPQ HPB
    refine hKx _ _ ?_
    clear hKx
    rw [← unhide HB0] at HPQ ⊢
    as_aux_lemma =>
    have HBw := hide (thenB (unhide HB1) (unhide HBV))
    have HVV := hide ((unhide HV1).keep (unhide HBV))
    have hcp : V.cell? ⟨pb, 0, none⟩ = some p := (unhide HVC).cell rfl
    have hcq : V.cell? ⟨pb, 1, none⟩ = some q := (unhide HVC).cell rfl
    have hc0 : V.cell? ⟨w.heap.size, 0, none⟩ = some (.int .i64 kd) := by rw [unhide HKD]; exact (unhide HVV).cell (j := 0) rfl
    have hc1 : V.cell? ⟨w.heap.size, 1, none⟩ = some (.int .i64 dy) := by rw [unhide HDY]; exact (unhide HVV).cell (j := 1) rfl
    have hc2 : V.cell? ⟨w.heap.size, 2, none⟩ = some (.int .i64 kn) := by rw [unhide HKN]; exact (unhide HVV).cell (j := 2) rfl
    cases b0
    case false =>
      go_wp2_with fail
      go_ret
      exact ⟨by rw [unhide HR]; rfl, unhide HBw⟩
    have HKR : Hid (1 ≤ kd ∧ kd ≤ 8) := by
      have h := (unhide HB0).symm
      unfold inR at h
      have h2 := (Bool.and_eq_true _ _).mp h
      rw [decide_eq_true_eq, decide_eq_true_eq] at h2
      exact h2
    obtain ⟨rfl, rfl⟩ := (unhide HPQ) rfl
    unfold fnV at hcp hcq
    have HCP := hide hcp
    clear hcp hcq
    have HC1 := hide fun X => day_any dy X
    rw [← unhide HB1'] at HC1
    have HCI := hide fun X => day_any kn X
    rw [← unhide HB2'] at HCI
    have HH := hide fun X (h : FAt X f a) => fh_all (unhide HH7) kd (unhide HKR).1 (unhide HKR).2 f a X h (unhide HW)
    rw [← unhide HB3'] at HH
    have HRUN := hide fun (args : Array Value) (X : World) => (run_cond kd (unhide HKR).1 (unhide HKR).2 args X).1
    go_upto_region 2 with fail
    refine wp_region_lit ?_
    refine wpList_plain rfl fun Kt hKt => ?_
    go_simp
    refine hKt _ _ ?_
    clear hKt Kt
    try simp only [List.getElem_toArray, List.getElem_cons_zero, List.getElem_cons_succ, Act.put, List.setIfInBounds_toArray, List.set_cons_zero, List.set_cons_succ]
    refine wpList_plain rfl fun Kt hKt => ?_
    go_simp
    refine hKt _ _ ?_
    clear hKt Kt
    try simp only [List.getElem_toArray, List.getElem_cons_zero, List.getElem_cons_succ, Act.put, List.setIfInBounds_toArray, List.set_cons_zero, List.set_cons_succ]
    refine wpList_plain rfl fun Kt hKt => ?_
    go_simp
    refine hKt _ _ ?_
    clear hKt Kt
    try simp only [List.getElem_toArray, List.getElem_cons_zero, List.getElem_cons_succ, Act.put, List.setIfInBounds_toArray, List.set_cons_zero, List.set_cons_succ]
    refine wpList_wanted (by kernel_rfl) fun Kt hKt => ?_
    go_simp
    refine hKt _ _ ?_
    clear hKt Kt
    try simp only [List.getElem_toArray, List.getElem_cons_zero, List.getElem_cons_succ, Act.put, List.setIfInBounds_toArray, List.set_cons_zero, List.set_cons_succ]
    refine wpList_wanted (by kernel_rfl) fun Kt hKt => ?_
    go_simp
    refine hKt _ _ ?_
    clear hKt Kt
    try simp only [List.getElem_toArray, List.getElem_cons_zero, List.getElem_cons_succ, Act.put, List.setIfInBounds_toArray, List.set_cons_zero, List.set_cons_succ]
    refine wpList_wanted (by kernel_rfl) fun Kt hKt => ?_
    go_simp
    refine ((unhide HC1) V).mono ?_; rintro x V2 ⟨rfl, rfl⟩
    dsimp only
    refine hKt _ _ ?_
    clear hKt Kt
    try simp only [List.getElem_toArray, List.getElem_cons_zero, List.getElem_cons_succ, Act.put, List.setIfInBounds_toArray, List.set_cons_zero, List.set_cons_succ]
    cases b1
    case false =>
      go_wp2_with fail
      go_ret
      exact ⟨by rw [unhide HR]; rfl, unhide HBw⟩
    refine wpList_wanted (by kernel_rfl) fun Kt hKt => ?_
    go_simp
    refine hKt _ _ ?_
    clear hKt Kt
    try simp only [List.getElem_toArray, List.getElem_cons_zero, List.getElem_cons_succ, Act.put, List.setIfInBounds_toArray, List.set_cons_zero, List.set_cons_succ]
    refine wpList_plain rfl fun Kt hKt => ?_
    go_simp
    refine hKt _ _ ?_
    clear hKt Kt
    try simp only [List.getElem_toArray, List.getElem_cons_zero, List.getElem_cons_succ, Act.put, List.setIfInBounds_toArray, List.set_cons_zero, List.set_cons_succ]
    refine wpList_plain rfl fun Kt hKt => ?_
    go_simp
    refine hKt _ _ ?_
    clear hKt Kt
    try simp only [List.getElem_toArray, List.getElem_cons_zero, List.getElem_cons_succ, Act.put, List.setIfInBounds_toArray, List.set_cons_zero, List.set_cons_succ]
    refine wpList_wanted (by kernel_rfl) fun Kt hKt => ?_
    go_simp
    refine hKt _ _ ?_
    clear hKt Kt
    try simp only [List.getElem_toArray, List.getElem_cons_zero, List.getElem_cons_succ, Act.put, List.setIfInBounds_toArray, List.set_cons_zero, List.set_cons_succ]
    refine wpList_wanted (by kernel_rfl) fun Kt hKt => ?_
    go_simp
    refine hKt _ _ ?_
    clear hKt Kt
    try simp only [List.getElem_toArray, List.getElem_cons_zero, List.getElem_cons_succ, Act.put, List.setIfInBounds_toArray, List.set_cons_zero, List.set_cons_succ]
    refine wpList_wanted (by kernel_rfl) fun Kt hKt => ?_
    go_simp
    refine ((unhide HCI) V2).mono ?_; rintro x V3 ⟨rfl, rfl⟩
    dsimp only
    refine hKt _ _ ?_
    clear hKt Kt
    try simp only [List.getElem_toArray, List.getElem_cons_zero, List.getElem_cons_succ, Act.put, List.setIfInBounds_toArray, List.set_cons_zero, List.set_cons_succ]
    cases b2
    case false =>
      go_wp2_with fail
      go_ret
      exact ⟨by rw [unhide HR]; rfl, unhide HBw⟩
    have hcp := unhide HCP
    refine wpList_wanted (by kernel_rfl) fun Kt hKt => ?_
    go_simp
    refine hKt _ _ ?_
    clear hKt Kt
    try simp only [List.getElem_toArray, List.getElem_cons_zero, List.getElem_cons_succ, Act.put, List.setIfInBounds_toArray, List.set_cons_zero, List.set_cons_succ]
    refine wpList_plain rfl fun Kt hKt => ?_
    go_simp
    refine hKt _ _ ?_
    clear hKt Kt
    try simp only [List.getElem_toArray, List.getElem_cons_zero, List.getElem_cons_succ, Act.put, List.setIfInBounds_toArray, List.set_cons_zero, List.set_cons_succ]
    refine wpList_plain rfl fun Kt hKt => ?_
    go_simp
    refine hKt _ _ ?_
    clear hKt Kt
    try simp only [List.getElem_toArray, List.getElem_cons_zero, List.getElem_cons_succ, Act.put, List.setIfInBounds_toArray, List.set_cons_zero, List.set_cons_succ]
    refine wpList_wanted (by kernel_rfl) fun Kt hKt => ?_
    go_simp
    refine hKt _ _ ?_
    clear hKt Kt
    try simp only [List.getElem_toArray, List.getElem_cons_zero, List.getElem_cons_succ, Act.put, List.setIfInBounds_toArray, List.set_cons_zero, List.set_cons_succ]
    refine wpList_wanted (by kernel_rfl) fun Kt hKt => ?_
    go_simp
    refine hKt _ _ ?_
    clear hKt Kt
    try simp only [List.getElem_toArray, List.getElem_cons_zero, List.getElem_cons_succ, Act.put, List.setIfInBounds_toArray, List.set_cons_zero, List.set_cons_succ]
    refine wpList_vgload (by kernel_rfl) 45 (.tmp 1) rfl w.heap.size 0 rfl _ Tryz.underlying45 rfl (fC f a) (by rw [fC_length _ _ (unhide HF).void]; exact infoFc) (unhide HVV).range ?_
    try simp only [List.getElem_toArray, List.getElem_cons_zero, List.getElem_cons_succ, Act.put, List.setIfInBounds_toArray, List.set_cons_zero, List.set_cons_succ]
    refine wpList_wanted (by kernel_rfl) fun Kt hKt => ?_
    go_simp
    rw [(unhide HRUN) _ V3, Oper.upon_enter]
    refine ((unhide HH) V3 ((unhide HF).keep (unhide HBw))).mono ?_; rintro x V4 ⟨rfl, hG⟩
    dsimp only
    refine hKt _ _ ?_
    clear hKt Kt
    try simp only [List.getElem_toArray, List.getElem_cons_zero, List.getElem_cons_succ, Act.put, List.setIfInBounds_toArray, List.set_cons_zero, List.set_cons_succ]
    have HB4 := hide (thenB (unhide HBw) hG)
    have HVV4 := hide ((unhide HVV).keep hG)
    have HVC4 := hide ((unhide HVC).keep hG)
    clear hcp hG hc0 hc1 hc2
    cases b3
    case false =>
      go_wp2_with fail
      go_ret
      exact ⟨by rw [unhide HR]; rfl, unhide HB4⟩
    as_aux_lemma =>
    have hcq : V4.cell? ⟨pb, 1, none⟩ = some (.func (.func (condI kd).2) #[] #[]) := (unhide HVC4).cell rfl
    have HO := hide fun X => fo_all kd (unhide HKR).1 (unhide HKR).2 f a (unhide HF).void X
    have HRUN2 := hide fun (args : Array Value) (X : World) => (run_cond kd (unhide HKR).1 (unhide HKR).2 args X).2
    go_upto_region 4 with fail
    refine wp_region_lit ?_
    refine wpList_plain rfl fun Kt hKt => ?_
    go_simp
    refine hKt _ _ ?_
    clear hKt Kt
    try simp only [List.getElem_toArray, List.getElem_cons_zero, List.getElem_cons_succ, Act.put, List.setIfInBounds_toArray, List.set_cons_zero, List.set_cons_succ]
    refine wpList_plain rfl fun Kt hKt => ?_
    go_simp
    refine hKt _ _ ?_
    clear hKt Kt
    try simp only [List.getElem_toArray, List.getElem_cons_zero, List.getElem_cons_succ, Act.put, List.setIfInBounds_toArray, List.set_cons_zero, List.set_cons_succ]
    refine wpList_vload rfl 45 (.tmp 1) rfl w.heap.size 0 rfl _ Tryz.underlying45 rfl (fC f a) (by rw [fC_length _ _ (unhide HF).void]; exact infoFc) (unhide HVV4).range ?_
    try simp only [List.getElem_toArray, List.getElem_cons_zero, List.getElem_cons_succ, Act.put, List.setIfInBounds_toArray, List.set_cons_zero, List.set_cons_succ]
    refine wpList_plain rfl fun Kt hKt => ?_
    go_simp
    rw [(unhide HRUN2) _ V4, Oper.upon_enter]
    refine ((unhide HO) V4).mono ?_; rintro x V5 ⟨rfl, hG⟩
    dsimp only
    refine hKt _ _ ?_
    clear hKt Kt
    try simp only [List.getElem_toArray, List.getElem_cons_zero, List.getElem_cons_succ, Act.put, List.setIfInBounds_toArray, List.set_cons_zero, List.set_cons_succ]
    have HB5 := hide (thenB (unhide HB4) hG)
    have HVV5 := hide ((unhide HVV4).keep hG)
    clear hcq hG
    refine wpList_plain rfl fun Kt hKt => ?_
    go_simp
    generalize hX2 : V5.alloc _ = V6
    have hbz : Below V5.heap.size V5 V6 := hX2 ▸ (Below.refl _ _).alloc (Nat.le_refl _) _
    have hz2 := boxedV V5 V6 (fC f0 a0) 45 (by rw [← hX2]; rfl)
    refine hKt _ _ ?_
    clear hKt Kt hX2
    try simp only [List.getElem_toArray, List.getElem_cons_zero, List.getElem_cons_succ, Act.put, List.setIfInBounds_toArray, List.set_cons_zero, List.set_cons_succ]
    have HB6 := hide (thenB (unhide HB5) hbz)
    have HVV6 := hide ((unhide HVV5).keep hbz)
    have HZ := hide hz2
    clear hbz hz2
    obtain ⟨own, hown⟩ : ∃ zz, zz = fOwn kd f := ⟨_, rfl⟩
    obtain ⟨ao, hao⟩ : ∃ zz, zz = aOwn kd a := ⟨_, rfl⟩
    have hfo := (unhide HF).own kd (unhide HKR).1 (unhide HKR).2
    rw [← hown, ← hao] at hfo ⊢
    have HFO := hide hfo; have HOWN := hide hown; have HAO := hide hao
    clear hfo hown hao
    refine wpList_vput rfl 45 (.tmp 5) (.tmp 37) rfl V5.heap.size 0 rfl (fC own ao) rfl (by rw [fC_length _ _ (unhide HFO).void]; exact infoFc) (fC_one _ _) _ (fC f0 a0) (unhide HZ) (by rw [fC_length _ _ (unhide HFO).void, fC_length _ _ rfl]; omega) ?_
    intro V7 HV7 HG7
    rw [spliceV_all _ _ (by rw [fC_length _ _ (unhide HFO).void, fC_length _ _ rfl])] at HV7
    as_aux_lemma =>
    have hlt : w.heap.size < V5.heap.size := lt_of_block (unhide HVV5)
    have HVV7 := hide ((unhide HVV6).grown (unhide HG7) (fun e => by injection e with e; omega))
    have HB7 := hide ((unhide HB6).grown (unhide HG7) (unhide HB6).size (fun i e => by injection e with e; omega))
    have hle : V5.heap.size ≤ V7.heap.size := Nat.le_of_lt (lt_of_block (unhide HV7))
    have HA0 : Hid (V7.cell? ⟨w.heap.size, 0, none⟩ = some (.int .i64 kd)) := by
      have : V7.cell? ⟨w.heap.size, 0, none⟩ = some (.int .i64 kd) := by rw [unhide HKD]; exact (unhide HVV7).cell (j := 0) rfl
      exact this
    have HA1 : Hid (V7.cell? ⟨w.heap.size, 1, none⟩ = some (.int .i64 dy)) := by
      have : V7.cell? ⟨w.heap.size, 1, none⟩ = some (.int .i64 dy) := by rw [unhide HDY]; exact (unhide HVV7).cell (j := 1) rfl
      exact this
    have HA2 : Hid (V7.cell? ⟨w.heap.size, 2, none⟩ = some (.int .i64 kn)) := by
      have : V7.cell? ⟨w.heap.size, 2, none⟩ = some (.int .i64 kn) := by rw [unhide HKN]; exact (unhide HVV7).cell (j := 2) rfl
      exact this
    clear HVV HVV4 HVV5 HVV6 HVC HVC4 HV1 HC2
    go_upto_region 5 with fail
    rename_i K5 hK5
    obtain ⟨Y, hY⟩ : ∃ Y, Y = V7.drewN 1 := ⟨_, rfl⟩
    have HY : Hid (Y = V7.drewN 1) := hY
    have hS : Below V5.heap.size V7 Y := (below_named HY).mono hle
    clear hY
    refine held (S := Below V5.heap.size V7) Y HY (by kernel_rfl) ?_
    refine wpAnyH_take (i := 0) (v := ?_) rfl (by kernel_rfl) (by kernel_rfl) (by kernel_rfl) (fun _ _ _ h => h) (Or.inl ⟨by kernel_rfl, ?_⟩) (by assumption) ?_
    rotate_left
    · intro Wt hSt
      go_simp
      try with_reducible rfl
    try simp only [List.getElem_toArray, List.getElem_cons_zero, List.getElem_cons_succ, Act.put, List.setIfInBounds_toArray, List.set_cons_zero, List.set_cons_succ]
    refine wpAnyH_take (i := 1) (v := ?_) rfl (by kernel_rfl) (by kernel_rfl) (by kernel_rfl) (fun _ _ _ h => h) (Or.inl ⟨by kernel_rfl, ?_⟩) (by assumption) ?_
    rotate_left
    · intro Wt hSt
      have hct := (show Wt.cell? ⟨w.heap.size, 0, none⟩ = some (.int .i64 kd) from (hSt.cell (p := ⟨w.heap.size, 0, none⟩) hlt).trans (unhide HA0))
      go_simp
      try with_reducible rfl
    try simp only [List.getElem_toArray, List.getElem_cons_zero, List.getElem_cons_succ, Act.put, List.setIfInBounds_toArray, List.set_cons_zero, List.set_cons_succ]
    refine wpAnyH_take (i := 2) (v := ?_) rfl (by kernel_rfl) (by kernel_rfl) (by kernel_rfl) (fun _ _ _ h => h) (Or.inl ⟨by kernel_rfl, ?_⟩) (by assumption) ?_
    rotate_left
    · intro Wt hSt
      go_simp
      try with_reducible rfl
    try simp only [List.getElem_toArray, List.getElem_cons_zero, List.getElem_cons_succ, Act.put, List.setIfInBounds_toArray, List.set_cons_zero, List.set_cons_succ]
    refine wpAnyH_take (i := 3) (v := ?_) rfl (by kernel_rfl) (by kernel_rfl) (by kernel_rfl) (fun _ _ _ h => h) (Or.inl ⟨by kernel_rfl, ?_⟩) (by assumption) ?_
    rotate_left
    · intro Wt hSt
      have hct := (show Wt.cell? ⟨w.heap.size, 1, none⟩ = some (.int .i64 dy) from (hSt.cell (p := ⟨w.heap.size, 1, none⟩) hlt).trans (unhide HA1))
      go_simp
      try with_reducible rfl
    try simp only [List.getElem_toArray, List.getElem_cons_zero, List.getElem_cons_succ, Act.put, List.setIfInBounds_toArray, List.set_cons_zero, List.set_cons_succ]
    refine wpAnyH_take (i := 4) (v := ?_) rfl (by kernel_rfl) (by kernel_rfl) (by kernel_rfl) (fun _ _ _ h => h) (Or.inl ⟨by kernel_rfl, ?_⟩) (by assumption) ?_
    rotate_left
    · intro Wt hSt
      go_simp
      try with_reducible rfl
    try simp only [List.getElem_toArray, List.getElem_cons_zero, List.getElem_cons_succ, Act.put, List.setIfInBounds_toArray, List.set_cons_zero, List.set_cons_succ]
    refine wpAnyH_take (i := 5) (v := ?_) rfl (by kernel_rfl) (by kernel_rfl) (by kernel_rfl) (fun _ _ _ h => h) (Or.inl ⟨by kernel_rfl, ?_⟩) (by assumption) ?_
    rotate_left
    · intro Wt hSt
      have hct := (show Wt.cell? ⟨w.heap.size, 2, none⟩ = some (.int .i64 kn) from (hSt.cell (p := ⟨w.heap.size, 2, none⟩) hlt).trans (unhide HA2))
      go_simp
      try with_reducible rfl
    try simp only [List.getElem_toArray, List.getElem_cons_zero, List.getElem_cons_succ, Act.put, List.setIfInBounds_toArray, List.set_cons_zero, List.set_cons_succ]
    refine wpAnyH_take (i := 6) (v := ?_) rfl (by kernel_rfl) (by kernel_rfl) (by kernel_rfl) (fun _ _ _ h => h) (Or.inl ⟨by kernel_rfl, ?_⟩) (by assumption) ?_
    rotate_left
    · intro Wt hSt
      go_simp
      try with_reducible rfl
    try simp only [List.getElem_toArray, List.getElem_cons_zero, List.getElem_cons_succ, Act.put, List.setIfInBounds_toArray, List.set_cons_zero, List.set_cons_succ]
    have HVYr := hide ((unhide HVV7).keep (below_named HY))
    have HVY := hide ((unhide HV7).keep (below_named HY))
    have HSY := hide hS
    refine wpAnyH_chainOf [7, 8, 9, 10, 11] _ _ _ (by kernel_rfl) (by kernel_rfl) ?_
    simp only [List.filterMap_cons, List.filterMap_nil, List.getElem?_toArray, List.getElem?_cons_zero, List.getElem?_cons_succ]
    have hp0 := (unhide HVY).cell (j := 0) rfl
    have hf0 := (unhide HVY).free 0
    refine wpChain_step rfl fun Kt hKt => ?_
    go_simp
    have hSn : Below V5.heap.size V7 (Y.setCell ⟨V5.heap.size, 0, none⟩ (.int .i64 kd)) := (unhide HSY).grown (fgrownSetCells V5.heap.size [.int .i64 kd] 0 Y) (Nat.le_of_lt (lt_of_block (unhide HVY))) (fun i e => by injection e with e; omega)
    have hvn := (unhide HVY).set 0 (.int .i64 kd)
    generalize Y.setCell ⟨V5.heap.size, 0, none⟩ (.int .i64 kd) = Z1 at hSn hvn ⊢
    refine hKt _ _ hSn ?_
    clear hKt Kt hp0 hf0
    have HVZ1 := hide hvn
    have HSZ1 := hide hSn
    clear hSn hvn
    refine wpChain_step rfl fun Kt hKt => ?_
    go_simp
    refine hKt _ _ (unhide HSZ1) ?_
    clear hKt Kt
    have hp1 := (unhide HVZ1).cell (j := 1) rfl
    have hf1 := (unhide HVZ1).free 1
    refine wpChain_step rfl fun Kt hKt => ?_
    go_simp
    have hSn : Below V5.heap.size V7 (Z1.setCell ⟨V5.heap.size, 1, none⟩ (.int .i64 dy)) := (unhide HSZ1).grown (fgrownSetCells V5.heap.size [.int .i64 dy] 1 Z1) (Nat.le_of_lt (lt_of_block (unhide HVZ1))) (fun i e => by injection e with e; omega)
    have hvn := (unhide HVZ1).set 1 (.int .i64 dy)
    generalize Z1.setCell ⟨V5.heap.size, 1, none⟩ (.int .i64 dy) = Z2 at hSn hvn ⊢
    refine hKt _ _ hSn ?_
    clear hKt Kt hp1 hf1
    have HVZ2 := hide hvn
    have HSZ2 := hide hSn
    clear hSn hvn
    refine wpChain_step rfl fun Kt hKt => ?_
    go_simp
    refine hKt _ _ (unhide HSZ2) ?_
    clear hKt Kt
    have hp2 := (unhide HVZ2).cell (j := 2) rfl
    have hf2 := (unhide HVZ2).free 2
    refine wpChain_step rfl fun Kt hKt => ?_
    go_simp
    have hSn : Below V5.heap.size V7 (Z2.setCell ⟨V5.heap.size, 2, none⟩ (.int .i64 kn)) := (unhide HSZ2).grown (fgrownSetCells V5.heap.size [.int .i64 kn] 2 Z2) (Nat.le_of_lt (lt_of_block (unhide HVZ2))) (fun i e => by injection e with e; omega)
    have hvn := (unhide HVZ2).set 2 (.int .i64 kn)
    generalize Z2.setCell ⟨V5.heap.size, 2, none⟩ (.int .i64 kn) = Z3 at hSn hvn ⊢
    refine hKt _ _ hSn ?_
    clear hKt Kt hp2 hf2
    have HVZ3 := hide hvn
    have HSZ3 := hide hSn
    clear hSn hvn
    refine wpChain_nil ?_
    refine hK5 _ _ ?_
    clear hK5
    have HBZ := hide ((unhide HB7).trans ((unhide HSZ3).mono (Nat.le_of_lt hlt)))
    have HRZ : Hid (VsAt Z3 w.heap.size 45 (fC f a)) := hide (((unhide HSZ3).block _ hlt).trans (unhide HVV7))
    have HOZ : Hid (VsAt Z3 V5.heap.size 45 (fC (withHead f own) ao)) := by
      have h := unhide HVZ3
      rw [unhide HKD, unhide HDY, unhide HKN] at h
      exact h
    have HFO2 : Hid (FAt Z3 (withHead f own) ao) := by
      have h := (unhide HFO).keep (unhide HBZ)
      have : FAt Z3 (withHead f own) ao := ⟨h.cl, h.hs, h.as_, h.hc, h.ac, h.od, h.void⟩
      exact this
    clear HVY HSY HVZ1 HSZ1 HVZ2 HSZ2 HVZ3 HSZ3 HVYr
    clear hlt hle HA0 HA1 HA2 HRUN HRUN2 HC1 HCI HH HO HPQ HVV7 HB4 HB5 HB6 HB7 HBV HBw
    as_aux_lemma =>
    go_upto_region 6 with fail
    refine wp_region_lit ?_
    refine wpList_vload rfl 45 (.tmp 1) rfl w.heap.size 0 rfl _ Tryz.underlying45 rfl (fC f a) (by rw [fC_length _ _ (unhide HF).void]; exact infoFc) (unhide HRZ).range ?_
    try simp only [List.getElem_toArray, List.getElem_cons_zero, List.getElem_cons_succ, Act.put, List.setIfInBounds_toArray, List.set_cons_zero, List.set_cons_succ]
    refine wpList_vload rfl 45 (.tmp 5) rfl V5.heap.size 0 rfl _ Tryz.underlying45 rfl (fC (withHead f own) ao) (by rw [fC_length _ _ (unhide HFO2).void]; exact infoFc) (unhide HOZ).range ?_
    try simp only [List.getElem_toArray, List.getElem_cons_zero, List.getElem_cons_succ, Act.put, List.setIfInBounds_toArray, List.set_cons_zero, List.set_cons_succ]
    have hsm := same_any f (withHead f own) a ao Z3 ((unhide HF).keep (unhide HBZ)) (unhide HFO2)
    rw [unhide HOWN, ← unhide HB4', ← unhide HOWN] at hsm
    have HSM := hide hsm
    clear hsm
    go_wp2_with fail
    refine (unhide HSM).mono ?_; rintro x Z4 ⟨rfl, hG⟩
    have HBE := hide (thenB (unhide HBZ) hG)
    clear hG
    go_wp2_with fail
    go_ret
    exact ⟨by rw [unhide HR]; cases b4 <;> rfl, unhide HBE⟩
  clear hKx
  obtain ⟨W, hW⟩ : ∃ W, W = W1.drewN 1 := ⟨_, rfl⟩
  have HW : Hid (W = W1.drewN 1) := hW
  have hS : Below W1.heap.size W1 W := below_named HW
  clear hW
  refine held (S := Below W1.heap.size W1) W HW (by kernel_rfl) ?_
  refine wpAnyH_take (i := 1) (v := ?_) rfl (by kernel_rfl) (by kernel_rfl) (by kernel_rfl) (fun _ _ _ h => h) (Or.inl ⟨by kernel_rfl, ?_⟩) (by assumption) ?_
  rotate_left
  · intro Wt hSt
    go_simp
    try with_reducible rfl
  try simp only [List.getElem_toArray, List.getElem_cons_zero, List.getElem_cons_succ, Act.put, List.setIfInBounds_toArray, List.set_cons_zero, List.set_cons_succ]
  refine wpAnyH_take (i := 2) (v := ?_) rfl (by kernel_rfl) (by kernel_rfl) (by kernel_rfl) (fun _ _ _ h => h) (Or.inl ⟨by kernel_rfl, ?_⟩) (by assumption) ?_
  rotate_left
  · intro Wt hSt
    have hct := (show Wt.cell? ⟨w.heap.size, 0, none⟩ = some (.int .i64 kd) from (hSt.cell (p := ⟨w.heap.size, 0, none⟩) (lt_of_cell (unhide HC2))).trans (unhide HC2))
    go_simp
    try with_reducible rfl
  try simp only [List.getElem_toArray, List.getElem_cons_zero, List.getElem_cons_succ, Act.put, List.setIfInBounds_toArray, List.set_cons_zero, List.set_cons_succ]
  refine wpAnyH_two 0 7 _ _ rfl rfl (by kernel_rfl) (by kernel_rfl) (by kernel_rfl) ?_ ?_
  · intro Kt hK
    go_simp
    refine (cond_any W).mono ?_; rintro x V1 ⟨rfl, hg1, ho1⟩
    dsimp only
    have hS1 := thenB hS hg1
    refine hK _ _ hS1 ?_
    clear hK Kt
    try simp only [List.getElem_toArray, List.getElem_cons_zero, List.getElem_cons_succ, Act.put, List.setIfInBounds_toArray, List.set_cons_zero, List.set_cons_succ]
    refine wpAnyH_two 3 7 _ _ rfl rfl (by kernel_rfl) (by kernel_rfl) (by kernel_rfl) ?_ ?_
    · intro Kt hK
      obtain ⟨p, q, hrun, hpq, hone⟩ := cond_look ho1 kd (unhide HWK)
      go_simp
      refine hK _ _ hS1 ?_
      clear hK Kt hrun
      try simp only [List.getElem_toArray, List.getElem_cons_zero, List.getElem_cons_succ, Act.put, List.setIfInBounds_toArray, List.set_cons_zero, List.set_cons_succ]
      refine wpAnyH_take (i := 4) (v := ?_) rfl (by kernel_rfl) (by kernel_rfl) (by kernel_rfl) (fun _ _ _ h => h) (Or.inl ⟨by kernel_rfl, ?_⟩) (by assumption) ?_
      rotate_left
      · intro Wt hSt
        go_simp
        try with_reducible rfl
      try simp only [List.getElem_toArray, List.getElem_cons_zero, List.getElem_cons_succ, Act.put, List.setIfInBounds_toArray, List.set_cons_zero, List.set_cons_succ]
      refine wpAnyH_take (i := 5) (v := ?_) rfl (by kernel_rfl) (by kernel_rfl) (by kernel_rfl) (fun _ _ _ h => h) (Or.inl ⟨by kernel_rfl, ?_⟩) (by assumption) ?_
      rotate_left
      · intro Wt hSt
        go_simp
        try with_reducible rfl
      try simp only [List.getElem_toArray, List.getElem_cons_zero, List.getElem_cons_succ, Act.put, List.setIfInBounds_toArray, List.set_cons_zero, List.set_cons_succ]
      refine wpAnyH_take (i := 6) (v := ?_) rfl (by kernel_rfl) (by kernel_rfl) (by kernel_rfl) (fun _ _ _ h => h) (Or.inl ⟨by kernel_rfl, ?_⟩) (by assumption) ?_
      rotate_left
      · intro Wt hSt
        go_simp
        try with_reducible rfl
      try simp only [List.getElem_toArray, List.getElem_cons_zero, List.getElem_cons_succ, Act.put, List.setIfInBounds_toArray, List.set_cons_zero, List.set_cons_succ]
      refine wpAnyH_one 7 _ rfl (by kernel_rfl) (by kernel_rfl) ?_
      intro Kt hK
      go_simp
      generalize hX2 : V1.alloc _ = V2
      have hbz : Below V1.heap.size V1 V2 := hX2 ▸ (Below.refl _ _).alloc (Nat.le_refl _) _
      have hz2 := boxedV V1 V2 [.nilFunc, .nilFunc] 100 (by rw [← hX2]; rfl)
      have hS2 := thenB hS1 hbz
      refine hK _ _ hS2 ?_
      clear hK Kt hX2
      try simp only [List.getElem_toArray, List.getElem_cons_zero, List.getElem_cons_succ, Act.put, List.setIfInBounds_toArray, List.set_cons_zero, List.set_cons_succ]
      refine wpAnyH_chainOf [8, 9] _ _ _ (by kernel_rfl) (by kernel_rfl) ?_
      simp only [List.filterMap_cons, List.filterMap_nil, List.getElem?_toArray, List.getElem?_cons_zero, List.getElem?_cons_succ]
      refine wpChain_vput rfl 100 (.tmp 3) (.tmp 11) rfl V1.heap.size 0 rfl [p, q] rfl infoCf hone _ [.nilFunc, .nilFunc] hz2 (by simp) ?_
      intro V9 HV9 HG9
      have hle : W1.heap.size ≤ V1.heap.size := hS1.size
      have hS9 := hS2.grown (unhide HG9) hS2.size (fun i e => by injection e with e; omega)
      refine ⟨hS9, ?_⟩
      refine wpChain_step rfl fun Kt hKt => ?_
      go_simp
      refine hKt _ _ hS9 ?_
      clear hKt Kt
      refine wpChain_nil ?_
      exact cont _ _ p q V9 HV9 (hide hS9) (hide hpq) (hide hle)
  
    · intro Kt hK
      go_simp
      generalize hX2 : V1.alloc _ = V2
      have hbz : Below V1.heap.size V1 V2 := hX2 ▸ (Below.refl _ _).alloc (Nat.le_refl _) _
      have ho2 : V2.ownsMap _ _ _ _ _ _ := hX2 ▸ ho1.alloc _
      have hz2 := boxedV V1 V2 [.nilFunc, .nilFunc] 100 (by rw [← hX2]; rfl)
      have hS2 := thenB hS1 hbz
      refine hK _ _ hS2 ?_
      clear hK Kt hX2
      try simp only [List.getElem_toArray, List.getElem_cons_zero, List.getElem_cons_succ, Act.put, List.setIfInBounds_toArray, List.set_cons_zero, List.set_cons_succ]
      refine wpAnyH_one 3 _ rfl (by kernel_rfl) (by kernel_rfl) ?_
      skip
      intro Kt hK
      obtain ⟨p, q, hrun, hpq, hone⟩ := cond_look ho2 kd (unhide HWK)
      go_simp
      refine hK _ _ hS2 ?_
      clear hK Kt hrun
      try simp only [List.getElem_toArray, List.getElem_cons_zero, List.getElem_cons_succ, Act.put, List.setIfInBounds_toArray, List.set_cons_zero, List.set_cons_succ]
      refine wpAnyH_take (i := 4) (v := ?_) rfl (by kernel_rfl) (by kernel_rfl) (by kernel_rfl) (fun _ _ _ h => h) (Or.inl ⟨by kernel_rfl, ?_⟩) (by assumption) ?_
      rotate_left
      · intro Wt hSt
        go_simp
        try with_reducible rfl
      try simp only [List.getElem_toArray, List.getElem_cons_zero, List.getElem_cons_succ, Act.put, List.setIfInBounds_toArray, List.set_cons_zero, List.set_cons_succ]
      refine wpAnyH_take (i := 5) (v := ?_) rfl (by kernel_rfl) (by kernel_rfl) (by kernel_rfl) (fun _ _ _ h => h) (Or.inl ⟨by kernel_rfl, ?_⟩) (by assumption) ?_
      rotate_left
      · intro Wt hSt
        go_simp
        try with_reducible rfl
      try simp only [List.getElem_toArray, List.getElem_cons_zero, List.getElem_cons_succ, Act.put, List.setIfInBounds_toArray, List.set_cons_zero, List.set_cons_succ]
      refine wpAnyH_take (i := 6) (v := ?_) rfl (by kernel_rfl) (by kernel_rfl) (by kernel_rfl) (fun _ _ _ h => h) (Or.inl ⟨by kernel_rfl, ?_⟩) (by assumption) ?_
      rotate_left
      · intro Wt hSt
        go_simp
        try with_reducible rfl
      try simp only [List.getElem_toArray, List.getElem_cons_zero, List.getElem_cons_succ, Act.put, List.setIfInBounds_toArray, List.set_cons_zero, List.set_cons_succ]
      refine wpAnyH_chainOf [8, 9] _ _ _ (by kernel_rfl) (by kernel_rfl) ?_
      simp only [List.filterMap_cons, List.filterMap_nil, List.getElem?_toArray, List.getElem?_cons_zero, List.getElem?_cons_succ]
      refine wpChain_vput rfl 100 (.tmp 3) (.tmp 11) rfl V1.heap.size 0 rfl [p, q] rfl infoCf hone _ [.nilFunc, .nilFunc] hz2 (by simp) ?_
      intro V9 HV9 HG9
      have hle : W1.heap.size ≤ V1.heap.size := hS1.size
      have hS9 := hS2.grown (unhide HG9) hS2.size (fun i e => by injection e with e; omega)
      refine ⟨hS9, ?_⟩
      refine wpChain_step rfl fun Kt hKt => ?_
      go_simp
      refine hKt _ _ hS9 ?_
      clear hKt Kt
      refine wpChain_nil ?_
      exact cont _ _ p q V9 HV9 (hide hS9) (hide hpq) (hide hle)
  
  · intro Kt hK
    go_simp
    generalize hX2 : W.alloc _ = V0
    have hbz : Below W.heap.size W V0 := hX2 ▸ (Below.refl _ _).alloc (Nat.le_refl _) _
    have hz2 := boxedV W V0 [.nilFunc, .nilFunc] 100 (by rw [← hX2]; rfl)
    have hSa := thenB hS hbz
    refine hK _ _ hSa ?_
    clear hK Kt hX2
    try simp only [List.getElem_toArray, List.getElem_cons_zero, List.getElem_cons_succ, Act.put, List.setIfInBounds_toArray, List.set_cons_zero, List.set_cons_succ]
    refine wpAnyH_one 0 _ rfl (by kernel_rfl) (by kernel_rfl) ?_
    intro Kt hK
    go_simp
    refine (cond_any V0).mono ?_; rintro x V1 ⟨rfl, hg1, ho1⟩
    dsimp only
    have hS1 := thenB hSa hg1
    refine hK _ _ hS1 ?_
    clear hK Kt
    try simp only [List.getElem_toArray, List.getElem_cons_zero, List.getElem_cons_succ, Act.put, List.setIfInBounds_toArray, List.set_cons_zero, List.set_cons_succ]
    refine wpAnyH_one 3 _ rfl (by kernel_rfl) (by kernel_rfl) ?_
    have hzb := hz2.keep hg1
    intro Kt hK
    obtain ⟨p, q, hrun, hpq, hone⟩ := cond_look ho1 kd (unhide HWK)
    go_simp
    refine hK _ _ hS1 ?_
    clear hK Kt hrun
    try simp only [List.getElem_toArray, List.getElem_cons_zero, List.getElem_cons_succ, Act.put, List.setIfInBounds_toArray, List.set_cons_zero, List.set_cons_succ]
    refine wpAnyH_take (i := 4) (v := ?_) rfl (by kernel_rfl) (by kernel_rfl) (by kernel_rfl) (fun _ _ _ h => h) (Or.inl ⟨by kernel_rfl, ?_⟩) (by assumption) ?_
    rotate_left
    · intro Wt hSt
      go_simp
      try with_reducible rfl
    try simp only [List.getElem_toArray, List.getElem_cons_zero, List.getElem_cons_succ, Act.put, List.setIfInBounds_toArray, List.set_cons_zero, List.set_cons_succ]
    refine wpAnyH_take (i := 5) (v := ?_) rfl (by kernel_rfl) (by kernel_rfl) (by kernel_rfl) (fun _ _ _ h => h) (Or.inl ⟨by kernel_rfl, ?_⟩) (by assumption) ?_
    rotate_left
    · intro Wt hSt
      go_simp
      try with_reducible rfl
    try simp only [List.getElem_toArray, List.getElem_cons_zero, List.getElem_cons_succ, Act.put, List.setIfInBounds_toArray, List.set_cons_zero, List.set_cons_succ]
    refine wpAnyH_take (i := 6) (v := ?_) rfl (by kernel_rfl) (by kernel_rfl) (by kernel_rfl) (fun _ _ _ h => h) (Or.inl ⟨by kernel_rfl, ?_⟩) (by assumption) ?_
    rotate_left
    · intro Wt hSt
      go_simp
      try with_reducible rfl
    try simp only [List.getElem_toArray, List.getElem_cons_zero, List.getElem_cons_succ, Act.put, List.setIfInBounds_toArray, List.set_cons_zero, List.set_cons_succ]
    refine wpAnyH_chainOf [8, 9] _ _ _ (by kernel_rfl) (by kernel_rfl) ?_
    simp only [List.filterMap_cons, List.filterMap_nil, List.getElem?_toArray, List.getElem?_cons_zero, List.getElem?_cons_succ]
    refine wpChain_vput rfl 100 (.tmp 3) (.tmp 11) rfl W.heap.size 0 rfl [p, q] rfl infoCf hone _ [.nilFunc, .nilFunc] hzb (by simp) ?_
    intro V9 HV9 HG9
    have hle : W1.heap.size ≤ W.heap.size := hS.size
    have hS9 := hS1.grown (unhide HG9) hS1.size (fun i e => by injection e with e; omega)
    refine ⟨hS9, ?_⟩
    refine wpChain_step rfl fun Kt hKt => ?_
    go_simp
    refine hKt _ _ hS9 ?_
    clear hKt Kt
    refine wpChain_nil ?_
    exact cont _ _ p q V9 HV9 (hide hS9) (hide hpq) (hide hle)
  
end Go.Proofs.YtdmaopfaeigelaaGreatDoor
