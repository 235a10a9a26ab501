/- Contracts over the program of facts: rulings. -/
import Derived.Test.YtdmaopfaeigelaaGreatDoorFacRu
namespace Go.Proofs.YtdmaopfaeigelaaGreatDoor
set_option linter.unusedSimpArgs false
set_option linter.unusedVariables false
open Go.RowKit

theorem wpChain_vput {P : Program} {ops : Array Oper} {l' : List Oper} {o : Oper} {a : Act} {w : World} {Q : Exit → Act → World → Prop} {S : World → Prop} (hgd : o.guard = none) (ty : TypeId) (x y : Operand) (ho : o.op = .store ty x y)
    (N m : Nat) (hx : a.eval x = .pointer (some ⟨N, m, none⟩)) (vs : List Value) (hy : a.eval y = .agg vs.toArray) (hi : (P.info? ty).map (·.size) = some vs.length) (h1 : ∀ v ∈ vs, v.oneCell' = true) (T : TypeId) (B : List Value) (h0 : VsAt w N T B) (hm : m + vs.length ≤ B.length)
    (h : ∀ W, Hid (VsAt W N T (spliceV B vs m)) → Hid (w.grownBy W (some N)) → S W ∧ wpChain P ops Q S l' (a.put o.dst undef) W) : wpChain P ops Q S (o :: l') a w := by
  obtain ⟨h2, h3⟩ := h _ (hide (by simpa using h0.setCells vs m w B hm)) (hide (by simpa using fgrownSetCells N vs m w))
  exact wpChain_step hgd fun K hK => wp_store_mid ty x y ho N m vs.toArray hx hy (by simpa using h0.there m vs.length hm) (by simpa using hi) (all_oneCell_toArray h1) (hK _ _ (by simpa using h2) (by simpa using h3))
theorem fnN_one {v : Value} {i : Nat} (h : fnN v = some i) : v.oneCell' = true := by
  cases v with
  | func => rfl
  | nilFunc => rfl
  | _ => simp [fnN] at h
theorem cR_shape {v : Value} {z : DataW Unit × List MemPlace} (h : cR v = some z) : ∃ p q, v = .agg #[p, q] ∧ p.oneCell' = true ∧ q.oneCell' = true := by
  cases v with
  | agg l =>
    obtain ⟨l⟩ := l
    match l, h with
    | [], h => simp [cR] at h
    | [_], h => simp [cR] at h
    | _ :: _ :: _ :: _, h => simp [cR] at h
    | [x, y], h =>
      cases ha : fnN x with
      | none => simp [cR, ha] at h
      | some a =>
        cases hb : fnN y with
        | none => simp [cR, ha, hb] at h
        | some b => exact ⟨x, y, rfl, fnN_one ha, fnN_one hb⟩
  | _ => simp [cR] at h
/-- what a look-up of a kind finds -/
theorem rcond_look {W : World} {b : Nat} (h : W.ownsMap Tryz.prog 3 cR b 8 rcondD) (k : Int) (hk : (Lit.int .i64 k).wf = true) :
    ∃ p q, (Instr.lookup 194 (.map (some b)) (.int .i64 k) true).run Tryz.prog W = .ok (.tuple #[.agg #[p, q], .bool (inR k 1 8)]) W ∧ (inR k 1 8 = true → p = fnV (rcondI k).1 ∧ q = fnV (rcondI k).2) ∧ ∀ v ∈ [p, q], v.oneCell' = true := by
  obtain ⟨v, ps, hrun, hv⟩ := h.look_ok (Maps.int_keyed Tryz.underlying3) Tryz.underlying194 (rcond_zero W) (zd := .agg [.lit (.int .i64 0), .lit (.int .i64 0)]) (zp := []) rfl (keyZ k hk)
  obtain ⟨p, q, rfl, hp, hq⟩ := cR_shape hv
  have hone : ∀ v ∈ [p, q], v.oneCell' = true := by
    intro v hv
    simp only [List.mem_cons, List.not_mem_nil, or_false] at hv
    rcases hv with rfl | rfl
    · exact hp
    · exact hq
  by_cases hin : 1 ≤ k ∧ k ≤ 8
  · obtain ⟨h1, h2⟩ := rcondD_yes k hin.1 hin.2 (.agg [.lit (.int .i64 0), .lit (.int .i64 0)])
    rw [h1] at hv
    rw [h2] at hrun
    have e := cR_inv hv
    have hb : inR k 1 8 = true := by unfold inR; rw [decide_eq_true hin.1, decide_eq_true hin.2]; rfl
    rw [hb]
    refine ⟨p, q, hrun, fun _ => ?_, hone⟩
    unfold cV at e
    injection e with e
    injection e with e
    injection e with e1 e
    injection e with e2 e
    exact ⟨e1, e2⟩
  · rw [rcondD_no k hin] at hrun
    have hb : inR k 1 8 = false := by
      unfold inR
      rw [Bool.and_eq_false_iff, decide_eq_false_iff_not, decide_eq_false_iff_not]
      omega
    rw [hb]
    exact ⟨p, q, hrun, (fun h => absurd h (by decide)), hone⟩
theorem infoCo : (Tryz.prog.info? 192).map (·.size) = some 2 := by kernel_rfl
def okRuling (r : Ru) : Bool := inR r.kind 1 8 && inR r.cas 1 1048576 && inR r.ins 1 3 && rHold r.kind r && ruEq r { rOwn r.kind r with cas := r.cas, ins := r.ins, kind := r.kind }
set_option maxRecDepth 100000 in
set_option maxHeartbeats 4000000 in
theorem ruling_any (r : Ru) (hkd : (Lit.int .i64 r.kind).wf = true) (w : World) : Calls Tryz.prog 119 #[.agg (rC r).toArray] w fun x w' => x = .returned (.bool (okRuling r)) ∧ Below w.heap.size w w' := by
  obtain ⟨cas, ins, kd, ⟨gs, gc, gh, ga⟩, cl, pl, se, co, po, am, hg, ag, fr, tt⟩ := r
  show Calls Tryz.prog 119 #[.agg #[.int .i64 cas, .int .i64 ins, .int .i64 kd, .int .i64 gs, .int .i64 gc, .int .i64 gh, .int .i64 ga, .int .i64 cl, .int .i64 pl, .int .i64 se, .int .i64 co, .int .i64 po, .int .i64 am, .int .i64 hg, .int .i64 ag, .int .i64 fr, .int .i64 tt]] w _
  have HK := hide hkd
  obtain ⟨r, hr⟩ : ∃ r : Ru, r = ⟨cas, ins, kd, ⟨gs, gc, gh, ga⟩, cl, pl, se, co, po, am, hg, ag, fr, tt⟩ := ⟨_, rfl⟩
  obtain ⟨R, hR⟩ : ∃ R, R = okRuling ⟨cas, ins, kd, ⟨gs, gc, gh, ga⟩, cl, pl, se, co, po, am, hg, ag, fr, tt⟩ := ⟨_, rfl⟩
  rw [← hR]
  obtain ⟨b0, hb0⟩ : ∃ b, b = inR kd 1 8 := ⟨_, rfl⟩
  obtain ⟨b1, hb1⟩ : ∃ b, b = inR cas 1 1048576 := ⟨_, rfl⟩
  obtain ⟨b2, hb2⟩ : ∃ b, b = inR ins 1 3 := ⟨_, rfl⟩
  obtain ⟨b3, hb3⟩ : ∃ b, b = rHold kd r := ⟨_, rfl⟩
  obtain ⟨own, hown⟩ : ∃ o, o = rOwn kd r := ⟨_, rfl⟩
  have HR : Hid (R = (b0 && b1 && b2 && b3 && ruEq r { own with cas := cas, ins := ins, kind := kd })) := by
    have : R = (b0 && b1 && b2 && b3 && ruEq r { own with cas := cas, ins := ins, kind := kd }) := by
      rw [hR, hb0, hb1, hb2, hb3, hown, hr]; rfl
    exact this
  have HB0 := hide hb0; have HB1' := hide hb1; have HB2' := hide hb2; have HB3 := hide hb3; have HOWN := hide hown; have HRR := hide hr
  clear hkd hR hb0 hb1 hb2 hb3 hown hr
  go_enter Tryz.func119, Tryz.ntmps119
  go_upto_region 1 with fail
  generalize hX1 : w.alloc _ = W1
  have hB1 : Below w.heap.size w W1 := hX1 ▸ (Below.refl _ _).alloc (Nat.le_refl _) _
  have HV1 := hide (boxedV w W1 [.int .i64 cas, .int .i64 ins, .int .i64 kd, .int .i64 gs, .int .i64 gc, .int .i64 gh, .int .i64 ga, .int .i64 cl, .int .i64 pl, .int .i64 se, .int .i64 co, .int .i64 po, .int .i64 am, .int .i64 hg, .int .i64 ag, .int .i64 fr, .int .i64 tt] 35 (by rw [← hX1]; rfl))
  have HB1 := hide hB1
  clear hX1 hB1
  have HC2 := hide ((unhide HV1).cell (j := 2) rfl)
  rename_i Qx Kx hKx
  have cont : ∀ (mb pb : Nat) (p q : Value) (V : World), Hid (VsAt V pb 192 [p, q]) → Hid (Below W1.heap.size W1 V) → Hid (inR kd 1 8 = true → p = fnV (rcondI kd).1 ∧ q = fnV (rcondI kd).2) → Hid (W1.heap.size ≤ pb) →
      Kx { tmps := #[.agg #[.int .i64 cas, .int .i64 ins, .int .i64 kd, .int .i64 gs, .int .i64 gc, .int .i64 gh, .int .i64 ga, .int .i64 cl, .int .i64 pl, .int .i64 se, .int .i64 co, .int .i64 po, .int .i64 am, .int .i64 hg, .int .i64 ag, .int .i64 fr, .int .i64 tt], .pointer (some ⟨w.heap.size, 0, none⟩), .bool false, .pointer (some ⟨pb, 0, none⟩), .bool (inR kd 1 8), undef, .tuple #[.agg #[p, q], .bool (inR kd 1 8)], .map (some mb), .pointer (some ⟨w.heap.size, 2, none⟩), .int .i64 kd, .tuple #[.agg #[p, q], .bool (inR kd 1 8)], .agg #[p, q], .bool (inR kd 1 8), undef, undef, undef, undef, undef, undef, undef, undef, undef, undef, undef, undef, undef, undef, undef, undef, undef, undef, undef, undef, undef, undef, undef, undef, undef, undef, undef, undef, undef, undef, undef, undef, undef, undef, undef, undef, undef], defers := [] } V := by
    intro mb pb p q V HVC HBV HPQ HPB
    refine hKx _ _ ?_
    clear hKx
    rw [← unhide HB0] at HPQ ⊢
    as_aux_lemma =>
    have HBw := hide (thenB (unhide HB1) (unhide HBV))
    have HVV := hide ((unhide HV1).keep (unhide HBV))
    have hcp : V.cell? ⟨pb, 0, none⟩ = some p := (unhide HVC).cell rfl
    have hcq : V.cell? ⟨pb, 1, none⟩ = some q := (unhide HVC).cell rfl
    have hc0 : V.cell? ⟨w.heap.size, 0, none⟩ = some (.int .i64 cas) := (unhide HVV).cell rfl
    have hc1 : V.cell? ⟨w.heap.size, 1, none⟩ = some (.int .i64 ins) := (unhide HVV).cell rfl
    have hc2 : V.cell? ⟨w.heap.size, 2, none⟩ = some (.int .i64 kd) := (unhide HVV).cell rfl
    have hc3 : V.cell? ⟨w.heap.size, 3, none⟩ = some (.int .i64 gs) := (unhide HVV).cell rfl
    have hc4 : V.cell? ⟨w.heap.size, 4, none⟩ = some (.int .i64 gc) := (unhide HVV).cell rfl
    have hc5 : V.cell? ⟨w.heap.size, 5, none⟩ = some (.int .i64 gh) := (unhide HVV).cell rfl
    have hc6 : V.cell? ⟨w.heap.size, 6, none⟩ = some (.int .i64 ga) := (unhide HVV).cell rfl
    have hc7 : V.cell? ⟨w.heap.size, 7, none⟩ = some (.int .i64 cl) := (unhide HVV).cell rfl
    have hc8 : V.cell? ⟨w.heap.size, 8, none⟩ = some (.int .i64 pl) := (unhide HVV).cell rfl
    have hc9 : V.cell? ⟨w.heap.size, 9, none⟩ = some (.int .i64 se) := (unhide HVV).cell rfl
    have hc10 : V.cell? ⟨w.heap.size, 10, none⟩ = some (.int .i64 co) := (unhide HVV).cell rfl
    have hc11 : V.cell? ⟨w.heap.size, 11, none⟩ = some (.int .i64 po) := (unhide HVV).cell rfl
    have hc12 : V.cell? ⟨w.heap.size, 12, none⟩ = some (.int .i64 am) := (unhide HVV).cell rfl
    have hc13 : V.cell? ⟨w.heap.size, 13, none⟩ = some (.int .i64 hg) := (unhide HVV).cell rfl
    have hc14 : V.cell? ⟨w.heap.size, 14, none⟩ = some (.int .i64 ag) := (unhide HVV).cell rfl
    have hc15 : V.cell? ⟨w.heap.size, 15, none⟩ = some (.int .i64 fr) := (unhide HVV).cell rfl
    have hc16 : V.cell? ⟨w.heap.size, 16, none⟩ = some (.int .i64 tt) := (unhide HVV).cell rfl
    cases b0
    case false =>
      go_wp2_with fail
      go_ret
      exact ⟨by rw [unhide HR]; rfl, unhide HBw⟩
    have HKR : Hid (1 ≤ kd ∧ kd ≤ 8) := by
      have h := (unhide HB0).symm
      unfold inR at h
      have h2 := (Bool.and_eq_true _ _).mp h
      rw [decide_eq_true_eq, decide_eq_true_eq] at h2
      exact h2
    obtain ⟨rfl, rfl⟩ := (unhide HPQ) rfl
    unfold fnV at hcp hcq
    have HC1 := hide fun X => case_any cas X
    rw [← unhide HB1'] at HC1
    have HCI := hide fun X => within_any ins 1 3 X
    rw [← unhide HB2'] at HCI
    have HH := hide fun X => rh_all kd (unhide HKR).1 (unhide HKR).2 r X
    rw [← unhide HB3, unhide HRR] at HH
    have HRUN := hide fun (args : Array Value) (X : World) => (run_rcond kd (unhide HKR).1 (unhide HKR).2 args X).1
    go_wp2_with fail
    refine ((unhide HC1) V).mono ?_; rintro x V2 ⟨rfl, rfl⟩
    cases b1
    case false =>
      go_wp2_with fail
      go_ret
      exact ⟨by rw [unhide HR]; rfl, unhide HBw⟩
    go_wp2_with fail
    refine ((unhide HCI) V2).mono ?_; rintro x V3 ⟨rfl, rfl⟩
    cases b2
    case false =>
      go_wp2_with fail
      go_ret
      exact ⟨by rw [unhide HR]; rfl, unhide HBw⟩
    go_wp2_with fail
    rw [(unhide HRUN) _ V3, Oper.upon_enter]
    refine ((unhide HH) V3).mono ?_; rintro x V4 ⟨rfl, hG⟩
    dsimp only
    rename_i hK
    refine hK _ _ ?_
    clear hK
    have HB4 := hide (thenB (unhide HBw) hG)
    have HVV4 := hide ((unhide HVV).keep hG)
    have HVC4 := hide ((unhide HVC).keep hG)
    clear hcp hcq hG hc0 hc1 hc2 hc3 hc4 hc5 hc6 hc7 hc8 hc9 hc10 hc11 hc12 hc13 hc14 hc15 hc16
    cases b3
    case false =>
      refine wpList_wanted (by kernel_rfl) fun Kt hKt => ?_
      go_simp
      refine hKt _ _ ?_
      clear hKt Kt
      try simp only [List.getElem_toArray, List.getElem_cons_zero, List.getElem_cons_succ, Act.put, List.setIfInBounds_toArray, List.set_cons_zero, List.set_cons_succ]
      go_wp2_with fail
      go_ret
      exact ⟨by rw [unhide HR]; rfl, unhide HB4⟩
    as_aux_lemma =>
    refine wpList_wanted (by kernel_rfl) fun Kt hKt => ?_
    go_simp
    refine hKt _ _ ?_
    clear hKt Kt
    try simp only [List.getElem_toArray, List.getElem_cons_zero, List.getElem_cons_succ, Act.put, List.setIfInBounds_toArray, List.set_cons_zero, List.set_cons_succ]
    have hcq : V4.cell? ⟨pb, 1, none⟩ = some (.func (.func (rcondI kd).2) #[] #[]) := (unhide HVC4).cell rfl
    have hc0 : V4.cell? ⟨w.heap.size, 0, none⟩ = some (.int .i64 cas) := (unhide HVV4).cell rfl
    have hc1 : V4.cell? ⟨w.heap.size, 1, none⟩ = some (.int .i64 ins) := (unhide HVV4).cell rfl
    have hc2 : V4.cell? ⟨w.heap.size, 2, none⟩ = some (.int .i64 kd) := (unhide HVV4).cell rfl
    have hc3 : V4.cell? ⟨w.heap.size, 3, none⟩ = some (.int .i64 gs) := (unhide HVV4).cell rfl
    have hc4 : V4.cell? ⟨w.heap.size, 4, none⟩ = some (.int .i64 gc) := (unhide HVV4).cell rfl
    have hc5 : V4.cell? ⟨w.heap.size, 5, none⟩ = some (.int .i64 gh) := (unhide HVV4).cell rfl
    have hc6 : V4.cell? ⟨w.heap.size, 6, none⟩ = some (.int .i64 ga) := (unhide HVV4).cell rfl
    have hc7 : V4.cell? ⟨w.heap.size, 7, none⟩ = some (.int .i64 cl) := (unhide HVV4).cell rfl
    have hc8 : V4.cell? ⟨w.heap.size, 8, none⟩ = some (.int .i64 pl) := (unhide HVV4).cell rfl
    have hc9 : V4.cell? ⟨w.heap.size, 9, none⟩ = some (.int .i64 se) := (unhide HVV4).cell rfl
    have hc10 : V4.cell? ⟨w.heap.size, 10, none⟩ = some (.int .i64 co) := (unhide HVV4).cell rfl
    have hc11 : V4.cell? ⟨w.heap.size, 11, none⟩ = some (.int .i64 po) := (unhide HVV4).cell rfl
    have hc12 : V4.cell? ⟨w.heap.size, 12, none⟩ = some (.int .i64 am) := (unhide HVV4).cell rfl
    have hc13 : V4.cell? ⟨w.heap.size, 13, none⟩ = some (.int .i64 hg) := (unhide HVV4).cell rfl
    have hc14 : V4.cell? ⟨w.heap.size, 14, none⟩ = some (.int .i64 ag) := (unhide HVV4).cell rfl
    have hc15 : V4.cell? ⟨w.heap.size, 15, none⟩ = some (.int .i64 fr) := (unhide HVV4).cell rfl
    have hc16 : V4.cell? ⟨w.heap.size, 16, none⟩ = some (.int .i64 tt) := (unhide HVV4).cell rfl
    have HO := hide fun X => ro_all kd (unhide HKR).1 (unhide HKR).2 r X
    rw [← unhide HOWN, unhide HRR] at HO
    have HRUN2 := hide fun (args : Array Value) (X : World) => (run_rcond kd (unhide HKR).1 (unhide HKR).2 args X).2
    go_wp2_with fail
    rw [(unhide HRUN2) _ V4, Oper.upon_enter]
    refine ((unhide HO) V4).mono ?_; rintro x V5 ⟨rfl, hG⟩
    dsimp only
    rename_i hK
    refine hK _ _ ?_
    clear hK
    have HB5 := hide (thenB (unhide HB4) hG)
    have HVV5 := hide ((unhide HVV4).keep hG)
    clear hcq hG hc0 hc1 hc2 hc3 hc4 hc5 hc6 hc7 hc8 hc9 hc10 hc11 hc12 hc13 hc14 hc15 hc16
    refine wpList_plain rfl fun Kt hKt => ?_
    go_simp
    generalize hX2 : V5.alloc _ = V6
    have hbz : Below V5.heap.size V5 V6 := hX2 ▸ (Below.refl _ _).alloc (Nat.le_refl _) _
    have hz2 := boxedV V5 V6 (rC r0) 35 (by rw [← hX2]; rfl)
    refine hKt _ _ ?_
    clear hKt Kt hX2
    have HB6 := hide (thenB (unhide HB5) hbz)
    have HVV6 := hide ((unhide HVV5).keep hbz)
    have HZ := hide hz2
    clear hbz hz2
    refine wpList_vput rfl 35 (.tmp 5) (.tmp 37) rfl V5.heap.size 0 rfl (rC own) rfl infoRu (rC_one _) _ (rC r0) (unhide HZ) (show 0 + 17 ≤ 17 by omega) ?_
    intro V7 HV7 HG7
    rw [spliceV_all _ _ (by rw [rC_length, rC_length])] at HV7
    as_aux_lemma =>
    have hlt : w.heap.size < V5.heap.size := lt_of_block (unhide HVV5)
    have HVV7 := hide ((unhide HVV6).grown (unhide HG7) (fun e => by injection e with e; omega))
    have HB7 := hide ((unhide HB6).grown (unhide HG7) (unhide HB6).size (fun i e => by injection e with e; omega))
    have hle : V5.heap.size ≤ V7.heap.size := Nat.le_of_lt (lt_of_block (unhide HV7))
    have HA0 := hide ((unhide HVV7).cell (j := 0) rfl)
    have HA1 := hide ((unhide HVV7).cell (j := 1) rfl)
    have HA2 := hide ((unhide HVV7).cell (j := 2) rfl)
    clear HVV HVV4 HVV5 HVV6 HVC HVC4 HV1 HC2
    go_upto_region 5 with fail
    rename_i K5 hK5
    obtain ⟨Y, hY⟩ : ∃ Y, Y = V7.drewN 1 := ⟨_, rfl⟩
    have HY : Hid (Y = V7.drewN 1) := hY
    have hS : Below V5.heap.size V7 Y := (below_named HY).mono hle
    clear hY
    obtain ⟨oc, oi, ok, ⟨gs2, gc2, gh2, ga2⟩, cl2, pl2, se2, co2, po2, am2, hg2, ag2, fr2, tt2⟩ := own
    refine held (S := Below V5.heap.size V7) Y HY (by kernel_rfl) ?_
    refine wpAnyH_take (i := 0) (v := ?_) rfl (by kernel_rfl) (by kernel_rfl) (by kernel_rfl) (fun _ _ _ h => h) (Or.inl ⟨by kernel_rfl, ?_⟩) (by assumption) ?_
    rotate_left
    · intro Wt hSt
      go_simp
      try with_reducible rfl
    try simp only [List.getElem_toArray, List.getElem_cons_zero, List.getElem_cons_succ, Act.put, List.setIfInBounds_toArray, List.set_cons_zero, List.set_cons_succ]
    refine wpAnyH_take (i := 1) (v := ?_) rfl (by kernel_rfl) (by kernel_rfl) (by kernel_rfl) (fun _ _ _ h => h) (Or.inl ⟨by kernel_rfl, ?_⟩) (by assumption) ?_
    rotate_left
    · intro Wt hSt
      have hct := (show Wt.cell? ⟨w.heap.size, 0, none⟩ = some (.int .i64 cas) from (hSt.cell (p := ⟨w.heap.size, 0, none⟩) hlt).trans (unhide HA0))
      go_simp
      try with_reducible rfl
    try simp only [List.getElem_toArray, List.getElem_cons_zero, List.getElem_cons_succ, Act.put, List.setIfInBounds_toArray, List.set_cons_zero, List.set_cons_succ]
    refine wpAnyH_take (i := 2) (v := ?_) rfl (by kernel_rfl) (by kernel_rfl) (by kernel_rfl) (fun _ _ _ h => h) (Or.inl ⟨by kernel_rfl, ?_⟩) (by assumption) ?_
    rotate_left
    · intro Wt hSt
      go_simp
      try with_reducible rfl
    try simp only [List.getElem_toArray, List.getElem_cons_zero, List.getElem_cons_succ, Act.put, List.setIfInBounds_toArray, List.set_cons_zero, List.set_cons_succ]
    refine wpAnyH_take (i := 3) (v := ?_) rfl (by kernel_rfl) (by kernel_rfl) (by kernel_rfl) (fun _ _ _ h => h) (Or.inl ⟨by kernel_rfl, ?_⟩) (by assumption) ?_
    rotate_left
    · intro Wt hSt
      have hct := (show Wt.cell? ⟨w.heap.size, 1, none⟩ = some (.int .i64 ins) from (hSt.cell (p := ⟨w.heap.size, 1, none⟩) hlt).trans (unhide HA1))
      go_simp
      try with_reducible rfl
    try simp only [List.getElem_toArray, List.getElem_cons_zero, List.getElem_cons_succ, Act.put, List.setIfInBounds_toArray, List.set_cons_zero, List.set_cons_succ]
    refine wpAnyH_take (i := 4) (v := ?_) rfl (by kernel_rfl) (by kernel_rfl) (by kernel_rfl) (fun _ _ _ h => h) (Or.inl ⟨by kernel_rfl, ?_⟩) (by assumption) ?_
    rotate_left
    · intro Wt hSt
      go_simp
      try with_reducible rfl
    try simp only [List.getElem_toArray, List.getElem_cons_zero, List.getElem_cons_succ, Act.put, List.setIfInBounds_toArray, List.set_cons_zero, List.set_cons_succ]
    refine wpAnyH_take (i := 5) (v := ?_) rfl (by kernel_rfl) (by kernel_rfl) (by kernel_rfl) (fun _ _ _ h => h) (Or.inl ⟨by kernel_rfl, ?_⟩) (by assumption) ?_
    rotate_left
    · intro Wt hSt
      have hct := (show Wt.cell? ⟨w.heap.size, 2, none⟩ = some (.int .i64 kd) from (hSt.cell (p := ⟨w.heap.size, 2, none⟩) hlt).trans (unhide HA2))
      go_simp
      try with_reducible rfl
    try simp only [List.getElem_toArray, List.getElem_cons_zero, List.getElem_cons_succ, Act.put, List.setIfInBounds_toArray, List.set_cons_zero, List.set_cons_succ]
    refine wpAnyH_take (i := 6) (v := ?_) rfl (by kernel_rfl) (by kernel_rfl) (by kernel_rfl) (fun _ _ _ h => h) (Or.inl ⟨by kernel_rfl, ?_⟩) (by assumption) ?_
    rotate_left
    · intro Wt hSt
      go_simp
      try with_reducible rfl
    try simp only [List.getElem_toArray, List.getElem_cons_zero, List.getElem_cons_succ, Act.put, List.setIfInBounds_toArray, List.set_cons_zero, List.set_cons_succ]
    have HVYr := hide ((unhide HVV7).keep (below_named HY))
    have HVY := hide ((unhide HV7).keep (below_named HY))
    have HSY := hide hS
    refine wpAnyH_chainOf [7, 8, 9, 10, 11] _ _ _ (by kernel_rfl) (by kernel_rfl) ?_
    simp only [List.filterMap_cons, List.filterMap_nil, List.getElem?_toArray, List.getElem?_cons_zero, List.getElem?_cons_succ]
    have hp0 := (unhide HVY).cell (j := 0) rfl
    have hf0 := (unhide HVY).free 0
    refine wpChain_step rfl fun Kt hKt => ?_
    go_simp
    have hSn : Below V5.heap.size V7 (Y.setCell ⟨V5.heap.size, 0, none⟩ (.int .i64 cas)) := (unhide HSY).grown (fgrownSetCells V5.heap.size [.int .i64 cas] 0 Y) (Nat.le_of_lt (lt_of_block (unhide HVY))) (fun i e => by injection e with e; omega)
    have hvn := (unhide HVY).set 0 (.int .i64 cas)
    generalize Y.setCell ⟨V5.heap.size, 0, none⟩ (.int .i64 cas) = Z1 at hSn hvn ⊢
    refine hKt _ _ hSn ?_
    clear hKt Kt hp0 hf0
    have HVZ1 := hide hvn
    have HSZ1 := hide hSn
    clear hSn hvn
    refine wpChain_step rfl fun Kt hKt => ?_
    go_simp
    refine hKt _ _ (unhide HSZ1) ?_
    clear hKt Kt
    have hp1 := (unhide HVZ1).cell (j := 1) rfl
    have hf1 := (unhide HVZ1).free 1
    refine wpChain_step rfl fun Kt hKt => ?_
    go_simp
    have hSn : Below V5.heap.size V7 (Z1.setCell ⟨V5.heap.size, 1, none⟩ (.int .i64 ins)) := (unhide HSZ1).grown (fgrownSetCells V5.heap.size [.int .i64 ins] 1 Z1) (Nat.le_of_lt (lt_of_block (unhide HVZ1))) (fun i e => by injection e with e; omega)
    have hvn := (unhide HVZ1).set 1 (.int .i64 ins)
    generalize Z1.setCell ⟨V5.heap.size, 1, none⟩ (.int .i64 ins) = Z2 at hSn hvn ⊢
    refine hKt _ _ hSn ?_
    clear hKt Kt hp1 hf1
    have HVZ2 := hide hvn
    have HSZ2 := hide hSn
    clear hSn hvn
    refine wpChain_step rfl fun Kt hKt => ?_
    go_simp
    refine hKt _ _ (unhide HSZ2) ?_
    clear hKt Kt
    have hp2 := (unhide HVZ2).cell (j := 2) rfl
    have hf2 := (unhide HVZ2).free 2
    refine wpChain_step rfl fun Kt hKt => ?_
    go_simp
    have hSn : Below V5.heap.size V7 (Z2.setCell ⟨V5.heap.size, 2, none⟩ (.int .i64 kd)) := (unhide HSZ2).grown (fgrownSetCells V5.heap.size [.int .i64 kd] 2 Z2) (Nat.le_of_lt (lt_of_block (unhide HVZ2))) (fun i e => by injection e with e; omega)
    have hvn := (unhide HVZ2).set 2 (.int .i64 kd)
    generalize Z2.setCell ⟨V5.heap.size, 2, none⟩ (.int .i64 kd) = Z3 at hSn hvn ⊢
    refine hKt _ _ hSn ?_
    clear hKt Kt hp2 hf2
    have HVZ3 := hide hvn
    have HSZ3 := hide hSn
    clear hSn hvn
    refine wpChain_nil ?_
    refine hK5 _ _ ?_
    clear hK5
    have HBZ := hide ((unhide HB7).trans ((unhide HSZ3).mono (Nat.le_of_lt hlt)))
    have HRZ : Hid (VsAt Z3 w.heap.size 35 [.int .i64 cas, .int .i64 ins, .int .i64 kd, .int .i64 gs, .int .i64 gc, .int .i64 gh, .int .i64 ga, .int .i64 cl, .int .i64 pl, .int .i64 se, .int .i64 co, .int .i64 po, .int .i64 am, .int .i64 hg, .int .i64 ag, .int .i64 fr, .int .i64 tt]) := hide (((unhide HSZ3).block _ hlt).trans (unhide HVV7))
    have HOZ : Hid (VsAt Z3 V5.heap.size 35 [.int .i64 cas, .int .i64 ins, .int .i64 kd, .int .i64 gs2, .int .i64 gc2, .int .i64 gh2, .int .i64 ga2, .int .i64 cl2, .int .i64 pl2, .int .i64 se2, .int .i64 co2, .int .i64 po2, .int .i64 am2, .int .i64 hg2, .int .i64 ag2, .int .i64 fr2, .int .i64 tt2]) := HVZ3
    have hc0 : Z3.cell? ⟨w.heap.size, 0, none⟩ = some (.int .i64 cas) := (unhide HRZ).cell rfl
    have hc1 : Z3.cell? ⟨w.heap.size, 1, none⟩ = some (.int .i64 ins) := (unhide HRZ).cell rfl
    have hc2 : Z3.cell? ⟨w.heap.size, 2, none⟩ = some (.int .i64 kd) := (unhide HRZ).cell rfl
    have hc3 : Z3.cell? ⟨w.heap.size, 3, none⟩ = some (.int .i64 gs) := (unhide HRZ).cell rfl
    have hc4 : Z3.cell? ⟨w.heap.size, 4, none⟩ = some (.int .i64 gc) := (unhide HRZ).cell rfl
    have hc5 : Z3.cell? ⟨w.heap.size, 5, none⟩ = some (.int .i64 gh) := (unhide HRZ).cell rfl
    have hc6 : Z3.cell? ⟨w.heap.size, 6, none⟩ = some (.int .i64 ga) := (unhide HRZ).cell rfl
    have hc7 : Z3.cell? ⟨w.heap.size, 7, none⟩ = some (.int .i64 cl) := (unhide HRZ).cell rfl
    have hc8 : Z3.cell? ⟨w.heap.size, 8, none⟩ = some (.int .i64 pl) := (unhide HRZ).cell rfl
    have hc9 : Z3.cell? ⟨w.heap.size, 9, none⟩ = some (.int .i64 se) := (unhide HRZ).cell rfl
    have hc10 : Z3.cell? ⟨w.heap.size, 10, none⟩ = some (.int .i64 co) := (unhide HRZ).cell rfl
    have hc11 : Z3.cell? ⟨w.heap.size, 11, none⟩ = some (.int .i64 po) := (unhide HRZ).cell rfl
    have hc12 : Z3.cell? ⟨w.heap.size, 12, none⟩ = some (.int .i64 am) := (unhide HRZ).cell rfl
    have hc13 : Z3.cell? ⟨w.heap.size, 13, none⟩ = some (.int .i64 hg) := (unhide HRZ).cell rfl
    have hc14 : Z3.cell? ⟨w.heap.size, 14, none⟩ = some (.int .i64 ag) := (unhide HRZ).cell rfl
    have hc15 : Z3.cell? ⟨w.heap.size, 15, none⟩ = some (.int .i64 fr) := (unhide HRZ).cell rfl
    have hc16 : Z3.cell? ⟨w.heap.size, 16, none⟩ = some (.int .i64 tt) := (unhide HRZ).cell rfl
    have hd0 : Z3.cell? ⟨V5.heap.size, 0, none⟩ = some (.int .i64 cas) := (unhide HOZ).cell rfl
    have hd1 : Z3.cell? ⟨V5.heap.size, 1, none⟩ = some (.int .i64 ins) := (unhide HOZ).cell rfl
    have hd2 : Z3.cell? ⟨V5.heap.size, 2, none⟩ = some (.int .i64 kd) := (unhide HOZ).cell rfl
    have hd3 : Z3.cell? ⟨V5.heap.size, 3, none⟩ = some (.int .i64 gs2) := (unhide HOZ).cell rfl
    have hd4 : Z3.cell? ⟨V5.heap.size, 4, none⟩ = some (.int .i64 gc2) := (unhide HOZ).cell rfl
    have hd5 : Z3.cell? ⟨V5.heap.size, 5, none⟩ = some (.int .i64 gh2) := (unhide HOZ).cell rfl
    have hd6 : Z3.cell? ⟨V5.heap.size, 6, none⟩ = some (.int .i64 ga2) := (unhide HOZ).cell rfl
    have hd7 : Z3.cell? ⟨V5.heap.size, 7, none⟩ = some (.int .i64 cl2) := (unhide HOZ).cell rfl
    have hd8 : Z3.cell? ⟨V5.heap.size, 8, none⟩ = some (.int .i64 pl2) := (unhide HOZ).cell rfl
    have hd9 : Z3.cell? ⟨V5.heap.size, 9, none⟩ = some (.int .i64 se2) := (unhide HOZ).cell rfl
    have hd10 : Z3.cell? ⟨V5.heap.size, 10, none⟩ = some (.int .i64 co2) := (unhide HOZ).cell rfl
    have hd11 : Z3.cell? ⟨V5.heap.size, 11, none⟩ = some (.int .i64 po2) := (unhide HOZ).cell rfl
    have hd12 : Z3.cell? ⟨V5.heap.size, 12, none⟩ = some (.int .i64 am2) := (unhide HOZ).cell rfl
    have hd13 : Z3.cell? ⟨V5.heap.size, 13, none⟩ = some (.int .i64 hg2) := (unhide HOZ).cell rfl
    have hd14 : Z3.cell? ⟨V5.heap.size, 14, none⟩ = some (.int .i64 ag2) := (unhide HOZ).cell rfl
    have hd15 : Z3.cell? ⟨V5.heap.size, 15, none⟩ = some (.int .i64 fr2) := (unhide HOZ).cell rfl
    have hd16 : Z3.cell? ⟨V5.heap.size, 16, none⟩ = some (.int .i64 tt2) := (unhide HOZ).cell rfl
    clear HVY HSY HVZ1 HSZ1 HVZ2 HSZ2 HVZ3 HSZ3 HVYr
    clear hlt hle HA0 HA1 HA2 HRUN HRUN2 HC1 HCI HH HO HPQ HVV7 HB4 HB5 HB6 HB7 HBV HBw
    as_aux_lemma =>
    go_upto_region 6 with fail
    refine wp_region_lit ?_
    refine wpList_plain rfl fun Kt hKt => ?_
    go_simp
    refine hKt _ _ ?_
    clear hKt Kt
    refine wpList_plain rfl fun Kt hKt => ?_
    go_simp
    refine hKt _ _ ?_
    clear hKt Kt
    refine wpList_rueq rfl (.tmp 47) (.tmp 48) rfl ⟨cas, ins, kd, ⟨gs, gc, gh, ga⟩, cl, pl, se, co, po, am, hg, ag, fr, tt⟩ ⟨cas, ins, kd, ⟨gs2, gc2, gh2, ga2⟩, cl2, pl2, se2, co2, po2, am2, hg2, ag2, fr2, tt2⟩ rfl rfl ?_
    go_wp2_with fail
    go_ret
    exact ⟨by rw [unhide HR, unhide HRR]; rfl, unhide HBZ⟩
  clear hKx
  obtain ⟨W, hW⟩ : ∃ W, W = W1.drewN 1 := ⟨_, rfl⟩
  have HW : Hid (W = W1.drewN 1) := hW
  have hS : Below W1.heap.size W1 W := below_named HW
  clear hW
  refine held (S := Below W1.heap.size W1) W HW (by kernel_rfl) ?_
  refine wpAnyH_take (i := 1) (v := ?_) rfl (by kernel_rfl) (by kernel_rfl) (by kernel_rfl) (fun _ _ _ h => h) (Or.inl ⟨by kernel_rfl, ?_⟩) (by assumption) ?_
  rotate_left
  · intro Wt hSt
    go_simp
    try with_reducible rfl
  try simp only [List.getElem_toArray, List.getElem_cons_zero, List.getElem_cons_succ, Act.put, List.setIfInBounds_toArray, List.set_cons_zero, List.set_cons_succ]
  refine wpAnyH_take (i := 2) (v := ?_) rfl (by kernel_rfl) (by kernel_rfl) (by kernel_rfl) (fun _ _ _ h => h) (Or.inl ⟨by kernel_rfl, ?_⟩) (by assumption) ?_
  rotate_left
  · intro Wt hSt
    have hct := (show Wt.cell? ⟨w.heap.size, 2, none⟩ = some (.int .i64 kd) from (hSt.cell (p := ⟨w.heap.size, 2, none⟩) (lt_of_cell (unhide HC2))).trans (unhide HC2))
    go_simp
    try with_reducible rfl
  try simp only [List.getElem_toArray, List.getElem_cons_zero, List.getElem_cons_succ, Act.put, List.setIfInBounds_toArray, List.set_cons_zero, List.set_cons_succ]
  refine wpAnyH_two 0 7 _ _ rfl rfl (by kernel_rfl) (by kernel_rfl) (by kernel_rfl) ?_ ?_
  · intro Kt hK
    go_simp
    refine (rcond_any W).mono ?_; rintro x V1 ⟨rfl, hg1, ho1⟩
    dsimp only
    have hS1 := thenB hS hg1
    refine hK _ _ hS1 ?_
    clear hK Kt
    try simp only [List.getElem_toArray, List.getElem_cons_zero, List.getElem_cons_succ, Act.put, List.setIfInBounds_toArray, List.set_cons_zero, List.set_cons_succ]
    refine wpAnyH_two 3 7 _ _ rfl rfl (by kernel_rfl) (by kernel_rfl) (by kernel_rfl) ?_ ?_
    · intro Kt hK
      obtain ⟨p, q, hrun, hpq, hone⟩ := rcond_look ho1 kd (unhide HK)
      go_simp
      refine hK _ _ hS1 ?_
      clear hK Kt hrun
      try simp only [List.getElem_toArray, List.getElem_cons_zero, List.getElem_cons_succ, Act.put, List.setIfInBounds_toArray, List.set_cons_zero, List.set_cons_succ]
      refine wpAnyH_take (i := 4) (v := ?_) rfl (by kernel_rfl) (by kernel_rfl) (by kernel_rfl) (fun _ _ _ h => h) (Or.inl ⟨by kernel_rfl, ?_⟩) (by assumption) ?_
      rotate_left
      · intro Wt hSt
        go_simp
        try with_reducible rfl
      try simp only [List.getElem_toArray, List.getElem_cons_zero, List.getElem_cons_succ, Act.put, List.setIfInBounds_toArray, List.set_cons_zero, List.set_cons_succ]
      refine wpAnyH_take (i := 5) (v := ?_) rfl (by kernel_rfl) (by kernel_rfl) (by kernel_rfl) (fun _ _ _ h => h) (Or.inl ⟨by kernel_rfl, ?_⟩) (by assumption) ?_
      rotate_left
      · intro Wt hSt
        go_simp
        try with_reducible rfl
      try simp only [List.getElem_toArray, List.getElem_cons_zero, List.getElem_cons_succ, Act.put, List.setIfInBounds_toArray, List.set_cons_zero, List.set_cons_succ]
      refine wpAnyH_take (i := 6) (v := ?_) rfl (by kernel_rfl) (by kernel_rfl) (by kernel_rfl) (fun _ _ _ h => h) (Or.inl ⟨by kernel_rfl, ?_⟩) (by assumption) ?_
      rotate_left
      · intro Wt hSt
        go_simp
        try with_reducible rfl
      try simp only [List.getElem_toArray, List.getElem_cons_zero, List.getElem_cons_succ, Act.put, List.setIfInBounds_toArray, List.set_cons_zero, List.set_cons_succ]
      refine wpAnyH_one 7 _ rfl (by kernel_rfl) (by kernel_rfl) ?_
      intro Kt hK
      go_simp
      generalize hX2 : V1.alloc _ = V2
      have hbz : Below V1.heap.size V1 V2 := hX2 ▸ (Below.refl _ _).alloc (Nat.le_refl _) _
      have hz2 := boxedV V1 V2 [.nilFunc, .nilFunc] 192 (by rw [← hX2]; rfl)
      have hS2 := thenB hS1 hbz
      refine hK _ _ hS2 ?_
      clear hK Kt hX2
      try simp only [List.getElem_toArray, List.getElem_cons_zero, List.getElem_cons_succ, Act.put, List.setIfInBounds_toArray, List.set_cons_zero, List.set_cons_succ]
      refine wpAnyH_chainOf [8, 9] _ _ _ (by kernel_rfl) (by kernel_rfl) ?_
      simp only [List.filterMap_cons, List.filterMap_nil, List.getElem?_toArray, List.getElem?_cons_zero, List.getElem?_cons_succ]
      refine wpChain_vput rfl 192 (.tmp 3) (.tmp 11) rfl V1.heap.size 0 rfl [p, q] rfl infoCo hone _ [.nilFunc, .nilFunc] hz2 (by simp) ?_
      intro V9 HV9 HG9
      have hle : W1.heap.size ≤ V1.heap.size := hS1.size
      have hS9 := hS2.grown (unhide HG9) hS2.size (fun i e => by injection e with e; omega)
      refine ⟨hS9, ?_⟩
      refine wpChain_step rfl fun Kt hKt => ?_
      go_simp
      refine hKt _ _ hS9 ?_
      clear hKt Kt
      refine wpChain_nil ?_
      exact cont _ _ p q V9 HV9 (hide hS9) (hide hpq) (hide hle)
  
    · intro Kt hK
      go_simp
      generalize hX2 : V1.alloc _ = V2
      have hbz : Below V1.heap.size V1 V2 := hX2 ▸ (Below.refl _ _).alloc (Nat.le_refl _) _
      have ho2 : V2.ownsMap _ _ _ _ _ _ := hX2 ▸ ho1.alloc _
      have hz2 := boxedV V1 V2 [.nilFunc, .nilFunc] 192 (by rw [← hX2]; rfl)
      have hS2 := thenB hS1 hbz
      refine hK _ _ hS2 ?_
      clear hK Kt hX2
      try simp only [List.getElem_toArray, List.getElem_cons_zero, List.getElem_cons_succ, Act.put, List.setIfInBounds_toArray, List.set_cons_zero, List.set_cons_succ]
      refine wpAnyH_one 3 _ rfl (by kernel_rfl) (by kernel_rfl) ?_
      skip
      intro Kt hK
      obtain ⟨p, q, hrun, hpq, hone⟩ := rcond_look ho2 kd (unhide HK)
      go_simp
      refine hK _ _ hS2 ?_
      clear hK Kt hrun
      try simp only [List.getElem_toArray, List.getElem_cons_zero, List.getElem_cons_succ, Act.put, List.setIfInBounds_toArray, List.set_cons_zero, List.set_cons_succ]
      refine wpAnyH_take (i := 4) (v := ?_) rfl (by kernel_rfl) (by kernel_rfl) (by kernel_rfl) (fun _ _ _ h => h) (Or.inl ⟨by kernel_rfl, ?_⟩) (by assumption) ?_
      rotate_left
      · intro Wt hSt
        go_simp
        try with_reducible rfl
      try simp only [List.getElem_toArray, List.getElem_cons_zero, List.getElem_cons_succ, Act.put, List.setIfInBounds_toArray, List.set_cons_zero, List.set_cons_succ]
      refine wpAnyH_take (i := 5) (v := ?_) rfl (by kernel_rfl) (by kernel_rfl) (by kernel_rfl) (fun _ _ _ h => h) (Or.inl ⟨by kernel_rfl, ?_⟩) (by assumption) ?_
      rotate_left
      · intro Wt hSt
        go_simp
        try with_reducible rfl
      try simp only [List.getElem_toArray, List.getElem_cons_zero, List.getElem_cons_succ, Act.put, List.setIfInBounds_toArray, List.set_cons_zero, List.set_cons_succ]
      refine wpAnyH_take (i := 6) (v := ?_) rfl (by kernel_rfl) (by kernel_rfl) (by kernel_rfl) (fun _ _ _ h => h) (Or.inl ⟨by kernel_rfl, ?_⟩) (by assumption) ?_
      rotate_left
      · intro Wt hSt
        go_simp
        try with_reducible rfl
      try simp only [List.getElem_toArray, List.getElem_cons_zero, List.getElem_cons_succ, Act.put, List.setIfInBounds_toArray, List.set_cons_zero, List.set_cons_succ]
      refine wpAnyH_chainOf [8, 9] _ _ _ (by kernel_rfl) (by kernel_rfl) ?_
      simp only [List.filterMap_cons, List.filterMap_nil, List.getElem?_toArray, List.getElem?_cons_zero, List.getElem?_cons_succ]
      refine wpChain_vput rfl 192 (.tmp 3) (.tmp 11) rfl V1.heap.size 0 rfl [p, q] rfl infoCo hone _ [.nilFunc, .nilFunc] hz2 (by simp) ?_
      intro V9 HV9 HG9
      have hle : W1.heap.size ≤ V1.heap.size := hS1.size
      have hS9 := hS2.grown (unhide HG9) hS2.size (fun i e => by injection e with e; omega)
      refine ⟨hS9, ?_⟩
      refine wpChain_step rfl fun Kt hKt => ?_
      go_simp
      refine hKt _ _ hS9 ?_
      clear hKt Kt
      refine wpChain_nil ?_
      exact cont _ _ p q V9 HV9 (hide hS9) (hide hpq) (hide hle)
  
  · intro Kt hK
    go_simp
    generalize hX2 : W.alloc _ = V0
    have hbz : Below W.heap.size W V0 := hX2 ▸ (Below.refl _ _).alloc (Nat.le_refl _) _
    have hz2 := boxedV W V0 [.nilFunc, .nilFunc] 192 (by rw [← hX2]; rfl)
    have hSa := thenB hS hbz
    refine hK _ _ hSa ?_
    clear hK Kt hX2
    try simp only [List.getElem_toArray, List.getElem_cons_zero, List.getElem_cons_succ, Act.put, List.setIfInBounds_toArray, List.set_cons_zero, List.set_cons_succ]
    refine wpAnyH_one 0 _ rfl (by kernel_rfl) (by kernel_rfl) ?_
    intro Kt hK
    go_simp
    refine (rcond_any V0).mono ?_; rintro x V1 ⟨rfl, hg1, ho1⟩
    dsimp only
    have hS1 := thenB hSa hg1
    refine hK _ _ hS1 ?_
    clear hK Kt
    try simp only [List.getElem_toArray, List.getElem_cons_zero, List.getElem_cons_succ, Act.put, List.setIfInBounds_toArray, List.set_cons_zero, List.set_cons_succ]
    refine wpAnyH_one 3 _ rfl (by kernel_rfl) (by kernel_rfl) ?_
    have hzb := hz2.keep hg1
    intro Kt hK
    obtain ⟨p, q, hrun, hpq, hone⟩ := rcond_look ho1 kd (unhide HK)
    go_simp
    refine hK _ _ hS1 ?_
    clear hK Kt hrun
    try simp only [List.getElem_toArray, List.getElem_cons_zero, List.getElem_cons_succ, Act.put, List.setIfInBounds_toArray, List.set_cons_zero, List.set_cons_succ]
    refine wpAnyH_take (i := 4) (v := ?_) rfl (by kernel_rfl) (by kernel_rfl) (by kernel_rfl) (fun _ _ _ h => h) (Or.inl ⟨by kernel_rfl, ?_⟩) (by assumption) ?_
    rotate_left
    · intro Wt hSt
      go_simp
      try with_reducible rfl
    try simp only [List.getElem_toArray, List.getElem_cons_zero, List.getElem_cons_succ, Act.put, List.setIfInBounds_toArray, List.set_cons_zero, List.set_cons_succ]
    refine wpAnyH_take (i := 5) (v := ?_) rfl (by kernel_rfl) (by kernel_rfl) (by kernel_rfl) (fun _ _ _ h => h) (Or.inl ⟨by kernel_rfl, ?_⟩) (by assumption) ?_
    rotate_left
    · intro Wt hSt
      go_simp
      try with_reducible rfl
    try simp only [List.getElem_toArray, List.getElem_cons_zero, List.getElem_cons_succ, Act.put, List.setIfInBounds_toArray, List.set_cons_zero, List.set_cons_succ]
    refine wpAnyH_take (i := 6) (v := ?_) rfl (by kernel_rfl) (by kernel_rfl) (by kernel_rfl) (fun _ _ _ h => h) (Or.inl ⟨by kernel_rfl, ?_⟩) (by assumption) ?_
    rotate_left
    · intro Wt hSt
      go_simp
      try with_reducible rfl
    try simp only [List.getElem_toArray, List.getElem_cons_zero, List.getElem_cons_succ, Act.put, List.setIfInBounds_toArray, List.set_cons_zero, List.set_cons_succ]
    refine wpAnyH_chainOf [8, 9] _ _ _ (by kernel_rfl) (by kernel_rfl) ?_
    simp only [List.filterMap_cons, List.filterMap_nil, List.getElem?_toArray, List.getElem?_cons_zero, List.getElem?_cons_succ]
    refine wpChain_vput rfl 192 (.tmp 3) (.tmp 11) rfl W.heap.size 0 rfl [p, q] rfl infoCo hone _ [.nilFunc, .nilFunc] hzb (by simp) ?_
    intro V9 HV9 HG9
    have hle : W1.heap.size ≤ W.heap.size := hS.size
    have hS9 := hS1.grown (unhide HG9) hS1.size (fun i e => by injection e with e; omega)
    refine ⟨hS9, ?_⟩
    refine wpChain_step rfl fun Kt hKt => ?_
    go_simp
    refine hKt _ _ hS9 ?_
    clear hKt Kt
    refine wpChain_nil ?_
    exact cont _ _ p q V9 HV9 (hide hS9) (hide hpq) (hide hle)
  
end Go.Proofs.YtdmaopfaeigelaaGreatDoor
