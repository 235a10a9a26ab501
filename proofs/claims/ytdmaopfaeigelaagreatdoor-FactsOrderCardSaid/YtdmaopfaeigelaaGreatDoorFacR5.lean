/- Contracts over the program of facts: read, given the contract of its builder. -/
import Derived.Test.YtdmaopfaeigelaaGreatDoorFacR4
namespace Go.Proofs.YtdmaopfaeigelaaGreatDoor
set_option linter.unusedSimpArgs false
set_option linter.unusedVariables false
open Go.RowKit

def G (V : Va) (x : ByteArray) : Va := (getF V x).getD zeroVa
def lsF (V : Va) : List Va := match V with | .mk _ _ _ l _ => l
/-- the fact before its content is read -/
def baseF (V : Va) : Fc := { f0 with kind := numF (G V kindS), day := numF (G V dayS), known := numF (G V knownS) }
theorem VAt.cap {w : World} {V : Va} {k n : Int} {s : ByteArray} {A : Option Addr} {m c : Nat} {A' : Option Addr} {m' c' : Nat} (h : VAt w V (vaV k n s A m c A' m' c')) : (lsF V).length = m ∧ m ≤ c ∧ (A = none → c = 0) ∧ m ≤ 140737488351232 ∧ ElsAt w A (lsF V) ∧ numF V = n ∧ I64 n := by
  obtain ⟨k1, n1, s1, l1, ks1, A1, c1, A2, c2, rfl, e, _, hn, _, hl, _, hA, _, hE, _⟩ := h.open
  unfold vaV at e
  simp at e
  obtain ⟨_, rfl, _, ⟨rfl, rfl, rfl⟩, _⟩ := e
  refine ⟨rfl, ?_, hA, hl, hE, rfl, hn⟩
  cases h
  assumption
def BuiltZ (fb rb : Nat) (Zp : List Value → World → Prop) (w : World) (e : Ending) (w' : World) : Prop :=
  e = .returned (.tuple #[]) ∧ (∃ cs, VsAt w' fb 45 cs ∧ cs.length = 82 ∧ (∀ v ∈ cs, v.oneCell' = true) ∧ Zp cs w') ∧ ∀ B, B ≤ rb → B ≤ fb → B ≤ w.heap.size → Below B w w'
theorem run_builder2 (k : Int) (h1 : 1 ≤ k) (h2 : k ≤ 8) (args : Array Value) (w : World) :
    (callFunc (buildI k) args).run Tryz.prog w = .ok (.enter (buildI k) args) w ∧ True := by
  have : k = 1 ∨ k = 2 ∨ k = 3 ∨ k = 4 ∨ k = 5 ∨ k = 6 ∨ k = 7 ∨ k = 8 := by omega
  rcases this with rfl | rfl | rfl | rfl | rfl | rfl | rfl | rfl
  · exact ⟨by kernel_rfl, trivial⟩
  · exact ⟨by kernel_rfl, trivial⟩
  · exact ⟨by kernel_rfl, trivial⟩
  · exact ⟨by kernel_rfl, trivial⟩
  · exact ⟨by kernel_rfl, trivial⟩
  · exact ⟨by kernel_rfl, trivial⟩
  · exact ⟨by kernel_rfl, trivial⟩
  · exact ⟨by kernel_rfl, trivial⟩
theorem inR_iff {k : Int} (h : inR k 1 8 = true) : 1 ≤ k ∧ k ≤ 8 := by
  unfold inR at h
  have h2 := (Bool.and_eq_true _ _).mp h
  rw [decide_eq_true_eq, decide_eq_true_eq] at h2
  exact h2
theorem run_builder (k : Int) (h : inR k 1 8 = true) (args : Array Value) (w : World) : (callFunc (buildI k) args).run Tryz.prog w = .ok (.enter (buildI k) args) w :=
  (run_builder2 k (inR_iff h).1 (inR_iff h).2 args w).1
set_option maxRecDepth 100000 in
set_option maxHeartbeats 4000000 in
theorem read_some (V : Va) (v : Value) (w : World) (hv : VAt w V v) (hk : inR (numF (G V kindS)) 1 8 = true) (Zp : List Value → World → Prop)
    (hb : ∀ W bx rb fb, Below w.heap.size w W → w.heap.size ≤ rb → w.heap.size ≤ fb → RdV W rb (lsF (G V whatS)) → W.cell? ⟨bx, 0, none⟩ = some (.pointer (some ⟨rb, 0, none⟩)) → bx ≠ rb → fb ≠ rb → bx ≠ fb → VsAt W fb 45 (fC (baseF V) a0) →
      Calls Tryz.prog (buildI (numF (G V kindS))) #[.pointer (some ⟨fb, 0, none⟩), .pointer (some ⟨bx, 0, none⟩)] W (BuiltZ fb rb Zp W))
    (hZ : ∀ cs W W', Zp cs W → VsAt W (w.heap.size + 1) 45 cs → W.grownBy W' (some (w.heap.size + 1)) → Zp cs W') :
    Calls Tryz.prog 44 #[v] w fun e w' => ∃ cs, e = .returned (.agg cs.toArray) ∧ cs.length = 82 ∧ Zp cs w' ∧ Below w.heap.size w w' := by
  obtain ⟨k, n, s, l, ks, A, c, A', c', hV, rfl, _⟩ := hv.open
  obtain ⟨y1, hy1, hc1⟩ := readGet_x V _ _ _ _ _ _ _ _ _ dayS w hv
  obtain ⟨y2, hy2, hc2⟩ := readGet_x V _ _ _ _ _ _ _ _ _ kindS w hv
  obtain ⟨y3, hy3, hc3⟩ := readGet_x V _ _ _ _ _ _ _ _ _ knownS w hv
  obtain ⟨y4, hy4, hc4⟩ := readGet_x V _ _ _ _ _ _ _ _ _ whatS w hv
  change VAt w (G V dayS) _ at hy1
  change VAt w (G V kindS) _ at hy2
  change VAt w (G V knownS) _ at hy3
  change VAt w (G V whatS) _ at hy4
  have HBF : Hid (baseF V = { f0 with kind := numF (G V kindS), day := numF (G V dayS), known := numF (G V knownS) }) := rfl
  obtain ⟨k1, n1, s1, l1, ks1, A1, c1, B1, d1, hV1, rfl, _, hn1, _⟩ := hy1.open
  obtain ⟨k2, n2, s2, l2, ks2, A2, c2, B2, d2, hV2, rfl, _, hn2, _⟩ := hy2.open
  obtain ⟨k3, n3, s3, l3, ks3, A3, c3, B3, d3, hV3, rfl, _, hn3, _⟩ := hy3.open
  obtain ⟨k4, n4, s4, l4, ks4, A4, c4, B4, d4, hV4, rfl, _⟩ := hy4.open
  obtain ⟨e4, hcap, hA4, hl4, hE4, _⟩ := hy4.cap
  rw [show numF (G V kindS) = n2 by rw [hV2]; rfl] at hk hb HBF
  rw [show numF (G V dayS) = n1 by rw [hV1]; rfl, show numF (G V knownS) = n3 by rw [hV3]; rfl] at HBF
  generalize baseF V = bf at HBF hb
  have HH1 := hide hc1; have HH2 := hide hc2; have HH3 := hide hc3; have HH4 := hide hc4; have HK := hide hk; have HBD := hide hb; have HZ := hide hZ
  have HR4 := hide (And.intro e4 (And.intro hcap (And.intro hA4 (And.intro hl4 hE4))))
  have HI2 := hide hn2
  clear hc1 hc2 hc3 hc4 hk hb hZ hy1 hy2 hy3 hy4 hV1 hV2 hV3 hV4 hn1 hn2 hn3 e4 hcap hA4 hl4 hE4 hv hV
  unfold vaV at *
  have hmm := @run_makeMap Tryz.prog
  have hmf : ∀ (fn : Fn) (first cap : Array Value) (w : World), (Instr.makeFunc fn first cap).run Tryz.prog w = .ok (.func fn first cap) w := fun _ _ _ _ => rfl
  have hf1 := field1
  have hf3 := field3
  go_enter Tryz.func44, Tryz.ntmps44
  go_upto_region 1 with fail
  generalize hX1 : w.alloc _ = W1
  have hB1 : Below w.heap.size w W1 := hX1 ▸ (Below.refl _ _).alloc (Nat.le_refl _) _
  have HV1 := hide (boxedV w W1 [.int .i64 k, .int .i64 n, .string s, .slice A l.length c, .slice A' ks.length c'] 66 (by rw [← hX1]; rfl))
  have hz1 : W1.heap.size = w.heap.size + 1 := by rw [← hX1]; show (w.heap.push _).size = _; rw [Array.size_push]
  have HB1 := hide hB1
  clear hX1 hB1
  generalize hX2 : W1.alloc _ = W2
  have hB2 : Below W1.heap.size W1 W2 := hX2 ▸ (Below.refl _ _).alloc (Nat.le_refl _) _
  have HF2 := hide (boxedV W1 W2 (fC f0 a0) 45 (by rw [← hX2]; rfl))
  rw [hz1] at HF2
  have HB2 := hide (thenB (unhide HB1) hB2); have HV2 := hide ((unhide HV1).keep hB2)
  clear hX2 hB2 hz1
  go_wp2_with fail
  refine ((unhide HH1) _ W2 (unhide HB2) (unhide HV2)).mono ?_; rintro e W3 ⟨rfl, hb⟩
  have HB3 := hide (thenB (unhide HB2) hb); have HV3 := hide ((unhide HV2).keep hb); have HF3 := hide ((unhide HF2).keep hb)
  clear hb
  go_wp2_with fail
  refine ((unhide HH2) _ W3 (unhide HB3) (unhide HV3)).mono ?_; rintro e W4 ⟨rfl, hb⟩
  have HB4 := hide (thenB (unhide HB3) hb); have HV4 := hide ((unhide HV3).keep hb); have HF4 := hide ((unhide HF3).keep hb)
  clear hb
  go_wp2_with fail
  refine ((unhide HH3) _ W4 (unhide HB4) (unhide HV4)).mono ?_; rintro e W5 ⟨rfl, hb⟩
  have HB5 := hide (thenB (unhide HB4) hb); have HV5 := hide ((unhide HV4).keep hb); have HF5 := hide ((unhide HF4).keep hb)
  clear hb
  have hp0 := (unhide HF5).cell (j := 0) rfl
  have hp1 := (unhide HF5).cell (j := 1) rfl
  have hp2 := (unhide HF5).cell (j := 2) rfl
  have hq0 := (unhide HF5).free 0
  have hq1 := (unhide HF5).free 1
  have hq2 := (unhide HF5).free 2
  go_upto_region 3 with fail
  clear hp0 hp1 hp2 hq0 hq1 hq2
  have hcs : (((fC f0 a0).set 1 (.int .i64 n1)).set 0 (.int .i64 n2)).set 2 (.int .i64 n3) = fC { f0 with kind := n2, day := n1, known := n3 } a0 := rfl
  have hv6 := (((unhide HF5).set 1 (.int .i64 n1)).set 0 (.int .i64 n2)).set 2 (.int .i64 n3)
  rw [hcs, ← unhide HBF] at hv6
  have hg6 := ((fgrownSetCells (w.heap.size + 1) [.int .i64 n1] 1 W5).trans (fgrownSetCells (w.heap.size + 1) [.int .i64 n2] 0 _)).trans (fgrownSetCells (w.heap.size + 1) [.int .i64 n3] 2 _)
  change W5.grownBy (((W5.setCell ⟨w.heap.size + 1, 1, none⟩ (.int .i64 n1)).setCell ⟨w.heap.size + 1, 0, none⟩ (.int .i64 n2)).setCell ⟨w.heap.size + 1, 2, none⟩ (.int .i64 n3)) (some (w.heap.size + 1)) at hg6
  generalize ((W5.setCell ⟨w.heap.size + 1, 1, none⟩ (.int .i64 n1)).setCell ⟨w.heap.size + 1, 0, none⟩ (.int .i64 n2)).setCell ⟨w.heap.size + 1, 2, none⟩ (.int .i64 n3) = W6 at hv6 hg6 ⊢
  have HF6 := hide hv6
  have HB6 := hide ((unhide HB5).grown hg6 (unhide HB5).size (fun i e => by injection e with e; omega))
  have HV6 := hide ((unhide HV5).grown hg6 (fun e => by injection e with e; omega))
  clear hv6 hg6 hcs
  go_wp2_with fail
  refine ((unhide HH4) _ W6 (unhide HB6) (unhide HV6)).mono ?_; rintro e W7 ⟨rfl, hb⟩
  have HB7 := hide (thenB (unhide HB6) hb); have HF7 := hide ((unhide HF6).keep hb)
  clear hb HV1 HV2 HV3 HV4 HV5 HV6 HF2 HF3 HF4 HF5 HF6 HB1 HB2 HB3 HB4 HB5 HB6 HH1 HH2 HH3 HH4
  go_upto_region 4 with fail
  rename_i K5 hK5
  generalize hX8 : W7.alloc _ = W8
  have hB8 : Below W7.heap.size W7 W8 := hX8 ▸ (Below.refl _ _).alloc (Nat.le_refl _) _
  have hv8 := boxedV W7 W8 [.slice A4 l4.length c4] 124 (by rw [← hX8]; rfl)
  have HB8 := hide (thenB (unhide HB7) hB8); have HF8 := hide ((unhide HF7).keep hB8)
  have HR8 : Hid (RdV W8 W7.heap.size (lsF (G V whatS))) := by
    obtain ⟨e4, hcap, hA4, hl4, hE4⟩ := unhide HR4
    exact ⟨A4, c4, hA4, by rw [e4]; exact hcap, by rw [e4]; exact hl4, by rw [e4]; exact hv8, hE4.below (unhide HB8)⟩
  have hlf7 : w.heap.size + 1 < W7.heap.size := lt_of_block (unhide HF7)
  have hlt7 : W7.heap.size < W8.heap.size := lt_of_block hv8
  have HLF := hide hlf7; have HLT := hide hlt7
  have HC0 : Hid (W8.cell? ⟨w.heap.size + 1, 0, none⟩ = some (.int .i64 n2)) := by
    have := (unhide HF8).cell (j := 0) (v := .int .i64 n2) (by rw [unhide HBF]; rfl)
    exact this
  have HWF : Hid ((Lit.int .i64 n2).wf = true) := by
    have h := unhide HI2
    have : (Lit.int .i64 n2).wf = true := by
      simp only [Lit.wf, Bool.and_eq_true, decide_eq_true_eq]
      exact h
    exact this
  clear hX8 hB8 hv8 hlf7 hlt7 HF7 HB7 HR4 HI2
  obtain ⟨Y, hY⟩ : ∃ Y, Y = W8.drewN 1 := ⟨_, rfl⟩
  have HY : Hid (Y = W8.drewN 1) := hY
  have hS : Below W8.heap.size W8 Y := below_named HY
  clear hY
  refine held (S := Below W8.heap.size W8) Y HY (by kernel_rfl) ?_
  refine wpAnyH_take (i := 0) (v := ?_) rfl (by kernel_rfl) (by kernel_rfl) (by kernel_rfl) (fun _ _ _ h => h) (Or.inl ⟨by kernel_rfl, ?_⟩) (by assumption) ?_
  rotate_left
  · intro Wt hSt
    go_simp
    try with_reducible rfl
  try simp only [List.getElem_toArray, List.getElem_cons_zero, List.getElem_cons_succ, Act.put, List.setIfInBounds_toArray, List.set_cons_zero, List.set_cons_succ]
  refine wpAnyH_take (i := 2) (v := ?_) rfl (by kernel_rfl) (by kernel_rfl) (by kernel_rfl) (fun _ _ _ h => h) (Or.inl ⟨by kernel_rfl, ?_⟩) (by assumption) ?_
  rotate_left
  · intro Wt hSt
    go_simp
    try with_reducible rfl
  try simp only [List.getElem_toArray, List.getElem_cons_zero, List.getElem_cons_succ, Act.put, List.setIfInBounds_toArray, List.set_cons_zero, List.set_cons_succ]
  refine wpAnyH_take (i := 3) (v := ?_) rfl (by kernel_rfl) (by kernel_rfl) (by kernel_rfl) (fun _ _ _ h => h) (Or.inl ⟨by kernel_rfl, ?_⟩) (by assumption) ?_
  rotate_left
  · intro Wt hSt
    have hct := (show Wt.cell? ⟨w.heap.size + 1, 0, none⟩ = some (.int .i64 n2) from (hSt.cell (p := ⟨w.heap.size + 1, 0, none⟩) (lt_of_cell (unhide HC0))).trans (unhide HC0))
    go_simp
    try with_reducible rfl
  try simp only [List.getElem_toArray, List.getElem_cons_zero, List.getElem_cons_succ, Act.put, List.setIfInBounds_toArray, List.set_cons_zero, List.set_cons_succ]
  refine wpAnyH_one 1 _ rfl (by kernel_rfl) (by kernel_rfl) ?_
  intro Kt hK
  go_simp
  refine (builders_any _ ⟨_, rfl⟩ Y).mono ?_; rintro x V1 ⟨rfl, hb1, ho1, hbx1⟩
  dsimp only
  have hS1 := thenB hS hb1
  refine hK _ _ hS1 ?_
  clear hK Kt
  try simp only [List.getElem_toArray, List.getElem_cons_zero, List.getElem_cons_succ, Act.put, List.setIfInBounds_toArray, List.set_cons_zero, List.set_cons_succ]
  refine wpAnyH_one 4 _ rfl (by kernel_rfl) (by kernel_rfl) ?_
  intro Kt hK
  obtain ⟨p, hrun, hp⟩ := build_look ho1 n2 (unhide HWF)
  rw [unhide HK] at hrun
  obtain rfl := hp (unhide HK)
  unfold bV at hrun
  go_simp
  refine hK _ _ hS1 ?_
  clear hK Kt hrun hp
  try simp only [List.getElem_toArray, List.getElem_cons_zero, List.getElem_cons_succ, Act.put, List.setIfInBounds_toArray, List.set_cons_zero, List.set_cons_succ]
  refine wpAnyH_take (i := 5) (v := ?_) rfl (by kernel_rfl) (by kernel_rfl) (by kernel_rfl) (fun _ _ _ h => h) (Or.inl ⟨by kernel_rfl, ?_⟩) (by assumption) ?_
  rotate_left
  · intro Wt hSt
    go_simp
    try with_reducible rfl
  try simp only [List.getElem_toArray, List.getElem_cons_zero, List.getElem_cons_succ, Act.put, List.setIfInBounds_toArray, List.set_cons_zero, List.set_cons_succ]
  refine wpAnyH_take (i := 6) (v := ?_) rfl (by kernel_rfl) (by kernel_rfl) (by kernel_rfl) (fun _ _ _ h => h) (Or.inl ⟨by kernel_rfl, ?_⟩) (by assumption) ?_
  rotate_left
  · intro Wt hSt
    go_simp
    try with_reducible rfl
  try simp only [List.getElem_toArray, List.getElem_cons_zero, List.getElem_cons_succ, Act.put, List.setIfInBounds_toArray, List.set_cons_zero, List.set_cons_succ]
  refine wpAnyH_take (i := 7) (v := ?_) rfl (by kernel_rfl) (by kernel_rfl) (by kernel_rfl) (fun _ _ _ h => h) (Or.inl ⟨by kernel_rfl, ?_⟩) (by assumption) ?_
  rotate_left
  · intro Wt hSt
    go_simp
    try with_reducible rfl
  try simp only [List.getElem_toArray, List.getElem_cons_zero, List.getElem_cons_succ, Act.put, List.setIfInBounds_toArray, List.set_cons_zero, List.set_cons_succ]
  refine wpAnyH_chainOf [8, 9] _ _ _ (by kernel_rfl) (by kernel_rfl) ?_
  simp only [List.filterMap_cons, List.filterMap_nil, List.getElem?_toArray, List.getElem?_cons_zero, List.getElem?_cons_succ]
  refine wpChain_step rfl fun Kt hKt => ?_
  go_simp
  refine hKt _ _ hS1 ?_
  clear hKt Kt
  refine wpChain_step rfl fun Kt hKt => ?_
  go_simp
  refine hKt _ _ hS1 ?_
  clear hKt Kt
  refine wpChain_nil ?_
  refine hK5 _ _ ?_
  clear hK5 K5 ho1
  have hyz : W8.heap.size ≤ Y.heap.size := hS.size
  have hbd := (unhide HBD) V1 Y.heap.size W7.heap.size (w.heap.size + 1) (thenB (unhide HB8) hS1) (by have := unhide HLF; omega) (by omega) ((unhide HR8).below hS1) hbx1 (by have := unhide HLT; omega) (by have := unhide HLF; omega) (by have := unhide HLF; have := unhide HLT; omega) ((unhide HF8).keep hS1)
  have HBB := hide hbd
  have HB1 := hide (thenB (unhide HB8) hS1)
  have hle1 : w.heap.size ≤ W7.heap.size := by have := unhide HLF; omega
  have HLE := hide hle1
  have HRUN := hide (fun (args : Array Value) (X : World) => run_builder n2 (unhide HK) args X)
  generalize buildI n2 = bi at HBB HRUN ⊢
  clear hbd HBD hS hS1 hb1 hbx1 hyz HY HB8 HF8 HC0 HWF HR8 HLT HLF HBF HK hle1
  go_wp2_with fail
  rw [(unhide HRUN) _ V1, Oper.upon_enter]
  refine (unhide HBB).mono ?_; rintro e W9 ⟨rfl, ⟨cs, hv9, hl9, ho9, hz9⟩, hb9⟩
  have HB9 := hide ((unhide HB1).trans (hb9 w.heap.size (unhide HLE) (by omega) (unhide HB1).size))
  have HV9 := hide hv9; have HL9 := hide hl9; have HO9 := hide ho9; have HZ9 := hide hz9
  clear hv9 hl9 ho9 hz9 hb9 HBB
  go_upto_region 7 with fail
  refine wp_region_lit ?_
  refine wpList_vload rfl 45 (.tmp 2) rfl (w.heap.size + 1) 0 rfl _ Tryz.underlying45 rfl cs (by rw [unhide HL9]; exact infoFc) (unhide HV9).range ?_
  try simp only [List.getElem_toArray, List.getElem_cons_zero, List.getElem_cons_succ, Act.put, List.setIfInBounds_toArray, List.set_cons_zero, List.set_cons_succ]
  refine wpList_vput rfl 45 (.tmp 2) (.tmp 36) rfl (w.heap.size + 1) 0 rfl cs rfl (by rw [unhide HL9]; exact infoFc) (unhide HO9) 45 _ (unhide HV9) (by simp) ?_
  intro W10 HV10 HG10
  rw [spliceV_all _ _ rfl] at HV10
  have HB10 := hide ((unhide HB9).grown (unhide HG10) (unhide HB9).size (fun i e => by injection e with e; omega))
  have HZ10 := hide ((unhide HZ) cs W9 W10 (unhide HZ9) (unhide HV9) (unhide HG10))
  go_wp2_with fail
  refine vret rfl rfl (w.heap.size + 1) rfl 45 cs (unhide HV10) _ Tryz.underlying45 rfl (by rw [unhide HL9]; exact infoFc) ⟨cs, rfl, unhide HL9, unhide HZ10, unhide HB10⟩
end Go.Proofs.YtdmaopfaeigelaaGreatDoor
