/- The law SigningOrder: each one-time key signs once. -/
import Derived.Test.YtninjgplgoimeaaDoorSigSane
import Derived.Test.YtninjgplgoimeaaDoorClose
namespace Go.Proofs.YtninjgplgoimeaaDoor
set_option linter.unusedSimpArgs false
set_option linter.unusedVariables false
open Go.RowKit Go.LawClose

theorem verS_own (seed : List Int) (n i : Nat) (msg : List Int) (hi : i < n) : verS (treeP (pubsS seed n)) n i (bitsS (treeP (pubsS seed n)) i msg) (openedS seed i (bitsS (treeP (pubsS seed n)) i msg) 64) (closedS seed i (bitsS (treeP (pubsS seed n)) i msg) 64) (pathP (pubsS seed n) i) = true := ver_own seed n i _ hi
/-- a load of values under a guard -/
theorem wpList_vgload {P : Program} {ops : Array Oper} {rest : List Oper} {o : Oper} {a : Act} {w : World} {Q : Exit → Act → World → Prop} (hw : Region.wanted o (yielded ops a.tmps) = true) (ty : TypeId) (x : Operand) (ho : o.op = .load ty x)
    (N : Nat) (hx : a.eval x = .pointer (some ⟨N, 0, none⟩)) (d : TypeDesc) (hu : P.underlying ty = some d) (hd : d.isRow = true) (T : TypeId) (cs : List Value) (hi : (P.info? ty).map (·.size) = some cs.length) (h0 : VsAt w N T cs)
    (h : wpList P ops Q rest (a.put o.dst (.agg cs.toArray)) w) : wpList P ops Q (o :: rest) a w :=
  wpList_wanted hw fun _ hK => wp_load_mid ty x ho N 0 hx cs d h0.range hu hd hi (hK _ _ h)

set_option maxRecDepth 100000 in
set_option maxHeartbeats 8000000 in
theorem order_any (A : Option Addr) (c : Nat) (seed : List Int) (Aa : Option Addr) (ca : Nat) (ma : List Int) (Ab : Option Addr) (cb : Nat) (mb : List Int) (w : World) (hA : Bt w A seed) (hc : seed.length ≤ c)
    (hAa : Bt w Aa ma) (hca : ma.length ≤ ca) (hna : Aa = none → ca = 0) (hAb : Bt w Ab mb) (hcb : mb.length ≤ cb) (hnb : Ab = none → cb = 0) (hT : DTab w) :
    Calls Tryd.prog 9 #[.slice A seed.length c, .slice Aa ma.length ca, .slice Ab mb.length cb] w (LawOk w) := by
  obtain ⟨n, hn⟩ : ∃ n, n = seed.length := ⟨_, rfl⟩
  obtain ⟨na, hla⟩ : ∃ n, n = ma.length := ⟨_, rfl⟩
  obtain ⟨nb, hlb⟩ : ∃ n, n = mb.length := ⟨_, rfl⟩
  rw [← hn] at hc ⊢
  rw [← hla] at hca ⊢
  rw [← hlb] at hcb ⊢
  have HB : Hid (Below w.heap.size w w) := Below.refl _ _
  have HT := hide hT; have HA := hide hA; have HMA := hide hAa; have HMB := hide hAb
  have HN : Hid (n = seed.length ∧ n ≤ c ∧ na = ma.length ∧ na ≤ ca ∧ (Aa = none → ca = 0) ∧ nb = mb.length ∧ nb ≤ cb ∧ (Ab = none → cb = 0)) := ⟨hn, hc, hla, hca, hna, hlb, hcb, hnb⟩
  clear hT hA hAa hAb hn hc hla hca hna hlb hcb hnb
  go_enter Tryd.func9, Tryd.ntmps9
  go_wp2_with fail
  refine (sane4_any w (unhide HT)).mono ?_; rintro x W1 ⟨rfl, hb⟩
  replace HT := hide ((unhide HT).keep hb)
  replace HA := hide ((unhide HA).keep hb)
  replace HMA := hide ((unhide HMA).keep hb)
  replace HMB := hide ((unhide HMB).keep hb)
  replace HB := hide (thenB (unhide HB) hb)
  clear hb
  by_cases hk : keyOk n 2 0 = true
  case neg =>
    have hk' : keyOk n 2 0 = false := by simpa using hk
    go_wp2_with fail
    refine (New_no W1 A n c 2 hk').mono ?_; rintro x W2 ⟨rfl, hb⟩
    replace HT := hide ((unhide HT).keep hb)
    replace HA := hide ((unhide HA).keep hb)
    replace HMA := hide ((unhide HMA).keep hb)
    replace HMB := hide ((unhide HMB).keep hb)
    replace HB := hide (thenB (unhide HB) hb)
    clear hb
    clear hk hk'
    go_upto_region 4 with fail
    generalize hX : W2.alloc _ = W3
    have hb : Below W2.heap.size W2 W3 := hX ▸ (Below.refl _ _).alloc (Nat.le_refl _) _
    have hv : VsAt W3 W2.heap.size 40 [.slice none 0 0, .int .i64 0, .int .i64 0] := boxedV W2 W3 _ _ (by rw [← hX]; rfl)
    obtain ⟨N_HK, hN⟩ : ∃ N, N = W2.heap.size := ⟨_, rfl⟩
    have hz : W3.heap.size = W2.heap.size + 1 := by rw [← hX]; show (W2.heap.push _).size = _; rw [Array.size_push]
    rw [← hN] at hv ⊢
    rw [← hN] at hz
    have HK_ := hide hv
    have hzz := hz
    clear hX hN hv
    replace HT := hide ((unhide HT).keep hb)
    replace HA := hide ((unhide HA).keep hb)
    replace HMA := hide ((unhide HMA).keep hb)
    replace HMB := hide ((unhide HMB).keep hb)
    replace HB := hide (thenB (unhide HB) hb)
    clear hb
    have HK := HK_
    clear HK_
    go_wp2_with fail
    go_ret
    exact ⟨rfl, unhide HB⟩
  case pos =>
    have hk' := hk
    unfold keyOk at hk'
    rw [decide_eq_true_eq] at hk'
    have HK1 : Hid (keyOk n 2 1 = true) := hide (by unfold keyOk; rw [decide_eq_true_eq]; omega)
    have HK2 : Hid (keyOk n 2 2 = true) := hide (by unfold keyOk; rw [decide_eq_true_eq]; omega)
    have HKO := hide hk
    go_wp2_with fail
    refine (New_yes W1 A n c 2 hk).mono ?_; rintro x W2 ⟨rfl, hb⟩
    replace HT := hide ((unhide HT).keep hb)
    replace HA := hide ((unhide HA).keep hb)
    replace HMA := hide ((unhide HMA).keep hb)
    replace HMB := hide ((unhide HMB).keep hb)
    replace HB := hide (thenB (unhide HB) hb)
    clear hb
    clear hk hk'
    go_upto_region 4 with fail
    generalize hX : W2.alloc _ = W3
    have hb : Below W2.heap.size W2 W3 := hX ▸ (Below.refl _ _).alloc (Nat.le_refl _) _
    have hv : VsAt W3 W2.heap.size 40 [.slice A n c, .int .i64 2, .int .i64 0] := boxedV W2 W3 _ _ (by rw [← hX]; rfl)
    obtain ⟨N_HK, hN⟩ : ∃ N, N = W2.heap.size := ⟨_, rfl⟩
    have hz : W3.heap.size = W2.heap.size + 1 := by rw [← hX]; show (W2.heap.push _).size = _; rw [Array.size_push]
    rw [← hN] at hv ⊢
    rw [← hN] at hz
    have HK_ := hide hv
    have hzz := hz
    clear hX hN hv
    replace HT := hide ((unhide HT).keep hb)
    replace HA := hide ((unhide HA).keep hb)
    replace HMA := hide ((unhide HMA).keep hb)
    replace HMB := hide ((unhide HMB).keep hb)
    replace HB := hide (thenB (unhide HB) hb)
    clear hb
    have HK := HK_
    clear HK_
    clear hz hzz
    by_cases ha : (300 : Int) < (na : Int)
    · go_wp2_with fail
      go_ret
      exact ⟨rfl, unhide HB⟩
    by_cases hb3 : (300 : Int) < (nb : Int)
    · go_wp2_with fail
      go_ret
      exact ⟨rfl, unhide HB⟩
    have H300 : Hid (na ≤ 300 ∧ nb ≤ 300) := ⟨by omega, by omega⟩
    obtain ⟨T, hT⟩ : ∃ t, t = treeP (pubsS seed 2) := ⟨_, rfl⟩
    have hgT : Dg T := hT ▸ dg_tree _
    obtain ⟨ct, hct⟩ : ∃ cs, cs = (T.map (Value.int .u8)).toArray := ⟨_, rfl⟩
    have hst : ct.size = 32 := by rw [hct]; simpa using hgT.len
    have HTT := hide hT; have HGT := hide hgT; have HCT := hide hct
    clear hT hgT hct
    go_upto_region 6 with fail
    refine wp_region_lit ?_
    refine wpList_load_mid rfl 40 (.tmp 7) rfl N_HK 0 rfl [.slice A n c, .int .i64 2, .int .i64 0] _ (unhide HK).range Tryd.underlying40 rfl infoKey ?_
    try simp only [List.getElem_toArray, List.getElem_cons_zero, List.getElem_cons_succ, Act.put, List.setIfInBounds_toArray, List.set_cons_zero, List.set_cons_succ]
    go_wp2_with fail
    have hpu := (by have h := Public_ok W3 A n c seed (unhide HN).1 (unhide HN).2.1 (unhide HA) 2 0 (unhide HKO) (unhide HT); rw [← unhide HTT] at h; exact h : Calls Tryd.prog 35 #[keyV A n c 2 0] W3 fun x w' => x = .returned (.tuple #[dv T, .int .i64 0]) ∧ Below (W3).heap.size W3 w')
    rw [show dv T = .agg ct by rw [unhide HCT]] at hpu
    refine hpu.mono ?_; rintro x W4 ⟨rfl, hb⟩
    clear hpu
    replace HT := hide ((unhide HT).keep hb)
    replace HA := hide ((unhide HA).keep hb)
    replace HMA := hide ((unhide HMA).keep hb)
    replace HMB := hide ((unhide HMB).keep hb)
    replace HK := hide ((unhide HK).keep hb)
    replace HB := hide (thenB (unhide HB) hb)
    clear hb
    dsimp only
    rename_i KK hK
    refine hK _ _ ?_
    clear hK KK
    refine wpList_plain rfl fun Kt hKt => ?_
    go_simp
    refine hKt _ _ ?_
    clear hKt Kt
    refine wpList_plain rfl fun Kt hKt => ?_
    go_simp
    refine hKt _ _ ?_
    clear hKt Kt
    refine wpList_plain rfl fun Kt hKt => ?_
    go_simp
    refine hKt _ _ ?_
    clear hKt Kt
    refine wpList_plain rfl fun Kt hKt => ?_
    go_simp
    refine hKt _ _ ?_
    clear hKt Kt
    generalize hX : W4.alloc _ = W5
    have hb : Below W4.heap.size W4 W5 := hX ▸ (Below.refl _ _).alloc (Nat.le_refl _) _
    have HZ_ := hide (newBy W4 W5 (by rw [← hX]; rfl))
    have HBB_ := hide hb
    clear hX hb
    refine wpList_bstore rfl 24 (.tmp 9) (.tmp 48) rfl W4.heap.size rfl T (show Value.agg ct = _ by rw [unhide HCT]) 32 info32 (unhide HGT).len _ zeros (unhide HZ_) rfl ?_
    intro W6 HV_ HG_
    have hv := unhide HV_
    have hb : Below W4.heap.size W4 W6 := (unhide HBB_).grown (unhide HG_) (unhide HBB_).size (fun i e => by injection e with e; omega)
    obtain ⟨N_HD, hN⟩ : ∃ N, N = W4.heap.size := ⟨_, rfl⟩
    rw [← hN] at hv ⊢
    have HD_ := hide hv
    clear hN hv HV_ HG_ HZ_ HBB_
    replace HT := hide ((unhide HT).keep hb)
    replace HA := hide ((unhide HA).keep hb)
    replace HMA := hide ((unhide HMA).keep hb)
    replace HMB := hide ((unhide HMB).keep hb)
    replace HK := hide ((unhide HK).keep hb)
    replace HB := hide (thenB (unhide HB) hb)
    clear hb
    have HD := HD_
    clear HD_
    try simp only [List.getElem_toArray, List.getElem_cons_zero, List.getElem_cons_succ, Act.put, List.setIfInBounds_toArray, List.set_cons_zero, List.set_cons_succ]
    go_upto_region 7 with fail
    refine wp_region_lit ?_
    refine wpList_load_mid rfl 40 (.tmp 7) rfl N_HK 0 rfl [.slice A n c, .int .i64 2, .int .i64 0] _ (unhide HK).range Tryd.underlying40 rfl infoKey ?_
    try simp only [List.getElem_toArray, List.getElem_cons_zero, List.getElem_cons_succ, Act.put, List.setIfInBounds_toArray, List.set_cons_zero, List.set_cons_succ]
    go_wp2_with fail
    refine (Sign_ok W6 A n c seed (unhide HN).1 (unhide HN).2.1 (unhide HA) 2 0 (unhide HKO) (by decide) Aa na ca ma (unhide HN).2.2.1 (unhide HN).2.2.2.1 (unhide HMA) (unhide HN).2.2.2.2.1 (by have := unhide H300; omega) (unhide HT)).mono ?_; rintro x W7 ⟨A1_1, c1_1, A2_1, c2_1, A3_1, c3_1, rfl, ho1, hcl1, hpl1, hp1, hq1, hb⟩
    replace HT := hide ((unhide HT).keep hb)
    replace HA := hide ((unhide HA).keep hb)
    replace HMA := hide ((unhide HMA).keep hb)
    replace HMB := hide ((unhide HMB).keep hb)
    replace HK := hide ((unhide HK).keep hb)
    replace HD := hide ((unhide HD).keep hb)
    replace HB := hide (thenB (unhide HB) hb)
    clear hb
    rw [← unhide HTT] at ho1 hcl1
    have HO1 := hide ho1; have HC1 := hide hcl1; have HP1 := hide hp1
    have HPL1 : Hid ((pathP (pubsS seed 2) 0).length ≤ c3_1) := hpl1
    obtain ⟨p1, hp1_⟩ : ∃ p, p = (pathP (pubsS seed 2) 0).length := ⟨_, rfl⟩
    rw [← hp1_] at HPL1 ⊢
    have HPN1 := hide hp1_
    clear ho1 hcl1 hp1 hpl1 hp1_ hq1
    dsimp only
    rename_i KK hK
    refine hK _ _ ?_
    clear hK KK
    refine wpList_plain rfl fun Kt hKt => ?_
    go_simp
    refine hKt _ _ ?_
    clear hKt Kt
    refine wpList_plain rfl fun Kt hKt => ?_
    go_simp
    refine hKt _ _ ?_
    clear hKt Kt
    refine wpList_plain rfl fun Kt hKt => ?_
    go_simp
    refine hKt _ _ ?_
    clear hKt Kt
    refine wpList_plain rfl fun Kt hKt => ?_
    go_simp
    refine hKt _ _ ?_
    clear hKt Kt
    refine wpList_plain rfl fun Kt hKt => ?_
    go_simp
    refine hKt _ _ ?_
    clear hKt Kt
    refine wpList_plain rfl fun Kt hKt => ?_
    go_simp
    refine hKt _ _ ?_
    clear hKt Kt
    generalize hX : W7.alloc _ = W8
    generalize hY : W8.alloc _ = W9
    have hb1 : Below W7.heap.size W7 W8 := hX ▸ (Below.refl _ _).alloc (Nat.le_refl _) _
    have hb2 : Below W8.heap.size W8 W9 := hY ▸ (Below.refl _ _).alloc (Nat.le_refl _) _
    have hz : W8.heap.size = W7.heap.size + 1 := by rw [← hX]; show (W7.heap.push _).size = _; rw [Array.size_push]
    have hv : VsAt W8 W7.heap.size 40 [.slice none 0 0, .int .i64 0, .int .i64 0] := boxedV W7 W8 _ _ (by rw [← hX]; rfl)
    have hu : VsAt W9 W8.heap.size 52 [.int .i64 0, .slice none 0 0, .slice none 0 0, .slice none 0 0] := boxedV W8 W9 _ _ (by rw [← hY]; rfl)
    rw [hz] at hu
    have HV_ := hide (hv.keep hb2); have HU_ := hide hu
    have HBB_ := hide (thenB hb1 hb2)
    obtain ⟨N_HX1, hN⟩ : ∃ N, N = W7.heap.size := ⟨_, rfl⟩
    obtain ⟨N_HS1, hM⟩ : ∃ N, N = W7.heap.size + 1 := ⟨_, rfl⟩
    rw [← hM] at HU_ ⊢
    rw [← hN] at HV_ ⊢
    have HNM_ : Hid (N_HX1 = W7.heap.size ∧ N_HS1 = W7.heap.size + 1) := ⟨hN, hM⟩
    clear hX hY hz hb1 hb2 hv hu hN hM
    refine wpList_vput rfl 40 (.tmp 11) (.tmp 54) rfl N_HX1 0 rfl [.slice A n c, .int .i64 2, .int .i64 1] rfl infoKey (keyL_one _ _ _ _ _) _ _ (unhide HV_) (by simp) ?_
    intro W10 HV3_ HG3_
    have hv3 := unhide HV3_
    rw [spliceV_all _ _ (by simp)] at hv3
    have hu3 := (unhide HU_).grown (unhide HG3_) (fun e => by injection e with e; have := unhide HNM_; omega)
    have hb3 : Below W7.heap.size W7 W10 := (unhide HBB_).grown (unhide HG3_) (unhide HBB_).size (fun i e => by injection e with e; have := unhide HNM_; omega)
    have HV4_ := hide hv3; have HU4_ := hide hu3; have HBB4_ := hide hb3
    clear hv3 hu3 hb3 HV3_ HG3_ HV_ HU_ HBB_
    try simp only [List.getElem_toArray, List.getElem_cons_zero, List.getElem_cons_succ, Act.put, List.setIfInBounds_toArray, List.set_cons_zero, List.set_cons_succ]
    refine wpList_vput rfl 52 (.tmp 12) (.tmp 55) rfl N_HS1 0 rfl [.int .i64 0, .slice A1_1 64 c1_1, .slice A2_1 64 c2_1, .slice A3_1 p1 c3_1] rfl infoSig (sigL_one _ _ _ _ _ _ _ _ _ _) _ _ (unhide HU4_) (by simp) ?_
    intro W11 HV5_ HG5_
    have hu5 := unhide HV5_
    rw [spliceV_all _ _ (by simp)] at hu5
    have HX1_ := hide ((unhide HV4_).grown (unhide HG5_) (fun e => by injection e with e; have := unhide HNM_; omega)); have HS1_ := hide hu5
    have hb : Below W7.heap.size W7 W11 := (unhide HBB4_).grown (unhide HG5_) (unhide HBB4_).size (fun i e => by injection e with e; have := unhide HNM_; omega)
    clear hu5 HV5_ HG5_ HV4_ HU4_ HBB4_ HNM_
    replace HT := hide ((unhide HT).keep hb)
    replace HA := hide ((unhide HA).keep hb)
    replace HMA := hide ((unhide HMA).keep hb)
    replace HMB := hide ((unhide HMB).keep hb)
    replace HK := hide ((unhide HK).keep hb)
    replace HD := hide ((unhide HD).keep hb)
    replace HO1 := hide ((unhide HO1).keep hb)
    replace HC1 := hide ((unhide HC1).keep hb)
    replace HP1 := hide ((unhide HP1).keep hb)
    replace HB := hide (thenB (unhide HB) hb)
    clear hb
    have HX1 := HX1_; have HS1 := HS1_
    clear HX1_ HS1_
    try simp only [List.getElem_toArray, List.getElem_cons_zero, List.getElem_cons_succ, Act.put, List.setIfInBounds_toArray, List.set_cons_zero, List.set_cons_succ]
    go_upto_region 8 with fail
    refine wp_region_lit ?_
    refine wpList_load_mid rfl 40 (.tmp 11) rfl N_HX1 0 rfl [.slice A n c, .int .i64 2, .int .i64 1] _ (unhide HX1).range Tryd.underlying40 rfl infoKey ?_
    try simp only [List.getElem_toArray, List.getElem_cons_zero, List.getElem_cons_succ, Act.put, List.setIfInBounds_toArray, List.set_cons_zero, List.set_cons_succ]
    go_wp2_with fail
    refine (Sign_ok W11 A n c seed (unhide HN).1 (unhide HN).2.1 (unhide HA) 2 1 (unhide HK1) (by decide) Ab nb cb mb (unhide HN).2.2.2.2.2.1 (unhide HN).2.2.2.2.2.2.1 (unhide HMB) (unhide HN).2.2.2.2.2.2.2 (by have := unhide H300; omega) (unhide HT)).mono ?_; rintro x W12 ⟨A1_2, c1_2, A2_2, c2_2, A3_2, c3_2, rfl, ho2, hcl2, hpl2, hp2, hq2, hb⟩
    replace HT := hide ((unhide HT).keep hb)
    replace HA := hide ((unhide HA).keep hb)
    replace HMA := hide ((unhide HMA).keep hb)
    replace HMB := hide ((unhide HMB).keep hb)
    replace HK := hide ((unhide HK).keep hb)
    replace HD := hide ((unhide HD).keep hb)
    replace HO1 := hide ((unhide HO1).keep hb)
    replace HC1 := hide ((unhide HC1).keep hb)
    replace HP1 := hide ((unhide HP1).keep hb)
    replace HX1 := hide ((unhide HX1).keep hb)
    replace HS1 := hide ((unhide HS1).keep hb)
    replace HB := hide (thenB (unhide HB) hb)
    clear hb
    rw [← unhide HTT] at ho2 hcl2
    have HO2 := hide ho2; have HC2 := hide hcl2; have HP2 := hide hp2
    have HPL2 : Hid ((pathP (pubsS seed 2) 1).length ≤ c3_2) := hpl2
    obtain ⟨p2, hp2_⟩ : ∃ p, p = (pathP (pubsS seed 2) 1).length := ⟨_, rfl⟩
    rw [← hp2_] at HPL2 ⊢
    have HPN2 := hide hp2_
    clear ho2 hcl2 hp2 hpl2 hp2_ hq2
    dsimp only
    rename_i KK hK
    refine hK _ _ ?_
    clear hK KK
    refine wpList_plain rfl fun Kt hKt => ?_
    go_simp
    refine hKt _ _ ?_
    clear hKt Kt
    refine wpList_plain rfl fun Kt hKt => ?_
    go_simp
    refine hKt _ _ ?_
    clear hKt Kt
    refine wpList_plain rfl fun Kt hKt => ?_
    go_simp
    refine hKt _ _ ?_
    clear hKt Kt
    refine wpList_plain rfl fun Kt hKt => ?_
    go_simp
    refine hKt _ _ ?_
    clear hKt Kt
    refine wpList_plain rfl fun Kt hKt => ?_
    go_simp
    refine hKt _ _ ?_
    clear hKt Kt
    refine wpList_plain rfl fun Kt hKt => ?_
    go_simp
    refine hKt _ _ ?_
    clear hKt Kt
    generalize hX : W12.alloc _ = W13
    generalize hY : W13.alloc _ = W14
    have hb1 : Below W12.heap.size W12 W13 := hX ▸ (Below.refl _ _).alloc (Nat.le_refl _) _
    have hb2 : Below W13.heap.size W13 W14 := hY ▸ (Below.refl _ _).alloc (Nat.le_refl _) _
    have hz : W13.heap.size = W12.heap.size + 1 := by rw [← hX]; show (W12.heap.push _).size = _; rw [Array.size_push]
    have hv : VsAt W13 W12.heap.size 40 [.slice none 0 0, .int .i64 0, .int .i64 0] := boxedV W12 W13 _ _ (by rw [← hX]; rfl)
    have hu : VsAt W14 W13.heap.size 52 [.int .i64 0, .slice none 0 0, .slice none 0 0, .slice none 0 0] := boxedV W13 W14 _ _ (by rw [← hY]; rfl)
    rw [hz] at hu
    have HV_ := hide (hv.keep hb2); have HU_ := hide hu
    have HBB_ := hide (thenB hb1 hb2)
    obtain ⟨N_HX2, hN⟩ : ∃ N, N = W12.heap.size := ⟨_, rfl⟩
    obtain ⟨N_HS2, hM⟩ : ∃ N, N = W12.heap.size + 1 := ⟨_, rfl⟩
    rw [← hM] at HU_ ⊢
    rw [← hN] at HV_ ⊢
    have HNM_ : Hid (N_HX2 = W12.heap.size ∧ N_HS2 = W12.heap.size + 1) := ⟨hN, hM⟩
    clear hX hY hz hb1 hb2 hv hu hN hM
    refine wpList_vput rfl 40 (.tmp 14) (.tmp 61) rfl N_HX2 0 rfl [.slice A n c, .int .i64 2, .int .i64 2] rfl infoKey (keyL_one _ _ _ _ _) _ _ (unhide HV_) (by simp) ?_
    intro W15 HV3_ HG3_
    have hv3 := unhide HV3_
    rw [spliceV_all _ _ (by simp)] at hv3
    have hu3 := (unhide HU_).grown (unhide HG3_) (fun e => by injection e with e; have := unhide HNM_; omega)
    have hb3 : Below W12.heap.size W12 W15 := (unhide HBB_).grown (unhide HG3_) (unhide HBB_).size (fun i e => by injection e with e; have := unhide HNM_; omega)
    have HV4_ := hide hv3; have HU4_ := hide hu3; have HBB4_ := hide hb3
    clear hv3 hu3 hb3 HV3_ HG3_ HV_ HU_ HBB_
    try simp only [List.getElem_toArray, List.getElem_cons_zero, List.getElem_cons_succ, Act.put, List.setIfInBounds_toArray, List.set_cons_zero, List.set_cons_succ]
    refine wpList_vput rfl 52 (.tmp 15) (.tmp 62) rfl N_HS2 0 rfl [.int .i64 1, .slice A1_2 64 c1_2, .slice A2_2 64 c2_2, .slice A3_2 p2 c3_2] rfl infoSig (sigL_one _ _ _ _ _ _ _ _ _ _) _ _ (unhide HU4_) (by simp) ?_
    intro W16 HV5_ HG5_
    have hu5 := unhide HV5_
    rw [spliceV_all _ _ (by simp)] at hu5
    have HX2_ := hide ((unhide HV4_).grown (unhide HG5_) (fun e => by injection e with e; have := unhide HNM_; omega)); have HS2_ := hide hu5
    have hb : Below W12.heap.size W12 W16 := (unhide HBB4_).grown (unhide HG5_) (unhide HBB4_).size (fun i e => by injection e with e; have := unhide HNM_; omega)
    clear hu5 HV5_ HG5_ HV4_ HU4_ HBB4_ HNM_
    replace HT := hide ((unhide HT).keep hb)
    replace HA := hide ((unhide HA).keep hb)
    replace HMA := hide ((unhide HMA).keep hb)
    replace HMB := hide ((unhide HMB).keep hb)
    replace HK := hide ((unhide HK).keep hb)
    replace HD := hide ((unhide HD).keep hb)
    replace HO1 := hide ((unhide HO1).keep hb)
    replace HC1 := hide ((unhide HC1).keep hb)
    replace HP1 := hide ((unhide HP1).keep hb)
    replace HX1 := hide ((unhide HX1).keep hb)
    replace HS1 := hide ((unhide HS1).keep hb)
    replace HO2 := hide ((unhide HO2).keep hb)
    replace HC2 := hide ((unhide HC2).keep hb)
    replace HP2 := hide ((unhide HP2).keep hb)
    replace HB := hide (thenB (unhide HB) hb)
    clear hb
    have HX2 := HX2_; have HS2 := HS2_
    clear HX2_ HS2_
    try simp only [List.getElem_toArray, List.getElem_cons_zero, List.getElem_cons_succ, Act.put, List.setIfInBounds_toArray, List.set_cons_zero, List.set_cons_succ]
    go_upto_region 9 with fail
    refine wp_region_lit ?_
    refine wpList_load_mid rfl 40 (.tmp 14) rfl N_HX2 0 rfl [.slice A n c, .int .i64 2, .int .i64 2] _ (unhide HX2).range Tryd.underlying40 rfl infoKey ?_
    try simp only [List.getElem_toArray, List.getElem_cons_zero, List.getElem_cons_succ, Act.put, List.setIfInBounds_toArray, List.set_cons_zero, List.set_cons_succ]
    go_wp2_with fail
    refine (Sign_no W16 A n c 2 (unhide HK2) Aa na ca (by have := unhide H300; omega)).mono ?_; rintro x W17 ⟨rfl, hb⟩
    replace HT := hide ((unhide HT).keep hb)
    replace HA := hide ((unhide HA).keep hb)
    replace HMA := hide ((unhide HMA).keep hb)
    replace HMB := hide ((unhide HMB).keep hb)
    replace HK := hide ((unhide HK).keep hb)
    replace HD := hide ((unhide HD).keep hb)
    replace HO1 := hide ((unhide HO1).keep hb)
    replace HC1 := hide ((unhide HC1).keep hb)
    replace HP1 := hide ((unhide HP1).keep hb)
    replace HX1 := hide ((unhide HX1).keep hb)
    replace HS1 := hide ((unhide HS1).keep hb)
    replace HO2 := hide ((unhide HO2).keep hb)
    replace HC2 := hide ((unhide HC2).keep hb)
    replace HP2 := hide ((unhide HP2).keep hb)
    replace HX2 := hide ((unhide HX2).keep hb)
    replace HS2 := hide ((unhide HS2).keep hb)
    replace HB := hide (thenB (unhide HB) hb)
    clear hb
    dsimp only
    rename_i KK hK
    refine hK _ _ ?_
    clear hK KK
    refine wpList_plain rfl fun Kt hKt => ?_
    go_simp
    refine hKt _ _ ?_
    clear hKt Kt
    refine wpList_plain rfl fun Kt hKt => ?_
    go_simp
    refine hKt _ _ ?_
    clear hKt Kt
    refine wpList_plain rfl fun Kt hKt => ?_
    go_simp
    refine hKt _ _ ?_
    clear hKt Kt
    refine wpList_plain rfl fun Kt hKt => ?_
    go_simp
    refine hKt _ _ ?_
    clear hKt Kt
    refine wpList_plain rfl fun Kt hKt => ?_
    go_simp
    refine hKt _ _ ?_
    clear hKt Kt
    refine wpList_plain rfl fun Kt hKt => ?_
    go_simp
    refine hKt _ _ ?_
    clear hKt Kt
    generalize hX : W17.alloc _ = W18
    generalize hY : W18.alloc _ = W19
    have hb1 : Below W17.heap.size W17 W18 := hX ▸ (Below.refl _ _).alloc (Nat.le_refl _) _
    have hb2 : Below W18.heap.size W18 W19 := hY ▸ (Below.refl _ _).alloc (Nat.le_refl _) _
    have hz : W18.heap.size = W17.heap.size + 1 := by rw [← hX]; show (W17.heap.push _).size = _; rw [Array.size_push]
    have hv : VsAt W18 W17.heap.size 40 [.slice none 0 0, .int .i64 0, .int .i64 0] := boxedV W17 W18 _ _ (by rw [← hX]; rfl)
    have hu : VsAt W19 W18.heap.size 52 [.int .i64 0, .slice none 0 0, .slice none 0 0, .slice none 0 0] := boxedV W18 W19 _ _ (by rw [← hY]; rfl)
    rw [hz] at hu
    have HV_ := hide (hv.keep hb2); have HU_ := hide hu
    have HBB_ := hide (thenB hb1 hb2)
    obtain ⟨N_HX3, hN⟩ : ∃ N, N = W17.heap.size := ⟨_, rfl⟩
    obtain ⟨N_HS3, hM⟩ : ∃ N, N = W17.heap.size + 1 := ⟨_, rfl⟩
    rw [← hM] at HU_ ⊢
    rw [← hN] at HV_ ⊢
    have HNM_ : Hid (N_HX3 = W17.heap.size ∧ N_HS3 = W17.heap.size + 1) := ⟨hN, hM⟩
    clear hX hY hz hb1 hb2 hv hu hN hM
    refine wpList_vput rfl 40 (.tmp 17) (.tmp 68) rfl N_HX3 0 rfl [.slice none 0 0, .int .i64 0, .int .i64 0] rfl infoKey (keyL_one _ _ _ _ _) _ _ (unhide HV_) (by simp) ?_
    intro W20 HV3_ HG3_
    have hv3 := unhide HV3_
    rw [spliceV_all _ _ (by simp)] at hv3
    have hu3 := (unhide HU_).grown (unhide HG3_) (fun e => by injection e with e; have := unhide HNM_; omega)
    have hb3 : Below W17.heap.size W17 W20 := (unhide HBB_).grown (unhide HG3_) (unhide HBB_).size (fun i e => by injection e with e; have := unhide HNM_; omega)
    have HV4_ := hide hv3; have HU4_ := hide hu3; have HBB4_ := hide hb3
    clear hv3 hu3 hb3 HV3_ HG3_ HV_ HU_ HBB_
    try simp only [List.getElem_toArray, List.getElem_cons_zero, List.getElem_cons_succ, Act.put, List.setIfInBounds_toArray, List.set_cons_zero, List.set_cons_succ]
    refine wpList_vput rfl 52 (.tmp 18) (.tmp 69) rfl N_HS3 0 rfl [.int .i64 0, .slice none 0 0, .slice none 0 0, .slice none 0 0] rfl infoSig (sigL_one _ _ _ _ _ _ _ _ _ _) _ _ (unhide HU4_) (by simp) ?_
    intro W21 HV5_ HG5_
    have hu5 := unhide HV5_
    rw [spliceV_all _ _ (by simp)] at hu5
    have HX3_ := hide ((unhide HV4_).grown (unhide HG5_) (fun e => by injection e with e; have := unhide HNM_; omega)); have HS3_ := hide hu5
    have hb : Below W17.heap.size W17 W21 := (unhide HBB4_).grown (unhide HG5_) (unhide HBB4_).size (fun i e => by injection e with e; have := unhide HNM_; omega)
    clear hu5 HV5_ HG5_ HV4_ HU4_ HBB4_ HNM_
    replace HT := hide ((unhide HT).keep hb)
    replace HA := hide ((unhide HA).keep hb)
    replace HMA := hide ((unhide HMA).keep hb)
    replace HMB := hide ((unhide HMB).keep hb)
    replace HK := hide ((unhide HK).keep hb)
    replace HD := hide ((unhide HD).keep hb)
    replace HO1 := hide ((unhide HO1).keep hb)
    replace HC1 := hide ((unhide HC1).keep hb)
    replace HP1 := hide ((unhide HP1).keep hb)
    replace HX1 := hide ((unhide HX1).keep hb)
    replace HS1 := hide ((unhide HS1).keep hb)
    replace HO2 := hide ((unhide HO2).keep hb)
    replace HC2 := hide ((unhide HC2).keep hb)
    replace HP2 := hide ((unhide HP2).keep hb)
    replace HX2 := hide ((unhide HX2).keep hb)
    replace HS2 := hide ((unhide HS2).keep hb)
    replace HB := hide (thenB (unhide HB) hb)
    clear hb
    have HX3 := HX3_; have HS3 := HS3_
    clear HX3_ HS3_
    try simp only [List.getElem_toArray, List.getElem_cons_zero, List.getElem_cons_succ, Act.put, List.setIfInBounds_toArray, List.set_cons_zero, List.set_cons_succ]
    have d1 : W21.cell? ⟨N_HS1, 0, none⟩ = some (.int .i64 0) := (unhide HS1).cell rfl
    have d2 : W21.cell? ⟨N_HS2, 0, none⟩ = some (.int .i64 1) := (unhide HS2).cell rfl
    go_upto_region 10 with fail
    refine wp_region_lit ?_
    refine wpList_wanted (by kernel_rfl) fun Kt hKt => ?_
    go_simp
    refine hKt _ _ ?_
    clear hKt Kt
    refine wpList_wanted (by kernel_rfl) fun Kt hKt => ?_
    go_simp
    refine hKt _ _ ?_
    clear hKt Kt
    refine wpList_wanted (by kernel_rfl) fun Kt hKt => ?_
    go_simp
    refine hKt _ _ ?_
    clear hKt Kt
    refine wpList_wanted (by kernel_rfl) fun Kt hKt => ?_
    go_simp
    refine hKt _ _ ?_
    clear hKt Kt
    refine wpList_wanted (by kernel_rfl) fun Kt hKt => ?_
    go_simp
    refine hKt _ _ ?_
    clear hKt Kt
    refine wpList_wanted (by kernel_rfl) fun Kt hKt => ?_
    go_simp
    refine hKt _ _ ?_
    clear hKt Kt
    refine wpList_wanted (by kernel_rfl) fun Kt hKt => ?_
    go_simp
    refine hKt _ _ ?_
    clear hKt Kt
    refine wpList_wanted (by kernel_rfl) fun Kt hKt => ?_
    go_simp
    refine hKt _ _ ?_
    clear hKt Kt
    refine wpList_wanted (by kernel_rfl) fun Kt hKt => ?_
    go_simp
    refine hKt _ _ ?_
    clear hKt Kt
    refine wpList_wanted (by kernel_rfl) fun Kt hKt => ?_
    go_simp
    refine hKt _ _ ?_
    clear hKt Kt
    refine wpList_wanted (by kernel_rfl) fun Kt hKt => ?_
    go_simp
    refine hKt _ _ ?_
    clear hKt Kt
    refine wpList_wanted (by kernel_rfl) fun Kt hKt => ?_
    go_simp
    refine hKt _ _ ?_
    clear hKt Kt
    refine wpList_wanted (by kernel_rfl) fun Kt hKt => ?_
    go_simp
    refine hKt _ _ ?_
    clear hKt Kt
    refine wpList_wanted (by kernel_rfl) fun Kt hKt => ?_
    go_simp
    refine hKt _ _ ?_
    clear hKt Kt
    refine wpList_wanted (by kernel_rfl) fun Kt hKt => ?_
    go_simp
    refine hKt _ _ ?_
    clear hKt Kt
    refine wpList_wanted (by kernel_rfl) fun Kt hKt => ?_
    go_simp
    refine hKt _ _ ?_
    clear hKt Kt
    refine wpList_wanted (by kernel_rfl) fun Kt hKt => ?_
    go_simp
    refine hKt _ _ ?_
    clear hKt Kt
    refine wpList_wanted (by kernel_rfl) fun Kt hKt => ?_
    go_simp
    refine hKt _ _ ?_
    clear hKt Kt
    refine wpList_wanted (by kernel_rfl) fun Kt hKt => ?_
    go_simp
    refine hKt _ _ ?_
    clear hKt Kt
    refine wpList_wanted (by kernel_rfl) fun Kt hKt => ?_
    go_simp
    refine hKt _ _ ?_
    clear hKt Kt
    refine wpList_wanted (by kernel_rfl) fun Kt hKt => ?_
    go_simp
    refine hKt _ _ ?_
    clear hKt Kt
    refine wpList_wanted (by kernel_rfl) fun Kt hKt => ?_
    go_simp
    refine hKt _ _ ?_
    clear hKt Kt
    refine wpList_wanted (by kernel_rfl) fun Kt hKt => ?_
    go_simp
    refine hKt _ _ ?_
    clear hKt Kt
    refine wpList_wanted (by kernel_rfl) fun Kt hKt => ?_
    go_simp
    refine hKt _ _ ?_
    clear hKt Kt
    refine wpList_wanted (by kernel_rfl) fun Kt hKt => ?_
    go_simp
    refine hKt _ _ ?_
    clear hKt Kt
    refine wpList_gload (by kernel_rfl) 24 (.tmp 9) rfl N_HD rfl _ Tryd.underlying24 rfl 32 info32 _ T (unhide HD) (unhide HGT).len ?_
    rw [show dv T = .agg ct by rw [unhide HCT]]
    try simp only [List.getElem_toArray, List.getElem_cons_zero, List.getElem_cons_succ, Act.put, List.setIfInBounds_toArray, List.set_cons_zero, List.set_cons_succ]
    refine wpList_wanted (by kernel_rfl) fun Kt hKt => ?_
    go_simp
    refine hKt _ _ ?_
    clear hKt Kt
    refine wpList_vgload (by kernel_rfl) 52 (.tmp 12) rfl N_HS1 rfl _ Tryd.underlying52 rfl _ [.int .i64 0, .slice A1_1 64 c1_1, .slice A2_1 64 c2_1, .slice A3_1 p1 c3_1] infoSig (unhide HS1) ?_
    try simp only [List.getElem_toArray, List.getElem_cons_zero, List.getElem_cons_succ, Act.put, List.setIfInBounds_toArray, List.set_cons_zero, List.set_cons_succ]
    have hve := Verify_any W21 T (unhide HGT) 2 0 (by decide) (by decide) (by decide) Aa na ca ma (unhide HN).2.2.1 (unhide HN).2.2.2.1 (unhide HMA) (unhide HN).2.2.2.2.1 (by have := unhide H300; omega) A1_1 c1_1 _ (unhide HO1) A2_1 c2_1 _ (unhide HC1) A3_1 p1 c3_1 _ (unhide HPN1) (unhide HPL1) (unhide HP1) (unhide HT)
    rw [unhide HTT, verS_own seed 2 0 ma (by decide), ← unhide HTT, show dv T = .agg ct by rw [unhide HCT]] at hve
    refine wpList_wanted (by kernel_rfl) fun Kt hKt => ?_
    go_simp
    refine hve.mono ?_; rintro x W22 ⟨rfl, hb⟩
    clear hve
    replace HT := hide ((unhide HT).keep hb)
    replace HA := hide ((unhide HA).keep hb)
    replace HMA := hide ((unhide HMA).keep hb)
    replace HMB := hide ((unhide HMB).keep hb)
    replace HK := hide ((unhide HK).keep hb)
    replace HD := hide ((unhide HD).keep hb)
    replace HO1 := hide ((unhide HO1).keep hb)
    replace HC1 := hide ((unhide HC1).keep hb)
    replace HP1 := hide ((unhide HP1).keep hb)
    replace HX1 := hide ((unhide HX1).keep hb)
    replace HS1 := hide ((unhide HS1).keep hb)
    replace HO2 := hide ((unhide HO2).keep hb)
    replace HC2 := hide ((unhide HC2).keep hb)
    replace HP2 := hide ((unhide HP2).keep hb)
    replace HX2 := hide ((unhide HX2).keep hb)
    replace HS2 := hide ((unhide HS2).keep hb)
    replace HX3 := hide ((unhide HX3).keep hb)
    replace HS3 := hide ((unhide HS3).keep hb)
    replace HB := hide (thenB (unhide HB) hb)
    clear hb
    dsimp only
    refine hKt _ _ ?_
    clear hKt Kt
    refine wpList_wanted (by kernel_rfl) fun Kt hKt => ?_
    go_simp
    refine hKt _ _ ?_
    clear hKt Kt
    refine wpList_wanted (by kernel_rfl) fun Kt hKt => ?_
    go_simp
    refine hKt _ _ ?_
    clear hKt Kt
    refine wpList_gload (by kernel_rfl) 24 (.tmp 9) rfl N_HD rfl _ Tryd.underlying24 rfl 32 info32 _ T (unhide HD) (unhide HGT).len ?_
    rw [show dv T = .agg ct by rw [unhide HCT]]
    try simp only [List.getElem_toArray, List.getElem_cons_zero, List.getElem_cons_succ, Act.put, List.setIfInBounds_toArray, List.set_cons_zero, List.set_cons_succ]
    refine wpList_wanted (by kernel_rfl) fun Kt hKt => ?_
    go_simp
    refine hKt _ _ ?_
    clear hKt Kt
    refine wpList_vgload (by kernel_rfl) 52 (.tmp 15) rfl N_HS2 rfl _ Tryd.underlying52 rfl _ [.int .i64 1, .slice A1_2 64 c1_2, .slice A2_2 64 c2_2, .slice A3_2 p2 c3_2] infoSig (unhide HS2) ?_
    try simp only [List.getElem_toArray, List.getElem_cons_zero, List.getElem_cons_succ, Act.put, List.setIfInBounds_toArray, List.set_cons_zero, List.set_cons_succ]
    have hve := Verify_any W22 T (unhide HGT) 2 1 (by decide) (by decide) (by decide) Ab nb cb mb (unhide HN).2.2.2.2.2.1 (unhide HN).2.2.2.2.2.2.1 (unhide HMB) (unhide HN).2.2.2.2.2.2.2 (by have := unhide H300; omega) A1_2 c1_2 _ (unhide HO2) A2_2 c2_2 _ (unhide HC2) A3_2 p2 c3_2 _ (unhide HPN2) (unhide HPL2) (unhide HP2) (unhide HT)
    rw [unhide HTT, verS_own seed 2 1 mb (by decide), ← unhide HTT, show dv T = .agg ct by rw [unhide HCT]] at hve
    refine wpList_wanted (by kernel_rfl) fun Kt hKt => ?_
    go_simp
    refine hve.mono ?_; rintro x W23 ⟨rfl, hb⟩
    clear hve
    replace HT := hide ((unhide HT).keep hb)
    replace HA := hide ((unhide HA).keep hb)
    replace HMA := hide ((unhide HMA).keep hb)
    replace HMB := hide ((unhide HMB).keep hb)
    replace HK := hide ((unhide HK).keep hb)
    replace HD := hide ((unhide HD).keep hb)
    replace HO1 := hide ((unhide HO1).keep hb)
    replace HC1 := hide ((unhide HC1).keep hb)
    replace HP1 := hide ((unhide HP1).keep hb)
    replace HX1 := hide ((unhide HX1).keep hb)
    replace HS1 := hide ((unhide HS1).keep hb)
    replace HO2 := hide ((unhide HO2).keep hb)
    replace HC2 := hide ((unhide HC2).keep hb)
    replace HP2 := hide ((unhide HP2).keep hb)
    replace HX2 := hide ((unhide HX2).keep hb)
    replace HS2 := hide ((unhide HS2).keep hb)
    replace HX3 := hide ((unhide HX3).keep hb)
    replace HS3 := hide ((unhide HS3).keep hb)
    replace HB := hide (thenB (unhide HB) hb)
    clear hb
    dsimp only
    refine hKt _ _ ?_
    clear hKt Kt
    go_wp2_with fail
    go_ret
    exact ⟨rfl, unhide HB⟩
end Go.Proofs.YtninjgplgoimeaaDoor
