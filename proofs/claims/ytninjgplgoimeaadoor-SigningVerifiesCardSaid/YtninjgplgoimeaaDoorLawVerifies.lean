/- The law SigningVerifies: every signature verifies under the public key, which does not change. -/
import Derived.Test.YtninjgplgoimeaaDoorSigSane
import Derived.Test.YtninjgplgoimeaaDoorClose
namespace Go.Proofs.YtninjgplgoimeaaDoor
set_option linter.unusedSimpArgs false
set_option linter.unusedVariables false
open Go.RowKit Go.LawClose

theorem verS_own (seed : List Int) (n i : Nat) (msg : List Int) (hi : i < n) : verS (treeP (pubsS seed n)) n i (bitsS (treeP (pubsS seed n)) i msg) (openedS seed i (bitsS (treeP (pubsS seed n)) i msg) 64) (closedS seed i (bitsS (treeP (pubsS seed n)) i msg) 64) (pathP (pubsS seed n) i) = true := ver_own seed n i _ hi
/-- a load of values under a guard -/
theorem wpList_vgload {P : Program} {ops : Array Oper} {rest : List Oper} {o : Oper} {a : Act} {w : World} {Q : Exit → Act → World → Prop} (hw : Region.wanted o (yielded ops a.tmps) = true) (ty : TypeId) (x : Operand) (ho : o.op = .load ty x)
    (N : Nat) (hx : a.eval x = .pointer (some ⟨N, 0, none⟩)) (d : TypeDesc) (hu : P.underlying ty = some d) (hd : d.isRow = true) (T : TypeId) (cs : List Value) (hi : (P.info? ty).map (·.size) = some cs.length) (h0 : VsAt w N T cs)
    (h : wpList P ops Q rest (a.put o.dst (.agg cs.toArray)) w) : wpList P ops Q (o :: rest) a w :=
  wpList_wanted hw fun _ hK => wp_load_mid ty x ho N 0 hx cs d h0.range hu hd hi (hK _ _ h)
theorem Sign_none (w : World) (A : Option Addr) (n c : Nat) (many used : Int) (hk : keyOk n many used = false) (v : Value) :
    Calls Tryd.prog 37 #[.agg #[.slice A n c, .int .i64 many, .int .i64 used], v] w fun x w' => x = .returned (.tuple #[.agg #[.slice none 0 0, .int .i64 0, .int .i64 0], .agg #[.int .i64 0, .slice none 0 0, .slice none 0 0, .slice none 0 0], .int .i64 40]) ∧ Below w.heap.size w w' :=
  Sign_bad w A n c many used hk v
theorem Public_none (w : World) (A : Option Addr) (n c : Nat) (many used : Int) (hk : keyOk n many used = false) :
    Calls Tryd.prog 35 #[.agg #[.slice A n c, .int .i64 many, .int .i64 used]] w fun x w' => x = .returned (.tuple #[dv zeros, .int .i64 40]) ∧ Below w.heap.size w w' := Public_bad w A n c many used hk
theorem Public_some (w : World) (A : Option Addr) (n c : Nat) (seed : List Int) (hn : n = seed.length) (hc : n ≤ c) (hA : Bt w A seed) (many : Nat) (u : Int) (hk : keyOk n (many : Int) u = true) (T : List Int) (hT : T = treeP (pubsS seed many)) (hTb : DTab w) :
    Calls Tryd.prog 35 #[.agg #[.slice A n c, .int .i64 (many : Int), .int .i64 u]] w fun x w' => x = .returned (.tuple #[dv T, .int .i64 0]) ∧ Below w.heap.size w w' := by
  subst hT
  exact Public_ok w A n c seed hn hc hA many u hk hTb
/-- a signature is returned, its parts under names of their own -/
theorem Sign_some (w : World) (A : Option Addr) (n c : Nat) (seed : List Int) (hn : n = seed.length) (hc : n ≤ c) (hA : Bt w A seed) (many used u1 : Nat) (hu1 : u1 = used + 1) (hk : keyOk n (many : Int) (used : Int) = true) (hu : used < many)
    (Am : Option Addr) (nm cm : Nat) (msg : List Int) (hnm : nm = msg.length) (hcm : nm ≤ cm) (hAm : Bt w Am msg) (hAm0 : Am = none → cm = 0) (h65 : nm ≤ 65536) (T : List Int) (hT : T = treeP (pubsS seed many)) (bs : List Bool) (hbs : bs = bitsS T used msg) (p : Nat) (hp : p = (pathP (pubsS seed many) used).length) (hTb : DTab w) :
    Calls Tryd.prog 37 #[.agg #[.slice A n c, .int .i64 (many : Int), .int .i64 (used : Int)], .slice Am nm cm] w fun x w' => ∃ A1 c1 A2 c2 A3 c3, x = .returned (.tuple #[.agg #[.slice A n c, .int .i64 (many : Int), .int .i64 (u1 : Int)], .agg #[.int .i64 (used : Int), .slice A1 64 c1, .slice A2 64 c2, .slice A3 p c3], .int .i64 0]) ∧
      Sg64 w' A1 c1 (openedS seed used bs 64) ∧ Sg64 w' A2 c2 (closedS seed used bs 64) ∧ p ≤ c3 ∧ Ds w' A3 (pathP (pubsS seed many) used) ∧ (A3 = none → c3 = 0) ∧ Below w.heap.size w w' := by
  subst hu1 hT hbs hp
  exact Sign_ok w A n c seed hn hc hA many used hk hu Am nm cm msg hnm hcm hAm hAm0 h65 hTb
theorem key_nat (n : Nat) (m u : Int) (h : keyOk n m u = true) (h2 : m ≤ 2) : ∃ M U : Nat, m = (M : Int) ∧ u = (U : Int) ∧ 1 ≤ n ∧ n ≤ 64 ∧ 1 ≤ M ∧ M ≤ 2 ∧ U ≤ M := by
  unfold keyOk at h
  rw [decide_eq_true_eq] at h
  exact ⟨m.toNat, u.toNat, by omega, by omega, by omega, by omega, by omega, by omega, by omega⟩

set_option maxRecDepth 100000 in
set_option maxHeartbeats 8000000 in
theorem verifies_any (A : Option Addr) (c : Nat) (seed : List Int) (m u : Int) (Aa : Option Addr) (ca : Nat) (ma : List Int) (w : World) (hA : Bt w A seed) (hc : seed.length ≤ c) (hAa : Bt w Aa ma) (hca : ma.length ≤ ca) (hna : Aa = none → ca = 0) (hm : -9223372036854775808 ≤ m ∧ m ≤ 9223372036854775807) (hu : -9223372036854775808 ≤ u ∧ u ≤ 9223372036854775807) (hT : DTab w) :
    Calls Tryd.prog 8 #[keyV A seed.length c m u, .slice Aa ma.length ca] w (LawOk w) := by
  obtain ⟨n, hn⟩ : ∃ n, n = seed.length := ⟨_, rfl⟩
  obtain ⟨na, hla⟩ : ∃ n, n = ma.length := ⟨_, rfl⟩
  rw [← hn] at hc ⊢
  rw [← hla] at hca ⊢
  have HB : Hid (Below w.heap.size w w) := Below.refl _ _
  have HT := hide hT; have HA := hide hA; have HMA := hide hAa
  have HN : Hid (n = seed.length ∧ n ≤ c) := ⟨hn, hc⟩
  have HNA : Hid (na = ma.length ∧ na ≤ ca ∧ (Aa = none → ca = 0)) := ⟨hla, hca, hna⟩
  unfold keyV
  clear hT hA hAa hn hc hla hca hna hm hu
  go_enter Tryd.func8, Tryd.ntmps8
  go_wp2_with fail
  generalize hX : w.alloc _ = W1
  have hb : Below w.heap.size w W1 := hX ▸ (Below.refl _ _).alloc (Nat.le_refl _) _
  have hv : VsAt W1 w.heap.size 40 [.slice A n c, .int .i64 m, .int .i64 u] := boxedV w W1 _ _ (by rw [← hX]; rfl)
  obtain ⟨N_HK, hN⟩ : ∃ N, N = w.heap.size := ⟨_, rfl⟩
  have hz : W1.heap.size = w.heap.size + 1 := by rw [← hX]; show (w.heap.push _).size = _; rw [Array.size_push]
  rw [← hN] at hv ⊢
  rw [← hN] at hz
  have HK_ := hide hv
  have hzz := hz
  clear hX hN hv
  replace HT := hide ((unhide HT).keep hb)
  replace HA := hide ((unhide HA).keep hb)
  replace HMA := hide ((unhide HMA).keep hb)
  replace HB := hide (thenB (unhide HB) hb)
  clear hb
  have HK := HK_
  clear HK_
  clear hz hzz
  refine (sane4_any W1 (unhide HT)).mono ?_; rintro x W2 ⟨rfl, hb⟩
  replace HT := hide ((unhide HT).keep hb)
  replace HA := hide ((unhide HA).keep hb)
  replace HMA := hide ((unhide HMA).keep hb)
  replace HK := hide ((unhide HK).keep hb)
  replace HB := hide (thenB (unhide HB) hb)
  clear hb
  go_upto_region 3 with fail
  refine wp_region_lit ?_
  refine wpList_load_mid rfl 40 (.tmp 2) rfl N_HK 0 rfl [.slice A n c, .int .i64 m, .int .i64 u] _ (unhide HK).range Tryd.underlying40 rfl infoKey ?_
  try simp only [List.getElem_toArray, List.getElem_cons_zero, List.getElem_cons_succ, Act.put, List.setIfInBounds_toArray, List.set_cons_zero, List.set_cons_succ]
  go_wp2_with fail
  refine (few4_any W2 A n c m u Aa na ca).mono ?_; rintro x W3 ⟨rfl, hb⟩
  replace HT := hide ((unhide HT).keep hb)
  replace HA := hide ((unhide HA).keep hb)
  replace HMA := hide ((unhide HMA).keep hb)
  replace HK := hide ((unhide HK).keep hb)
  replace HB := hide (thenB (unhide HB) hb)
  clear hb
  by_cases hf : fewS n m na = true
  case neg =>
    rw [show fewS n m na = false by simpa using hf]
    clear hf
    go_wp2_with fail
    go_ret
    exact ⟨rfl, unhide HB⟩
  rw [hf]
  unfold fewS at hf
  rw [decide_eq_true_eq] at hf
  by_cases hk : keyOk n m u = true
  case neg =>
    have hk' : keyOk n m u = false := by simpa using hk
    have HKF := hide hk'
    obtain ⟨Z0, hZ0⟩ : ∃ t, t = zeros := ⟨_, rfl⟩
    obtain ⟨cz, hcz⟩ : ∃ cs, cs = (Z0.map (Value.int .u8)).toArray := ⟨_, rfl⟩
    have hsz : cz.size = 32 := by rw [hcz, hZ0]; rfl
    have HZ0 := hide hZ0; have HCZ := hide hcz; have HGZ := hide (show Dg Z0 from hZ0 ▸ dg_zeros)
    clear hk hk' hf hZ0 hcz
    go_upto_region 5 with fail
    refine wp_region_lit ?_
    refine wpList_load_mid rfl 40 (.tmp 2) rfl N_HK 0 rfl [.slice A n c, .int .i64 m, .int .i64 u] _ (unhide HK).range Tryd.underlying40 rfl infoKey ?_
    try simp only [List.getElem_toArray, List.getElem_cons_zero, List.getElem_cons_succ, Act.put, List.setIfInBounds_toArray, List.set_cons_zero, List.set_cons_succ]
    go_wp2_with fail
    have hpu := (by have h := Public_none W3 A n c m u (unhide HKF); rw [← unhide HZ0] at h; exact h : Calls Tryd.prog 35 #[.agg #[.slice A n c, .int .i64 m, .int .i64 u]] W3 fun x w' => x = .returned (.tuple #[dv Z0, .int .i64 40]) ∧ Below (W3).heap.size W3 w')
    rw [show dv Z0 = .agg cz by rw [unhide HCZ]] at hpu
    refine hpu.mono ?_; rintro x W4 ⟨rfl, hb⟩
    clear hpu
    replace HT := hide ((unhide HT).keep hb)
    replace HA := hide ((unhide HA).keep hb)
    replace HMA := hide ((unhide HMA).keep hb)
    replace HK := hide ((unhide HK).keep hb)
    replace HB := hide (thenB (unhide HB) hb)
    clear hb
    dsimp only
    rename_i KK hK
    refine hK _ _ ?_
    clear hK KK
    refine wpList_plain rfl fun Kt hKt => ?_
    go_simp
    refine hKt _ _ ?_
    clear hKt Kt
    refine wpList_plain rfl fun Kt hKt => ?_
    go_simp
    refine hKt _ _ ?_
    clear hKt Kt
    refine wpList_plain rfl fun Kt hKt => ?_
    go_simp
    refine hKt _ _ ?_
    clear hKt Kt
    refine wpList_plain rfl fun Kt hKt => ?_
    go_simp
    refine hKt _ _ ?_
    clear hKt Kt
    generalize hX : W4.alloc _ = W5
    have hb : Below W4.heap.size W4 W5 := hX ▸ (Below.refl _ _).alloc (Nat.le_refl _) _
    have HZ_ := hide (newBy W4 W5 (by rw [← hX]; rfl))
    have HBB_ := hide hb
    clear hX hb
    refine wpList_bstore rfl 24 (.tmp 5) (.tmp 21) rfl W4.heap.size rfl Z0 (show Value.agg cz = _ by rw [unhide HCZ]) 32 info32 (unhide HGZ).len _ zeros (unhide HZ_) rfl ?_
    intro W6 HV_ HG_
    have hv := unhide HV_
    have hb : Below W4.heap.size W4 W6 := (unhide HBB_).grown (unhide HG_) (unhide HBB_).size (fun i e => by injection e with e; omega)
    obtain ⟨N_HD, hN⟩ : ∃ N, N = W4.heap.size := ⟨_, rfl⟩
    rw [← hN] at hv ⊢
    have HD_ := hide hv
    clear hN hv HV_ HG_ HZ_ HBB_
    replace HT := hide ((unhide HT).keep hb)
    replace HA := hide ((unhide HA).keep hb)
    replace HMA := hide ((unhide HMA).keep hb)
    replace HK := hide ((unhide HK).keep hb)
    replace HB := hide (thenB (unhide HB) hb)
    clear hb
    have HD := HD_
    clear HD_
    try simp only [List.getElem_toArray, List.getElem_cons_zero, List.getElem_cons_succ, Act.put, List.setIfInBounds_toArray, List.set_cons_zero, List.set_cons_succ]
    go_upto_region 6 with fail
    refine wp_region_lit ?_
    refine wpList_load_mid rfl 40 (.tmp 2) rfl N_HK 0 rfl [.slice A n c, .int .i64 m, .int .i64 u] _ (unhide HK).range Tryd.underlying40 rfl infoKey ?_
    try simp only [List.getElem_toArray, List.getElem_cons_zero, List.getElem_cons_succ, Act.put, List.setIfInBounds_toArray, List.set_cons_zero, List.set_cons_succ]
    go_wp2_with fail
    refine (Sign_none W6 A n c m u (unhide HKF) _).mono ?_; rintro x W7 ⟨rfl, hb⟩
    replace HT := hide ((unhide HT).keep hb)
    replace HA := hide ((unhide HA).keep hb)
    replace HMA := hide ((unhide HMA).keep hb)
    replace HK := hide ((unhide HK).keep hb)
    replace HD := hide ((unhide HD).keep hb)
    replace HB := hide (thenB (unhide HB) hb)
    clear hb
    dsimp only
    rename_i KK hK
    refine hK _ _ ?_
    clear hK KK
    refine wpList_plain rfl fun Kt hKt => ?_
    go_simp
    refine hKt _ _ ?_
    clear hKt Kt
    refine wpList_plain rfl fun Kt hKt => ?_
    go_simp
    refine hKt _ _ ?_
    clear hKt Kt
    refine wpList_plain rfl fun Kt hKt => ?_
    go_simp
    refine hKt _ _ ?_
    clear hKt Kt
    refine wpList_plain rfl fun Kt hKt => ?_
    go_simp
    refine hKt _ _ ?_
    clear hKt Kt
    refine wpList_plain rfl fun Kt hKt => ?_
    go_simp
    refine hKt _ _ ?_
    clear hKt Kt
    refine wpList_plain rfl fun Kt hKt => ?_
    go_simp
    refine hKt _ _ ?_
    clear hKt Kt
    generalize hX : W7.alloc _ = W8
    generalize hY : W8.alloc _ = W9
    have hb1 : Below W7.heap.size W7 W8 := hX ▸ (Below.refl _ _).alloc (Nat.le_refl _) _
    have hb2 : Below W8.heap.size W8 W9 := hY ▸ (Below.refl _ _).alloc (Nat.le_refl _) _
    have hz : W8.heap.size = W7.heap.size + 1 := by rw [← hX]; show (W7.heap.push _).size = _; rw [Array.size_push]
    have hv : VsAt W8 W7.heap.size 40 [.slice none 0 0, .int .i64 0, .int .i64 0] := boxedV W7 W8 _ _ (by rw [← hX]; rfl)
    have hu : VsAt W9 W8.heap.size 52 [.int .i64 0, .slice none 0 0, .slice none 0 0, .slice none 0 0] := boxedV W8 W9 _ _ (by rw [← hY]; rfl)
    rw [hz] at hu
    have HV_ := hide (hv.keep hb2); have HU_ := hide hu
    have HBB_ := hide (thenB hb1 hb2)
    obtain ⟨N_HX, hN⟩ : ∃ N, N = W7.heap.size := ⟨_, rfl⟩
    obtain ⟨N_HS, hM⟩ : ∃ N, N = W7.heap.size + 1 := ⟨_, rfl⟩
    rw [← hM] at HU_ ⊢
    rw [← hN] at HV_ ⊢
    have HNM_ : Hid (N_HX = W7.heap.size ∧ N_HS = W7.heap.size + 1) := ⟨hN, hM⟩
    clear hX hY hz hb1 hb2 hv hu hN hM
    refine wpList_vput rfl 40 (.tmp 7) (.tmp 27) rfl N_HX 0 rfl [.slice none 0 0, .int .i64 0, .int .i64 0] rfl infoKey (keyL_one _ _ _ _ _) _ _ (unhide HV_) (by simp) ?_
    intro W10 HV3_ HG3_
    have hv3 := unhide HV3_
    rw [spliceV_all _ _ (by simp)] at hv3
    have hu3 := (unhide HU_).grown (unhide HG3_) (fun e => by injection e with e; have := unhide HNM_; omega)
    have hb3 : Below W7.heap.size W7 W10 := (unhide HBB_).grown (unhide HG3_) (unhide HBB_).size (fun i e => by injection e with e; have := unhide HNM_; omega)
    have HV4_ := hide hv3; have HU4_ := hide hu3; have HBB4_ := hide hb3
    clear hv3 hu3 hb3 HV3_ HG3_ HV_ HU_ HBB_
    try simp only [List.getElem_toArray, List.getElem_cons_zero, List.getElem_cons_succ, Act.put, List.setIfInBounds_toArray, List.set_cons_zero, List.set_cons_succ]
    refine wpList_vput rfl 52 (.tmp 8) (.tmp 28) rfl N_HS 0 rfl [.int .i64 0, .slice none 0 0, .slice none 0 0, .slice none 0 0] rfl infoSig (sigL_one _ _ _ _ _ _ _ _ _ _) _ _ (unhide HU4_) (by simp) ?_
    intro W11 HV5_ HG5_
    have hu5 := unhide HV5_
    rw [spliceV_all _ _ (by simp)] at hu5
    have HX_ := hide ((unhide HV4_).grown (unhide HG5_) (fun e => by injection e with e; have := unhide HNM_; omega)); have HS_ := hide hu5
    have hb : Below W7.heap.size W7 W11 := (unhide HBB4_).grown (unhide HG5_) (unhide HBB4_).size (fun i e => by injection e with e; have := unhide HNM_; omega)
    clear hu5 HV5_ HG5_ HV4_ HU4_ HBB4_ HNM_
    replace HT := hide ((unhide HT).keep hb)
    replace HA := hide ((unhide HA).keep hb)
    replace HMA := hide ((unhide HMA).keep hb)
    replace HK := hide ((unhide HK).keep hb)
    replace HD := hide ((unhide HD).keep hb)
    replace HB := hide (thenB (unhide HB) hb)
    clear hb
    have HX := HX_; have HS := HS_
    clear HX_ HS_
    try simp only [List.getElem_toArray, List.getElem_cons_zero, List.getElem_cons_succ, Act.put, List.setIfInBounds_toArray, List.set_cons_zero, List.set_cons_succ]
    have e1 : W11.cell? ⟨N_HX, 1, none⟩ = some (.int .i64 0) := (unhide HX).cell rfl
    have e2 : W11.cell? ⟨N_HS, 1, none⟩ = some (.slice none 0 0) := (unhide HS).cell rfl
    go_wp2_with fail
    go_ret
    exact ⟨rfl, unhide HB⟩
  obtain ⟨M, U, rfl, rfl, n1, n64, m1, m2, um⟩ := key_nat n m u hk hf.1
  have HKO := hide hk
  have HNN : Hid (1 ≤ n ∧ n ≤ 64 ∧ 1 ≤ M ∧ M ≤ 2 ∧ U ≤ M ∧ na ≤ 300) := ⟨n1, n64, m1, m2, um, hf.2.2⟩
  obtain ⟨T, hT⟩ : ∃ t, t = treeP (pubsS seed M) := ⟨_, rfl⟩
  have hgT : Dg T := hT ▸ dg_tree _
  obtain ⟨ct, hct⟩ : ∃ cs, cs = (T.map (Value.int .u8)).toArray := ⟨_, rfl⟩
  have hst : ct.size = 32 := by rw [hct]; simpa using hgT.len
  have HTT := hide hT; have HGT := hide hgT; have HCT := hide hct
  clear hT hgT hct hk n1 n64 m1 m2 um hf
  go_upto_region 5 with fail
  refine wp_region_lit ?_
  refine wpList_load_mid rfl 40 (.tmp 2) rfl N_HK 0 rfl [.slice A n c, .int .i64 (M : Int), .int .i64 (U : Int)] _ (unhide HK).range Tryd.underlying40 rfl infoKey ?_
  try simp only [List.getElem_toArray, List.getElem_cons_zero, List.getElem_cons_succ, Act.put, List.setIfInBounds_toArray, List.set_cons_zero, List.set_cons_succ]
  go_wp2_with fail
  have hpu := Public_some W3 A n c seed (unhide HN).1 (unhide HN).2 (unhide HA) M (U : Int) (unhide HKO) T (unhide HTT) (unhide HT)
  rw [show dv T = .agg ct by rw [unhide HCT]] at hpu
  refine hpu.mono ?_; rintro x W4 ⟨rfl, hb⟩
  clear hpu
  replace HT := hide ((unhide HT).keep hb)
  replace HA := hide ((unhide HA).keep hb)
  replace HMA := hide ((unhide HMA).keep hb)
  replace HK := hide ((unhide HK).keep hb)
  replace HB := hide (thenB (unhide HB) hb)
  clear hb
  dsimp only
  rename_i KK hK
  refine hK _ _ ?_
  clear hK KK
  refine wpList_plain rfl fun Kt hKt => ?_
  go_simp
  refine hKt _ _ ?_
  clear hKt Kt
  refine wpList_plain rfl fun Kt hKt => ?_
  go_simp
  refine hKt _ _ ?_
  clear hKt Kt
  refine wpList_plain rfl fun Kt hKt => ?_
  go_simp
  refine hKt _ _ ?_
  clear hKt Kt
  refine wpList_plain rfl fun Kt hKt => ?_
  go_simp
  refine hKt _ _ ?_
  clear hKt Kt
  generalize hX : W4.alloc _ = W5
  have hb : Below W4.heap.size W4 W5 := hX ▸ (Below.refl _ _).alloc (Nat.le_refl _) _
  have HZ_ := hide (newBy W4 W5 (by rw [← hX]; rfl))
  have HBB_ := hide hb
  clear hX hb
  refine wpList_bstore rfl 24 (.tmp 5) (.tmp 21) rfl W4.heap.size rfl T (show Value.agg ct = _ by rw [unhide HCT]) 32 info32 (unhide HGT).len _ zeros (unhide HZ_) rfl ?_
  intro W6 HV_ HG_
  have hv := unhide HV_
  have hb : Below W4.heap.size W4 W6 := (unhide HBB_).grown (unhide HG_) (unhide HBB_).size (fun i e => by injection e with e; omega)
  obtain ⟨N_HD, hN⟩ : ∃ N, N = W4.heap.size := ⟨_, rfl⟩
  rw [← hN] at hv ⊢
  have HD_ := hide hv
  clear hN hv HV_ HG_ HZ_ HBB_
  replace HT := hide ((unhide HT).keep hb)
  replace HA := hide ((unhide HA).keep hb)
  replace HMA := hide ((unhide HMA).keep hb)
  replace HK := hide ((unhide HK).keep hb)
  replace HB := hide (thenB (unhide HB) hb)
  clear hb
  have HD := HD_
  clear HD_
  try simp only [List.getElem_toArray, List.getElem_cons_zero, List.getElem_cons_succ, Act.put, List.setIfInBounds_toArray, List.set_cons_zero, List.set_cons_succ]
  by_cases hUM : U = M
  case pos =>
    subst hUM
    go_upto_region 6 with fail
    refine wp_region_lit ?_
    refine wpList_load_mid rfl 40 (.tmp 2) rfl N_HK 0 rfl [.slice A n c, .int .i64 (U : Int), .int .i64 (U : Int)] _ (unhide HK).range Tryd.underlying40 rfl infoKey ?_
    try simp only [List.getElem_toArray, List.getElem_cons_zero, List.getElem_cons_succ, Act.put, List.setIfInBounds_toArray, List.set_cons_zero, List.set_cons_succ]
    go_wp2_with fail
    refine (Sign_no W6 A n c (U : Int) (unhide HKO) Aa na ca (by have := unhide HNN; omega)).mono ?_; rintro x W7 ⟨rfl, hb⟩
    replace HT := hide ((unhide HT).keep hb)
    replace HA := hide ((unhide HA).keep hb)
    replace HMA := hide ((unhide HMA).keep hb)
    replace HK := hide ((unhide HK).keep hb)
    replace HD := hide ((unhide HD).keep hb)
    replace HB := hide (thenB (unhide HB) hb)
    clear hb
    dsimp only
    rename_i KK hK
    refine hK _ _ ?_
    clear hK KK
    refine wpList_plain rfl fun Kt hKt => ?_
    go_simp
    refine hKt _ _ ?_
    clear hKt Kt
    refine wpList_plain rfl fun Kt hKt => ?_
    go_simp
    refine hKt _ _ ?_
    clear hKt Kt
    refine wpList_plain rfl fun Kt hKt => ?_
    go_simp
    refine hKt _ _ ?_
    clear hKt Kt
    refine wpList_plain rfl fun Kt hKt => ?_
    go_simp
    refine hKt _ _ ?_
    clear hKt Kt
    refine wpList_plain rfl fun Kt hKt => ?_
    go_simp
    refine hKt _ _ ?_
    clear hKt Kt
    refine wpList_plain rfl fun Kt hKt => ?_
    go_simp
    refine hKt _ _ ?_
    clear hKt Kt
    generalize hX : W7.alloc _ = W8
    generalize hY : W8.alloc _ = W9
    have hb1 : Below W7.heap.size W7 W8 := hX ▸ (Below.refl _ _).alloc (Nat.le_refl _) _
    have hb2 : Below W8.heap.size W8 W9 := hY ▸ (Below.refl _ _).alloc (Nat.le_refl _) _
    have hz : W8.heap.size = W7.heap.size + 1 := by rw [← hX]; show (W7.heap.push _).size = _; rw [Array.size_push]
    have hv : VsAt W8 W7.heap.size 40 [.slice none 0 0, .int .i64 0, .int .i64 0] := boxedV W7 W8 _ _ (by rw [← hX]; rfl)
    have hu : VsAt W9 W8.heap.size 52 [.int .i64 0, .slice none 0 0, .slice none 0 0, .slice none 0 0] := boxedV W8 W9 _ _ (by rw [← hY]; rfl)
    rw [hz] at hu
    have HV_ := hide (hv.keep hb2); have HU_ := hide hu
    have HBB_ := hide (thenB hb1 hb2)
    obtain ⟨N_HX, hN⟩ : ∃ N, N = W7.heap.size := ⟨_, rfl⟩
    obtain ⟨N_HS, hM⟩ : ∃ N, N = W7.heap.size + 1 := ⟨_, rfl⟩
    rw [← hM] at HU_ ⊢
    rw [← hN] at HV_ ⊢
    have HNM_ : Hid (N_HX = W7.heap.size ∧ N_HS = W7.heap.size + 1) := ⟨hN, hM⟩
    clear hX hY hz hb1 hb2 hv hu hN hM
    refine wpList_vput rfl 40 (.tmp 7) (.tmp 27) rfl N_HX 0 rfl [.slice none 0 0, .int .i64 0, .int .i64 0] rfl infoKey (keyL_one _ _ _ _ _) _ _ (unhide HV_) (by simp) ?_
    intro W10 HV3_ HG3_
    have hv3 := unhide HV3_
    rw [spliceV_all _ _ (by simp)] at hv3
    have hu3 := (unhide HU_).grown (unhide HG3_) (fun e => by injection e with e; have := unhide HNM_; omega)
    have hb3 : Below W7.heap.size W7 W10 := (unhide HBB_).grown (unhide HG3_) (unhide HBB_).size (fun i e => by injection e with e; have := unhide HNM_; omega)
    have HV4_ := hide hv3; have HU4_ := hide hu3; have HBB4_ := hide hb3
    clear hv3 hu3 hb3 HV3_ HG3_ HV_ HU_ HBB_
    try simp only [List.getElem_toArray, List.getElem_cons_zero, List.getElem_cons_succ, Act.put, List.setIfInBounds_toArray, List.set_cons_zero, List.set_cons_succ]
    refine wpList_vput rfl 52 (.tmp 8) (.tmp 28) rfl N_HS 0 rfl [.int .i64 0, .slice none 0 0, .slice none 0 0, .slice none 0 0] rfl infoSig (sigL_one _ _ _ _ _ _ _ _ _ _) _ _ (unhide HU4_) (by simp) ?_
    intro W11 HV5_ HG5_
    have hu5 := unhide HV5_
    rw [spliceV_all _ _ (by simp)] at hu5
    have HX_ := hide ((unhide HV4_).grown (unhide HG5_) (fun e => by injection e with e; have := unhide HNM_; omega)); have HS_ := hide hu5
    have hb : Below W7.heap.size W7 W11 := (unhide HBB4_).grown (unhide HG5_) (unhide HBB4_).size (fun i e => by injection e with e; have := unhide HNM_; omega)
    clear hu5 HV5_ HG5_ HV4_ HU4_ HBB4_ HNM_
    replace HT := hide ((unhide HT).keep hb)
    replace HA := hide ((unhide HA).keep hb)
    replace HMA := hide ((unhide HMA).keep hb)
    replace HK := hide ((unhide HK).keep hb)
    replace HD := hide ((unhide HD).keep hb)
    replace HB := hide (thenB (unhide HB) hb)
    clear hb
    have HX := HX_; have HS := HS_
    clear HX_ HS_
    try simp only [List.getElem_toArray, List.getElem_cons_zero, List.getElem_cons_succ, Act.put, List.setIfInBounds_toArray, List.set_cons_zero, List.set_cons_succ]
    have e1 : W11.cell? ⟨N_HX, 1, none⟩ = some (.int .i64 0) := (unhide HX).cell rfl
    have e2 : W11.cell? ⟨N_HS, 1, none⟩ = some (.slice none 0 0) := (unhide HS).cell rfl
    go_wp2_with fail
    go_ret
    exact ⟨rfl, unhide HB⟩
  obtain ⟨u1, hu1⟩ : ∃ x, x = U + 1 := ⟨_, rfl⟩
  obtain ⟨bs, hbs⟩ : ∃ b, b = bitsS T U ma := ⟨_, rfl⟩
  obtain ⟨p, hp⟩ : ∃ x, x = (pathP (pubsS seed M) U).length := ⟨_, rfl⟩
  have hk1 : keyOk n (M : Int) (u1 : Int) = true := by unfold keyOk; rw [decide_eq_true_eq]; have := unhide HNN; omega
  have wu : IntKind.i64.wrap ((U : Int) + 1) = (u1 : Int) := (IntWalk.i64_in _ (by have := unhide HNN; omega)).trans (by omega)
  have HU1 := hide hu1; have HBS := hide hbs; have HPN := hide hp; have HUM := hide hUM; have HK1 := hide hk1; have HWU := hide wu
  clear hu1 hbs hp hUM hk1 wu
  go_upto_region 6 with fail
  refine wp_region_lit ?_
  refine wpList_load_mid rfl 40 (.tmp 2) rfl N_HK 0 rfl [.slice A n c, .int .i64 (M : Int), .int .i64 (U : Int)] _ (unhide HK).range Tryd.underlying40 rfl infoKey ?_
  try simp only [List.getElem_toArray, List.getElem_cons_zero, List.getElem_cons_succ, Act.put, List.setIfInBounds_toArray, List.set_cons_zero, List.set_cons_succ]
  go_wp2_with fail
  refine (Sign_some W6 A n c seed (unhide HN).1 (unhide HN).2 (unhide HA) M U u1 (unhide HU1) (unhide HKO) (by have := unhide HNN; have := unhide HUM; omega) Aa na ca ma (unhide HNA).1 (unhide HNA).2.1 (unhide HMA) (unhide HNA).2.2 (by have := unhide HNN; omega) T (unhide HTT) bs (unhide HBS) p (unhide HPN) (unhide HT)).mono ?_; rintro x W7 ⟨A1, c1, A2, c2, A3, c3, rfl, ho, hcl, hpl, hp, hq, hb⟩
  replace HT := hide ((unhide HT).keep hb)
  replace HA := hide ((unhide HA).keep hb)
  replace HMA := hide ((unhide HMA).keep hb)
  replace HK := hide ((unhide HK).keep hb)
  replace HD := hide ((unhide HD).keep hb)
  replace HB := hide (thenB (unhide HB) hb)
  clear hb
  have HO := hide ho; have HC := hide hcl; have HP := hide hp; have HPL : Hid (p ≤ c3) := hpl
  clear ho hcl hp hpl hq
  dsimp only
  rename_i KK hK
  refine hK _ _ ?_
  clear hK KK
  refine wpList_plain rfl fun Kt hKt => ?_
  go_simp
  refine hKt _ _ ?_
  clear hKt Kt
  refine wpList_plain rfl fun Kt hKt => ?_
  go_simp
  refine hKt _ _ ?_
  clear hKt Kt
  refine wpList_plain rfl fun Kt hKt => ?_
  go_simp
  refine hKt _ _ ?_
  clear hKt Kt
  refine wpList_plain rfl fun Kt hKt => ?_
  go_simp
  refine hKt _ _ ?_
  clear hKt Kt
  refine wpList_plain rfl fun Kt hKt => ?_
  go_simp
  refine hKt _ _ ?_
  clear hKt Kt
  refine wpList_plain rfl fun Kt hKt => ?_
  go_simp
  refine hKt _ _ ?_
  clear hKt Kt
  generalize hX : W7.alloc _ = W8
  generalize hY : W8.alloc _ = W9
  have hb1 : Below W7.heap.size W7 W8 := hX ▸ (Below.refl _ _).alloc (Nat.le_refl _) _
  have hb2 : Below W8.heap.size W8 W9 := hY ▸ (Below.refl _ _).alloc (Nat.le_refl _) _
  have hz : W8.heap.size = W7.heap.size + 1 := by rw [← hX]; show (W7.heap.push _).size = _; rw [Array.size_push]
  have hv : VsAt W8 W7.heap.size 40 [.slice none 0 0, .int .i64 0, .int .i64 0] := boxedV W7 W8 _ _ (by rw [← hX]; rfl)
  have hu : VsAt W9 W8.heap.size 52 [.int .i64 0, .slice none 0 0, .slice none 0 0, .slice none 0 0] := boxedV W8 W9 _ _ (by rw [← hY]; rfl)
  rw [hz] at hu
  have HV_ := hide (hv.keep hb2); have HU_ := hide hu
  have HBB_ := hide (thenB hb1 hb2)
  obtain ⟨N_HX, hN⟩ : ∃ N, N = W7.heap.size := ⟨_, rfl⟩
  obtain ⟨N_HS, hM⟩ : ∃ N, N = W7.heap.size + 1 := ⟨_, rfl⟩
  rw [← hM] at HU_ ⊢
  rw [← hN] at HV_ ⊢
  have HNM_ : Hid (N_HX = W7.heap.size ∧ N_HS = W7.heap.size + 1) := ⟨hN, hM⟩
  clear hX hY hz hb1 hb2 hv hu hN hM
  refine wpList_vput rfl 40 (.tmp 7) (.tmp 27) rfl N_HX 0 rfl [.slice A n c, .int .i64 (M : Int), .int .i64 (u1 : Int)] rfl infoKey (keyL_one _ _ _ _ _) _ _ (unhide HV_) (by simp) ?_
  intro W10 HV3_ HG3_
  have hv3 := unhide HV3_
  rw [spliceV_all _ _ (by simp)] at hv3
  have hu3 := (unhide HU_).grown (unhide HG3_) (fun e => by injection e with e; have := unhide HNM_; omega)
  have hb3 : Below W7.heap.size W7 W10 := (unhide HBB_).grown (unhide HG3_) (unhide HBB_).size (fun i e => by injection e with e; have := unhide HNM_; omega)
  have HV4_ := hide hv3; have HU4_ := hide hu3; have HBB4_ := hide hb3
  clear hv3 hu3 hb3 HV3_ HG3_ HV_ HU_ HBB_
  try simp only [List.getElem_toArray, List.getElem_cons_zero, List.getElem_cons_succ, Act.put, List.setIfInBounds_toArray, List.set_cons_zero, List.set_cons_succ]
  refine wpList_vput rfl 52 (.tmp 8) (.tmp 28) rfl N_HS 0 rfl [.int .i64 (U : Int), .slice A1 64 c1, .slice A2 64 c2, .slice A3 p c3] rfl infoSig (sigL_one _ _ _ _ _ _ _ _ _ _) _ _ (unhide HU4_) (by simp) ?_
  intro W11 HV5_ HG5_
  have hu5 := unhide HV5_
  rw [spliceV_all _ _ (by simp)] at hu5
  have HX_ := hide ((unhide HV4_).grown (unhide HG5_) (fun e => by injection e with e; have := unhide HNM_; omega)); have HS_ := hide hu5
  have hb : Below W7.heap.size W7 W11 := (unhide HBB4_).grown (unhide HG5_) (unhide HBB4_).size (fun i e => by injection e with e; have := unhide HNM_; omega)
  clear hu5 HV5_ HG5_ HV4_ HU4_ HBB4_ HNM_
  replace HT := hide ((unhide HT).keep hb)
  replace HA := hide ((unhide HA).keep hb)
  replace HMA := hide ((unhide HMA).keep hb)
  replace HK := hide ((unhide HK).keep hb)
  replace HD := hide ((unhide HD).keep hb)
  replace HO := hide ((unhide HO).keep hb)
  replace HC := hide ((unhide HC).keep hb)
  replace HP := hide ((unhide HP).keep hb)
  replace HB := hide (thenB (unhide HB) hb)
  clear hb
  have HX := HX_; have HS := HS_
  clear HX_ HS_
  try simp only [List.getElem_toArray, List.getElem_cons_zero, List.getElem_cons_succ, Act.put, List.setIfInBounds_toArray, List.set_cons_zero, List.set_cons_succ]
  go_upto_region 9 with fail
  refine wp_region_lit ?_
  refine wpList_load_mid rfl 40 (.tmp 7) rfl N_HX 0 rfl [.slice A n c, .int .i64 (M : Int), .int .i64 (u1 : Int)] _ (unhide HX).range Tryd.underlying40 rfl infoKey ?_
  try simp only [List.getElem_toArray, List.getElem_cons_zero, List.getElem_cons_succ, Act.put, List.setIfInBounds_toArray, List.set_cons_zero, List.set_cons_succ]
  go_wp2_with fail
  have hpu := Public_some W11 A n c seed (unhide HN).1 (unhide HN).2 (unhide HA) M (u1 : Int) (unhide HK1) T (unhide HTT) (unhide HT)
  rw [show dv T = .agg ct by rw [unhide HCT]] at hpu
  refine hpu.mono ?_; rintro x W12 ⟨rfl, hb⟩
  clear hpu
  replace HT := hide ((unhide HT).keep hb)
  replace HA := hide ((unhide HA).keep hb)
  replace HMA := hide ((unhide HMA).keep hb)
  replace HK := hide ((unhide HK).keep hb)
  replace HD := hide ((unhide HD).keep hb)
  replace HO := hide ((unhide HO).keep hb)
  replace HC := hide ((unhide HC).keep hb)
  replace HP := hide ((unhide HP).keep hb)
  replace HX := hide ((unhide HX).keep hb)
  replace HS := hide ((unhide HS).keep hb)
  replace HB := hide (thenB (unhide HB) hb)
  clear hb
  dsimp only
  rename_i KK hK
  refine hK _ _ ?_
  clear hK KK
  refine wpList_plain rfl fun Kt hKt => ?_
  go_simp
  refine hKt _ _ ?_
  clear hKt Kt
  refine wpList_plain rfl fun Kt hKt => ?_
  go_simp
  refine hKt _ _ ?_
  clear hKt Kt
  refine wpList_plain rfl fun Kt hKt => ?_
  go_simp
  refine hKt _ _ ?_
  clear hKt Kt
  refine wpList_plain rfl fun Kt hKt => ?_
  go_simp
  refine hKt _ _ ?_
  clear hKt Kt
  generalize hX : W12.alloc _ = W13
  have hb : Below W12.heap.size W12 W13 := hX ▸ (Below.refl _ _).alloc (Nat.le_refl _) _
  have HZ_ := hide (newBy W12 W13 (by rw [← hX]; rfl))
  have HBB_ := hide hb
  clear hX hb
  refine wpList_bstore rfl 24 (.tmp 10) (.tmp 52) rfl W12.heap.size rfl T (show Value.agg ct = _ by rw [unhide HCT]) 32 info32 (unhide HGT).len _ zeros (unhide HZ_) rfl ?_
  intro W14 HV_ HG_
  have hv := unhide HV_
  have hb : Below W12.heap.size W12 W14 := (unhide HBB_).grown (unhide HG_) (unhide HBB_).size (fun i e => by injection e with e; omega)
  obtain ⟨N_HD2, hN⟩ : ∃ N, N = W12.heap.size := ⟨_, rfl⟩
  rw [← hN] at hv ⊢
  have HD2_ := hide hv
  clear hN hv HV_ HG_ HZ_ HBB_
  replace HT := hide ((unhide HT).keep hb)
  replace HA := hide ((unhide HA).keep hb)
  replace HMA := hide ((unhide HMA).keep hb)
  replace HK := hide ((unhide HK).keep hb)
  replace HD := hide ((unhide HD).keep hb)
  replace HO := hide ((unhide HO).keep hb)
  replace HC := hide ((unhide HC).keep hb)
  replace HP := hide ((unhide HP).keep hb)
  replace HX := hide ((unhide HX).keep hb)
  replace HS := hide ((unhide HS).keep hb)
  replace HB := hide (thenB (unhide HB) hb)
  clear hb
  have HD2 := HD2_
  clear HD2_
  try simp only [List.getElem_toArray, List.getElem_cons_zero, List.getElem_cons_succ, Act.put, List.setIfInBounds_toArray, List.set_cons_zero, List.set_cons_succ]
  go_upto_region 10 with fail
  have wu := unhide HWU
  have f1 : W14.cell? ⟨N_HX, 1, none⟩ = some (.int .i64 (M : Int)) := (unhide HX).cell rfl
  have f2 : W14.cell? ⟨N_HX, 2, none⟩ = some (.int .i64 (u1 : Int)) := (unhide HX).cell rfl
  have f3 : W14.cell? ⟨N_HK, 1, none⟩ = some (.int .i64 (M : Int)) := (unhide HK).cell rfl
  have f4 : W14.cell? ⟨N_HK, 2, none⟩ = some (.int .i64 (U : Int)) := (unhide HK).cell rfl
  have f5 : W14.cell? ⟨N_HS, 0, none⟩ = some (.int .i64 (U : Int)) := (unhide HS).cell rfl
  refine wp_region_lit ?_
  refine wpList_wanted (by kernel_rfl) fun Kt hKt => ?_
  go_simp
  refine hKt _ _ ?_
  clear hKt Kt
  refine wpList_wanted (by kernel_rfl) fun Kt hKt => ?_
  go_simp
  refine hKt _ _ ?_
  clear hKt Kt
  refine wpList_wanted (by kernel_rfl) fun Kt hKt => ?_
  go_simp
  refine hKt _ _ ?_
  clear hKt Kt
  refine wpList_gload (by kernel_rfl) 24 (.tmp 10) rfl N_HD2 rfl _ Tryd.underlying24 rfl 32 info32 _ T (unhide HD2) (unhide HGT).len ?_
  refine wpList_gload (by kernel_rfl) 24 (.tmp 5) rfl N_HD rfl _ Tryd.underlying24 rfl 32 info32 _ T (unhide HD) (unhide HGT).len ?_
  refine wpList_eql (by kernel_rfl) (.tmp 57) (.tmp 58) _ rfl T T rfl rfl (unhide HGT).len (unhide HGT).len ?_
  rw [show decide (T = T) = true by exact decide_eq_true rfl, show dv T = .agg ct by rw [unhide HCT]]
  try simp only [List.getElem_toArray, List.getElem_cons_zero, List.getElem_cons_succ, Act.put, List.setIfInBounds_toArray, List.set_cons_zero, List.set_cons_succ]
  refine wpList_wanted (by kernel_rfl) fun Kt hKt => ?_
  go_simp
  refine hKt _ _ ?_
  clear hKt Kt
  refine wpList_wanted (by kernel_rfl) fun Kt hKt => ?_
  go_simp
  refine hKt _ _ ?_
  clear hKt Kt
  refine wpList_wanted (by kernel_rfl) fun Kt hKt => ?_
  go_simp
  refine hKt _ _ ?_
  clear hKt Kt
  refine wpList_wanted (by kernel_rfl) fun Kt hKt => ?_
  go_simp
  refine hKt _ _ ?_
  clear hKt Kt
  refine wpList_wanted (by kernel_rfl) fun Kt hKt => ?_
  go_simp
  refine hKt _ _ ?_
  clear hKt Kt
  refine wpList_wanted (by kernel_rfl) fun Kt hKt => ?_
  go_simp
  refine hKt _ _ ?_
  clear hKt Kt
  refine wpList_wanted (by kernel_rfl) fun Kt hKt => ?_
  go_simp
  refine hKt _ _ ?_
  clear hKt Kt
  refine wpList_wanted (by kernel_rfl) fun Kt hKt => ?_
  go_simp
  refine hKt _ _ ?_
  clear hKt Kt
  refine wpList_wanted (by kernel_rfl) fun Kt hKt => ?_
  go_simp
  refine hKt _ _ ?_
  clear hKt Kt
  refine wpList_wanted (by kernel_rfl) fun Kt hKt => ?_
  go_simp
  refine hKt _ _ ?_
  clear hKt Kt
  refine wpList_wanted (by kernel_rfl) fun Kt hKt => ?_
  go_simp
  refine hKt _ _ ?_
  clear hKt Kt
  refine wpList_wanted (by kernel_rfl) fun Kt hKt => ?_
  go_simp
  refine hKt _ _ ?_
  clear hKt Kt
  refine wpList_wanted (by kernel_rfl) fun Kt hKt => ?_
  go_simp
  refine hKt _ _ ?_
  clear hKt Kt
  refine wpList_wanted (by kernel_rfl) fun Kt hKt => ?_
  go_simp
  refine hKt _ _ ?_
  clear hKt Kt
  refine wpList_wanted (by kernel_rfl) fun Kt hKt => ?_
  go_simp
  refine hKt _ _ ?_
  clear hKt Kt
  refine wpList_wanted (by kernel_rfl) fun Kt hKt => ?_
  go_simp
  refine hKt _ _ ?_
  clear hKt Kt
  refine wpList_wanted (by kernel_rfl) fun Kt hKt => ?_
  go_simp
  refine hKt _ _ ?_
  clear hKt Kt
  refine wpList_wanted (by kernel_rfl) fun Kt hKt => ?_
  go_simp
  refine hKt _ _ ?_
  clear hKt Kt
  refine wpList_wanted (by kernel_rfl) fun Kt hKt => ?_
  go_simp
  refine hKt _ _ ?_
  clear hKt Kt
  refine wpList_wanted (by kernel_rfl) fun Kt hKt => ?_
  go_simp
  refine hKt _ _ ?_
  clear hKt Kt
  refine wpList_wanted (by kernel_rfl) fun Kt hKt => ?_
  go_simp
  refine hKt _ _ ?_
  clear hKt Kt
  refine wpList_wanted (by kernel_rfl) fun Kt hKt => ?_
  go_simp
  refine hKt _ _ ?_
  clear hKt Kt
  refine wpList_wanted (by kernel_rfl) fun Kt hKt => ?_
  go_simp
  refine hKt _ _ ?_
  clear hKt Kt
  refine wpList_wanted (by kernel_rfl) fun Kt hKt => ?_
  go_simp
  refine hKt _ _ ?_
  clear hKt Kt
  refine wpList_gload (by kernel_rfl) 24 (.tmp 5) rfl N_HD rfl _ Tryd.underlying24 rfl 32 info32 _ T (unhide HD) (unhide HGT).len ?_
  rw [show dv T = .agg ct by rw [unhide HCT]]
  try simp only [List.getElem_toArray, List.getElem_cons_zero, List.getElem_cons_succ, Act.put, List.setIfInBounds_toArray, List.set_cons_zero, List.set_cons_succ]
  refine wpList_wanted (by kernel_rfl) fun Kt hKt => ?_
  go_simp
  refine hKt _ _ ?_
  clear hKt Kt
  refine wpList_wanted (by kernel_rfl) fun Kt hKt => ?_
  go_simp
  refine hKt _ _ ?_
  clear hKt Kt
  refine wpList_wanted (by kernel_rfl) fun Kt hKt => ?_
  go_simp
  refine hKt _ _ ?_
  clear hKt Kt
  refine wpList_vgload (by kernel_rfl) 52 (.tmp 8) rfl N_HS rfl _ Tryd.underlying52 rfl _ [.int .i64 (U : Int), .slice A1 64 c1, .slice A2 64 c2, .slice A3 p c3] infoSig (unhide HS) ?_
  try simp only [List.getElem_toArray, List.getElem_cons_zero, List.getElem_cons_succ, Act.put, List.setIfInBounds_toArray, List.set_cons_zero, List.set_cons_succ]
  have hve := Verify_any W14 T (unhide HGT) M U (by have := unhide HNN; omega) (by have := unhide HNN; omega) (by have := unhide HNN; have := unhide HUM; omega) Aa na ca ma (unhide HNA).1 (unhide HNA).2.1 (unhide HMA) (unhide HNA).2.2 (by have := unhide HNN; omega) A1 c1 _ (unhide HO) A2 c2 _ (unhide HC) A3 p c3 _ (unhide HPN) (unhide HPL) (unhide HP) (unhide HT)
  rw [unhide HBS, unhide HTT, verS_own seed M U ma (by have := unhide HNN; have := unhide HUM; omega), ← unhide HTT, show dv T = .agg ct by rw [unhide HCT]] at hve
  refine wpList_wanted (by kernel_rfl) fun Kt hKt => ?_
  go_simp
  refine hve.mono ?_; rintro x W15 ⟨rfl, hb⟩
  clear hve f1 f2 f3 f4 f5
  replace HT := hide ((unhide HT).keep hb)
  replace HA := hide ((unhide HA).keep hb)
  replace HMA := hide ((unhide HMA).keep hb)
  replace HK := hide ((unhide HK).keep hb)
  replace HD := hide ((unhide HD).keep hb)
  replace HO := hide ((unhide HO).keep hb)
  replace HC := hide ((unhide HC).keep hb)
  replace HP := hide ((unhide HP).keep hb)
  replace HX := hide ((unhide HX).keep hb)
  replace HS := hide ((unhide HS).keep hb)
  replace HD2 := hide ((unhide HD2).keep hb)
  replace HB := hide (thenB (unhide HB) hb)
  clear hb
  dsimp only
  refine hKt _ _ ?_
  clear hKt Kt
  go_wp2_with fail
  go_ret
  exact ⟨rfl, unhide HB⟩
end Go.Proofs.YtninjgplgoimeaaDoor
