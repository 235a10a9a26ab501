/- The law SigningShape: only signatures of the right shape verify. -/
import Derived.Test.YtninjgplgoimeaaDoorSigSane
import Derived.Test.YtninjgplgoimeaaDoorClose
import Derived.Test.YtninjgplgoimeaaDoorDigTwo
import Derived.Deep.DeepCutAuto
namespace Go.Proofs.YtninjgplgoimeaaDoor
set_option linter.unusedSimpArgs false
set_option linter.unusedVariables false
open Go.RowKit Go.LawClose

theorem verS_own (seed : List Int) (n i : Nat) (msg : List Int) (hi : i < n) : verS (treeP (pubsS seed n)) n i (bitsS (treeP (pubsS seed n)) i msg) (openedS seed i (bitsS (treeP (pubsS seed n)) i msg) 64) (closedS seed i (bitsS (treeP (pubsS seed n)) i msg) 64) (pathP (pubsS seed n) i) = true := ver_own seed n i _ hi
/-- a load of values under a guard -/
theorem wpList_vgload {P : Program} {ops : Array Oper} {rest : List Oper} {o : Oper} {a : Act} {w : World} {Q : Exit → Act → World → Prop} (hw : Region.wanted o (yielded ops a.tmps) = true) (ty : TypeId) (x : Operand) (ho : o.op = .load ty x)
    (N : Nat) (hx : a.eval x = .pointer (some ⟨N, 0, none⟩)) (d : TypeDesc) (hu : P.underlying ty = some d) (hd : d.isRow = true) (T : TypeId) (cs : List Value) (hi : (P.info? ty).map (·.size) = some cs.length) (h0 : VsAt w N T cs)
    (h : wpList P ops Q rest (a.put o.dst (.agg cs.toArray)) w) : wpList P ops Q (o :: rest) a w :=
  wpList_wanted hw fun _ hK => wp_load_mid ty x ho N 0 hx cs d h0.range hu hd hi (hK _ _ h)
theorem Sign_none (w : World) (A : Option Addr) (n c : Nat) (many used : Int) (hk : keyOk n many used = false) (v : Value) :
    Calls Tryd.prog 37 #[.agg #[.slice A n c, .int .i64 many, .int .i64 used], v] w fun x w' => x = .returned (.tuple #[.agg #[.slice none 0 0, .int .i64 0, .int .i64 0], .agg #[.int .i64 0, .slice none 0 0, .slice none 0 0, .slice none 0 0], .int .i64 40]) ∧ Below w.heap.size w w' :=
  Sign_bad w A n c many used hk v
theorem Public_none (w : World) (A : Option Addr) (n c : Nat) (many used : Int) (hk : keyOk n many used = false) :
    Calls Tryd.prog 35 #[.agg #[.slice A n c, .int .i64 many, .int .i64 used]] w fun x w' => x = .returned (.tuple #[dv zeros, .int .i64 40]) ∧ Below w.heap.size w w' := Public_bad w A n c many used hk
theorem Public_some (w : World) (A : Option Addr) (n c : Nat) (seed : List Int) (hn : n = seed.length) (hc : n ≤ c) (hA : Bt w A seed) (many : Nat) (u : Int) (hk : keyOk n (many : Int) u = true) (T : List Int) (hT : T = treeP (pubsS seed many)) (hTb : DTab w) :
    Calls Tryd.prog 35 #[.agg #[.slice A n c, .int .i64 (many : Int), .int .i64 u]] w fun x w' => x = .returned (.tuple #[dv T, .int .i64 0]) ∧ Below w.heap.size w w' := by
  subst hT
  exact Public_ok w A n c seed hn hc hA many u hk hTb
/-- a signature is returned, its parts under names of their own -/
theorem Sign_some (w : World) (A : Option Addr) (n c : Nat) (seed : List Int) (hn : n = seed.length) (hc : n ≤ c) (hA : Bt w A seed) (many used u1 : Nat) (hu1 : u1 = used + 1) (hk : keyOk n (many : Int) (used : Int) = true) (hu : used < many)
    (Am : Option Addr) (nm cm : Nat) (msg : List Int) (hnm : nm = msg.length) (hcm : nm ≤ cm) (hAm : Bt w Am msg) (hAm0 : Am = none → cm = 0) (h65 : nm ≤ 65536) (T : List Int) (hT : T = treeP (pubsS seed many)) (bs : List Bool) (hbs : bs = bitsS T used msg) (p : Nat) (hp : p = (pathP (pubsS seed many) used).length) (hTb : DTab w) :
    Calls Tryd.prog 37 #[.agg #[.slice A n c, .int .i64 (many : Int), .int .i64 (used : Int)], .slice Am nm cm] w fun x w' => ∃ A1 c1 A2 c2 A3 c3, x = .returned (.tuple #[.agg #[.slice A n c, .int .i64 (many : Int), .int .i64 (u1 : Int)], .agg #[.int .i64 (used : Int), .slice A1 64 c1, .slice A2 64 c2, .slice A3 p c3], .int .i64 0]) ∧
      Sg64 w' A1 c1 (openedS seed used bs 64) ∧ Sg64 w' A2 c2 (closedS seed used bs 64) ∧ p ≤ c3 ∧ Ds w' A3 (pathP (pubsS seed many) used) ∧ (A3 = none → c3 = 0) ∧ Below w.heap.size w w' := by
  subst hu1 hT hbs hp
  exact Sign_ok w A n c seed hn hc hA many used hk hu Am nm cm msg hnm hcm hAm hAm0 h65 hTb
theorem key_nat (n : Nat) (m u : Int) (h : keyOk n m u = true) (h2 : m ≤ 2) : ∃ M U : Nat, m = (M : Int) ∧ u = (U : Int) ∧ 1 ≤ n ∧ n ≤ 64 ∧ 1 ≤ M ∧ M ≤ 2 ∧ U ≤ M := by
  unfold keyOk at h
  rw [decide_eq_true_eq] at h
  exact ⟨m.toNat, u.toNat, by omega, by omega, by omega, by omega, by omega, by omega, by omega⟩

theorem verS_long (T : List Int) (seed : List Int) (n i : Nat) (bits : List Bool) (o c : List (List Int)) (hi : i < n) : verS T n i bits o c (pathP (pubsS seed n) i ++ [T]) = false := by
  obtain ⟨h1, _, _⟩ := pathP_spec n (pubsS seed n) i (pubsS_length seed n) hi
  unfold verS
  rw [List.length_append, h1]
  simp

set_option maxRecDepth 100000 in
set_option maxHeartbeats 8000000 in
theorem shape_any (A : Option Addr) (c : Nat) (seed : List Int) (m u : Int) (Aa : Option Addr) (ca : Nat) (ma : List Int) (how n' : Int) (w : World) (hA : Bt w A seed) (hc : seed.length ≤ c) (hAa : Bt w Aa ma) (hca : ma.length ≤ ca) (hna : Aa = none → ca = 0) (hm : -9223372036854775808 ≤ m ∧ m ≤ 9223372036854775807) (hu : -9223372036854775808 ≤ u ∧ u ≤ 9223372036854775807) (hh : -9223372036854775808 ≤ how ∧ how ≤ 9223372036854775807) (hn' : -9223372036854775808 ≤ n' ∧ n' ≤ 9223372036854775807) (hT : DTab w) :
    Calls Tryd.prog 12 #[keyV A seed.length c m u, .slice Aa ma.length ca, .int .i64 how, .int .i64 n'] w (LawOk w) := by
  obtain ⟨n, hn⟩ : ∃ n, n = seed.length := ⟨_, rfl⟩
  obtain ⟨na, hla⟩ : ∃ n, n = ma.length := ⟨_, rfl⟩
  rw [← hn] at hc ⊢
  rw [← hla] at hca ⊢
  have HB : Hid (Below w.heap.size w w) := Below.refl _ _
  have HT := hide hT; have HA := hide hA; have HMA := hide hAa
  have HT0 := hide hT; have HMA0 := hide hAa
  have HN : Hid (n = seed.length ∧ n ≤ c) := ⟨hn, hc⟩
  have HNA : Hid (na = ma.length ∧ na ≤ ca ∧ (Aa = none → ca = 0)) := ⟨hla, hca, hna⟩
  unfold keyV
  clear hT hA hAa hn hc hla hca hna hm hu
  go_enter Tryd.func12, Tryd.ntmps12
  go_wp2_with fail
  generalize hX : w.alloc _ = W1
  have hb : Below w.heap.size w W1 := hX ▸ (Below.refl _ _).alloc (Nat.le_refl _) _
  have hv : VsAt W1 w.heap.size 40 [.slice A n c, .int .i64 m, .int .i64 u] := boxedV w W1 _ _ (by rw [← hX]; rfl)
  obtain ⟨N_HK, hN⟩ : ∃ N, N = w.heap.size := ⟨_, rfl⟩
  have hz : W1.heap.size = w.heap.size + 1 := by rw [← hX]; show (w.heap.push _).size = _; rw [Array.size_push]
  rw [← hN] at hv ⊢
  rw [← hN] at hz
  have HK_ := hide hv
  have hzz := hz
  clear hX hN hv
  replace HT := hide ((unhide HT).keep hb)
  replace HA := hide ((unhide HA).keep hb)
  replace HMA := hide ((unhide HMA).keep hb)
  replace HB := hide (thenB (unhide HB) hb)
  clear hb
  have HK := HK_
  clear HK_
  clear hz hzz
  refine (sane4_any W1 (unhide HT)).mono ?_; rintro x W2 ⟨rfl, hb⟩
  replace HT := hide ((unhide HT).keep hb)
  replace HA := hide ((unhide HA).keep hb)
  replace HMA := hide ((unhide HMA).keep hb)
  replace HK := hide ((unhide HK).keep hb)
  replace HB := hide (thenB (unhide HB) hb)
  clear hb
  go_upto_region 3 with fail
  refine wp_region_lit ?_
  refine wpList_load_mid rfl 40 (.tmp 4) rfl N_HK 0 rfl [.slice A n c, .int .i64 m, .int .i64 u] _ (unhide HK).range Tryd.underlying40 rfl infoKey ?_
  try simp only [List.getElem_toArray, List.getElem_cons_zero, List.getElem_cons_succ, Act.put, List.setIfInBounds_toArray, List.set_cons_zero, List.set_cons_succ]
  go_wp2_with fail
  refine (few4_any W2 A n c m u Aa na ca).mono ?_; rintro x W3 ⟨rfl, hb⟩
  replace HT := hide ((unhide HT).keep hb)
  replace HA := hide ((unhide HA).keep hb)
  replace HMA := hide ((unhide HMA).keep hb)
  replace HK := hide ((unhide HK).keep hb)
  replace HB := hide (thenB (unhide HB) hb)
  clear hb
  by_cases hf : fewS n m na = true
  case neg =>
    rw [show fewS n m na = false by simpa using hf]
    clear hf
    go_wp2_with fail
    go_ret
    exact ⟨rfl, unhide HB⟩
  rw [hf]
  unfold fewS at hf
  rw [decide_eq_true_eq] at hf
  by_cases hk : keyOk n m u = true
  case neg =>
    have hk' : keyOk n m u = false := by simpa using hk
    have HKF := hide hk'
    obtain ⟨Z0, hZ0⟩ : ∃ t, t = zeros := ⟨_, rfl⟩
    obtain ⟨cz, hcz⟩ : ∃ cs, cs = (Z0.map (Value.int .u8)).toArray := ⟨_, rfl⟩
    have hsz : cz.size = 32 := by rw [hcz, hZ0]; rfl
    have HZ0 := hide hZ0; have HCZ := hide hcz; have HGZ := hide (show Dg Z0 from hZ0 ▸ dg_zeros)
    clear hk hk' hf hZ0 hcz
    go_upto_region 5 with fail
    refine wp_region_lit ?_
    refine wpList_load_mid rfl 40 (.tmp 4) rfl N_HK 0 rfl [.slice A n c, .int .i64 m, .int .i64 u] _ (unhide HK).range Tryd.underlying40 rfl infoKey ?_
    try simp only [List.getElem_toArray, List.getElem_cons_zero, List.getElem_cons_succ, Act.put, List.setIfInBounds_toArray, List.set_cons_zero, List.set_cons_succ]
    go_wp2_with fail
    have hpu := (by have h := Public_none W3 A n c m u (unhide HKF); rw [← unhide HZ0] at h; exact h : Calls Tryd.prog 35 #[.agg #[.slice A n c, .int .i64 m, .int .i64 u]] W3 fun x w' => x = .returned (.tuple #[dv Z0, .int .i64 40]) ∧ Below (W3).heap.size W3 w')
    rw [show dv Z0 = .agg cz by rw [unhide HCZ]] at hpu
    refine hpu.mono ?_; rintro x W4 ⟨rfl, hb⟩
    clear hpu
    replace HT := hide ((unhide HT).keep hb)
    replace HA := hide ((unhide HA).keep hb)
    replace HMA := hide ((unhide HMA).keep hb)
    replace HK := hide ((unhide HK).keep hb)
    replace HB := hide (thenB (unhide HB) hb)
    clear hb
    dsimp only
    rename_i KK hK
    refine hK _ _ ?_
    clear hK KK
    refine wpList_plain rfl fun Kt hKt => ?_
    go_simp
    refine hKt _ _ ?_
    clear hKt Kt
    refine wpList_plain rfl fun Kt hKt => ?_
    go_simp
    refine hKt _ _ ?_
    clear hKt Kt
    refine wpList_plain rfl fun Kt hKt => ?_
    go_simp
    refine hKt _ _ ?_
    clear hKt Kt
    refine wpList_plain rfl fun Kt hKt => ?_
    go_simp
    refine hKt _ _ ?_
    clear hKt Kt
    generalize hX : W4.alloc _ = W5
    have hb : Below W4.heap.size W4 W5 := hX ▸ (Below.refl _ _).alloc (Nat.le_refl _) _
    have HZ_ := hide (newBy W4 W5 (by rw [← hX]; rfl))
    have HBB_ := hide hb
    clear hX hb
    refine wpList_bstore rfl 24 (.tmp 9) (.tmp 24) rfl W4.heap.size rfl Z0 (show Value.agg cz = _ by rw [unhide HCZ]) 32 info32 (unhide HGZ).len _ zeros (unhide HZ_) rfl ?_
    intro W6 HV_ HG_
    have hv := unhide HV_
    have hb : Below W4.heap.size W4 W6 := (unhide HBB_).grown (unhide HG_) (unhide HBB_).size (fun i e => by injection e with e; omega)
    obtain ⟨N_HD, hN⟩ : ∃ N, N = W4.heap.size := ⟨_, rfl⟩
    rw [← hN] at hv ⊢
    have HD_ := hide hv
    clear hN hv HV_ HG_ HZ_ HBB_
    replace HT := hide ((unhide HT).keep hb)
    replace HA := hide ((unhide HA).keep hb)
    replace HMA := hide ((unhide HMA).keep hb)
    replace HK := hide ((unhide HK).keep hb)
    replace HB := hide (thenB (unhide HB) hb)
    clear hb
    have HD := HD_
    clear HD_
    try simp only [List.getElem_toArray, List.getElem_cons_zero, List.getElem_cons_succ, Act.put, List.setIfInBounds_toArray, List.set_cons_zero, List.set_cons_succ]
    go_upto_region 6 with fail
    refine wp_region_lit ?_
    refine wpList_load_mid rfl 40 (.tmp 4) rfl N_HK 0 rfl [.slice A n c, .int .i64 m, .int .i64 u] _ (unhide HK).range Tryd.underlying40 rfl infoKey ?_
    try simp only [List.getElem_toArray, List.getElem_cons_zero, List.getElem_cons_succ, Act.put, List.setIfInBounds_toArray, List.set_cons_zero, List.set_cons_succ]
    go_wp2_with fail
    refine (Sign_none W6 A n c m u (unhide HKF) _).mono ?_; rintro x W7 ⟨rfl, hb⟩
    replace HT := hide ((unhide HT).keep hb)
    replace HA := hide ((unhide HA).keep hb)
    replace HMA := hide ((unhide HMA).keep hb)
    replace HK := hide ((unhide HK).keep hb)
    replace HD := hide ((unhide HD).keep hb)
    replace HB := hide (thenB (unhide HB) hb)
    clear hb
    dsimp only
    rename_i KK hK
    refine hK _ _ ?_
    clear hK KK
    refine wpList_plain rfl fun Kt hKt => ?_
    go_simp
    refine hKt _ _ ?_
    clear hKt Kt
    refine wpList_plain rfl fun Kt hKt => ?_
    go_simp
    refine hKt _ _ ?_
    clear hKt Kt
    refine wpList_plain rfl fun Kt hKt => ?_
    go_simp
    refine hKt _ _ ?_
    clear hKt Kt
    refine wpList_plain rfl fun Kt hKt => ?_
    go_simp
    refine hKt _ _ ?_
    clear hKt Kt
    refine wpList_plain rfl fun Kt hKt => ?_
    go_simp
    refine hKt _ _ ?_
    clear hKt Kt
    refine wpList_plain rfl fun Kt hKt => ?_
    go_simp
    refine hKt _ _ ?_
    clear hKt Kt
    generalize hX : W7.alloc _ = W8
    generalize hY : W8.alloc _ = W9
    have hb1 : Below W7.heap.size W7 W8 := hX ▸ (Below.refl _ _).alloc (Nat.le_refl _) _
    have hb2 : Below W8.heap.size W8 W9 := hY ▸ (Below.refl _ _).alloc (Nat.le_refl _) _
    have hz : W8.heap.size = W7.heap.size + 1 := by rw [← hX]; show (W7.heap.push _).size = _; rw [Array.size_push]
    have hv : VsAt W8 W7.heap.size 40 [.slice none 0 0, .int .i64 0, .int .i64 0] := boxedV W7 W8 _ _ (by rw [← hX]; rfl)
    have hu : VsAt W9 W8.heap.size 52 [.int .i64 0, .slice none 0 0, .slice none 0 0, .slice none 0 0] := boxedV W8 W9 _ _ (by rw [← hY]; rfl)
    rw [hz] at hu
    have HV_ := hide (hv.keep hb2); have HU_ := hide hu
    have HBB_ := hide (thenB hb1 hb2)
    obtain ⟨N_HX, hN⟩ : ∃ N, N = W7.heap.size := ⟨_, rfl⟩
    obtain ⟨N_HS, hM⟩ : ∃ N, N = W7.heap.size + 1 := ⟨_, rfl⟩
    rw [← hM] at HU_ ⊢
    rw [← hN] at HV_ ⊢
    have HNM_ : Hid (N_HX = W7.heap.size ∧ N_HS = W7.heap.size + 1) := ⟨hN, hM⟩
    clear hX hY hz hb1 hb2 hv hu hN hM
    refine wpList_vput rfl 40 (.tmp 11) (.tmp 30) rfl N_HX 0 rfl [.slice none 0 0, .int .i64 0, .int .i64 0] rfl infoKey (keyL_one _ _ _ _ _) _ _ (unhide HV_) (by simp) ?_
    intro W10 HV3_ HG3_
    have hv3 := unhide HV3_
    rw [spliceV_all _ _ (by simp)] at hv3
    have hu3 := (unhide HU_).grown (unhide HG3_) (fun e => by injection e with e; have := unhide HNM_; omega)
    have hb3 : Below W7.heap.size W7 W10 := (unhide HBB_).grown (unhide HG3_) (unhide HBB_).size (fun i e => by injection e with e; have := unhide HNM_; omega)
    have HV4_ := hide hv3; have HU4_ := hide hu3; have HBB4_ := hide hb3
    clear hv3 hu3 hb3 HV3_ HG3_ HV_ HU_ HBB_
    try simp only [List.getElem_toArray, List.getElem_cons_zero, List.getElem_cons_succ, Act.put, List.setIfInBounds_toArray, List.set_cons_zero, List.set_cons_succ]
    refine wpList_vput rfl 52 (.tmp 12) (.tmp 31) rfl N_HS 0 rfl [.int .i64 0, .slice none 0 0, .slice none 0 0, .slice none 0 0] rfl infoSig (sigL_one _ _ _ _ _ _ _ _ _ _) _ _ (unhide HU4_) (by simp) ?_
    intro W11 HV5_ HG5_
    have hu5 := unhide HV5_
    rw [spliceV_all _ _ (by simp)] at hu5
    have HX_ := hide ((unhide HV4_).grown (unhide HG5_) (fun e => by injection e with e; have := unhide HNM_; omega)); have HS_ := hide hu5
    have hb : Below W7.heap.size W7 W11 := (unhide HBB4_).grown (unhide HG5_) (unhide HBB4_).size (fun i e => by injection e with e; have := unhide HNM_; omega)
    have HNM := hide (unhide HNM_)
    clear hu5 HV5_ HG5_ HV4_ HU4_ HBB4_ HNM_
    replace HT := hide ((unhide HT).keep hb)
    replace HA := hide ((unhide HA).keep hb)
    replace HMA := hide ((unhide HMA).keep hb)
    replace HK := hide ((unhide HK).keep hb)
    replace HD := hide ((unhide HD).keep hb)
    replace HB := hide (thenB (unhide HB) hb)
    clear hb
    have HX := HX_; have HS := HS_
    clear HX_ HS_
    try simp only [List.getElem_toArray, List.getElem_cons_zero, List.getElem_cons_succ, Act.put, List.setIfInBounds_toArray, List.set_cons_zero, List.set_cons_succ]
    have e1 : W11.cell? ⟨N_HS, 1, none⟩ = some (.slice none 0 0) := (unhide HS).cell rfl
    have e2 : W11.cell? ⟨N_HS, 2, none⟩ = some (.slice none 0 0) := (unhide HS).cell rfl
    go_wp2_with fail
    go_ret
    exact ⟨rfl, unhide HB⟩
  obtain ⟨M, U, rfl, rfl, n1, n64, m1, m2, um⟩ := key_nat n m u hk hf.1
  have HKO := hide hk
  have HNN : Hid (1 ≤ n ∧ n ≤ 64 ∧ 1 ≤ M ∧ M ≤ 2 ∧ U ≤ M ∧ na ≤ 300) := ⟨n1, n64, m1, m2, um, hf.2.2⟩
  obtain ⟨T, hT⟩ : ∃ t, t = treeP (pubsS seed M) := ⟨_, rfl⟩
  have hgT : Dg T := hT ▸ dg_tree _
  obtain ⟨ct, hct⟩ : ∃ cs, cs = (T.map (Value.int .u8)).toArray := ⟨_, rfl⟩
  have hst : ct.size = 32 := by rw [hct]; simpa using hgT.len
  have HTT := hide hT; have HGT := hide hgT; have HCT := hide hct
  clear hT hgT hct hk n1 n64 m1 m2 um hf
  go_upto_region 5 with fail
  refine wp_region_lit ?_
  refine wpList_load_mid rfl 40 (.tmp 4) rfl N_HK 0 rfl [.slice A n c, .int .i64 (M : Int), .int .i64 (U : Int)] _ (unhide HK).range Tryd.underlying40 rfl infoKey ?_
  try simp only [List.getElem_toArray, List.getElem_cons_zero, List.getElem_cons_succ, Act.put, List.setIfInBounds_toArray, List.set_cons_zero, List.set_cons_succ]
  go_wp2_with fail
  have hpu := Public_some W3 A n c seed (unhide HN).1 (unhide HN).2 (unhide HA) M (U : Int) (unhide HKO) T (unhide HTT) (unhide HT)
  rw [show dv T = .agg ct by rw [unhide HCT]] at hpu
  refine hpu.mono ?_; rintro x W4 ⟨rfl, hb⟩
  clear hpu
  replace HT := hide ((unhide HT).keep hb)
  replace HA := hide ((unhide HA).keep hb)
  replace HMA := hide ((unhide HMA).keep hb)
  replace HK := hide ((unhide HK).keep hb)
  replace HB := hide (thenB (unhide HB) hb)
  clear hb
  dsimp only
  rename_i KK hK
  refine hK _ _ ?_
  clear hK KK
  refine wpList_plain rfl fun Kt hKt => ?_
  go_simp
  refine hKt _ _ ?_
  clear hKt Kt
  refine wpList_plain rfl fun Kt hKt => ?_
  go_simp
  refine hKt _ _ ?_
  clear hKt Kt
  refine wpList_plain rfl fun Kt hKt => ?_
  go_simp
  refine hKt _ _ ?_
  clear hKt Kt
  refine wpList_plain rfl fun Kt hKt => ?_
  go_simp
  refine hKt _ _ ?_
  clear hKt Kt
  generalize hX : W4.alloc _ = W5
  have hb : Below W4.heap.size W4 W5 := hX ▸ (Below.refl _ _).alloc (Nat.le_refl _) _
  have HZ_ := hide (newBy W4 W5 (by rw [← hX]; rfl))
  have HBB_ := hide hb
  clear hX hb
  refine wpList_bstore rfl 24 (.tmp 9) (.tmp 24) rfl W4.heap.size rfl T (show Value.agg ct = _ by rw [unhide HCT]) 32 info32 (unhide HGT).len _ zeros (unhide HZ_) rfl ?_
  intro W6 HV_ HG_
  have hv := unhide HV_
  have hb : Below W4.heap.size W4 W6 := (unhide HBB_).grown (unhide HG_) (unhide HBB_).size (fun i e => by injection e with e; omega)
  obtain ⟨N_HD, hN⟩ : ∃ N, N = W4.heap.size := ⟨_, rfl⟩
  rw [← hN] at hv ⊢
  have HD_ := hide hv
  clear hN hv HV_ HG_ HZ_ HBB_
  replace HT := hide ((unhide HT).keep hb)
  replace HA := hide ((unhide HA).keep hb)
  replace HMA := hide ((unhide HMA).keep hb)
  replace HK := hide ((unhide HK).keep hb)
  replace HB := hide (thenB (unhide HB) hb)
  clear hb
  have HD := HD_
  clear HD_
  try simp only [List.getElem_toArray, List.getElem_cons_zero, List.getElem_cons_succ, Act.put, List.setIfInBounds_toArray, List.set_cons_zero, List.set_cons_succ]
  by_cases hUM : U = M
  case pos =>
    subst hUM
    go_upto_region 6 with fail
    refine wp_region_lit ?_
    refine wpList_load_mid rfl 40 (.tmp 4) rfl N_HK 0 rfl [.slice A n c, .int .i64 (U : Int), .int .i64 (U : Int)] _ (unhide HK).range Tryd.underlying40 rfl infoKey ?_
    try simp only [List.getElem_toArray, List.getElem_cons_zero, List.getElem_cons_succ, Act.put, List.setIfInBounds_toArray, List.set_cons_zero, List.set_cons_succ]
    go_wp2_with fail
    refine (Sign_no W6 A n c (U : Int) (unhide HKO) Aa na ca (by have := unhide HNN; omega)).mono ?_; rintro x W7 ⟨rfl, hb⟩
    replace HT := hide ((unhide HT).keep hb)
    replace HA := hide ((unhide HA).keep hb)
    replace HMA := hide ((unhide HMA).keep hb)
    replace HK := hide ((unhide HK).keep hb)
    replace HD := hide ((unhide HD).keep hb)
    replace HB := hide (thenB (unhide HB) hb)
    clear hb
    dsimp only
    rename_i KK hK
    refine hK _ _ ?_
    clear hK KK
    refine wpList_plain rfl fun Kt hKt => ?_
    go_simp
    refine hKt _ _ ?_
    clear hKt Kt
    refine wpList_plain rfl fun Kt hKt => ?_
    go_simp
    refine hKt _ _ ?_
    clear hKt Kt
    refine wpList_plain rfl fun Kt hKt => ?_
    go_simp
    refine hKt _ _ ?_
    clear hKt Kt
    refine wpList_plain rfl fun Kt hKt => ?_
    go_simp
    refine hKt _ _ ?_
    clear hKt Kt
    refine wpList_plain rfl fun Kt hKt => ?_
    go_simp
    refine hKt _ _ ?_
    clear hKt Kt
    refine wpList_plain rfl fun Kt hKt => ?_
    go_simp
    refine hKt _ _ ?_
    clear hKt Kt
    generalize hX : W7.alloc _ = W8
    generalize hY : W8.alloc _ = W9
    have hb1 : Below W7.heap.size W7 W8 := hX ▸ (Below.refl _ _).alloc (Nat.le_refl _) _
    have hb2 : Below W8.heap.size W8 W9 := hY ▸ (Below.refl _ _).alloc (Nat.le_refl _) _
    have hz : W8.heap.size = W7.heap.size + 1 := by rw [← hX]; show (W7.heap.push _).size = _; rw [Array.size_push]
    have hv : VsAt W8 W7.heap.size 40 [.slice none 0 0, .int .i64 0, .int .i64 0] := boxedV W7 W8 _ _ (by rw [← hX]; rfl)
    have hu : VsAt W9 W8.heap.size 52 [.int .i64 0, .slice none 0 0, .slice none 0 0, .slice none 0 0] := boxedV W8 W9 _ _ (by rw [← hY]; rfl)
    rw [hz] at hu
    have HV_ := hide (hv.keep hb2); have HU_ := hide hu
    have HBB_ := hide (thenB hb1 hb2)
    obtain ⟨N_HX, hN⟩ : ∃ N, N = W7.heap.size := ⟨_, rfl⟩
    obtain ⟨N_HS, hM⟩ : ∃ N, N = W7.heap.size + 1 := ⟨_, rfl⟩
    rw [← hM] at HU_ ⊢
    rw [← hN] at HV_ ⊢
    have HNM_ : Hid (N_HX = W7.heap.size ∧ N_HS = W7.heap.size + 1) := ⟨hN, hM⟩
    clear hX hY hz hb1 hb2 hv hu hN hM
    refine wpList_vput rfl 40 (.tmp 11) (.tmp 30) rfl N_HX 0 rfl [.slice none 0 0, .int .i64 0, .int .i64 0] rfl infoKey (keyL_one _ _ _ _ _) _ _ (unhide HV_) (by simp) ?_
    intro W10 HV3_ HG3_
    have hv3 := unhide HV3_
    rw [spliceV_all _ _ (by simp)] at hv3
    have hu3 := (unhide HU_).grown (unhide HG3_) (fun e => by injection e with e; have := unhide HNM_; omega)
    have hb3 : Below W7.heap.size W7 W10 := (unhide HBB_).grown (unhide HG3_) (unhide HBB_).size (fun i e => by injection e with e; have := unhide HNM_; omega)
    have HV4_ := hide hv3; have HU4_ := hide hu3; have HBB4_ := hide hb3
    clear hv3 hu3 hb3 HV3_ HG3_ HV_ HU_ HBB_
    try simp only [List.getElem_toArray, List.getElem_cons_zero, List.getElem_cons_succ, Act.put, List.setIfInBounds_toArray, List.set_cons_zero, List.set_cons_succ]
    refine wpList_vput rfl 52 (.tmp 12) (.tmp 31) rfl N_HS 0 rfl [.int .i64 0, .slice none 0 0, .slice none 0 0, .slice none 0 0] rfl infoSig (sigL_one _ _ _ _ _ _ _ _ _ _) _ _ (unhide HU4_) (by simp) ?_
    intro W11 HV5_ HG5_
    have hu5 := unhide HV5_
    rw [spliceV_all _ _ (by simp)] at hu5
    have HX_ := hide ((unhide HV4_).grown (unhide HG5_) (fun e => by injection e with e; have := unhide HNM_; omega)); have HS_ := hide hu5
    have hb : Below W7.heap.size W7 W11 := (unhide HBB4_).grown (unhide HG5_) (unhide HBB4_).size (fun i e => by injection e with e; have := unhide HNM_; omega)
    have HNM := hide (unhide HNM_)
    clear hu5 HV5_ HG5_ HV4_ HU4_ HBB4_ HNM_
    replace HT := hide ((unhide HT).keep hb)
    replace HA := hide ((unhide HA).keep hb)
    replace HMA := hide ((unhide HMA).keep hb)
    replace HK := hide ((unhide HK).keep hb)
    replace HD := hide ((unhide HD).keep hb)
    replace HB := hide (thenB (unhide HB) hb)
    clear hb
    have HX := HX_; have HS := HS_
    clear HX_ HS_
    try simp only [List.getElem_toArray, List.getElem_cons_zero, List.getElem_cons_succ, Act.put, List.setIfInBounds_toArray, List.set_cons_zero, List.set_cons_succ]
    have e1 : W11.cell? ⟨N_HS, 1, none⟩ = some (.slice none 0 0) := (unhide HS).cell rfl
    have e2 : W11.cell? ⟨N_HS, 2, none⟩ = some (.slice none 0 0) := (unhide HS).cell rfl
    go_wp2_with fail
    go_ret
    exact ⟨rfl, unhide HB⟩
  obtain ⟨u1, hu1⟩ : ∃ x, x = U + 1 := ⟨_, rfl⟩
  obtain ⟨bs, hbs⟩ : ∃ b, b = bitsS T U ma := ⟨_, rfl⟩
  obtain ⟨p, hp⟩ : ∃ x, x = (pathP (pubsS seed M) U).length := ⟨_, rfl⟩
  have HU1 := hide hu1; have HBS := hide hbs; have HPN := hide hp; have HUM := hide hUM
  clear hu1 hbs hp hUM
  go_upto_region 6 with fail
  refine wp_region_lit ?_
  refine wpList_load_mid rfl 40 (.tmp 4) rfl N_HK 0 rfl [.slice A n c, .int .i64 (M : Int), .int .i64 (U : Int)] _ (unhide HK).range Tryd.underlying40 rfl infoKey ?_
  try simp only [List.getElem_toArray, List.getElem_cons_zero, List.getElem_cons_succ, Act.put, List.setIfInBounds_toArray, List.set_cons_zero, List.set_cons_succ]
  go_wp2_with fail
  refine (Sign_some W6 A n c seed (unhide HN).1 (unhide HN).2 (unhide HA) M U u1 (unhide HU1) (unhide HKO) (by have := unhide HNN; have := unhide HUM; omega) Aa na ca ma (unhide HNA).1 (unhide HNA).2.1 (unhide HMA) (unhide HNA).2.2 (by have := unhide HNN; omega) T (unhide HTT) bs (unhide HBS) p (unhide HPN) (unhide HT)).mono ?_; rintro x W7 ⟨A1, c1, A2, c2, A3, c3, rfl, ho, hcl, hpl, hp, hq, hb⟩
  replace HT := hide ((unhide HT).keep hb)
  replace HA := hide ((unhide HA).keep hb)
  replace HMA := hide ((unhide HMA).keep hb)
  replace HK := hide ((unhide HK).keep hb)
  replace HD := hide ((unhide HD).keep hb)
  replace HB := hide (thenB (unhide HB) hb)
  clear hb
  have HOk := hide ho; have HCk := hide hcl; have HPk := hide hp; have HPL : Hid (p ≤ c3 ∧ (A3 = none → c3 = 0)) := ⟨hpl, hq⟩
  have HBk : Hid (Below W7.heap.size W7 W7) := Below.refl _ _
  clear ho hcl hp hpl hq
  have HWK : Hid (w.heap.size ≤ W7.heap.size) := (unhide HB).size
  dsimp only
  rename_i KK hK
  refine hK _ _ ?_
  clear hK KK
  refine wpList_plain rfl fun Kt hKt => ?_
  go_simp
  refine hKt _ _ ?_
  clear hKt Kt
  refine wpList_plain rfl fun Kt hKt => ?_
  go_simp
  refine hKt _ _ ?_
  clear hKt Kt
  refine wpList_plain rfl fun Kt hKt => ?_
  go_simp
  refine hKt _ _ ?_
  clear hKt Kt
  refine wpList_plain rfl fun Kt hKt => ?_
  go_simp
  refine hKt _ _ ?_
  clear hKt Kt
  refine wpList_plain rfl fun Kt hKt => ?_
  go_simp
  refine hKt _ _ ?_
  clear hKt Kt
  refine wpList_plain rfl fun Kt hKt => ?_
  go_simp
  refine hKt _ _ ?_
  clear hKt Kt
  generalize hX : W7.alloc _ = W8
  generalize hY : W8.alloc _ = W9
  have hb1 : Below W7.heap.size W7 W8 := hX ▸ (Below.refl _ _).alloc (Nat.le_refl _) _
  have hb2 : Below W8.heap.size W8 W9 := hY ▸ (Below.refl _ _).alloc (Nat.le_refl _) _
  have hz : W8.heap.size = W7.heap.size + 1 := by rw [← hX]; show (W7.heap.push _).size = _; rw [Array.size_push]
  have hv : VsAt W8 W7.heap.size 40 [.slice none 0 0, .int .i64 0, .int .i64 0] := boxedV W7 W8 _ _ (by rw [← hX]; rfl)
  have hu : VsAt W9 W8.heap.size 52 [.int .i64 0, .slice none 0 0, .slice none 0 0, .slice none 0 0] := boxedV W8 W9 _ _ (by rw [← hY]; rfl)
  rw [hz] at hu
  have HV_ := hide (hv.keep hb2); have HU_ := hide hu
  have HBB_ := hide (thenB hb1 hb2)
  obtain ⟨N_HX, hN⟩ : ∃ N, N = W7.heap.size := ⟨_, rfl⟩
  obtain ⟨N_HS, hM⟩ : ∃ N, N = W7.heap.size + 1 := ⟨_, rfl⟩
  rw [← hM] at HU_ ⊢
  rw [← hN] at HV_ ⊢
  have HNM_ : Hid (N_HX = W7.heap.size ∧ N_HS = W7.heap.size + 1) := ⟨hN, hM⟩
  clear hX hY hz hb1 hb2 hv hu hN hM
  refine wpList_vput rfl 40 (.tmp 11) (.tmp 30) rfl N_HX 0 rfl [.slice A n c, .int .i64 (M : Int), .int .i64 (u1 : Int)] rfl infoKey (keyL_one _ _ _ _ _) _ _ (unhide HV_) (by simp) ?_
  intro W10 HV3_ HG3_
  have hv3 := unhide HV3_
  rw [spliceV_all _ _ (by simp)] at hv3
  have hu3 := (unhide HU_).grown (unhide HG3_) (fun e => by injection e with e; have := unhide HNM_; omega)
  have hb3 : Below W7.heap.size W7 W10 := (unhide HBB_).grown (unhide HG3_) (unhide HBB_).size (fun i e => by injection e with e; have := unhide HNM_; omega)
  have HV4_ := hide hv3; have HU4_ := hide hu3; have HBB4_ := hide hb3
  clear hv3 hu3 hb3 HV3_ HG3_ HV_ HU_ HBB_
  try simp only [List.getElem_toArray, List.getElem_cons_zero, List.getElem_cons_succ, Act.put, List.setIfInBounds_toArray, List.set_cons_zero, List.set_cons_succ]
  refine wpList_vput rfl 52 (.tmp 12) (.tmp 31) rfl N_HS 0 rfl [.int .i64 (U : Int), .slice A1 64 c1, .slice A2 64 c2, .slice A3 p c3] rfl infoSig (sigL_one _ _ _ _ _ _ _ _ _ _) _ _ (unhide HU4_) (by simp) ?_
  intro W11 HV5_ HG5_
  have hu5 := unhide HV5_
  rw [spliceV_all _ _ (by simp)] at hu5
  have HX_ := hide ((unhide HV4_).grown (unhide HG5_) (fun e => by injection e with e; have := unhide HNM_; omega)); have HS_ := hide hu5
  have hb : Below W7.heap.size W7 W11 := (unhide HBB4_).grown (unhide HG5_) (unhide HBB4_).size (fun i e => by injection e with e; have := unhide HNM_; omega)
  have HNM := hide (unhide HNM_)
  clear hu5 HV5_ HG5_ HV4_ HU4_ HBB4_ HNM_
  replace HT := hide ((unhide HT).keep hb)
  replace HA := hide ((unhide HA).keep hb)
  replace HMA := hide ((unhide HMA).keep hb)
  replace HK := hide ((unhide HK).keep hb)
  replace HD := hide ((unhide HD).keep hb)
  replace HB := hide (thenB (unhide HB) hb)
  replace HBk := hide (thenB (unhide HBk) hb)
  clear hb
  have HX := HX_; have HS := HS_
  clear HX_ HS_
  try simp only [List.getElem_toArray, List.getElem_cons_zero, List.getElem_cons_succ, Act.put, List.setIfInBounds_toArray, List.set_cons_zero, List.set_cons_succ]
  have e0 : W11.cell? ⟨N_HS, 0, none⟩ = some (.int .i64 (U : Int)) := (unhide HS).cell rfl
  have e1 : W11.cell? ⟨N_HS, 1, none⟩ = some (.slice A1 64 c1) := (unhide HS).cell rfl
  have e2 : W11.cell? ⟨N_HS, 2, none⟩ = some (.slice A2 64 c2) := (unhide HS).cell rfl
  have e3 : W11.cell? ⟨N_HK, 1, none⟩ = some (.int .i64 (M : Int)) := (unhide HK).cell rfl
  have q0 := (unhide HS).free 0
  have q1 := (unhide HS).free 1
  have q2 := (unhide HS).free 2
  have hne : N_HD ≠ N_HS := fun e => by have h1 := unhide HD; have h2 := unhide HS; rw [e] at h1; unfold ByAt at h1; unfold VsAt at h2; rw [h1] at h2; simp at h2
  have hcap : (64 : Int) ≤ (c1 : Int) := by have := (unhide HOk).cap; omega
  have hcap3 : (63 : Int) ≤ (c1 : Int) := by omega
  have HLOW : Hid (w.heap.size ≤ N_HS ∧ N_HD ≠ N_HS) := ⟨by have := unhide HNM; have := unhide HWK; omega, hne⟩
  have w3 : wrap64 ((M : Int) + max 0 (min n' 1000)) = (M : Int) + max 0 (min n' 1000) := by unfold wrap64; have := unhide HNN; omega
  have w4 : wrap64 (-1 - max 0 (min n' 1000)) = -1 - max 0 (min n' 1000) := by unfold wrap64; omega
  have w6 : wrap64 (4097 + max 0 (min n' 1000)) = 4097 + max 0 (min n' 1000) := by unfold wrap64; omega
  clear hne hcap
  by_cases h0 : how = 0
  · subst h0
    go_upto_region 26 with fail
    generalize hX : W11.setCell _ _ = Z1
    have hv := (unhide HS).set 1 (.slice A1 63 c1)
    rw [hX] at hv
    have HZS := hide (show VsAt Z1 N_HS 52 [.int .i64 (U : Int), .slice A1 63 c1, .slice A2 64 c2, .slice A3 p c3] from hv)
    have HZD := hide (show ByAt Z1 N_HD 24 T from hX ▸ (vs_set (o := 1) (u := .slice A1 63 c1) (unhide HD).vs (unhide HLOW).2 : VsAt _ N_HD 24 _))
    have HZ1 := hide (show Below w.heap.size w Z1 from hX ▸ (unhide HB).setCell (p := ⟨N_HS, 1, none⟩) (unhide HLOW).1 _)
    clear hX hv
    refine wp_region_lit ?_
    refine wpList_gload (by kernel_rfl) 24 (.tmp 9) rfl N_HD rfl _ Tryd.underlying24 rfl 32 info32 _ T (unhide HZD) (unhide HGT).len ?_
    rw [show dv T = .agg ct by rw [unhide HCT]]
    try simp only [List.getElem_toArray, List.getElem_cons_zero, List.getElem_cons_succ, Act.put, List.setIfInBounds_toArray, List.set_cons_zero, List.set_cons_succ]
    refine wpList_wanted (by kernel_rfl) fun Kt hKt => ?_
    go_simp
    refine hKt _ _ ?_
    clear hKt Kt
    refine wpList_wanted (by kernel_rfl) fun Kt hKt => ?_
    go_simp
    refine hKt _ _ ?_
    clear hKt Kt
    refine wpList_vgload (by kernel_rfl) 52 (.tmp 12) rfl N_HS rfl _ Tryd.underlying52 rfl _ [.int .i64 (U : Int), .slice A1 63 c1, .slice A2 64 c2, .slice A3 p c3] infoSig (unhide HZS) ?_
    try simp only [List.getElem_toArray, List.getElem_cons_zero, List.getElem_cons_succ, Act.put, List.setIfInBounds_toArray, List.set_cons_zero, List.set_cons_succ]
    have hve := Verify_no Z1 T (unhide HGT) (M : Int) (U : Int) Aa na ca A1 63 c1 A2 64 c2 A3 p c3 (.inr (.inr (.inr (.inr (.inl (by decide))))))
    rw [show dv T = .agg ct by rw [unhide HCT]] at hve
    go_wp2_with fail
    refine hve.mono ?_; rintro x Z9 ⟨rfl, hb⟩
    have HZB := hide (thenB (unhide HZ1) hb)
    clear hve hb
    go_wp2_with fail
    go_ret
    exact ⟨rfl, unhide HZB⟩
  by_cases h3 : how = 3
  · subst h3
    go_upto_region 26 with fail
    rw [w3]
    generalize hX : W11.setCell _ _ = Z1
    have hv := (unhide HS).set 0 (.int .i64 ((M : Int) + max 0 (min n' 1000)))
    rw [hX] at hv
    have HZS := hide (show VsAt Z1 N_HS 52 [.int .i64 ((M : Int) + max 0 (min n' 1000)), .slice A1 64 c1, .slice A2 64 c2, .slice A3 p c3] from hv)
    have HZD := hide (show ByAt Z1 N_HD 24 T from hX ▸ (vs_set (o := 0) (u := .int .i64 ((M : Int) + max 0 (min n' 1000))) (unhide HD).vs (unhide HLOW).2 : VsAt _ N_HD 24 _))
    have HZ1 := hide (show Below w.heap.size w Z1 from hX ▸ (unhide HB).setCell (p := ⟨N_HS, 0, none⟩) (unhide HLOW).1 _)
    clear hX hv
    refine wp_region_lit ?_
    refine wpList_gload (by kernel_rfl) 24 (.tmp 9) rfl N_HD rfl _ Tryd.underlying24 rfl 32 info32 _ T (unhide HZD) (unhide HGT).len ?_
    rw [show dv T = .agg ct by rw [unhide HCT]]
    try simp only [List.getElem_toArray, List.getElem_cons_zero, List.getElem_cons_succ, Act.put, List.setIfInBounds_toArray, List.set_cons_zero, List.set_cons_succ]
    refine wpList_wanted (by kernel_rfl) fun Kt hKt => ?_
    go_simp
    refine hKt _ _ ?_
    clear hKt Kt
    refine wpList_wanted (by kernel_rfl) fun Kt hKt => ?_
    go_simp
    refine hKt _ _ ?_
    clear hKt Kt
    refine wpList_vgload (by kernel_rfl) 52 (.tmp 12) rfl N_HS rfl _ Tryd.underlying52 rfl _ [.int .i64 ((M : Int) + max 0 (min n' 1000)), .slice A1 64 c1, .slice A2 64 c2, .slice A3 p c3] infoSig (unhide HZS) ?_
    try simp only [List.getElem_toArray, List.getElem_cons_zero, List.getElem_cons_succ, Act.put, List.setIfInBounds_toArray, List.set_cons_zero, List.set_cons_succ]
    have hve := Verify_no Z1 T (unhide HGT) (M : Int) ((M : Int) + max 0 (min n' 1000)) Aa na ca A1 64 c1 A2 64 c2 A3 p c3 (.inr (.inr (.inr (.inl (by omega)))))
    rw [show dv T = .agg ct by rw [unhide HCT]] at hve
    go_wp2_with fail
    refine hve.mono ?_; rintro x Z9 ⟨rfl, hb⟩
    have HZB := hide (thenB (unhide HZ1) hb)
    clear hve hb
    go_wp2_with fail
    go_ret
    exact ⟨rfl, unhide HZB⟩
  by_cases h4 : how = 4
  · subst h4
    go_upto_region 26 with fail
    generalize hX : W11.setCell _ _ = Z1
    have hv := (unhide HS).set 0 (.int .i64 (-1 - max 0 (min n' 1000)))
    rw [hX] at hv
    have HZS := hide (show VsAt Z1 N_HS 52 [.int .i64 (-1 - max 0 (min n' 1000)), .slice A1 64 c1, .slice A2 64 c2, .slice A3 p c3] from hv)
    have HZD := hide (show ByAt Z1 N_HD 24 T from hX ▸ (vs_set (o := 0) (u := .int .i64 (-1 - max 0 (min n' 1000))) (unhide HD).vs (unhide HLOW).2 : VsAt _ N_HD 24 _))
    have HZ1 := hide (show Below w.heap.size w Z1 from hX ▸ (unhide HB).setCell (p := ⟨N_HS, 0, none⟩) (unhide HLOW).1 _)
    clear hX hv
    refine wp_region_lit ?_
    refine wpList_gload (by kernel_rfl) 24 (.tmp 9) rfl N_HD rfl _ Tryd.underlying24 rfl 32 info32 _ T (unhide HZD) (unhide HGT).len ?_
    rw [show dv T = .agg ct by rw [unhide HCT]]
    try simp only [List.getElem_toArray, List.getElem_cons_zero, List.getElem_cons_succ, Act.put, List.setIfInBounds_toArray, List.set_cons_zero, List.set_cons_succ]
    refine wpList_wanted (by kernel_rfl) fun Kt hKt => ?_
    go_simp
    refine hKt _ _ ?_
    clear hKt Kt
    refine wpList_wanted (by kernel_rfl) fun Kt hKt => ?_
    go_simp
    refine hKt _ _ ?_
    clear hKt Kt
    refine wpList_vgload (by kernel_rfl) 52 (.tmp 12) rfl N_HS rfl _ Tryd.underlying52 rfl _ [.int .i64 (-1 - max 0 (min n' 1000)), .slice A1 64 c1, .slice A2 64 c2, .slice A3 p c3] infoSig (unhide HZS) ?_
    try simp only [List.getElem_toArray, List.getElem_cons_zero, List.getElem_cons_succ, Act.put, List.setIfInBounds_toArray, List.set_cons_zero, List.set_cons_succ]
    have hve := Verify_no Z1 T (unhide HGT) (M : Int) (-1 - max 0 (min n' 1000)) Aa na ca A1 64 c1 A2 64 c2 A3 p c3 (.inr (.inr (.inl (by omega))))
    rw [show dv T = .agg ct by rw [unhide HCT]] at hve
    go_wp2_with fail
    refine hve.mono ?_; rintro x Z9 ⟨rfl, hb⟩
    have HZB := hide (thenB (unhide HZ1) hb)
    clear hve hb
    go_wp2_with fail
    go_ret
    exact ⟨rfl, unhide HZB⟩
  by_cases h5 : how = 5
  · subst h5
    go_upto_region 26 with fail
    refine wp_region_lit ?_
    refine wpList_gload (by kernel_rfl) 24 (.tmp 9) rfl N_HD rfl _ Tryd.underlying24 rfl 32 info32 _ T (unhide HD) (unhide HGT).len ?_
    rw [show dv T = .agg ct by rw [unhide HCT]]
    try simp only [List.getElem_toArray, List.getElem_cons_zero, List.getElem_cons_succ, Act.put, List.setIfInBounds_toArray, List.set_cons_zero, List.set_cons_succ]
    refine wpList_wanted (by kernel_rfl) fun Kt hKt => ?_
    go_simp
    refine hKt _ _ ?_
    clear hKt Kt
    refine wpList_wanted (by kernel_rfl) fun Kt hKt => ?_
    go_simp
    refine hKt _ _ ?_
    clear hKt Kt
    refine wpList_vgload (by kernel_rfl) 52 (.tmp 12) rfl N_HS rfl _ Tryd.underlying52 rfl _ [.int .i64 (U : Int), .slice A1 64 c1, .slice A2 64 c2, .slice A3 p c3] infoSig (unhide HS) ?_
    try simp only [List.getElem_toArray, List.getElem_cons_zero, List.getElem_cons_succ, Act.put, List.setIfInBounds_toArray, List.set_cons_zero, List.set_cons_succ]
    have hve := Verify_no W11 T (unhide HGT) (-max 0 (min n' 1000)) (U : Int) Aa na ca A1 64 c1 A2 64 c2 A3 p c3 (.inl (by omega))
    rw [show dv T = .agg ct by rw [unhide HCT]] at hve
    go_wp2_with fail
    refine hve.mono ?_; rintro x Z9 ⟨rfl, hb⟩
    have HZB := hide (thenB (unhide HB) hb)
    clear hve hb
    go_wp2_with fail
    go_ret
    exact ⟨rfl, unhide HZB⟩
  by_cases h6 : how = 6
  · subst h6
    go_upto_region 26 with fail
    refine wp_region_lit ?_
    refine wpList_gload (by kernel_rfl) 24 (.tmp 9) rfl N_HD rfl _ Tryd.underlying24 rfl 32 info32 _ T (unhide HD) (unhide HGT).len ?_
    rw [show dv T = .agg ct by rw [unhide HCT]]
    try simp only [List.getElem_toArray, List.getElem_cons_zero, List.getElem_cons_succ, Act.put, List.setIfInBounds_toArray, List.set_cons_zero, List.set_cons_succ]
    refine wpList_wanted (by kernel_rfl) fun Kt hKt => ?_
    go_simp
    refine hKt _ _ ?_
    clear hKt Kt
    refine wpList_wanted (by kernel_rfl) fun Kt hKt => ?_
    go_simp
    refine hKt _ _ ?_
    clear hKt Kt
    refine wpList_vgload (by kernel_rfl) 52 (.tmp 12) rfl N_HS rfl _ Tryd.underlying52 rfl _ [.int .i64 (U : Int), .slice A1 64 c1, .slice A2 64 c2, .slice A3 p c3] infoSig (unhide HS) ?_
    try simp only [List.getElem_toArray, List.getElem_cons_zero, List.getElem_cons_succ, Act.put, List.setIfInBounds_toArray, List.set_cons_zero, List.set_cons_succ]
    have hve := Verify_no W11 T (unhide HGT) (4097 + max 0 (min n' 1000)) (U : Int) Aa na ca A1 64 c1 A2 64 c2 A3 p c3 (.inr (.inl (by omega)))
    rw [show dv T = .agg ct by rw [unhide HCT]] at hve
    go_wp2_with fail
    refine hve.mono ?_; rintro x Z9 ⟨rfl, hb⟩
    have HZB := hide (thenB (unhide HB) hb)
    clear hve hb
    go_wp2_with fail
    go_ret
    exact ⟨rfl, unhide HZB⟩
  have HPB : Hid (p ≤ 1000) := by have h1 := (pathP_spec M (pubsS seed M) U (pubsS_length seed M) (by have := unhide HNN; have := unhide HUM; omega)).1; have h2 := lenP_le 1 M U (by have := unhide HNN; omega) (by have := unhide HNN; omega) (by have := unhide HNN; have := unhide HUM; omega); have := unhide HPN; exact (by omega : p ≤ 1000)
  by_cases h1 : how = 1
  · subst h1
    go_wp2_with fail
    obtain ⟨W, hW⟩ : ∃ W, W = W11.drewN 1 := ⟨_, rfl⟩
    have HW : Hid (W = W11.drewN 1) := hW
    have hb := below_named HW
    clear hW e0 e1 e2 e3 q0 q1 q2 w3 w4 w6
    replace HT := hide ((unhide HT).keep hb)
    replace HA := hide ((unhide HA).keep hb)
    replace HMA := hide ((unhide HMA).keep hb)
    replace HK := hide ((unhide HK).keep hb)
    replace HD := hide ((unhide HD).keep hb)
    replace HX := hide ((unhide HX).keep hb)
    replace HS := hide ((unhide HS).keep hb)
    replace HB := hide (thenB (unhide HB) hb)
    replace HBk := hide (thenB (unhide HBk) hb)
    clear hb
    have hB0 : Below W.heap.size W W := Below.refl _ _
    have hSD : ByAt W N_HD 24 T := unhide HD
    refine held (S := fun V => ByAt V N_HD 24 T) W HW (by kernel_rfl) ?_
    refine wpAnyH_take (i := 1) (v := ?_) rfl (by kernel_rfl) (by kernel_rfl) (by kernel_rfl) (fun _ _ _ h => h) (Or.inl ⟨by kernel_rfl, ?_⟩) (by assumption) ?_
    rotate_left
    · intro Wt hSt
      go_simp
      try with_reducible rfl
    try simp only [List.getElem_toArray, List.getElem_cons_zero, List.getElem_cons_succ, Act.put, List.setIfInBounds_toArray, List.set_cons_zero, List.set_cons_succ]
    refine wpAnyH_take (i := 4) (v := .agg ct) rfl (by kernel_rfl) (by kernel_rfl) (by kernel_rfl) (fun _ _ _ h => h) (by rw [unhide HCT]; exact yieldsIf_load_mid (by kernel_rfl) 24 (.tmp 9) rfl N_HD 0 rfl (T.map (Value.int .u8)) _ (fun W hS => ByAt.range hS) Tryd.underlying24 rfl (by rw [List.length_map, (unhide HGT).len]; exact info32)) (by assumption) ?_
    try simp only [List.getElem_toArray, List.getElem_cons_zero, List.getElem_cons_succ, Act.put, List.setIfInBounds_toArray, List.set_cons_zero, List.set_cons_succ]
    refine wpAnyH_all (show Region.ready .any _ _ = [0, 2, 5] by kernel_rfl) (by simp) fun x hx => ?_
    rcases (by simpa using hx : x = 0 ∨ x = 2 ∨ x = 5) with rfl | rfl | rfl
    · clear hx
      refine wpOp_one 0 _ rfl (by kernel_rfl) fun K hK => ?_
      go_simp
      generalize hX1 : W.alloc _ = V_1
      have hb1 : Below W.heap.size W V_1 := hX1 ▸ (Below.refl _ _).alloc (Nat.le_refl _) _
      have hn1 : OwnD V_1 W.heap.size (.slice (some ⟨W.heap.size, 0, none⟩) 0 0) [] := hX1 ▸ World.ownsRow_lit W #[] 0 hB0.size (Nat.zero_le _) rfl
      have hB1 := thenB hB0 hb1
      clear hX1
      refine hK _ _ ⟨((unhide HD).keep hB1), ?_⟩
      clear hK K
      try simp only [List.getElem_toArray, List.getElem_cons_zero, List.getElem_cons_succ, Act.put, List.setIfInBounds_toArray, List.set_cons_zero, List.set_cons_succ]
      refine wpAnyH_all (show Region.ready .any _ _ = [2, 5] by kernel_rfl) (by simp) fun x hx => ?_
      rcases (by simpa using hx : x = 2 ∨ x = 5) with rfl | rfl
      · clear hx
        refine wpOp_one 2 _ rfl (by kernel_rfl) fun K hK => ?_
        have hcl2 := ((unhide HS).keep hB1).cell (j := 2) rfl
        go_simp
        refine hK _ _ ⟨((unhide HD).keep hB1), ?_⟩
        clear hK K
        try simp only [List.getElem_toArray, List.getElem_cons_zero, List.getElem_cons_succ, Act.put, List.setIfInBounds_toArray, List.set_cons_zero, List.set_cons_succ]
        refine wpAnyH_all (show Region.ready .any _ _ = [3, 5] by kernel_rfl) (by simp) fun x hx => ?_
        rcases (by simpa using hx : x = 3 ∨ x = 5) with rfl | rfl
        · clear hx
          refine wpOp_one 3 _ rfl (by kernel_rfl) fun K hK => ?_
          obtain ⟨v3, V_3, hr3, ho3, hg3, hob3⟩ := append_many hn1 26 A2 c2 (((unhide HCk).keep (thenB (unhide HBk) hB1)).at_) (fun e => by have h := (unhide HCk).at_.at_ (fun e => by have := closedS_length seed U bs 64; rw [e] at this; simp at this); obtain ⟨b, o', h1, _⟩ := h; rw [e] at h1; cases h1) (by rw [closedS_length]; have := unhide HPB; simp only [List.length_nil]; omega) hB1.size
          rw [closedS_length] at hr3
          rw [List.nil_append] at ho3
          have hB3 := grown_below hB1 hg3 (fun k hk => (hn1.lt k hk).1)
          refine wp_append (.tmp 77) (.tmp 79) 26 rfl _ _ v3 V_3 rfl rfl hr3 ?_
          refine hK _ _ ⟨((unhide HD).keep hB3), ?_⟩
          clear hK K
          try simp only [List.getElem_toArray, List.getElem_cons_zero, List.getElem_cons_succ, Act.put, List.setIfInBounds_toArray, List.set_cons_zero, List.set_cons_succ]
          refine wpAnyH_one 5 _ rfl (by kernel_rfl) (by kernel_rfl) ?_
          intro K hK
          go_simp
          rw [overwritten hst (by rfl)]
          generalize hX4 : V_3.alloc _ = V_4
          have hb4 : Below V_3.heap.size V_3 V_4 := hX4 ▸ (Below.refl _ _).alloc (Nat.le_refl _) _
          have hy4 : ByAt V_4 V_3.heap.size 24 T := boxed V_3 V_4 T _ (by rw [← hX4, unhide HCT]; rfl)
          have hq4 : ∀ k, Value.ownBlock (v3) = some k → k ≠ V_3.heap.size := fun k hk => by have hl := (ho3.lt k hk).2; omega
          have hm4 := ho3.later hb4
          have hB4 := thenB hB3 hb4
          clear hX4
          refine hK _ _ ((unhide HD).keep hB4) ?_
          clear hK K
          try simp only [List.getElem_toArray, List.getElem_cons_zero, List.getElem_cons_succ, Act.put, List.setIfInBounds_toArray, List.set_cons_zero, List.set_cons_succ]
          refine wpAnyH_chainOf [6, 7, 8] _ _ _ (by kernel_rfl) (by kernel_rfl) ?_
          simp only [List.filterMap_cons, List.filterMap_nil, List.getElem?_toArray, List.getElem?_cons_zero, List.getElem?_cons_succ]
          refine wpChain_step rfl fun K hK => ?_
          obtain ⟨v9, Y1, hr9, ho9, hg9, hob9⟩ := append_one hm4 26 (V_3.heap.size) 1 T (unhide HGT) hy4 (by rw [closedS_length]; have := unhide HPB; omega) hB4.size
          obtain ⟨A', c', rfl, hc9, hd9, _⟩ := own_form ho9 (fun d hd => by rcases List.mem_append.1 hd with h | h; exact (dg_closedS _ _ _ _) d h; rw [List.mem_singleton.1 h]; exact (unhide HGT))
          have hB9 := grown_below hB4 hg9 (fun k hk => (hm4.lt k hk).1)
          have hln : (closedS seed U bs 64 ++ [T]).length = 64 + 1 := by rw [List.length_append, closedS_length]; rfl
          rw [hln] at hr9 hc9 ho9
          refine wp_append (.tmp 80) (.tmp 82) 26 rfl _ _ _ Y1 rfl rfl hr9 ?_
          have hs9 := (unhide HS).keep hB9
          have hsd9 := (unhide HD).keep hB9
          refine hK _ _ hsd9 ?_
          clear hK K
          try simp only [List.getElem_toArray, List.getElem_cons_zero, List.getElem_cons_succ, Act.put, List.setIfInBounds_toArray, List.set_cons_zero, List.set_cons_succ]
          refine wpChain_step rfl fun K hK => ?_
          go_simp
          refine hK _ _ hsd9 ?_
          clear hK K
          have hcc := hs9.cell (j := 2) rfl
          have hff := hs9.free 2
          refine wpChain_step rfl fun K hK => ?_
          go_simp
          have hsd10 : ByAt (Y1.setCell ⟨N_HS, 2, none⟩ (.slice A' (64 + 1) c')) N_HD 24 T := (vs_set hsd9.vs (unhide HLOW).2 : VsAt _ N_HD 24 _)
          refine hK _ _ hsd10 (wpChain_nil ?_)
          clear hK K
          have hgk : GK W.heap.size N_HS W (Y1.setCell ⟨N_HS, 2, none⟩ (.slice A' (64 + 1) c')) := (GK.below (Nat.le_refl _) hB9).trans (gk_set 2 _)
          have hds := (show Ds (Y1.setCell ⟨N_HS, 2, none⟩ (.slice A' (64 + 1) c')) A' (closedS seed U bs 64 ++ [T]) by
            obtain ⟨B1, x1, hw, _, hdd⟩ := (ho9.putAt (P := N_HS) (o := 2) (u := .slice A' (64 + 1) c') (lt_of_block (unhide HS))).ds (fun d hd => by rcases List.mem_append.1 hd with h | h; exact (dg_closedS _ _ _ _) d h; rw [List.mem_singleton.1 h]; exact (unhide HGT))
            injection hw with hw _ _
            subst hw
            exact hdd)
          have hzs := hs9.set 2 (.slice A' (64 + 1) c')
          have hz1 := hgk.under (unhide HB) (unhide HB).size (unhide HLOW).1
          have hzk := hgk.under (unhide HBk) (unhide HBk).size (by have := unhide HNM; omega)
          obtain ⟨wc, hwc⟩ : ∃ x, x = Y1.setCell ⟨N_HS, 2, none⟩ (.slice A' (64 + 1) c') := ⟨_, rfl⟩
          rw [← hwc] at hds hzs hz1 hzk hsd10 ⊢
          have HZS := hide (show VsAt wc N_HS 52 [.int .i64 (U : Int), .slice A1 64 c1, .slice A' (64 + 1) c', .slice A3 p c3] from hzs); have HZD := hide hsd10; have HZ1 := hide hz1; have HZK := hide hzk; have HDS' := hide hds; have HC' : Hid (64 + 1 ≤ c') := hc9
          clear hds hzs hz1 hzk hsd10 hgk hwc hr9 ho9 hg9 hob9 hc9 hd9 hln hs9 hsd9 hcc hff hB9
          go_upto_region 26 with fail
          refine wp_region_lit ?_
          refine wpList_gload (by kernel_rfl) 24 (.tmp 9) rfl N_HD rfl _ Tryd.underlying24 rfl 32 info32 _ T (unhide HZD) (unhide HGT).len ?_
          rw [show dv T = .agg ct by rw [unhide HCT]]
          try simp only [List.getElem_toArray, List.getElem_cons_zero, List.getElem_cons_succ, Act.put, List.setIfInBounds_toArray, List.set_cons_zero, List.set_cons_succ]
          refine wpList_wanted (by kernel_rfl) fun Kt hKt => ?_
          go_simp
          refine hKt _ _ ?_
          clear hKt Kt
          refine wpList_wanted (by kernel_rfl) fun Kt hKt => ?_
          go_simp
          refine hKt _ _ ?_
          clear hKt Kt
          refine wpList_vgload (by kernel_rfl) 52 (.tmp 12) rfl N_HS rfl _ Tryd.underlying52 rfl _ [.int .i64 (U : Int), .slice A1 64 c1, .slice A' 65 c', .slice A3 p c3] infoSig (unhide HZS) ?_
          try simp only [List.getElem_toArray, List.getElem_cons_zero, List.getElem_cons_succ, Act.put, List.setIfInBounds_toArray, List.set_cons_zero, List.set_cons_succ]
          have hve := Verify_no wc T (unhide HGT) (M : Int) (U : Int) Aa na ca A1 64 c1 A' 65 c' A3 p c3 (.inr (.inr (.inr (.inr (.inr (by decide))))))
          rw [show dv T = .agg ct by rw [unhide HCT]] at hve
          go_wp2_with fail
          refine hve.mono ?_; rintro x Z9 ⟨rfl, hb⟩
          have HZB := hide (thenB (unhide HZ1) hb)
          clear hve hb
          go_wp2_with fail
          go_ret
          exact ⟨rfl, unhide HZB⟩
        · clear hx
          refine wpOp_one 5 _ rfl (by kernel_rfl) fun K hK => ?_
          go_simp
          rw [overwritten hst (by rfl)]
          generalize hX6 : V_1.alloc _ = V_6
          have hb6 : Below V_1.heap.size V_1 V_6 := hX6 ▸ (Below.refl _ _).alloc (Nat.le_refl _) _
          have hy6 : ByAt V_6 V_1.heap.size 24 T := boxed V_1 V_6 T _ (by rw [← hX6, unhide HCT]; rfl)
          have hq6 : ∀ k, Value.ownBlock (.slice (some ⟨W.heap.size, 0, none⟩) 0 0) = some k → k ≠ V_1.heap.size := fun k hk => by have hl := (hn1.lt k hk).2; omega
          have he6 := hn1.later hb6
          have hB6 := thenB hB1 hb6
          clear hX6
          refine hK _ _ ⟨((unhide HD).keep hB6), ?_⟩
          clear hK K
          try simp only [List.getElem_toArray, List.getElem_cons_zero, List.getElem_cons_succ, Act.put, List.setIfInBounds_toArray, List.set_cons_zero, List.set_cons_succ]
          refine wpAnyH_one 3 _ rfl (by kernel_rfl) (by kernel_rfl) ?_
          intro K hK
          obtain ⟨v7, V_7, hr7, ho7, hg7, hob7⟩ := append_many he6 26 A2 c2 (((unhide HCk).keep (thenB (unhide HBk) hB6)).at_) (fun e => by have h := (unhide HCk).at_.at_ (fun e => by have := closedS_length seed U bs 64; rw [e] at this; simp at this); obtain ⟨b, o', h1, _⟩ := h; rw [e] at h1; cases h1) (by rw [closedS_length]; have := unhide HPB; simp only [List.length_nil]; omega) hB6.size
          rw [closedS_length] at hr7
          rw [List.nil_append] at ho7
          have hB7 := grown_below hB6 hg7 (fun k hk => (he6.lt k hk).1)
          have hx7 := own_kept hy6 hg7 hq6
          have hq7 := own_ne hob7 hq6 (lt_of_block hy6)
          refine wp_append (.tmp 77) (.tmp 79) 26 rfl _ _ v7 V_7 rfl rfl hr7 ?_
          refine hK _ _ ((unhide HD).keep hB7) ?_
          clear hK K
          try simp only [List.getElem_toArray, List.getElem_cons_zero, List.getElem_cons_succ, Act.put, List.setIfInBounds_toArray, List.set_cons_zero, List.set_cons_succ]
          refine wpAnyH_chainOf [6, 7, 8] _ _ _ (by kernel_rfl) (by kernel_rfl) ?_
          simp only [List.filterMap_cons, List.filterMap_nil, List.getElem?_toArray, List.getElem?_cons_zero, List.getElem?_cons_succ]
          refine wpChain_step rfl fun K hK => ?_
          obtain ⟨v9, Y1, hr9, ho9, hg9, hob9⟩ := append_one ho7 26 (V_1.heap.size) 1 T (unhide HGT) hx7 (by rw [closedS_length]; have := unhide HPB; omega) hB7.size
          obtain ⟨A', c', rfl, hc9, hd9, _⟩ := own_form ho9 (fun d hd => by rcases List.mem_append.1 hd with h | h; exact (dg_closedS _ _ _ _) d h; rw [List.mem_singleton.1 h]; exact (unhide HGT))
          have hB9 := grown_below hB7 hg9 (fun k hk => (ho7.lt k hk).1)
          have hln : (closedS seed U bs 64 ++ [T]).length = 64 + 1 := by rw [List.length_append, closedS_length]; rfl
          rw [hln] at hr9 hc9 ho9
          refine wp_append (.tmp 80) (.tmp 82) 26 rfl _ _ _ Y1 rfl rfl hr9 ?_
          have hs9 := (unhide HS).keep hB9
          have hsd9 := (unhide HD).keep hB9
          refine hK _ _ hsd9 ?_
          clear hK K
          try simp only [List.getElem_toArray, List.getElem_cons_zero, List.getElem_cons_succ, Act.put, List.setIfInBounds_toArray, List.set_cons_zero, List.set_cons_succ]
          refine wpChain_step rfl fun K hK => ?_
          go_simp
          refine hK _ _ hsd9 ?_
          clear hK K
          have hcc := hs9.cell (j := 2) rfl
          have hff := hs9.free 2
          refine wpChain_step rfl fun K hK => ?_
          go_simp
          have hsd10 : ByAt (Y1.setCell ⟨N_HS, 2, none⟩ (.slice A' (64 + 1) c')) N_HD 24 T := (vs_set hsd9.vs (unhide HLOW).2 : VsAt _ N_HD 24 _)
          refine hK _ _ hsd10 (wpChain_nil ?_)
          clear hK K
          have hgk : GK W.heap.size N_HS W (Y1.setCell ⟨N_HS, 2, none⟩ (.slice A' (64 + 1) c')) := (GK.below (Nat.le_refl _) hB9).trans (gk_set 2 _)
          have hds := (show Ds (Y1.setCell ⟨N_HS, 2, none⟩ (.slice A' (64 + 1) c')) A' (closedS seed U bs 64 ++ [T]) by
            obtain ⟨B1, x1, hw, _, hdd⟩ := (ho9.putAt (P := N_HS) (o := 2) (u := .slice A' (64 + 1) c') (lt_of_block (unhide HS))).ds (fun d hd => by rcases List.mem_append.1 hd with h | h; exact (dg_closedS _ _ _ _) d h; rw [List.mem_singleton.1 h]; exact (unhide HGT))
            injection hw with hw _ _
            subst hw
            exact hdd)
          have hzs := hs9.set 2 (.slice A' (64 + 1) c')
          have hz1 := hgk.under (unhide HB) (unhide HB).size (unhide HLOW).1
          have hzk := hgk.under (unhide HBk) (unhide HBk).size (by have := unhide HNM; omega)
          obtain ⟨wc, hwc⟩ : ∃ x, x = Y1.setCell ⟨N_HS, 2, none⟩ (.slice A' (64 + 1) c') := ⟨_, rfl⟩
          rw [← hwc] at hds hzs hz1 hzk hsd10 ⊢
          have HZS := hide (show VsAt wc N_HS 52 [.int .i64 (U : Int), .slice A1 64 c1, .slice A' (64 + 1) c', .slice A3 p c3] from hzs); have HZD := hide hsd10; have HZ1 := hide hz1; have HZK := hide hzk; have HDS' := hide hds; have HC' : Hid (64 + 1 ≤ c') := hc9
          clear hds hzs hz1 hzk hsd10 hgk hwc hr9 ho9 hg9 hob9 hc9 hd9 hln hs9 hsd9 hcc hff hB9
          go_upto_region 26 with fail
          refine wp_region_lit ?_
          refine wpList_gload (by kernel_rfl) 24 (.tmp 9) rfl N_HD rfl _ Tryd.underlying24 rfl 32 info32 _ T (unhide HZD) (unhide HGT).len ?_
          rw [show dv T = .agg ct by rw [unhide HCT]]
          try simp only [List.getElem_toArray, List.getElem_cons_zero, List.getElem_cons_succ, Act.put, List.setIfInBounds_toArray, List.set_cons_zero, List.set_cons_succ]
          refine wpList_wanted (by kernel_rfl) fun Kt hKt => ?_
          go_simp
          refine hKt _ _ ?_
          clear hKt Kt
          refine wpList_wanted (by kernel_rfl) fun Kt hKt => ?_
          go_simp
          refine hKt _ _ ?_
          clear hKt Kt
          refine wpList_vgload (by kernel_rfl) 52 (.tmp 12) rfl N_HS rfl _ Tryd.underlying52 rfl _ [.int .i64 (U : Int), .slice A1 64 c1, .slice A' 65 c', .slice A3 p c3] infoSig (unhide HZS) ?_
          try simp only [List.getElem_toArray, List.getElem_cons_zero, List.getElem_cons_succ, Act.put, List.setIfInBounds_toArray, List.set_cons_zero, List.set_cons_succ]
          have hve := Verify_no wc T (unhide HGT) (M : Int) (U : Int) Aa na ca A1 64 c1 A' 65 c' A3 p c3 (.inr (.inr (.inr (.inr (.inr (by decide))))))
          rw [show dv T = .agg ct by rw [unhide HCT]] at hve
          go_wp2_with fail
          refine hve.mono ?_; rintro x Z9 ⟨rfl, hb⟩
          have HZB := hide (thenB (unhide HZ1) hb)
          clear hve hb
          go_wp2_with fail
          go_ret
          exact ⟨rfl, unhide HZB⟩
      · clear hx
        refine wpOp_one 5 _ rfl (by kernel_rfl) fun K hK => ?_
        go_simp
        rw [overwritten hst (by rfl)]
        generalize hX9 : V_1.alloc _ = V_9
        have hb9 : Below V_1.heap.size V_1 V_9 := hX9 ▸ (Below.refl _ _).alloc (Nat.le_refl _) _
        have hy9 : ByAt V_9 V_1.heap.size 24 T := boxed V_1 V_9 T _ (by rw [← hX9, unhide HCT]; rfl)
        have hq9 : ∀ k, Value.ownBlock (.slice (some ⟨W.heap.size, 0, none⟩) 0 0) = some k → k ≠ V_1.heap.size := fun k hk => by have hl := (hn1.lt k hk).2; omega
        have he9 := hn1.later hb9
        have hB9 := thenB hB1 hb9
        clear hX9
        refine hK _ _ ⟨((unhide HD).keep hB9), ?_⟩
        clear hK K
        try simp only [List.getElem_toArray, List.getElem_cons_zero, List.getElem_cons_succ, Act.put, List.setIfInBounds_toArray, List.set_cons_zero, List.set_cons_succ]
        refine wpAnyH_one 2 _ rfl (by kernel_rfl) (by kernel_rfl) ?_
        intro K hK
        have hcl10 := ((unhide HS).keep hB9).cell (j := 2) rfl
        go_simp
        refine hK _ _ ((unhide HD).keep hB9) ?_
        clear hK K
        try simp only [List.getElem_toArray, List.getElem_cons_zero, List.getElem_cons_succ, Act.put, List.setIfInBounds_toArray, List.set_cons_zero, List.set_cons_succ]
        refine wpAnyH_one 3 _ rfl (by kernel_rfl) (by kernel_rfl) ?_
        intro K hK
        obtain ⟨v11, V_11, hr11, ho11, hg11, hob11⟩ := append_many he9 26 A2 c2 (((unhide HCk).keep (thenB (unhide HBk) hB9)).at_) (fun e => by have h := (unhide HCk).at_.at_ (fun e => by have := closedS_length seed U bs 64; rw [e] at this; simp at this); obtain ⟨b, o', h1, _⟩ := h; rw [e] at h1; cases h1) (by rw [closedS_length]; have := unhide HPB; simp only [List.length_nil]; omega) hB9.size
        rw [closedS_length] at hr11
        rw [List.nil_append] at ho11
        have hB11 := grown_below hB9 hg11 (fun k hk => (he9.lt k hk).1)
        have hx11 := own_kept hy9 hg11 hq9
        have hq11 := own_ne hob11 hq9 (lt_of_block hy9)
        refine wp_append (.tmp 77) (.tmp 79) 26 rfl _ _ v11 V_11 rfl rfl hr11 ?_
        refine hK _ _ ((unhide HD).keep hB11) ?_
        clear hK K
        try simp only [List.getElem_toArray, List.getElem_cons_zero, List.getElem_cons_succ, Act.put, List.setIfInBounds_toArray, List.set_cons_zero, List.set_cons_succ]
        refine wpAnyH_chainOf [6, 7, 8] _ _ _ (by kernel_rfl) (by kernel_rfl) ?_
        simp only [List.filterMap_cons, List.filterMap_nil, List.getElem?_toArray, List.getElem?_cons_zero, List.getElem?_cons_succ]
        refine wpChain_step rfl fun K hK => ?_
        obtain ⟨v9, Y1, hr9, ho9, hg9, hob9⟩ := append_one ho11 26 (V_1.heap.size) 1 T (unhide HGT) hx11 (by rw [closedS_length]; have := unhide HPB; omega) hB11.size
        obtain ⟨A', c', rfl, hc9, hd9, _⟩ := own_form ho9 (fun d hd => by rcases List.mem_append.1 hd with h | h; exact (dg_closedS _ _ _ _) d h; rw [List.mem_singleton.1 h]; exact (unhide HGT))
        have hB9 := grown_below hB11 hg9 (fun k hk => (ho11.lt k hk).1)
        have hln : (closedS seed U bs 64 ++ [T]).length = 64 + 1 := by rw [List.length_append, closedS_length]; rfl
        rw [hln] at hr9 hc9 ho9
        refine wp_append (.tmp 80) (.tmp 82) 26 rfl _ _ _ Y1 rfl rfl hr9 ?_
        have hs9 := (unhide HS).keep hB9
        have hsd9 := (unhide HD).keep hB9
        refine hK _ _ hsd9 ?_
        clear hK K
        try simp only [List.getElem_toArray, List.getElem_cons_zero, List.getElem_cons_succ, Act.put, List.setIfInBounds_toArray, List.set_cons_zero, List.set_cons_succ]
        refine wpChain_step rfl fun K hK => ?_
        go_simp
        refine hK _ _ hsd9 ?_
        clear hK K
        have hcc := hs9.cell (j := 2) rfl
        have hff := hs9.free 2
        refine wpChain_step rfl fun K hK => ?_
        go_simp
        have hsd10 : ByAt (Y1.setCell ⟨N_HS, 2, none⟩ (.slice A' (64 + 1) c')) N_HD 24 T := (vs_set hsd9.vs (unhide HLOW).2 : VsAt _ N_HD 24 _)
        refine hK _ _ hsd10 (wpChain_nil ?_)
        clear hK K
        have hgk : GK W.heap.size N_HS W (Y1.setCell ⟨N_HS, 2, none⟩ (.slice A' (64 + 1) c')) := (GK.below (Nat.le_refl _) hB9).trans (gk_set 2 _)
        have hds := (show Ds (Y1.setCell ⟨N_HS, 2, none⟩ (.slice A' (64 + 1) c')) A' (closedS seed U bs 64 ++ [T]) by
          obtain ⟨B1, x1, hw, _, hdd⟩ := (ho9.putAt (P := N_HS) (o := 2) (u := .slice A' (64 + 1) c') (lt_of_block (unhide HS))).ds (fun d hd => by rcases List.mem_append.1 hd with h | h; exact (dg_closedS _ _ _ _) d h; rw [List.mem_singleton.1 h]; exact (unhide HGT))
          injection hw with hw _ _
          subst hw
          exact hdd)
        have hzs := hs9.set 2 (.slice A' (64 + 1) c')
        have hz1 := hgk.under (unhide HB) (unhide HB).size (unhide HLOW).1
        have hzk := hgk.under (unhide HBk) (unhide HBk).size (by have := unhide HNM; omega)
        obtain ⟨wc, hwc⟩ : ∃ x, x = Y1.setCell ⟨N_HS, 2, none⟩ (.slice A' (64 + 1) c') := ⟨_, rfl⟩
        rw [← hwc] at hds hzs hz1 hzk hsd10 ⊢
        have HZS := hide (show VsAt wc N_HS 52 [.int .i64 (U : Int), .slice A1 64 c1, .slice A' (64 + 1) c', .slice A3 p c3] from hzs); have HZD := hide hsd10; have HZ1 := hide hz1; have HZK := hide hzk; have HDS' := hide hds; have HC' : Hid (64 + 1 ≤ c') := hc9
        clear hds hzs hz1 hzk hsd10 hgk hwc hr9 ho9 hg9 hob9 hc9 hd9 hln hs9 hsd9 hcc hff hB9
        go_upto_region 26 with fail
        refine wp_region_lit ?_
        refine wpList_gload (by kernel_rfl) 24 (.tmp 9) rfl N_HD rfl _ Tryd.underlying24 rfl 32 info32 _ T (unhide HZD) (unhide HGT).len ?_
        rw [show dv T = .agg ct by rw [unhide HCT]]
        try simp only [List.getElem_toArray, List.getElem_cons_zero, List.getElem_cons_succ, Act.put, List.setIfInBounds_toArray, List.set_cons_zero, List.set_cons_succ]
        refine wpList_wanted (by kernel_rfl) fun Kt hKt => ?_
        go_simp
        refine hKt _ _ ?_
        clear hKt Kt
        refine wpList_wanted (by kernel_rfl) fun Kt hKt => ?_
        go_simp
        refine hKt _ _ ?_
        clear hKt Kt
        refine wpList_vgload (by kernel_rfl) 52 (.tmp 12) rfl N_HS rfl _ Tryd.underlying52 rfl _ [.int .i64 (U : Int), .slice A1 64 c1, .slice A' 65 c', .slice A3 p c3] infoSig (unhide HZS) ?_
        try simp only [List.getElem_toArray, List.getElem_cons_zero, List.getElem_cons_succ, Act.put, List.setIfInBounds_toArray, List.set_cons_zero, List.set_cons_succ]
        have hve := Verify_no wc T (unhide HGT) (M : Int) (U : Int) Aa na ca A1 64 c1 A' 65 c' A3 p c3 (.inr (.inr (.inr (.inr (.inr (by decide))))))
        rw [show dv T = .agg ct by rw [unhide HCT]] at hve
        go_wp2_with fail
        refine hve.mono ?_; rintro x Z9 ⟨rfl, hb⟩
        have HZB := hide (thenB (unhide HZ1) hb)
        clear hve hb
        go_wp2_with fail
        go_ret
        exact ⟨rfl, unhide HZB⟩
    · clear hx
      refine wpOp_one 2 _ rfl (by kernel_rfl) fun K hK => ?_
      have hcl13 := ((unhide HS).keep hB0).cell (j := 2) rfl
      go_simp
      refine hK _ _ ⟨((unhide HD).keep hB0), ?_⟩
      clear hK K
      try simp only [List.getElem_toArray, List.getElem_cons_zero, List.getElem_cons_succ, Act.put, List.setIfInBounds_toArray, List.set_cons_zero, List.set_cons_succ]
      refine wpAnyH_all (show Region.ready .any _ _ = [0, 5] by kernel_rfl) (by simp) fun x hx => ?_
      rcases (by simpa using hx : x = 0 ∨ x = 5) with rfl | rfl
      · clear hx
        refine wpOp_one 0 _ rfl (by kernel_rfl) fun K hK => ?_
        go_simp
        generalize hX14 : W.alloc _ = V_14
        have hb14 : Below W.heap.size W V_14 := hX14 ▸ (Below.refl _ _).alloc (Nat.le_refl _) _
        have hn14 : OwnD V_14 W.heap.size (.slice (some ⟨W.heap.size, 0, none⟩) 0 0) [] := hX14 ▸ World.ownsRow_lit W #[] 0 hB0.size (Nat.zero_le _) rfl
        have hB14 := thenB hB0 hb14
        clear hX14
        refine hK _ _ ⟨((unhide HD).keep hB14), ?_⟩
        clear hK K
        try simp only [List.getElem_toArray, List.getElem_cons_zero, List.getElem_cons_succ, Act.put, List.setIfInBounds_toArray, List.set_cons_zero, List.set_cons_succ]
        refine wpAnyH_all (show Region.ready .any _ _ = [3, 5] by kernel_rfl) (by simp) fun x hx => ?_
        rcases (by simpa using hx : x = 3 ∨ x = 5) with rfl | rfl
        · clear hx
          refine wpOp_one 3 _ rfl (by kernel_rfl) fun K hK => ?_
          obtain ⟨v15, V_15, hr15, ho15, hg15, hob15⟩ := append_many hn14 26 A2 c2 (((unhide HCk).keep (thenB (unhide HBk) hB14)).at_) (fun e => by have h := (unhide HCk).at_.at_ (fun e => by have := closedS_length seed U bs 64; rw [e] at this; simp at this); obtain ⟨b, o', h1, _⟩ := h; rw [e] at h1; cases h1) (by rw [closedS_length]; have := unhide HPB; simp only [List.length_nil]; omega) hB14.size
          rw [closedS_length] at hr15
          rw [List.nil_append] at ho15
          have hB15 := grown_below hB14 hg15 (fun k hk => (hn14.lt k hk).1)
          refine wp_append (.tmp 77) (.tmp 79) 26 rfl _ _ v15 V_15 rfl rfl hr15 ?_
          refine hK _ _ ⟨((unhide HD).keep hB15), ?_⟩
          clear hK K
          try simp only [List.getElem_toArray, List.getElem_cons_zero, List.getElem_cons_succ, Act.put, List.setIfInBounds_toArray, List.set_cons_zero, List.set_cons_succ]
          refine wpAnyH_one 5 _ rfl (by kernel_rfl) (by kernel_rfl) ?_
          intro K hK
          go_simp
          rw [overwritten hst (by rfl)]
          generalize hX16 : V_15.alloc _ = V_16
          have hb16 : Below V_15.heap.size V_15 V_16 := hX16 ▸ (Below.refl _ _).alloc (Nat.le_refl _) _
          have hy16 : ByAt V_16 V_15.heap.size 24 T := boxed V_15 V_16 T _ (by rw [← hX16, unhide HCT]; rfl)
          have hq16 : ∀ k, Value.ownBlock (v15) = some k → k ≠ V_15.heap.size := fun k hk => by have hl := (ho15.lt k hk).2; omega
          have hm16 := ho15.later hb16
          have hB16 := thenB hB15 hb16
          clear hX16
          refine hK _ _ ((unhide HD).keep hB16) ?_
          clear hK K
          try simp only [List.getElem_toArray, List.getElem_cons_zero, List.getElem_cons_succ, Act.put, List.setIfInBounds_toArray, List.set_cons_zero, List.set_cons_succ]
          refine wpAnyH_chainOf [6, 7, 8] _ _ _ (by kernel_rfl) (by kernel_rfl) ?_
          simp only [List.filterMap_cons, List.filterMap_nil, List.getElem?_toArray, List.getElem?_cons_zero, List.getElem?_cons_succ]
          refine wpChain_step rfl fun K hK => ?_
          obtain ⟨v9, Y1, hr9, ho9, hg9, hob9⟩ := append_one hm16 26 (V_15.heap.size) 1 T (unhide HGT) hy16 (by rw [closedS_length]; have := unhide HPB; omega) hB16.size
          obtain ⟨A', c', rfl, hc9, hd9, _⟩ := own_form ho9 (fun d hd => by rcases List.mem_append.1 hd with h | h; exact (dg_closedS _ _ _ _) d h; rw [List.mem_singleton.1 h]; exact (unhide HGT))
          have hB9 := grown_below hB16 hg9 (fun k hk => (hm16.lt k hk).1)
          have hln : (closedS seed U bs 64 ++ [T]).length = 64 + 1 := by rw [List.length_append, closedS_length]; rfl
          rw [hln] at hr9 hc9 ho9
          refine wp_append (.tmp 80) (.tmp 82) 26 rfl _ _ _ Y1 rfl rfl hr9 ?_
          have hs9 := (unhide HS).keep hB9
          have hsd9 := (unhide HD).keep hB9
          refine hK _ _ hsd9 ?_
          clear hK K
          try simp only [List.getElem_toArray, List.getElem_cons_zero, List.getElem_cons_succ, Act.put, List.setIfInBounds_toArray, List.set_cons_zero, List.set_cons_succ]
          refine wpChain_step rfl fun K hK => ?_
          go_simp
          refine hK _ _ hsd9 ?_
          clear hK K
          have hcc := hs9.cell (j := 2) rfl
          have hff := hs9.free 2
          refine wpChain_step rfl fun K hK => ?_
          go_simp
          have hsd10 : ByAt (Y1.setCell ⟨N_HS, 2, none⟩ (.slice A' (64 + 1) c')) N_HD 24 T := (vs_set hsd9.vs (unhide HLOW).2 : VsAt _ N_HD 24 _)
          refine hK _ _ hsd10 (wpChain_nil ?_)
          clear hK K
          have hgk : GK W.heap.size N_HS W (Y1.setCell ⟨N_HS, 2, none⟩ (.slice A' (64 + 1) c')) := (GK.below (Nat.le_refl _) hB9).trans (gk_set 2 _)
          have hds := (show Ds (Y1.setCell ⟨N_HS, 2, none⟩ (.slice A' (64 + 1) c')) A' (closedS seed U bs 64 ++ [T]) by
            obtain ⟨B1, x1, hw, _, hdd⟩ := (ho9.putAt (P := N_HS) (o := 2) (u := .slice A' (64 + 1) c') (lt_of_block (unhide HS))).ds (fun d hd => by rcases List.mem_append.1 hd with h | h; exact (dg_closedS _ _ _ _) d h; rw [List.mem_singleton.1 h]; exact (unhide HGT))
            injection hw with hw _ _
            subst hw
            exact hdd)
          have hzs := hs9.set 2 (.slice A' (64 + 1) c')
          have hz1 := hgk.under (unhide HB) (unhide HB).size (unhide HLOW).1
          have hzk := hgk.under (unhide HBk) (unhide HBk).size (by have := unhide HNM; omega)
          obtain ⟨wc, hwc⟩ : ∃ x, x = Y1.setCell ⟨N_HS, 2, none⟩ (.slice A' (64 + 1) c') := ⟨_, rfl⟩
          rw [← hwc] at hds hzs hz1 hzk hsd10 ⊢
          have HZS := hide (show VsAt wc N_HS 52 [.int .i64 (U : Int), .slice A1 64 c1, .slice A' (64 + 1) c', .slice A3 p c3] from hzs); have HZD := hide hsd10; have HZ1 := hide hz1; have HZK := hide hzk; have HDS' := hide hds; have HC' : Hid (64 + 1 ≤ c') := hc9
          clear hds hzs hz1 hzk hsd10 hgk hwc hr9 ho9 hg9 hob9 hc9 hd9 hln hs9 hsd9 hcc hff hB9
          go_upto_region 26 with fail
          refine wp_region_lit ?_
          refine wpList_gload (by kernel_rfl) 24 (.tmp 9) rfl N_HD rfl _ Tryd.underlying24 rfl 32 info32 _ T (unhide HZD) (unhide HGT).len ?_
          rw [show dv T = .agg ct by rw [unhide HCT]]
          try simp only [List.getElem_toArray, List.getElem_cons_zero, List.getElem_cons_succ, Act.put, List.setIfInBounds_toArray, List.set_cons_zero, List.set_cons_succ]
          refine wpList_wanted (by kernel_rfl) fun Kt hKt => ?_
          go_simp
          refine hKt _ _ ?_
          clear hKt Kt
          refine wpList_wanted (by kernel_rfl) fun Kt hKt => ?_
          go_simp
          refine hKt _ _ ?_
          clear hKt Kt
          refine wpList_vgload (by kernel_rfl) 52 (.tmp 12) rfl N_HS rfl _ Tryd.underlying52 rfl _ [.int .i64 (U : Int), .slice A1 64 c1, .slice A' 65 c', .slice A3 p c3] infoSig (unhide HZS) ?_
          try simp only [List.getElem_toArray, List.getElem_cons_zero, List.getElem_cons_succ, Act.put, List.setIfInBounds_toArray, List.set_cons_zero, List.set_cons_succ]
          have hve := Verify_no wc T (unhide HGT) (M : Int) (U : Int) Aa na ca A1 64 c1 A' 65 c' A3 p c3 (.inr (.inr (.inr (.inr (.inr (by decide))))))
          rw [show dv T = .agg ct by rw [unhide HCT]] at hve
          go_wp2_with fail
          refine hve.mono ?_; rintro x Z9 ⟨rfl, hb⟩
          have HZB := hide (thenB (unhide HZ1) hb)
          clear hve hb
          go_wp2_with fail
          go_ret
          exact ⟨rfl, unhide HZB⟩
        · clear hx
          refine wpOp_one 5 _ rfl (by kernel_rfl) fun K hK => ?_
          go_simp
          rw [overwritten hst (by rfl)]
          generalize hX18 : V_14.alloc _ = V_18
          have hb18 : Below V_14.heap.size V_14 V_18 := hX18 ▸ (Below.refl _ _).alloc (Nat.le_refl _) _
          have hy18 : ByAt V_18 V_14.heap.size 24 T := boxed V_14 V_18 T _ (by rw [← hX18, unhide HCT]; rfl)
          have hq18 : ∀ k, Value.ownBlock (.slice (some ⟨W.heap.size, 0, none⟩) 0 0) = some k → k ≠ V_14.heap.size := fun k hk => by have hl := (hn14.lt k hk).2; omega
          have he18 := hn14.later hb18
          have hB18 := thenB hB14 hb18
          clear hX18
          refine hK _ _ ⟨((unhide HD).keep hB18), ?_⟩
          clear hK K
          try simp only [List.getElem_toArray, List.getElem_cons_zero, List.getElem_cons_succ, Act.put, List.setIfInBounds_toArray, List.set_cons_zero, List.set_cons_succ]
          refine wpAnyH_one 3 _ rfl (by kernel_rfl) (by kernel_rfl) ?_
          intro K hK
          obtain ⟨v19, V_19, hr19, ho19, hg19, hob19⟩ := append_many he18 26 A2 c2 (((unhide HCk).keep (thenB (unhide HBk) hB18)).at_) (fun e => by have h := (unhide HCk).at_.at_ (fun e => by have := closedS_length seed U bs 64; rw [e] at this; simp at this); obtain ⟨b, o', h1, _⟩ := h; rw [e] at h1; cases h1) (by rw [closedS_length]; have := unhide HPB; simp only [List.length_nil]; omega) hB18.size
          rw [closedS_length] at hr19
          rw [List.nil_append] at ho19
          have hB19 := grown_below hB18 hg19 (fun k hk => (he18.lt k hk).1)
          have hx19 := own_kept hy18 hg19 hq18
          have hq19 := own_ne hob19 hq18 (lt_of_block hy18)
          refine wp_append (.tmp 77) (.tmp 79) 26 rfl _ _ v19 V_19 rfl rfl hr19 ?_
          refine hK _ _ ((unhide HD).keep hB19) ?_
          clear hK K
          try simp only [List.getElem_toArray, List.getElem_cons_zero, List.getElem_cons_succ, Act.put, List.setIfInBounds_toArray, List.set_cons_zero, List.set_cons_succ]
          refine wpAnyH_chainOf [6, 7, 8] _ _ _ (by kernel_rfl) (by kernel_rfl) ?_
          simp only [List.filterMap_cons, List.filterMap_nil, List.getElem?_toArray, List.getElem?_cons_zero, List.getElem?_cons_succ]
          refine wpChain_step rfl fun K hK => ?_
          obtain ⟨v9, Y1, hr9, ho9, hg9, hob9⟩ := append_one ho19 26 (V_14.heap.size) 1 T (unhide HGT) hx19 (by rw [closedS_length]; have := unhide HPB; omega) hB19.size
          obtain ⟨A', c', rfl, hc9, hd9, _⟩ := own_form ho9 (fun d hd => by rcases List.mem_append.1 hd with h | h; exact (dg_closedS _ _ _ _) d h; rw [List.mem_singleton.1 h]; exact (unhide HGT))
          have hB9 := grown_below hB19 hg9 (fun k hk => (ho19.lt k hk).1)
          have hln : (closedS seed U bs 64 ++ [T]).length = 64 + 1 := by rw [List.length_append, closedS_length]; rfl
          rw [hln] at hr9 hc9 ho9
          refine wp_append (.tmp 80) (.tmp 82) 26 rfl _ _ _ Y1 rfl rfl hr9 ?_
          have hs9 := (unhide HS).keep hB9
          have hsd9 := (unhide HD).keep hB9
          refine hK _ _ hsd9 ?_
          clear hK K
          try simp only [List.getElem_toArray, List.getElem_cons_zero, List.getElem_cons_succ, Act.put, List.setIfInBounds_toArray, List.set_cons_zero, List.set_cons_succ]
          refine wpChain_step rfl fun K hK => ?_
          go_simp
          refine hK _ _ hsd9 ?_
          clear hK K
          have hcc := hs9.cell (j := 2) rfl
          have hff := hs9.free 2
          refine wpChain_step rfl fun K hK => ?_
          go_simp
          have hsd10 : ByAt (Y1.setCell ⟨N_HS, 2, none⟩ (.slice A' (64 + 1) c')) N_HD 24 T := (vs_set hsd9.vs (unhide HLOW).2 : VsAt _ N_HD 24 _)
          refine hK _ _ hsd10 (wpChain_nil ?_)
          clear hK K
          have hgk : GK W.heap.size N_HS W (Y1.setCell ⟨N_HS, 2, none⟩ (.slice A' (64 + 1) c')) := (GK.below (Nat.le_refl _) hB9).trans (gk_set 2 _)
          have hds := (show Ds (Y1.setCell ⟨N_HS, 2, none⟩ (.slice A' (64 + 1) c')) A' (closedS seed U bs 64 ++ [T]) by
            obtain ⟨B1, x1, hw, _, hdd⟩ := (ho9.putAt (P := N_HS) (o := 2) (u := .slice A' (64 + 1) c') (lt_of_block (unhide HS))).ds (fun d hd => by rcases List.mem_append.1 hd with h | h; exact (dg_closedS _ _ _ _) d h; rw [List.mem_singleton.1 h]; exact (unhide HGT))
            injection hw with hw _ _
            subst hw
            exact hdd)
          have hzs := hs9.set 2 (.slice A' (64 + 1) c')
          have hz1 := hgk.under (unhide HB) (unhide HB).size (unhide HLOW).1
          have hzk := hgk.under (unhide HBk) (unhide HBk).size (by have := unhide HNM; omega)
          obtain ⟨wc, hwc⟩ : ∃ x, x = Y1.setCell ⟨N_HS, 2, none⟩ (.slice A' (64 + 1) c') := ⟨_, rfl⟩
          rw [← hwc] at hds hzs hz1 hzk hsd10 ⊢
          have HZS := hide (show VsAt wc N_HS 52 [.int .i64 (U : Int), .slice A1 64 c1, .slice A' (64 + 1) c', .slice A3 p c3] from hzs); have HZD := hide hsd10; have HZ1 := hide hz1; have HZK := hide hzk; have HDS' := hide hds; have HC' : Hid (64 + 1 ≤ c') := hc9
          clear hds hzs hz1 hzk hsd10 hgk hwc hr9 ho9 hg9 hob9 hc9 hd9 hln hs9 hsd9 hcc hff hB9
          go_upto_region 26 with fail
          refine wp_region_lit ?_
          refine wpList_gload (by kernel_rfl) 24 (.tmp 9) rfl N_HD rfl _ Tryd.underlying24 rfl 32 info32 _ T (unhide HZD) (unhide HGT).len ?_
          rw [show dv T = .agg ct by rw [unhide HCT]]
          try simp only [List.getElem_toArray, List.getElem_cons_zero, List.getElem_cons_succ, Act.put, List.setIfInBounds_toArray, List.set_cons_zero, List.set_cons_succ]
          refine wpList_wanted (by kernel_rfl) fun Kt hKt => ?_
          go_simp
          refine hKt _ _ ?_
          clear hKt Kt
          refine wpList_wanted (by kernel_rfl) fun Kt hKt => ?_
          go_simp
          refine hKt _ _ ?_
          clear hKt Kt
          refine wpList_vgload (by kernel_rfl) 52 (.tmp 12) rfl N_HS rfl _ Tryd.underlying52 rfl _ [.int .i64 (U : Int), .slice A1 64 c1, .slice A' 65 c', .slice A3 p c3] infoSig (unhide HZS) ?_
          try simp only [List.getElem_toArray, List.getElem_cons_zero, List.getElem_cons_succ, Act.put, List.setIfInBounds_toArray, List.set_cons_zero, List.set_cons_succ]
          have hve := Verify_no wc T (unhide HGT) (M : Int) (U : Int) Aa na ca A1 64 c1 A' 65 c' A3 p c3 (.inr (.inr (.inr (.inr (.inr (by decide))))))
          rw [show dv T = .agg ct by rw [unhide HCT]] at hve
          go_wp2_with fail
          refine hve.mono ?_; rintro x Z9 ⟨rfl, hb⟩
          have HZB := hide (thenB (unhide HZ1) hb)
          clear hve hb
          go_wp2_with fail
          go_ret
          exact ⟨rfl, unhide HZB⟩
      · clear hx
        refine wpOp_one 5 _ rfl (by kernel_rfl) fun K hK => ?_
        go_simp
        rw [overwritten hst (by rfl)]
        generalize hX21 : W.alloc _ = V_21
        have hb21 : Below W.heap.size W V_21 := hX21 ▸ (Below.refl _ _).alloc (Nat.le_refl _) _
        have hy21 : ByAt V_21 W.heap.size 24 T := boxed W V_21 T _ (by rw [← hX21, unhide HCT]; rfl)
        have hB21 := thenB hB0 hb21
        clear hX21
        refine hK _ _ ⟨((unhide HD).keep hB21), ?_⟩
        clear hK K
        try simp only [List.getElem_toArray, List.getElem_cons_zero, List.getElem_cons_succ, Act.put, List.setIfInBounds_toArray, List.set_cons_zero, List.set_cons_succ]
        refine wpAnyH_one 0 _ rfl (by kernel_rfl) (by kernel_rfl) ?_
        intro K hK
        go_simp
        generalize hX22 : V_21.alloc _ = V_22
        have hb22 : Below V_21.heap.size V_21 V_22 := hX22 ▸ (Below.refl _ _).alloc (Nat.le_refl _) _
        have hn22 : OwnD V_22 W.heap.size (.slice (some ⟨V_21.heap.size, 0, none⟩) 0 0) [] := hX22 ▸ World.ownsRow_lit V_21 #[] 0 hB21.size (Nat.zero_le _) rfl
        have hx22 := hy21.keep hb22
        have hq22 : ∀ k, Value.ownBlock (.slice (some ⟨V_21.heap.size, 0, none⟩) 0 0) = some k → k ≠ W.heap.size := fun k hk => by have hl := lt_of_block hy21; have hk' : some V_21.heap.size = some k := hk; injection hk' with hk'; omega
        have hB22 := thenB hB21 hb22
        clear hX22
        refine hK _ _ ((unhide HD).keep hB22) ?_
        clear hK K
        try simp only [List.getElem_toArray, List.getElem_cons_zero, List.getElem_cons_succ, Act.put, List.setIfInBounds_toArray, List.set_cons_zero, List.set_cons_succ]
        refine wpAnyH_one 3 _ rfl (by kernel_rfl) (by kernel_rfl) ?_
        intro K hK
        obtain ⟨v23, V_23, hr23, ho23, hg23, hob23⟩ := append_many hn22 26 A2 c2 (((unhide HCk).keep (thenB (unhide HBk) hB22)).at_) (fun e => by have h := (unhide HCk).at_.at_ (fun e => by have := closedS_length seed U bs 64; rw [e] at this; simp at this); obtain ⟨b, o', h1, _⟩ := h; rw [e] at h1; cases h1) (by rw [closedS_length]; have := unhide HPB; simp only [List.length_nil]; omega) hB22.size
        rw [closedS_length] at hr23
        rw [List.nil_append] at ho23
        have hB23 := grown_below hB22 hg23 (fun k hk => (hn22.lt k hk).1)
        have hx23 := own_kept hx22 hg23 hq22
        have hq23 := own_ne hob23 hq22 (lt_of_block hx22)
        refine wp_append (.tmp 77) (.tmp 79) 26 rfl _ _ v23 V_23 rfl rfl hr23 ?_
        refine hK _ _ ((unhide HD).keep hB23) ?_
        clear hK K
        try simp only [List.getElem_toArray, List.getElem_cons_zero, List.getElem_cons_succ, Act.put, List.setIfInBounds_toArray, List.set_cons_zero, List.set_cons_succ]
        refine wpAnyH_chainOf [6, 7, 8] _ _ _ (by kernel_rfl) (by kernel_rfl) ?_
        simp only [List.filterMap_cons, List.filterMap_nil, List.getElem?_toArray, List.getElem?_cons_zero, List.getElem?_cons_succ]
        refine wpChain_step rfl fun K hK => ?_
        obtain ⟨v9, Y1, hr9, ho9, hg9, hob9⟩ := append_one ho23 26 (W.heap.size) 1 T (unhide HGT) hx23 (by rw [closedS_length]; have := unhide HPB; omega) hB23.size
        obtain ⟨A', c', rfl, hc9, hd9, _⟩ := own_form ho9 (fun d hd => by rcases List.mem_append.1 hd with h | h; exact (dg_closedS _ _ _ _) d h; rw [List.mem_singleton.1 h]; exact (unhide HGT))
        have hB9 := grown_below hB23 hg9 (fun k hk => (ho23.lt k hk).1)
        have hln : (closedS seed U bs 64 ++ [T]).length = 64 + 1 := by rw [List.length_append, closedS_length]; rfl
        rw [hln] at hr9 hc9 ho9
        refine wp_append (.tmp 80) (.tmp 82) 26 rfl _ _ _ Y1 rfl rfl hr9 ?_
        have hs9 := (unhide HS).keep hB9
        have hsd9 := (unhide HD).keep hB9
        refine hK _ _ hsd9 ?_
        clear hK K
        try simp only [List.getElem_toArray, List.getElem_cons_zero, List.getElem_cons_succ, Act.put, List.setIfInBounds_toArray, List.set_cons_zero, List.set_cons_succ]
        refine wpChain_step rfl fun K hK => ?_
        go_simp
        refine hK _ _ hsd9 ?_
        clear hK K
        have hcc := hs9.cell (j := 2) rfl
        have hff := hs9.free 2
        refine wpChain_step rfl fun K hK => ?_
        go_simp
        have hsd10 : ByAt (Y1.setCell ⟨N_HS, 2, none⟩ (.slice A' (64 + 1) c')) N_HD 24 T := (vs_set hsd9.vs (unhide HLOW).2 : VsAt _ N_HD 24 _)
        refine hK _ _ hsd10 (wpChain_nil ?_)
        clear hK K
        have hgk : GK W.heap.size N_HS W (Y1.setCell ⟨N_HS, 2, none⟩ (.slice A' (64 + 1) c')) := (GK.below (Nat.le_refl _) hB9).trans (gk_set 2 _)
        have hds := (show Ds (Y1.setCell ⟨N_HS, 2, none⟩ (.slice A' (64 + 1) c')) A' (closedS seed U bs 64 ++ [T]) by
          obtain ⟨B1, x1, hw, _, hdd⟩ := (ho9.putAt (P := N_HS) (o := 2) (u := .slice A' (64 + 1) c') (lt_of_block (unhide HS))).ds (fun d hd => by rcases List.mem_append.1 hd with h | h; exact (dg_closedS _ _ _ _) d h; rw [List.mem_singleton.1 h]; exact (unhide HGT))
          injection hw with hw _ _
          subst hw
          exact hdd)
        have hzs := hs9.set 2 (.slice A' (64 + 1) c')
        have hz1 := hgk.under (unhide HB) (unhide HB).size (unhide HLOW).1
        have hzk := hgk.under (unhide HBk) (unhide HBk).size (by have := unhide HNM; omega)
        obtain ⟨wc, hwc⟩ : ∃ x, x = Y1.setCell ⟨N_HS, 2, none⟩ (.slice A' (64 + 1) c') := ⟨_, rfl⟩
        rw [← hwc] at hds hzs hz1 hzk hsd10 ⊢
        have HZS := hide (show VsAt wc N_HS 52 [.int .i64 (U : Int), .slice A1 64 c1, .slice A' (64 + 1) c', .slice A3 p c3] from hzs); have HZD := hide hsd10; have HZ1 := hide hz1; have HZK := hide hzk; have HDS' := hide hds; have HC' : Hid (64 + 1 ≤ c') := hc9
        clear hds hzs hz1 hzk hsd10 hgk hwc hr9 ho9 hg9 hob9 hc9 hd9 hln hs9 hsd9 hcc hff hB9
        go_upto_region 26 with fail
        refine wp_region_lit ?_
        refine wpList_gload (by kernel_rfl) 24 (.tmp 9) rfl N_HD rfl _ Tryd.underlying24 rfl 32 info32 _ T (unhide HZD) (unhide HGT).len ?_
        rw [show dv T = .agg ct by rw [unhide HCT]]
        try simp only [List.getElem_toArray, List.getElem_cons_zero, List.getElem_cons_succ, Act.put, List.setIfInBounds_toArray, List.set_cons_zero, List.set_cons_succ]
        refine wpList_wanted (by kernel_rfl) fun Kt hKt => ?_
        go_simp
        refine hKt _ _ ?_
        clear hKt Kt
        refine wpList_wanted (by kernel_rfl) fun Kt hKt => ?_
        go_simp
        refine hKt _ _ ?_
        clear hKt Kt
        refine wpList_vgload (by kernel_rfl) 52 (.tmp 12) rfl N_HS rfl _ Tryd.underlying52 rfl _ [.int .i64 (U : Int), .slice A1 64 c1, .slice A' 65 c', .slice A3 p c3] infoSig (unhide HZS) ?_
        try simp only [List.getElem_toArray, List.getElem_cons_zero, List.getElem_cons_succ, Act.put, List.setIfInBounds_toArray, List.set_cons_zero, List.set_cons_succ]
        have hve := Verify_no wc T (unhide HGT) (M : Int) (U : Int) Aa na ca A1 64 c1 A' 65 c' A3 p c3 (.inr (.inr (.inr (.inr (.inr (by decide))))))
        rw [show dv T = .agg ct by rw [unhide HCT]] at hve
        go_wp2_with fail
        refine hve.mono ?_; rintro x Z9 ⟨rfl, hb⟩
        have HZB := hide (thenB (unhide HZ1) hb)
        clear hve hb
        go_wp2_with fail
        go_ret
        exact ⟨rfl, unhide HZB⟩
    · clear hx
      refine wpOp_one 5 _ rfl (by kernel_rfl) fun K hK => ?_
      go_simp
      rw [overwritten hst (by rfl)]
      generalize hX25 : W.alloc _ = V_25
      have hb25 : Below W.heap.size W V_25 := hX25 ▸ (Below.refl _ _).alloc (Nat.le_refl _) _
      have hy25 : ByAt V_25 W.heap.size 24 T := boxed W V_25 T _ (by rw [← hX25, unhide HCT]; rfl)
      have hB25 := thenB hB0 hb25
      clear hX25
      refine hK _ _ ⟨((unhide HD).keep hB25), ?_⟩
      clear hK K
      try simp only [List.getElem_toArray, List.getElem_cons_zero, List.getElem_cons_succ, Act.put, List.setIfInBounds_toArray, List.set_cons_zero, List.set_cons_succ]
      refine wpAnyH_all (show Region.ready .any _ _ = [0, 2] by kernel_rfl) (by simp) fun x hx => ?_
      rcases (by simpa using hx : x = 0 ∨ x = 2) with rfl | rfl
      · clear hx
        refine wpOp_one 0 _ rfl (by kernel_rfl) fun K hK => ?_
        go_simp
        generalize hX26 : V_25.alloc _ = V_26
        have hb26 : Below V_25.heap.size V_25 V_26 := hX26 ▸ (Below.refl _ _).alloc (Nat.le_refl _) _
        have hn26 : OwnD V_26 W.heap.size (.slice (some ⟨V_25.heap.size, 0, none⟩) 0 0) [] := hX26 ▸ World.ownsRow_lit V_25 #[] 0 hB25.size (Nat.zero_le _) rfl
        have hx26 := hy25.keep hb26
        have hq26 : ∀ k, Value.ownBlock (.slice (some ⟨V_25.heap.size, 0, none⟩) 0 0) = some k → k ≠ W.heap.size := fun k hk => by have hl := lt_of_block hy25; have hk' : some V_25.heap.size = some k := hk; injection hk' with hk'; omega
        have hB26 := thenB hB25 hb26
        clear hX26
        refine hK _ _ ⟨((unhide HD).keep hB26), ?_⟩
        clear hK K
        try simp only [List.getElem_toArray, List.getElem_cons_zero, List.getElem_cons_succ, Act.put, List.setIfInBounds_toArray, List.set_cons_zero, List.set_cons_succ]
        refine wpAnyH_one 2 _ rfl (by kernel_rfl) (by kernel_rfl) ?_
        intro K hK
        have hcl27 := ((unhide HS).keep hB26).cell (j := 2) rfl
        go_simp
        refine hK _ _ ((unhide HD).keep hB26) ?_
        clear hK K
        try simp only [List.getElem_toArray, List.getElem_cons_zero, List.getElem_cons_succ, Act.put, List.setIfInBounds_toArray, List.set_cons_zero, List.set_cons_succ]
        refine wpAnyH_one 3 _ rfl (by kernel_rfl) (by kernel_rfl) ?_
        intro K hK
        obtain ⟨v28, V_28, hr28, ho28, hg28, hob28⟩ := append_many hn26 26 A2 c2 (((unhide HCk).keep (thenB (unhide HBk) hB26)).at_) (fun e => by have h := (unhide HCk).at_.at_ (fun e => by have := closedS_length seed U bs 64; rw [e] at this; simp at this); obtain ⟨b, o', h1, _⟩ := h; rw [e] at h1; cases h1) (by rw [closedS_length]; have := unhide HPB; simp only [List.length_nil]; omega) hB26.size
        rw [closedS_length] at hr28
        rw [List.nil_append] at ho28
        have hB28 := grown_below hB26 hg28 (fun k hk => (hn26.lt k hk).1)
        have hx28 := own_kept hx26 hg28 hq26
        have hq28 := own_ne hob28 hq26 (lt_of_block hx26)
        refine wp_append (.tmp 77) (.tmp 79) 26 rfl _ _ v28 V_28 rfl rfl hr28 ?_
        refine hK _ _ ((unhide HD).keep hB28) ?_
        clear hK K
        try simp only [List.getElem_toArray, List.getElem_cons_zero, List.getElem_cons_succ, Act.put, List.setIfInBounds_toArray, List.set_cons_zero, List.set_cons_succ]
        refine wpAnyH_chainOf [6, 7, 8] _ _ _ (by kernel_rfl) (by kernel_rfl) ?_
        simp only [List.filterMap_cons, List.filterMap_nil, List.getElem?_toArray, List.getElem?_cons_zero, List.getElem?_cons_succ]
        refine wpChain_step rfl fun K hK => ?_
        obtain ⟨v9, Y1, hr9, ho9, hg9, hob9⟩ := append_one ho28 26 (W.heap.size) 1 T (unhide HGT) hx28 (by rw [closedS_length]; have := unhide HPB; omega) hB28.size
        obtain ⟨A', c', rfl, hc9, hd9, _⟩ := own_form ho9 (fun d hd => by rcases List.mem_append.1 hd with h | h; exact (dg_closedS _ _ _ _) d h; rw [List.mem_singleton.1 h]; exact (unhide HGT))
        have hB9 := grown_below hB28 hg9 (fun k hk => (ho28.lt k hk).1)
        have hln : (closedS seed U bs 64 ++ [T]).length = 64 + 1 := by rw [List.length_append, closedS_length]; rfl
        rw [hln] at hr9 hc9 ho9
        refine wp_append (.tmp 80) (.tmp 82) 26 rfl _ _ _ Y1 rfl rfl hr9 ?_
        have hs9 := (unhide HS).keep hB9
        have hsd9 := (unhide HD).keep hB9
        refine hK _ _ hsd9 ?_
        clear hK K
        try simp only [List.getElem_toArray, List.getElem_cons_zero, List.getElem_cons_succ, Act.put, List.setIfInBounds_toArray, List.set_cons_zero, List.set_cons_succ]
        refine wpChain_step rfl fun K hK => ?_
        go_simp
        refine hK _ _ hsd9 ?_
        clear hK K
        have hcc := hs9.cell (j := 2) rfl
        have hff := hs9.free 2
        refine wpChain_step rfl fun K hK => ?_
        go_simp
        have hsd10 : ByAt (Y1.setCell ⟨N_HS, 2, none⟩ (.slice A' (64 + 1) c')) N_HD 24 T := (vs_set hsd9.vs (unhide HLOW).2 : VsAt _ N_HD 24 _)
        refine hK _ _ hsd10 (wpChain_nil ?_)
        clear hK K
        have hgk : GK W.heap.size N_HS W (Y1.setCell ⟨N_HS, 2, none⟩ (.slice A' (64 + 1) c')) := (GK.below (Nat.le_refl _) hB9).trans (gk_set 2 _)
        have hds := (show Ds (Y1.setCell ⟨N_HS, 2, none⟩ (.slice A' (64 + 1) c')) A' (closedS seed U bs 64 ++ [T]) by
          obtain ⟨B1, x1, hw, _, hdd⟩ := (ho9.putAt (P := N_HS) (o := 2) (u := .slice A' (64 + 1) c') (lt_of_block (unhide HS))).ds (fun d hd => by rcases List.mem_append.1 hd with h | h; exact (dg_closedS _ _ _ _) d h; rw [List.mem_singleton.1 h]; exact (unhide HGT))
          injection hw with hw _ _
          subst hw
          exact hdd)
        have hzs := hs9.set 2 (.slice A' (64 + 1) c')
        have hz1 := hgk.under (unhide HB) (unhide HB).size (unhide HLOW).1
        have hzk := hgk.under (unhide HBk) (unhide HBk).size (by have := unhide HNM; omega)
        obtain ⟨wc, hwc⟩ : ∃ x, x = Y1.setCell ⟨N_HS, 2, none⟩ (.slice A' (64 + 1) c') := ⟨_, rfl⟩
        rw [← hwc] at hds hzs hz1 hzk hsd10 ⊢
        have HZS := hide (show VsAt wc N_HS 52 [.int .i64 (U : Int), .slice A1 64 c1, .slice A' (64 + 1) c', .slice A3 p c3] from hzs); have HZD := hide hsd10; have HZ1 := hide hz1; have HZK := hide hzk; have HDS' := hide hds; have HC' : Hid (64 + 1 ≤ c') := hc9
        clear hds hzs hz1 hzk hsd10 hgk hwc hr9 ho9 hg9 hob9 hc9 hd9 hln hs9 hsd9 hcc hff hB9
        go_upto_region 26 with fail
        refine wp_region_lit ?_
        refine wpList_gload (by kernel_rfl) 24 (.tmp 9) rfl N_HD rfl _ Tryd.underlying24 rfl 32 info32 _ T (unhide HZD) (unhide HGT).len ?_
        rw [show dv T = .agg ct by rw [unhide HCT]]
        try simp only [List.getElem_toArray, List.getElem_cons_zero, List.getElem_cons_succ, Act.put, List.setIfInBounds_toArray, List.set_cons_zero, List.set_cons_succ]
        refine wpList_wanted (by kernel_rfl) fun Kt hKt => ?_
        go_simp
        refine hKt _ _ ?_
        clear hKt Kt
        refine wpList_wanted (by kernel_rfl) fun Kt hKt => ?_
        go_simp
        refine hKt _ _ ?_
        clear hKt Kt
        refine wpList_vgload (by kernel_rfl) 52 (.tmp 12) rfl N_HS rfl _ Tryd.underlying52 rfl _ [.int .i64 (U : Int), .slice A1 64 c1, .slice A' 65 c', .slice A3 p c3] infoSig (unhide HZS) ?_
        try simp only [List.getElem_toArray, List.getElem_cons_zero, List.getElem_cons_succ, Act.put, List.setIfInBounds_toArray, List.set_cons_zero, List.set_cons_succ]
        have hve := Verify_no wc T (unhide HGT) (M : Int) (U : Int) Aa na ca A1 64 c1 A' 65 c' A3 p c3 (.inr (.inr (.inr (.inr (.inr (by decide))))))
        rw [show dv T = .agg ct by rw [unhide HCT]] at hve
        go_wp2_with fail
        refine hve.mono ?_; rintro x Z9 ⟨rfl, hb⟩
        have HZB := hide (thenB (unhide HZ1) hb)
        clear hve hb
        go_wp2_with fail
        go_ret
        exact ⟨rfl, unhide HZB⟩
      · clear hx
        refine wpOp_one 2 _ rfl (by kernel_rfl) fun K hK => ?_
        have hcl30 := ((unhide HS).keep hB25).cell (j := 2) rfl
        go_simp
        refine hK _ _ ⟨((unhide HD).keep hB25), ?_⟩
        clear hK K
        try simp only [List.getElem_toArray, List.getElem_cons_zero, List.getElem_cons_succ, Act.put, List.setIfInBounds_toArray, List.set_cons_zero, List.set_cons_succ]
        refine wpAnyH_one 0 _ rfl (by kernel_rfl) (by kernel_rfl) ?_
        intro K hK
        go_simp
        generalize hX31 : V_25.alloc _ = V_31
        have hb31 : Below V_25.heap.size V_25 V_31 := hX31 ▸ (Below.refl _ _).alloc (Nat.le_refl _) _
        have hn31 : OwnD V_31 W.heap.size (.slice (some ⟨V_25.heap.size, 0, none⟩) 0 0) [] := hX31 ▸ World.ownsRow_lit V_25 #[] 0 hB25.size (Nat.zero_le _) rfl
        have hx31 := hy25.keep hb31
        have hq31 : ∀ k, Value.ownBlock (.slice (some ⟨V_25.heap.size, 0, none⟩) 0 0) = some k → k ≠ W.heap.size := fun k hk => by have hl := lt_of_block hy25; have hk' : some V_25.heap.size = some k := hk; injection hk' with hk'; omega
        have hB31 := thenB hB25 hb31
        clear hX31
        refine hK _ _ ((unhide HD).keep hB31) ?_
        clear hK K
        try simp only [List.getElem_toArray, List.getElem_cons_zero, List.getElem_cons_succ, Act.put, List.setIfInBounds_toArray, List.set_cons_zero, List.set_cons_succ]
        refine wpAnyH_one 3 _ rfl (by kernel_rfl) (by kernel_rfl) ?_
        intro K hK
        obtain ⟨v32, V_32, hr32, ho32, hg32, hob32⟩ := append_many hn31 26 A2 c2 (((unhide HCk).keep (thenB (unhide HBk) hB31)).at_) (fun e => by have h := (unhide HCk).at_.at_ (fun e => by have := closedS_length seed U bs 64; rw [e] at this; simp at this); obtain ⟨b, o', h1, _⟩ := h; rw [e] at h1; cases h1) (by rw [closedS_length]; have := unhide HPB; simp only [List.length_nil]; omega) hB31.size
        rw [closedS_length] at hr32
        rw [List.nil_append] at ho32
        have hB32 := grown_below hB31 hg32 (fun k hk => (hn31.lt k hk).1)
        have hx32 := own_kept hx31 hg32 hq31
        have hq32 := own_ne hob32 hq31 (lt_of_block hx31)
        refine wp_append (.tmp 77) (.tmp 79) 26 rfl _ _ v32 V_32 rfl rfl hr32 ?_
        refine hK _ _ ((unhide HD).keep hB32) ?_
        clear hK K
        try simp only [List.getElem_toArray, List.getElem_cons_zero, List.getElem_cons_succ, Act.put, List.setIfInBounds_toArray, List.set_cons_zero, List.set_cons_succ]
        refine wpAnyH_chainOf [6, 7, 8] _ _ _ (by kernel_rfl) (by kernel_rfl) ?_
        simp only [List.filterMap_cons, List.filterMap_nil, List.getElem?_toArray, List.getElem?_cons_zero, List.getElem?_cons_succ]
        refine wpChain_step rfl fun K hK => ?_
        obtain ⟨v9, Y1, hr9, ho9, hg9, hob9⟩ := append_one ho32 26 (W.heap.size) 1 T (unhide HGT) hx32 (by rw [closedS_length]; have := unhide HPB; omega) hB32.size
        obtain ⟨A', c', rfl, hc9, hd9, _⟩ := own_form ho9 (fun d hd => by rcases List.mem_append.1 hd with h | h; exact (dg_closedS _ _ _ _) d h; rw [List.mem_singleton.1 h]; exact (unhide HGT))
        have hB9 := grown_below hB32 hg9 (fun k hk => (ho32.lt k hk).1)
        have hln : (closedS seed U bs 64 ++ [T]).length = 64 + 1 := by rw [List.length_append, closedS_length]; rfl
        rw [hln] at hr9 hc9 ho9
        refine wp_append (.tmp 80) (.tmp 82) 26 rfl _ _ _ Y1 rfl rfl hr9 ?_
        have hs9 := (unhide HS).keep hB9
        have hsd9 := (unhide HD).keep hB9
        refine hK _ _ hsd9 ?_
        clear hK K
        try simp only [List.getElem_toArray, List.getElem_cons_zero, List.getElem_cons_succ, Act.put, List.setIfInBounds_toArray, List.set_cons_zero, List.set_cons_succ]
        refine wpChain_step rfl fun K hK => ?_
        go_simp
        refine hK _ _ hsd9 ?_
        clear hK K
        have hcc := hs9.cell (j := 2) rfl
        have hff := hs9.free 2
        refine wpChain_step rfl fun K hK => ?_
        go_simp
        have hsd10 : ByAt (Y1.setCell ⟨N_HS, 2, none⟩ (.slice A' (64 + 1) c')) N_HD 24 T := (vs_set hsd9.vs (unhide HLOW).2 : VsAt _ N_HD 24 _)
        refine hK _ _ hsd10 (wpChain_nil ?_)
        clear hK K
        have hgk : GK W.heap.size N_HS W (Y1.setCell ⟨N_HS, 2, none⟩ (.slice A' (64 + 1) c')) := (GK.below (Nat.le_refl _) hB9).trans (gk_set 2 _)
        have hds := (show Ds (Y1.setCell ⟨N_HS, 2, none⟩ (.slice A' (64 + 1) c')) A' (closedS seed U bs 64 ++ [T]) by
          obtain ⟨B1, x1, hw, _, hdd⟩ := (ho9.putAt (P := N_HS) (o := 2) (u := .slice A' (64 + 1) c') (lt_of_block (unhide HS))).ds (fun d hd => by rcases List.mem_append.1 hd with h | h; exact (dg_closedS _ _ _ _) d h; rw [List.mem_singleton.1 h]; exact (unhide HGT))
          injection hw with hw _ _
          subst hw
          exact hdd)
        have hzs := hs9.set 2 (.slice A' (64 + 1) c')
        have hz1 := hgk.under (unhide HB) (unhide HB).size (unhide HLOW).1
        have hzk := hgk.under (unhide HBk) (unhide HBk).size (by have := unhide HNM; omega)
        obtain ⟨wc, hwc⟩ : ∃ x, x = Y1.setCell ⟨N_HS, 2, none⟩ (.slice A' (64 + 1) c') := ⟨_, rfl⟩
        rw [← hwc] at hds hzs hz1 hzk hsd10 ⊢
        have HZS := hide (show VsAt wc N_HS 52 [.int .i64 (U : Int), .slice A1 64 c1, .slice A' (64 + 1) c', .slice A3 p c3] from hzs); have HZD := hide hsd10; have HZ1 := hide hz1; have HZK := hide hzk; have HDS' := hide hds; have HC' : Hid (64 + 1 ≤ c') := hc9
        clear hds hzs hz1 hzk hsd10 hgk hwc hr9 ho9 hg9 hob9 hc9 hd9 hln hs9 hsd9 hcc hff hB9
        go_upto_region 26 with fail
        refine wp_region_lit ?_
        refine wpList_gload (by kernel_rfl) 24 (.tmp 9) rfl N_HD rfl _ Tryd.underlying24 rfl 32 info32 _ T (unhide HZD) (unhide HGT).len ?_
        rw [show dv T = .agg ct by rw [unhide HCT]]
        try simp only [List.getElem_toArray, List.getElem_cons_zero, List.getElem_cons_succ, Act.put, List.setIfInBounds_toArray, List.set_cons_zero, List.set_cons_succ]
        refine wpList_wanted (by kernel_rfl) fun Kt hKt => ?_
        go_simp
        refine hKt _ _ ?_
        clear hKt Kt
        refine wpList_wanted (by kernel_rfl) fun Kt hKt => ?_
        go_simp
        refine hKt _ _ ?_
        clear hKt Kt
        refine wpList_vgload (by kernel_rfl) 52 (.tmp 12) rfl N_HS rfl _ Tryd.underlying52 rfl _ [.int .i64 (U : Int), .slice A1 64 c1, .slice A' 65 c', .slice A3 p c3] infoSig (unhide HZS) ?_
        try simp only [List.getElem_toArray, List.getElem_cons_zero, List.getElem_cons_succ, Act.put, List.setIfInBounds_toArray, List.set_cons_zero, List.set_cons_succ]
        have hve := Verify_no wc T (unhide HGT) (M : Int) (U : Int) Aa na ca A1 64 c1 A' 65 c' A3 p c3 (.inr (.inr (.inr (.inr (.inr (by decide))))))
        rw [show dv T = .agg ct by rw [unhide HCT]] at hve
        go_wp2_with fail
        refine hve.mono ?_; rintro x Z9 ⟨rfl, hb⟩
        have HZB := hide (thenB (unhide HZ1) hb)
        clear hve hb
        go_wp2_with fail
        go_ret
        exact ⟨rfl, unhide HZB⟩
  by_cases h2 : how = 2
  · subst h2
    go_wp2_with fail
    obtain ⟨W, hW⟩ : ∃ W, W = W11.drewN 1 := ⟨_, rfl⟩
    have HW : Hid (W = W11.drewN 1) := hW
    have hb := below_named HW
    clear hW e0 e1 e2 e3 q0 q1 q2 w3 w4 w6
    replace HT := hide ((unhide HT).keep hb)
    replace HA := hide ((unhide HA).keep hb)
    replace HMA := hide ((unhide HMA).keep hb)
    replace HK := hide ((unhide HK).keep hb)
    replace HD := hide ((unhide HD).keep hb)
    replace HX := hide ((unhide HX).keep hb)
    replace HS := hide ((unhide HS).keep hb)
    replace HB := hide (thenB (unhide HB) hb)
    replace HBk := hide (thenB (unhide HBk) hb)
    clear hb
    have hB0 : Below W.heap.size W W := Below.refl _ _
    have hSD : ByAt W N_HD 24 T := unhide HD
    refine held (S := fun V => ByAt V N_HD 24 T) W HW (by kernel_rfl) ?_
    refine wpAnyH_take (i := 1) (v := ?_) rfl (by kernel_rfl) (by kernel_rfl) (by kernel_rfl) (fun _ _ _ h => h) (Or.inl ⟨by kernel_rfl, ?_⟩) (by assumption) ?_
    rotate_left
    · intro Wt hSt
      go_simp
      try with_reducible rfl
    try simp only [List.getElem_toArray, List.getElem_cons_zero, List.getElem_cons_succ, Act.put, List.setIfInBounds_toArray, List.set_cons_zero, List.set_cons_succ]
    refine wpAnyH_take (i := 4) (v := .agg ct) rfl (by kernel_rfl) (by kernel_rfl) (by kernel_rfl) (fun _ _ _ h => h) (by rw [unhide HCT]; exact yieldsIf_load_mid (by kernel_rfl) 24 (.tmp 9) rfl N_HD 0 rfl (T.map (Value.int .u8)) _ (fun W hS => ByAt.range hS) Tryd.underlying24 rfl (by rw [List.length_map, (unhide HGT).len]; exact info32)) (by assumption) ?_
    try simp only [List.getElem_toArray, List.getElem_cons_zero, List.getElem_cons_succ, Act.put, List.setIfInBounds_toArray, List.set_cons_zero, List.set_cons_succ]
    refine wpAnyH_all (show Region.ready .any _ _ = [0, 2, 5] by kernel_rfl) (by simp) fun x hx => ?_
    rcases (by simpa using hx : x = 0 ∨ x = 2 ∨ x = 5) with rfl | rfl | rfl
    · clear hx
      refine wpOp_one 0 _ rfl (by kernel_rfl) fun K hK => ?_
      go_simp
      generalize hX34 : W.alloc _ = V_34
      have hb34 : Below W.heap.size W V_34 := hX34 ▸ (Below.refl _ _).alloc (Nat.le_refl _) _
      have hn34 : OwnD V_34 W.heap.size (.slice (some ⟨W.heap.size, 0, none⟩) 0 0) [] := hX34 ▸ World.ownsRow_lit W #[] 0 hB0.size (Nat.zero_le _) rfl
      have hB34 := thenB hB0 hb34
      clear hX34
      refine hK _ _ ⟨((unhide HD).keep hB34), ?_⟩
      clear hK K
      try simp only [List.getElem_toArray, List.getElem_cons_zero, List.getElem_cons_succ, Act.put, List.setIfInBounds_toArray, List.set_cons_zero, List.set_cons_succ]
      refine wpAnyH_all (show Region.ready .any _ _ = [2, 5] by kernel_rfl) (by simp) fun x hx => ?_
      rcases (by simpa using hx : x = 2 ∨ x = 5) with rfl | rfl
      · clear hx
        refine wpOp_one 2 _ rfl (by kernel_rfl) fun K hK => ?_
        have hcl35 := ((unhide HS).keep hB34).cell (j := 3) rfl
        go_simp
        refine hK _ _ ⟨((unhide HD).keep hB34), ?_⟩
        clear hK K
        try simp only [List.getElem_toArray, List.getElem_cons_zero, List.getElem_cons_succ, Act.put, List.setIfInBounds_toArray, List.set_cons_zero, List.set_cons_succ]
        refine wpAnyH_all (show Region.ready .any _ _ = [3, 5] by kernel_rfl) (by simp) fun x hx => ?_
        rcases (by simpa using hx : x = 3 ∨ x = 5) with rfl | rfl
        · clear hx
          refine wpOp_one 3 _ rfl (by kernel_rfl) fun K hK => ?_
          obtain ⟨v36, V_36, hr36, ho36, hg36, hob36⟩ := append_many hn34 26 A3 c3 ((unhide HPk).keep (thenB (unhide HBk) hB34)) (unhide HPL).2 (by rw [← unhide HPN]; have := unhide HPB; simp only [List.length_nil]; omega) hB34.size
          rw [← unhide HPN] at hr36
          rw [List.nil_append] at ho36
          have hB36 := grown_below hB34 hg36 (fun k hk => (hn34.lt k hk).1)
          refine wp_append (.tmp 87) (.tmp 89) 26 rfl _ _ v36 V_36 rfl rfl hr36 ?_
          refine hK _ _ ⟨((unhide HD).keep hB36), ?_⟩
          clear hK K
          try simp only [List.getElem_toArray, List.getElem_cons_zero, List.getElem_cons_succ, Act.put, List.setIfInBounds_toArray, List.set_cons_zero, List.set_cons_succ]
          refine wpAnyH_one 5 _ rfl (by kernel_rfl) (by kernel_rfl) ?_
          intro K hK
          go_simp
          rw [overwritten hst (by rfl)]
          generalize hX37 : V_36.alloc _ = V_37
          have hb37 : Below V_36.heap.size V_36 V_37 := hX37 ▸ (Below.refl _ _).alloc (Nat.le_refl _) _
          have hy37 : ByAt V_37 V_36.heap.size 24 T := boxed V_36 V_37 T _ (by rw [← hX37, unhide HCT]; rfl)
          have hq37 : ∀ k, Value.ownBlock (v36) = some k → k ≠ V_36.heap.size := fun k hk => by have hl := (ho36.lt k hk).2; omega
          have hm37 := ho36.later hb37
          have hB37 := thenB hB36 hb37
          clear hX37
          refine hK _ _ ((unhide HD).keep hB37) ?_
          clear hK K
          try simp only [List.getElem_toArray, List.getElem_cons_zero, List.getElem_cons_succ, Act.put, List.setIfInBounds_toArray, List.set_cons_zero, List.set_cons_succ]
          refine wpAnyH_chainOf [6, 7, 8] _ _ _ (by kernel_rfl) (by kernel_rfl) ?_
          simp only [List.filterMap_cons, List.filterMap_nil, List.getElem?_toArray, List.getElem?_cons_zero, List.getElem?_cons_succ]
          refine wpChain_step rfl fun K hK => ?_
          obtain ⟨v9, Y1, hr9, ho9, hg9, hob9⟩ := append_one hm37 26 (V_36.heap.size) 1 T (unhide HGT) hy37 (by rw [← unhide HPN]; have := unhide HPB; omega) hB37.size
          obtain ⟨A', c', rfl, hc9, hd9, _⟩ := own_form ho9 (fun d hd => by rcases List.mem_append.1 hd with h | h; exact (unhide HPk).dg d h; rw [List.mem_singleton.1 h]; exact (unhide HGT))
          have hB9 := grown_below hB37 hg9 (fun k hk => (hm37.lt k hk).1)
          have hln : (pathP (pubsS seed M) U ++ [T]).length = p + 1 := by rw [List.length_append, ← unhide HPN]; rfl
          rw [hln] at hr9 hc9 ho9
          refine wp_append (.tmp 90) (.tmp 92) 26 rfl _ _ _ Y1 rfl rfl hr9 ?_
          have hs9 := (unhide HS).keep hB9
          have hsd9 := (unhide HD).keep hB9
          refine hK _ _ hsd9 ?_
          clear hK K
          try simp only [List.getElem_toArray, List.getElem_cons_zero, List.getElem_cons_succ, Act.put, List.setIfInBounds_toArray, List.set_cons_zero, List.set_cons_succ]
          refine wpChain_step rfl fun K hK => ?_
          go_simp
          refine hK _ _ hsd9 ?_
          clear hK K
          have hcc := hs9.cell (j := 3) rfl
          have hff := hs9.free 3
          refine wpChain_step rfl fun K hK => ?_
          go_simp
          have hsd10 : ByAt (Y1.setCell ⟨N_HS, 3, none⟩ (.slice A' (p + 1) c')) N_HD 24 T := (vs_set hsd9.vs (unhide HLOW).2 : VsAt _ N_HD 24 _)
          refine hK _ _ hsd10 (wpChain_nil ?_)
          clear hK K
          have hgk : GK W.heap.size N_HS W (Y1.setCell ⟨N_HS, 3, none⟩ (.slice A' (p + 1) c')) := (GK.below (Nat.le_refl _) hB9).trans (gk_set 3 _)
          have hds := (show Ds (Y1.setCell ⟨N_HS, 3, none⟩ (.slice A' (p + 1) c')) A' (pathP (pubsS seed M) U ++ [T]) by
            obtain ⟨B1, x1, hw, _, hdd⟩ := (ho9.putAt (P := N_HS) (o := 3) (u := .slice A' (p + 1) c') (lt_of_block (unhide HS))).ds (fun d hd => by rcases List.mem_append.1 hd with h | h; exact (unhide HPk).dg d h; rw [List.mem_singleton.1 h]; exact (unhide HGT))
            injection hw with hw _ _
            subst hw
            exact hdd)
          have hzs := hs9.set 3 (.slice A' (p + 1) c')
          have hz1 := hgk.under (unhide HB) (unhide HB).size (unhide HLOW).1
          have hzk := hgk.under (unhide HBk) (unhide HBk).size (by have := unhide HNM; omega)
          obtain ⟨wc, hwc⟩ : ∃ x, x = Y1.setCell ⟨N_HS, 3, none⟩ (.slice A' (p + 1) c') := ⟨_, rfl⟩
          rw [← hwc] at hds hzs hz1 hzk hsd10 ⊢
          have HZS := hide (show VsAt wc N_HS 52 [.int .i64 (U : Int), .slice A1 64 c1, .slice A2 64 c2, .slice A' (p + 1) c'] from hzs); have HZD := hide hsd10; have HZ1 := hide hz1; have HZK := hide hzk; have HDS' := hide hds; have HC' : Hid (p + 1 ≤ c') := hc9
          clear hds hzs hz1 hzk hsd10 hgk hwc hr9 ho9 hg9 hob9 hc9 hd9 hln hs9 hsd9 hcc hff hB9
          go_upto_region 26 with fail
          refine wp_region_lit ?_
          refine wpList_gload (by kernel_rfl) 24 (.tmp 9) rfl N_HD rfl _ Tryd.underlying24 rfl 32 info32 _ T (unhide HZD) (unhide HGT).len ?_
          rw [show dv T = .agg ct by rw [unhide HCT]]
          try simp only [List.getElem_toArray, List.getElem_cons_zero, List.getElem_cons_succ, Act.put, List.setIfInBounds_toArray, List.set_cons_zero, List.set_cons_succ]
          refine wpList_wanted (by kernel_rfl) fun Kt hKt => ?_
          go_simp
          refine hKt _ _ ?_
          clear hKt Kt
          refine wpList_wanted (by kernel_rfl) fun Kt hKt => ?_
          go_simp
          refine hKt _ _ ?_
          clear hKt Kt
          refine wpList_vgload (by kernel_rfl) 52 (.tmp 12) rfl N_HS rfl _ Tryd.underlying52 rfl _ [.int .i64 (U : Int), .slice A1 64 c1, .slice A2 64 c2, .slice A' (p + 1) c'] infoSig (unhide HZS) ?_
          try simp only [List.getElem_toArray, List.getElem_cons_zero, List.getElem_cons_succ, Act.put, List.setIfInBounds_toArray, List.set_cons_zero, List.set_cons_succ]
          have hve := Verify_any wc T (unhide HGT) M U (by have := unhide HNN; omega) (by have := unhide HNN; omega) (by have := unhide HNN; have := unhide HUM; omega) Aa na ca ma (unhide HNA).1 (unhide HNA).2.1 ((unhide HMA0).keep (unhide HZ1)) (unhide HNA).2.2 (by have := unhide HNN; omega) A1 c1 _ ((unhide HOk).keep (unhide HZK)) A2 c2 _ ((unhide HCk).keep (unhide HZK)) A' (p + 1) c' _ (by rw [List.length_append, ← unhide HPN]; rfl) (unhide HC') (unhide HDS') ((unhide HT0).keep (unhide HZ1))
          rw [verS_long T seed M U _ _ _ (by have := unhide HNN; have := unhide HUM; omega), show dv T = .agg ct by rw [unhide HCT]] at hve
          go_wp2_with fail
          refine hve.mono ?_; rintro x Z9 ⟨rfl, hb⟩
          have HZB := hide (thenB (unhide HZ1) hb)
          clear hve hb
          go_wp2_with fail
          go_ret
          exact ⟨rfl, unhide HZB⟩
        · clear hx
          refine wpOp_one 5 _ rfl (by kernel_rfl) fun K hK => ?_
          go_simp
          rw [overwritten hst (by rfl)]
          generalize hX39 : V_34.alloc _ = V_39
          have hb39 : Below V_34.heap.size V_34 V_39 := hX39 ▸ (Below.refl _ _).alloc (Nat.le_refl _) _
          have hy39 : ByAt V_39 V_34.heap.size 24 T := boxed V_34 V_39 T _ (by rw [← hX39, unhide HCT]; rfl)
          have hq39 : ∀ k, Value.ownBlock (.slice (some ⟨W.heap.size, 0, none⟩) 0 0) = some k → k ≠ V_34.heap.size := fun k hk => by have hl := (hn34.lt k hk).2; omega
          have he39 := hn34.later hb39
          have hB39 := thenB hB34 hb39
          clear hX39
          refine hK _ _ ⟨((unhide HD).keep hB39), ?_⟩
          clear hK K
          try simp only [List.getElem_toArray, List.getElem_cons_zero, List.getElem_cons_succ, Act.put, List.setIfInBounds_toArray, List.set_cons_zero, List.set_cons_succ]
          refine wpAnyH_one 3 _ rfl (by kernel_rfl) (by kernel_rfl) ?_
          intro K hK
          obtain ⟨v40, V_40, hr40, ho40, hg40, hob40⟩ := append_many he39 26 A3 c3 ((unhide HPk).keep (thenB (unhide HBk) hB39)) (unhide HPL).2 (by rw [← unhide HPN]; have := unhide HPB; simp only [List.length_nil]; omega) hB39.size
          rw [← unhide HPN] at hr40
          rw [List.nil_append] at ho40
          have hB40 := grown_below hB39 hg40 (fun k hk => (he39.lt k hk).1)
          have hx40 := own_kept hy39 hg40 hq39
          have hq40 := own_ne hob40 hq39 (lt_of_block hy39)
          refine wp_append (.tmp 87) (.tmp 89) 26 rfl _ _ v40 V_40 rfl rfl hr40 ?_
          refine hK _ _ ((unhide HD).keep hB40) ?_
          clear hK K
          try simp only [List.getElem_toArray, List.getElem_cons_zero, List.getElem_cons_succ, Act.put, List.setIfInBounds_toArray, List.set_cons_zero, List.set_cons_succ]
          refine wpAnyH_chainOf [6, 7, 8] _ _ _ (by kernel_rfl) (by kernel_rfl) ?_
          simp only [List.filterMap_cons, List.filterMap_nil, List.getElem?_toArray, List.getElem?_cons_zero, List.getElem?_cons_succ]
          refine wpChain_step rfl fun K hK => ?_
          obtain ⟨v9, Y1, hr9, ho9, hg9, hob9⟩ := append_one ho40 26 (V_34.heap.size) 1 T (unhide HGT) hx40 (by rw [← unhide HPN]; have := unhide HPB; omega) hB40.size
          obtain ⟨A', c', rfl, hc9, hd9, _⟩ := own_form ho9 (fun d hd => by rcases List.mem_append.1 hd with h | h; exact (unhide HPk).dg d h; rw [List.mem_singleton.1 h]; exact (unhide HGT))
          have hB9 := grown_below hB40 hg9 (fun k hk => (ho40.lt k hk).1)
          have hln : (pathP (pubsS seed M) U ++ [T]).length = p + 1 := by rw [List.length_append, ← unhide HPN]; rfl
          rw [hln] at hr9 hc9 ho9
          refine wp_append (.tmp 90) (.tmp 92) 26 rfl _ _ _ Y1 rfl rfl hr9 ?_
          have hs9 := (unhide HS).keep hB9
          have hsd9 := (unhide HD).keep hB9
          refine hK _ _ hsd9 ?_
          clear hK K
          try simp only [List.getElem_toArray, List.getElem_cons_zero, List.getElem_cons_succ, Act.put, List.setIfInBounds_toArray, List.set_cons_zero, List.set_cons_succ]
          refine wpChain_step rfl fun K hK => ?_
          go_simp
          refine hK _ _ hsd9 ?_
          clear hK K
          have hcc := hs9.cell (j := 3) rfl
          have hff := hs9.free 3
          refine wpChain_step rfl fun K hK => ?_
          go_simp
          have hsd10 : ByAt (Y1.setCell ⟨N_HS, 3, none⟩ (.slice A' (p + 1) c')) N_HD 24 T := (vs_set hsd9.vs (unhide HLOW).2 : VsAt _ N_HD 24 _)
          refine hK _ _ hsd10 (wpChain_nil ?_)
          clear hK K
          have hgk : GK W.heap.size N_HS W (Y1.setCell ⟨N_HS, 3, none⟩ (.slice A' (p + 1) c')) := (GK.below (Nat.le_refl _) hB9).trans (gk_set 3 _)
          have hds := (show Ds (Y1.setCell ⟨N_HS, 3, none⟩ (.slice A' (p + 1) c')) A' (pathP (pubsS seed M) U ++ [T]) by
            obtain ⟨B1, x1, hw, _, hdd⟩ := (ho9.putAt (P := N_HS) (o := 3) (u := .slice A' (p + 1) c') (lt_of_block (unhide HS))).ds (fun d hd => by rcases List.mem_append.1 hd with h | h; exact (unhide HPk).dg d h; rw [List.mem_singleton.1 h]; exact (unhide HGT))
            injection hw with hw _ _
            subst hw
            exact hdd)
          have hzs := hs9.set 3 (.slice A' (p + 1) c')
          have hz1 := hgk.under (unhide HB) (unhide HB).size (unhide HLOW).1
          have hzk := hgk.under (unhide HBk) (unhide HBk).size (by have := unhide HNM; omega)
          obtain ⟨wc, hwc⟩ : ∃ x, x = Y1.setCell ⟨N_HS, 3, none⟩ (.slice A' (p + 1) c') := ⟨_, rfl⟩
          rw [← hwc] at hds hzs hz1 hzk hsd10 ⊢
          have HZS := hide (show VsAt wc N_HS 52 [.int .i64 (U : Int), .slice A1 64 c1, .slice A2 64 c2, .slice A' (p + 1) c'] from hzs); have HZD := hide hsd10; have HZ1 := hide hz1; have HZK := hide hzk; have HDS' := hide hds; have HC' : Hid (p + 1 ≤ c') := hc9
          clear hds hzs hz1 hzk hsd10 hgk hwc hr9 ho9 hg9 hob9 hc9 hd9 hln hs9 hsd9 hcc hff hB9
          go_upto_region 26 with fail
          refine wp_region_lit ?_
          refine wpList_gload (by kernel_rfl) 24 (.tmp 9) rfl N_HD rfl _ Tryd.underlying24 rfl 32 info32 _ T (unhide HZD) (unhide HGT).len ?_
          rw [show dv T = .agg ct by rw [unhide HCT]]
          try simp only [List.getElem_toArray, List.getElem_cons_zero, List.getElem_cons_succ, Act.put, List.setIfInBounds_toArray, List.set_cons_zero, List.set_cons_succ]
          refine wpList_wanted (by kernel_rfl) fun Kt hKt => ?_
          go_simp
          refine hKt _ _ ?_
          clear hKt Kt
          refine wpList_wanted (by kernel_rfl) fun Kt hKt => ?_
          go_simp
          refine hKt _ _ ?_
          clear hKt Kt
          refine wpList_vgload (by kernel_rfl) 52 (.tmp 12) rfl N_HS rfl _ Tryd.underlying52 rfl _ [.int .i64 (U : Int), .slice A1 64 c1, .slice A2 64 c2, .slice A' (p + 1) c'] infoSig (unhide HZS) ?_
          try simp only [List.getElem_toArray, List.getElem_cons_zero, List.getElem_cons_succ, Act.put, List.setIfInBounds_toArray, List.set_cons_zero, List.set_cons_succ]
          have hve := Verify_any wc T (unhide HGT) M U (by have := unhide HNN; omega) (by have := unhide HNN; omega) (by have := unhide HNN; have := unhide HUM; omega) Aa na ca ma (unhide HNA).1 (unhide HNA).2.1 ((unhide HMA0).keep (unhide HZ1)) (unhide HNA).2.2 (by have := unhide HNN; omega) A1 c1 _ ((unhide HOk).keep (unhide HZK)) A2 c2 _ ((unhide HCk).keep (unhide HZK)) A' (p + 1) c' _ (by rw [List.length_append, ← unhide HPN]; rfl) (unhide HC') (unhide HDS') ((unhide HT0).keep (unhide HZ1))
          rw [verS_long T seed M U _ _ _ (by have := unhide HNN; have := unhide HUM; omega), show dv T = .agg ct by rw [unhide HCT]] at hve
          go_wp2_with fail
          refine hve.mono ?_; rintro x Z9 ⟨rfl, hb⟩
          have HZB := hide (thenB (unhide HZ1) hb)
          clear hve hb
          go_wp2_with fail
          go_ret
          exact ⟨rfl, unhide HZB⟩
      · clear hx
        refine wpOp_one 5 _ rfl (by kernel_rfl) fun K hK => ?_
        go_simp
        rw [overwritten hst (by rfl)]
        generalize hX42 : V_34.alloc _ = V_42
        have hb42 : Below V_34.heap.size V_34 V_42 := hX42 ▸ (Below.refl _ _).alloc (Nat.le_refl _) _
        have hy42 : ByAt V_42 V_34.heap.size 24 T := boxed V_34 V_42 T _ (by rw [← hX42, unhide HCT]; rfl)
        have hq42 : ∀ k, Value.ownBlock (.slice (some ⟨W.heap.size, 0, none⟩) 0 0) = some k → k ≠ V_34.heap.size := fun k hk => by have hl := (hn34.lt k hk).2; omega
        have he42 := hn34.later hb42
        have hB42 := thenB hB34 hb42
        clear hX42
        refine hK _ _ ⟨((unhide HD).keep hB42), ?_⟩
        clear hK K
        try simp only [List.getElem_toArray, List.getElem_cons_zero, List.getElem_cons_succ, Act.put, List.setIfInBounds_toArray, List.set_cons_zero, List.set_cons_succ]
        refine wpAnyH_one 2 _ rfl (by kernel_rfl) (by kernel_rfl) ?_
        intro K hK
        have hcl43 := ((unhide HS).keep hB42).cell (j := 3) rfl
        go_simp
        refine hK _ _ ((unhide HD).keep hB42) ?_
        clear hK K
        try simp only [List.getElem_toArray, List.getElem_cons_zero, List.getElem_cons_succ, Act.put, List.setIfInBounds_toArray, List.set_cons_zero, List.set_cons_succ]
        refine wpAnyH_one 3 _ rfl (by kernel_rfl) (by kernel_rfl) ?_
        intro K hK
        obtain ⟨v44, V_44, hr44, ho44, hg44, hob44⟩ := append_many he42 26 A3 c3 ((unhide HPk).keep (thenB (unhide HBk) hB42)) (unhide HPL).2 (by rw [← unhide HPN]; have := unhide HPB; simp only [List.length_nil]; omega) hB42.size
        rw [← unhide HPN] at hr44
        rw [List.nil_append] at ho44
        have hB44 := grown_below hB42 hg44 (fun k hk => (he42.lt k hk).1)
        have hx44 := own_kept hy42 hg44 hq42
        have hq44 := own_ne hob44 hq42 (lt_of_block hy42)
        refine wp_append (.tmp 87) (.tmp 89) 26 rfl _ _ v44 V_44 rfl rfl hr44 ?_
        refine hK _ _ ((unhide HD).keep hB44) ?_
        clear hK K
        try simp only [List.getElem_toArray, List.getElem_cons_zero, List.getElem_cons_succ, Act.put, List.setIfInBounds_toArray, List.set_cons_zero, List.set_cons_succ]
        refine wpAnyH_chainOf [6, 7, 8] _ _ _ (by kernel_rfl) (by kernel_rfl) ?_
        simp only [List.filterMap_cons, List.filterMap_nil, List.getElem?_toArray, List.getElem?_cons_zero, List.getElem?_cons_succ]
        refine wpChain_step rfl fun K hK => ?_
        obtain ⟨v9, Y1, hr9, ho9, hg9, hob9⟩ := append_one ho44 26 (V_34.heap.size) 1 T (unhide HGT) hx44 (by rw [← unhide HPN]; have := unhide HPB; omega) hB44.size
        obtain ⟨A', c', rfl, hc9, hd9, _⟩ := own_form ho9 (fun d hd => by rcases List.mem_append.1 hd with h | h; exact (unhide HPk).dg d h; rw [List.mem_singleton.1 h]; exact (unhide HGT))
        have hB9 := grown_below hB44 hg9 (fun k hk => (ho44.lt k hk).1)
        have hln : (pathP (pubsS seed M) U ++ [T]).length = p + 1 := by rw [List.length_append, ← unhide HPN]; rfl
        rw [hln] at hr9 hc9 ho9
        refine wp_append (.tmp 90) (.tmp 92) 26 rfl _ _ _ Y1 rfl rfl hr9 ?_
        have hs9 := (unhide HS).keep hB9
        have hsd9 := (unhide HD).keep hB9
        refine hK _ _ hsd9 ?_
        clear hK K
        try simp only [List.getElem_toArray, List.getElem_cons_zero, List.getElem_cons_succ, Act.put, List.setIfInBounds_toArray, List.set_cons_zero, List.set_cons_succ]
        refine wpChain_step rfl fun K hK => ?_
        go_simp
        refine hK _ _ hsd9 ?_
        clear hK K
        have hcc := hs9.cell (j := 3) rfl
        have hff := hs9.free 3
        refine wpChain_step rfl fun K hK => ?_
        go_simp
        have hsd10 : ByAt (Y1.setCell ⟨N_HS, 3, none⟩ (.slice A' (p + 1) c')) N_HD 24 T := (vs_set hsd9.vs (unhide HLOW).2 : VsAt _ N_HD 24 _)
        refine hK _ _ hsd10 (wpChain_nil ?_)
        clear hK K
        have hgk : GK W.heap.size N_HS W (Y1.setCell ⟨N_HS, 3, none⟩ (.slice A' (p + 1) c')) := (GK.below (Nat.le_refl _) hB9).trans (gk_set 3 _)
        have hds := (show Ds (Y1.setCell ⟨N_HS, 3, none⟩ (.slice A' (p + 1) c')) A' (pathP (pubsS seed M) U ++ [T]) by
          obtain ⟨B1, x1, hw, _, hdd⟩ := (ho9.putAt (P := N_HS) (o := 3) (u := .slice A' (p + 1) c') (lt_of_block (unhide HS))).ds (fun d hd => by rcases List.mem_append.1 hd with h | h; exact (unhide HPk).dg d h; rw [List.mem_singleton.1 h]; exact (unhide HGT))
          injection hw with hw _ _
          subst hw
          exact hdd)
        have hzs := hs9.set 3 (.slice A' (p + 1) c')
        have hz1 := hgk.under (unhide HB) (unhide HB).size (unhide HLOW).1
        have hzk := hgk.under (unhide HBk) (unhide HBk).size (by have := unhide HNM; omega)
        obtain ⟨wc, hwc⟩ : ∃ x, x = Y1.setCell ⟨N_HS, 3, none⟩ (.slice A' (p + 1) c') := ⟨_, rfl⟩
        rw [← hwc] at hds hzs hz1 hzk hsd10 ⊢
        have HZS := hide (show VsAt wc N_HS 52 [.int .i64 (U : Int), .slice A1 64 c1, .slice A2 64 c2, .slice A' (p + 1) c'] from hzs); have HZD := hide hsd10; have HZ1 := hide hz1; have HZK := hide hzk; have HDS' := hide hds; have HC' : Hid (p + 1 ≤ c') := hc9
        clear hds hzs hz1 hzk hsd10 hgk hwc hr9 ho9 hg9 hob9 hc9 hd9 hln hs9 hsd9 hcc hff hB9
        go_upto_region 26 with fail
        refine wp_region_lit ?_
        refine wpList_gload (by kernel_rfl) 24 (.tmp 9) rfl N_HD rfl _ Tryd.underlying24 rfl 32 info32 _ T (unhide HZD) (unhide HGT).len ?_
        rw [show dv T = .agg ct by rw [unhide HCT]]
        try simp only [List.getElem_toArray, List.getElem_cons_zero, List.getElem_cons_succ, Act.put, List.setIfInBounds_toArray, List.set_cons_zero, List.set_cons_succ]
        refine wpList_wanted (by kernel_rfl) fun Kt hKt => ?_
        go_simp
        refine hKt _ _ ?_
        clear hKt Kt
        refine wpList_wanted (by kernel_rfl) fun Kt hKt => ?_
        go_simp
        refine hKt _ _ ?_
        clear hKt Kt
        refine wpList_vgload (by kernel_rfl) 52 (.tmp 12) rfl N_HS rfl _ Tryd.underlying52 rfl _ [.int .i64 (U : Int), .slice A1 64 c1, .slice A2 64 c2, .slice A' (p + 1) c'] infoSig (unhide HZS) ?_
        try simp only [List.getElem_toArray, List.getElem_cons_zero, List.getElem_cons_succ, Act.put, List.setIfInBounds_toArray, List.set_cons_zero, List.set_cons_succ]
        have hve := Verify_any wc T (unhide HGT) M U (by have := unhide HNN; omega) (by have := unhide HNN; omega) (by have := unhide HNN; have := unhide HUM; omega) Aa na ca ma (unhide HNA).1 (unhide HNA).2.1 ((unhide HMA0).keep (unhide HZ1)) (unhide HNA).2.2 (by have := unhide HNN; omega) A1 c1 _ ((unhide HOk).keep (unhide HZK)) A2 c2 _ ((unhide HCk).keep (unhide HZK)) A' (p + 1) c' _ (by rw [List.length_append, ← unhide HPN]; rfl) (unhide HC') (unhide HDS') ((unhide HT0).keep (unhide HZ1))
        rw [verS_long T seed M U _ _ _ (by have := unhide HNN; have := unhide HUM; omega), show dv T = .agg ct by rw [unhide HCT]] at hve
        go_wp2_with fail
        refine hve.mono ?_; rintro x Z9 ⟨rfl, hb⟩
        have HZB := hide (thenB (unhide HZ1) hb)
        clear hve hb
        go_wp2_with fail
        go_ret
        exact ⟨rfl, unhide HZB⟩
    · clear hx
      refine wpOp_one 2 _ rfl (by kernel_rfl) fun K hK => ?_
      have hcl46 := ((unhide HS).keep hB0).cell (j := 3) rfl
      go_simp
      refine hK _ _ ⟨((unhide HD).keep hB0), ?_⟩
      clear hK K
      try simp only [List.getElem_toArray, List.getElem_cons_zero, List.getElem_cons_succ, Act.put, List.setIfInBounds_toArray, List.set_cons_zero, List.set_cons_succ]
      refine wpAnyH_all (show Region.ready .any _ _ = [0, 5] by kernel_rfl) (by simp) fun x hx => ?_
      rcases (by simpa using hx : x = 0 ∨ x = 5) with rfl | rfl
      · clear hx
        refine wpOp_one 0 _ rfl (by kernel_rfl) fun K hK => ?_
        go_simp
        generalize hX47 : W.alloc _ = V_47
        have hb47 : Below W.heap.size W V_47 := hX47 ▸ (Below.refl _ _).alloc (Nat.le_refl _) _
        have hn47 : OwnD V_47 W.heap.size (.slice (some ⟨W.heap.size, 0, none⟩) 0 0) [] := hX47 ▸ World.ownsRow_lit W #[] 0 hB0.size (Nat.zero_le _) rfl
        have hB47 := thenB hB0 hb47
        clear hX47
        refine hK _ _ ⟨((unhide HD).keep hB47), ?_⟩
        clear hK K
        try simp only [List.getElem_toArray, List.getElem_cons_zero, List.getElem_cons_succ, Act.put, List.setIfInBounds_toArray, List.set_cons_zero, List.set_cons_succ]
        refine wpAnyH_all (show Region.ready .any _ _ = [3, 5] by kernel_rfl) (by simp) fun x hx => ?_
        rcases (by simpa using hx : x = 3 ∨ x = 5) with rfl | rfl
        · clear hx
          refine wpOp_one 3 _ rfl (by kernel_rfl) fun K hK => ?_
          obtain ⟨v48, V_48, hr48, ho48, hg48, hob48⟩ := append_many hn47 26 A3 c3 ((unhide HPk).keep (thenB (unhide HBk) hB47)) (unhide HPL).2 (by rw [← unhide HPN]; have := unhide HPB; simp only [List.length_nil]; omega) hB47.size
          rw [← unhide HPN] at hr48
          rw [List.nil_append] at ho48
          have hB48 := grown_below hB47 hg48 (fun k hk => (hn47.lt k hk).1)
          refine wp_append (.tmp 87) (.tmp 89) 26 rfl _ _ v48 V_48 rfl rfl hr48 ?_
          refine hK _ _ ⟨((unhide HD).keep hB48), ?_⟩
          clear hK K
          try simp only [List.getElem_toArray, List.getElem_cons_zero, List.getElem_cons_succ, Act.put, List.setIfInBounds_toArray, List.set_cons_zero, List.set_cons_succ]
          refine wpAnyH_one 5 _ rfl (by kernel_rfl) (by kernel_rfl) ?_
          intro K hK
          go_simp
          rw [overwritten hst (by rfl)]
          generalize hX49 : V_48.alloc _ = V_49
          have hb49 : Below V_48.heap.size V_48 V_49 := hX49 ▸ (Below.refl _ _).alloc (Nat.le_refl _) _
          have hy49 : ByAt V_49 V_48.heap.size 24 T := boxed V_48 V_49 T _ (by rw [← hX49, unhide HCT]; rfl)
          have hq49 : ∀ k, Value.ownBlock (v48) = some k → k ≠ V_48.heap.size := fun k hk => by have hl := (ho48.lt k hk).2; omega
          have hm49 := ho48.later hb49
          have hB49 := thenB hB48 hb49
          clear hX49
          refine hK _ _ ((unhide HD).keep hB49) ?_
          clear hK K
          try simp only [List.getElem_toArray, List.getElem_cons_zero, List.getElem_cons_succ, Act.put, List.setIfInBounds_toArray, List.set_cons_zero, List.set_cons_succ]
          refine wpAnyH_chainOf [6, 7, 8] _ _ _ (by kernel_rfl) (by kernel_rfl) ?_
          simp only [List.filterMap_cons, List.filterMap_nil, List.getElem?_toArray, List.getElem?_cons_zero, List.getElem?_cons_succ]
          refine wpChain_step rfl fun K hK => ?_
          obtain ⟨v9, Y1, hr9, ho9, hg9, hob9⟩ := append_one hm49 26 (V_48.heap.size) 1 T (unhide HGT) hy49 (by rw [← unhide HPN]; have := unhide HPB; omega) hB49.size
          obtain ⟨A', c', rfl, hc9, hd9, _⟩ := own_form ho9 (fun d hd => by rcases List.mem_append.1 hd with h | h; exact (unhide HPk).dg d h; rw [List.mem_singleton.1 h]; exact (unhide HGT))
          have hB9 := grown_below hB49 hg9 (fun k hk => (hm49.lt k hk).1)
          have hln : (pathP (pubsS seed M) U ++ [T]).length = p + 1 := by rw [List.length_append, ← unhide HPN]; rfl
          rw [hln] at hr9 hc9 ho9
          refine wp_append (.tmp 90) (.tmp 92) 26 rfl _ _ _ Y1 rfl rfl hr9 ?_
          have hs9 := (unhide HS).keep hB9
          have hsd9 := (unhide HD).keep hB9
          refine hK _ _ hsd9 ?_
          clear hK K
          try simp only [List.getElem_toArray, List.getElem_cons_zero, List.getElem_cons_succ, Act.put, List.setIfInBounds_toArray, List.set_cons_zero, List.set_cons_succ]
          refine wpChain_step rfl fun K hK => ?_
          go_simp
          refine hK _ _ hsd9 ?_
          clear hK K
          have hcc := hs9.cell (j := 3) rfl
          have hff := hs9.free 3
          refine wpChain_step rfl fun K hK => ?_
          go_simp
          have hsd10 : ByAt (Y1.setCell ⟨N_HS, 3, none⟩ (.slice A' (p + 1) c')) N_HD 24 T := (vs_set hsd9.vs (unhide HLOW).2 : VsAt _ N_HD 24 _)
          refine hK _ _ hsd10 (wpChain_nil ?_)
          clear hK K
          have hgk : GK W.heap.size N_HS W (Y1.setCell ⟨N_HS, 3, none⟩ (.slice A' (p + 1) c')) := (GK.below (Nat.le_refl _) hB9).trans (gk_set 3 _)
          have hds := (show Ds (Y1.setCell ⟨N_HS, 3, none⟩ (.slice A' (p + 1) c')) A' (pathP (pubsS seed M) U ++ [T]) by
            obtain ⟨B1, x1, hw, _, hdd⟩ := (ho9.putAt (P := N_HS) (o := 3) (u := .slice A' (p + 1) c') (lt_of_block (unhide HS))).ds (fun d hd => by rcases List.mem_append.1 hd with h | h; exact (unhide HPk).dg d h; rw [List.mem_singleton.1 h]; exact (unhide HGT))
            injection hw with hw _ _
            subst hw
            exact hdd)
          have hzs := hs9.set 3 (.slice A' (p + 1) c')
          have hz1 := hgk.under (unhide HB) (unhide HB).size (unhide HLOW).1
          have hzk := hgk.under (unhide HBk) (unhide HBk).size (by have := unhide HNM; omega)
          obtain ⟨wc, hwc⟩ : ∃ x, x = Y1.setCell ⟨N_HS, 3, none⟩ (.slice A' (p + 1) c') := ⟨_, rfl⟩
          rw [← hwc] at hds hzs hz1 hzk hsd10 ⊢
          have HZS := hide (show VsAt wc N_HS 52 [.int .i64 (U : Int), .slice A1 64 c1, .slice A2 64 c2, .slice A' (p + 1) c'] from hzs); have HZD := hide hsd10; have HZ1 := hide hz1; have HZK := hide hzk; have HDS' := hide hds; have HC' : Hid (p + 1 ≤ c') := hc9
          clear hds hzs hz1 hzk hsd10 hgk hwc hr9 ho9 hg9 hob9 hc9 hd9 hln hs9 hsd9 hcc hff hB9
          go_upto_region 26 with fail
          refine wp_region_lit ?_
          refine wpList_gload (by kernel_rfl) 24 (.tmp 9) rfl N_HD rfl _ Tryd.underlying24 rfl 32 info32 _ T (unhide HZD) (unhide HGT).len ?_
          rw [show dv T = .agg ct by rw [unhide HCT]]
          try simp only [List.getElem_toArray, List.getElem_cons_zero, List.getElem_cons_succ, Act.put, List.setIfInBounds_toArray, List.set_cons_zero, List.set_cons_succ]
          refine wpList_wanted (by kernel_rfl) fun Kt hKt => ?_
          go_simp
          refine hKt _ _ ?_
          clear hKt Kt
          refine wpList_wanted (by kernel_rfl) fun Kt hKt => ?_
          go_simp
          refine hKt _ _ ?_
          clear hKt Kt
          refine wpList_vgload (by kernel_rfl) 52 (.tmp 12) rfl N_HS rfl _ Tryd.underlying52 rfl _ [.int .i64 (U : Int), .slice A1 64 c1, .slice A2 64 c2, .slice A' (p + 1) c'] infoSig (unhide HZS) ?_
          try simp only [List.getElem_toArray, List.getElem_cons_zero, List.getElem_cons_succ, Act.put, List.setIfInBounds_toArray, List.set_cons_zero, List.set_cons_succ]
          have hve := Verify_any wc T (unhide HGT) M U (by have := unhide HNN; omega) (by have := unhide HNN; omega) (by have := unhide HNN; have := unhide HUM; omega) Aa na ca ma (unhide HNA).1 (unhide HNA).2.1 ((unhide HMA0).keep (unhide HZ1)) (unhide HNA).2.2 (by have := unhide HNN; omega) A1 c1 _ ((unhide HOk).keep (unhide HZK)) A2 c2 _ ((unhide HCk).keep (unhide HZK)) A' (p + 1) c' _ (by rw [List.length_append, ← unhide HPN]; rfl) (unhide HC') (unhide HDS') ((unhide HT0).keep (unhide HZ1))
          rw [verS_long T seed M U _ _ _ (by have := unhide HNN; have := unhide HUM; omega), show dv T = .agg ct by rw [unhide HCT]] at hve
          go_wp2_with fail
          refine hve.mono ?_; rintro x Z9 ⟨rfl, hb⟩
          have HZB := hide (thenB (unhide HZ1) hb)
          clear hve hb
          go_wp2_with fail
          go_ret
          exact ⟨rfl, unhide HZB⟩
        · clear hx
          refine wpOp_one 5 _ rfl (by kernel_rfl) fun K hK => ?_
          go_simp
          rw [overwritten hst (by rfl)]
          generalize hX51 : V_47.alloc _ = V_51
          have hb51 : Below V_47.heap.size V_47 V_51 := hX51 ▸ (Below.refl _ _).alloc (Nat.le_refl _) _
          have hy51 : ByAt V_51 V_47.heap.size 24 T := boxed V_47 V_51 T _ (by rw [← hX51, unhide HCT]; rfl)
          have hq51 : ∀ k, Value.ownBlock (.slice (some ⟨W.heap.size, 0, none⟩) 0 0) = some k → k ≠ V_47.heap.size := fun k hk => by have hl := (hn47.lt k hk).2; omega
          have he51 := hn47.later hb51
          have hB51 := thenB hB47 hb51
          clear hX51
          refine hK _ _ ⟨((unhide HD).keep hB51), ?_⟩
          clear hK K
          try simp only [List.getElem_toArray, List.getElem_cons_zero, List.getElem_cons_succ, Act.put, List.setIfInBounds_toArray, List.set_cons_zero, List.set_cons_succ]
          refine wpAnyH_one 3 _ rfl (by kernel_rfl) (by kernel_rfl) ?_
          intro K hK
          obtain ⟨v52, V_52, hr52, ho52, hg52, hob52⟩ := append_many he51 26 A3 c3 ((unhide HPk).keep (thenB (unhide HBk) hB51)) (unhide HPL).2 (by rw [← unhide HPN]; have := unhide HPB; simp only [List.length_nil]; omega) hB51.size
          rw [← unhide HPN] at hr52
          rw [List.nil_append] at ho52
          have hB52 := grown_below hB51 hg52 (fun k hk => (he51.lt k hk).1)
          have hx52 := own_kept hy51 hg52 hq51
          have hq52 := own_ne hob52 hq51 (lt_of_block hy51)
          refine wp_append (.tmp 87) (.tmp 89) 26 rfl _ _ v52 V_52 rfl rfl hr52 ?_
          refine hK _ _ ((unhide HD).keep hB52) ?_
          clear hK K
          try simp only [List.getElem_toArray, List.getElem_cons_zero, List.getElem_cons_succ, Act.put, List.setIfInBounds_toArray, List.set_cons_zero, List.set_cons_succ]
          refine wpAnyH_chainOf [6, 7, 8] _ _ _ (by kernel_rfl) (by kernel_rfl) ?_
          simp only [List.filterMap_cons, List.filterMap_nil, List.getElem?_toArray, List.getElem?_cons_zero, List.getElem?_cons_succ]
          refine wpChain_step rfl fun K hK => ?_
          obtain ⟨v9, Y1, hr9, ho9, hg9, hob9⟩ := append_one ho52 26 (V_47.heap.size) 1 T (unhide HGT) hx52 (by rw [← unhide HPN]; have := unhide HPB; omega) hB52.size
          obtain ⟨A', c', rfl, hc9, hd9, _⟩ := own_form ho9 (fun d hd => by rcases List.mem_append.1 hd with h | h; exact (unhide HPk).dg d h; rw [List.mem_singleton.1 h]; exact (unhide HGT))
          have hB9 := grown_below hB52 hg9 (fun k hk => (ho52.lt k hk).1)
          have hln : (pathP (pubsS seed M) U ++ [T]).length = p + 1 := by rw [List.length_append, ← unhide HPN]; rfl
          rw [hln] at hr9 hc9 ho9
          refine wp_append (.tmp 90) (.tmp 92) 26 rfl _ _ _ Y1 rfl rfl hr9 ?_
          have hs9 := (unhide HS).keep hB9
          have hsd9 := (unhide HD).keep hB9
          refine hK _ _ hsd9 ?_
          clear hK K
          try simp only [List.getElem_toArray, List.getElem_cons_zero, List.getElem_cons_succ, Act.put, List.setIfInBounds_toArray, List.set_cons_zero, List.set_cons_succ]
          refine wpChain_step rfl fun K hK => ?_
          go_simp
          refine hK _ _ hsd9 ?_
          clear hK K
          have hcc := hs9.cell (j := 3) rfl
          have hff := hs9.free 3
          refine wpChain_step rfl fun K hK => ?_
          go_simp
          have hsd10 : ByAt (Y1.setCell ⟨N_HS, 3, none⟩ (.slice A' (p + 1) c')) N_HD 24 T := (vs_set hsd9.vs (unhide HLOW).2 : VsAt _ N_HD 24 _)
          refine hK _ _ hsd10 (wpChain_nil ?_)
          clear hK K
          have hgk : GK W.heap.size N_HS W (Y1.setCell ⟨N_HS, 3, none⟩ (.slice A' (p + 1) c')) := (GK.below (Nat.le_refl _) hB9).trans (gk_set 3 _)
          have hds := (show Ds (Y1.setCell ⟨N_HS, 3, none⟩ (.slice A' (p + 1) c')) A' (pathP (pubsS seed M) U ++ [T]) by
            obtain ⟨B1, x1, hw, _, hdd⟩ := (ho9.putAt (P := N_HS) (o := 3) (u := .slice A' (p + 1) c') (lt_of_block (unhide HS))).ds (fun d hd => by rcases List.mem_append.1 hd with h | h; exact (unhide HPk).dg d h; rw [List.mem_singleton.1 h]; exact (unhide HGT))
            injection hw with hw _ _
            subst hw
            exact hdd)
          have hzs := hs9.set 3 (.slice A' (p + 1) c')
          have hz1 := hgk.under (unhide HB) (unhide HB).size (unhide HLOW).1
          have hzk := hgk.under (unhide HBk) (unhide HBk).size (by have := unhide HNM; omega)
          obtain ⟨wc, hwc⟩ : ∃ x, x = Y1.setCell ⟨N_HS, 3, none⟩ (.slice A' (p + 1) c') := ⟨_, rfl⟩
          rw [← hwc] at hds hzs hz1 hzk hsd10 ⊢
          have HZS := hide (show VsAt wc N_HS 52 [.int .i64 (U : Int), .slice A1 64 c1, .slice A2 64 c2, .slice A' (p + 1) c'] from hzs); have HZD := hide hsd10; have HZ1 := hide hz1; have HZK := hide hzk; have HDS' := hide hds; have HC' : Hid (p + 1 ≤ c') := hc9
          clear hds hzs hz1 hzk hsd10 hgk hwc hr9 ho9 hg9 hob9 hc9 hd9 hln hs9 hsd9 hcc hff hB9
          go_upto_region 26 with fail
          refine wp_region_lit ?_
          refine wpList_gload (by kernel_rfl) 24 (.tmp 9) rfl N_HD rfl _ Tryd.underlying24 rfl 32 info32 _ T (unhide HZD) (unhide HGT).len ?_
          rw [show dv T = .agg ct by rw [unhide HCT]]
          try simp only [List.getElem_toArray, List.getElem_cons_zero, List.getElem_cons_succ, Act.put, List.setIfInBounds_toArray, List.set_cons_zero, List.set_cons_succ]
          refine wpList_wanted (by kernel_rfl) fun Kt hKt => ?_
          go_simp
          refine hKt _ _ ?_
          clear hKt Kt
          refine wpList_wanted (by kernel_rfl) fun Kt hKt => ?_
          go_simp
          refine hKt _ _ ?_
          clear hKt Kt
          refine wpList_vgload (by kernel_rfl) 52 (.tmp 12) rfl N_HS rfl _ Tryd.underlying52 rfl _ [.int .i64 (U : Int), .slice A1 64 c1, .slice A2 64 c2, .slice A' (p + 1) c'] infoSig (unhide HZS) ?_
          try simp only [List.getElem_toArray, List.getElem_cons_zero, List.getElem_cons_succ, Act.put, List.setIfInBounds_toArray, List.set_cons_zero, List.set_cons_succ]
          have hve := Verify_any wc T (unhide HGT) M U (by have := unhide HNN; omega) (by have := unhide HNN; omega) (by have := unhide HNN; have := unhide HUM; omega) Aa na ca ma (unhide HNA).1 (unhide HNA).2.1 ((unhide HMA0).keep (unhide HZ1)) (unhide HNA).2.2 (by have := unhide HNN; omega) A1 c1 _ ((unhide HOk).keep (unhide HZK)) A2 c2 _ ((unhide HCk).keep (unhide HZK)) A' (p + 1) c' _ (by rw [List.length_append, ← unhide HPN]; rfl) (unhide HC') (unhide HDS') ((unhide HT0).keep (unhide HZ1))
          rw [verS_long T seed M U _ _ _ (by have := unhide HNN; have := unhide HUM; omega), show dv T = .agg ct by rw [unhide HCT]] at hve
          go_wp2_with fail
          refine hve.mono ?_; rintro x Z9 ⟨rfl, hb⟩
          have HZB := hide (thenB (unhide HZ1) hb)
          clear hve hb
          go_wp2_with fail
          go_ret
          exact ⟨rfl, unhide HZB⟩
      · clear hx
        refine wpOp_one 5 _ rfl (by kernel_rfl) fun K hK => ?_
        go_simp
        rw [overwritten hst (by rfl)]
        generalize hX54 : W.alloc _ = V_54
        have hb54 : Below W.heap.size W V_54 := hX54 ▸ (Below.refl _ _).alloc (Nat.le_refl _) _
        have hy54 : ByAt V_54 W.heap.size 24 T := boxed W V_54 T _ (by rw [← hX54, unhide HCT]; rfl)
        have hB54 := thenB hB0 hb54
        clear hX54
        refine hK _ _ ⟨((unhide HD).keep hB54), ?_⟩
        clear hK K
        try simp only [List.getElem_toArray, List.getElem_cons_zero, List.getElem_cons_succ, Act.put, List.setIfInBounds_toArray, List.set_cons_zero, List.set_cons_succ]
        refine wpAnyH_one 0 _ rfl (by kernel_rfl) (by kernel_rfl) ?_
        intro K hK
        go_simp
        generalize hX55 : V_54.alloc _ = V_55
        have hb55 : Below V_54.heap.size V_54 V_55 := hX55 ▸ (Below.refl _ _).alloc (Nat.le_refl _) _
        have hn55 : OwnD V_55 W.heap.size (.slice (some ⟨V_54.heap.size, 0, none⟩) 0 0) [] := hX55 ▸ World.ownsRow_lit V_54 #[] 0 hB54.size (Nat.zero_le _) rfl
        have hx55 := hy54.keep hb55
        have hq55 : ∀ k, Value.ownBlock (.slice (some ⟨V_54.heap.size, 0, none⟩) 0 0) = some k → k ≠ W.heap.size := fun k hk => by have hl := lt_of_block hy54; have hk' : some V_54.heap.size = some k := hk; injection hk' with hk'; omega
        have hB55 := thenB hB54 hb55
        clear hX55
        refine hK _ _ ((unhide HD).keep hB55) ?_
        clear hK K
        try simp only [List.getElem_toArray, List.getElem_cons_zero, List.getElem_cons_succ, Act.put, List.setIfInBounds_toArray, List.set_cons_zero, List.set_cons_succ]
        refine wpAnyH_one 3 _ rfl (by kernel_rfl) (by kernel_rfl) ?_
        intro K hK
        obtain ⟨v56, V_56, hr56, ho56, hg56, hob56⟩ := append_many hn55 26 A3 c3 ((unhide HPk).keep (thenB (unhide HBk) hB55)) (unhide HPL).2 (by rw [← unhide HPN]; have := unhide HPB; simp only [List.length_nil]; omega) hB55.size
        rw [← unhide HPN] at hr56
        rw [List.nil_append] at ho56
        have hB56 := grown_below hB55 hg56 (fun k hk => (hn55.lt k hk).1)
        have hx56 := own_kept hx55 hg56 hq55
        have hq56 := own_ne hob56 hq55 (lt_of_block hx55)
        refine wp_append (.tmp 87) (.tmp 89) 26 rfl _ _ v56 V_56 rfl rfl hr56 ?_
        refine hK _ _ ((unhide HD).keep hB56) ?_
        clear hK K
        try simp only [List.getElem_toArray, List.getElem_cons_zero, List.getElem_cons_succ, Act.put, List.setIfInBounds_toArray, List.set_cons_zero, List.set_cons_succ]
        refine wpAnyH_chainOf [6, 7, 8] _ _ _ (by kernel_rfl) (by kernel_rfl) ?_
        simp only [List.filterMap_cons, List.filterMap_nil, List.getElem?_toArray, List.getElem?_cons_zero, List.getElem?_cons_succ]
        refine wpChain_step rfl fun K hK => ?_
        obtain ⟨v9, Y1, hr9, ho9, hg9, hob9⟩ := append_one ho56 26 (W.heap.size) 1 T (unhide HGT) hx56 (by rw [← unhide HPN]; have := unhide HPB; omega) hB56.size
        obtain ⟨A', c', rfl, hc9, hd9, _⟩ := own_form ho9 (fun d hd => by rcases List.mem_append.1 hd with h | h; exact (unhide HPk).dg d h; rw [List.mem_singleton.1 h]; exact (unhide HGT))
        have hB9 := grown_below hB56 hg9 (fun k hk => (ho56.lt k hk).1)
        have hln : (pathP (pubsS seed M) U ++ [T]).length = p + 1 := by rw [List.length_append, ← unhide HPN]; rfl
        rw [hln] at hr9 hc9 ho9
        refine wp_append (.tmp 90) (.tmp 92) 26 rfl _ _ _ Y1 rfl rfl hr9 ?_
        have hs9 := (unhide HS).keep hB9
        have hsd9 := (unhide HD).keep hB9
        refine hK _ _ hsd9 ?_
        clear hK K
        try simp only [List.getElem_toArray, List.getElem_cons_zero, List.getElem_cons_succ, Act.put, List.setIfInBounds_toArray, List.set_cons_zero, List.set_cons_succ]
        refine wpChain_step rfl fun K hK => ?_
        go_simp
        refine hK _ _ hsd9 ?_
        clear hK K
        have hcc := hs9.cell (j := 3) rfl
        have hff := hs9.free 3
        refine wpChain_step rfl fun K hK => ?_
        go_simp
        have hsd10 : ByAt (Y1.setCell ⟨N_HS, 3, none⟩ (.slice A' (p + 1) c')) N_HD 24 T := (vs_set hsd9.vs (unhide HLOW).2 : VsAt _ N_HD 24 _)
        refine hK _ _ hsd10 (wpChain_nil ?_)
        clear hK K
        have hgk : GK W.heap.size N_HS W (Y1.setCell ⟨N_HS, 3, none⟩ (.slice A' (p + 1) c')) := (GK.below (Nat.le_refl _) hB9).trans (gk_set 3 _)
        have hds := (show Ds (Y1.setCell ⟨N_HS, 3, none⟩ (.slice A' (p + 1) c')) A' (pathP (pubsS seed M) U ++ [T]) by
          obtain ⟨B1, x1, hw, _, hdd⟩ := (ho9.putAt (P := N_HS) (o := 3) (u := .slice A' (p + 1) c') (lt_of_block (unhide HS))).ds (fun d hd => by rcases List.mem_append.1 hd with h | h; exact (unhide HPk).dg d h; rw [List.mem_singleton.1 h]; exact (unhide HGT))
          injection hw with hw _ _
          subst hw
          exact hdd)
        have hzs := hs9.set 3 (.slice A' (p + 1) c')
        have hz1 := hgk.under (unhide HB) (unhide HB).size (unhide HLOW).1
        have hzk := hgk.under (unhide HBk) (unhide HBk).size (by have := unhide HNM; omega)
        obtain ⟨wc, hwc⟩ : ∃ x, x = Y1.setCell ⟨N_HS, 3, none⟩ (.slice A' (p + 1) c') := ⟨_, rfl⟩
        rw [← hwc] at hds hzs hz1 hzk hsd10 ⊢
        have HZS := hide (show VsAt wc N_HS 52 [.int .i64 (U : Int), .slice A1 64 c1, .slice A2 64 c2, .slice A' (p + 1) c'] from hzs); have HZD := hide hsd10; have HZ1 := hide hz1; have HZK := hide hzk; have HDS' := hide hds; have HC' : Hid (p + 1 ≤ c') := hc9
        clear hds hzs hz1 hzk hsd10 hgk hwc hr9 ho9 hg9 hob9 hc9 hd9 hln hs9 hsd9 hcc hff hB9
        go_upto_region 26 with fail
        refine wp_region_lit ?_
        refine wpList_gload (by kernel_rfl) 24 (.tmp 9) rfl N_HD rfl _ Tryd.underlying24 rfl 32 info32 _ T (unhide HZD) (unhide HGT).len ?_
        rw [show dv T = .agg ct by rw [unhide HCT]]
        try simp only [List.getElem_toArray, List.getElem_cons_zero, List.getElem_cons_succ, Act.put, List.setIfInBounds_toArray, List.set_cons_zero, List.set_cons_succ]
        refine wpList_wanted (by kernel_rfl) fun Kt hKt => ?_
        go_simp
        refine hKt _ _ ?_
        clear hKt Kt
        refine wpList_wanted (by kernel_rfl) fun Kt hKt => ?_
        go_simp
        refine hKt _ _ ?_
        clear hKt Kt
        refine wpList_vgload (by kernel_rfl) 52 (.tmp 12) rfl N_HS rfl _ Tryd.underlying52 rfl _ [.int .i64 (U : Int), .slice A1 64 c1, .slice A2 64 c2, .slice A' (p + 1) c'] infoSig (unhide HZS) ?_
        try simp only [List.getElem_toArray, List.getElem_cons_zero, List.getElem_cons_succ, Act.put, List.setIfInBounds_toArray, List.set_cons_zero, List.set_cons_succ]
        have hve := Verify_any wc T (unhide HGT) M U (by have := unhide HNN; omega) (by have := unhide HNN; omega) (by have := unhide HNN; have := unhide HUM; omega) Aa na ca ma (unhide HNA).1 (unhide HNA).2.1 ((unhide HMA0).keep (unhide HZ1)) (unhide HNA).2.2 (by have := unhide HNN; omega) A1 c1 _ ((unhide HOk).keep (unhide HZK)) A2 c2 _ ((unhide HCk).keep (unhide HZK)) A' (p + 1) c' _ (by rw [List.length_append, ← unhide HPN]; rfl) (unhide HC') (unhide HDS') ((unhide HT0).keep (unhide HZ1))
        rw [verS_long T seed M U _ _ _ (by have := unhide HNN; have := unhide HUM; omega), show dv T = .agg ct by rw [unhide HCT]] at hve
        go_wp2_with fail
        refine hve.mono ?_; rintro x Z9 ⟨rfl, hb⟩
        have HZB := hide (thenB (unhide HZ1) hb)
        clear hve hb
        go_wp2_with fail
        go_ret
        exact ⟨rfl, unhide HZB⟩
    · clear hx
      refine wpOp_one 5 _ rfl (by kernel_rfl) fun K hK => ?_
      go_simp
      rw [overwritten hst (by rfl)]
      generalize hX58 : W.alloc _ = V_58
      have hb58 : Below W.heap.size W V_58 := hX58 ▸ (Below.refl _ _).alloc (Nat.le_refl _) _
      have hy58 : ByAt V_58 W.heap.size 24 T := boxed W V_58 T _ (by rw [← hX58, unhide HCT]; rfl)
      have hB58 := thenB hB0 hb58
      clear hX58
      refine hK _ _ ⟨((unhide HD).keep hB58), ?_⟩
      clear hK K
      try simp only [List.getElem_toArray, List.getElem_cons_zero, List.getElem_cons_succ, Act.put, List.setIfInBounds_toArray, List.set_cons_zero, List.set_cons_succ]
      refine wpAnyH_all (show Region.ready .any _ _ = [0, 2] by kernel_rfl) (by simp) fun x hx => ?_
      rcases (by simpa using hx : x = 0 ∨ x = 2) with rfl | rfl
      · clear hx
        refine wpOp_one 0 _ rfl (by kernel_rfl) fun K hK => ?_
        go_simp
        generalize hX59 : V_58.alloc _ = V_59
        have hb59 : Below V_58.heap.size V_58 V_59 := hX59 ▸ (Below.refl _ _).alloc (Nat.le_refl _) _
        have hn59 : OwnD V_59 W.heap.size (.slice (some ⟨V_58.heap.size, 0, none⟩) 0 0) [] := hX59 ▸ World.ownsRow_lit V_58 #[] 0 hB58.size (Nat.zero_le _) rfl
        have hx59 := hy58.keep hb59
        have hq59 : ∀ k, Value.ownBlock (.slice (some ⟨V_58.heap.size, 0, none⟩) 0 0) = some k → k ≠ W.heap.size := fun k hk => by have hl := lt_of_block hy58; have hk' : some V_58.heap.size = some k := hk; injection hk' with hk'; omega
        have hB59 := thenB hB58 hb59
        clear hX59
        refine hK _ _ ⟨((unhide HD).keep hB59), ?_⟩
        clear hK K
        try simp only [List.getElem_toArray, List.getElem_cons_zero, List.getElem_cons_succ, Act.put, List.setIfInBounds_toArray, List.set_cons_zero, List.set_cons_succ]
        refine wpAnyH_one 2 _ rfl (by kernel_rfl) (by kernel_rfl) ?_
        intro K hK
        have hcl60 := ((unhide HS).keep hB59).cell (j := 3) rfl
        go_simp
        refine hK _ _ ((unhide HD).keep hB59) ?_
        clear hK K
        try simp only [List.getElem_toArray, List.getElem_cons_zero, List.getElem_cons_succ, Act.put, List.setIfInBounds_toArray, List.set_cons_zero, List.set_cons_succ]
        refine wpAnyH_one 3 _ rfl (by kernel_rfl) (by kernel_rfl) ?_
        intro K hK
        obtain ⟨v61, V_61, hr61, ho61, hg61, hob61⟩ := append_many hn59 26 A3 c3 ((unhide HPk).keep (thenB (unhide HBk) hB59)) (unhide HPL).2 (by rw [← unhide HPN]; have := unhide HPB; simp only [List.length_nil]; omega) hB59.size
        rw [← unhide HPN] at hr61
        rw [List.nil_append] at ho61
        have hB61 := grown_below hB59 hg61 (fun k hk => (hn59.lt k hk).1)
        have hx61 := own_kept hx59 hg61 hq59
        have hq61 := own_ne hob61 hq59 (lt_of_block hx59)
        refine wp_append (.tmp 87) (.tmp 89) 26 rfl _ _ v61 V_61 rfl rfl hr61 ?_
        refine hK _ _ ((unhide HD).keep hB61) ?_
        clear hK K
        try simp only [List.getElem_toArray, List.getElem_cons_zero, List.getElem_cons_succ, Act.put, List.setIfInBounds_toArray, List.set_cons_zero, List.set_cons_succ]
        refine wpAnyH_chainOf [6, 7, 8] _ _ _ (by kernel_rfl) (by kernel_rfl) ?_
        simp only [List.filterMap_cons, List.filterMap_nil, List.getElem?_toArray, List.getElem?_cons_zero, List.getElem?_cons_succ]
        refine wpChain_step rfl fun K hK => ?_
        obtain ⟨v9, Y1, hr9, ho9, hg9, hob9⟩ := append_one ho61 26 (W.heap.size) 1 T (unhide HGT) hx61 (by rw [← unhide HPN]; have := unhide HPB; omega) hB61.size
        obtain ⟨A', c', rfl, hc9, hd9, _⟩ := own_form ho9 (fun d hd => by rcases List.mem_append.1 hd with h | h; exact (unhide HPk).dg d h; rw [List.mem_singleton.1 h]; exact (unhide HGT))
        have hB9 := grown_below hB61 hg9 (fun k hk => (ho61.lt k hk).1)
        have hln : (pathP (pubsS seed M) U ++ [T]).length = p + 1 := by rw [List.length_append, ← unhide HPN]; rfl
        rw [hln] at hr9 hc9 ho9
        refine wp_append (.tmp 90) (.tmp 92) 26 rfl _ _ _ Y1 rfl rfl hr9 ?_
        have hs9 := (unhide HS).keep hB9
        have hsd9 := (unhide HD).keep hB9
        refine hK _ _ hsd9 ?_
        clear hK K
        try simp only [List.getElem_toArray, List.getElem_cons_zero, List.getElem_cons_succ, Act.put, List.setIfInBounds_toArray, List.set_cons_zero, List.set_cons_succ]
        refine wpChain_step rfl fun K hK => ?_
        go_simp
        refine hK _ _ hsd9 ?_
        clear hK K
        have hcc := hs9.cell (j := 3) rfl
        have hff := hs9.free 3
        refine wpChain_step rfl fun K hK => ?_
        go_simp
        have hsd10 : ByAt (Y1.setCell ⟨N_HS, 3, none⟩ (.slice A' (p + 1) c')) N_HD 24 T := (vs_set hsd9.vs (unhide HLOW).2 : VsAt _ N_HD 24 _)
        refine hK _ _ hsd10 (wpChain_nil ?_)
        clear hK K
        have hgk : GK W.heap.size N_HS W (Y1.setCell ⟨N_HS, 3, none⟩ (.slice A' (p + 1) c')) := (GK.below (Nat.le_refl _) hB9).trans (gk_set 3 _)
        have hds := (show Ds (Y1.setCell ⟨N_HS, 3, none⟩ (.slice A' (p + 1) c')) A' (pathP (pubsS seed M) U ++ [T]) by
          obtain ⟨B1, x1, hw, _, hdd⟩ := (ho9.putAt (P := N_HS) (o := 3) (u := .slice A' (p + 1) c') (lt_of_block (unhide HS))).ds (fun d hd => by rcases List.mem_append.1 hd with h | h; exact (unhide HPk).dg d h; rw [List.mem_singleton.1 h]; exact (unhide HGT))
          injection hw with hw _ _
          subst hw
          exact hdd)
        have hzs := hs9.set 3 (.slice A' (p + 1) c')
        have hz1 := hgk.under (unhide HB) (unhide HB).size (unhide HLOW).1
        have hzk := hgk.under (unhide HBk) (unhide HBk).size (by have := unhide HNM; omega)
        obtain ⟨wc, hwc⟩ : ∃ x, x = Y1.setCell ⟨N_HS, 3, none⟩ (.slice A' (p + 1) c') := ⟨_, rfl⟩
        rw [← hwc] at hds hzs hz1 hzk hsd10 ⊢
        have HZS := hide (show VsAt wc N_HS 52 [.int .i64 (U : Int), .slice A1 64 c1, .slice A2 64 c2, .slice A' (p + 1) c'] from hzs); have HZD := hide hsd10; have HZ1 := hide hz1; have HZK := hide hzk; have HDS' := hide hds; have HC' : Hid (p + 1 ≤ c') := hc9
        clear hds hzs hz1 hzk hsd10 hgk hwc hr9 ho9 hg9 hob9 hc9 hd9 hln hs9 hsd9 hcc hff hB9
        go_upto_region 26 with fail
        refine wp_region_lit ?_
        refine wpList_gload (by kernel_rfl) 24 (.tmp 9) rfl N_HD rfl _ Tryd.underlying24 rfl 32 info32 _ T (unhide HZD) (unhide HGT).len ?_
        rw [show dv T = .agg ct by rw [unhide HCT]]
        try simp only [List.getElem_toArray, List.getElem_cons_zero, List.getElem_cons_succ, Act.put, List.setIfInBounds_toArray, List.set_cons_zero, List.set_cons_succ]
        refine wpList_wanted (by kernel_rfl) fun Kt hKt => ?_
        go_simp
        refine hKt _ _ ?_
        clear hKt Kt
        refine wpList_wanted (by kernel_rfl) fun Kt hKt => ?_
        go_simp
        refine hKt _ _ ?_
        clear hKt Kt
        refine wpList_vgload (by kernel_rfl) 52 (.tmp 12) rfl N_HS rfl _ Tryd.underlying52 rfl _ [.int .i64 (U : Int), .slice A1 64 c1, .slice A2 64 c2, .slice A' (p + 1) c'] infoSig (unhide HZS) ?_
        try simp only [List.getElem_toArray, List.getElem_cons_zero, List.getElem_cons_succ, Act.put, List.setIfInBounds_toArray, List.set_cons_zero, List.set_cons_succ]
        have hve := Verify_any wc T (unhide HGT) M U (by have := unhide HNN; omega) (by have := unhide HNN; omega) (by have := unhide HNN; have := unhide HUM; omega) Aa na ca ma (unhide HNA).1 (unhide HNA).2.1 ((unhide HMA0).keep (unhide HZ1)) (unhide HNA).2.2 (by have := unhide HNN; omega) A1 c1 _ ((unhide HOk).keep (unhide HZK)) A2 c2 _ ((unhide HCk).keep (unhide HZK)) A' (p + 1) c' _ (by rw [List.length_append, ← unhide HPN]; rfl) (unhide HC') (unhide HDS') ((unhide HT0).keep (unhide HZ1))
        rw [verS_long T seed M U _ _ _ (by have := unhide HNN; have := unhide HUM; omega), show dv T = .agg ct by rw [unhide HCT]] at hve
        go_wp2_with fail
        refine hve.mono ?_; rintro x Z9 ⟨rfl, hb⟩
        have HZB := hide (thenB (unhide HZ1) hb)
        clear hve hb
        go_wp2_with fail
        go_ret
        exact ⟨rfl, unhide HZB⟩
      · clear hx
        refine wpOp_one 2 _ rfl (by kernel_rfl) fun K hK => ?_
        have hcl63 := ((unhide HS).keep hB58).cell (j := 3) rfl
        go_simp
        refine hK _ _ ⟨((unhide HD).keep hB58), ?_⟩
        clear hK K
        try simp only [List.getElem_toArray, List.getElem_cons_zero, List.getElem_cons_succ, Act.put, List.setIfInBounds_toArray, List.set_cons_zero, List.set_cons_succ]
        refine wpAnyH_one 0 _ rfl (by kernel_rfl) (by kernel_rfl) ?_
        intro K hK
        go_simp
        generalize hX64 : V_58.alloc _ = V_64
        have hb64 : Below V_58.heap.size V_58 V_64 := hX64 ▸ (Below.refl _ _).alloc (Nat.le_refl _) _
        have hn64 : OwnD V_64 W.heap.size (.slice (some ⟨V_58.heap.size, 0, none⟩) 0 0) [] := hX64 ▸ World.ownsRow_lit V_58 #[] 0 hB58.size (Nat.zero_le _) rfl
        have hx64 := hy58.keep hb64
        have hq64 : ∀ k, Value.ownBlock (.slice (some ⟨V_58.heap.size, 0, none⟩) 0 0) = some k → k ≠ W.heap.size := fun k hk => by have hl := lt_of_block hy58; have hk' : some V_58.heap.size = some k := hk; injection hk' with hk'; omega
        have hB64 := thenB hB58 hb64
        clear hX64
        refine hK _ _ ((unhide HD).keep hB64) ?_
        clear hK K
        try simp only [List.getElem_toArray, List.getElem_cons_zero, List.getElem_cons_succ, Act.put, List.setIfInBounds_toArray, List.set_cons_zero, List.set_cons_succ]
        refine wpAnyH_one 3 _ rfl (by kernel_rfl) (by kernel_rfl) ?_
        intro K hK
        obtain ⟨v65, V_65, hr65, ho65, hg65, hob65⟩ := append_many hn64 26 A3 c3 ((unhide HPk).keep (thenB (unhide HBk) hB64)) (unhide HPL).2 (by rw [← unhide HPN]; have := unhide HPB; simp only [List.length_nil]; omega) hB64.size
        rw [← unhide HPN] at hr65
        rw [List.nil_append] at ho65
        have hB65 := grown_below hB64 hg65 (fun k hk => (hn64.lt k hk).1)
        have hx65 := own_kept hx64 hg65 hq64
        have hq65 := own_ne hob65 hq64 (lt_of_block hx64)
        refine wp_append (.tmp 87) (.tmp 89) 26 rfl _ _ v65 V_65 rfl rfl hr65 ?_
        refine hK _ _ ((unhide HD).keep hB65) ?_
        clear hK K
        try simp only [List.getElem_toArray, List.getElem_cons_zero, List.getElem_cons_succ, Act.put, List.setIfInBounds_toArray, List.set_cons_zero, List.set_cons_succ]
        refine wpAnyH_chainOf [6, 7, 8] _ _ _ (by kernel_rfl) (by kernel_rfl) ?_
        simp only [List.filterMap_cons, List.filterMap_nil, List.getElem?_toArray, List.getElem?_cons_zero, List.getElem?_cons_succ]
        refine wpChain_step rfl fun K hK => ?_
        obtain ⟨v9, Y1, hr9, ho9, hg9, hob9⟩ := append_one ho65 26 (W.heap.size) 1 T (unhide HGT) hx65 (by rw [← unhide HPN]; have := unhide HPB; omega) hB65.size
        obtain ⟨A', c', rfl, hc9, hd9, _⟩ := own_form ho9 (fun d hd => by rcases List.mem_append.1 hd with h | h; exact (unhide HPk).dg d h; rw [List.mem_singleton.1 h]; exact (unhide HGT))
        have hB9 := grown_below hB65 hg9 (fun k hk => (ho65.lt k hk).1)
        have hln : (pathP (pubsS seed M) U ++ [T]).length = p + 1 := by rw [List.length_append, ← unhide HPN]; rfl
        rw [hln] at hr9 hc9 ho9
        refine wp_append (.tmp 90) (.tmp 92) 26 rfl _ _ _ Y1 rfl rfl hr9 ?_
        have hs9 := (unhide HS).keep hB9
        have hsd9 := (unhide HD).keep hB9
        refine hK _ _ hsd9 ?_
        clear hK K
        try simp only [List.getElem_toArray, List.getElem_cons_zero, List.getElem_cons_succ, Act.put, List.setIfInBounds_toArray, List.set_cons_zero, List.set_cons_succ]
        refine wpChain_step rfl fun K hK => ?_
        go_simp
        refine hK _ _ hsd9 ?_
        clear hK K
        have hcc := hs9.cell (j := 3) rfl
        have hff := hs9.free 3
        refine wpChain_step rfl fun K hK => ?_
        go_simp
        have hsd10 : ByAt (Y1.setCell ⟨N_HS, 3, none⟩ (.slice A' (p + 1) c')) N_HD 24 T := (vs_set hsd9.vs (unhide HLOW).2 : VsAt _ N_HD 24 _)
        refine hK _ _ hsd10 (wpChain_nil ?_)
        clear hK K
        have hgk : GK W.heap.size N_HS W (Y1.setCell ⟨N_HS, 3, none⟩ (.slice A' (p + 1) c')) := (GK.below (Nat.le_refl _) hB9).trans (gk_set 3 _)
        have hds := (show Ds (Y1.setCell ⟨N_HS, 3, none⟩ (.slice A' (p + 1) c')) A' (pathP (pubsS seed M) U ++ [T]) by
          obtain ⟨B1, x1, hw, _, hdd⟩ := (ho9.putAt (P := N_HS) (o := 3) (u := .slice A' (p + 1) c') (lt_of_block (unhide HS))).ds (fun d hd => by rcases List.mem_append.1 hd with h | h; exact (unhide HPk).dg d h; rw [List.mem_singleton.1 h]; exact (unhide HGT))
          injection hw with hw _ _
          subst hw
          exact hdd)
        have hzs := hs9.set 3 (.slice A' (p + 1) c')
        have hz1 := hgk.under (unhide HB) (unhide HB).size (unhide HLOW).1
        have hzk := hgk.under (unhide HBk) (unhide HBk).size (by have := unhide HNM; omega)
        obtain ⟨wc, hwc⟩ : ∃ x, x = Y1.setCell ⟨N_HS, 3, none⟩ (.slice A' (p + 1) c') := ⟨_, rfl⟩
        rw [← hwc] at hds hzs hz1 hzk hsd10 ⊢
        have HZS := hide (show VsAt wc N_HS 52 [.int .i64 (U : Int), .slice A1 64 c1, .slice A2 64 c2, .slice A' (p + 1) c'] from hzs); have HZD := hide hsd10; have HZ1 := hide hz1; have HZK := hide hzk; have HDS' := hide hds; have HC' : Hid (p + 1 ≤ c') := hc9
        clear hds hzs hz1 hzk hsd10 hgk hwc hr9 ho9 hg9 hob9 hc9 hd9 hln hs9 hsd9 hcc hff hB9
        go_upto_region 26 with fail
        refine wp_region_lit ?_
        refine wpList_gload (by kernel_rfl) 24 (.tmp 9) rfl N_HD rfl _ Tryd.underlying24 rfl 32 info32 _ T (unhide HZD) (unhide HGT).len ?_
        rw [show dv T = .agg ct by rw [unhide HCT]]
        try simp only [List.getElem_toArray, List.getElem_cons_zero, List.getElem_cons_succ, Act.put, List.setIfInBounds_toArray, List.set_cons_zero, List.set_cons_succ]
        refine wpList_wanted (by kernel_rfl) fun Kt hKt => ?_
        go_simp
        refine hKt _ _ ?_
        clear hKt Kt
        refine wpList_wanted (by kernel_rfl) fun Kt hKt => ?_
        go_simp
        refine hKt _ _ ?_
        clear hKt Kt
        refine wpList_vgload (by kernel_rfl) 52 (.tmp 12) rfl N_HS rfl _ Tryd.underlying52 rfl _ [.int .i64 (U : Int), .slice A1 64 c1, .slice A2 64 c2, .slice A' (p + 1) c'] infoSig (unhide HZS) ?_
        try simp only [List.getElem_toArray, List.getElem_cons_zero, List.getElem_cons_succ, Act.put, List.setIfInBounds_toArray, List.set_cons_zero, List.set_cons_succ]
        have hve := Verify_any wc T (unhide HGT) M U (by have := unhide HNN; omega) (by have := unhide HNN; omega) (by have := unhide HNN; have := unhide HUM; omega) Aa na ca ma (unhide HNA).1 (unhide HNA).2.1 ((unhide HMA0).keep (unhide HZ1)) (unhide HNA).2.2 (by have := unhide HNN; omega) A1 c1 _ ((unhide HOk).keep (unhide HZK)) A2 c2 _ ((unhide HCk).keep (unhide HZK)) A' (p + 1) c' _ (by rw [List.length_append, ← unhide HPN]; rfl) (unhide HC') (unhide HDS') ((unhide HT0).keep (unhide HZ1))
        rw [verS_long T seed M U _ _ _ (by have := unhide HNN; have := unhide HUM; omega), show dv T = .agg ct by rw [unhide HCT]] at hve
        go_wp2_with fail
        refine hve.mono ?_; rintro x Z9 ⟨rfl, hb⟩
        have HZB := hide (thenB (unhide HZ1) hb)
        clear hve hb
        go_wp2_with fail
        go_ret
        exact ⟨rfl, unhide HZB⟩
  go_upto_region 11 with fail
  refine wp_region_lit ?_
  refine wpList_gload (by kernel_rfl) 24 (.tmp 9) rfl N_HD rfl _ Tryd.underlying24 rfl 32 info32 _ T (unhide HD) (unhide HGT).len ?_
  rw [show dv T = .agg ct by rw [unhide HCT]]
  try simp only [List.getElem_toArray, List.getElem_cons_zero, List.getElem_cons_succ, Act.put, List.setIfInBounds_toArray, List.set_cons_zero, List.set_cons_succ]
  refine wpList_wanted (by kernel_rfl) fun Kt hKt => ?_
  go_simp
  refine hKt _ _ ?_
  clear hKt Kt
  refine wpList_wanted (by kernel_rfl) fun Kt hKt => ?_
  go_simp
  refine hKt _ _ ?_
  clear hKt Kt
  refine wpList_vgload (by kernel_rfl) 52 (.tmp 12) rfl N_HS rfl _ Tryd.underlying52 rfl _ [.int .i64 (U : Int), .slice A1 64 c1, .slice A2 64 c2, .slice A3 p c3] infoSig (unhide HS) ?_
  try simp only [List.getElem_toArray, List.getElem_cons_zero, List.getElem_cons_succ, Act.put, List.setIfInBounds_toArray, List.set_cons_zero, List.set_cons_succ]
  have hve := Verify_any W11 T (unhide HGT) M U (by have := unhide HNN; omega) (by have := unhide HNN; omega) (by have := unhide HNN; have := unhide HUM; omega) Aa na ca ma (unhide HNA).1 (unhide HNA).2.1 (unhide HMA) (unhide HNA).2.2 (by have := unhide HNN; omega) A1 c1 _ ((unhide HOk).keep (unhide HBk)) A2 c2 _ ((unhide HCk).keep (unhide HBk)) A3 p c3 _ (unhide HPN) (unhide HPL).1 ((unhide HPk).keep (unhide HBk)) (unhide HT)
  rw [unhide HBS, unhide HTT, verS_own seed M U ma (by have := unhide HNN; have := unhide HUM; omega), ← unhide HTT, show dv T = .agg ct by rw [unhide HCT]] at hve
  go_wp2_with fail
  refine hve.mono ?_; rintro x Z9 ⟨rfl, hb⟩
  have HZB := hide (thenB (unhide HB) hb)
  clear hve hb
  go_wp2_with fail
  go_ret
  exact ⟨rfl, unhide HZB⟩
end Go.Proofs.YtninjgplgoimeaaDoor
