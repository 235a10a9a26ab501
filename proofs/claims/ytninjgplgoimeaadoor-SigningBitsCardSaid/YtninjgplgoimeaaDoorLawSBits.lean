/- The law SigningBits: a signature verifies for messages with the same bits. -/
import Derived.Test.YtninjgplgoimeaaDoorSigSane
import Derived.Test.YtninjgplgoimeaaDoorClose
import Derived.Test.YtninjgplgoimeaaDoorSigSame
namespace Go.Proofs.YtninjgplgoimeaaDoor
set_option linter.unusedSimpArgs false
set_option linter.unusedVariables false
open Go.RowKit Go.LawClose

theorem verS_own (seed : List Int) (n i : Nat) (msg : List Int) (hi : i < n) : verS (treeP (pubsS seed n)) n i (bitsS (treeP (pubsS seed n)) i msg) (openedS seed i (bitsS (treeP (pubsS seed n)) i msg) 64) (closedS seed i (bitsS (treeP (pubsS seed n)) i msg) 64) (pathP (pubsS seed n) i) = true := ver_own seed n i _ hi
/-- a load of values under a guard -/
theorem wpList_vgload {P : Program} {ops : Array Oper} {rest : List Oper} {o : Oper} {a : Act} {w : World} {Q : Exit → Act → World → Prop} (hw : Region.wanted o (yielded ops a.tmps) = true) (ty : TypeId) (x : Operand) (ho : o.op = .load ty x)
    (N : Nat) (hx : a.eval x = .pointer (some ⟨N, 0, none⟩)) (d : TypeDesc) (hu : P.underlying ty = some d) (hd : d.isRow = true) (T : TypeId) (cs : List Value) (hi : (P.info? ty).map (·.size) = some cs.length) (h0 : VsAt w N T cs)
    (h : wpList P ops Q rest (a.put o.dst (.agg cs.toArray)) w) : wpList P ops Q (o :: rest) a w :=
  wpList_wanted hw fun _ hK => wp_load_mid ty x ho N 0 hx cs d h0.range hu hd hi (hK _ _ h)
theorem Sign_none (w : World) (A : Option Addr) (n c : Nat) (many used : Int) (hk : keyOk n many used = false) (v : Value) :
    Calls Tryd.prog 37 #[.agg #[.slice A n c, .int .i64 many, .int .i64 used], v] w fun x w' => x = .returned (.tuple #[.agg #[.slice none 0 0, .int .i64 0, .int .i64 0], .agg #[.int .i64 0, .slice none 0 0, .slice none 0 0, .slice none 0 0], .int .i64 40]) ∧ Below w.heap.size w w' :=
  Sign_bad w A n c many used hk v
theorem Public_none (w : World) (A : Option Addr) (n c : Nat) (many used : Int) (hk : keyOk n many used = false) :
    Calls Tryd.prog 35 #[.agg #[.slice A n c, .int .i64 many, .int .i64 used]] w fun x w' => x = .returned (.tuple #[dv zeros, .int .i64 40]) ∧ Below w.heap.size w w' := Public_bad w A n c many used hk
theorem Public_some (w : World) (A : Option Addr) (n c : Nat) (seed : List Int) (hn : n = seed.length) (hc : n ≤ c) (hA : Bt w A seed) (many : Nat) (u : Int) (hk : keyOk n (many : Int) u = true) (T : List Int) (hT : T = treeP (pubsS seed many)) (hTb : DTab w) :
    Calls Tryd.prog 35 #[.agg #[.slice A n c, .int .i64 (many : Int), .int .i64 u]] w fun x w' => x = .returned (.tuple #[dv T, .int .i64 0]) ∧ Below w.heap.size w w' := by
  subst hT
  exact Public_ok w A n c seed hn hc hA many u hk hTb
/-- a signature is returned, its parts under names of their own -/
theorem Sign_some (w : World) (A : Option Addr) (n c : Nat) (seed : List Int) (hn : n = seed.length) (hc : n ≤ c) (hA : Bt w A seed) (many used u1 : Nat) (hu1 : u1 = used + 1) (hk : keyOk n (many : Int) (used : Int) = true) (hu : used < many)
    (Am : Option Addr) (nm cm : Nat) (msg : List Int) (hnm : nm = msg.length) (hcm : nm ≤ cm) (hAm : Bt w Am msg) (hAm0 : Am = none → cm = 0) (h65 : nm ≤ 65536) (T : List Int) (hT : T = treeP (pubsS seed many)) (bs : List Bool) (hbs : bs = bitsS T used msg) (p : Nat) (hp : p = (pathP (pubsS seed many) used).length) (hTb : DTab w) :
    Calls Tryd.prog 37 #[.agg #[.slice A n c, .int .i64 (many : Int), .int .i64 (used : Int)], .slice Am nm cm] w fun x w' => ∃ A1 c1 A2 c2 A3 c3, x = .returned (.tuple #[.agg #[.slice A n c, .int .i64 (many : Int), .int .i64 (u1 : Int)], .agg #[.int .i64 (used : Int), .slice A1 64 c1, .slice A2 64 c2, .slice A3 p c3], .int .i64 0]) ∧
      Sg64 w' A1 c1 (openedS seed used bs 64) ∧ Sg64 w' A2 c2 (closedS seed used bs 64) ∧ p ≤ c3 ∧ Ds w' A3 (pathP (pubsS seed many) used) ∧ (A3 = none → c3 = 0) ∧ Below w.heap.size w w' := by
  subst hu1 hT hbs hp
  exact Sign_ok w A n c seed hn hc hA many used hk hu Am nm cm msg hnm hcm hAm hAm0 h65 hTb
theorem key_nat (n : Nat) (m u : Int) (h : keyOk n m u = true) (h2 : m ≤ 2) : ∃ M U : Nat, m = (M : Int) ∧ u = (U : Int) ∧ 1 ≤ n ∧ n ≤ 64 ∧ 1 ≤ M ∧ M ≤ 2 ∧ U ≤ M := by
  unfold keyOk at h
  rw [decide_eq_true_eq] at h
  exact ⟨m.toNat, u.toNat, by omega, by omega, by omega, by omega, by omega, by omega, by omega⟩

set_option maxRecDepth 100000 in
set_option maxHeartbeats 8000000 in
theorem sbits_any (A : Option Addr) (c : Nat) (seed : List Int) (m u : Int) (Aa : Option Addr) (ca : Nat) (ma : List Int) (Ab : Option Addr) (cb : Nat) (mb : List Int) (w : World) (hA : Bt w A seed) (hc : seed.length ≤ c) (hAa : Bt w Aa ma) (hca : ma.length ≤ ca) (hna : Aa = none → ca = 0) (hAb : Bt w Ab mb) (hcb : mb.length ≤ cb) (hnb : Ab = none → cb = 0) (hm : -9223372036854775808 ≤ m ∧ m ≤ 9223372036854775807) (hu : -9223372036854775808 ≤ u ∧ u ≤ 9223372036854775807) (hT : DTab w) :
    Calls Tryd.prog 11 #[keyV A seed.length c m u, .slice Aa ma.length ca, .slice Ab mb.length cb] w (LawOk w) := by
  obtain ⟨n, hn⟩ : ∃ n, n = seed.length := ⟨_, rfl⟩
  obtain ⟨na, hla⟩ : ∃ n, n = ma.length := ⟨_, rfl⟩
  rw [← hn] at hc ⊢
  rw [← hla] at hca ⊢
  obtain ⟨nb, hlb⟩ : ∃ n, n = mb.length := ⟨_, rfl⟩
  rw [← hlb] at hcb ⊢
  have HNB : Hid (nb = mb.length ∧ nb ≤ cb ∧ (Ab = none → cb = 0)) := ⟨hlb, hcb, hnb⟩
  have HMB := hide hAb
  have HB : Hid (Below w.heap.size w w) := Below.refl _ _
  have HT := hide hT; have HA := hide hA; have HMA := hide hAa
  have HN : Hid (n = seed.length ∧ n ≤ c) := ⟨hn, hc⟩
  have HNA : Hid (na = ma.length ∧ na ≤ ca ∧ (Aa = none → ca = 0)) := ⟨hla, hca, hna⟩
  unfold keyV
  clear hT hA hAa hn hc hla hca hna hm hu hAb hlb hcb hnb
  go_enter Tryd.func11, Tryd.ntmps11
  go_wp2_with fail
  generalize hX : w.alloc _ = W1
  have hb : Below w.heap.size w W1 := hX ▸ (Below.refl _ _).alloc (Nat.le_refl _) _
  have hv : VsAt W1 w.heap.size 40 [.slice A n c, .int .i64 m, .int .i64 u] := boxedV w W1 _ _ (by rw [← hX]; rfl)
  obtain ⟨N_HK, hN⟩ : ∃ N, N = w.heap.size := ⟨_, rfl⟩
  have hz : W1.heap.size = w.heap.size + 1 := by rw [← hX]; show (w.heap.push _).size = _; rw [Array.size_push]
  rw [← hN] at hv ⊢
  rw [← hN] at hz
  have HK_ := hide hv
  have hzz := hz
  clear hX hN hv
  replace HT := hide ((unhide HT).keep hb)
  replace HA := hide ((unhide HA).keep hb)
  replace HMA := hide ((unhide HMA).keep hb)
  replace HMB := hide ((unhide HMB).keep hb)
  replace HB := hide (thenB (unhide HB) hb)
  clear hb
  have HK := HK_
  clear HK_
  clear hz hzz
  refine (sane4_any W1 (unhide HT)).mono ?_; rintro x W2 ⟨rfl, hb⟩
  replace HT := hide ((unhide HT).keep hb)
  replace HA := hide ((unhide HA).keep hb)
  replace HMA := hide ((unhide HMA).keep hb)
  replace HMB := hide ((unhide HMB).keep hb)
  replace HK := hide ((unhide HK).keep hb)
  replace HB := hide (thenB (unhide HB) hb)
  clear hb
  go_upto_region 3 with fail
  refine wp_region_lit ?_
  refine wpList_load_mid rfl 40 (.tmp 3) rfl N_HK 0 rfl [.slice A n c, .int .i64 m, .int .i64 u] _ (unhide HK).range Tryd.underlying40 rfl infoKey ?_
  try simp only [List.getElem_toArray, List.getElem_cons_zero, List.getElem_cons_succ, Act.put, List.setIfInBounds_toArray, List.set_cons_zero, List.set_cons_succ]
  go_wp2_with fail
  refine (few4_any W2 A n c m u Aa na ca).mono ?_; rintro x W3 ⟨rfl, hb⟩
  replace HT := hide ((unhide HT).keep hb)
  replace HA := hide ((unhide HA).keep hb)
  replace HMA := hide ((unhide HMA).keep hb)
  replace HMB := hide ((unhide HMB).keep hb)
  replace HK := hide ((unhide HK).keep hb)
  replace HB := hide (thenB (unhide HB) hb)
  clear hb
  by_cases hf : fewS n m na = true
  case neg =>
    rw [show fewS n m na = false by simpa using hf]
    clear hf
    go_wp2_with fail
    go_ret
    exact ⟨rfl, unhide HB⟩
  rw [hf]
  unfold fewS at hf
  rw [decide_eq_true_eq] at hf
  have HF1 := hide hf
  clear hf
  dsimp only
  rename_i KK hK
  refine hK _ _ ?_
  clear hK KK
  refine wpList_plain rfl fun Kt hKt => ?_
  go_simp
  refine hKt _ _ ?_
  clear hKt Kt
  refine wpList_plain rfl fun Kt hKt => ?_
  go_simp
  refine hKt _ _ ?_
  clear hKt Kt
  refine wpList_vgload (by kernel_rfl) 40 (.tmp 3) rfl N_HK rfl _ Tryd.underlying40 rfl _ [.slice A n c, .int .i64 m, .int .i64 u] infoKey (unhide HK) ?_
  try simp only [List.getElem_toArray, List.getElem_cons_zero, List.getElem_cons_succ, Act.put, List.setIfInBounds_toArray, List.set_cons_zero, List.set_cons_succ]
  refine wpList_wanted (by kernel_rfl) fun Kt hKt => ?_
  go_simp
  refine hKt _ _ ?_
  clear hKt Kt
  refine wpList_wanted (by kernel_rfl) fun Kt hKt => ?_
  go_simp
  refine (few4_any W3 A n c m u Ab nb cb).mono ?_; rintro x W4 ⟨rfl, hb⟩
  replace HT := hide ((unhide HT).keep hb)
  replace HA := hide ((unhide HA).keep hb)
  replace HMA := hide ((unhide HMA).keep hb)
  replace HMB := hide ((unhide HMB).keep hb)
  replace HK := hide ((unhide HK).keep hb)
  replace HB := hide (thenB (unhide HB) hb)
  clear hb
  dsimp only
  refine hKt _ _ ?_
  clear hKt Kt
  by_cases hf : fewS n m nb = true
  case neg =>
    rw [show fewS n m nb = false by simpa using hf]
    clear hf
    go_wp2_with fail
    go_ret
    exact ⟨rfl, unhide HB⟩
  rw [hf]
  unfold fewS at hf
  rw [decide_eq_true_eq] at hf
  by_cases hk : keyOk n m u = true
  case neg =>
    have hk' : keyOk n m u = false := by simpa using hk
    have HKF := hide hk'
    obtain ⟨Z0, hZ0⟩ : ∃ t, t = zeros := ⟨_, rfl⟩
    obtain ⟨cz, hcz⟩ : ∃ cs, cs = (Z0.map (Value.int .u8)).toArray := ⟨_, rfl⟩
    have hsz : cz.size = 32 := by rw [hcz, hZ0]; rfl
    have HZ0 := hide hZ0; have HCZ := hide hcz; have HGZ := hide (show Dg Z0 from hZ0 ▸ dg_zeros)
    clear hk hk' hf hZ0 hcz
    go_upto_region 5 with fail
    refine wp_region_lit ?_
    refine wpList_load_mid rfl 40 (.tmp 3) rfl N_HK 0 rfl [.slice A n c, .int .i64 m, .int .i64 u] _ (unhide HK).range Tryd.underlying40 rfl infoKey ?_
    try simp only [List.getElem_toArray, List.getElem_cons_zero, List.getElem_cons_succ, Act.put, List.setIfInBounds_toArray, List.set_cons_zero, List.set_cons_succ]
    go_wp2_with fail
    have hpu := (by have h := Public_none W4 A n c m u (unhide HKF); rw [← unhide HZ0] at h; exact h : Calls Tryd.prog 35 #[.agg #[.slice A n c, .int .i64 m, .int .i64 u]] W4 fun x w' => x = .returned (.tuple #[dv Z0, .int .i64 40]) ∧ Below (W4).heap.size W4 w')
    rw [show dv Z0 = .agg cz by rw [unhide HCZ]] at hpu
    refine hpu.mono ?_; rintro x W5 ⟨rfl, hb⟩
    clear hpu
    replace HT := hide ((unhide HT).keep hb)
    replace HA := hide ((unhide HA).keep hb)
    replace HMA := hide ((unhide HMA).keep hb)
    replace HMB := hide ((unhide HMB).keep hb)
    replace HK := hide ((unhide HK).keep hb)
    replace HB := hide (thenB (unhide HB) hb)
    clear hb
    dsimp only
    rename_i KK hK
    refine hK _ _ ?_
    clear hK KK
    refine wpList_plain rfl fun Kt hKt => ?_
    go_simp
    refine hKt _ _ ?_
    clear hKt Kt
    refine wpList_plain rfl fun Kt hKt => ?_
    go_simp
    refine hKt _ _ ?_
    clear hKt Kt
    refine wpList_plain rfl fun Kt hKt => ?_
    go_simp
    refine hKt _ _ ?_
    clear hKt Kt
    refine wpList_plain rfl fun Kt hKt => ?_
    go_simp
    refine hKt _ _ ?_
    clear hKt Kt
    generalize hX : W5.alloc _ = W6
    have hb : Below W5.heap.size W5 W6 := hX ▸ (Below.refl _ _).alloc (Nat.le_refl _) _
    have HZ_ := hide (newBy W5 W6 (by rw [← hX]; rfl))
    have HBB_ := hide hb
    clear hX hb
    refine wpList_bstore rfl 24 (.tmp 7) (.tmp 27) rfl W5.heap.size rfl Z0 (show Value.agg cz = _ by rw [unhide HCZ]) 32 info32 (unhide HGZ).len _ zeros (unhide HZ_) rfl ?_
    intro W7 HV_ HG_
    have hv := unhide HV_
    have hb : Below W5.heap.size W5 W7 := (unhide HBB_).grown (unhide HG_) (unhide HBB_).size (fun i e => by injection e with e; omega)
    obtain ⟨N_HD, hN⟩ : ∃ N, N = W5.heap.size := ⟨_, rfl⟩
    rw [← hN] at hv ⊢
    have HD_ := hide hv
    clear hN hv HV_ HG_ HZ_ HBB_
    replace HT := hide ((unhide HT).keep hb)
    replace HA := hide ((unhide HA).keep hb)
    replace HMA := hide ((unhide HMA).keep hb)
    replace HMB := hide ((unhide HMB).keep hb)
    replace HK := hide ((unhide HK).keep hb)
    replace HB := hide (thenB (unhide HB) hb)
    clear hb
    have HD := HD_
    clear HD_
    try simp only [List.getElem_toArray, List.getElem_cons_zero, List.getElem_cons_succ, Act.put, List.setIfInBounds_toArray, List.set_cons_zero, List.set_cons_succ]
    go_upto_region 6 with fail
    refine wp_region_lit ?_
    refine wpList_load_mid rfl 40 (.tmp 3) rfl N_HK 0 rfl [.slice A n c, .int .i64 m, .int .i64 u] _ (unhide HK).range Tryd.underlying40 rfl infoKey ?_
    try simp only [List.getElem_toArray, List.getElem_cons_zero, List.getElem_cons_succ, Act.put, List.setIfInBounds_toArray, List.set_cons_zero, List.set_cons_succ]
    go_wp2_with fail
    refine (Sign_none W7 A n c m u (unhide HKF) _).mono ?_; rintro x W8 ⟨rfl, hb⟩
    replace HT := hide ((unhide HT).keep hb)
    replace HA := hide ((unhide HA).keep hb)
    replace HMA := hide ((unhide HMA).keep hb)
    replace HMB := hide ((unhide HMB).keep hb)
    replace HK := hide ((unhide HK).keep hb)
    replace HD := hide ((unhide HD).keep hb)
    replace HB := hide (thenB (unhide HB) hb)
    clear hb
    dsimp only
    rename_i KK hK
    refine hK _ _ ?_
    clear hK KK
    refine wpList_plain rfl fun Kt hKt => ?_
    go_simp
    refine hKt _ _ ?_
    clear hKt Kt
    refine wpList_plain rfl fun Kt hKt => ?_
    go_simp
    refine hKt _ _ ?_
    clear hKt Kt
    refine wpList_plain rfl fun Kt hKt => ?_
    go_simp
    refine hKt _ _ ?_
    clear hKt Kt
    refine wpList_plain rfl fun Kt hKt => ?_
    go_simp
    refine hKt _ _ ?_
    clear hKt Kt
    refine wpList_plain rfl fun Kt hKt => ?_
    go_simp
    refine hKt _ _ ?_
    clear hKt Kt
    refine wpList_plain rfl fun Kt hKt => ?_
    go_simp
    refine hKt _ _ ?_
    clear hKt Kt
    generalize hX : W8.alloc _ = W9
    generalize hY : W9.alloc _ = W10
    have hb1 : Below W8.heap.size W8 W9 := hX ▸ (Below.refl _ _).alloc (Nat.le_refl _) _
    have hb2 : Below W9.heap.size W9 W10 := hY ▸ (Below.refl _ _).alloc (Nat.le_refl _) _
    have hz : W9.heap.size = W8.heap.size + 1 := by rw [← hX]; show (W8.heap.push _).size = _; rw [Array.size_push]
    have hv : VsAt W9 W8.heap.size 40 [.slice none 0 0, .int .i64 0, .int .i64 0] := boxedV W8 W9 _ _ (by rw [← hX]; rfl)
    have hu : VsAt W10 W9.heap.size 52 [.int .i64 0, .slice none 0 0, .slice none 0 0, .slice none 0 0] := boxedV W9 W10 _ _ (by rw [← hY]; rfl)
    rw [hz] at hu
    have HV_ := hide (hv.keep hb2); have HU_ := hide hu
    have HBB_ := hide (thenB hb1 hb2)
    obtain ⟨N_HX0, hN⟩ : ∃ N, N = W8.heap.size := ⟨_, rfl⟩
    obtain ⟨N_HS0, hM⟩ : ∃ N, N = W8.heap.size + 1 := ⟨_, rfl⟩
    rw [← hM] at HU_ ⊢
    rw [← hN] at HV_ ⊢
    have HNM_ : Hid (N_HX0 = W8.heap.size ∧ N_HS0 = W8.heap.size + 1) := ⟨hN, hM⟩
    clear hX hY hz hb1 hb2 hv hu hN hM
    refine wpList_vput rfl 40 (.tmp 9) (.tmp 33) rfl N_HX0 0 rfl [.slice none 0 0, .int .i64 0, .int .i64 0] rfl infoKey (keyL_one _ _ _ _ _) _ _ (unhide HV_) (by simp) ?_
    intro W11 HV3_ HG3_
    have hv3 := unhide HV3_
    rw [spliceV_all _ _ (by simp)] at hv3
    have hu3 := (unhide HU_).grown (unhide HG3_) (fun e => by injection e with e; have := unhide HNM_; omega)
    have hb3 : Below W8.heap.size W8 W11 := (unhide HBB_).grown (unhide HG3_) (unhide HBB_).size (fun i e => by injection e with e; have := unhide HNM_; omega)
    have HV4_ := hide hv3; have HU4_ := hide hu3; have HBB4_ := hide hb3
    clear hv3 hu3 hb3 HV3_ HG3_ HV_ HU_ HBB_
    try simp only [List.getElem_toArray, List.getElem_cons_zero, List.getElem_cons_succ, Act.put, List.setIfInBounds_toArray, List.set_cons_zero, List.set_cons_succ]
    refine wpList_vput rfl 52 (.tmp 10) (.tmp 34) rfl N_HS0 0 rfl [.int .i64 0, .slice none 0 0, .slice none 0 0, .slice none 0 0] rfl infoSig (sigL_one _ _ _ _ _ _ _ _ _ _) _ _ (unhide HU4_) (by simp) ?_
    intro W12 HV5_ HG5_
    have hu5 := unhide HV5_
    rw [spliceV_all _ _ (by simp)] at hu5
    have HX0_ := hide ((unhide HV4_).grown (unhide HG5_) (fun e => by injection e with e; have := unhide HNM_; omega)); have HS0_ := hide hu5
    have hb : Below W8.heap.size W8 W12 := (unhide HBB4_).grown (unhide HG5_) (unhide HBB4_).size (fun i e => by injection e with e; have := unhide HNM_; omega)
    clear hu5 HV5_ HG5_ HV4_ HU4_ HBB4_ HNM_
    replace HT := hide ((unhide HT).keep hb)
    replace HA := hide ((unhide HA).keep hb)
    replace HMA := hide ((unhide HMA).keep hb)
    replace HMB := hide ((unhide HMB).keep hb)
    replace HK := hide ((unhide HK).keep hb)
    replace HD := hide ((unhide HD).keep hb)
    replace HB := hide (thenB (unhide HB) hb)
    clear hb
    have HX0 := HX0_; have HS0 := HS0_
    clear HX0_ HS0_
    try simp only [List.getElem_toArray, List.getElem_cons_zero, List.getElem_cons_succ, Act.put, List.setIfInBounds_toArray, List.set_cons_zero, List.set_cons_succ]
    go_wp2_with fail
    go_ret
    exact ⟨rfl, unhide HB⟩
  obtain ⟨M, U, rfl, rfl, n1, n64, m1, m2, um⟩ := key_nat n m u hk hf.1
  have HKO := hide hk
  have HNN : Hid (1 ≤ n ∧ n ≤ 64 ∧ 1 ≤ M ∧ M ≤ 2 ∧ U ≤ M ∧ na ≤ 300 ∧ nb ≤ 300) := ⟨n1, n64, m1, m2, um, (unhide HF1).2.2, hf.2.2⟩
  obtain ⟨T, hT⟩ : ∃ t, t = treeP (pubsS seed M) := ⟨_, rfl⟩
  have hgT : Dg T := hT ▸ dg_tree _
  obtain ⟨ct, hct⟩ : ∃ cs, cs = (T.map (Value.int .u8)).toArray := ⟨_, rfl⟩
  have hst : ct.size = 32 := by rw [hct]; simpa using hgT.len
  have HTT := hide hT; have HGT := hide hgT; have HCT := hide hct
  clear hT hgT hct hk n1 n64 m1 m2 um hf HF1
  go_upto_region 5 with fail
  refine wp_region_lit ?_
  refine wpList_load_mid rfl 40 (.tmp 3) rfl N_HK 0 rfl [.slice A n c, .int .i64 (M : Int), .int .i64 (U : Int)] _ (unhide HK).range Tryd.underlying40 rfl infoKey ?_
  try simp only [List.getElem_toArray, List.getElem_cons_zero, List.getElem_cons_succ, Act.put, List.setIfInBounds_toArray, List.set_cons_zero, List.set_cons_succ]
  go_wp2_with fail
  have hpu := Public_some W4 A n c seed (unhide HN).1 (unhide HN).2 (unhide HA) M (U : Int) (unhide HKO) T (unhide HTT) (unhide HT)
  rw [show dv T = .agg ct by rw [unhide HCT]] at hpu
  refine hpu.mono ?_; rintro x W5 ⟨rfl, hb⟩
  clear hpu
  replace HT := hide ((unhide HT).keep hb)
  replace HA := hide ((unhide HA).keep hb)
  replace HMA := hide ((unhide HMA).keep hb)
  replace HMB := hide ((unhide HMB).keep hb)
  replace HK := hide ((unhide HK).keep hb)
  replace HB := hide (thenB (unhide HB) hb)
  clear hb
  dsimp only
  rename_i KK hK
  refine hK _ _ ?_
  clear hK KK
  refine wpList_plain rfl fun Kt hKt => ?_
  go_simp
  refine hKt _ _ ?_
  clear hKt Kt
  refine wpList_plain rfl fun Kt hKt => ?_
  go_simp
  refine hKt _ _ ?_
  clear hKt Kt
  refine wpList_plain rfl fun Kt hKt => ?_
  go_simp
  refine hKt _ _ ?_
  clear hKt Kt
  refine wpList_plain rfl fun Kt hKt => ?_
  go_simp
  refine hKt _ _ ?_
  clear hKt Kt
  generalize hX : W5.alloc _ = W6
  have hb : Below W5.heap.size W5 W6 := hX ▸ (Below.refl _ _).alloc (Nat.le_refl _) _
  have HZ_ := hide (newBy W5 W6 (by rw [← hX]; rfl))
  have HBB_ := hide hb
  clear hX hb
  refine wpList_bstore rfl 24 (.tmp 7) (.tmp 27) rfl W5.heap.size rfl T (show Value.agg ct = _ by rw [unhide HCT]) 32 info32 (unhide HGT).len _ zeros (unhide HZ_) rfl ?_
  intro W7 HV_ HG_
  have hv := unhide HV_
  have hb : Below W5.heap.size W5 W7 := (unhide HBB_).grown (unhide HG_) (unhide HBB_).size (fun i e => by injection e with e; omega)
  obtain ⟨N_HD, hN⟩ : ∃ N, N = W5.heap.size := ⟨_, rfl⟩
  rw [← hN] at hv ⊢
  have HD_ := hide hv
  clear hN hv HV_ HG_ HZ_ HBB_
  replace HT := hide ((unhide HT).keep hb)
  replace HA := hide ((unhide HA).keep hb)
  replace HMA := hide ((unhide HMA).keep hb)
  replace HMB := hide ((unhide HMB).keep hb)
  replace HK := hide ((unhide HK).keep hb)
  replace HB := hide (thenB (unhide HB) hb)
  clear hb
  have HD := HD_
  clear HD_
  try simp only [List.getElem_toArray, List.getElem_cons_zero, List.getElem_cons_succ, Act.put, List.setIfInBounds_toArray, List.set_cons_zero, List.set_cons_succ]
  by_cases hUM : U = M
  case pos =>
    subst hUM
    go_upto_region 6 with fail
    refine wp_region_lit ?_
    refine wpList_load_mid rfl 40 (.tmp 3) rfl N_HK 0 rfl [.slice A n c, .int .i64 (U : Int), .int .i64 (U : Int)] _ (unhide HK).range Tryd.underlying40 rfl infoKey ?_
    try simp only [List.getElem_toArray, List.getElem_cons_zero, List.getElem_cons_succ, Act.put, List.setIfInBounds_toArray, List.set_cons_zero, List.set_cons_succ]
    go_wp2_with fail
    refine (Sign_no W7 A n c (U : Int) (unhide HKO) Aa na ca (by have := unhide HNN; omega)).mono ?_; rintro x W8 ⟨rfl, hb⟩
    replace HT := hide ((unhide HT).keep hb)
    replace HA := hide ((unhide HA).keep hb)
    replace HMA := hide ((unhide HMA).keep hb)
    replace HMB := hide ((unhide HMB).keep hb)
    replace HK := hide ((unhide HK).keep hb)
    replace HD := hide ((unhide HD).keep hb)
    replace HB := hide (thenB (unhide HB) hb)
    clear hb
    dsimp only
    rename_i KK hK
    refine hK _ _ ?_
    clear hK KK
    refine wpList_plain rfl fun Kt hKt => ?_
    go_simp
    refine hKt _ _ ?_
    clear hKt Kt
    refine wpList_plain rfl fun Kt hKt => ?_
    go_simp
    refine hKt _ _ ?_
    clear hKt Kt
    refine wpList_plain rfl fun Kt hKt => ?_
    go_simp
    refine hKt _ _ ?_
    clear hKt Kt
    refine wpList_plain rfl fun Kt hKt => ?_
    go_simp
    refine hKt _ _ ?_
    clear hKt Kt
    refine wpList_plain rfl fun Kt hKt => ?_
    go_simp
    refine hKt _ _ ?_
    clear hKt Kt
    refine wpList_plain rfl fun Kt hKt => ?_
    go_simp
    refine hKt _ _ ?_
    clear hKt Kt
    generalize hX : W8.alloc _ = W9
    generalize hY : W9.alloc _ = W10
    have hb1 : Below W8.heap.size W8 W9 := hX ▸ (Below.refl _ _).alloc (Nat.le_refl _) _
    have hb2 : Below W9.heap.size W9 W10 := hY ▸ (Below.refl _ _).alloc (Nat.le_refl _) _
    have hz : W9.heap.size = W8.heap.size + 1 := by rw [← hX]; show (W8.heap.push _).size = _; rw [Array.size_push]
    have hv : VsAt W9 W8.heap.size 40 [.slice none 0 0, .int .i64 0, .int .i64 0] := boxedV W8 W9 _ _ (by rw [← hX]; rfl)
    have hu : VsAt W10 W9.heap.size 52 [.int .i64 0, .slice none 0 0, .slice none 0 0, .slice none 0 0] := boxedV W9 W10 _ _ (by rw [← hY]; rfl)
    rw [hz] at hu
    have HV_ := hide (hv.keep hb2); have HU_ := hide hu
    have HBB_ := hide (thenB hb1 hb2)
    obtain ⟨N_HX0, hN⟩ : ∃ N, N = W8.heap.size := ⟨_, rfl⟩
    obtain ⟨N_HS0, hM⟩ : ∃ N, N = W8.heap.size + 1 := ⟨_, rfl⟩
    rw [← hM] at HU_ ⊢
    rw [← hN] at HV_ ⊢
    have HNM_ : Hid (N_HX0 = W8.heap.size ∧ N_HS0 = W8.heap.size + 1) := ⟨hN, hM⟩
    clear hX hY hz hb1 hb2 hv hu hN hM
    refine wpList_vput rfl 40 (.tmp 9) (.tmp 33) rfl N_HX0 0 rfl [.slice none 0 0, .int .i64 0, .int .i64 0] rfl infoKey (keyL_one _ _ _ _ _) _ _ (unhide HV_) (by simp) ?_
    intro W11 HV3_ HG3_
    have hv3 := unhide HV3_
    rw [spliceV_all _ _ (by simp)] at hv3
    have hu3 := (unhide HU_).grown (unhide HG3_) (fun e => by injection e with e; have := unhide HNM_; omega)
    have hb3 : Below W8.heap.size W8 W11 := (unhide HBB_).grown (unhide HG3_) (unhide HBB_).size (fun i e => by injection e with e; have := unhide HNM_; omega)
    have HV4_ := hide hv3; have HU4_ := hide hu3; have HBB4_ := hide hb3
    clear hv3 hu3 hb3 HV3_ HG3_ HV_ HU_ HBB_
    try simp only [List.getElem_toArray, List.getElem_cons_zero, List.getElem_cons_succ, Act.put, List.setIfInBounds_toArray, List.set_cons_zero, List.set_cons_succ]
    refine wpList_vput rfl 52 (.tmp 10) (.tmp 34) rfl N_HS0 0 rfl [.int .i64 0, .slice none 0 0, .slice none 0 0, .slice none 0 0] rfl infoSig (sigL_one _ _ _ _ _ _ _ _ _ _) _ _ (unhide HU4_) (by simp) ?_
    intro W12 HV5_ HG5_
    have hu5 := unhide HV5_
    rw [spliceV_all _ _ (by simp)] at hu5
    have HX0_ := hide ((unhide HV4_).grown (unhide HG5_) (fun e => by injection e with e; have := unhide HNM_; omega)); have HS0_ := hide hu5
    have hb : Below W8.heap.size W8 W12 := (unhide HBB4_).grown (unhide HG5_) (unhide HBB4_).size (fun i e => by injection e with e; have := unhide HNM_; omega)
    clear hu5 HV5_ HG5_ HV4_ HU4_ HBB4_ HNM_
    replace HT := hide ((unhide HT).keep hb)
    replace HA := hide ((unhide HA).keep hb)
    replace HMA := hide ((unhide HMA).keep hb)
    replace HMB := hide ((unhide HMB).keep hb)
    replace HK := hide ((unhide HK).keep hb)
    replace HD := hide ((unhide HD).keep hb)
    replace HB := hide (thenB (unhide HB) hb)
    clear hb
    have HX0 := HX0_; have HS0 := HS0_
    clear HX0_ HS0_
    try simp only [List.getElem_toArray, List.getElem_cons_zero, List.getElem_cons_succ, Act.put, List.setIfInBounds_toArray, List.set_cons_zero, List.set_cons_succ]
    go_wp2_with fail
    go_ret
    exact ⟨rfl, unhide HB⟩
  obtain ⟨u1, hu1⟩ : ∃ x, x = U + 1 := ⟨_, rfl⟩
  obtain ⟨bs, hbs⟩ : ∃ b, b = bitsS T U ma := ⟨_, rfl⟩
  obtain ⟨bt, hbt⟩ : ∃ b, b = bitsS T U mb := ⟨_, rfl⟩
  obtain ⟨p, hp⟩ : ∃ x, x = (pathP (pubsS seed M) U).length := ⟨_, rfl⟩
  have HBSL : Hid (bs.length = 64 ∧ bt.length = 64) := by rw [hbs, hbt]; exact ⟨bitsS_length _ _ _, bitsS_length _ _ _⟩
  have HU1 := hide hu1; have HBS := hide hbs; have HBT := hide hbt; have HPN := hide hp; have HUM := hide hUM
  clear hu1 hbs hbt hp hUM
  go_upto_region 6 with fail
  refine wp_region_lit ?_
  refine wpList_load_mid rfl 40 (.tmp 3) rfl N_HK 0 rfl [.slice A n c, .int .i64 (M : Int), .int .i64 (U : Int)] _ (unhide HK).range Tryd.underlying40 rfl infoKey ?_
  try simp only [List.getElem_toArray, List.getElem_cons_zero, List.getElem_cons_succ, Act.put, List.setIfInBounds_toArray, List.set_cons_zero, List.set_cons_succ]
  go_wp2_with fail
  refine (Sign_some W7 A n c seed (unhide HN).1 (unhide HN).2 (unhide HA) M U u1 (unhide HU1) (unhide HKO) (by have := unhide HNN; have := unhide HUM; omega) Aa na ca ma (unhide HNA).1 (unhide HNA).2.1 (unhide HMA) (unhide HNA).2.2 (by have := unhide HNN; omega) T (unhide HTT) bs (unhide HBS) p (unhide HPN) (unhide HT)).mono ?_; rintro x W8 ⟨A1, c1, A2, c2, A3, c3, rfl, ho, hcl, hpl, hp, hq, hb⟩
  replace HT := hide ((unhide HT).keep hb)
  replace HA := hide ((unhide HA).keep hb)
  replace HMA := hide ((unhide HMA).keep hb)
  replace HMB := hide ((unhide HMB).keep hb)
  replace HK := hide ((unhide HK).keep hb)
  replace HD := hide ((unhide HD).keep hb)
  replace HB := hide (thenB (unhide HB) hb)
  clear hb
  have HO := hide ho; have HC := hide hcl; have HP := hide hp; have HPL : Hid (p ≤ c3) := hpl
  clear ho hcl hp hpl hq
  dsimp only
  rename_i KK hK
  refine hK _ _ ?_
  clear hK KK
  refine wpList_plain rfl fun Kt hKt => ?_
  go_simp
  refine hKt _ _ ?_
  clear hKt Kt
  refine wpList_plain rfl fun Kt hKt => ?_
  go_simp
  refine hKt _ _ ?_
  clear hKt Kt
  refine wpList_plain rfl fun Kt hKt => ?_
  go_simp
  refine hKt _ _ ?_
  clear hKt Kt
  refine wpList_plain rfl fun Kt hKt => ?_
  go_simp
  refine hKt _ _ ?_
  clear hKt Kt
  refine wpList_plain rfl fun Kt hKt => ?_
  go_simp
  refine hKt _ _ ?_
  clear hKt Kt
  refine wpList_plain rfl fun Kt hKt => ?_
  go_simp
  refine hKt _ _ ?_
  clear hKt Kt
  generalize hX : W8.alloc _ = W9
  generalize hY : W9.alloc _ = W10
  have hb1 : Below W8.heap.size W8 W9 := hX ▸ (Below.refl _ _).alloc (Nat.le_refl _) _
  have hb2 : Below W9.heap.size W9 W10 := hY ▸ (Below.refl _ _).alloc (Nat.le_refl _) _
  have hz : W9.heap.size = W8.heap.size + 1 := by rw [← hX]; show (W8.heap.push _).size = _; rw [Array.size_push]
  have hv : VsAt W9 W8.heap.size 40 [.slice none 0 0, .int .i64 0, .int .i64 0] := boxedV W8 W9 _ _ (by rw [← hX]; rfl)
  have hu : VsAt W10 W9.heap.size 52 [.int .i64 0, .slice none 0 0, .slice none 0 0, .slice none 0 0] := boxedV W9 W10 _ _ (by rw [← hY]; rfl)
  rw [hz] at hu
  have HV_ := hide (hv.keep hb2); have HU_ := hide hu
  have HBB_ := hide (thenB hb1 hb2)
  obtain ⟨N_HX0, hN⟩ : ∃ N, N = W8.heap.size := ⟨_, rfl⟩
  obtain ⟨N_HS0, hM⟩ : ∃ N, N = W8.heap.size + 1 := ⟨_, rfl⟩
  rw [← hM] at HU_ ⊢
  rw [← hN] at HV_ ⊢
  have HNM_ : Hid (N_HX0 = W8.heap.size ∧ N_HS0 = W8.heap.size + 1) := ⟨hN, hM⟩
  clear hX hY hz hb1 hb2 hv hu hN hM
  refine wpList_vput rfl 40 (.tmp 9) (.tmp 33) rfl N_HX0 0 rfl [.slice A n c, .int .i64 (M : Int), .int .i64 (u1 : Int)] rfl infoKey (keyL_one _ _ _ _ _) _ _ (unhide HV_) (by simp) ?_
  intro W11 HV3_ HG3_
  have hv3 := unhide HV3_
  rw [spliceV_all _ _ (by simp)] at hv3
  have hu3 := (unhide HU_).grown (unhide HG3_) (fun e => by injection e with e; have := unhide HNM_; omega)
  have hb3 : Below W8.heap.size W8 W11 := (unhide HBB_).grown (unhide HG3_) (unhide HBB_).size (fun i e => by injection e with e; have := unhide HNM_; omega)
  have HV4_ := hide hv3; have HU4_ := hide hu3; have HBB4_ := hide hb3
  clear hv3 hu3 hb3 HV3_ HG3_ HV_ HU_ HBB_
  try simp only [List.getElem_toArray, List.getElem_cons_zero, List.getElem_cons_succ, Act.put, List.setIfInBounds_toArray, List.set_cons_zero, List.set_cons_succ]
  refine wpList_vput rfl 52 (.tmp 10) (.tmp 34) rfl N_HS0 0 rfl [.int .i64 (U : Int), .slice A1 64 c1, .slice A2 64 c2, .slice A3 p c3] rfl infoSig (sigL_one _ _ _ _ _ _ _ _ _ _) _ _ (unhide HU4_) (by simp) ?_
  intro W12 HV5_ HG5_
  have hu5 := unhide HV5_
  rw [spliceV_all _ _ (by simp)] at hu5
  have HX0_ := hide ((unhide HV4_).grown (unhide HG5_) (fun e => by injection e with e; have := unhide HNM_; omega)); have HS0_ := hide hu5
  have hb : Below W8.heap.size W8 W12 := (unhide HBB4_).grown (unhide HG5_) (unhide HBB4_).size (fun i e => by injection e with e; have := unhide HNM_; omega)
  clear hu5 HV5_ HG5_ HV4_ HU4_ HBB4_ HNM_
  replace HT := hide ((unhide HT).keep hb)
  replace HA := hide ((unhide HA).keep hb)
  replace HMA := hide ((unhide HMA).keep hb)
  replace HMB := hide ((unhide HMB).keep hb)
  replace HK := hide ((unhide HK).keep hb)
  replace HD := hide ((unhide HD).keep hb)
  replace HO := hide ((unhide HO).keep hb)
  replace HC := hide ((unhide HC).keep hb)
  replace HP := hide ((unhide HP).keep hb)
  replace HB := hide (thenB (unhide HB) hb)
  clear hb
  have HX0 := HX0_; have HS0 := HS0_
  clear HX0_ HS0_
  try simp only [List.getElem_toArray, List.getElem_cons_zero, List.getElem_cons_succ, Act.put, List.setIfInBounds_toArray, List.set_cons_zero, List.set_cons_succ]
  go_wp2_with fail
  obtain ⟨W, hW⟩ : ∃ W, W = W12.drewN 1 := ⟨_, rfl⟩
  have HW : Hid (W = W12.drewN 1) := hW
  have hb := below_named HW
  clear hW
  replace HT := hide ((unhide HT).keep hb)
  replace HA := hide ((unhide HA).keep hb)
  replace HMA := hide ((unhide HMA).keep hb)
  replace HMB := hide ((unhide HMB).keep hb)
  replace HK := hide ((unhide HK).keep hb)
  replace HD := hide ((unhide HD).keep hb)
  replace HO := hide ((unhide HO).keep hb)
  replace HC := hide ((unhide HC).keep hb)
  replace HP := hide ((unhide HP).keep hb)
  replace HX0 := hide ((unhide HX0).keep hb)
  replace HS0 := hide ((unhide HS0).keep hb)
  replace HB := hide (thenB (unhide HB) hb)
  clear hb
  have hS0 : Below W.heap.size W W := Below.refl _ _
  refine held (S := Below W.heap.size W) W HW (by kernel_rfl) ?_
  refine wpAnyH_take (i := 0) (v := .agg ct) rfl (by kernel_rfl) (by kernel_rfl) (by kernel_rfl) (fun _ _ _ h => h) (by rw [unhide HCT]; exact yieldsIf_load_mid (by kernel_rfl) 24 (.tmp 7) rfl N_HD 0 rfl (T.map (Value.int .u8)) _ (fun W hS => ((unhide HD).keep hS).range) Tryd.underlying24 rfl (by rw [List.length_map, (unhide HGT).len]; exact info32)) (by assumption) ?_
  try simp only [List.getElem_toArray, List.getElem_cons_zero, List.getElem_cons_succ, Act.put, List.setIfInBounds_toArray, List.set_cons_zero, List.set_cons_succ]
  refine wpAnyH_take (i := 1) (v := ?_) rfl (by kernel_rfl) (by kernel_rfl) (by kernel_rfl) (fun _ _ _ h => h) (Or.inl ⟨by kernel_rfl, ?_⟩) (by assumption) ?_
  rotate_left
  · intro Wt hSt
    go_simp
    try with_reducible rfl
  try simp only [List.getElem_toArray, List.getElem_cons_zero, List.getElem_cons_succ, Act.put, List.setIfInBounds_toArray, List.set_cons_zero, List.set_cons_succ]
  refine wpAnyH_take (i := 2) (v := ?_) rfl (by kernel_rfl) (by kernel_rfl) (by kernel_rfl) (fun _ _ _ h => h) (Or.inl ⟨by kernel_rfl, ?_⟩) (by assumption) ?_
  rotate_left
  · intro Wt hSt
    have hct := (show Wt.cell? ⟨N_HS0, 0, none⟩ = some (.int .i64 (U : Int)) from ((unhide HS0).keep hSt).cell rfl)
    go_simp
    try with_reducible rfl
  try simp only [List.getElem_toArray, List.getElem_cons_zero, List.getElem_cons_succ, Act.put, List.setIfInBounds_toArray, List.set_cons_zero, List.set_cons_succ]
  refine wpAnyH_take (i := 3) (v := ?_) rfl (by kernel_rfl) (by kernel_rfl) (by kernel_rfl) (fun _ _ _ h => h) (Or.inl ⟨by kernel_rfl, ?_⟩) (by assumption) ?_
  rotate_left
  · intro Wt hSt
    go_simp
    try with_reducible rfl
  try simp only [List.getElem_toArray, List.getElem_cons_zero, List.getElem_cons_succ, Act.put, List.setIfInBounds_toArray, List.set_cons_zero, List.set_cons_succ]
  refine wpAnyH_take (i := 5) (v := .agg ct) rfl (by kernel_rfl) (by kernel_rfl) (by kernel_rfl) (fun _ _ _ h => h) (by rw [unhide HCT]; exact yieldsIf_load_mid (by kernel_rfl) 24 (.tmp 7) rfl N_HD 0 rfl (T.map (Value.int .u8)) _ (fun W hS => ((unhide HD).keep hS).range) Tryd.underlying24 rfl (by rw [List.length_map, (unhide HGT).len]; exact info32)) (by assumption) ?_
  try simp only [List.getElem_toArray, List.getElem_cons_zero, List.getElem_cons_succ, Act.put, List.setIfInBounds_toArray, List.set_cons_zero, List.set_cons_succ]
  refine wpAnyH_take (i := 6) (v := ?_) rfl (by kernel_rfl) (by kernel_rfl) (by kernel_rfl) (fun _ _ _ h => h) (Or.inl ⟨by kernel_rfl, ?_⟩) (by assumption) ?_
  rotate_left
  · intro Wt hSt
    go_simp
    try with_reducible rfl
  try simp only [List.getElem_toArray, List.getElem_cons_zero, List.getElem_cons_succ, Act.put, List.setIfInBounds_toArray, List.set_cons_zero, List.set_cons_succ]
  refine wpAnyH_take (i := 7) (v := ?_) rfl (by kernel_rfl) (by kernel_rfl) (by kernel_rfl) (fun _ _ _ h => h) (Or.inl ⟨by kernel_rfl, ?_⟩) (by assumption) ?_
  rotate_left
  · intro Wt hSt
    have hct := (show Wt.cell? ⟨N_HS0, 0, none⟩ = some (.int .i64 (U : Int)) from ((unhide HS0).keep hSt).cell rfl)
    go_simp
    try with_reducible rfl
  try simp only [List.getElem_toArray, List.getElem_cons_zero, List.getElem_cons_succ, Act.put, List.setIfInBounds_toArray, List.set_cons_zero, List.set_cons_succ]
  refine wpAnyH_take (i := 8) (v := ?_) rfl (by kernel_rfl) (by kernel_rfl) (by kernel_rfl) (fun _ _ _ h => h) (Or.inl ⟨by kernel_rfl, ?_⟩) (by assumption) ?_
  rotate_left
  · intro Wt hSt
    go_simp
    try with_reducible rfl
  try simp only [List.getElem_toArray, List.getElem_cons_zero, List.getElem_cons_succ, Act.put, List.setIfInBounds_toArray, List.set_cons_zero, List.set_cons_succ]
  refine wpAnyH_chainOf [4, 9, 10, 11] _ _ _ (by kernel_rfl) (by kernel_rfl) ?_
  simp only [List.filterMap_cons, List.filterMap_nil, List.getElem?_toArray, List.getElem?_cons_zero, List.getElem?_cons_succ]
  refine wpChain_step rfl fun K hK => ?_
  go_simp
  have hbi := Bits_ok W T (unhide HGT) U (by have := unhide HNN; omega) Aa na ca ma (unhide HNA).1 (unhide HNA).2.1 ((unhide HMA).keep hS0) (unhide HNA).2.2 (by have := unhide HNN; omega) ((unhide HT).keep hS0)
  rw [show dv T = .agg ct by rw [unhide HCT]] at hbi
  refine hbi.mono ?_; rintro x Y1 ⟨B1, e1, rfl, hce1, hbl1, hB1⟩
  rw [← unhide HBS] at hce1 hbl1 ⊢
  rw [(unhide HBSL).1] at hce1 ⊢
  have hS1 := thenB hS0 hB1
  dsimp only
  refine hK _ _ hS1 ?_
  clear hK K hbi
  refine wpChain_step rfl fun K hK => ?_
  go_simp
  have hbi := Bits_ok Y1 T (unhide HGT) U (by have := unhide HNN; omega) Ab nb cb mb (unhide HNB).1 (unhide HNB).2.1 ((unhide HMB).keep hS1) (unhide HNB).2.2 (by have := unhide HNN; omega) ((unhide HT).keep hS1)
  rw [show dv T = .agg ct by rw [unhide HCT]] at hbi
  refine hbi.mono ?_; rintro x Y2 ⟨B2, e2, rfl, hce2, hbl2, hB2⟩
  rw [← unhide HBT] at hce2 hbl2 ⊢
  rw [(unhide HBSL).2] at hce2 ⊢
  have hS2 := thenB hS1 hB2
  dsimp only
  refine hK _ _ hS2 ?_
  clear hK K hbi
  refine wpChain_step rfl fun K hK => ?_
  go_simp
  refine (same4_any Y2 64 (by decide) B1 e1 bs (unhide HBSL).1 hce1 (hbl1.keep hB2) B2 e2 bt (unhide HBSL).2 hce2 hbl2 (by decide)).mono ?_; rintro x Y3 ⟨rfl, hB3⟩
  have hS3 := thenB hS2 hB3
  dsimp only
  refine hK _ _ hS3 ?_
  clear hK K
  obtain ⟨z, hz⟩ : ∃ z, z = decide (bs = bt) := ⟨_, rfl⟩
  rw [← hz]
  have HZ := hide hz
  clear hz hce1 hbl1 hce2 hbl2
  refine wpChain_step rfl fun K hK => ?_
  go_simp
  refine hK _ _ hS3 (wpChain_nil ?_)
  clear hK K hS2 hS1 hS0 hB1 hB2 hB3
  replace HT := hide ((unhide HT).keep hS3)
  replace HA := hide ((unhide HA).keep hS3)
  replace HMA := hide ((unhide HMA).keep hS3)
  replace HMB := hide ((unhide HMB).keep hS3)
  replace HK := hide ((unhide HK).keep hS3)
  replace HD := hide ((unhide HD).keep hS3)
  replace HO := hide ((unhide HO).keep hS3)
  replace HC := hide ((unhide HC).keep hS3)
  replace HP := hide ((unhide HP).keep hS3)
  replace HX0 := hide ((unhide HX0).keep hS3)
  replace HS0 := hide ((unhide HS0).keep hS3)
  replace HB := hide (thenB (unhide HB) hS3)
  clear hS3
  cases z with
  | false =>
    go_wp2_with fail
    go_ret
    exact ⟨rfl, unhide HB⟩
  | true =>
    have hbb : bs = bt := of_decide_eq_true (unhide HZ).symm
    have HBB := hide hbb
    clear hbb
    have f3 : Y3.cell? ⟨N_HK, 1, none⟩ = some (.int .i64 (M : Int)) := (unhide HK).cell rfl
    go_upto_region 11 with fail
    refine wp_region_lit ?_
    refine wpList_gload (by kernel_rfl) 24 (.tmp 7) rfl N_HD rfl _ Tryd.underlying24 rfl 32 info32 _ T (unhide HD) (unhide HGT).len ?_
    rw [show dv T = .agg ct by rw [unhide HCT]]
    try simp only [List.getElem_toArray, List.getElem_cons_zero, List.getElem_cons_succ, Act.put, List.setIfInBounds_toArray, List.set_cons_zero, List.set_cons_succ]
    refine wpList_wanted (by kernel_rfl) fun Kt hKt => ?_
    go_simp
    refine hKt _ _ ?_
    clear hKt Kt
    refine wpList_wanted (by kernel_rfl) fun Kt hKt => ?_
    go_simp
    refine hKt _ _ ?_
    clear hKt Kt
    refine wpList_wanted (by kernel_rfl) fun Kt hKt => ?_
    go_simp
    refine hKt _ _ ?_
    clear hKt Kt
    refine wpList_vgload (by kernel_rfl) 52 (.tmp 10) rfl N_HS0 rfl _ Tryd.underlying52 rfl _ [.int .i64 (U : Int), .slice A1 64 c1, .slice A2 64 c2, .slice A3 p c3] infoSig (unhide HS0) ?_
    try simp only [List.getElem_toArray, List.getElem_cons_zero, List.getElem_cons_succ, Act.put, List.setIfInBounds_toArray, List.set_cons_zero, List.set_cons_succ]
    have hve := Verify_any Y3 T (unhide HGT) M U (by have := unhide HNN; omega) (by have := unhide HNN; omega) (by have := unhide HNN; have := unhide HUM; omega) Ab nb cb mb (unhide HNB).1 (unhide HNB).2.1 (unhide HMB) (unhide HNB).2.2 (by have := unhide HNN; omega) A1 c1 _ (unhide HO) A2 c2 _ (unhide HC) A3 p c3 _ (unhide HPN) (unhide HPL) (unhide HP) (unhide HT)
    rw [← unhide HBT, ← unhide HBB, unhide HBS, unhide HTT, verS_own seed M U ma (by have := unhide HNN; have := unhide HUM; omega), ← unhide HTT, show dv T = .agg ct by rw [unhide HCT]] at hve
    go_wp2_with fail
    refine hve.mono ?_; rintro x Y4 ⟨rfl, hb⟩
    clear hve f3
    replace HT := hide ((unhide HT).keep hb)
    replace HA := hide ((unhide HA).keep hb)
    replace HMA := hide ((unhide HMA).keep hb)
    replace HMB := hide ((unhide HMB).keep hb)
    replace HK := hide ((unhide HK).keep hb)
    replace HD := hide ((unhide HD).keep hb)
    replace HO := hide ((unhide HO).keep hb)
    replace HC := hide ((unhide HC).keep hb)
    replace HP := hide ((unhide HP).keep hb)
    replace HX0 := hide ((unhide HX0).keep hb)
    replace HS0 := hide ((unhide HS0).keep hb)
    replace HB := hide (thenB (unhide HB) hb)
    clear hb
    go_wp2_with fail
    go_ret
    exact ⟨rfl, unhide HB⟩
end Go.Proofs.YtninjgplgoimeaaDoor
