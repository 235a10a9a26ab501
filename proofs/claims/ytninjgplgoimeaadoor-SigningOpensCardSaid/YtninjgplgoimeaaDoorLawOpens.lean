/- The law SigningOpens: what two signatures of one one-time key open. -/
import Derived.Test.YtninjgplgoimeaaDoorSigSane
import Derived.Test.YtninjgplgoimeaaDoorClose
import Derived.Test.YtninjgplgoimeaaDoorSigDs
import Derived.Test.YtninjgplgoimeaaDoorDigTwo
namespace Go.Proofs.YtninjgplgoimeaaDoor
set_option linter.unusedSimpArgs false
set_option linter.unusedVariables false
open Go.RowKit Go.LawClose

theorem verS_own (seed : List Int) (n i : Nat) (msg : List Int) (hi : i < n) : verS (treeP (pubsS seed n)) n i (bitsS (treeP (pubsS seed n)) i msg) (openedS seed i (bitsS (treeP (pubsS seed n)) i msg) 64) (closedS seed i (bitsS (treeP (pubsS seed n)) i msg) 64) (pathP (pubsS seed n) i) = true := ver_own seed n i _ hi
/-- a load of values under a guard -/
theorem wpList_vgload {P : Program} {ops : Array Oper} {rest : List Oper} {o : Oper} {a : Act} {w : World} {Q : Exit → Act → World → Prop} (hw : Region.wanted o (yielded ops a.tmps) = true) (ty : TypeId) (x : Operand) (ho : o.op = .load ty x)
    (N : Nat) (hx : a.eval x = .pointer (some ⟨N, 0, none⟩)) (d : TypeDesc) (hu : P.underlying ty = some d) (hd : d.isRow = true) (T : TypeId) (cs : List Value) (hi : (P.info? ty).map (·.size) = some cs.length) (h0 : VsAt w N T cs)
    (h : wpList P ops Q rest (a.put o.dst (.agg cs.toArray)) w) : wpList P ops Q (o :: rest) a w :=
  wpList_wanted hw fun _ hK => wp_load_mid ty x ho N 0 hx cs d h0.range hu hd hi (hK _ _ h)
theorem Sign_none (w : World) (A : Option Addr) (n c : Nat) (many used : Int) (hk : keyOk n many used = false) (v : Value) :
    Calls Tryd.prog 37 #[.agg #[.slice A n c, .int .i64 many, .int .i64 used], v] w fun x w' => x = .returned (.tuple #[.agg #[.slice none 0 0, .int .i64 0, .int .i64 0], .agg #[.int .i64 0, .slice none 0 0, .slice none 0 0, .slice none 0 0], .int .i64 40]) ∧ Below w.heap.size w w' :=
  Sign_bad w A n c many used hk v
theorem Public_none (w : World) (A : Option Addr) (n c : Nat) (many used : Int) (hk : keyOk n many used = false) :
    Calls Tryd.prog 35 #[.agg #[.slice A n c, .int .i64 many, .int .i64 used]] w fun x w' => x = .returned (.tuple #[dv zeros, .int .i64 40]) ∧ Below w.heap.size w w' := Public_bad w A n c many used hk
theorem Public_some (w : World) (A : Option Addr) (n c : Nat) (seed : List Int) (hn : n = seed.length) (hc : n ≤ c) (hA : Bt w A seed) (many : Nat) (u : Int) (hk : keyOk n (many : Int) u = true) (T : List Int) (hT : T = treeP (pubsS seed many)) (hTb : DTab w) :
    Calls Tryd.prog 35 #[.agg #[.slice A n c, .int .i64 (many : Int), .int .i64 u]] w fun x w' => x = .returned (.tuple #[dv T, .int .i64 0]) ∧ Below w.heap.size w w' := by
  subst hT
  exact Public_ok w A n c seed hn hc hA many u hk hTb
/-- a signature is returned, its parts under names of their own -/
theorem Sign_some (w : World) (A : Option Addr) (n c : Nat) (seed : List Int) (hn : n = seed.length) (hc : n ≤ c) (hA : Bt w A seed) (many used u1 : Nat) (hu1 : u1 = used + 1) (hk : keyOk n (many : Int) (used : Int) = true) (hu : used < many)
    (Am : Option Addr) (nm cm : Nat) (msg : List Int) (hnm : nm = msg.length) (hcm : nm ≤ cm) (hAm : Bt w Am msg) (hAm0 : Am = none → cm = 0) (h65 : nm ≤ 65536) (T : List Int) (hT : T = treeP (pubsS seed many)) (bs : List Bool) (hbs : bs = bitsS T used msg) (p : Nat) (hp : p = (pathP (pubsS seed many) used).length) (hTb : DTab w) :
    Calls Tryd.prog 37 #[.agg #[.slice A n c, .int .i64 (many : Int), .int .i64 (used : Int)], .slice Am nm cm] w fun x w' => ∃ A1 c1 A2 c2 A3 c3, x = .returned (.tuple #[.agg #[.slice A n c, .int .i64 (many : Int), .int .i64 (u1 : Int)], .agg #[.int .i64 (used : Int), .slice A1 64 c1, .slice A2 64 c2, .slice A3 p c3], .int .i64 0]) ∧
      Sg64 w' A1 c1 (openedS seed used bs 64) ∧ Sg64 w' A2 c2 (closedS seed used bs 64) ∧ p ≤ c3 ∧ Ds w' A3 (pathP (pubsS seed many) used) ∧ (A3 = none → c3 = 0) ∧ Below w.heap.size w w' := by
  subst hu1 hT hbs hp
  exact Sign_ok w A n c seed hn hc hA many used hk hu Am nm cm msg hnm hcm hAm hAm0 h65 hTb
theorem key_nat (n : Nat) (m u : Int) (h : keyOk n m u = true) (h2 : m ≤ 2) : ∃ M U : Nat, m = (M : Int) ∧ u = (U : Int) ∧ 1 ≤ n ∧ n ≤ 64 ∧ 1 ≤ M ∧ M ≤ 2 ∧ U ≤ M := by
  unfold keyOk at h
  rw [decide_eq_true_eq] at h
  exact ⟨m.toNat, u.toNat, by omega, by omega, by omega, by omega, by omega, by omega, by omega⟩

theorem bitAt_of {bits : List Bool} {j : Nat} {x : Bool} (h : bits[j]? = some x) : bitAt bits j = bN x := by
  unfold bitAt
  rw [List.getD_eq_getElem?_getD, h]
  rfl
theorem bN_other {x y : Bool} (h : x ≠ y) : 1 - bN x = bN y := by
  cases x <;> cases y <;> first | rfl | exact absurd rfl h
theorem pathP_le (seed : List Int) (M U : Nat) (h : U < M) (h2 : M ≤ 2) : (pathP (pubsS seed M) U).length ≤ 1000 := by
  obtain ⟨h1, _, _⟩ := pathP_spec M (pubsS seed M) U (pubsS_length seed M) h
  rw [h1]
  have := lenP_le 1 M U (by omega) (by omega) h
  omega

set_option maxRecDepth 100000 in
set_option maxHeartbeats 8000000 in
theorem opens_any (A : Option Addr) (c : Nat) (seed : List Int) (m u : Int) (Aa : Option Addr) (ca : Nat) (ma : List Int) (Ab : Option Addr) (cb : Nat) (mb : List Int) (w : World) (hA : Bt w A seed) (hc : seed.length ≤ c) (hAa : Bt w Aa ma) (hca : ma.length ≤ ca) (hna : Aa = none → ca = 0) (hAb : Bt w Ab mb) (hcb : mb.length ≤ cb) (hnb : Ab = none → cb = 0) (hm : -9223372036854775808 ≤ m ∧ m ≤ 9223372036854775807) (hu : -9223372036854775808 ≤ u ∧ u ≤ 9223372036854775807) (hT : DTab w) :
    Calls Tryd.prog 10 #[keyV A seed.length c m u, .slice Aa ma.length ca, .slice Ab mb.length cb] w (LawOk w) := by
  obtain ⟨n, hn⟩ : ∃ n, n = seed.length := ⟨_, rfl⟩
  obtain ⟨na, hla⟩ : ∃ n, n = ma.length := ⟨_, rfl⟩
  rw [← hn] at hc ⊢
  rw [← hla] at hca ⊢
  obtain ⟨nb, hlb⟩ : ∃ n, n = mb.length := ⟨_, rfl⟩
  rw [← hlb] at hcb ⊢
  have HNB : Hid (nb = mb.length ∧ nb ≤ cb ∧ (Ab = none → cb = 0)) := ⟨hlb, hcb, hnb⟩
  have HMB := hide hAb
  have HB : Hid (Below w.heap.size w w) := Below.refl _ _
  have HT := hide hT; have HA := hide hA; have HMA := hide hAa
  have HN : Hid (n = seed.length ∧ n ≤ c) := ⟨hn, hc⟩
  have HNA : Hid (na = ma.length ∧ na ≤ ca ∧ (Aa = none → ca = 0)) := ⟨hla, hca, hna⟩
  unfold keyV
  clear hT hA hAa hn hc hla hca hna hm hu hAb hlb hcb hnb
  go_enter Tryd.func10, Tryd.ntmps10
  go_wp2_with fail
  generalize hX : w.alloc _ = W1
  have hb : Below w.heap.size w W1 := hX ▸ (Below.refl _ _).alloc (Nat.le_refl _) _
  have hv : VsAt W1 w.heap.size 40 [.slice A n c, .int .i64 m, .int .i64 u] := boxedV w W1 _ _ (by rw [← hX]; rfl)
  obtain ⟨N_HK, hN⟩ : ∃ N, N = w.heap.size := ⟨_, rfl⟩
  have hz : W1.heap.size = w.heap.size + 1 := by rw [← hX]; show (w.heap.push _).size = _; rw [Array.size_push]
  rw [← hN] at hv ⊢
  rw [← hN] at hz
  have HK_ := hide hv
  have hzz := hz
  clear hX hN hv
  replace HT := hide ((unhide HT).keep hb)
  replace HA := hide ((unhide HA).keep hb)
  replace HMA := hide ((unhide HMA).keep hb)
  replace HMB := hide ((unhide HMB).keep hb)
  replace HB := hide (thenB (unhide HB) hb)
  clear hb
  have HK := HK_
  clear HK_
  clear hz hzz
  refine (sane4_any W1 (unhide HT)).mono ?_; rintro x W2 ⟨rfl, hb⟩
  replace HT := hide ((unhide HT).keep hb)
  replace HA := hide ((unhide HA).keep hb)
  replace HMA := hide ((unhide HMA).keep hb)
  replace HMB := hide ((unhide HMB).keep hb)
  replace HK := hide ((unhide HK).keep hb)
  replace HB := hide (thenB (unhide HB) hb)
  clear hb
  go_upto_region 3 with fail
  refine wp_region_lit ?_
  refine wpList_load_mid rfl 40 (.tmp 3) rfl N_HK 0 rfl [.slice A n c, .int .i64 m, .int .i64 u] _ (unhide HK).range Tryd.underlying40 rfl infoKey ?_
  try simp only [List.getElem_toArray, List.getElem_cons_zero, List.getElem_cons_succ, Act.put, List.setIfInBounds_toArray, List.set_cons_zero, List.set_cons_succ]
  go_wp2_with fail
  refine (few4_any W2 A n c m u Aa na ca).mono ?_; rintro x W3 ⟨rfl, hb⟩
  replace HT := hide ((unhide HT).keep hb)
  replace HA := hide ((unhide HA).keep hb)
  replace HMA := hide ((unhide HMA).keep hb)
  replace HMB := hide ((unhide HMB).keep hb)
  replace HK := hide ((unhide HK).keep hb)
  replace HB := hide (thenB (unhide HB) hb)
  clear hb
  by_cases hf : fewS n m na = true
  case neg =>
    rw [show fewS n m na = false by simpa using hf]
    clear hf
    go_wp2_with fail
    go_ret
    exact ⟨rfl, unhide HB⟩
  rw [hf]
  unfold fewS at hf
  rw [decide_eq_true_eq] at hf
  have HF1 := hide hf
  clear hf
  dsimp only
  rename_i KK hK
  refine hK _ _ ?_
  clear hK KK
  refine wpList_plain rfl fun Kt hKt => ?_
  go_simp
  refine hKt _ _ ?_
  clear hKt Kt
  refine wpList_plain rfl fun Kt hKt => ?_
  go_simp
  refine hKt _ _ ?_
  clear hKt Kt
  refine wpList_vgload (by kernel_rfl) 40 (.tmp 3) rfl N_HK rfl _ Tryd.underlying40 rfl _ [.slice A n c, .int .i64 m, .int .i64 u] infoKey (unhide HK) ?_
  try simp only [List.getElem_toArray, List.getElem_cons_zero, List.getElem_cons_succ, Act.put, List.setIfInBounds_toArray, List.set_cons_zero, List.set_cons_succ]
  refine wpList_wanted (by kernel_rfl) fun Kt hKt => ?_
  go_simp
  refine hKt _ _ ?_
  clear hKt Kt
  refine wpList_wanted (by kernel_rfl) fun Kt hKt => ?_
  go_simp
  refine (few4_any W3 A n c m u Ab nb cb).mono ?_; rintro x W4 ⟨rfl, hb⟩
  replace HT := hide ((unhide HT).keep hb)
  replace HA := hide ((unhide HA).keep hb)
  replace HMA := hide ((unhide HMA).keep hb)
  replace HMB := hide ((unhide HMB).keep hb)
  replace HK := hide ((unhide HK).keep hb)
  replace HB := hide (thenB (unhide HB) hb)
  clear hb
  dsimp only
  refine hKt _ _ ?_
  clear hKt Kt
  by_cases hf : fewS n m nb = true
  case neg =>
    rw [show fewS n m nb = false by simpa using hf]
    clear hf
    go_wp2_with fail
    go_ret
    exact ⟨rfl, unhide HB⟩
  rw [hf]
  unfold fewS at hf
  rw [decide_eq_true_eq] at hf
  by_cases hk : keyOk n m u = true
  case neg =>
    have hk' : keyOk n m u = false := by simpa using hk
    have HKF := hide hk'
    obtain ⟨Z0, hZ0⟩ : ∃ t, t = zeros := ⟨_, rfl⟩
    obtain ⟨cz, hcz⟩ : ∃ cs, cs = (Z0.map (Value.int .u8)).toArray := ⟨_, rfl⟩
    have hsz : cz.size = 32 := by rw [hcz, hZ0]; rfl
    have HZ0 := hide hZ0; have HCZ := hide hcz; have HGZ := hide (show Dg Z0 from hZ0 ▸ dg_zeros)
    clear hk hk' hf hZ0 hcz
    go_upto_region 5 with fail
    refine wp_region_lit ?_
    refine wpList_load_mid rfl 40 (.tmp 3) rfl N_HK 0 rfl [.slice A n c, .int .i64 m, .int .i64 u] _ (unhide HK).range Tryd.underlying40 rfl infoKey ?_
    try simp only [List.getElem_toArray, List.getElem_cons_zero, List.getElem_cons_succ, Act.put, List.setIfInBounds_toArray, List.set_cons_zero, List.set_cons_succ]
    go_wp2_with fail
    have hpu := (by have h := Public_none W4 A n c m u (unhide HKF); rw [← unhide HZ0] at h; exact h : Calls Tryd.prog 35 #[.agg #[.slice A n c, .int .i64 m, .int .i64 u]] W4 fun x w' => x = .returned (.tuple #[dv Z0, .int .i64 40]) ∧ Below (W4).heap.size W4 w')
    rw [show dv Z0 = .agg cz by rw [unhide HCZ]] at hpu
    refine hpu.mono ?_; rintro x W5 ⟨rfl, hb⟩
    clear hpu
    replace HT := hide ((unhide HT).keep hb)
    replace HA := hide ((unhide HA).keep hb)
    replace HMA := hide ((unhide HMA).keep hb)
    replace HMB := hide ((unhide HMB).keep hb)
    replace HK := hide ((unhide HK).keep hb)
    replace HB := hide (thenB (unhide HB) hb)
    clear hb
    dsimp only
    rename_i KK hK
    refine hK _ _ ?_
    clear hK KK
    refine wpList_plain rfl fun Kt hKt => ?_
    go_simp
    refine hKt _ _ ?_
    clear hKt Kt
    refine wpList_plain rfl fun Kt hKt => ?_
    go_simp
    refine hKt _ _ ?_
    clear hKt Kt
    refine wpList_plain rfl fun Kt hKt => ?_
    go_simp
    refine hKt _ _ ?_
    clear hKt Kt
    refine wpList_plain rfl fun Kt hKt => ?_
    go_simp
    refine hKt _ _ ?_
    clear hKt Kt
    generalize hX : W5.alloc _ = W6
    have hb : Below W5.heap.size W5 W6 := hX ▸ (Below.refl _ _).alloc (Nat.le_refl _) _
    have HZ_ := hide (newBy W5 W6 (by rw [← hX]; rfl))
    have HBB_ := hide hb
    clear hX hb
    refine wpList_bstore rfl 24 (.tmp 7) (.tmp 33) rfl W5.heap.size rfl Z0 (show Value.agg cz = _ by rw [unhide HCZ]) 32 info32 (unhide HGZ).len _ zeros (unhide HZ_) rfl ?_
    intro W7 HV_ HG_
    have hv := unhide HV_
    have hb : Below W5.heap.size W5 W7 := (unhide HBB_).grown (unhide HG_) (unhide HBB_).size (fun i e => by injection e with e; omega)
    obtain ⟨N_HD, hN⟩ : ∃ N, N = W5.heap.size := ⟨_, rfl⟩
    rw [← hN] at hv ⊢
    have HD_ := hide hv
    clear hN hv HV_ HG_ HZ_ HBB_
    replace HT := hide ((unhide HT).keep hb)
    replace HA := hide ((unhide HA).keep hb)
    replace HMA := hide ((unhide HMA).keep hb)
    replace HMB := hide ((unhide HMB).keep hb)
    replace HK := hide ((unhide HK).keep hb)
    replace HB := hide (thenB (unhide HB) hb)
    clear hb
    have HD := HD_
    clear HD_
    try simp only [List.getElem_toArray, List.getElem_cons_zero, List.getElem_cons_succ, Act.put, List.setIfInBounds_toArray, List.set_cons_zero, List.set_cons_succ]
    go_upto_region 6 with fail
    refine wp_region_lit ?_
    refine wpList_load_mid rfl 40 (.tmp 3) rfl N_HK 0 rfl [.slice A n c, .int .i64 m, .int .i64 u] _ (unhide HK).range Tryd.underlying40 rfl infoKey ?_
    try simp only [List.getElem_toArray, List.getElem_cons_zero, List.getElem_cons_succ, Act.put, List.setIfInBounds_toArray, List.set_cons_zero, List.set_cons_succ]
    go_wp2_with fail
    refine (Sign_none W7 A n c m u (unhide HKF) _).mono ?_; rintro x W8 ⟨rfl, hb⟩
    replace HT := hide ((unhide HT).keep hb)
    replace HA := hide ((unhide HA).keep hb)
    replace HMA := hide ((unhide HMA).keep hb)
    replace HMB := hide ((unhide HMB).keep hb)
    replace HK := hide ((unhide HK).keep hb)
    replace HD := hide ((unhide HD).keep hb)
    replace HB := hide (thenB (unhide HB) hb)
    clear hb
    dsimp only
    rename_i KK hK
    refine hK _ _ ?_
    clear hK KK
    refine wpList_plain rfl fun Kt hKt => ?_
    go_simp
    refine hKt _ _ ?_
    clear hKt Kt
    refine wpList_plain rfl fun Kt hKt => ?_
    go_simp
    refine hKt _ _ ?_
    clear hKt Kt
    refine wpList_plain rfl fun Kt hKt => ?_
    go_simp
    refine hKt _ _ ?_
    clear hKt Kt
    refine wpList_plain rfl fun Kt hKt => ?_
    go_simp
    refine hKt _ _ ?_
    clear hKt Kt
    refine wpList_plain rfl fun Kt hKt => ?_
    go_simp
    refine hKt _ _ ?_
    clear hKt Kt
    refine wpList_plain rfl fun Kt hKt => ?_
    go_simp
    refine hKt _ _ ?_
    clear hKt Kt
    generalize hX : W8.alloc _ = W9
    generalize hY : W9.alloc _ = W10
    have hb1 : Below W8.heap.size W8 W9 := hX ▸ (Below.refl _ _).alloc (Nat.le_refl _) _
    have hb2 : Below W9.heap.size W9 W10 := hY ▸ (Below.refl _ _).alloc (Nat.le_refl _) _
    have hz : W9.heap.size = W8.heap.size + 1 := by rw [← hX]; show (W8.heap.push _).size = _; rw [Array.size_push]
    have hv : VsAt W9 W8.heap.size 40 [.slice none 0 0, .int .i64 0, .int .i64 0] := boxedV W8 W9 _ _ (by rw [← hX]; rfl)
    have hu : VsAt W10 W9.heap.size 52 [.int .i64 0, .slice none 0 0, .slice none 0 0, .slice none 0 0] := boxedV W9 W10 _ _ (by rw [← hY]; rfl)
    rw [hz] at hu
    have HV_ := hide (hv.keep hb2); have HU_ := hide hu
    have HBB_ := hide (thenB hb1 hb2)
    obtain ⟨N_HX0, hN⟩ : ∃ N, N = W8.heap.size := ⟨_, rfl⟩
    obtain ⟨N_HS0, hM⟩ : ∃ N, N = W8.heap.size + 1 := ⟨_, rfl⟩
    rw [← hM] at HU_ ⊢
    rw [← hN] at HV_ ⊢
    have HNM_ : Hid (N_HX0 = W8.heap.size ∧ N_HS0 = W8.heap.size + 1) := ⟨hN, hM⟩
    clear hX hY hz hb1 hb2 hv hu hN hM
    refine wpList_vput rfl 40 (.tmp 9) (.tmp 39) rfl N_HX0 0 rfl [.slice none 0 0, .int .i64 0, .int .i64 0] rfl infoKey (keyL_one _ _ _ _ _) _ _ (unhide HV_) (by simp) ?_
    intro W11 HV3_ HG3_
    have hv3 := unhide HV3_
    rw [spliceV_all _ _ (by simp)] at hv3
    have hu3 := (unhide HU_).grown (unhide HG3_) (fun e => by injection e with e; have := unhide HNM_; omega)
    have hb3 : Below W8.heap.size W8 W11 := (unhide HBB_).grown (unhide HG3_) (unhide HBB_).size (fun i e => by injection e with e; have := unhide HNM_; omega)
    have HV4_ := hide hv3; have HU4_ := hide hu3; have HBB4_ := hide hb3
    clear hv3 hu3 hb3 HV3_ HG3_ HV_ HU_ HBB_
    try simp only [List.getElem_toArray, List.getElem_cons_zero, List.getElem_cons_succ, Act.put, List.setIfInBounds_toArray, List.set_cons_zero, List.set_cons_succ]
    refine wpList_vput rfl 52 (.tmp 10) (.tmp 40) rfl N_HS0 0 rfl [.int .i64 0, .slice none 0 0, .slice none 0 0, .slice none 0 0] rfl infoSig (sigL_one _ _ _ _ _ _ _ _ _ _) _ _ (unhide HU4_) (by simp) ?_
    intro W12 HV5_ HG5_
    have hu5 := unhide HV5_
    rw [spliceV_all _ _ (by simp)] at hu5
    have HX0_ := hide ((unhide HV4_).grown (unhide HG5_) (fun e => by injection e with e; have := unhide HNM_; omega)); have HS0_ := hide hu5
    have hb : Below W8.heap.size W8 W12 := (unhide HBB4_).grown (unhide HG5_) (unhide HBB4_).size (fun i e => by injection e with e; have := unhide HNM_; omega)
    have HNM := hide (unhide HNM_)
    clear hu5 HV5_ HG5_ HV4_ HU4_ HBB4_ HNM_
    replace HT := hide ((unhide HT).keep hb)
    replace HA := hide ((unhide HA).keep hb)
    replace HMA := hide ((unhide HMA).keep hb)
    replace HMB := hide ((unhide HMB).keep hb)
    replace HK := hide ((unhide HK).keep hb)
    replace HD := hide ((unhide HD).keep hb)
    replace HB := hide (thenB (unhide HB) hb)
    clear hb
    have HX0 := HX0_; have HS0 := HS0_
    clear HX0_ HS0_
    try simp only [List.getElem_toArray, List.getElem_cons_zero, List.getElem_cons_succ, Act.put, List.setIfInBounds_toArray, List.set_cons_zero, List.set_cons_succ]
    go_upto_region 7 with fail
    refine wp_region_lit ?_
    refine wpList_load_mid rfl 40 (.tmp 3) rfl N_HK 0 rfl [.slice A n c, .int .i64 m, .int .i64 u] _ (unhide HK).range Tryd.underlying40 rfl infoKey ?_
    try simp only [List.getElem_toArray, List.getElem_cons_zero, List.getElem_cons_succ, Act.put, List.setIfInBounds_toArray, List.set_cons_zero, List.set_cons_succ]
    go_wp2_with fail
    refine (Sign_none W12 A n c m u (unhide HKF) _).mono ?_; rintro x W13 ⟨rfl, hb⟩
    replace HT := hide ((unhide HT).keep hb)
    replace HA := hide ((unhide HA).keep hb)
    replace HMA := hide ((unhide HMA).keep hb)
    replace HMB := hide ((unhide HMB).keep hb)
    replace HK := hide ((unhide HK).keep hb)
    replace HD := hide ((unhide HD).keep hb)
    replace HX0 := hide ((unhide HX0).keep hb)
    replace HS0 := hide ((unhide HS0).keep hb)
    replace HB := hide (thenB (unhide HB) hb)
    clear hb
    dsimp only
    rename_i KK hK
    refine hK _ _ ?_
    clear hK KK
    refine wpList_plain rfl fun Kt hKt => ?_
    go_simp
    refine hKt _ _ ?_
    clear hKt Kt
    refine wpList_plain rfl fun Kt hKt => ?_
    go_simp
    refine hKt _ _ ?_
    clear hKt Kt
    refine wpList_plain rfl fun Kt hKt => ?_
    go_simp
    refine hKt _ _ ?_
    clear hKt Kt
    refine wpList_plain rfl fun Kt hKt => ?_
    go_simp
    refine hKt _ _ ?_
    clear hKt Kt
    refine wpList_plain rfl fun Kt hKt => ?_
    go_simp
    refine hKt _ _ ?_
    clear hKt Kt
    refine wpList_plain rfl fun Kt hKt => ?_
    go_simp
    refine hKt _ _ ?_
    clear hKt Kt
    generalize hX : W13.alloc _ = W14
    generalize hY : W14.alloc _ = W15
    have hb1 : Below W13.heap.size W13 W14 := hX ▸ (Below.refl _ _).alloc (Nat.le_refl _) _
    have hb2 : Below W14.heap.size W14 W15 := hY ▸ (Below.refl _ _).alloc (Nat.le_refl _) _
    have hz : W14.heap.size = W13.heap.size + 1 := by rw [← hX]; show (W13.heap.push _).size = _; rw [Array.size_push]
    have hv : VsAt W14 W13.heap.size 40 [.slice none 0 0, .int .i64 0, .int .i64 0] := boxedV W13 W14 _ _ (by rw [← hX]; rfl)
    have hu : VsAt W15 W14.heap.size 52 [.int .i64 0, .slice none 0 0, .slice none 0 0, .slice none 0 0] := boxedV W14 W15 _ _ (by rw [← hY]; rfl)
    rw [hz] at hu
    have HV_ := hide (hv.keep hb2); have HU_ := hide hu
    have HBB_ := hide (thenB hb1 hb2)
    obtain ⟨N_HX1, hN⟩ : ∃ N, N = W13.heap.size := ⟨_, rfl⟩
    obtain ⟨N_HS1, hM⟩ : ∃ N, N = W13.heap.size + 1 := ⟨_, rfl⟩
    rw [← hM] at HU_ ⊢
    rw [← hN] at HV_ ⊢
    have HNM_ : Hid (N_HX1 = W13.heap.size ∧ N_HS1 = W13.heap.size + 1) := ⟨hN, hM⟩
    clear hX hY hz hb1 hb2 hv hu hN hM
    refine wpList_vput rfl 40 (.tmp 12) (.tmp 46) rfl N_HX1 0 rfl [.slice none 0 0, .int .i64 0, .int .i64 0] rfl infoKey (keyL_one _ _ _ _ _) _ _ (unhide HV_) (by simp) ?_
    intro W16 HV3_ HG3_
    have hv3 := unhide HV3_
    rw [spliceV_all _ _ (by simp)] at hv3
    have hu3 := (unhide HU_).grown (unhide HG3_) (fun e => by injection e with e; have := unhide HNM_; omega)
    have hb3 : Below W13.heap.size W13 W16 := (unhide HBB_).grown (unhide HG3_) (unhide HBB_).size (fun i e => by injection e with e; have := unhide HNM_; omega)
    have HV4_ := hide hv3; have HU4_ := hide hu3; have HBB4_ := hide hb3
    clear hv3 hu3 hb3 HV3_ HG3_ HV_ HU_ HBB_
    try simp only [List.getElem_toArray, List.getElem_cons_zero, List.getElem_cons_succ, Act.put, List.setIfInBounds_toArray, List.set_cons_zero, List.set_cons_succ]
    refine wpList_vput rfl 52 (.tmp 13) (.tmp 47) rfl N_HS1 0 rfl [.int .i64 0, .slice none 0 0, .slice none 0 0, .slice none 0 0] rfl infoSig (sigL_one _ _ _ _ _ _ _ _ _ _) _ _ (unhide HU4_) (by simp) ?_
    intro W17 HV5_ HG5_
    have hu5 := unhide HV5_
    rw [spliceV_all _ _ (by simp)] at hu5
    have HX1_ := hide ((unhide HV4_).grown (unhide HG5_) (fun e => by injection e with e; have := unhide HNM_; omega)); have HS1_ := hide hu5
    have hb : Below W13.heap.size W13 W17 := (unhide HBB4_).grown (unhide HG5_) (unhide HBB4_).size (fun i e => by injection e with e; have := unhide HNM_; omega)
    have HNM := hide (unhide HNM_)
    clear hu5 HV5_ HG5_ HV4_ HU4_ HBB4_ HNM_
    replace HT := hide ((unhide HT).keep hb)
    replace HA := hide ((unhide HA).keep hb)
    replace HMA := hide ((unhide HMA).keep hb)
    replace HMB := hide ((unhide HMB).keep hb)
    replace HK := hide ((unhide HK).keep hb)
    replace HD := hide ((unhide HD).keep hb)
    replace HX0 := hide ((unhide HX0).keep hb)
    replace HS0 := hide ((unhide HS0).keep hb)
    replace HB := hide (thenB (unhide HB) hb)
    clear hb
    have HX1 := HX1_; have HS1 := HS1_
    clear HX1_ HS1_
    try simp only [List.getElem_toArray, List.getElem_cons_zero, List.getElem_cons_succ, Act.put, List.setIfInBounds_toArray, List.set_cons_zero, List.set_cons_succ]
    go_wp2_with fail
    go_ret
    exact ⟨rfl, unhide HB⟩
  obtain ⟨M, U, rfl, rfl, n1, n64, m1, m2, um⟩ := key_nat n m u hk hf.1
  have HKO := hide hk
  have HNN : Hid (1 ≤ n ∧ n ≤ 64 ∧ 1 ≤ M ∧ M ≤ 2 ∧ U ≤ M ∧ na ≤ 300 ∧ nb ≤ 300) := ⟨n1, n64, m1, m2, um, (unhide HF1).2.2, hf.2.2⟩
  obtain ⟨T, hT⟩ : ∃ t, t = treeP (pubsS seed M) := ⟨_, rfl⟩
  have hgT : Dg T := hT ▸ dg_tree _
  obtain ⟨ct, hct⟩ : ∃ cs, cs = (T.map (Value.int .u8)).toArray := ⟨_, rfl⟩
  have hst : ct.size = 32 := by rw [hct]; simpa using hgT.len
  have HTT := hide hT; have HGT := hide hgT; have HCT := hide hct
  clear hT hgT hct hk n1 n64 m1 m2 um hf HF1
  go_upto_region 5 with fail
  refine wp_region_lit ?_
  refine wpList_load_mid rfl 40 (.tmp 3) rfl N_HK 0 rfl [.slice A n c, .int .i64 (M : Int), .int .i64 (U : Int)] _ (unhide HK).range Tryd.underlying40 rfl infoKey ?_
  try simp only [List.getElem_toArray, List.getElem_cons_zero, List.getElem_cons_succ, Act.put, List.setIfInBounds_toArray, List.set_cons_zero, List.set_cons_succ]
  go_wp2_with fail
  have hpu := Public_some W4 A n c seed (unhide HN).1 (unhide HN).2 (unhide HA) M (U : Int) (unhide HKO) T (unhide HTT) (unhide HT)
  rw [show dv T = .agg ct by rw [unhide HCT]] at hpu
  refine hpu.mono ?_; rintro x W5 ⟨rfl, hb⟩
  clear hpu
  replace HT := hide ((unhide HT).keep hb)
  replace HA := hide ((unhide HA).keep hb)
  replace HMA := hide ((unhide HMA).keep hb)
  replace HMB := hide ((unhide HMB).keep hb)
  replace HK := hide ((unhide HK).keep hb)
  replace HB := hide (thenB (unhide HB) hb)
  clear hb
  dsimp only
  rename_i KK hK
  refine hK _ _ ?_
  clear hK KK
  refine wpList_plain rfl fun Kt hKt => ?_
  go_simp
  refine hKt _ _ ?_
  clear hKt Kt
  refine wpList_plain rfl fun Kt hKt => ?_
  go_simp
  refine hKt _ _ ?_
  clear hKt Kt
  refine wpList_plain rfl fun Kt hKt => ?_
  go_simp
  refine hKt _ _ ?_
  clear hKt Kt
  refine wpList_plain rfl fun Kt hKt => ?_
  go_simp
  refine hKt _ _ ?_
  clear hKt Kt
  generalize hX : W5.alloc _ = W6
  have hb : Below W5.heap.size W5 W6 := hX ▸ (Below.refl _ _).alloc (Nat.le_refl _) _
  have HZ_ := hide (newBy W5 W6 (by rw [← hX]; rfl))
  have HBB_ := hide hb
  clear hX hb
  refine wpList_bstore rfl 24 (.tmp 7) (.tmp 33) rfl W5.heap.size rfl T (show Value.agg ct = _ by rw [unhide HCT]) 32 info32 (unhide HGT).len _ zeros (unhide HZ_) rfl ?_
  intro W7 HV_ HG_
  have hv := unhide HV_
  have hb : Below W5.heap.size W5 W7 := (unhide HBB_).grown (unhide HG_) (unhide HBB_).size (fun i e => by injection e with e; omega)
  obtain ⟨N_HD, hN⟩ : ∃ N, N = W5.heap.size := ⟨_, rfl⟩
  rw [← hN] at hv ⊢
  have HD_ := hide hv
  clear hN hv HV_ HG_ HZ_ HBB_
  replace HT := hide ((unhide HT).keep hb)
  replace HA := hide ((unhide HA).keep hb)
  replace HMA := hide ((unhide HMA).keep hb)
  replace HMB := hide ((unhide HMB).keep hb)
  replace HK := hide ((unhide HK).keep hb)
  replace HB := hide (thenB (unhide HB) hb)
  clear hb
  have HD := HD_
  clear HD_
  try simp only [List.getElem_toArray, List.getElem_cons_zero, List.getElem_cons_succ, Act.put, List.setIfInBounds_toArray, List.set_cons_zero, List.set_cons_succ]
  by_cases hUM : U = M
  case pos =>
    subst hUM
    go_upto_region 6 with fail
    refine wp_region_lit ?_
    refine wpList_load_mid rfl 40 (.tmp 3) rfl N_HK 0 rfl [.slice A n c, .int .i64 (U : Int), .int .i64 (U : Int)] _ (unhide HK).range Tryd.underlying40 rfl infoKey ?_
    try simp only [List.getElem_toArray, List.getElem_cons_zero, List.getElem_cons_succ, Act.put, List.setIfInBounds_toArray, List.set_cons_zero, List.set_cons_succ]
    go_wp2_with fail
    refine (Sign_no W7 A n c (U : Int) (unhide HKO) Aa na ca (by have := unhide HNN; omega)).mono ?_; rintro x W8 ⟨rfl, hb⟩
    replace HT := hide ((unhide HT).keep hb)
    replace HA := hide ((unhide HA).keep hb)
    replace HMA := hide ((unhide HMA).keep hb)
    replace HMB := hide ((unhide HMB).keep hb)
    replace HK := hide ((unhide HK).keep hb)
    replace HD := hide ((unhide HD).keep hb)
    replace HB := hide (thenB (unhide HB) hb)
    clear hb
    dsimp only
    rename_i KK hK
    refine hK _ _ ?_
    clear hK KK
    refine wpList_plain rfl fun Kt hKt => ?_
    go_simp
    refine hKt _ _ ?_
    clear hKt Kt
    refine wpList_plain rfl fun Kt hKt => ?_
    go_simp
    refine hKt _ _ ?_
    clear hKt Kt
    refine wpList_plain rfl fun Kt hKt => ?_
    go_simp
    refine hKt _ _ ?_
    clear hKt Kt
    refine wpList_plain rfl fun Kt hKt => ?_
    go_simp
    refine hKt _ _ ?_
    clear hKt Kt
    refine wpList_plain rfl fun Kt hKt => ?_
    go_simp
    refine hKt _ _ ?_
    clear hKt Kt
    refine wpList_plain rfl fun Kt hKt => ?_
    go_simp
    refine hKt _ _ ?_
    clear hKt Kt
    generalize hX : W8.alloc _ = W9
    generalize hY : W9.alloc _ = W10
    have hb1 : Below W8.heap.size W8 W9 := hX ▸ (Below.refl _ _).alloc (Nat.le_refl _) _
    have hb2 : Below W9.heap.size W9 W10 := hY ▸ (Below.refl _ _).alloc (Nat.le_refl _) _
    have hz : W9.heap.size = W8.heap.size + 1 := by rw [← hX]; show (W8.heap.push _).size = _; rw [Array.size_push]
    have hv : VsAt W9 W8.heap.size 40 [.slice none 0 0, .int .i64 0, .int .i64 0] := boxedV W8 W9 _ _ (by rw [← hX]; rfl)
    have hu : VsAt W10 W9.heap.size 52 [.int .i64 0, .slice none 0 0, .slice none 0 0, .slice none 0 0] := boxedV W9 W10 _ _ (by rw [← hY]; rfl)
    rw [hz] at hu
    have HV_ := hide (hv.keep hb2); have HU_ := hide hu
    have HBB_ := hide (thenB hb1 hb2)
    obtain ⟨N_HX0, hN⟩ : ∃ N, N = W8.heap.size := ⟨_, rfl⟩
    obtain ⟨N_HS0, hM⟩ : ∃ N, N = W8.heap.size + 1 := ⟨_, rfl⟩
    rw [← hM] at HU_ ⊢
    rw [← hN] at HV_ ⊢
    have HNM_ : Hid (N_HX0 = W8.heap.size ∧ N_HS0 = W8.heap.size + 1) := ⟨hN, hM⟩
    clear hX hY hz hb1 hb2 hv hu hN hM
    refine wpList_vput rfl 40 (.tmp 9) (.tmp 39) rfl N_HX0 0 rfl [.slice none 0 0, .int .i64 0, .int .i64 0] rfl infoKey (keyL_one _ _ _ _ _) _ _ (unhide HV_) (by simp) ?_
    intro W11 HV3_ HG3_
    have hv3 := unhide HV3_
    rw [spliceV_all _ _ (by simp)] at hv3
    have hu3 := (unhide HU_).grown (unhide HG3_) (fun e => by injection e with e; have := unhide HNM_; omega)
    have hb3 : Below W8.heap.size W8 W11 := (unhide HBB_).grown (unhide HG3_) (unhide HBB_).size (fun i e => by injection e with e; have := unhide HNM_; omega)
    have HV4_ := hide hv3; have HU4_ := hide hu3; have HBB4_ := hide hb3
    clear hv3 hu3 hb3 HV3_ HG3_ HV_ HU_ HBB_
    try simp only [List.getElem_toArray, List.getElem_cons_zero, List.getElem_cons_succ, Act.put, List.setIfInBounds_toArray, List.set_cons_zero, List.set_cons_succ]
    refine wpList_vput rfl 52 (.tmp 10) (.tmp 40) rfl N_HS0 0 rfl [.int .i64 0, .slice none 0 0, .slice none 0 0, .slice none 0 0] rfl infoSig (sigL_one _ _ _ _ _ _ _ _ _ _) _ _ (unhide HU4_) (by simp) ?_
    intro W12 HV5_ HG5_
    have hu5 := unhide HV5_
    rw [spliceV_all _ _ (by simp)] at hu5
    have HX0_ := hide ((unhide HV4_).grown (unhide HG5_) (fun e => by injection e with e; have := unhide HNM_; omega)); have HS0_ := hide hu5
    have hb : Below W8.heap.size W8 W12 := (unhide HBB4_).grown (unhide HG5_) (unhide HBB4_).size (fun i e => by injection e with e; have := unhide HNM_; omega)
    have HNM := hide (unhide HNM_)
    clear hu5 HV5_ HG5_ HV4_ HU4_ HBB4_ HNM_
    replace HT := hide ((unhide HT).keep hb)
    replace HA := hide ((unhide HA).keep hb)
    replace HMA := hide ((unhide HMA).keep hb)
    replace HMB := hide ((unhide HMB).keep hb)
    replace HK := hide ((unhide HK).keep hb)
    replace HD := hide ((unhide HD).keep hb)
    replace HB := hide (thenB (unhide HB) hb)
    clear hb
    have HX0 := HX0_; have HS0 := HS0_
    clear HX0_ HS0_
    try simp only [List.getElem_toArray, List.getElem_cons_zero, List.getElem_cons_succ, Act.put, List.setIfInBounds_toArray, List.set_cons_zero, List.set_cons_succ]
    go_upto_region 7 with fail
    refine wp_region_lit ?_
    refine wpList_load_mid rfl 40 (.tmp 3) rfl N_HK 0 rfl [.slice A n c, .int .i64 (U : Int), .int .i64 (U : Int)] _ (unhide HK).range Tryd.underlying40 rfl infoKey ?_
    try simp only [List.getElem_toArray, List.getElem_cons_zero, List.getElem_cons_succ, Act.put, List.setIfInBounds_toArray, List.set_cons_zero, List.set_cons_succ]
    go_wp2_with fail
    refine (Sign_no W12 A n c (U : Int) (unhide HKO) Ab nb cb (by have := unhide HNN; omega)).mono ?_; rintro x W13 ⟨rfl, hb⟩
    replace HT := hide ((unhide HT).keep hb)
    replace HA := hide ((unhide HA).keep hb)
    replace HMA := hide ((unhide HMA).keep hb)
    replace HMB := hide ((unhide HMB).keep hb)
    replace HK := hide ((unhide HK).keep hb)
    replace HD := hide ((unhide HD).keep hb)
    replace HX0 := hide ((unhide HX0).keep hb)
    replace HS0 := hide ((unhide HS0).keep hb)
    replace HB := hide (thenB (unhide HB) hb)
    clear hb
    dsimp only
    rename_i KK hK
    refine hK _ _ ?_
    clear hK KK
    refine wpList_plain rfl fun Kt hKt => ?_
    go_simp
    refine hKt _ _ ?_
    clear hKt Kt
    refine wpList_plain rfl fun Kt hKt => ?_
    go_simp
    refine hKt _ _ ?_
    clear hKt Kt
    refine wpList_plain rfl fun Kt hKt => ?_
    go_simp
    refine hKt _ _ ?_
    clear hKt Kt
    refine wpList_plain rfl fun Kt hKt => ?_
    go_simp
    refine hKt _ _ ?_
    clear hKt Kt
    refine wpList_plain rfl fun Kt hKt => ?_
    go_simp
    refine hKt _ _ ?_
    clear hKt Kt
    refine wpList_plain rfl fun Kt hKt => ?_
    go_simp
    refine hKt _ _ ?_
    clear hKt Kt
    generalize hX : W13.alloc _ = W14
    generalize hY : W14.alloc _ = W15
    have hb1 : Below W13.heap.size W13 W14 := hX ▸ (Below.refl _ _).alloc (Nat.le_refl _) _
    have hb2 : Below W14.heap.size W14 W15 := hY ▸ (Below.refl _ _).alloc (Nat.le_refl _) _
    have hz : W14.heap.size = W13.heap.size + 1 := by rw [← hX]; show (W13.heap.push _).size = _; rw [Array.size_push]
    have hv : VsAt W14 W13.heap.size 40 [.slice none 0 0, .int .i64 0, .int .i64 0] := boxedV W13 W14 _ _ (by rw [← hX]; rfl)
    have hu : VsAt W15 W14.heap.size 52 [.int .i64 0, .slice none 0 0, .slice none 0 0, .slice none 0 0] := boxedV W14 W15 _ _ (by rw [← hY]; rfl)
    rw [hz] at hu
    have HV_ := hide (hv.keep hb2); have HU_ := hide hu
    have HBB_ := hide (thenB hb1 hb2)
    obtain ⟨N_HX1, hN⟩ : ∃ N, N = W13.heap.size := ⟨_, rfl⟩
    obtain ⟨N_HS1, hM⟩ : ∃ N, N = W13.heap.size + 1 := ⟨_, rfl⟩
    rw [← hM] at HU_ ⊢
    rw [← hN] at HV_ ⊢
    have HNM_ : Hid (N_HX1 = W13.heap.size ∧ N_HS1 = W13.heap.size + 1) := ⟨hN, hM⟩
    clear hX hY hz hb1 hb2 hv hu hN hM
    refine wpList_vput rfl 40 (.tmp 12) (.tmp 46) rfl N_HX1 0 rfl [.slice none 0 0, .int .i64 0, .int .i64 0] rfl infoKey (keyL_one _ _ _ _ _) _ _ (unhide HV_) (by simp) ?_
    intro W16 HV3_ HG3_
    have hv3 := unhide HV3_
    rw [spliceV_all _ _ (by simp)] at hv3
    have hu3 := (unhide HU_).grown (unhide HG3_) (fun e => by injection e with e; have := unhide HNM_; omega)
    have hb3 : Below W13.heap.size W13 W16 := (unhide HBB_).grown (unhide HG3_) (unhide HBB_).size (fun i e => by injection e with e; have := unhide HNM_; omega)
    have HV4_ := hide hv3; have HU4_ := hide hu3; have HBB4_ := hide hb3
    clear hv3 hu3 hb3 HV3_ HG3_ HV_ HU_ HBB_
    try simp only [List.getElem_toArray, List.getElem_cons_zero, List.getElem_cons_succ, Act.put, List.setIfInBounds_toArray, List.set_cons_zero, List.set_cons_succ]
    refine wpList_vput rfl 52 (.tmp 13) (.tmp 47) rfl N_HS1 0 rfl [.int .i64 0, .slice none 0 0, .slice none 0 0, .slice none 0 0] rfl infoSig (sigL_one _ _ _ _ _ _ _ _ _ _) _ _ (unhide HU4_) (by simp) ?_
    intro W17 HV5_ HG5_
    have hu5 := unhide HV5_
    rw [spliceV_all _ _ (by simp)] at hu5
    have HX1_ := hide ((unhide HV4_).grown (unhide HG5_) (fun e => by injection e with e; have := unhide HNM_; omega)); have HS1_ := hide hu5
    have hb : Below W13.heap.size W13 W17 := (unhide HBB4_).grown (unhide HG5_) (unhide HBB4_).size (fun i e => by injection e with e; have := unhide HNM_; omega)
    have HNM := hide (unhide HNM_)
    clear hu5 HV5_ HG5_ HV4_ HU4_ HBB4_ HNM_
    replace HT := hide ((unhide HT).keep hb)
    replace HA := hide ((unhide HA).keep hb)
    replace HMA := hide ((unhide HMA).keep hb)
    replace HMB := hide ((unhide HMB).keep hb)
    replace HK := hide ((unhide HK).keep hb)
    replace HD := hide ((unhide HD).keep hb)
    replace HX0 := hide ((unhide HX0).keep hb)
    replace HS0 := hide ((unhide HS0).keep hb)
    replace HB := hide (thenB (unhide HB) hb)
    clear hb
    have HX1 := HX1_; have HS1 := HS1_
    clear HX1_ HS1_
    try simp only [List.getElem_toArray, List.getElem_cons_zero, List.getElem_cons_succ, Act.put, List.setIfInBounds_toArray, List.set_cons_zero, List.set_cons_succ]
    go_wp2_with fail
    go_ret
    exact ⟨rfl, unhide HB⟩
  obtain ⟨u1, hu1⟩ : ∃ x, x = U + 1 := ⟨_, rfl⟩
  obtain ⟨bs, hbs⟩ : ∃ b, b = bitsS T U ma := ⟨_, rfl⟩
  obtain ⟨bt, hbt⟩ : ∃ b, b = bitsS T U mb := ⟨_, rfl⟩
  obtain ⟨p, hp⟩ : ∃ x, x = (pathP (pubsS seed M) U).length := ⟨_, rfl⟩
  have HBSL : Hid (bs.length = 64 ∧ bt.length = 64) := by rw [hbs, hbt]; exact ⟨bitsS_length _ _ _, bitsS_length _ _ _⟩
  have HU1 := hide hu1; have HBS := hide hbs; have HBT := hide hbt; have HPN := hide hp; have HUM := hide hUM
  clear hu1 hbs hbt hp hUM
  go_upto_region 6 with fail
  refine wp_region_lit ?_
  refine wpList_load_mid rfl 40 (.tmp 3) rfl N_HK 0 rfl [.slice A n c, .int .i64 (M : Int), .int .i64 (U : Int)] _ (unhide HK).range Tryd.underlying40 rfl infoKey ?_
  try simp only [List.getElem_toArray, List.getElem_cons_zero, List.getElem_cons_succ, Act.put, List.setIfInBounds_toArray, List.set_cons_zero, List.set_cons_succ]
  go_wp2_with fail
  refine (Sign_some W7 A n c seed (unhide HN).1 (unhide HN).2 (unhide HA) M U u1 (unhide HU1) (unhide HKO) (by have := unhide HNN; have := unhide HUM; omega) Aa na ca ma (unhide HNA).1 (unhide HNA).2.1 (unhide HMA) (unhide HNA).2.2 (by have := unhide HNN; omega) T (unhide HTT) bs (unhide HBS) p (unhide HPN) (unhide HT)).mono ?_; rintro x W8 ⟨A10, c10, A20, c20, A30, c30, rfl, ho, hcl, hpl, hp, hq, hb⟩
  replace HT := hide ((unhide HT).keep hb)
  replace HA := hide ((unhide HA).keep hb)
  replace HMA := hide ((unhide HMA).keep hb)
  replace HMB := hide ((unhide HMB).keep hb)
  replace HK := hide ((unhide HK).keep hb)
  replace HD := hide ((unhide HD).keep hb)
  replace HB := hide (thenB (unhide HB) hb)
  clear hb
  have HO0 := hide ho; have HC0 := hide hcl; have HP0 := hide hp; have HPL0 : Hid (p ≤ c30) := hpl
  clear ho hcl hp hpl hq
  dsimp only
  rename_i KK hK
  refine hK _ _ ?_
  clear hK KK
  refine wpList_plain rfl fun Kt hKt => ?_
  go_simp
  refine hKt _ _ ?_
  clear hKt Kt
  refine wpList_plain rfl fun Kt hKt => ?_
  go_simp
  refine hKt _ _ ?_
  clear hKt Kt
  refine wpList_plain rfl fun Kt hKt => ?_
  go_simp
  refine hKt _ _ ?_
  clear hKt Kt
  refine wpList_plain rfl fun Kt hKt => ?_
  go_simp
  refine hKt _ _ ?_
  clear hKt Kt
  refine wpList_plain rfl fun Kt hKt => ?_
  go_simp
  refine hKt _ _ ?_
  clear hKt Kt
  refine wpList_plain rfl fun Kt hKt => ?_
  go_simp
  refine hKt _ _ ?_
  clear hKt Kt
  generalize hX : W8.alloc _ = W9
  generalize hY : W9.alloc _ = W10
  have hb1 : Below W8.heap.size W8 W9 := hX ▸ (Below.refl _ _).alloc (Nat.le_refl _) _
  have hb2 : Below W9.heap.size W9 W10 := hY ▸ (Below.refl _ _).alloc (Nat.le_refl _) _
  have hz : W9.heap.size = W8.heap.size + 1 := by rw [← hX]; show (W8.heap.push _).size = _; rw [Array.size_push]
  have hv : VsAt W9 W8.heap.size 40 [.slice none 0 0, .int .i64 0, .int .i64 0] := boxedV W8 W9 _ _ (by rw [← hX]; rfl)
  have hu : VsAt W10 W9.heap.size 52 [.int .i64 0, .slice none 0 0, .slice none 0 0, .slice none 0 0] := boxedV W9 W10 _ _ (by rw [← hY]; rfl)
  rw [hz] at hu
  have HV_ := hide (hv.keep hb2); have HU_ := hide hu
  have HBB_ := hide (thenB hb1 hb2)
  obtain ⟨N_HX0, hN⟩ : ∃ N, N = W8.heap.size := ⟨_, rfl⟩
  obtain ⟨N_HS0, hM⟩ : ∃ N, N = W8.heap.size + 1 := ⟨_, rfl⟩
  rw [← hM] at HU_ ⊢
  rw [← hN] at HV_ ⊢
  have HNM_ : Hid (N_HX0 = W8.heap.size ∧ N_HS0 = W8.heap.size + 1) := ⟨hN, hM⟩
  clear hX hY hz hb1 hb2 hv hu hN hM
  refine wpList_vput rfl 40 (.tmp 9) (.tmp 39) rfl N_HX0 0 rfl [.slice A n c, .int .i64 (M : Int), .int .i64 (u1 : Int)] rfl infoKey (keyL_one _ _ _ _ _) _ _ (unhide HV_) (by simp) ?_
  intro W11 HV3_ HG3_
  have hv3 := unhide HV3_
  rw [spliceV_all _ _ (by simp)] at hv3
  have hu3 := (unhide HU_).grown (unhide HG3_) (fun e => by injection e with e; have := unhide HNM_; omega)
  have hb3 : Below W8.heap.size W8 W11 := (unhide HBB_).grown (unhide HG3_) (unhide HBB_).size (fun i e => by injection e with e; have := unhide HNM_; omega)
  have HV4_ := hide hv3; have HU4_ := hide hu3; have HBB4_ := hide hb3
  clear hv3 hu3 hb3 HV3_ HG3_ HV_ HU_ HBB_
  try simp only [List.getElem_toArray, List.getElem_cons_zero, List.getElem_cons_succ, Act.put, List.setIfInBounds_toArray, List.set_cons_zero, List.set_cons_succ]
  refine wpList_vput rfl 52 (.tmp 10) (.tmp 40) rfl N_HS0 0 rfl [.int .i64 (U : Int), .slice A10 64 c10, .slice A20 64 c20, .slice A30 p c30] rfl infoSig (sigL_one _ _ _ _ _ _ _ _ _ _) _ _ (unhide HU4_) (by simp) ?_
  intro W12 HV5_ HG5_
  have hu5 := unhide HV5_
  rw [spliceV_all _ _ (by simp)] at hu5
  have HX0_ := hide ((unhide HV4_).grown (unhide HG5_) (fun e => by injection e with e; have := unhide HNM_; omega)); have HS0_ := hide hu5
  have hb : Below W8.heap.size W8 W12 := (unhide HBB4_).grown (unhide HG5_) (unhide HBB4_).size (fun i e => by injection e with e; have := unhide HNM_; omega)
  have HNM := hide (unhide HNM_)
  clear hu5 HV5_ HG5_ HV4_ HU4_ HBB4_ HNM_
  replace HT := hide ((unhide HT).keep hb)
  replace HA := hide ((unhide HA).keep hb)
  replace HMA := hide ((unhide HMA).keep hb)
  replace HMB := hide ((unhide HMB).keep hb)
  replace HK := hide ((unhide HK).keep hb)
  replace HD := hide ((unhide HD).keep hb)
  replace HO0 := hide ((unhide HO0).keep hb)
  replace HC0 := hide ((unhide HC0).keep hb)
  replace HP0 := hide ((unhide HP0).keep hb)
  replace HB := hide (thenB (unhide HB) hb)
  clear hb
  have HX0 := HX0_; have HS0 := HS0_
  clear HX0_ HS0_
  try simp only [List.getElem_toArray, List.getElem_cons_zero, List.getElem_cons_succ, Act.put, List.setIfInBounds_toArray, List.set_cons_zero, List.set_cons_succ]
  go_upto_region 7 with fail
  refine wp_region_lit ?_
  refine wpList_load_mid rfl 40 (.tmp 3) rfl N_HK 0 rfl [.slice A n c, .int .i64 (M : Int), .int .i64 (U : Int)] _ (unhide HK).range Tryd.underlying40 rfl infoKey ?_
  try simp only [List.getElem_toArray, List.getElem_cons_zero, List.getElem_cons_succ, Act.put, List.setIfInBounds_toArray, List.set_cons_zero, List.set_cons_succ]
  go_wp2_with fail
  refine (Sign_some W12 A n c seed (unhide HN).1 (unhide HN).2 (unhide HA) M U u1 (unhide HU1) (unhide HKO) (by have := unhide HNN; have := unhide HUM; omega) Ab nb cb mb (unhide HNB).1 (unhide HNB).2.1 (unhide HMB) (unhide HNB).2.2 (by have := unhide HNN; omega) T (unhide HTT) bt (unhide HBT) p (unhide HPN) (unhide HT)).mono ?_; rintro x W13 ⟨A11, c11, A21, c21, A31, c31, rfl, ho, hcl, hpl, hp, hq, hb⟩
  replace HT := hide ((unhide HT).keep hb)
  replace HA := hide ((unhide HA).keep hb)
  replace HMA := hide ((unhide HMA).keep hb)
  replace HMB := hide ((unhide HMB).keep hb)
  replace HK := hide ((unhide HK).keep hb)
  replace HD := hide ((unhide HD).keep hb)
  replace HO0 := hide ((unhide HO0).keep hb)
  replace HC0 := hide ((unhide HC0).keep hb)
  replace HP0 := hide ((unhide HP0).keep hb)
  replace HX0 := hide ((unhide HX0).keep hb)
  replace HS0 := hide ((unhide HS0).keep hb)
  replace HB := hide (thenB (unhide HB) hb)
  clear hb
  have HO1 := hide ho; have HC1 := hide hcl; have HP1 := hide hp; have HPL1 : Hid (p ≤ c31) := hpl
  clear ho hcl hp hpl hq
  dsimp only
  rename_i KK hK
  refine hK _ _ ?_
  clear hK KK
  refine wpList_plain rfl fun Kt hKt => ?_
  go_simp
  refine hKt _ _ ?_
  clear hKt Kt
  refine wpList_plain rfl fun Kt hKt => ?_
  go_simp
  refine hKt _ _ ?_
  clear hKt Kt
  refine wpList_plain rfl fun Kt hKt => ?_
  go_simp
  refine hKt _ _ ?_
  clear hKt Kt
  refine wpList_plain rfl fun Kt hKt => ?_
  go_simp
  refine hKt _ _ ?_
  clear hKt Kt
  refine wpList_plain rfl fun Kt hKt => ?_
  go_simp
  refine hKt _ _ ?_
  clear hKt Kt
  refine wpList_plain rfl fun Kt hKt => ?_
  go_simp
  refine hKt _ _ ?_
  clear hKt Kt
  generalize hX : W13.alloc _ = W14
  generalize hY : W14.alloc _ = W15
  have hb1 : Below W13.heap.size W13 W14 := hX ▸ (Below.refl _ _).alloc (Nat.le_refl _) _
  have hb2 : Below W14.heap.size W14 W15 := hY ▸ (Below.refl _ _).alloc (Nat.le_refl _) _
  have hz : W14.heap.size = W13.heap.size + 1 := by rw [← hX]; show (W13.heap.push _).size = _; rw [Array.size_push]
  have hv : VsAt W14 W13.heap.size 40 [.slice none 0 0, .int .i64 0, .int .i64 0] := boxedV W13 W14 _ _ (by rw [← hX]; rfl)
  have hu : VsAt W15 W14.heap.size 52 [.int .i64 0, .slice none 0 0, .slice none 0 0, .slice none 0 0] := boxedV W14 W15 _ _ (by rw [← hY]; rfl)
  rw [hz] at hu
  have HV_ := hide (hv.keep hb2); have HU_ := hide hu
  have HBB_ := hide (thenB hb1 hb2)
  obtain ⟨N_HX1, hN⟩ : ∃ N, N = W13.heap.size := ⟨_, rfl⟩
  obtain ⟨N_HS1, hM⟩ : ∃ N, N = W13.heap.size + 1 := ⟨_, rfl⟩
  rw [← hM] at HU_ ⊢
  rw [← hN] at HV_ ⊢
  have HNM_ : Hid (N_HX1 = W13.heap.size ∧ N_HS1 = W13.heap.size + 1) := ⟨hN, hM⟩
  clear hX hY hz hb1 hb2 hv hu hN hM
  refine wpList_vput rfl 40 (.tmp 12) (.tmp 46) rfl N_HX1 0 rfl [.slice A n c, .int .i64 (M : Int), .int .i64 (u1 : Int)] rfl infoKey (keyL_one _ _ _ _ _) _ _ (unhide HV_) (by simp) ?_
  intro W16 HV3_ HG3_
  have hv3 := unhide HV3_
  rw [spliceV_all _ _ (by simp)] at hv3
  have hu3 := (unhide HU_).grown (unhide HG3_) (fun e => by injection e with e; have := unhide HNM_; omega)
  have hb3 : Below W13.heap.size W13 W16 := (unhide HBB_).grown (unhide HG3_) (unhide HBB_).size (fun i e => by injection e with e; have := unhide HNM_; omega)
  have HV4_ := hide hv3; have HU4_ := hide hu3; have HBB4_ := hide hb3
  clear hv3 hu3 hb3 HV3_ HG3_ HV_ HU_ HBB_
  try simp only [List.getElem_toArray, List.getElem_cons_zero, List.getElem_cons_succ, Act.put, List.setIfInBounds_toArray, List.set_cons_zero, List.set_cons_succ]
  refine wpList_vput rfl 52 (.tmp 13) (.tmp 47) rfl N_HS1 0 rfl [.int .i64 (U : Int), .slice A11 64 c11, .slice A21 64 c21, .slice A31 p c31] rfl infoSig (sigL_one _ _ _ _ _ _ _ _ _ _) _ _ (unhide HU4_) (by simp) ?_
  intro W17 HV5_ HG5_
  have hu5 := unhide HV5_
  rw [spliceV_all _ _ (by simp)] at hu5
  have HX1_ := hide ((unhide HV4_).grown (unhide HG5_) (fun e => by injection e with e; have := unhide HNM_; omega)); have HS1_ := hide hu5
  have hb : Below W13.heap.size W13 W17 := (unhide HBB4_).grown (unhide HG5_) (unhide HBB4_).size (fun i e => by injection e with e; have := unhide HNM_; omega)
  have HNM := hide (unhide HNM_)
  clear hu5 HV5_ HG5_ HV4_ HU4_ HBB4_ HNM_
  replace HT := hide ((unhide HT).keep hb)
  replace HA := hide ((unhide HA).keep hb)
  replace HMA := hide ((unhide HMA).keep hb)
  replace HMB := hide ((unhide HMB).keep hb)
  replace HK := hide ((unhide HK).keep hb)
  replace HD := hide ((unhide HD).keep hb)
  replace HO0 := hide ((unhide HO0).keep hb)
  replace HC0 := hide ((unhide HC0).keep hb)
  replace HP0 := hide ((unhide HP0).keep hb)
  replace HX0 := hide ((unhide HX0).keep hb)
  replace HS0 := hide ((unhide HS0).keep hb)
  replace HO1 := hide ((unhide HO1).keep hb)
  replace HC1 := hide ((unhide HC1).keep hb)
  replace HP1 := hide ((unhide HP1).keep hb)
  replace HB := hide (thenB (unhide HB) hb)
  clear hb
  have HX1 := HX1_; have HS1 := HS1_
  clear HX1_ HS1_
  try simp only [List.getElem_toArray, List.getElem_cons_zero, List.getElem_cons_succ, Act.put, List.setIfInBounds_toArray, List.set_cons_zero, List.set_cons_succ]
  go_wp2_with fail
  obtain ⟨W, hW⟩ : ∃ W, W = W17.drewN 1 := ⟨_, rfl⟩
  have HW : Hid (W = W17.drewN 1) := hW
  have hb := below_named HW
  clear hW
  replace HT := hide ((unhide HT).keep hb)
  replace HA := hide ((unhide HA).keep hb)
  replace HMA := hide ((unhide HMA).keep hb)
  replace HMB := hide ((unhide HMB).keep hb)
  replace HK := hide ((unhide HK).keep hb)
  replace HD := hide ((unhide HD).keep hb)
  replace HO0 := hide ((unhide HO0).keep hb)
  replace HC0 := hide ((unhide HC0).keep hb)
  replace HP0 := hide ((unhide HP0).keep hb)
  replace HX0 := hide ((unhide HX0).keep hb)
  replace HS0 := hide ((unhide HS0).keep hb)
  replace HO1 := hide ((unhide HO1).keep hb)
  replace HC1 := hide ((unhide HC1).keep hb)
  replace HP1 := hide ((unhide HP1).keep hb)
  replace HX1 := hide ((unhide HX1).keep hb)
  replace HS1 := hide ((unhide HS1).keep hb)
  replace HB := hide (thenB (unhide HB) hb)
  clear hb
  have hS0 : Below W.heap.size W W := Below.refl _ _
  refine held (S := Below W.heap.size W) W HW (by kernel_rfl) ?_
  refine wpAnyH_take (i := 0) (v := .agg ct) rfl (by kernel_rfl) (by kernel_rfl) (by kernel_rfl) (fun _ _ _ h => h) (by rw [unhide HCT]; exact yieldsIf_load_mid (by kernel_rfl) 24 (.tmp 7) rfl N_HD 0 rfl (T.map (Value.int .u8)) _ (fun W hS => ((unhide HD).keep hS).range) Tryd.underlying24 rfl (by rw [List.length_map, (unhide HGT).len]; exact info32)) (by assumption) ?_
  try simp only [List.getElem_toArray, List.getElem_cons_zero, List.getElem_cons_succ, Act.put, List.setIfInBounds_toArray, List.set_cons_zero, List.set_cons_succ]
  refine wpAnyH_take (i := 1) (v := ?_) rfl (by kernel_rfl) (by kernel_rfl) (by kernel_rfl) (fun _ _ _ h => h) (Or.inl ⟨by kernel_rfl, ?_⟩) (by assumption) ?_
  rotate_left
  · intro Wt hSt
    go_simp
    try with_reducible rfl
  try simp only [List.getElem_toArray, List.getElem_cons_zero, List.getElem_cons_succ, Act.put, List.setIfInBounds_toArray, List.set_cons_zero, List.set_cons_succ]
  refine wpAnyH_take (i := 2) (v := ?_) rfl (by kernel_rfl) (by kernel_rfl) (by kernel_rfl) (fun _ _ _ h => h) (Or.inl ⟨by kernel_rfl, ?_⟩) (by assumption) ?_
  rotate_left
  · intro Wt hSt
    have hct := (show Wt.cell? ⟨N_HS0, 0, none⟩ = some (.int .i64 (U : Int)) from ((unhide HS0).keep hSt).cell rfl)
    go_simp
    try with_reducible rfl
  try simp only [List.getElem_toArray, List.getElem_cons_zero, List.getElem_cons_succ, Act.put, List.setIfInBounds_toArray, List.set_cons_zero, List.set_cons_succ]
  refine wpAnyH_take (i := 3) (v := ?_) rfl (by kernel_rfl) (by kernel_rfl) (by kernel_rfl) (fun _ _ _ h => h) (Or.inl ⟨by kernel_rfl, ?_⟩) (by assumption) ?_
  rotate_left
  · intro Wt hSt
    go_simp
    try with_reducible rfl
  try simp only [List.getElem_toArray, List.getElem_cons_zero, List.getElem_cons_succ, Act.put, List.setIfInBounds_toArray, List.set_cons_zero, List.set_cons_succ]
  refine wpAnyH_take (i := 5) (v := .agg ct) rfl (by kernel_rfl) (by kernel_rfl) (by kernel_rfl) (fun _ _ _ h => h) (by rw [unhide HCT]; exact yieldsIf_load_mid (by kernel_rfl) 24 (.tmp 7) rfl N_HD 0 rfl (T.map (Value.int .u8)) _ (fun W hS => ((unhide HD).keep hS).range) Tryd.underlying24 rfl (by rw [List.length_map, (unhide HGT).len]; exact info32)) (by assumption) ?_
  try simp only [List.getElem_toArray, List.getElem_cons_zero, List.getElem_cons_succ, Act.put, List.setIfInBounds_toArray, List.set_cons_zero, List.set_cons_succ]
  refine wpAnyH_take (i := 6) (v := ?_) rfl (by kernel_rfl) (by kernel_rfl) (by kernel_rfl) (fun _ _ _ h => h) (Or.inl ⟨by kernel_rfl, ?_⟩) (by assumption) ?_
  rotate_left
  · intro Wt hSt
    go_simp
    try with_reducible rfl
  try simp only [List.getElem_toArray, List.getElem_cons_zero, List.getElem_cons_succ, Act.put, List.setIfInBounds_toArray, List.set_cons_zero, List.set_cons_succ]
  refine wpAnyH_take (i := 7) (v := ?_) rfl (by kernel_rfl) (by kernel_rfl) (by kernel_rfl) (fun _ _ _ h => h) (Or.inl ⟨by kernel_rfl, ?_⟩) (by assumption) ?_
  rotate_left
  · intro Wt hSt
    have hct := (show Wt.cell? ⟨N_HS1, 0, none⟩ = some (.int .i64 (U : Int)) from ((unhide HS1).keep hSt).cell rfl)
    go_simp
    try with_reducible rfl
  try simp only [List.getElem_toArray, List.getElem_cons_zero, List.getElem_cons_succ, Act.put, List.setIfInBounds_toArray, List.set_cons_zero, List.set_cons_succ]
  refine wpAnyH_take (i := 8) (v := ?_) rfl (by kernel_rfl) (by kernel_rfl) (by kernel_rfl) (fun _ _ _ h => h) (Or.inl ⟨by kernel_rfl, ?_⟩) (by assumption) ?_
  rotate_left
  · intro Wt hSt
    go_simp
    try with_reducible rfl
  try simp only [List.getElem_toArray, List.getElem_cons_zero, List.getElem_cons_succ, Act.put, List.setIfInBounds_toArray, List.set_cons_zero, List.set_cons_succ]
  refine wpAnyH_chainOf [4, 9, 10, 11] _ _ _ (by kernel_rfl) (by kernel_rfl) ?_
  simp only [List.filterMap_cons, List.filterMap_nil, List.getElem?_toArray, List.getElem?_cons_zero, List.getElem?_cons_succ]
  refine wpChain_step rfl fun K hK => ?_
  go_simp
  have hbi := Bits_ok W T (unhide HGT) U (by have := unhide HNN; omega) Aa na ca ma (unhide HNA).1 (unhide HNA).2.1 ((unhide HMA).keep hS0) (unhide HNA).2.2 (by have := unhide HNN; omega) ((unhide HT).keep hS0)
  rw [show dv T = .agg ct by rw [unhide HCT]] at hbi
  refine hbi.mono ?_; rintro x Y1 ⟨B1, e1, rfl, hce1, hbl1, hB1⟩
  rw [← unhide HBS] at hce1 hbl1 ⊢
  rw [(unhide HBSL).1] at hce1 ⊢
  have hS1 := thenB hS0 hB1
  dsimp only
  refine hK _ _ hS1 ?_
  clear hK K hbi
  refine wpChain_step rfl fun K hK => ?_
  go_simp
  have hbi := Bits_ok Y1 T (unhide HGT) U (by have := unhide HNN; omega) Ab nb cb mb (unhide HNB).1 (unhide HNB).2.1 ((unhide HMB).keep hS1) (unhide HNB).2.2 (by have := unhide HNN; omega) ((unhide HT).keep hS1)
  rw [show dv T = .agg ct by rw [unhide HCT]] at hbi
  refine hbi.mono ?_; rintro x Y2 ⟨B2, e2, rfl, hce2, hbl2, hB2⟩
  rw [← unhide HBT] at hce2 hbl2 ⊢
  rw [(unhide HBSL).2] at hce2 ⊢
  have hS2 := thenB hS1 hB2
  dsimp only
  refine hK _ _ hS2 ?_
  clear hK K hbi
  refine wpChain_step rfl fun K hK => ?_
  go_simp
  refine hK _ _ hS2 ?_
  clear hK K
  refine wpChain_step rfl fun K hK => ?_
  go_simp
  obtain ⟨b1, o1, rfl, hr1⟩ := hbl1 (fun e => by have := (unhide HBSL).1; rw [e] at this; simp at this)
  obtain ⟨b2, o2, rfl, hr2⟩ := hbl2 (fun e => by have := (unhide HBSL).2; rw [e] at this; simp at this)
  have HL1 : Hid (∀ j x, bs[j]? = some x → Y2.cell? ⟨b1, o1 + j, none⟩ = some (.bool x)) := fun j x hx => (hB2.cell (p := ⟨b1, o1 + j, none⟩) (lt_of_cell (hr1 j x hx))).trans (hr1 j x hx)
  have HL2 : Hid (∀ j x, bt[j]? = some x → Y2.cell? ⟨b2, o2 + j, none⟩ = some (.bool x)) := hr2
  have ke1 : (64 : Int) ≤ (e1 : Int) := by omega
  have ke2 : (64 : Int) ≤ (e2 : Int) := by omega
  refine hK _ _ hS2 (wpChain_nil ?_)
  clear hK K hce1 hce2 hr1 hr2 hbl1 hbl2 hS1 hS0 hB1 hB2
  replace HT := hide ((unhide HT).keep hS2)
  replace HA := hide ((unhide HA).keep hS2)
  replace HMA := hide ((unhide HMA).keep hS2)
  replace HMB := hide ((unhide HMB).keep hS2)
  replace HK := hide ((unhide HK).keep hS2)
  replace HD := hide ((unhide HD).keep hS2)
  replace HO0 := hide ((unhide HO0).keep hS2)
  replace HC0 := hide ((unhide HC0).keep hS2)
  replace HP0 := hide ((unhide HP0).keep hS2)
  replace HX0 := hide ((unhide HX0).keep hS2)
  replace HS0 := hide ((unhide HS0).keep hS2)
  replace HO1 := hide ((unhide HO1).keep hS2)
  replace HC1 := hide ((unhide HC1).keep hS2)
  replace HP1 := hide ((unhide HP1).keep hS2)
  replace HX1 := hide ((unhide HX1).keep hS2)
  replace HS1 := hide ((unhide HS1).keep hS2)
  replace HB := hide (thenB (unhide HB) hS2)
  clear hS2
  have f00 : Y2.cell? ⟨N_HS0, 0, none⟩ = some (.int .i64 (U : Int)) := (unhide HS0).cell rfl
  have f01 : Y2.cell? ⟨N_HS0, 1, none⟩ = some (.slice A10 64 c10) := (unhide HS0).cell rfl
  have f02 : Y2.cell? ⟨N_HS0, 2, none⟩ = some (.slice A20 64 c20) := (unhide HS0).cell rfl
  have f03 : Y2.cell? ⟨N_HS0, 3, none⟩ = some (.slice A30 p c30) := (unhide HS0).cell rfl
  have f10 : Y2.cell? ⟨N_HS1, 0, none⟩ = some (.int .i64 (U : Int)) := (unhide HS1).cell rfl
  have f11 : Y2.cell? ⟨N_HS1, 1, none⟩ = some (.slice A11 64 c11) := (unhide HS1).cell rfl
  have f12 : Y2.cell? ⟨N_HS1, 2, none⟩ = some (.slice A21 64 c21) := (unhide HS1).cell rfl
  have f13 : Y2.cell? ⟨N_HS1, 3, none⟩ = some (.slice A31 p c31) := (unhide HS1).cell rfl
  go_wp2_with fail
  refine (sameDs_any Y2 p _ (unhide HPN) (by rw [unhide HPN]; exact pathP_le seed M U (by have := unhide HNN; have := unhide HUM; omega) (by have := unhide HNN; omega)) A30 c30 (unhide HPL0) (unhide HP0) A31 c31 (unhide HPL1) (unhide HP1)).mono ?_; rintro x Y3 ⟨rfl, hb⟩
  clear f00 f01 f02 f03 f10 f11 f12 f13
  replace HL1 : Hid (∀ j x, bs[j]? = some x → Y3.cell? ⟨b1, o1 + j, none⟩ = some (.bool x)) := fun j x hx => (hb.cell (p := ⟨b1, o1 + j, none⟩) (lt_of_cell (unhide HL1 j x hx))).trans (unhide HL1 j x hx)
  replace HL2 : Hid (∀ j x, bt[j]? = some x → Y3.cell? ⟨b2, o2 + j, none⟩ = some (.bool x)) := fun j x hx => (hb.cell (p := ⟨b2, o2 + j, none⟩) (lt_of_cell (unhide HL2 j x hx))).trans (unhide HL2 j x hx)
  replace HT := hide ((unhide HT).keep hb)
  replace HA := hide ((unhide HA).keep hb)
  replace HMA := hide ((unhide HMA).keep hb)
  replace HMB := hide ((unhide HMB).keep hb)
  replace HK := hide ((unhide HK).keep hb)
  replace HD := hide ((unhide HD).keep hb)
  replace HO0 := hide ((unhide HO0).keep hb)
  replace HC0 := hide ((unhide HC0).keep hb)
  replace HP0 := hide ((unhide HP0).keep hb)
  replace HX0 := hide ((unhide HX0).keep hb)
  replace HS0 := hide ((unhide HS0).keep hb)
  replace HO1 := hide ((unhide HO1).keep hb)
  replace HC1 := hide ((unhide HC1).keep hb)
  replace HP1 := hide ((unhide HP1).keep hb)
  replace HX1 := hide ((unhide HX1).keep hb)
  replace HS1 := hide ((unhide HS1).keep hb)
  replace HB := hide (thenB (unhide HB) hb)
  clear hb
  obtain ⟨p10, q10, rfl, hr10⟩ := (unhide HO0).at_.at_ (fun e => by have := (unhide HO0).len; rw [e] at this; simp at this)
  have k10 : (64 : Int) ≤ (c10 : Int) := by have := (unhide HO0).cap; omega
  have HR10 := hide hr10
  clear hr10
  obtain ⟨p20, q20, rfl, hr20⟩ := (unhide HC0).at_.at_ (fun e => by have := (unhide HC0).len; rw [e] at this; simp at this)
  have k20 : (64 : Int) ≤ (c20 : Int) := by have := (unhide HC0).cap; omega
  have HR20 := hide hr20
  clear hr20
  obtain ⟨p11, q11, rfl, hr11⟩ := (unhide HO1).at_.at_ (fun e => by have := (unhide HO1).len; rw [e] at this; simp at this)
  have k11 : (64 : Int) ≤ (c11 : Int) := by have := (unhide HO1).cap; omega
  have HR11 := hide hr11
  clear hr11
  obtain ⟨p21, q21, rfl, hr21⟩ := (unhide HC1).at_.at_ (fun e => by have := (unhide HC1).len; rw [e] at this; simp at this)
  have k21 : (64 : Int) ≤ (c21 : Int) := by have := (unhide HC1).cap; omega
  have HR21 := hide hr21
  clear hr21
  go_wp2_with fail
  go_loopg [17] 64 (fun g y wx => ∃ j : Nat, g + j = 64 ∧ y = .int .i64 (j : Int) ∧ Below Y3.heap.size Y3 wx)
  case atStart => exact ⟨0, rfl, rfl, Below.refl _ _⟩
  case round =>
    obtain ⟨j, hj, rfl, hb⟩ := hrel
    have HB3 := hide hb
    cases gk with
    | zero =>
      obtain rfl : j = 64 := by omega
      clear hj hb
      go_wp2_with fail
      go_ret
      exact ⟨rfl, thenB (unhide HB) (unhide HB3)⟩
    | succ g =>
      have j64 : j < 64 := by omega
      have j1 : (j : Int) < 64 := by omega
      have j0 : (0 : Int) ≤ (j : Int) := Int.natCast_nonneg _
      obtain ⟨x1, hx1⟩ : ∃ x, bs[j]? = some x := ⟨_, List.getElem?_eq_getElem (by rw [(unhide HBSL).1]; exact j64)⟩
      obtain ⟨x2, hx2⟩ : ∃ x, bt[j]? = some x := ⟨_, List.getElem?_eq_getElem (by rw [(unhide HBSL).2]; exact j64)⟩
      have HXC := hide (And.intro (unhide HL1 j x1 hx1) (unhide HL2 j x2 hx2))
      have r10 := unhide HR10 j _ (openedS_get seed U bs 64 j j64)
      have r20 := unhide HR20 j _ (closedS_get seed U bs 64 j j64)
      have r11 := unhide HR11 j _ (openedS_get seed U bt 64 j j64)
      have r21 := unhide HR21 j _ (closedS_get seed U bt 64 j j64)
      rw [bitAt_of hx1] at r10 r20
      rw [bitAt_of hx2] at r11 r21
      have HJ : Hid (g + 1 + j = 64) := hj
      clear hx1 hx2 hj hb j64
      obtain ⟨d1, hd1⟩ : ∃ d, d = secS (begS seed U) j (bN x1) := ⟨_, rfl⟩
      have HG1 : Hid (Dg d1) := hd1 ▸ dg_secS _ _ _
      obtain ⟨cd1, hcd1⟩ : ∃ cs, cs = (d1.map (Value.int .u8)).toArray := ⟨_, rfl⟩
      have HCD1 := hide hcd1
      by_cases hxx : x1 = x2
      case pos =>
        subst hxx
        obtain ⟨d2, hd2⟩ : ∃ d, d = opnS (secS (begS seed U) j (1 - bN x1)) := ⟨_, rfl⟩
        have HG2 : Hid (Dg d2) := hd2 ▸ dg_opnS _
        obtain ⟨cd2, hcd2⟩ : ∃ cs, cs = (d2.map (Value.int .u8)).toArray := ⟨_, rfl⟩
        have HCD2 := hide hcd2
        rw [← hd1] at r10 r11
        rw [← hd2] at r20 r21
        have HQ10 := hide r10; have HQ20 := hide r20; have HQ11 := hide r11; have HQ21 := hide r21
        clear r10 r20 r11 r21 hcd1 hcd2 hd1 hd2
        cases x1
        all_goals
          go_wp2_with fail
          obtain ⟨Va, hW⟩ : ∃ W, W = wr.drewN 1 := ⟨_, rfl⟩
          have HW : Hid (Va = wr.drewN 1) := hW
          have hS : Below Y3.heap.size Y3 Va := thenB (unhide HB3) (below_named HW)
          clear hW
          refine held (S := Below Y3.heap.size Y3) Va HW (by kernel_rfl) ?_
          refine wpAnyH_take (i := 0) (v := ?_) rfl (by kernel_rfl) (by kernel_rfl) (by kernel_rfl) (fun _ _ _ h => h) (Or.inl ⟨by kernel_rfl, ?_⟩) (by assumption) ?_
          rotate_left
          · intro Wt hSt
            go_simp
            try with_reducible rfl
          try simp only [List.getElem_toArray, List.getElem_cons_zero, List.getElem_cons_succ, Act.put, List.setIfInBounds_toArray, List.set_cons_zero, List.set_cons_succ]
          refine wpAnyH_take (i := 1) (v := ?_) rfl (by kernel_rfl) (by kernel_rfl) (by kernel_rfl) (fun _ _ _ h => h) (Or.inl ⟨by kernel_rfl, ?_⟩) (by assumption) ?_
          rotate_left
          · intro Wt hSt
            go_simp
            try with_reducible rfl
          try simp only [List.getElem_toArray, List.getElem_cons_zero, List.getElem_cons_succ, Act.put, List.setIfInBounds_toArray, List.set_cons_zero, List.set_cons_succ]
          refine wpAnyH_take (i := 2) (v := ?_) rfl (by kernel_rfl) (by kernel_rfl) (by kernel_rfl) (fun _ _ _ h => h) (Or.inl ⟨by kernel_rfl, ?_⟩) (by assumption) ?_
          rotate_left
          · intro Wt hSt
            go_simp
            try with_reducible rfl
          try simp only [List.getElem_toArray, List.getElem_cons_zero, List.getElem_cons_succ, Act.put, List.setIfInBounds_toArray, List.set_cons_zero, List.set_cons_succ]
          refine wpAnyH_take (i := 3) (v := ?_) rfl (by kernel_rfl) (by kernel_rfl) (by kernel_rfl) (fun _ _ _ h => h) (Or.inl ⟨by kernel_rfl, ?_⟩) (by assumption) ?_
          rotate_left
          · intro Wt hSt
            have hct := (show Wt.cell? ⟨b1, o1 + j, none⟩ = some (.bool _) from (hSt.cell (p := ⟨b1, o1 + j, none⟩) (lt_of_cell (unhide HXC).1)).trans (unhide HXC).1)
            go_simp
            try with_reducible rfl
          try simp only [List.getElem_toArray, List.getElem_cons_zero, List.getElem_cons_succ, Act.put, List.setIfInBounds_toArray, List.set_cons_zero, List.set_cons_succ]
          refine wpAnyH_take (i := 4) (v := ?_) rfl (by kernel_rfl) (by kernel_rfl) (by kernel_rfl) (fun _ _ _ h => h) (Or.inl ⟨by kernel_rfl, ?_⟩) (by assumption) ?_
          rotate_left
          · intro Wt hSt
            go_simp
            try with_reducible rfl
          try simp only [List.getElem_toArray, List.getElem_cons_zero, List.getElem_cons_succ, Act.put, List.setIfInBounds_toArray, List.set_cons_zero, List.set_cons_succ]
          refine wpAnyH_take (i := 5) (v := ?_) rfl (by kernel_rfl) (by kernel_rfl) (by kernel_rfl) (fun _ _ _ h => h) (Or.inl ⟨by kernel_rfl, ?_⟩) (by assumption) ?_
          rotate_left
          · intro Wt hSt
            go_simp
            try with_reducible rfl
          try simp only [List.getElem_toArray, List.getElem_cons_zero, List.getElem_cons_succ, Act.put, List.setIfInBounds_toArray, List.set_cons_zero, List.set_cons_succ]
          refine wpAnyH_take (i := 6) (v := ?_) rfl (by kernel_rfl) (by kernel_rfl) (by kernel_rfl) (fun _ _ _ h => h) (Or.inl ⟨by kernel_rfl, ?_⟩) (by assumption) ?_
          rotate_left
          · intro Wt hSt
            go_simp
            try with_reducible rfl
          try simp only [List.getElem_toArray, List.getElem_cons_zero, List.getElem_cons_succ, Act.put, List.setIfInBounds_toArray, List.set_cons_zero, List.set_cons_succ]
          refine wpAnyH_take (i := 7) (v := ?_) rfl (by kernel_rfl) (by kernel_rfl) (by kernel_rfl) (fun _ _ _ h => h) (Or.inl ⟨by kernel_rfl, ?_⟩) (by assumption) ?_
          rotate_left
          · intro Wt hSt
            have hct := (show Wt.cell? ⟨b2, o2 + j, none⟩ = some (.bool _) from (hSt.cell (p := ⟨b2, o2 + j, none⟩) (lt_of_cell (unhide HXC).2)).trans (unhide HXC).2)
            go_simp
            try with_reducible rfl
          try simp only [List.getElem_toArray, List.getElem_cons_zero, List.getElem_cons_succ, Act.put, List.setIfInBounds_toArray, List.set_cons_zero, List.set_cons_succ]
          refine wpAnyH_take (i := 8) (v := ?_) rfl (by kernel_rfl) (by kernel_rfl) (by kernel_rfl) (fun _ _ _ h => h) (Or.inl ⟨by kernel_rfl, ?_⟩) (by assumption) ?_
          rotate_left
          · intro Wt hSt
            go_simp
            try with_reducible rfl
          try simp only [List.getElem_toArray, List.getElem_cons_zero, List.getElem_cons_succ, Act.put, List.setIfInBounds_toArray, List.set_cons_zero, List.set_cons_succ]
          refine wpAnyH_take (i := 9) (v := ?_) rfl (by kernel_rfl) (by kernel_rfl) (by kernel_rfl) (fun _ _ _ h => h) (Or.inl ⟨by kernel_rfl, ?_⟩) (by assumption) ?_
          rotate_left
          · intro Wt hSt
            go_simp
            try with_reducible rfl
          try simp only [List.getElem_toArray, List.getElem_cons_zero, List.getElem_cons_succ, Act.put, List.setIfInBounds_toArray, List.set_cons_zero, List.set_cons_succ]
          refine wpAnyH_take (i := 10) (v := ?_) rfl (by kernel_rfl) (by kernel_rfl) (by kernel_rfl) (fun _ _ _ h => h) (Or.inl ⟨by kernel_rfl, ?_⟩) (by assumption) ?_
          rotate_left
          · intro Wt hSt
            go_simp
            try with_reducible rfl
          try simp only [List.getElem_toArray, List.getElem_cons_zero, List.getElem_cons_succ, Act.put, List.setIfInBounds_toArray, List.set_cons_zero, List.set_cons_succ]
          refine wpAnyH_take (i := 11) (v := ?_) rfl (by kernel_rfl) (by kernel_rfl) (by kernel_rfl) (fun _ _ _ h => h) (Or.inl ⟨by kernel_rfl, ?_⟩) (by assumption) ?_
          rotate_left
          · intro Wt hSt
            have hct := (show Wt.cell? ⟨N_HS0, 1, none⟩ = some (.slice (some ⟨p10, q10, none⟩) 64 c10) from ((unhide HS0).keep hSt).cell rfl)
            go_simp
            try with_reducible rfl
          try simp only [List.getElem_toArray, List.getElem_cons_zero, List.getElem_cons_succ, Act.put, List.setIfInBounds_toArray, List.set_cons_zero, List.set_cons_succ]
          refine wpAnyH_take (i := 12) (v := ?_) rfl (by kernel_rfl) (by kernel_rfl) (by kernel_rfl) (fun _ _ _ h => h) (Or.inl ⟨by kernel_rfl, ?_⟩) (by assumption) ?_
          rotate_left
          · intro Wt hSt
            go_simp
            try with_reducible rfl
          try simp only [List.getElem_toArray, List.getElem_cons_zero, List.getElem_cons_succ, Act.put, List.setIfInBounds_toArray, List.set_cons_zero, List.set_cons_succ]
          refine wpAnyH_take (i := 13) (v := ?_) rfl (by kernel_rfl) (by kernel_rfl) (by kernel_rfl) (fun _ _ _ h => h) (Or.inl ⟨by kernel_rfl, ?_⟩) (by assumption) ?_
          rotate_left
          · intro Wt hSt
            go_simp
            try with_reducible rfl
          try simp only [List.getElem_toArray, List.getElem_cons_zero, List.getElem_cons_succ, Act.put, List.setIfInBounds_toArray, List.set_cons_zero, List.set_cons_succ]
          refine wpAnyH_take (i := 14) (v := .agg cd1) rfl (by kernel_rfl) (by kernel_rfl) (by kernel_rfl) (fun _ _ _ h => h) (by rw [unhide HCD1]; exact yieldsIf_load_mid (by kernel_rfl) 24 (.tmp 136) rfl p10 (q10 + j * 32) rfl (d1.map (Value.int .u8)) _ (fun W hS => rangeAt_keep (unhide HQ10) hS) Tryd.underlying24 rfl (by rw [List.length_map, (unhide HG1).len]; exact info32)) (by assumption) ?_
          try simp only [List.getElem_toArray, List.getElem_cons_zero, List.getElem_cons_succ, Act.put, List.setIfInBounds_toArray, List.set_cons_zero, List.set_cons_succ]
          refine wpAnyH_take (i := 15) (v := ?_) rfl (by kernel_rfl) (by kernel_rfl) (by kernel_rfl) (fun _ _ _ h => h) (Or.inl ⟨by kernel_rfl, ?_⟩) (by assumption) ?_
          rotate_left
          · intro Wt hSt
            go_simp
            try with_reducible rfl
          try simp only [List.getElem_toArray, List.getElem_cons_zero, List.getElem_cons_succ, Act.put, List.setIfInBounds_toArray, List.set_cons_zero, List.set_cons_succ]
          refine wpAnyH_take (i := 16) (v := ?_) rfl (by kernel_rfl) (by kernel_rfl) (by kernel_rfl) (fun _ _ _ h => h) (Or.inl ⟨by kernel_rfl, ?_⟩) (by assumption) ?_
          rotate_left
          · intro Wt hSt
            have hct := (show Wt.cell? ⟨N_HS1, 1, none⟩ = some (.slice (some ⟨p11, q11, none⟩) 64 c11) from ((unhide HS1).keep hSt).cell rfl)
            go_simp
            try with_reducible rfl
          try simp only [List.getElem_toArray, List.getElem_cons_zero, List.getElem_cons_succ, Act.put, List.setIfInBounds_toArray, List.set_cons_zero, List.set_cons_succ]
          refine wpAnyH_take (i := 17) (v := ?_) rfl (by kernel_rfl) (by kernel_rfl) (by kernel_rfl) (fun _ _ _ h => h) (Or.inl ⟨by kernel_rfl, ?_⟩) (by assumption) ?_
          rotate_left
          · intro Wt hSt
            go_simp
            try with_reducible rfl
          try simp only [List.getElem_toArray, List.getElem_cons_zero, List.getElem_cons_succ, Act.put, List.setIfInBounds_toArray, List.set_cons_zero, List.set_cons_succ]
          refine wpAnyH_take (i := 18) (v := ?_) rfl (by kernel_rfl) (by kernel_rfl) (by kernel_rfl) (fun _ _ _ h => h) (Or.inl ⟨by kernel_rfl, ?_⟩) (by assumption) ?_
          rotate_left
          · intro Wt hSt
            go_simp
            try with_reducible rfl
          try simp only [List.getElem_toArray, List.getElem_cons_zero, List.getElem_cons_succ, Act.put, List.setIfInBounds_toArray, List.set_cons_zero, List.set_cons_succ]
          refine wpAnyH_take (i := 19) (v := .agg cd1) rfl (by kernel_rfl) (by kernel_rfl) (by kernel_rfl) (fun _ _ _ h => h) (by rw [unhide HCD1]; exact yieldsIf_load_mid (by kernel_rfl) 24 (.tmp 141) rfl p11 (q11 + j * 32) rfl (d1.map (Value.int .u8)) _ (fun W hS => rangeAt_keep (unhide HQ11) hS) Tryd.underlying24 rfl (by rw [List.length_map, (unhide HG1).len]; exact info32)) (by assumption) ?_
          try simp only [List.getElem_toArray, List.getElem_cons_zero, List.getElem_cons_succ, Act.put, List.setIfInBounds_toArray, List.set_cons_zero, List.set_cons_succ]
          refine wpAnyH_take (i := 20) (v := .bool false) rfl (by kernel_rfl) (by kernel_rfl) (by kernel_rfl) (fun _ _ _ h => h) (by refine yieldsIf_neq ?_ (.tmp 137) (.tmp 142) 24 ?_ d1 d1 ?_ ?_ (unhide HG1).len (unhide HG1).len false (neq_same d1); (· kernel_rfl); (· rfl); (· show Value.agg cd1 = _; rw [unhide HCD1]); (· show Value.agg cd1 = _; rw [unhide HCD1])) (by assumption) ?_
          try simp only [List.getElem_toArray, List.getElem_cons_zero, List.getElem_cons_succ, Act.put, List.setIfInBounds_toArray, List.set_cons_zero, List.set_cons_succ]
          refine wpAnyH_take (i := 21) (v := ?_) rfl (by kernel_rfl) (by kernel_rfl) (by kernel_rfl) (fun _ _ _ h => h) (Or.inl ⟨by kernel_rfl, ?_⟩) (by assumption) ?_
          rotate_left
          · intro Wt hSt
            go_simp
            try with_reducible rfl
          try simp only [List.getElem_toArray, List.getElem_cons_zero, List.getElem_cons_succ, Act.put, List.setIfInBounds_toArray, List.set_cons_zero, List.set_cons_succ]
          refine wpAnyH_take (i := 22) (v := ?_) rfl (by kernel_rfl) (by kernel_rfl) (by kernel_rfl) (fun _ _ _ h => h) (Or.inl ⟨by kernel_rfl, ?_⟩) (by assumption) ?_
          rotate_left
          · intro Wt hSt
            go_simp
            try with_reducible rfl
          try simp only [List.getElem_toArray, List.getElem_cons_zero, List.getElem_cons_succ, Act.put, List.setIfInBounds_toArray, List.set_cons_zero, List.set_cons_succ]
          refine wpAnyH_take (i := 23) (v := ?_) rfl (by kernel_rfl) (by kernel_rfl) (by kernel_rfl) (fun _ _ _ h => h) (Or.inl ⟨by kernel_rfl, ?_⟩) (by assumption) ?_
          rotate_left
          · intro Wt hSt
            have hct := (show Wt.cell? ⟨N_HS0, 2, none⟩ = some (.slice (some ⟨p20, q20, none⟩) 64 c20) from ((unhide HS0).keep hSt).cell rfl)
            go_simp
            try with_reducible rfl
          try simp only [List.getElem_toArray, List.getElem_cons_zero, List.getElem_cons_succ, Act.put, List.setIfInBounds_toArray, List.set_cons_zero, List.set_cons_succ]
          refine wpAnyH_take (i := 24) (v := ?_) rfl (by kernel_rfl) (by kernel_rfl) (by kernel_rfl) (fun _ _ _ h => h) (Or.inl ⟨by kernel_rfl, ?_⟩) (by assumption) ?_
          rotate_left
          · intro Wt hSt
            go_simp
            try with_reducible rfl
          try simp only [List.getElem_toArray, List.getElem_cons_zero, List.getElem_cons_succ, Act.put, List.setIfInBounds_toArray, List.set_cons_zero, List.set_cons_succ]
          refine wpAnyH_take (i := 25) (v := ?_) rfl (by kernel_rfl) (by kernel_rfl) (by kernel_rfl) (fun _ _ _ h => h) (Or.inl ⟨by kernel_rfl, ?_⟩) (by assumption) ?_
          rotate_left
          · intro Wt hSt
            go_simp
            try with_reducible rfl
          try simp only [List.getElem_toArray, List.getElem_cons_zero, List.getElem_cons_succ, Act.put, List.setIfInBounds_toArray, List.set_cons_zero, List.set_cons_succ]
          refine wpAnyH_take (i := 26) (v := .agg cd2) rfl (by kernel_rfl) (by kernel_rfl) (by kernel_rfl) (fun _ _ _ h => h) (by rw [unhide HCD2]; exact yieldsIf_load_mid (by kernel_rfl) 24 (.tmp 148) rfl p20 (q20 + j * 32) rfl (d2.map (Value.int .u8)) _ (fun W hS => rangeAt_keep (unhide HQ20) hS) Tryd.underlying24 rfl (by rw [List.length_map, (unhide HG2).len]; exact info32)) (by assumption) ?_
          try simp only [List.getElem_toArray, List.getElem_cons_zero, List.getElem_cons_succ, Act.put, List.setIfInBounds_toArray, List.set_cons_zero, List.set_cons_succ]
          refine wpAnyH_take (i := 27) (v := ?_) rfl (by kernel_rfl) (by kernel_rfl) (by kernel_rfl) (fun _ _ _ h => h) (Or.inl ⟨by kernel_rfl, ?_⟩) (by assumption) ?_
          rotate_left
          · intro Wt hSt
            go_simp
            try with_reducible rfl
          try simp only [List.getElem_toArray, List.getElem_cons_zero, List.getElem_cons_succ, Act.put, List.setIfInBounds_toArray, List.set_cons_zero, List.set_cons_succ]
          refine wpAnyH_take (i := 28) (v := ?_) rfl (by kernel_rfl) (by kernel_rfl) (by kernel_rfl) (fun _ _ _ h => h) (Or.inl ⟨by kernel_rfl, ?_⟩) (by assumption) ?_
          rotate_left
          · intro Wt hSt
            have hct := (show Wt.cell? ⟨N_HS1, 2, none⟩ = some (.slice (some ⟨p21, q21, none⟩) 64 c21) from ((unhide HS1).keep hSt).cell rfl)
            go_simp
            try with_reducible rfl
          try simp only [List.getElem_toArray, List.getElem_cons_zero, List.getElem_cons_succ, Act.put, List.setIfInBounds_toArray, List.set_cons_zero, List.set_cons_succ]
          refine wpAnyH_take (i := 29) (v := ?_) rfl (by kernel_rfl) (by kernel_rfl) (by kernel_rfl) (fun _ _ _ h => h) (Or.inl ⟨by kernel_rfl, ?_⟩) (by assumption) ?_
          rotate_left
          · intro Wt hSt
            go_simp
            try with_reducible rfl
          try simp only [List.getElem_toArray, List.getElem_cons_zero, List.getElem_cons_succ, Act.put, List.setIfInBounds_toArray, List.set_cons_zero, List.set_cons_succ]
          refine wpAnyH_take (i := 30) (v := ?_) rfl (by kernel_rfl) (by kernel_rfl) (by kernel_rfl) (fun _ _ _ h => h) (Or.inl ⟨by kernel_rfl, ?_⟩) (by assumption) ?_
          rotate_left
          · intro Wt hSt
            go_simp
            try with_reducible rfl
          try simp only [List.getElem_toArray, List.getElem_cons_zero, List.getElem_cons_succ, Act.put, List.setIfInBounds_toArray, List.set_cons_zero, List.set_cons_succ]
          refine wpAnyH_take (i := 31) (v := .agg cd2) rfl (by kernel_rfl) (by kernel_rfl) (by kernel_rfl) (fun _ _ _ h => h) (by rw [unhide HCD2]; exact yieldsIf_load_mid (by kernel_rfl) 24 (.tmp 153) rfl p21 (q21 + j * 32) rfl (d2.map (Value.int .u8)) _ (fun W hS => rangeAt_keep (unhide HQ21) hS) Tryd.underlying24 rfl (by rw [List.length_map, (unhide HG2).len]; exact info32)) (by assumption) ?_
          try simp only [List.getElem_toArray, List.getElem_cons_zero, List.getElem_cons_succ, Act.put, List.setIfInBounds_toArray, List.set_cons_zero, List.set_cons_succ]
          refine wpAnyH_take (i := 32) (v := .bool false) rfl (by kernel_rfl) (by kernel_rfl) (by kernel_rfl) (fun _ _ _ h => h) (by refine yieldsIf_neq ?_ (.tmp 149) (.tmp 154) 24 ?_ d2 d2 ?_ ?_ (unhide HG2).len (unhide HG2).len false (neq_same d2); (· kernel_rfl); (· rfl); (· show Value.agg cd2 = _; rw [unhide HCD2]); (· show Value.agg cd2 = _; rw [unhide HCD2])) (by assumption) ?_
          try simp only [List.getElem_toArray, List.getElem_cons_zero, List.getElem_cons_succ, Act.put, List.setIfInBounds_toArray, List.set_cons_zero, List.set_cons_succ]
          refine wpAnyH_take (i := 33) (v := ?_) rfl (by kernel_rfl) (by kernel_rfl) (by kernel_rfl) (fun _ _ _ h => h) (Or.inl ⟨by kernel_rfl, ?_⟩) (by assumption) ?_
          rotate_left
          · intro Wt hSt
            go_simp
            try with_reducible rfl
          try simp only [List.getElem_toArray, List.getElem_cons_zero, List.getElem_cons_succ, Act.put, List.setIfInBounds_toArray, List.set_cons_zero, List.set_cons_succ]
          refine wpAnyH_take (i := 34) (v := ?_) rfl (by kernel_rfl) (by kernel_rfl) (by kernel_rfl) (fun _ _ _ h => h) (Or.inl ⟨by kernel_rfl, ?_⟩) (by assumption) ?_
          rotate_left
          · intro Wt hSt
            go_simp
            try with_reducible rfl
          try simp only [List.getElem_toArray, List.getElem_cons_zero, List.getElem_cons_succ, Act.put, List.setIfInBounds_toArray, List.set_cons_zero, List.set_cons_succ]
          refine wpAnyH_chainOf [] _ _ _ (by kernel_rfl) (by kernel_rfl) ?_
          refine wpChain_nil ?_
          replace HB3 := hide hS
          clear hS HW
          go_wp2_with fail
          obtain ⟨Vb, hW⟩ : ∃ W, W = Va.drewN 1 := ⟨_, rfl⟩
          have HW : Hid (Vb = Va.drewN 1) := hW
          have hS : Below Y3.heap.size Y3 Vb := thenB (unhide HB3) (below_named HW)
          clear hW
          refine held (S := Below Y3.heap.size Y3) Vb HW (by kernel_rfl) ?_
          refine wpAnyH_take (i := 0) (v := ?_) rfl (by kernel_rfl) (by kernel_rfl) (by kernel_rfl) (fun _ _ _ h => h) (Or.inl ⟨by kernel_rfl, ?_⟩) (by assumption) ?_
          rotate_left
          · intro Wt hSt
            go_simp
            try with_reducible rfl
          try simp only [List.getElem_toArray, List.getElem_cons_zero, List.getElem_cons_succ, Act.put, List.setIfInBounds_toArray, List.set_cons_zero, List.set_cons_succ]
          refine wpAnyH_take (i := 1) (v := ?_) rfl (by kernel_rfl) (by kernel_rfl) (by kernel_rfl) (fun _ _ _ h => h) (Or.inl ⟨by kernel_rfl, ?_⟩) (by assumption) ?_
          rotate_left
          · intro Wt hSt
            go_simp
            try with_reducible rfl
          try simp only [List.getElem_toArray, List.getElem_cons_zero, List.getElem_cons_succ, Act.put, List.setIfInBounds_toArray, List.set_cons_zero, List.set_cons_succ]
          refine wpAnyH_take (i := 2) (v := ?_) rfl (by kernel_rfl) (by kernel_rfl) (by kernel_rfl) (fun _ _ _ h => h) (Or.inl ⟨by kernel_rfl, ?_⟩) (by assumption) ?_
          rotate_left
          · intro Wt hSt
            go_simp
            try with_reducible rfl
          try simp only [List.getElem_toArray, List.getElem_cons_zero, List.getElem_cons_succ, Act.put, List.setIfInBounds_toArray, List.set_cons_zero, List.set_cons_succ]
          refine wpAnyH_take (i := 3) (v := ?_) rfl (by kernel_rfl) (by kernel_rfl) (by kernel_rfl) (fun _ _ _ h => h) (Or.inl ⟨by kernel_rfl, ?_⟩) (by assumption) ?_
          rotate_left
          · intro Wt hSt
            have hct := (show Wt.cell? ⟨b1, o1 + j, none⟩ = some (.bool _) from (hSt.cell (p := ⟨b1, o1 + j, none⟩) (lt_of_cell (unhide HXC).1)).trans (unhide HXC).1)
            go_simp
            try with_reducible rfl
          try simp only [List.getElem_toArray, List.getElem_cons_zero, List.getElem_cons_succ, Act.put, List.setIfInBounds_toArray, List.set_cons_zero, List.set_cons_succ]
          refine wpAnyH_take (i := 4) (v := ?_) rfl (by kernel_rfl) (by kernel_rfl) (by kernel_rfl) (fun _ _ _ h => h) (Or.inl ⟨by kernel_rfl, ?_⟩) (by assumption) ?_
          rotate_left
          · intro Wt hSt
            go_simp
            try with_reducible rfl
          try simp only [List.getElem_toArray, List.getElem_cons_zero, List.getElem_cons_succ, Act.put, List.setIfInBounds_toArray, List.set_cons_zero, List.set_cons_succ]
          refine wpAnyH_take (i := 5) (v := ?_) rfl (by kernel_rfl) (by kernel_rfl) (by kernel_rfl) (fun _ _ _ h => h) (Or.inl ⟨by kernel_rfl, ?_⟩) (by assumption) ?_
          rotate_left
          · intro Wt hSt
            go_simp
            try with_reducible rfl
          try simp only [List.getElem_toArray, List.getElem_cons_zero, List.getElem_cons_succ, Act.put, List.setIfInBounds_toArray, List.set_cons_zero, List.set_cons_succ]
          refine wpAnyH_take (i := 6) (v := ?_) rfl (by kernel_rfl) (by kernel_rfl) (by kernel_rfl) (fun _ _ _ h => h) (Or.inl ⟨by kernel_rfl, ?_⟩) (by assumption) ?_
          rotate_left
          · intro Wt hSt
            go_simp
            try with_reducible rfl
          try simp only [List.getElem_toArray, List.getElem_cons_zero, List.getElem_cons_succ, Act.put, List.setIfInBounds_toArray, List.set_cons_zero, List.set_cons_succ]
          refine wpAnyH_take (i := 7) (v := ?_) rfl (by kernel_rfl) (by kernel_rfl) (by kernel_rfl) (fun _ _ _ h => h) (Or.inl ⟨by kernel_rfl, ?_⟩) (by assumption) ?_
          rotate_left
          · intro Wt hSt
            have hct := (show Wt.cell? ⟨b2, o2 + j, none⟩ = some (.bool _) from (hSt.cell (p := ⟨b2, o2 + j, none⟩) (lt_of_cell (unhide HXC).2)).trans (unhide HXC).2)
            go_simp
            try with_reducible rfl
          try simp only [List.getElem_toArray, List.getElem_cons_zero, List.getElem_cons_succ, Act.put, List.setIfInBounds_toArray, List.set_cons_zero, List.set_cons_succ]
          refine wpAnyH_take (i := 8) (v := ?_) rfl (by kernel_rfl) (by kernel_rfl) (by kernel_rfl) (fun _ _ _ h => h) (Or.inl ⟨by kernel_rfl, ?_⟩) (by assumption) ?_
          rotate_left
          · intro Wt hSt
            go_simp
            try with_reducible rfl
          try simp only [List.getElem_toArray, List.getElem_cons_zero, List.getElem_cons_succ, Act.put, List.setIfInBounds_toArray, List.set_cons_zero, List.set_cons_succ]
          refine wpAnyH_take (i := 9) (v := ?_) rfl (by kernel_rfl) (by kernel_rfl) (by kernel_rfl) (fun _ _ _ h => h) (Or.inl ⟨by kernel_rfl, ?_⟩) (by assumption) ?_
          rotate_left
          · intro Wt hSt
            go_simp
            try with_reducible rfl
          try simp only [List.getElem_toArray, List.getElem_cons_zero, List.getElem_cons_succ, Act.put, List.setIfInBounds_toArray, List.set_cons_zero, List.set_cons_succ]
          refine wpAnyH_take (i := 10) (v := undef) rfl (by kernel_rfl) (by kernel_rfl) (by kernel_rfl) (fun _ _ _ h => h) (Or.inr ⟨by kernel_rfl, rfl⟩) (by assumption) ?_
          try simp only [List.getElem_toArray, List.getElem_cons_zero, List.getElem_cons_succ, Act.put, List.setIfInBounds_toArray, List.set_cons_zero, List.set_cons_succ]
          refine wpAnyH_take (i := 11) (v := undef) rfl (by kernel_rfl) (by kernel_rfl) (by kernel_rfl) (fun _ _ _ h => h) (Or.inr ⟨by kernel_rfl, rfl⟩) (by assumption) ?_
          try simp only [List.getElem_toArray, List.getElem_cons_zero, List.getElem_cons_succ, Act.put, List.setIfInBounds_toArray, List.set_cons_zero, List.set_cons_succ]
          refine wpAnyH_take (i := 12) (v := undef) rfl (by kernel_rfl) (by kernel_rfl) (by kernel_rfl) (fun _ _ _ h => h) (Or.inr ⟨by kernel_rfl, rfl⟩) (by assumption) ?_
          try simp only [List.getElem_toArray, List.getElem_cons_zero, List.getElem_cons_succ, Act.put, List.setIfInBounds_toArray, List.set_cons_zero, List.set_cons_succ]
          refine wpAnyH_take (i := 13) (v := undef) rfl (by kernel_rfl) (by kernel_rfl) (by kernel_rfl) (fun _ _ _ h => h) (Or.inr ⟨by kernel_rfl, rfl⟩) (by assumption) ?_
          try simp only [List.getElem_toArray, List.getElem_cons_zero, List.getElem_cons_succ, Act.put, List.setIfInBounds_toArray, List.set_cons_zero, List.set_cons_succ]
          refine wpAnyH_take (i := 14) (v := undef) rfl (by kernel_rfl) (by kernel_rfl) (by kernel_rfl) (fun _ _ _ h => h) (Or.inr ⟨by kernel_rfl, rfl⟩) (by assumption) ?_
          try simp only [List.getElem_toArray, List.getElem_cons_zero, List.getElem_cons_succ, Act.put, List.setIfInBounds_toArray, List.set_cons_zero, List.set_cons_succ]
          refine wpAnyH_take (i := 16) (v := undef) rfl (by kernel_rfl) (by kernel_rfl) (by kernel_rfl) (fun _ _ _ h => h) (Or.inr ⟨by kernel_rfl, rfl⟩) (by assumption) ?_
          try simp only [List.getElem_toArray, List.getElem_cons_zero, List.getElem_cons_succ, Act.put, List.setIfInBounds_toArray, List.set_cons_zero, List.set_cons_succ]
          refine wpAnyH_take (i := 17) (v := undef) rfl (by kernel_rfl) (by kernel_rfl) (by kernel_rfl) (fun _ _ _ h => h) (Or.inr ⟨by kernel_rfl, rfl⟩) (by assumption) ?_
          try simp only [List.getElem_toArray, List.getElem_cons_zero, List.getElem_cons_succ, Act.put, List.setIfInBounds_toArray, List.set_cons_zero, List.set_cons_succ]
          refine wpAnyH_take (i := 18) (v := undef) rfl (by kernel_rfl) (by kernel_rfl) (by kernel_rfl) (fun _ _ _ h => h) (Or.inr ⟨by kernel_rfl, rfl⟩) (by assumption) ?_
          try simp only [List.getElem_toArray, List.getElem_cons_zero, List.getElem_cons_succ, Act.put, List.setIfInBounds_toArray, List.set_cons_zero, List.set_cons_succ]
          refine wpAnyH_take (i := 19) (v := undef) rfl (by kernel_rfl) (by kernel_rfl) (by kernel_rfl) (fun _ _ _ h => h) (Or.inr ⟨by kernel_rfl, rfl⟩) (by assumption) ?_
          try simp only [List.getElem_toArray, List.getElem_cons_zero, List.getElem_cons_succ, Act.put, List.setIfInBounds_toArray, List.set_cons_zero, List.set_cons_succ]
          refine wpAnyH_take (i := 20) (v := undef) rfl (by kernel_rfl) (by kernel_rfl) (by kernel_rfl) (fun _ _ _ h => h) (Or.inr ⟨by kernel_rfl, rfl⟩) (by assumption) ?_
          try simp only [List.getElem_toArray, List.getElem_cons_zero, List.getElem_cons_succ, Act.put, List.setIfInBounds_toArray, List.set_cons_zero, List.set_cons_succ]
          refine wpAnyH_skip 15 _ rfl (by kernel_rfl) (by kernel_rfl) (by assumption) ?_
          try simp only [List.getElem_toArray, List.getElem_cons_zero, List.getElem_cons_succ, Act.put, List.setIfInBounds_toArray, List.set_cons_zero, List.set_cons_succ]
          refine wpAnyH_take (i := 21) (v := undef) rfl (by kernel_rfl) (by kernel_rfl) (by kernel_rfl) (fun _ _ _ h => h) (Or.inr ⟨by kernel_rfl, rfl⟩) (by assumption) ?_
          try simp only [List.getElem_toArray, List.getElem_cons_zero, List.getElem_cons_succ, Act.put, List.setIfInBounds_toArray, List.set_cons_zero, List.set_cons_succ]
          refine wpAnyH_take (i := 22) (v := undef) rfl (by kernel_rfl) (by kernel_rfl) (by kernel_rfl) (fun _ _ _ h => h) (Or.inr ⟨by kernel_rfl, rfl⟩) (by assumption) ?_
          try simp only [List.getElem_toArray, List.getElem_cons_zero, List.getElem_cons_succ, Act.put, List.setIfInBounds_toArray, List.set_cons_zero, List.set_cons_succ]
          refine wpAnyH_take (i := 23) (v := undef) rfl (by kernel_rfl) (by kernel_rfl) (by kernel_rfl) (fun _ _ _ h => h) (Or.inr ⟨by kernel_rfl, rfl⟩) (by assumption) ?_
          try simp only [List.getElem_toArray, List.getElem_cons_zero, List.getElem_cons_succ, Act.put, List.setIfInBounds_toArray, List.set_cons_zero, List.set_cons_succ]
          refine wpAnyH_take (i := 24) (v := undef) rfl (by kernel_rfl) (by kernel_rfl) (by kernel_rfl) (fun _ _ _ h => h) (Or.inr ⟨by kernel_rfl, rfl⟩) (by assumption) ?_
          try simp only [List.getElem_toArray, List.getElem_cons_zero, List.getElem_cons_succ, Act.put, List.setIfInBounds_toArray, List.set_cons_zero, List.set_cons_succ]
          refine wpAnyH_take (i := 25) (v := undef) rfl (by kernel_rfl) (by kernel_rfl) (by kernel_rfl) (fun _ _ _ h => h) (Or.inr ⟨by kernel_rfl, rfl⟩) (by assumption) ?_
          try simp only [List.getElem_toArray, List.getElem_cons_zero, List.getElem_cons_succ, Act.put, List.setIfInBounds_toArray, List.set_cons_zero, List.set_cons_succ]
          refine wpAnyH_take (i := 26) (v := undef) rfl (by kernel_rfl) (by kernel_rfl) (by kernel_rfl) (fun _ _ _ h => h) (Or.inr ⟨by kernel_rfl, rfl⟩) (by assumption) ?_
          try simp only [List.getElem_toArray, List.getElem_cons_zero, List.getElem_cons_succ, Act.put, List.setIfInBounds_toArray, List.set_cons_zero, List.set_cons_succ]
          refine wpAnyH_take (i := 27) (v := undef) rfl (by kernel_rfl) (by kernel_rfl) (by kernel_rfl) (fun _ _ _ h => h) (Or.inr ⟨by kernel_rfl, rfl⟩) (by assumption) ?_
          try simp only [List.getElem_toArray, List.getElem_cons_zero, List.getElem_cons_succ, Act.put, List.setIfInBounds_toArray, List.set_cons_zero, List.set_cons_succ]
          refine wpAnyH_take (i := 29) (v := undef) rfl (by kernel_rfl) (by kernel_rfl) (by kernel_rfl) (fun _ _ _ h => h) (Or.inr ⟨by kernel_rfl, rfl⟩) (by assumption) ?_
          try simp only [List.getElem_toArray, List.getElem_cons_zero, List.getElem_cons_succ, Act.put, List.setIfInBounds_toArray, List.set_cons_zero, List.set_cons_succ]
          refine wpAnyH_take (i := 30) (v := undef) rfl (by kernel_rfl) (by kernel_rfl) (by kernel_rfl) (fun _ _ _ h => h) (Or.inr ⟨by kernel_rfl, rfl⟩) (by assumption) ?_
          try simp only [List.getElem_toArray, List.getElem_cons_zero, List.getElem_cons_succ, Act.put, List.setIfInBounds_toArray, List.set_cons_zero, List.set_cons_succ]
          refine wpAnyH_take (i := 31) (v := undef) rfl (by kernel_rfl) (by kernel_rfl) (by kernel_rfl) (fun _ _ _ h => h) (Or.inr ⟨by kernel_rfl, rfl⟩) (by assumption) ?_
          try simp only [List.getElem_toArray, List.getElem_cons_zero, List.getElem_cons_succ, Act.put, List.setIfInBounds_toArray, List.set_cons_zero, List.set_cons_succ]
          refine wpAnyH_take (i := 32) (v := undef) rfl (by kernel_rfl) (by kernel_rfl) (by kernel_rfl) (fun _ _ _ h => h) (Or.inr ⟨by kernel_rfl, rfl⟩) (by assumption) ?_
          try simp only [List.getElem_toArray, List.getElem_cons_zero, List.getElem_cons_succ, Act.put, List.setIfInBounds_toArray, List.set_cons_zero, List.set_cons_succ]
          refine wpAnyH_take (i := 33) (v := undef) rfl (by kernel_rfl) (by kernel_rfl) (by kernel_rfl) (fun _ _ _ h => h) (Or.inr ⟨by kernel_rfl, rfl⟩) (by assumption) ?_
          try simp only [List.getElem_toArray, List.getElem_cons_zero, List.getElem_cons_succ, Act.put, List.setIfInBounds_toArray, List.set_cons_zero, List.set_cons_succ]
          refine wpAnyH_skip 28 _ rfl (by kernel_rfl) (by kernel_rfl) (by assumption) ?_
          try simp only [List.getElem_toArray, List.getElem_cons_zero, List.getElem_cons_succ, Act.put, List.setIfInBounds_toArray, List.set_cons_zero, List.set_cons_succ]
          refine wpAnyH_take (i := 34) (v := undef) rfl (by kernel_rfl) (by kernel_rfl) (by kernel_rfl) (fun _ _ _ h => h) (Or.inr ⟨by kernel_rfl, rfl⟩) (by assumption) ?_
          try simp only [List.getElem_toArray, List.getElem_cons_zero, List.getElem_cons_succ, Act.put, List.setIfInBounds_toArray, List.set_cons_zero, List.set_cons_succ]
          refine wpAnyH_take (i := 35) (v := undef) rfl (by kernel_rfl) (by kernel_rfl) (by kernel_rfl) (fun _ _ _ h => h) (Or.inr ⟨by kernel_rfl, rfl⟩) (by assumption) ?_
          try simp only [List.getElem_toArray, List.getElem_cons_zero, List.getElem_cons_succ, Act.put, List.setIfInBounds_toArray, List.set_cons_zero, List.set_cons_succ]
          refine wpAnyH_take (i := 36) (v := ?_) rfl (by kernel_rfl) (by kernel_rfl) (by kernel_rfl) (fun _ _ _ h => h) (Or.inl ⟨by kernel_rfl, ?_⟩) (by assumption) ?_
          rotate_left
          · intro Wt hSt
            go_simp
            try with_reducible rfl
          try simp only [List.getElem_toArray, List.getElem_cons_zero, List.getElem_cons_succ, Act.put, List.setIfInBounds_toArray, List.set_cons_zero, List.set_cons_succ]
          refine wpAnyH_chainOf [] _ _ _ (by kernel_rfl) (by kernel_rfl) ?_
          refine wpChain_nil ?_
          replace HB3 := hide hS
          clear hS HW
          go_wp2_with fail
          go_roundg g
          case measure => omega
          case rel => exact ⟨j + 1, by have := unhide HJ; omega, by push_cast; rfl, unhide HB3⟩
      rw [bN_other hxx] at r20
      rw [bN_other (Ne.symm hxx)] at r21
      obtain ⟨d2, hd2⟩ : ∃ d, d = secS (begS seed U) j (bN x2) := ⟨_, rfl⟩
      have HG2 : Hid (Dg d2) := hd2 ▸ dg_secS _ _ _
      rw [← hd1] at r10 r21
      rw [← hd2] at r11 r20
      obtain ⟨v1, hv1⟩ : ∃ d, d = opnS d1 := ⟨_, rfl⟩
      obtain ⟨v2, hv2⟩ : ∃ d, d = opnS d2 := ⟨_, rfl⟩
      have HGV1 : Hid (Dg v1) := hv1 ▸ dg_opnS _
      have HGV2 : Hid (Dg v2) := hv2 ▸ dg_opnS _
      rw [← hv1] at r21
      rw [← hv2] at r20
      obtain ⟨cv1, hcv1⟩ : ∃ cs, cs = (v1.map (Value.int .u8)).toArray := ⟨_, rfl⟩
      obtain ⟨cv2, hcv2⟩ : ∃ cs, cs = (v2.map (Value.int .u8)).toArray := ⟨_, rfl⟩
      have HCV1 := hide hcv1; have HCV2 := hide hcv2; have HV1 := hide hv1; have HV2 := hide hv2
      have HQ10 := hide r10; have HQ20 := hide r20; have HQ11 := hide r11; have HQ21 := hide r21
      clear r10 r20 r11 r21 hcd1 hcv1 hcv2 hd1 hd2 hv1 hv2
      cases x1 <;> cases x2
      case false.false => exact absurd rfl hxx
      case true.true => exact absurd rfl hxx
      all_goals
        clear hxx
        go_wp2_with fail
        obtain ⟨Va, hW⟩ : ∃ W, W = wr.drewN 1 := ⟨_, rfl⟩
        have HW : Hid (Va = wr.drewN 1) := hW
        have hS : Below Y3.heap.size Y3 Va := thenB (unhide HB3) (below_named HW)
        clear hW
        refine held (S := Below Y3.heap.size Y3) Va HW (by kernel_rfl) ?_
        refine wpAnyH_take (i := 0) (v := ?_) rfl (by kernel_rfl) (by kernel_rfl) (by kernel_rfl) (fun _ _ _ h => h) (Or.inl ⟨by kernel_rfl, ?_⟩) (by assumption) ?_
        rotate_left
        · intro Wt hSt
          go_simp
          try with_reducible rfl
        try simp only [List.getElem_toArray, List.getElem_cons_zero, List.getElem_cons_succ, Act.put, List.setIfInBounds_toArray, List.set_cons_zero, List.set_cons_succ]
        refine wpAnyH_take (i := 1) (v := ?_) rfl (by kernel_rfl) (by kernel_rfl) (by kernel_rfl) (fun _ _ _ h => h) (Or.inl ⟨by kernel_rfl, ?_⟩) (by assumption) ?_
        rotate_left
        · intro Wt hSt
          go_simp
          try with_reducible rfl
        try simp only [List.getElem_toArray, List.getElem_cons_zero, List.getElem_cons_succ, Act.put, List.setIfInBounds_toArray, List.set_cons_zero, List.set_cons_succ]
        refine wpAnyH_take (i := 2) (v := ?_) rfl (by kernel_rfl) (by kernel_rfl) (by kernel_rfl) (fun _ _ _ h => h) (Or.inl ⟨by kernel_rfl, ?_⟩) (by assumption) ?_
        rotate_left
        · intro Wt hSt
          go_simp
          try with_reducible rfl
        try simp only [List.getElem_toArray, List.getElem_cons_zero, List.getElem_cons_succ, Act.put, List.setIfInBounds_toArray, List.set_cons_zero, List.set_cons_succ]
        refine wpAnyH_take (i := 3) (v := ?_) rfl (by kernel_rfl) (by kernel_rfl) (by kernel_rfl) (fun _ _ _ h => h) (Or.inl ⟨by kernel_rfl, ?_⟩) (by assumption) ?_
        rotate_left
        · intro Wt hSt
          have hct := (show Wt.cell? ⟨b1, o1 + j, none⟩ = some (.bool _) from (hSt.cell (p := ⟨b1, o1 + j, none⟩) (lt_of_cell (unhide HXC).1)).trans (unhide HXC).1)
          go_simp
          try with_reducible rfl
        try simp only [List.getElem_toArray, List.getElem_cons_zero, List.getElem_cons_succ, Act.put, List.setIfInBounds_toArray, List.set_cons_zero, List.set_cons_succ]
        refine wpAnyH_take (i := 4) (v := ?_) rfl (by kernel_rfl) (by kernel_rfl) (by kernel_rfl) (fun _ _ _ h => h) (Or.inl ⟨by kernel_rfl, ?_⟩) (by assumption) ?_
        rotate_left
        · intro Wt hSt
          go_simp
          try with_reducible rfl
        try simp only [List.getElem_toArray, List.getElem_cons_zero, List.getElem_cons_succ, Act.put, List.setIfInBounds_toArray, List.set_cons_zero, List.set_cons_succ]
        refine wpAnyH_take (i := 5) (v := ?_) rfl (by kernel_rfl) (by kernel_rfl) (by kernel_rfl) (fun _ _ _ h => h) (Or.inl ⟨by kernel_rfl, ?_⟩) (by assumption) ?_
        rotate_left
        · intro Wt hSt
          go_simp
          try with_reducible rfl
        try simp only [List.getElem_toArray, List.getElem_cons_zero, List.getElem_cons_succ, Act.put, List.setIfInBounds_toArray, List.set_cons_zero, List.set_cons_succ]
        refine wpAnyH_take (i := 6) (v := ?_) rfl (by kernel_rfl) (by kernel_rfl) (by kernel_rfl) (fun _ _ _ h => h) (Or.inl ⟨by kernel_rfl, ?_⟩) (by assumption) ?_
        rotate_left
        · intro Wt hSt
          go_simp
          try with_reducible rfl
        try simp only [List.getElem_toArray, List.getElem_cons_zero, List.getElem_cons_succ, Act.put, List.setIfInBounds_toArray, List.set_cons_zero, List.set_cons_succ]
        refine wpAnyH_take (i := 7) (v := ?_) rfl (by kernel_rfl) (by kernel_rfl) (by kernel_rfl) (fun _ _ _ h => h) (Or.inl ⟨by kernel_rfl, ?_⟩) (by assumption) ?_
        rotate_left
        · intro Wt hSt
          have hct := (show Wt.cell? ⟨b2, o2 + j, none⟩ = some (.bool _) from (hSt.cell (p := ⟨b2, o2 + j, none⟩) (lt_of_cell (unhide HXC).2)).trans (unhide HXC).2)
          go_simp
          try with_reducible rfl
        try simp only [List.getElem_toArray, List.getElem_cons_zero, List.getElem_cons_succ, Act.put, List.setIfInBounds_toArray, List.set_cons_zero, List.set_cons_succ]
        refine wpAnyH_take (i := 8) (v := ?_) rfl (by kernel_rfl) (by kernel_rfl) (by kernel_rfl) (fun _ _ _ h => h) (Or.inl ⟨by kernel_rfl, ?_⟩) (by assumption) ?_
        rotate_left
        · intro Wt hSt
          go_simp
          try with_reducible rfl
        try simp only [List.getElem_toArray, List.getElem_cons_zero, List.getElem_cons_succ, Act.put, List.setIfInBounds_toArray, List.set_cons_zero, List.set_cons_succ]
        refine wpAnyH_take (i := 9) (v := ?_) rfl (by kernel_rfl) (by kernel_rfl) (by kernel_rfl) (fun _ _ _ h => h) (Or.inl ⟨by kernel_rfl, ?_⟩) (by assumption) ?_
        rotate_left
        · intro Wt hSt
          go_simp
          try with_reducible rfl
        try simp only [List.getElem_toArray, List.getElem_cons_zero, List.getElem_cons_succ, Act.put, List.setIfInBounds_toArray, List.set_cons_zero, List.set_cons_succ]
        refine wpAnyH_take (i := 10) (v := undef) rfl (by kernel_rfl) (by kernel_rfl) (by kernel_rfl) (fun _ _ _ h => h) (Or.inr ⟨by kernel_rfl, rfl⟩) (by assumption) ?_
        try simp only [List.getElem_toArray, List.getElem_cons_zero, List.getElem_cons_succ, Act.put, List.setIfInBounds_toArray, List.set_cons_zero, List.set_cons_succ]
        refine wpAnyH_take (i := 11) (v := undef) rfl (by kernel_rfl) (by kernel_rfl) (by kernel_rfl) (fun _ _ _ h => h) (Or.inr ⟨by kernel_rfl, rfl⟩) (by assumption) ?_
        try simp only [List.getElem_toArray, List.getElem_cons_zero, List.getElem_cons_succ, Act.put, List.setIfInBounds_toArray, List.set_cons_zero, List.set_cons_succ]
        refine wpAnyH_take (i := 12) (v := undef) rfl (by kernel_rfl) (by kernel_rfl) (by kernel_rfl) (fun _ _ _ h => h) (Or.inr ⟨by kernel_rfl, rfl⟩) (by assumption) ?_
        try simp only [List.getElem_toArray, List.getElem_cons_zero, List.getElem_cons_succ, Act.put, List.setIfInBounds_toArray, List.set_cons_zero, List.set_cons_succ]
        refine wpAnyH_take (i := 13) (v := undef) rfl (by kernel_rfl) (by kernel_rfl) (by kernel_rfl) (fun _ _ _ h => h) (Or.inr ⟨by kernel_rfl, rfl⟩) (by assumption) ?_
        try simp only [List.getElem_toArray, List.getElem_cons_zero, List.getElem_cons_succ, Act.put, List.setIfInBounds_toArray, List.set_cons_zero, List.set_cons_succ]
        refine wpAnyH_take (i := 14) (v := undef) rfl (by kernel_rfl) (by kernel_rfl) (by kernel_rfl) (fun _ _ _ h => h) (Or.inr ⟨by kernel_rfl, rfl⟩) (by assumption) ?_
        try simp only [List.getElem_toArray, List.getElem_cons_zero, List.getElem_cons_succ, Act.put, List.setIfInBounds_toArray, List.set_cons_zero, List.set_cons_succ]
        refine wpAnyH_take (i := 15) (v := undef) rfl (by kernel_rfl) (by kernel_rfl) (by kernel_rfl) (fun _ _ _ h => h) (Or.inr ⟨by kernel_rfl, rfl⟩) (by assumption) ?_
        try simp only [List.getElem_toArray, List.getElem_cons_zero, List.getElem_cons_succ, Act.put, List.setIfInBounds_toArray, List.set_cons_zero, List.set_cons_succ]
        refine wpAnyH_take (i := 16) (v := undef) rfl (by kernel_rfl) (by kernel_rfl) (by kernel_rfl) (fun _ _ _ h => h) (Or.inr ⟨by kernel_rfl, rfl⟩) (by assumption) ?_
        try simp only [List.getElem_toArray, List.getElem_cons_zero, List.getElem_cons_succ, Act.put, List.setIfInBounds_toArray, List.set_cons_zero, List.set_cons_succ]
        refine wpAnyH_take (i := 17) (v := undef) rfl (by kernel_rfl) (by kernel_rfl) (by kernel_rfl) (fun _ _ _ h => h) (Or.inr ⟨by kernel_rfl, rfl⟩) (by assumption) ?_
        try simp only [List.getElem_toArray, List.getElem_cons_zero, List.getElem_cons_succ, Act.put, List.setIfInBounds_toArray, List.set_cons_zero, List.set_cons_succ]
        refine wpAnyH_take (i := 18) (v := undef) rfl (by kernel_rfl) (by kernel_rfl) (by kernel_rfl) (fun _ _ _ h => h) (Or.inr ⟨by kernel_rfl, rfl⟩) (by assumption) ?_
        try simp only [List.getElem_toArray, List.getElem_cons_zero, List.getElem_cons_succ, Act.put, List.setIfInBounds_toArray, List.set_cons_zero, List.set_cons_succ]
        refine wpAnyH_take (i := 19) (v := undef) rfl (by kernel_rfl) (by kernel_rfl) (by kernel_rfl) (fun _ _ _ h => h) (Or.inr ⟨by kernel_rfl, rfl⟩) (by assumption) ?_
        try simp only [List.getElem_toArray, List.getElem_cons_zero, List.getElem_cons_succ, Act.put, List.setIfInBounds_toArray, List.set_cons_zero, List.set_cons_succ]
        refine wpAnyH_take (i := 20) (v := undef) rfl (by kernel_rfl) (by kernel_rfl) (by kernel_rfl) (fun _ _ _ h => h) (Or.inr ⟨by kernel_rfl, rfl⟩) (by assumption) ?_
        try simp only [List.getElem_toArray, List.getElem_cons_zero, List.getElem_cons_succ, Act.put, List.setIfInBounds_toArray, List.set_cons_zero, List.set_cons_succ]
        refine wpAnyH_take (i := 21) (v := undef) rfl (by kernel_rfl) (by kernel_rfl) (by kernel_rfl) (fun _ _ _ h => h) (Or.inr ⟨by kernel_rfl, rfl⟩) (by assumption) ?_
        try simp only [List.getElem_toArray, List.getElem_cons_zero, List.getElem_cons_succ, Act.put, List.setIfInBounds_toArray, List.set_cons_zero, List.set_cons_succ]
        refine wpAnyH_take (i := 22) (v := undef) rfl (by kernel_rfl) (by kernel_rfl) (by kernel_rfl) (fun _ _ _ h => h) (Or.inr ⟨by kernel_rfl, rfl⟩) (by assumption) ?_
        try simp only [List.getElem_toArray, List.getElem_cons_zero, List.getElem_cons_succ, Act.put, List.setIfInBounds_toArray, List.set_cons_zero, List.set_cons_succ]
        refine wpAnyH_take (i := 23) (v := undef) rfl (by kernel_rfl) (by kernel_rfl) (by kernel_rfl) (fun _ _ _ h => h) (Or.inr ⟨by kernel_rfl, rfl⟩) (by assumption) ?_
        try simp only [List.getElem_toArray, List.getElem_cons_zero, List.getElem_cons_succ, Act.put, List.setIfInBounds_toArray, List.set_cons_zero, List.set_cons_succ]
        refine wpAnyH_take (i := 24) (v := undef) rfl (by kernel_rfl) (by kernel_rfl) (by kernel_rfl) (fun _ _ _ h => h) (Or.inr ⟨by kernel_rfl, rfl⟩) (by assumption) ?_
        try simp only [List.getElem_toArray, List.getElem_cons_zero, List.getElem_cons_succ, Act.put, List.setIfInBounds_toArray, List.set_cons_zero, List.set_cons_succ]
        refine wpAnyH_take (i := 25) (v := undef) rfl (by kernel_rfl) (by kernel_rfl) (by kernel_rfl) (fun _ _ _ h => h) (Or.inr ⟨by kernel_rfl, rfl⟩) (by assumption) ?_
        try simp only [List.getElem_toArray, List.getElem_cons_zero, List.getElem_cons_succ, Act.put, List.setIfInBounds_toArray, List.set_cons_zero, List.set_cons_succ]
        refine wpAnyH_take (i := 26) (v := undef) rfl (by kernel_rfl) (by kernel_rfl) (by kernel_rfl) (fun _ _ _ h => h) (Or.inr ⟨by kernel_rfl, rfl⟩) (by assumption) ?_
        try simp only [List.getElem_toArray, List.getElem_cons_zero, List.getElem_cons_succ, Act.put, List.setIfInBounds_toArray, List.set_cons_zero, List.set_cons_succ]
        refine wpAnyH_take (i := 27) (v := undef) rfl (by kernel_rfl) (by kernel_rfl) (by kernel_rfl) (fun _ _ _ h => h) (Or.inr ⟨by kernel_rfl, rfl⟩) (by assumption) ?_
        try simp only [List.getElem_toArray, List.getElem_cons_zero, List.getElem_cons_succ, Act.put, List.setIfInBounds_toArray, List.set_cons_zero, List.set_cons_succ]
        refine wpAnyH_take (i := 28) (v := undef) rfl (by kernel_rfl) (by kernel_rfl) (by kernel_rfl) (fun _ _ _ h => h) (Or.inr ⟨by kernel_rfl, rfl⟩) (by assumption) ?_
        try simp only [List.getElem_toArray, List.getElem_cons_zero, List.getElem_cons_succ, Act.put, List.setIfInBounds_toArray, List.set_cons_zero, List.set_cons_succ]
        refine wpAnyH_take (i := 29) (v := undef) rfl (by kernel_rfl) (by kernel_rfl) (by kernel_rfl) (fun _ _ _ h => h) (Or.inr ⟨by kernel_rfl, rfl⟩) (by assumption) ?_
        try simp only [List.getElem_toArray, List.getElem_cons_zero, List.getElem_cons_succ, Act.put, List.setIfInBounds_toArray, List.set_cons_zero, List.set_cons_succ]
        refine wpAnyH_take (i := 30) (v := undef) rfl (by kernel_rfl) (by kernel_rfl) (by kernel_rfl) (fun _ _ _ h => h) (Or.inr ⟨by kernel_rfl, rfl⟩) (by assumption) ?_
        try simp only [List.getElem_toArray, List.getElem_cons_zero, List.getElem_cons_succ, Act.put, List.setIfInBounds_toArray, List.set_cons_zero, List.set_cons_succ]
        refine wpAnyH_take (i := 31) (v := undef) rfl (by kernel_rfl) (by kernel_rfl) (by kernel_rfl) (fun _ _ _ h => h) (Or.inr ⟨by kernel_rfl, rfl⟩) (by assumption) ?_
        try simp only [List.getElem_toArray, List.getElem_cons_zero, List.getElem_cons_succ, Act.put, List.setIfInBounds_toArray, List.set_cons_zero, List.set_cons_succ]
        refine wpAnyH_take (i := 32) (v := undef) rfl (by kernel_rfl) (by kernel_rfl) (by kernel_rfl) (fun _ _ _ h => h) (Or.inr ⟨by kernel_rfl, rfl⟩) (by assumption) ?_
        try simp only [List.getElem_toArray, List.getElem_cons_zero, List.getElem_cons_succ, Act.put, List.setIfInBounds_toArray, List.set_cons_zero, List.set_cons_succ]
        refine wpAnyH_take (i := 33) (v := undef) rfl (by kernel_rfl) (by kernel_rfl) (by kernel_rfl) (fun _ _ _ h => h) (Or.inr ⟨by kernel_rfl, rfl⟩) (by assumption) ?_
        try simp only [List.getElem_toArray, List.getElem_cons_zero, List.getElem_cons_succ, Act.put, List.setIfInBounds_toArray, List.set_cons_zero, List.set_cons_succ]
        refine wpAnyH_take (i := 34) (v := ?_) rfl (by kernel_rfl) (by kernel_rfl) (by kernel_rfl) (fun _ _ _ h => h) (Or.inl ⟨by kernel_rfl, ?_⟩) (by assumption) ?_
        rotate_left
        · intro Wt hSt
          go_simp
          try with_reducible rfl
        try simp only [List.getElem_toArray, List.getElem_cons_zero, List.getElem_cons_succ, Act.put, List.setIfInBounds_toArray, List.set_cons_zero, List.set_cons_succ]
        refine wpAnyH_chainOf [] _ _ _ (by kernel_rfl) (by kernel_rfl) ?_
        refine wpChain_nil ?_
        replace HB3 := hide hS
        clear hS HW
        go_wp2_with fail
        obtain ⟨Vb, hW⟩ : ∃ W, W = Va.drewN 1 := ⟨_, rfl⟩
        have HW : Hid (Vb = Va.drewN 1) := hW
        have hS : Below Y3.heap.size Y3 Vb := thenB (unhide HB3) (below_named HW)
        clear hW
        refine held (S := Below Y3.heap.size Y3) Vb HW (by kernel_rfl) ?_
        refine wpAnyH_take (i := 0) (v := ?_) rfl (by kernel_rfl) (by kernel_rfl) (by kernel_rfl) (fun _ _ _ h => h) (Or.inl ⟨by kernel_rfl, ?_⟩) (by assumption) ?_
        rotate_left
        · intro Wt hSt
          go_simp
          try with_reducible rfl
        try simp only [List.getElem_toArray, List.getElem_cons_zero, List.getElem_cons_succ, Act.put, List.setIfInBounds_toArray, List.set_cons_zero, List.set_cons_succ]
        refine wpAnyH_take (i := 1) (v := ?_) rfl (by kernel_rfl) (by kernel_rfl) (by kernel_rfl) (fun _ _ _ h => h) (Or.inl ⟨by kernel_rfl, ?_⟩) (by assumption) ?_
        rotate_left
        · intro Wt hSt
          go_simp
          try with_reducible rfl
        try simp only [List.getElem_toArray, List.getElem_cons_zero, List.getElem_cons_succ, Act.put, List.setIfInBounds_toArray, List.set_cons_zero, List.set_cons_succ]
        refine wpAnyH_take (i := 2) (v := ?_) rfl (by kernel_rfl) (by kernel_rfl) (by kernel_rfl) (fun _ _ _ h => h) (Or.inl ⟨by kernel_rfl, ?_⟩) (by assumption) ?_
        rotate_left
        · intro Wt hSt
          go_simp
          try with_reducible rfl
        try simp only [List.getElem_toArray, List.getElem_cons_zero, List.getElem_cons_succ, Act.put, List.setIfInBounds_toArray, List.set_cons_zero, List.set_cons_succ]
        refine wpAnyH_take (i := 3) (v := ?_) rfl (by kernel_rfl) (by kernel_rfl) (by kernel_rfl) (fun _ _ _ h => h) (Or.inl ⟨by kernel_rfl, ?_⟩) (by assumption) ?_
        rotate_left
        · intro Wt hSt
          have hct := (show Wt.cell? ⟨b1, o1 + j, none⟩ = some (.bool _) from (hSt.cell (p := ⟨b1, o1 + j, none⟩) (lt_of_cell (unhide HXC).1)).trans (unhide HXC).1)
          go_simp
          try with_reducible rfl
        try simp only [List.getElem_toArray, List.getElem_cons_zero, List.getElem_cons_succ, Act.put, List.setIfInBounds_toArray, List.set_cons_zero, List.set_cons_succ]
        refine wpAnyH_take (i := 4) (v := ?_) rfl (by kernel_rfl) (by kernel_rfl) (by kernel_rfl) (fun _ _ _ h => h) (Or.inl ⟨by kernel_rfl, ?_⟩) (by assumption) ?_
        rotate_left
        · intro Wt hSt
          go_simp
          try with_reducible rfl
        try simp only [List.getElem_toArray, List.getElem_cons_zero, List.getElem_cons_succ, Act.put, List.setIfInBounds_toArray, List.set_cons_zero, List.set_cons_succ]
        refine wpAnyH_take (i := 5) (v := ?_) rfl (by kernel_rfl) (by kernel_rfl) (by kernel_rfl) (fun _ _ _ h => h) (Or.inl ⟨by kernel_rfl, ?_⟩) (by assumption) ?_
        rotate_left
        · intro Wt hSt
          go_simp
          try with_reducible rfl
        try simp only [List.getElem_toArray, List.getElem_cons_zero, List.getElem_cons_succ, Act.put, List.setIfInBounds_toArray, List.set_cons_zero, List.set_cons_succ]
        refine wpAnyH_take (i := 6) (v := ?_) rfl (by kernel_rfl) (by kernel_rfl) (by kernel_rfl) (fun _ _ _ h => h) (Or.inl ⟨by kernel_rfl, ?_⟩) (by assumption) ?_
        rotate_left
        · intro Wt hSt
          go_simp
          try with_reducible rfl
        try simp only [List.getElem_toArray, List.getElem_cons_zero, List.getElem_cons_succ, Act.put, List.setIfInBounds_toArray, List.set_cons_zero, List.set_cons_succ]
        refine wpAnyH_take (i := 7) (v := ?_) rfl (by kernel_rfl) (by kernel_rfl) (by kernel_rfl) (fun _ _ _ h => h) (Or.inl ⟨by kernel_rfl, ?_⟩) (by assumption) ?_
        rotate_left
        · intro Wt hSt
          have hct := (show Wt.cell? ⟨b2, o2 + j, none⟩ = some (.bool _) from (hSt.cell (p := ⟨b2, o2 + j, none⟩) (lt_of_cell (unhide HXC).2)).trans (unhide HXC).2)
          go_simp
          try with_reducible rfl
        try simp only [List.getElem_toArray, List.getElem_cons_zero, List.getElem_cons_succ, Act.put, List.setIfInBounds_toArray, List.set_cons_zero, List.set_cons_succ]
        refine wpAnyH_take (i := 8) (v := ?_) rfl (by kernel_rfl) (by kernel_rfl) (by kernel_rfl) (fun _ _ _ h => h) (Or.inl ⟨by kernel_rfl, ?_⟩) (by assumption) ?_
        rotate_left
        · intro Wt hSt
          go_simp
          try with_reducible rfl
        try simp only [List.getElem_toArray, List.getElem_cons_zero, List.getElem_cons_succ, Act.put, List.setIfInBounds_toArray, List.set_cons_zero, List.set_cons_succ]
        refine wpAnyH_take (i := 9) (v := ?_) rfl (by kernel_rfl) (by kernel_rfl) (by kernel_rfl) (fun _ _ _ h => h) (Or.inl ⟨by kernel_rfl, ?_⟩) (by assumption) ?_
        rotate_left
        · intro Wt hSt
          go_simp
          try with_reducible rfl
        try simp only [List.getElem_toArray, List.getElem_cons_zero, List.getElem_cons_succ, Act.put, List.setIfInBounds_toArray, List.set_cons_zero, List.set_cons_succ]
        refine wpAnyH_take (i := 10) (v := ?_) rfl (by kernel_rfl) (by kernel_rfl) (by kernel_rfl) (fun _ _ _ h => h) (Or.inl ⟨by kernel_rfl, ?_⟩) (by assumption) ?_
        rotate_left
        · intro Wt hSt
          go_simp
          try with_reducible rfl
        try simp only [List.getElem_toArray, List.getElem_cons_zero, List.getElem_cons_succ, Act.put, List.setIfInBounds_toArray, List.set_cons_zero, List.set_cons_succ]
        refine wpAnyH_take (i := 11) (v := ?_) rfl (by kernel_rfl) (by kernel_rfl) (by kernel_rfl) (fun _ _ _ h => h) (Or.inl ⟨by kernel_rfl, ?_⟩) (by assumption) ?_
        rotate_left
        · intro Wt hSt
          have hct := (show Wt.cell? ⟨N_HS0, 1, none⟩ = some (.slice (some ⟨p10, q10, none⟩) 64 c10) from ((unhide HS0).keep hSt).cell rfl)
          go_simp
          try with_reducible rfl
        try simp only [List.getElem_toArray, List.getElem_cons_zero, List.getElem_cons_succ, Act.put, List.setIfInBounds_toArray, List.set_cons_zero, List.set_cons_succ]
        refine wpAnyH_take (i := 12) (v := ?_) rfl (by kernel_rfl) (by kernel_rfl) (by kernel_rfl) (fun _ _ _ h => h) (Or.inl ⟨by kernel_rfl, ?_⟩) (by assumption) ?_
        rotate_left
        · intro Wt hSt
          go_simp
          try with_reducible rfl
        try simp only [List.getElem_toArray, List.getElem_cons_zero, List.getElem_cons_succ, Act.put, List.setIfInBounds_toArray, List.set_cons_zero, List.set_cons_succ]
        refine wpAnyH_take (i := 13) (v := ?_) rfl (by kernel_rfl) (by kernel_rfl) (by kernel_rfl) (fun _ _ _ h => h) (Or.inl ⟨by kernel_rfl, ?_⟩) (by assumption) ?_
        rotate_left
        · intro Wt hSt
          go_simp
          try with_reducible rfl
        try simp only [List.getElem_toArray, List.getElem_cons_zero, List.getElem_cons_succ, Act.put, List.setIfInBounds_toArray, List.set_cons_zero, List.set_cons_succ]
        refine wpAnyH_take (i := 14) (v := ?_) rfl (by kernel_rfl) (by kernel_rfl) (by kernel_rfl) (fun _ _ _ h => h) (Or.inl ⟨by kernel_rfl, ?_⟩) (by assumption) ?_
        rotate_left
        · intro Wt hSt
          go_simp
          try with_reducible rfl
        try simp only [List.getElem_toArray, List.getElem_cons_zero, List.getElem_cons_succ, Act.put, List.setIfInBounds_toArray, List.set_cons_zero, List.set_cons_succ]
        refine wpAnyH_take (i := 16) (v := ?_) rfl (by kernel_rfl) (by kernel_rfl) (by kernel_rfl) (fun _ _ _ h => h) (Or.inl ⟨by kernel_rfl, ?_⟩) (by assumption) ?_
        rotate_left
        · intro Wt hSt
          go_simp
          try with_reducible rfl
        try simp only [List.getElem_toArray, List.getElem_cons_zero, List.getElem_cons_succ, Act.put, List.setIfInBounds_toArray, List.set_cons_zero, List.set_cons_succ]
        refine wpAnyH_take (i := 17) (v := ?_) rfl (by kernel_rfl) (by kernel_rfl) (by kernel_rfl) (fun _ _ _ h => h) (Or.inl ⟨by kernel_rfl, ?_⟩) (by assumption) ?_
        rotate_left
        · intro Wt hSt
          have hct := (show Wt.cell? ⟨N_HS1, 2, none⟩ = some (.slice (some ⟨p21, q21, none⟩) 64 c21) from ((unhide HS1).keep hSt).cell rfl)
          go_simp
          try with_reducible rfl
        try simp only [List.getElem_toArray, List.getElem_cons_zero, List.getElem_cons_succ, Act.put, List.setIfInBounds_toArray, List.set_cons_zero, List.set_cons_succ]
        refine wpAnyH_take (i := 18) (v := ?_) rfl (by kernel_rfl) (by kernel_rfl) (by kernel_rfl) (fun _ _ _ h => h) (Or.inl ⟨by kernel_rfl, ?_⟩) (by assumption) ?_
        rotate_left
        · intro Wt hSt
          go_simp
          try with_reducible rfl
        try simp only [List.getElem_toArray, List.getElem_cons_zero, List.getElem_cons_succ, Act.put, List.setIfInBounds_toArray, List.set_cons_zero, List.set_cons_succ]
        refine wpAnyH_take (i := 19) (v := ?_) rfl (by kernel_rfl) (by kernel_rfl) (by kernel_rfl) (fun _ _ _ h => h) (Or.inl ⟨by kernel_rfl, ?_⟩) (by assumption) ?_
        rotate_left
        · intro Wt hSt
          go_simp
          try with_reducible rfl
        try simp only [List.getElem_toArray, List.getElem_cons_zero, List.getElem_cons_succ, Act.put, List.setIfInBounds_toArray, List.set_cons_zero, List.set_cons_succ]
        refine wpAnyH_take (i := 20) (v := .agg cv1) rfl (by kernel_rfl) (by kernel_rfl) (by kernel_rfl) (fun _ _ _ h => h) (by rw [unhide HCV1]; exact yieldsIf_load_mid (by kernel_rfl) 24 (.tmp 177) rfl p21 (q21 + j * 32) rfl (v1.map (Value.int .u8)) _ (fun W hS => rangeAt_keep (unhide HQ21) hS) Tryd.underlying24 rfl (by rw [List.length_map, (unhide HGV1).len]; exact info32)) (by assumption) ?_
        try simp only [List.getElem_toArray, List.getElem_cons_zero, List.getElem_cons_succ, Act.put, List.setIfInBounds_toArray, List.set_cons_zero, List.set_cons_succ]
        refine wpAnyH_one 15 _ rfl (by kernel_rfl) (by kernel_rfl) ?_
        intro K hK
        have ht : Bt Vb (some ⟨p10, q10 + j * 32, none⟩) d1 := ⟨(unhide HG1).byt, fun _ => ⟨p10, q10 + j * 32, rfl, fun i hi => (rangeAt_keep (unhide HQ10) hS) i _ (by rw [List.getElem?_map, List.getD_eq_getElem?_getD, List.getElem?_eq_getElem hi]; rfl)⟩⟩
        have htg := tagged_any Vb ⟨#[111, 112, 101, 110]⟩ (some ⟨p10, q10 + j * 32, none⟩) 32 d1 ht (Nat.le_of_eq (unhide HG1).len) ((unhide HT).keep hS)
        rw [show sb ⟨#[111, 112, 101, 110]⟩ = OPNB by decide, show tagF OPNB d1 = opnS d1 from rfl, (unhide HG1).len, ← unhide HV1, show dv v1 = .agg cv1 by rw [unhide HCV1]] at htg
        clear ht
        go_simp
        refine htg.mono ?_; rintro x Vc ⟨rfl, hb⟩
        replace hS := thenB hS hb
        dsimp only
        refine hK _ _ hS ?_
        clear hK K htg hb
        try simp only [List.getElem_toArray, List.getElem_cons_zero, List.getElem_cons_succ, Act.put, List.setIfInBounds_toArray, List.set_cons_zero, List.set_cons_succ]
        refine wpAnyH_take (i := 21) (v := .bool false) rfl (by kernel_rfl) (by kernel_rfl) (by kernel_rfl) (fun _ _ _ h => h) (by refine yieldsIf_neq ?_ (.tmp 173) (.tmp 178) 24 ?_ v1 v1 ?_ ?_ (unhide HGV1).len (unhide HGV1).len false (neq_same v1); (· kernel_rfl); (· rfl); (· show Value.agg cv1 = _; rw [unhide HCV1]); (· show Value.agg cv1 = _; rw [unhide HCV1])) (by assumption) ?_
        try simp only [List.getElem_toArray, List.getElem_cons_zero, List.getElem_cons_succ, Act.put, List.setIfInBounds_toArray, List.set_cons_zero, List.set_cons_succ]
        refine wpAnyH_take (i := 22) (v := ?_) rfl (by kernel_rfl) (by kernel_rfl) (by kernel_rfl) (fun _ _ _ h => h) (Or.inl ⟨by kernel_rfl, ?_⟩) (by assumption) ?_
        rotate_left
        · intro Wt hSt
          go_simp
          try with_reducible rfl
        try simp only [List.getElem_toArray, List.getElem_cons_zero, List.getElem_cons_succ, Act.put, List.setIfInBounds_toArray, List.set_cons_zero, List.set_cons_succ]
        refine wpAnyH_take (i := 23) (v := ?_) rfl (by kernel_rfl) (by kernel_rfl) (by kernel_rfl) (fun _ _ _ h => h) (Or.inl ⟨by kernel_rfl, ?_⟩) (by assumption) ?_
        rotate_left
        · intro Wt hSt
          go_simp
          try with_reducible rfl
        try simp only [List.getElem_toArray, List.getElem_cons_zero, List.getElem_cons_succ, Act.put, List.setIfInBounds_toArray, List.set_cons_zero, List.set_cons_succ]
        refine wpAnyH_take (i := 24) (v := ?_) rfl (by kernel_rfl) (by kernel_rfl) (by kernel_rfl) (fun _ _ _ h => h) (Or.inl ⟨by kernel_rfl, ?_⟩) (by assumption) ?_
        rotate_left
        · intro Wt hSt
          have hct := (show Wt.cell? ⟨N_HS1, 1, none⟩ = some (.slice (some ⟨p11, q11, none⟩) 64 c11) from ((unhide HS1).keep hSt).cell rfl)
          go_simp
          try with_reducible rfl
        try simp only [List.getElem_toArray, List.getElem_cons_zero, List.getElem_cons_succ, Act.put, List.setIfInBounds_toArray, List.set_cons_zero, List.set_cons_succ]
        refine wpAnyH_take (i := 25) (v := ?_) rfl (by kernel_rfl) (by kernel_rfl) (by kernel_rfl) (fun _ _ _ h => h) (Or.inl ⟨by kernel_rfl, ?_⟩) (by assumption) ?_
        rotate_left
        · intro Wt hSt
          go_simp
          try with_reducible rfl
        try simp only [List.getElem_toArray, List.getElem_cons_zero, List.getElem_cons_succ, Act.put, List.setIfInBounds_toArray, List.set_cons_zero, List.set_cons_succ]
        refine wpAnyH_take (i := 26) (v := ?_) rfl (by kernel_rfl) (by kernel_rfl) (by kernel_rfl) (fun _ _ _ h => h) (Or.inl ⟨by kernel_rfl, ?_⟩) (by assumption) ?_
        rotate_left
        · intro Wt hSt
          go_simp
          try with_reducible rfl
        try simp only [List.getElem_toArray, List.getElem_cons_zero, List.getElem_cons_succ, Act.put, List.setIfInBounds_toArray, List.set_cons_zero, List.set_cons_succ]
        refine wpAnyH_take (i := 27) (v := ?_) rfl (by kernel_rfl) (by kernel_rfl) (by kernel_rfl) (fun _ _ _ h => h) (Or.inl ⟨by kernel_rfl, ?_⟩) (by assumption) ?_
        rotate_left
        · intro Wt hSt
          go_simp
          try with_reducible rfl
        try simp only [List.getElem_toArray, List.getElem_cons_zero, List.getElem_cons_succ, Act.put, List.setIfInBounds_toArray, List.set_cons_zero, List.set_cons_succ]
        refine wpAnyH_take (i := 29) (v := ?_) rfl (by kernel_rfl) (by kernel_rfl) (by kernel_rfl) (fun _ _ _ h => h) (Or.inl ⟨by kernel_rfl, ?_⟩) (by assumption) ?_
        rotate_left
        · intro Wt hSt
          go_simp
          try with_reducible rfl
        try simp only [List.getElem_toArray, List.getElem_cons_zero, List.getElem_cons_succ, Act.put, List.setIfInBounds_toArray, List.set_cons_zero, List.set_cons_succ]
        refine wpAnyH_take (i := 30) (v := ?_) rfl (by kernel_rfl) (by kernel_rfl) (by kernel_rfl) (fun _ _ _ h => h) (Or.inl ⟨by kernel_rfl, ?_⟩) (by assumption) ?_
        rotate_left
        · intro Wt hSt
          have hct := (show Wt.cell? ⟨N_HS0, 2, none⟩ = some (.slice (some ⟨p20, q20, none⟩) 64 c20) from ((unhide HS0).keep hSt).cell rfl)
          go_simp
          try with_reducible rfl
        try simp only [List.getElem_toArray, List.getElem_cons_zero, List.getElem_cons_succ, Act.put, List.setIfInBounds_toArray, List.set_cons_zero, List.set_cons_succ]
        refine wpAnyH_take (i := 31) (v := ?_) rfl (by kernel_rfl) (by kernel_rfl) (by kernel_rfl) (fun _ _ _ h => h) (Or.inl ⟨by kernel_rfl, ?_⟩) (by assumption) ?_
        rotate_left
        · intro Wt hSt
          go_simp
          try with_reducible rfl
        try simp only [List.getElem_toArray, List.getElem_cons_zero, List.getElem_cons_succ, Act.put, List.setIfInBounds_toArray, List.set_cons_zero, List.set_cons_succ]
        refine wpAnyH_take (i := 32) (v := ?_) rfl (by kernel_rfl) (by kernel_rfl) (by kernel_rfl) (fun _ _ _ h => h) (Or.inl ⟨by kernel_rfl, ?_⟩) (by assumption) ?_
        rotate_left
        · intro Wt hSt
          go_simp
          try with_reducible rfl
        try simp only [List.getElem_toArray, List.getElem_cons_zero, List.getElem_cons_succ, Act.put, List.setIfInBounds_toArray, List.set_cons_zero, List.set_cons_succ]
        refine wpAnyH_take (i := 33) (v := .agg cv2) rfl (by kernel_rfl) (by kernel_rfl) (by kernel_rfl) (fun _ _ _ h => h) (by rw [unhide HCV2]; exact yieldsIf_load_mid (by kernel_rfl) 24 (.tmp 190) rfl p20 (q20 + j * 32) rfl (v2.map (Value.int .u8)) _ (fun W hS => rangeAt_keep (unhide HQ20) hS) Tryd.underlying24 rfl (by rw [List.length_map, (unhide HGV2).len]; exact info32)) (by assumption) ?_
        try simp only [List.getElem_toArray, List.getElem_cons_zero, List.getElem_cons_succ, Act.put, List.setIfInBounds_toArray, List.set_cons_zero, List.set_cons_succ]
        refine wpAnyH_one 28 _ rfl (by kernel_rfl) (by kernel_rfl) ?_
        intro K hK
        have ht : Bt Vc (some ⟨p11, q11 + j * 32, none⟩) d2 := ⟨(unhide HG2).byt, fun _ => ⟨p11, q11 + j * 32, rfl, fun i hi => (rangeAt_keep (unhide HQ11) hS) i _ (by rw [List.getElem?_map, List.getD_eq_getElem?_getD, List.getElem?_eq_getElem hi]; rfl)⟩⟩
        have htg := tagged_any Vc ⟨#[111, 112, 101, 110]⟩ (some ⟨p11, q11 + j * 32, none⟩) 32 d2 ht (Nat.le_of_eq (unhide HG2).len) ((unhide HT).keep hS)
        rw [show sb ⟨#[111, 112, 101, 110]⟩ = OPNB by decide, show tagF OPNB d2 = opnS d2 from rfl, (unhide HG2).len, ← unhide HV2, show dv v2 = .agg cv2 by rw [unhide HCV2]] at htg
        clear ht
        go_simp
        refine htg.mono ?_; rintro x Vd ⟨rfl, hb⟩
        replace hS := thenB hS hb
        dsimp only
        refine hK _ _ hS ?_
        clear hK K htg hb
        try simp only [List.getElem_toArray, List.getElem_cons_zero, List.getElem_cons_succ, Act.put, List.setIfInBounds_toArray, List.set_cons_zero, List.set_cons_succ]
        refine wpAnyH_take (i := 34) (v := .bool false) rfl (by kernel_rfl) (by kernel_rfl) (by kernel_rfl) (fun _ _ _ h => h) (by refine yieldsIf_neq ?_ (.tmp 186) (.tmp 191) 24 ?_ v2 v2 ?_ ?_ (unhide HGV2).len (unhide HGV2).len false (neq_same v2); (· kernel_rfl); (· rfl); (· show Value.agg cv2 = _; rw [unhide HCV2]); (· show Value.agg cv2 = _; rw [unhide HCV2])) (by assumption) ?_
        try simp only [List.getElem_toArray, List.getElem_cons_zero, List.getElem_cons_succ, Act.put, List.setIfInBounds_toArray, List.set_cons_zero, List.set_cons_succ]
        refine wpAnyH_take (i := 35) (v := ?_) rfl (by kernel_rfl) (by kernel_rfl) (by kernel_rfl) (fun _ _ _ h => h) (Or.inl ⟨by kernel_rfl, ?_⟩) (by assumption) ?_
        rotate_left
        · intro Wt hSt
          go_simp
          try with_reducible rfl
        try simp only [List.getElem_toArray, List.getElem_cons_zero, List.getElem_cons_succ, Act.put, List.setIfInBounds_toArray, List.set_cons_zero, List.set_cons_succ]
        refine wpAnyH_take (i := 36) (v := ?_) rfl (by kernel_rfl) (by kernel_rfl) (by kernel_rfl) (fun _ _ _ h => h) (Or.inl ⟨by kernel_rfl, ?_⟩) (by assumption) ?_
        rotate_left
        · intro Wt hSt
          go_simp
          try with_reducible rfl
        try simp only [List.getElem_toArray, List.getElem_cons_zero, List.getElem_cons_succ, Act.put, List.setIfInBounds_toArray, List.set_cons_zero, List.set_cons_succ]
        refine wpAnyH_chainOf [] _ _ _ (by kernel_rfl) (by kernel_rfl) ?_
        refine wpChain_nil ?_
        replace HB3 := hide hS
        clear hS HW
        go_wp2_with fail
        go_roundg g
        case measure => omega
        case rel => exact ⟨j + 1, by have := unhide HJ; omega, by push_cast; rfl, unhide HB3⟩
end Go.Proofs.YtninjgplgoimeaaDoor
