/- Contracts over the program of signing: Sign. -/
import Derived.Test.YtceppmajbkmbdaaDoorSigM2
import Derived.Test.YtceppmajbkmbdaaDoorDigTwo
import Derived.Deep.DeepCutAuto
namespace Go.Proofs.YtceppmajbkmbdaaDoor
set_option linter.unusedSimpArgs false
set_option linter.unusedVariables false
open Go.RowKit

set_option linter.unusedVariables false

/-- a signature is returned, and the key with one signature less -/
def SignIs (w : World) (A : Option Addr) (n c : Nat) (seed : List Int) (many used : Nat) (msg : List Int) (x : Ending) (w' : World) : Prop :=
  ∃ A1 c1 A2 c2 A3 c3, x = .returned (.tuple #[keyV A n c (many : Int) ((used + 1 : Nat) : Int), sigV (used : Int) A1 64 c1 A2 64 c2 A3 (pathP (pubsS seed many) used).length c3, .int .i64 0]) ∧
    Sg64 w' A1 c1 (openedS seed used (bitsS (treeP (pubsS seed many)) used msg) 64) ∧ Sg64 w' A2 c2 (closedS seed used (bitsS (treeP (pubsS seed many)) used msg) 64) ∧
    (pathP (pubsS seed many) used).length ≤ c3 ∧ Ds w' A3 (pathP (pubsS seed many) used) ∧ (A3 = none → c3 = 0) ∧ Below w.heap.size w w'
set_option maxRecDepth 100000 in
set_option maxHeartbeats 8000000 in
theorem Sign_ok (w : World) (A : Option Addr) (n c : Nat) (seed : List Int) (hn : n = seed.length) (hc : n ≤ c) (hA : Bt w A seed) (many used : Nat) (hk : keyOk n (many : Int) (used : Int) = true) (hu : used < many)
    (Am : Option Addr) (nm cm : Nat) (msg : List Int) (hnm : nm = msg.length) (hcm : nm ≤ cm) (hAm : Bt w Am msg) (hAm0 : Am = none → cm = 0) (h65 : nm ≤ 65536) (hT : DTab w) :
    Calls Tryd.prog 37 #[keyV A n c (many : Int) (used : Int), .slice Am nm cm] w (SignIs w A n c seed many used msg) := by
  have hk' := hk
  unfold keyOk at hk'
  rw [decide_eq_true_eq] at hk'
  have HT := hide hT; have HA := hide hA; have HM := hide hAm
  have HN : Hid (n = seed.length ∧ 1 ≤ n ∧ n ≤ 1000 ∧ n ≤ c ∧ 1 ≤ many ∧ many ≤ 4096 ∧ used < many) := ⟨hn, by omega, by omega, hc, by omega, by omega, hu⟩
  have HNM : Hid (nm = msg.length ∧ nm ≤ cm ∧ (Am = none → cm = 0) ∧ nm ≤ 65536) := ⟨hnm, hcm, hAm0, h65⟩
  have hik := fun W => isKey_any A n c (many : Int) (used : Int) W
  rw [hk] at hik
  have hpk := fun W (hb : Below w.heap.size w W) => publicKeys_any W A n c seed hn (by omega) (by omega) hc (hA.keep hb) many (by omega) (used : Int) (hT.keep hb)
  have n65 : ¬ (65536 : Int) < (nm : Int) := by omega
  have num : ¬ (used : Int) = (many : Int) := by omega
  obtain ⟨u1, hu1⟩ : ∃ u, u = used + 1 := ⟨_, rfl⟩
  have HU1 := hide hu1
  have wu : IntKind.i64.wrap ((used : Int) + 1) = (u1 : Int) := (IntWalk.i64_in _ (by omega)).trans (by omega)
  unfold keyV at hik hpk ⊢
  have HIK := hide hik; have HPK := hide hpk; have HWU := hide wu
  obtain ⟨PP, hPP⟩ : ∃ l, l = pubsS seed many := ⟨_, rfl⟩
  obtain ⟨T, hTT⟩ : ∃ t, t = treeP (pubsS seed many) := ⟨_, rfl⟩
  obtain ⟨bs, hbs⟩ : ∃ b, b = bitsS T used msg := ⟨_, rfl⟩
  have HTT := hide hTT; have HBS := hide hbs
  have hgT : Dg T := hTT ▸ dg_tree _
  have HGT := hide hgT
  obtain ⟨ct, hct⟩ : ∃ cs, cs = (T.map (Value.int .u8)).toArray := ⟨_, rfl⟩
  have hst : ct.size = 32 := by rw [hct]; simpa using hgT.len
  have HCT := hide hct
  obtain ⟨cP, hcP⟩ : ∃ cs, cs = ((plS bs 64).map (Value.int .u8)).toArray := ⟨_, rfl⟩
  have HCP := hide hcP
  have hbl : bs.length = 64 := by rw [hbs]; exact bitsS_length _ _ _
  have HBL := hide hbl
  clear hT hA hn hc hk hk' hik hpk hnm hcm hAm hAm0 h65 hu wu hTT hbs hgT hct hcP hbl hPP PP hu1
  go_enter Tryd.func37, Tryd.ntmps37
  go_upto_region 1 with fail
  generalize hX1 : w.alloc _ = W1
  have hB1 : Below w.heap.size w W1 := hX1 ▸ (Below.refl _ _).alloc (Nat.le_refl _) _
  have ho1 : VsAt W1 w.heap.size 40 [.slice A n c, .int .i64 (many : Int), .int .i64 (used : Int)] := boxedV w W1 _ _ (by rw [← hX1]; rfl)
  have hz1 : W1.heap.size = w.heap.size + 1 := by rw [← hX1]; show (w.heap.push _).size = _; rw [Array.size_push]
  generalize hX2 : W1.alloc _ = W2
  have hB2 : Below W1.heap.size W1 W2 := hX2 ▸ (Below.refl _ _).alloc (Nat.le_refl _) _
  have ho2 : VsAt W2 W1.heap.size 40 [.slice none 0 0, .int .i64 0, .int .i64 0] := boxedV W1 W2 _ _ (by rw [← hX2]; rfl)
  have hz2 : W2.heap.size = w.heap.size + 2 := by rw [← hX2]; show (W1.heap.push _).size = _; rw [Array.size_push]; omega
  generalize hX3 : W2.alloc _ = W3
  have hB3 : Below W2.heap.size W2 W3 := hX3 ▸ (Below.refl _ _).alloc (Nat.le_refl _) _
  have ho3 : VsAt W3 W2.heap.size 52 [.int .i64 0, .slice none 0 0, .slice none 0 0, .slice none 0 0] := boxedV W2 W3 _ _ (by rw [← hX3]; rfl)
  have hz3 : W3.heap.size = w.heap.size + 3 := by rw [← hX3]; show (W2.heap.push _).size = _; rw [Array.size_push]; omega
  rw [hz2] at ho3
  have hk2 := ho2.keep hB3
  rw [hz1] at hk2
  have HK1 := hide ((ho1.keep hB2).keep hB3)
  have HK2 := hide hk2
  have HK3 := hide ho3
  have HB3 := hide (thenB (thenB hB1 hB2) hB3)
  have HZ3 : Hid (w.heap.size + 3 ≤ W3.heap.size) := Nat.le_of_eq hz3.symm
  clear hX1 hB1 ho1 hz1 hX2 hB2 ho2 hz2 hk2 hX3 hB3 ho3 hz3
  refine wp_region_lit ?_
  refine wpList_load_mid rfl 40 (.tmp 2) rfl w.heap.size 0 rfl [.slice A n c, .int .i64 (many : Int), .int .i64 (used : Int)] _ (unhide HK1).range Tryd.underlying40 rfl infoKey ?_
  try simp only [List.getElem_toArray, List.getElem_cons_zero, List.getElem_cons_succ, Act.put, List.setIfInBounds_toArray, List.set_cons_zero, List.set_cons_succ]
  go_wp2_with fail
  refine ((unhide HIK) W3).mono ?_; rintro x W4 ⟨rfl, hB4⟩
  have HL1 := hide ((unhide HK1).keep hB4)
  have HL2 := hide ((unhide HK2).keep hB4)
  have HL3 := hide ((unhide HK3).keep hB4)
  have HB4 := hide (thenB (unhide HB3) hB4)
  have HZ4 : Hid (w.heap.size + 3 ≤ W4.heap.size) := Nat.le_trans (unhide HZ3) hB4.size
  clear hB4 HK1 HK2 HK3 HB3 HZ3
  have hc1 : W4.cell? ⟨w.heap.size, 1, none⟩ = some (.int .i64 (many : Int)) := (unhide HL1).cell rfl
  have hc2 : W4.cell? ⟨w.heap.size, 2, none⟩ = some (.int .i64 (used : Int)) := (unhide HL1).cell rfl
  go_upto_region 7 with fail
  refine wp_region_lit ?_
  refine wpList_load_mid rfl 40 (.tmp 2) rfl w.heap.size 0 rfl [.slice A n c, .int .i64 (many : Int), .int .i64 (used : Int)] _ (unhide HL1).range Tryd.underlying40 rfl infoKey ?_
  try simp only [List.getElem_toArray, List.getElem_cons_zero, List.getElem_cons_succ, Act.put, List.setIfInBounds_toArray, List.set_cons_zero, List.set_cons_succ]
  go_wp2_with fail
  refine ((unhide HPK) W4 (unhide HB4)).mono ?_; rintro x W5 ⟨A4, c4, rfl, hc4, hds4, hga, hB5⟩
  have HM1 := hide ((unhide HL1).keep hB5)
  have HM2 := hide ((unhide HL2).keep hB5)
  have HM3 := hide ((unhide HL3).keep hB5)
  have HB5 := hide (thenB (unhide HB4) hB5)
  have HZ5 : Hid (w.heap.size + 3 ≤ W5.heap.size) := Nat.le_trans (unhide HZ4) hB5.size
  have HDS := hide hds4
  have HC4 : Hid (many ≤ c4) := hc4
  have HGA : Hid (w.heap.size + 3 ≤ A4.block) := Nat.le_trans (unhide HZ4) hga
  have h50 : W5.cell? ⟨w.heap.size, 0, none⟩ = some (.slice A n c) := (unhide HM1).cell rfl
  have h52 : W5.cell? ⟨w.heap.size, 2, none⟩ = some (.int .i64 (used : Int)) := (unhide HM1).cell rfl
  have hnk := newOtk_any W5 A n c seed (unhide HN).1 (unhide HN).2.1 (unhide HN).2.2.1 (unhide HN).2.2.2.1 ((unhide HA).keep (unhide HB5)) used (by have := unhide HN; omega) ((unhide HT).keep (unhide HB5))
  have HNK := hide hnk
  clear hB5 hc4 hds4 hga hnk hc1 hc2 HL1 HL2 HL3 HB4 HZ4
  go_wp2_with fail
  refine (unhide HNK).mono ?_; rintro x W6 ⟨A', m', rfl, hotk, hgo, hB6⟩
  have HN1 := hide ((unhide HM1).keep hB6)
  have HN2 := hide ((unhide HM2).keep hB6)
  have HN3 := hide ((unhide HM3).keep hB6)
  have HB6 := hide (thenB (unhide HB5) hB6)
  have HZ6 : Hid (w.heap.size + 3 ≤ W6.heap.size) := Nat.le_trans (unhide HZ5) hB6.size
  have HDS6 := hide ((unhide HDS).keep hB6)
  have HOTK := hide hotk
  have HGO : Hid (∀ a, A' = some a → w.heap.size + 3 ≤ a.block) := fun a ha => Nat.le_trans (unhide HZ5) (hgo a ha)
  clear hB6 hotk hgo h50 h52 HNK HM1 HM2 HM3 HB5 HZ5 HDS
  dsimp only
  rename_i KK hK
  refine hK _ _ ?_
  clear hK KK
  refine wpList_plain rfl fun Kt hKt => ?_
  go_simp
  refine hKt _ _ ?_
  clear hKt Kt
  generalize hX7 : W6.alloc _ = W7
  have hB7 : Below W6.heap.size W6 W7 := hX7 ▸ (Below.refl _ _).alloc (Nat.le_refl _) _
  have ho7 : VsAt W7 W6.heap.size 83 (.slice none 0 0 :: List.replicate 32 (Value.int .u8 0)) := boxedV W6 W7 _ _ (by rw [← hX7]; rfl)
  have hz7 : W7.heap.size = W6.heap.size + 1 := by rw [← hX7]; show (W6.heap.push _).size = _; rw [Array.size_push]
  have HO7 := hide ho7
  have HB67 := hide hB7
  obtain ⟨N8, hN8⟩ : ∃ N, N = W6.heap.size := ⟨_, rfl⟩
  have HN8 : Hid (N8 = W6.heap.size ∧ w.heap.size + 3 ≤ N8 ∧ N8 < W7.heap.size) := ⟨hN8, by have := unhide HZ6; omega, by omega⟩
  rw [← hN8] at HO7 ⊢
  clear hX7 hB7 ho7 hz7 hN8
  refine wpList_vput rfl 83 (.tmp 8) (.tmp 34) rfl N8 0 rfl (otkL A' m' OPH) rfl (by rw [otkL_length _ _ _ dg_OPH.len]; exact info33) (otkL_one _ _ _) _ _ (unhide HO7) (by rw [otkL_length _ _ _ dg_OPH.len]; simp) ?_
  intro W8 HW8 HG8
  have hw8 := unhide HW8
  rw [spliceV_all _ _ (by rw [otkL_length _ _ _ dg_OPH.len]; simp)] at hw8
  have hB68 : Below W6.heap.size W6 W8 := (unhide HB67).grown (unhide HG8) (unhide HB67).size (fun i e => by injection e with e; have := unhide HN8; omega)
  have HO8 := hide hw8
  have HQ1 := hide ((unhide HN1).keep hB68)
  have HQ2 := hide ((unhide HN2).keep hB68)
  have hQ3 := (unhide HN3).keep hB68
  have HDS8 := hide ((unhide HDS6).keep hB68)
  have HOT8 := hide ((unhide HOTK).keep hB68)
  have HB8 := hide (thenB (unhide HB6) hB68)
  have HT8 := hide ((unhide HT).keep (unhide HB8))
  have h80 := hB68.size
  have HLOW : Hid (w.heap.size + 2 < W8.heap.size ∧ N8 < W8.heap.size ∧ w.heap.size + 3 ≤ N8 ∧ gTop ≤ w.heap.size) := ⟨by have := unhide HZ6; omega, by have := (unhide HG8).size; have := unhide HN8; omega, (unhide HN8).2.1, (unhide HT).top⟩
  have HLA : Hid (Low W8.heap.size (w.heap.size + 2) (some A4)) := fun a ha => by
    injection ha with ha
    subst ha
    obtain ⟨b, o, e, hcc⟩ := (unhide HDS8).at_ (pubs_ne seed many (unhide HN).2.2.2.2.1)
    have hge := unhide HGA
    have := lt_of_cell (hcc 0 _ (pubsS_get seed many 0 (by have := unhide HN; omega)) 0 _ (by rw [List.getElem?_map, List.getElem?_eq_getElem (by rw [(dg_pubS seed 0).len]; omega)]; rfl))
    injection e with e
    subst e
    exact ⟨this, fun h => by have h3 : w.heap.size + 3 ≤ b := hge; have h4 : b = w.heap.size + 2 := h; omega⟩
  have HLO : Hid (Low W8.heap.size (w.heap.size + 2) A') := fun a ha => by
    have hge := (unhide HGO) a ha
    obtain ⟨b, o, e, hcc⟩ := (unhide HOT8).at_.at_ (fun e => by have := (unhide HOT8).len; have := (unhide HOT8).pos; rw [e] at *; simp at *; omega)
    have := lt_of_cell (hcc 0 (by have := (unhide HOT8).len; have := (unhide HOT8).pos; omega))
    rw [ha] at e
    injection e with e
    subst e
    exact ⟨this, fun h => by have h3 : w.heap.size + 3 ≤ b := hge; have h4 : b = w.heap.size + 2 := h; omega⟩
  clear hw8 hB68 HW8 HG8 HB67 HO7 HN1 HN2 HN3 HDS6 HOTK HB6 HGA HGO HZ6 h80
  have h82 : W8.cell? ⟨w.heap.size, 2, none⟩ = some (.int .i64 (used : Int)) := (unhide HQ1).cell rfl
  have hf2 := hQ3.free 0
  have hc2 : W8.cell? ⟨w.heap.size + 2, 0, none⟩ = some (.int .i64 0) := hQ3.cell rfl
  have HQ3 := hide hQ3
  clear hQ3
  try simp only [List.getElem_toArray, List.getElem_cons_zero, List.getElem_cons_succ, Act.put, List.setIfInBounds_toArray, List.set_cons_zero, List.set_cons_succ]
  go_upto_region 10 with fail
  generalize hX9 : World.setCell _ _ _ = W9
  have hs9 : VsAt W9 (w.heap.size + 2) 52 [.int .i64 (used : Int), .slice none 0 0, .slice none 0 0, .slice none 0 0] := hX9 ▸ (unhide HQ3).set 0 _
  have hg9 : GK W8.heap.size (w.heap.size + 2) W8 W9 := hX9 ▸ gk_set 0 _
  have hz9 : W8.heap.size ≤ W9.heap.size := hg9.size
  obtain ⟨W, hW⟩ : ∃ W, W = W9.drewN 1 := ⟨_, rfl⟩
  have HW : Hid (W = W9.drewN 1) := hW
  have hg10 := hg9.trans (GK.below hz9 (below_named HW))
  have HS10 := hide (hs9.keep (below_named HW))
  have hz10 : W8.heap.size ≤ W.heap.size := hg10.size
  have HG10 := hide hg10; have HZ10 := hide hz10
  have hv10 : VsAt W w.heap.size 40 [.slice A n c, .int .i64 (many : Int), .int .i64 (used : Int)] := hg10.vs (unhide HQ1) (by have := unhide HLOW; omega) (by omega)
  have hbt := (unhide HM).keep (hg10.under (unhide HB8) (by have := unhide HLOW; omega) (by omega))
  have HTR := hide (Tree_any W c4 (some A4) (pubsS seed many) (hg10.ds (unhide HDS8) (unhide HLA)) (by rw [pubsS_length]; exact unhide HC4) (by rw [pubsS_length]; have := unhide HN; omega) (hg10.tab (unhide HT8) (by have := unhide HLOW; omega) (by have := unhide HLOW; omega)))
  clear hX9 hs9 hg9 hz9 hW hg10 hz10 h82 hf2 hc2 HQ3
  have htr := unhide HTR
  rw [pubsS_length, treeD, if_neg (pubs_ne seed many (unhide HN).2.2.2.2.1), ← unhide HTT, show dv T = .agg ct by rw [unhide HCT]] at htr
  have HTR2 := hide htr
  clear htr HTR
  have HBT := hide hbt
  clear hbt
  refine held (S := fun V => VsAt V w.heap.size 40 [.slice A n c, .int .i64 (many : Int), .int .i64 (used : Int)]) W HW (by kernel_rfl) ?_
  refine wpAnyH_take (i := 0) (v := ?_) rfl (by kernel_rfl) (by kernel_rfl) (by kernel_rfl) (fun _ _ _ h => h) (Or.inl ⟨by kernel_rfl, ?_⟩) (by assumption) ?_
  rotate_left
  · intro Wt hSt
    go_simp
    try with_reducible rfl
  try simp only [List.getElem_toArray, List.getElem_cons_zero, List.getElem_cons_succ, Act.put, List.setIfInBounds_toArray, List.set_cons_zero, List.set_cons_succ]
  refine wpAnyH_take (i := 2) (v := ?_) rfl (by kernel_rfl) (by kernel_rfl) (by kernel_rfl) (fun _ _ _ h => h) (Or.inl ⟨by kernel_rfl, ?_⟩) (by assumption) ?_
  rotate_left
  · intro Wt hSt
    go_simp
    try with_reducible rfl
  try simp only [List.getElem_toArray, List.getElem_cons_zero, List.getElem_cons_succ, Act.put, List.setIfInBounds_toArray, List.set_cons_zero, List.set_cons_succ]
  refine wpAnyH_take (i := 3) (v := ?_) rfl (by kernel_rfl) (by kernel_rfl) (by kernel_rfl) (fun _ _ _ h => h) (Or.inl ⟨by kernel_rfl, ?_⟩) (by assumption) ?_
  rotate_left
  · intro Wt hSt
    have hct := (show Wt.cell? ⟨w.heap.size, 2, none⟩ = some (.int .i64 (used : Int)) from VsAt.cell hSt rfl)
    go_simp
    try with_reducible rfl
  try simp only [List.getElem_toArray, List.getElem_cons_zero, List.getElem_cons_succ, Act.put, List.setIfInBounds_toArray, List.set_cons_zero, List.set_cons_succ]
  refine wpAnyH_take (i := 4) (v := ?_) rfl (by kernel_rfl) (by kernel_rfl) (by kernel_rfl) (fun _ _ _ h => h) (Or.inl ⟨by kernel_rfl, ?_⟩) (by assumption) ?_
  rotate_left
  · intro Wt hSt
    go_simp
    try with_reducible rfl
  try simp only [List.getElem_toArray, List.getElem_cons_zero, List.getElem_cons_succ, Act.put, List.setIfInBounds_toArray, List.set_cons_zero, List.set_cons_succ]
  refine wpAnyH_take (i := 7) (v := ?_) rfl (by kernel_rfl) (by kernel_rfl) (by kernel_rfl) (fun _ _ _ h => h) (Or.inl ⟨by kernel_rfl, ?_⟩) (by assumption) ?_
  rotate_left
  · intro Wt hSt
    go_simp
    try with_reducible rfl
  try simp only [List.getElem_toArray, List.getElem_cons_zero, List.getElem_cons_succ, Act.put, List.setIfInBounds_toArray, List.set_cons_zero, List.set_cons_succ]
  refine wpAnyH_chainOf [1, 5, 6] _ _ _ (by kernel_rfl) (by kernel_rfl) ?_
  simp only [List.filterMap_cons, List.filterMap_nil, List.getElem?_toArray, List.getElem?_cons_zero, List.getElem?_cons_succ]
  refine wpChain_step rfl fun K hK => ?_
  go_simp
  refine (unhide HTR2).mono ?_; rintro x V1 ⟨rfl, hB1⟩
  have hv11 := hv10.keep hB1
  have hbits := Bits_ok V1 T (unhide HGT) used (by have := unhide HN; omega) Am nm cm msg (unhide HNM).1 (unhide HNM).2.1 ((unhide HBT).keep hB1) (unhide HNM).2.2.1 (by have := unhide HNM; omega) (((unhide HG10).trans (GK.below (unhide HZ10) hB1)).tab (unhide HT8) (by have := unhide HLOW; omega) (by have := unhide HLOW; omega))
  rw [show dv T = .agg ct by rw [unhide HCT]] at hbits
  have HBITS := hide hbits
  clear hbits HTR2 HBT
  dsimp only
  refine hK _ _ hv11 ?_
  clear hK K
  refine wpChain_step rfl fun K hK => ?_
  go_simp
  refine (unhide HBITS).mono ?_; rintro x V2 ⟨A5, c5, rfl, hc5, hbl5, hB2⟩
  rw [← unhide HBS] at hc5 hbl5 ⊢
  rw [unhide HBL] at hc5 ⊢
  have hv12 := hv11.keep hB2
  have hpl := placesOf_any V2 A5 c5 bs (unhide HBL) hc5 hbl5
  rw [show dv (plS bs 64) = .agg cP by rw [unhide HCP]] at hpl
  have HPL := hide hpl
  clear hpl hc5 hbl5 HBITS
  dsimp only
  refine hK _ _ hv12 ?_
  clear hK K
  refine wpChain_step rfl fun K hK => ?_
  go_simp
  refine (unhide HPL).mono ?_; rintro x V3 ⟨rfl, hB3⟩
  have hv13 := hv12.keep hB3
  dsimp only
  refine hK _ _ hv13 (wpChain_nil ?_)
  clear hK K HPL
  have hB13 : Below W.heap.size W V3 := thenB (thenB hB1 hB2) hB3
  have hgk := (unhide HG10).trans (GK.below (unhide HZ10) hB13)
  have hinv0 : SgInv W8.heap.size (w.heap.size + 2) W8 used seed bs 0 0 (.slice none 0 0) (.slice none 0 0) V3 := ⟨(unhide HS10).keep hB13, World.ownsRow_nil _ _ _ _, World.ownsRow_nil _ _ _ _, (fun b hb => by cases hb), hgk, hgk.size, (unhide HLOW).1⟩
  have HI0 := hide hinv0
  clear hv10 hv11 hv12 hv13 hB1 hB2 hB3 hB13 hgk hinv0 HS10 HG10 HZ10
  go_wp2_with fail
  go_loopg [45] 64 (fun g y45 wx => ∃ (k : Nat) (vO vC : Value), g + k = 64 ∧ y45 = .int .i64 (k : Int) ∧ SgInv W8.heap.size (w.heap.size + 2) W8 used seed bs k k vO vC wx)
  case atStart => exact ⟨0, _, _, rfl, rfl, unhide HI0⟩
  case round =>
    obtain ⟨k, vO, vC, hk, rfl, hinv⟩ := hrel
    cases gk with
    | zero =>
      obtain rfl : k = 64 := by omega
      have HI := hide hinv
      clear hk hinv
      have hv0 := (unhide HI).gk.vs (unhide HQ1) (by have := unhide HLOW; omega) (by omega)
      have h02 : wr.cell? ⟨w.heap.size, 2, none⟩ = some (.int .i64 (used : Int)) := hv0.cell rfl
      have hpa := Path_ok (pubsS seed many) used (some A4) c4 wr ((unhide HI).gk.ds (unhide HDS8) (unhide HLA)) (by rw [pubsS_length]; exact unhide HC4) (by rw [pubsS_length]; have := unhide HN; omega) (by rw [pubsS_length]; have := unhide HN; omega) ((unhide HI).gk.tab (unhide HT8) (by have := unhide HLOW; omega) (by have := unhide HLOW; omega))
      rw [pubsS_length] at hpa
      have HPA := hide hpa
      clear hpa hv0
      go_wp2_with fail
      refine (unhide HPA).mono ?_; rintro x X1 ⟨⟨vp, rfl, hop⟩, hB1⟩
      obtain ⟨A3, c3, rfl, hc3, hd3, hn3⟩ := own_form hop (pathP_spec many (pubsS seed many) used (pubsS_length seed many) (by have := unhide HN; omega)).2.1
      have hi1 := (unhide HI).keep hB1
      have hs1 := hi1.sig
      have hc13 : X1.cell? ⟨w.heap.size + 2, 3, none⟩ = some (.slice none 0 0) := hs1.cell rfl
      have hf13 := hs1.free 3
      obtain ⟨pl, hplen⟩ : ∃ p, p = (pathP (pubsS seed many) used).length := ⟨_, rfl⟩
      rw [← hplen] at hc3 ⊢
      have HPLEN := hide hplen
      have hv0 := hi1.gk.vs (unhide HQ1) (by have := unhide HLOW; omega) (by omega)
      have h02' : X1.cell? ⟨w.heap.size, 2, none⟩ = some (.int .i64 (used : Int)) := hv0.cell rfl
      have hf02 := hv0.free 2
      have HI1 := hide hi1; have HOP := hide hop; have HD3 := hide hd3; have HC3 : Hid (pl ≤ c3 ∧ (A3 = none → c3 = 0)) := ⟨hc3, hn3⟩
      have HV0 := hide hv0
      have HBX := hide hB1
      have HLTW : Hid (W8.heap.size ≤ wr.heap.size) := (unhide HI).gk.size
      clear hop hc3 hd3 hn3 hi1 hs1 hplen hv0 hB1 h02 HPA
      rw [← unhide HPLEN] at HOP
      have wu := unhide HWU
      go_upto_region 18 with fail
      generalize hY1 : X1.setCell _ _ = Y1
      generalize hY2 : Y1.setCell _ _ = Y2
      have hlow := unhide HLOW
      have hsg1 := (unhide HI1).sig.set 3 (.slice A3 pl c3)
      rw [hY1] at hsg1
      have hky1 : VsAt Y1 w.heap.size _ _ := hY1 ▸ vs_set (o := 3) (u := .slice A3 pl c3) (unhide HV0) (show w.heap.size ≠ w.heap.size + 2 by omega)
      have hk1 : VsAt Y1 (w.heap.size + 1) _ _ := hY1 ▸ vs_set (o := 3) (u := .slice A3 pl c3) ((unhide HI1).gk.vs (unhide HQ2) (by omega) (by omega)) (show w.heap.size + 1 ≠ w.heap.size + 2 by omega)
      have hop1 : OwnD Y1 W8.heap.size vO _ := hY1 ▸ (unhide HI1).op.putAt (o := 3) (u := .slice A3 pl c3) hlow.1
      have hcl1 : OwnD Y1 W8.heap.size vC _ := hY1 ▸ (unhide HI1).cl.putAt (o := 3) (u := .slice A3 pl c3) hlow.1
      have hpa1 : OwnD Y1 wr.heap.size (.slice A3 pl c3) _ := hY1 ▸ (unhide HOP).putAt (o := 3) (u := .slice A3 pl c3) (by have := unhide HLTW; omega)
      have hg1 : X1.grownBy Y1 (some (w.heap.size + 2)) := hY1 ▸ grownSet (World.grownBy.refl X1 (some (w.heap.size + 2))) 3 _
      have hb1 : Below w.heap.size w X1 := (unhide HI1).gk.under (unhide HB8) (by omega) (by omega)
      have hbY1 : Below w.heap.size w Y1 := hb1.grown hg1 hb1.size (fun i e => by injection e with e; omega)
      have hsg2 : VsAt Y2 (w.heap.size + 2) _ _ := hY2 ▸ vs_set (o := 2) (u := .int .i64 (u1 : Int)) hsg1 (show w.heap.size + 2 ≠ w.heap.size by omega)
      have hky2 := hky1.set 2 (.int .i64 (u1 : Int))
      rw [hY2] at hky2
      have hk2 : VsAt Y2 (w.heap.size + 1) _ _ := hY2 ▸ vs_set (o := 2) (u := .int .i64 (u1 : Int)) hk1 (show w.heap.size + 1 ≠ w.heap.size by omega)
      have hop2 : OwnD Y2 W8.heap.size vO _ := hY2 ▸ hop1.putAt (o := 2) (u := .int .i64 (u1 : Int)) (by omega)
      have hcl2 : OwnD Y2 W8.heap.size vC _ := hY2 ▸ hcl1.putAt (o := 2) (u := .int .i64 (u1 : Int)) (by omega)
      have hpa2 : OwnD Y2 wr.heap.size (.slice A3 pl c3) _ := hY2 ▸ hpa1.putAt (o := 2) (u := .int .i64 (u1 : Int)) (by have := unhide HLTW; omega)
      have hg2 : Y1.grownBy Y2 (some w.heap.size) := hY2 ▸ grownSet (World.grownBy.refl Y1 (some w.heap.size)) 2 _
      have hbY2 : Below w.heap.size w Y2 := hbY1.grown hg2 hbY1.size (fun i e => by injection e with e; omega)
      obtain ⟨W, hW⟩ : ∃ W, W = Y2.drewN 1 := ⟨_, rfl⟩
      have HW : Hid (W = Y2.drewN 1) := hW
      have hbn : Below Y2.heap.size Y2 W := below_named HW
      obtain ⟨A1, c1, hv1, hcp1, hds1, _⟩ := own_form hop2 (dg_openedS _ _ _ _)
      obtain ⟨A2, c2, hv2, hcp2, hds2, _⟩ := own_form hcl2 (dg_closedS _ _ _ _)
      rw [openedS_length] at hv1 hcp1
      rw [closedS_length] at hv2 hcp2
      rw [hv1] at hop2
      rw [hv2] at hcl2
      rw [hv1, hv2] at hsg2
      have HOP1 := hide (hop2.later hbn); have HCL1 := hide (hcl2.later hbn); have HPA1 := hide (hpa2.later hbn)
      have HBZ := hide (thenB hbY2 hbn)
      have hsW : VsAt W (w.heap.size + 2) 52 [.int .i64 (used : Int), .slice A1 64 c1, .slice A2 64 c2, .slice A3 pl c3] := hsg2.keep hbn
      have hkW : VsAt W w.heap.size 40 [.slice A n c, .int .i64 (many : Int), .int .i64 (u1 : Int)] := hky2.keep hbn
      have HK1W := hide (hk2.keep hbn)
      have HCP : Hid (64 ≤ c1 ∧ 64 ≤ c2) := ⟨hcp1, hcp2⟩
      have HWL : Hid (W8.heap.size ≤ wr.heap.size) := unhide HLTW
      clear hY1 hY2 hsg1 hky1 hk1 hop1 hcl1 hpa1 hg1 hb1 hbY1 hsg2 hky2 hk2 hop2 hcl2 hpa2 hg2 hbY2 hbn hW hds1 hds2 hcp1 hcp2 hv1 hv2 hlow wu hc13 hf13 h02' hf02
      have hS0 : VsAt W w.heap.size 40 [.slice A n c, .int .i64 (many : Int), .int .i64 (u1 : Int)] ∧ VsAt W (w.heap.size + 2) 52 [.int .i64 (used : Int), .slice A1 64 c1, .slice A2 64 c2, .slice A3 pl c3] := ⟨hkW, hsW⟩
      clear hkW hsW
      refine held (S := fun V => VsAt V w.heap.size 40 [.slice A n c, .int .i64 (many : Int), .int .i64 (u1 : Int)] ∧ VsAt V (w.heap.size + 2) 52 [.int .i64 (used : Int), .slice A1 64 c1, .slice A2 64 c2, .slice A3 pl c3]) W HW (by kernel_rfl) ?_
      refine wpAnyH_take (i := 0) (v := .agg [.slice A n c, .int .i64 (many : Int), .int .i64 (u1 : Int)].toArray) rfl (by kernel_rfl) (by kernel_rfl) (by kernel_rfl) (fun _ _ _ h => h) (yieldsIf_load_mid (by kernel_rfl) 40 (.tmp 2) rfl w.heap.size 0 rfl [.slice A n c, .int .i64 (many : Int), .int .i64 (u1 : Int)] _ (fun W hS => hS.1.range) Tryd.underlying40 rfl infoKey) (by assumption) ?_
      try simp only [List.getElem_toArray, List.getElem_cons_zero, List.getElem_cons_succ, Act.put, List.setIfInBounds_toArray, List.set_cons_zero, List.set_cons_succ]
      refine wpAnyH_take (i := 1) (v := .agg [.int .i64 (used : Int), .slice A1 64 c1, .slice A2 64 c2, .slice A3 pl c3].toArray) rfl (by kernel_rfl) (by kernel_rfl) (by kernel_rfl) (fun _ _ _ h => h) (yieldsIf_load_mid (by kernel_rfl) 52 (.tmp 5) rfl (w.heap.size + 2) 0 rfl [.int .i64 (used : Int), .slice A1 64 c1, .slice A2 64 c2, .slice A3 pl c3] _ (fun W hS => hS.2.range) Tryd.underlying52 rfl infoSig) (by assumption) ?_
      try simp only [List.getElem_toArray, List.getElem_cons_zero, List.getElem_cons_succ, Act.put, List.setIfInBounds_toArray, List.set_cons_zero, List.set_cons_succ]
      refine wpAnyH_chainOf [2, 3, 4] _ _ _ (by kernel_rfl) (by kernel_rfl) ?_
      simp only [List.filterMap_cons, List.filterMap_nil, List.getElem?_toArray, List.getElem?_cons_zero, List.getElem?_cons_succ]
      refine wpChain_vput rfl 40 (.tmp 4) (.tmp 78) rfl (w.heap.size + 1) 0 rfl [.slice A n c, .int .i64 (many : Int), .int .i64 (u1 : Int)] rfl infoKey (keyL_one _ _ _ _ _) _ _ (unhide HK1W) (by simp) ?_
      intro Z1 HZ1 HGZ1
      have hz1 := unhide HZ1
      rw [spliceV_all _ _ (by simp)] at hz1
      have hS1 : VsAt Z1 w.heap.size 40 [.slice A n c, .int .i64 (many : Int), .int .i64 (u1 : Int)] ∧ VsAt Z1 (w.heap.size + 2) 52 [.int .i64 (used : Int), .slice A1 64 c1, .slice A2 64 c2, .slice A3 pl c3] := ⟨hS0.1.grown (unhide HGZ1) (fun e => by injection e with e; omega), hS0.2.grown (unhide HGZ1) (fun e => by injection e with e; omega)⟩
      have HKZ1 := hide hz1
      have HOP2 := hide (own_past (unhide HOP1) (unhide HGZ1) (by have := unhide HLOW; omega)); have HCL2 := hide (own_past (unhide HCL1) (unhide HGZ1) (by have := unhide HLOW; omega)); have HPA2 := hide (own_past (unhide HPA1) (unhide HGZ1) (by have := unhide HLOW; have := unhide HWL; omega))
      have HBZ1 := hide ((unhide HBZ).grown (unhide HGZ1) (unhide HBZ).size (fun i e => by injection e with e; omega))
      refine ⟨hS1, ?_⟩
      clear hz1 HZ1 HGZ1 hS0 HOP1 HCL1 HPA1 HBZ HK1W
      refine wpChain_vput rfl 52 (.tmp 5) (.tmp 79) rfl (w.heap.size + 2) 0 rfl [.int .i64 (used : Int), .slice A1 64 c1, .slice A2 64 c2, .slice A3 pl c3] rfl infoSig (sigL_one _ _ _ _ _ _ _ _ _ _) _ _ hS1.2 (by simp) ?_
      intro Z2 HZ2 HGZ2
      have hz2 := unhide HZ2
      rw [spliceV_all _ _ (by simp)] at hz2
      have hS2 : VsAt Z2 w.heap.size 40 [.slice A n c, .int .i64 (many : Int), .int .i64 (u1 : Int)] ∧ VsAt Z2 (w.heap.size + 2) 52 [.int .i64 (used : Int), .slice A1 64 c1, .slice A2 64 c2, .slice A3 pl c3] := ⟨hS1.1.grown (unhide HGZ2) (fun e => by injection e with e; omega), hz2⟩
      have HKZ2 := hide ((unhide HKZ1).grown (unhide HGZ2) (fun e => by injection e with e; omega))
      have HSZ2 := hide hz2
      have HOP3 := hide (own_past (unhide HOP2) (unhide HGZ2) (by have := unhide HLOW; omega)); have HCL3 := hide (own_past (unhide HCL2) (unhide HGZ2) (by have := unhide HLOW; omega)); have HPA3 := hide (own_past (unhide HPA2) (unhide HGZ2) (by have := unhide HLOW; have := unhide HWL; omega))
      have HBZ2 := hide ((unhide HBZ1).grown (unhide HGZ2) (unhide HBZ1).size (fun i e => by injection e with e; omega))
      refine ⟨hS2, ?_⟩
      clear hz2 HZ2 HGZ2 hS1 HOP2 HCL2 HPA2 HBZ1 HKZ1
      refine wpChain_step rfl fun K hK => ?_
      go_simp
      refine hK _ _ hS2 (wpChain_nil ?_)
      clear hK K hS2
      go_wp2_with fail
      try simp only [Exit.inBlock, Exit.then]
      refine vret3 rfl rfl (w.heap.size + 1) (w.heap.size + 2) rfl rfl _ _ _ _ (unhide HKZ2) (unhide HSZ2) _ _ Tryd.underlying40 rfl infoKey Tryd.underlying52 rfl infoSig _ rfl ?_
      obtain ⟨B1, e1, hw1, _, hd1⟩ := (unhide HOP3).ds (dg_openedS _ _ _ _)
      obtain ⟨B2, e2, hw2, _, hd2⟩ := (unhide HCL3).ds (dg_closedS _ _ _ _)
      obtain ⟨B3, e3, hw3, _, hd3⟩ := (unhide HPA3).ds (pathP_spec many (pubsS seed many) used (pubsS_length seed many) (by have := unhide HN; omega)).2.1
      injection hw1 with hw1 _ _
      injection hw2 with hw2 _ _
      injection hw3 with hw3 _ _
      subst hw1 hw2 hw3
      have hl := unhide HPLEN
      subst hl
      have hu := unhide HU1
      subst hu
      rw [unhide HBS, unhide HTT] at hd1 hd2
      exact ⟨A1, c1, A2, c2, A3, c3, rfl, ⟨openedS_length _ _ _ _, (unhide HCP).1, hd1⟩, ⟨closedS_length _ _ _ _, (unhide HCP).2, hd2⟩, (unhide HC3).1, hd3, (unhide HC3).2, unhide HBZ2⟩
    | succ g =>
      have hk64 : k < 64 := by omega
      have k1 : (k : Int) < 64 := by omega
      have k0 : (0 : Int) ≤ (k : Int) := Int.natCast_nonneg _
      obtain ⟨bt, hbt⟩ : ∃ b, b = bitAt bs k := ⟨_, rfl⟩
      have hix : ∀ V : World, (Instr.index 87 (.agg cP) (.int .i64 (k : Int))).run Tryd.prog V = .ok (.agg #[.int .u8 (k : Int), .int .u8 (bt : Int)]) V := fun V => index_place V cP k hk64 _ (by rw [unhide HCP, hbt]; exact plS_extract bs k hk64)
      have HKK : Hid (g + 1 + k = 64 ∧ k < 64 ∧ bt = bitAt bs k ∧ bt ≤ 1) := ⟨hk, hk64, hbt, hbt ▸ bitAt_le bs k⟩
      have HI := hide hinv
      obtain ⟨D, hD⟩ : ∃ D, D = secS (begS seed used) k bt := ⟨_, rfl⟩
      have hgD : Dg D := hD ▸ dg_secS _ _ _
      obtain ⟨cd, hcd⟩ : ∃ cs, cs = (D.map (Value.int .u8)).toArray := ⟨_, rfl⟩
      have hsd : cd.size = 32 := by rw [hcd]; simpa using hgD.len
      obtain ⟨E, hE⟩ : ∃ D, D = opnS (secS (begS seed used) k (1 - bt)) := ⟨_, rfl⟩
      have hgE : Dg E := hE ▸ dg_opnS _
      obtain ⟨ce, hce⟩ : ∃ cs, cs = (E.map (Value.int .u8)).toArray := ⟨_, rfl⟩
      have hse : ce.size = 32 := by rw [hce]; simpa using hgE.len
      have HD := hide hD; have HGD := hide hgD; have HCD := hide hcd; have HE := hide hE; have HGE := hide hgE; have HCE := hide hce
      clear hinv hk hk64 hbt hD hgD hcd hE hgE hce
      go_upto_region 12 with fail
      refine wp_region_lit ?_
      refine wpList_plain rfl fun Kt hKt => ?_
      go_simp
      refine hKt _ _ ?_
      clear hKt Kt
      refine wpList_plain rfl fun Kt hKt => ?_
      go_simp
      refine hKt _ _ ?_
      clear hKt Kt
      generalize hX : wr.alloc _ = V1
      have hB1 : Below wr.heap.size wr V1 := hX ▸ (Below.refl _ _).alloc (Nat.le_refl _) _
      have ho1 : VsAt V1 wr.heap.size 86 [.int .u8 0, .int .u8 0] := boxedV wr V1 _ _ (by rw [← hX]; rfl)
      have HO1 := hide ho1; have HB1 := hide hB1
      clear hX hB1 ho1
      refine wpList_vput rfl 86 (.tmp 10) (.tmp 47) rfl wr.heap.size 0 rfl [.int .u8 (k : Int), .int .u8 (bt : Int)] rfl info2 (one2 _ _) _ _ (unhide HO1) (by simp) ?_
      intro V2 HV2 HG2
      have hv2 := unhide HV2
      rw [spliceV_all _ _ (by simp)] at hv2
      have hB2 : Below wr.heap.size wr V2 := (unhide HB1).grown (unhide HG2) (unhide HB1).size (fun i e => by injection e with e; omega)
      have HI2 := hide ((unhide HI).keep hB2)
      obtain ⟨NP, hNP⟩ : ∃ N, N = wr.heap.size := ⟨_, rfl⟩
      have HNP : Hid (vO.ownBlock ≠ some NP ∧ vC.ownBlock ≠ some NP ∧ NP ≠ w.heap.size + 2) := ⟨fun e => by have := ((unhide HI).op.lt _ e).2; omega, fun e => by have := ((unhide HI).cl.lt _ e).2; omega, by have := (unhide HI).big; have := (unhide HI).low; omega⟩
      rw [← hNP] at hv2 ⊢
      have HP2 := hide hv2
      clear hv2 hB2 hNP HV2 HG2 HO1 HB1 HI hix
      try simp only [List.getElem_toArray, List.getElem_cons_zero, List.getElem_cons_succ, Act.put, List.setIfInBounds_toArray, List.set_cons_zero, List.set_cons_succ]
      go_wp2_with fail
      go_cut [] (fun wx => ∃ A1 cap, SgInv W8.heap.size (w.heap.size + 2) W8 used seed bs (k + 1) k (.slice A1 (k + 1) cap) vC wx ∧ VsAt wx NP 86 [.int .u8 (k : Int), .int .u8 (bt : Int)])
      case first =>
        obtain ⟨W, hW⟩ : ∃ W, W = V2.drewN 1 := ⟨_, rfl⟩
        have HW : Hid (W = V2.drewN 1) := hW
        have hI0 := (unhide HI2).keep (below_named HW)
        have hP0 := (unhide HP2).keep (below_named HW)
        have hS0 : VsAt W N8 83 (otkL A' m' OPH) ∧ VsAt W NP 86 [.int .u8 (k : Int), .int .u8 (bt : Int)] := ⟨hI0.gk.vs (unhide HO8) (by have := unhide HLOW; omega) (by have := unhide HLOW; omega), hP0⟩
        clear hW HI2 HP2
        refine held (S := fun V => VsAt V N8 83 (otkL A' m' OPH) ∧ VsAt V NP 86 [.int .u8 (k : Int), .int .u8 (bt : Int)]) W HW (by kernel_rfl) ?_
        refine wpAnyH_take (i := 0) (v := ?_) rfl (by kernel_rfl) (by kernel_rfl) (by kernel_rfl) (fun _ _ _ h => h) (Or.inl ⟨by kernel_rfl, ?_⟩) (by assumption) ?_
        rotate_left
        · intro Wt hSt
          go_simp
          try with_reducible rfl
        try simp only [List.getElem_toArray, List.getElem_cons_zero, List.getElem_cons_succ, Act.put, List.setIfInBounds_toArray, List.set_cons_zero, List.set_cons_succ]
        refine wpAnyH_take (i := 2) (v := otkV A' m' OPH) rfl (by kernel_rfl) (by kernel_rfl) (by kernel_rfl) (fun _ _ _ h => h) (yieldsIf_load_mid (by kernel_rfl) 83 (.tmp 8) rfl N8 0 rfl (otkL A' m' OPH) _ (fun W hS => hS.1.range) Tryd.underlying83 rfl (by rw [otkL_length _ _ _ dg_OPH.len]; exact info33)) (by assumption) ?_
        try simp only [List.getElem_toArray, List.getElem_cons_zero, List.getElem_cons_succ, Act.put, List.setIfInBounds_toArray, List.set_cons_zero, List.set_cons_succ]
        refine wpAnyH_take (i := 3) (v := dv [(k : Int), (bt : Int)]) rfl (by kernel_rfl) (by kernel_rfl) (by kernel_rfl) (fun _ _ _ h => h) (yieldsIf_load_mid (by kernel_rfl) 86 (.tmp 10) rfl NP 0 rfl [.int .u8 (k : Int), .int .u8 (bt : Int)] _ (fun W hS => hS.2.range) Tryd.underlying86 rfl info2) (by assumption) ?_
        try simp only [List.getElem_toArray, List.getElem_cons_zero, List.getElem_cons_succ, Act.put, List.setIfInBounds_toArray, List.set_cons_zero, List.set_cons_succ]
        refine wpAnyH_all (show Region.ready .any _ _ = [1, 4] by kernel_rfl) (by simp) fun x hx => ?_
        rcases (by simpa using hx : x = 1 ∨ x = 4) with rfl | rfl
        · clear hx
          refine wpOp_one 1 _ rfl (by kernel_rfl) fun K hK => ?_
          have hc1 := hI0.sig.cell (j := 1) rfl
          go_simp
          refine hK _ _ ⟨hS0, ?_⟩
          clear hK K
          try simp only [List.getElem_toArray, List.getElem_cons_zero, List.getElem_cons_succ, Act.put, List.setIfInBounds_toArray, List.set_cons_zero, List.set_cons_succ]
          refine wpAnyH_one 4 _ rfl (by kernel_rfl) (by kernel_rfl) ?_
          intro K hK
          go_simp
          have hcal := secret_any W A' m' (begS seed used) OPH (hI0.gk.otk (unhide HOT8) (unhide HLO)) (k : Int) (bt : Int) (byt_nat k (by have := unhide HKK; omega)) (byt_nat bt (by have := unhide HKK; omega)) (hI0.gk.tab (unhide HT8) (by have := unhide HLOW; omega) (by have := unhide HLOW; omega))
          rw [show hashF (begS seed used ++ [(k : Int), (bt : Int)]) = D from (unhide HD).symm, show dv D = .agg cd by rw [unhide HCD]] at hcal
          refine hcal.mono ?_; rintro x V_2 ⟨rfl, hB2⟩
          have hI2 := hI0.keep hB2
          have hP2 := hP0.keep hB2
          have hS2 : VsAt V_2 N8 83 (otkL A' m' OPH) ∧ VsAt V_2 NP 86 [.int .u8 (k : Int), .int .u8 (bt : Int)] := ⟨hI2.gk.vs (unhide HO8) (by have := unhide HLOW; omega) (by have := unhide HLOW; omega), hP2⟩
          dsimp only
          refine hK _ _ hS2 ?_
          clear hK K
          try simp only [List.getElem_toArray, List.getElem_cons_zero, List.getElem_cons_succ, Act.put, List.setIfInBounds_toArray, List.set_cons_zero, List.set_cons_succ]
          refine wpAnyH_one 5 _ rfl (by kernel_rfl) (by kernel_rfl) ?_
          intro K hK
          go_simp
          rw [overwritten hsd (by rfl)]
          generalize hX3 : V_2.alloc _ = V_3
          have hB3 : Below V_2.heap.size V_2 V_3 := hX3 ▸ (Below.refl _ _).alloc (Nat.le_refl _) _
          have hM3 : ByAt V_3 V_2.heap.size 24 D := boxed V_2 V_3 D _ (by rw [← hX3, unhide HCD]; rfl)
          have hI3 := hI2.keep hB3
          have hP3 := hP2.keep hB3
          have hS3 : VsAt V_3 N8 83 (otkL A' m' OPH) ∧ VsAt V_3 NP 86 [.int .u8 (k : Int), .int .u8 (bt : Int)] := ⟨hI3.gk.vs (unhide HO8) (by have := unhide HLOW; omega) (by have := unhide HLOW; omega), hP3⟩
          clear hX3
          refine hK _ _ hS3 ?_
          clear hK K
          try simp only [List.getElem_toArray, List.getElem_cons_zero, List.getElem_cons_succ, Act.put, List.setIfInBounds_toArray, List.set_cons_zero, List.set_cons_succ]
          refine wpAnyH_chainOf [6, 7, 8] _ _ _ (by kernel_rfl) (by kernel_rfl) ?_
          simp only [List.filterMap_cons, List.filterMap_nil, List.getElem?_toArray, List.getElem?_cons_zero, List.getElem?_cons_succ]
          refine wpChain_step rfl fun K hK => ?_
          obtain ⟨AN, capN, WN, hr, hcN, hfN, hg, hIN⟩ := hI3.stepO (by have := unhide HKK; omega) (V_2.heap.size) 1 D (unhide HGD) (by rw [unhide HD, (unhide HKK).2.2.1]) hM3 26
          refine wp_append (.tmp 49) (.tmp 53) 26 rfl _ _ _ WN rfl rfl hr ?_
          have hPN := hP3.grown hg (unhide HNP).1
          have hSN : VsAt WN N8 83 (otkL A' m' OPH) ∧ VsAt WN NP 86 [.int .u8 (k : Int), .int .u8 (bt : Int)] := ⟨hS3.1.grown hg (fun e => by have := (hI3.op.lt _ e).1; have := unhide HLOW; omega), hPN⟩
          refine hK _ _ hSN ?_
          clear hK K
          refine wpChain_step rfl fun K hK => ?_
          go_simp
          refine hK _ _ hSN ?_
          clear hK K
          refine wpChain_step rfl fun K hK => ?_
          go_simp
          refine hK _ _ ⟨hIN.gk.vs (unhide HO8) (by have := unhide HLOW; omega) (by have := unhide HLOW; omega), vs_set hPN (unhide HNP).2.2⟩ (wpChain_nil ?_)
          clear hK K
          go_wp2_with fail
          go_meet
          exact ⟨_, _, hIN, vs_set hPN (unhide HNP).2.2⟩
        · clear hx
          refine wpOp_one 4 _ rfl (by kernel_rfl) fun K hK => ?_
          go_simp
          have hcal := secret_any W A' m' (begS seed used) OPH (hI0.gk.otk (unhide HOT8) (unhide HLO)) (k : Int) (bt : Int) (byt_nat k (by have := unhide HKK; omega)) (byt_nat bt (by have := unhide HKK; omega)) (hI0.gk.tab (unhide HT8) (by have := unhide HLOW; omega) (by have := unhide HLOW; omega))
          rw [show hashF (begS seed used ++ [(k : Int), (bt : Int)]) = D from (unhide HD).symm, show dv D = .agg cd by rw [unhide HCD]] at hcal
          refine hcal.mono ?_; rintro x V_5 ⟨rfl, hB5⟩
          have hI5 := hI0.keep hB5
          have hP5 := hP0.keep hB5
          have hS5 : VsAt V_5 N8 83 (otkL A' m' OPH) ∧ VsAt V_5 NP 86 [.int .u8 (k : Int), .int .u8 (bt : Int)] := ⟨hI5.gk.vs (unhide HO8) (by have := unhide HLOW; omega) (by have := unhide HLOW; omega), hP5⟩
          dsimp only
          refine hK _ _ ⟨hS5, ?_⟩
          clear hK K
          try simp only [List.getElem_toArray, List.getElem_cons_zero, List.getElem_cons_succ, Act.put, List.setIfInBounds_toArray, List.set_cons_zero, List.set_cons_succ]
          refine wpAnyH_all (show Region.ready .any _ _ = [1, 5] by kernel_rfl) (by simp) fun x hx => ?_
          rcases (by simpa using hx : x = 1 ∨ x = 5) with rfl | rfl
          · clear hx
            refine wpOp_one 1 _ rfl (by kernel_rfl) fun K hK => ?_
            have hc6 := hI5.sig.cell (j := 1) rfl
            go_simp
            refine hK _ _ ⟨hS5, ?_⟩
            clear hK K
            try simp only [List.getElem_toArray, List.getElem_cons_zero, List.getElem_cons_succ, Act.put, List.setIfInBounds_toArray, List.set_cons_zero, List.set_cons_succ]
            refine wpAnyH_one 5 _ rfl (by kernel_rfl) (by kernel_rfl) ?_
            intro K hK
            go_simp
            rw [overwritten hsd (by rfl)]
            generalize hX7 : V_5.alloc _ = V_7
            have hB7 : Below V_5.heap.size V_5 V_7 := hX7 ▸ (Below.refl _ _).alloc (Nat.le_refl _) _
            have hM7 : ByAt V_7 V_5.heap.size 24 D := boxed V_5 V_7 D _ (by rw [← hX7, unhide HCD]; rfl)
            have hI7 := hI5.keep hB7
            have hP7 := hP5.keep hB7
            have hS7 : VsAt V_7 N8 83 (otkL A' m' OPH) ∧ VsAt V_7 NP 86 [.int .u8 (k : Int), .int .u8 (bt : Int)] := ⟨hI7.gk.vs (unhide HO8) (by have := unhide HLOW; omega) (by have := unhide HLOW; omega), hP7⟩
            clear hX7
            refine hK _ _ hS7 ?_
            clear hK K
            try simp only [List.getElem_toArray, List.getElem_cons_zero, List.getElem_cons_succ, Act.put, List.setIfInBounds_toArray, List.set_cons_zero, List.set_cons_succ]
            refine wpAnyH_chainOf [6, 7, 8] _ _ _ (by kernel_rfl) (by kernel_rfl) ?_
            simp only [List.filterMap_cons, List.filterMap_nil, List.getElem?_toArray, List.getElem?_cons_zero, List.getElem?_cons_succ]
            refine wpChain_step rfl fun K hK => ?_
            obtain ⟨AN, capN, WN, hr, hcN, hfN, hg, hIN⟩ := hI7.stepO (by have := unhide HKK; omega) (V_5.heap.size) 1 D (unhide HGD) (by rw [unhide HD, (unhide HKK).2.2.1]) hM7 26
            refine wp_append (.tmp 49) (.tmp 53) 26 rfl _ _ _ WN rfl rfl hr ?_
            have hPN := hP7.grown hg (unhide HNP).1
            have hSN : VsAt WN N8 83 (otkL A' m' OPH) ∧ VsAt WN NP 86 [.int .u8 (k : Int), .int .u8 (bt : Int)] := ⟨hS7.1.grown hg (fun e => by have := (hI7.op.lt _ e).1; have := unhide HLOW; omega), hPN⟩
            refine hK _ _ hSN ?_
            clear hK K
            refine wpChain_step rfl fun K hK => ?_
            go_simp
            refine hK _ _ hSN ?_
            clear hK K
            refine wpChain_step rfl fun K hK => ?_
            go_simp
            refine hK _ _ ⟨hIN.gk.vs (unhide HO8) (by have := unhide HLOW; omega) (by have := unhide HLOW; omega), vs_set hPN (unhide HNP).2.2⟩ (wpChain_nil ?_)
            clear hK K
            go_wp2_with fail
            go_meet
            exact ⟨_, _, hIN, vs_set hPN (unhide HNP).2.2⟩
          · clear hx
            refine wpOp_one 5 _ rfl (by kernel_rfl) fun K hK => ?_
            go_simp
            rw [overwritten hsd (by rfl)]
            generalize hX9 : V_5.alloc _ = V_9
            have hB9 : Below V_5.heap.size V_5 V_9 := hX9 ▸ (Below.refl _ _).alloc (Nat.le_refl _) _
            have hM9 : ByAt V_9 V_5.heap.size 24 D := boxed V_5 V_9 D _ (by rw [← hX9, unhide HCD]; rfl)
            have hI9 := hI5.keep hB9
            have hP9 := hP5.keep hB9
            have hS9 : VsAt V_9 N8 83 (otkL A' m' OPH) ∧ VsAt V_9 NP 86 [.int .u8 (k : Int), .int .u8 (bt : Int)] := ⟨hI9.gk.vs (unhide HO8) (by have := unhide HLOW; omega) (by have := unhide HLOW; omega), hP9⟩
            clear hX9
            refine hK _ _ ⟨hS9, ?_⟩
            clear hK K
            try simp only [List.getElem_toArray, List.getElem_cons_zero, List.getElem_cons_succ, Act.put, List.setIfInBounds_toArray, List.set_cons_zero, List.set_cons_succ]
            refine wpAnyH_one 1 _ rfl (by kernel_rfl) (by kernel_rfl) ?_
            intro K hK
            have hc10 := hI9.sig.cell (j := 1) rfl
            go_simp
            refine hK _ _ hS9 ?_
            clear hK K
            try simp only [List.getElem_toArray, List.getElem_cons_zero, List.getElem_cons_succ, Act.put, List.setIfInBounds_toArray, List.set_cons_zero, List.set_cons_succ]
            refine wpAnyH_chainOf [6, 7, 8] _ _ _ (by kernel_rfl) (by kernel_rfl) ?_
            simp only [List.filterMap_cons, List.filterMap_nil, List.getElem?_toArray, List.getElem?_cons_zero, List.getElem?_cons_succ]
            refine wpChain_step rfl fun K hK => ?_
            obtain ⟨AN, capN, WN, hr, hcN, hfN, hg, hIN⟩ := hI9.stepO (by have := unhide HKK; omega) (V_5.heap.size) 1 D (unhide HGD) (by rw [unhide HD, (unhide HKK).2.2.1]) hM9 26
            refine wp_append (.tmp 49) (.tmp 53) 26 rfl _ _ _ WN rfl rfl hr ?_
            have hPN := hP9.grown hg (unhide HNP).1
            have hSN : VsAt WN N8 83 (otkL A' m' OPH) ∧ VsAt WN NP 86 [.int .u8 (k : Int), .int .u8 (bt : Int)] := ⟨hS9.1.grown hg (fun e => by have := (hI9.op.lt _ e).1; have := unhide HLOW; omega), hPN⟩
            refine hK _ _ hSN ?_
            clear hK K
            refine wpChain_step rfl fun K hK => ?_
            go_simp
            refine hK _ _ hSN ?_
            clear hK K
            refine wpChain_step rfl fun K hK => ?_
            go_simp
            refine hK _ _ ⟨hIN.gk.vs (unhide HO8) (by have := unhide HLOW; omega) (by have := unhide HLOW; omega), vs_set hPN (unhide HNP).2.2⟩ (wpChain_nil ?_)
            clear hK K
            go_wp2_with fail
            go_meet
            exact ⟨_, _, hIN, vs_set hPN (unhide HNP).2.2⟩
      case rest =>
        obtain ⟨AO, capO, hI3, hP3⟩ := hcut
        have HI3 := hide hI3; have HP3 := hide hP3
        clear hI3 hP3 HI2 HP2
        go_wp2_with fail
        obtain ⟨W, hW⟩ : ∃ W, W = wc.drewN 1 := ⟨_, rfl⟩
        have HW : Hid (W = wc.drewN 1) := hW
        have hI0 := (unhide HI3).keep (below_named HW)
        have hP0 := (unhide HP3).keep (below_named HW)
        have hS0 : VsAt W N8 83 (otkL A' m' OPH) ∧ VsAt W NP 86 [.int .u8 (k : Int), .int .u8 (bt : Int)] := ⟨hI0.gk.vs (unhide HO8) (by have := unhide HLOW; omega) (by have := unhide HLOW; omega), hP0⟩
        clear hW HI3 HP3
        refine held (S := fun V => VsAt V N8 83 (otkL A' m' OPH) ∧ VsAt V NP 86 [.int .u8 (k : Int), .int .u8 (bt : Int)]) W HW (by kernel_rfl) ?_
        refine wpAnyH_take (i := 0) (v := ?_) rfl (by kernel_rfl) (by kernel_rfl) (by kernel_rfl) (fun _ _ _ h => h) (Or.inl ⟨by kernel_rfl, ?_⟩) (by assumption) ?_
        rotate_left
        · intro Wt hSt
          go_simp
          try with_reducible rfl
        try simp only [List.getElem_toArray, List.getElem_cons_zero, List.getElem_cons_succ, Act.put, List.setIfInBounds_toArray, List.set_cons_zero, List.set_cons_succ]
        refine wpAnyH_take (i := 2) (v := otkV A' m' OPH) rfl (by kernel_rfl) (by kernel_rfl) (by kernel_rfl) (fun _ _ _ h => h) (yieldsIf_load_mid (by kernel_rfl) 83 (.tmp 8) rfl N8 0 rfl (otkL A' m' OPH) _ (fun W hS => hS.1.range) Tryd.underlying83 rfl (by rw [otkL_length _ _ _ dg_OPH.len]; exact info33)) (by assumption) ?_
        try simp only [List.getElem_toArray, List.getElem_cons_zero, List.getElem_cons_succ, Act.put, List.setIfInBounds_toArray, List.set_cons_zero, List.set_cons_succ]
        refine wpAnyH_take (i := 3) (v := dv [(k : Int), (bt : Int)]) rfl (by kernel_rfl) (by kernel_rfl) (by kernel_rfl) (fun _ _ _ h => h) (yieldsIf_load_mid (by kernel_rfl) 86 (.tmp 10) rfl NP 0 rfl [.int .u8 (k : Int), .int .u8 (bt : Int)] _ (fun W hS => hS.2.range) Tryd.underlying86 rfl info2) (by assumption) ?_
        try simp only [List.getElem_toArray, List.getElem_cons_zero, List.getElem_cons_succ, Act.put, List.setIfInBounds_toArray, List.set_cons_zero, List.set_cons_succ]
        refine wpAnyH_all (show Region.ready .any _ _ = [1, 4] by kernel_rfl) (by simp) fun x hx => ?_
        rcases (by simpa using hx : x = 1 ∨ x = 4) with rfl | rfl
        · clear hx
          refine wpOp_one 1 _ rfl (by kernel_rfl) fun K hK => ?_
          have hc12 := hI0.sig.cell (j := 2) rfl
          go_simp
          refine hK _ _ ⟨hS0, ?_⟩
          clear hK K
          try simp only [List.getElem_toArray, List.getElem_cons_zero, List.getElem_cons_succ, Act.put, List.setIfInBounds_toArray, List.set_cons_zero, List.set_cons_succ]
          refine wpAnyH_one 4 _ rfl (by kernel_rfl) (by kernel_rfl) ?_
          intro K hK
          go_simp
          refine (other_any (k : Int) bt (by have := unhide HKK; omega) W).mono ?_; rintro x V_13 ⟨rfl, hB13⟩
          have hI13 := hI0.keep hB13
          have hP13 := hP0.keep hB13
          have hS13 : VsAt V_13 N8 83 (otkL A' m' OPH) ∧ VsAt V_13 NP 86 [.int .u8 (k : Int), .int .u8 (bt : Int)] := ⟨hI13.gk.vs (unhide HO8) (by have := unhide HLOW; omega) (by have := unhide HLOW; omega), hP13⟩
          dsimp only
          refine hK _ _ hS13 ?_
          clear hK K
          try simp only [List.getElem_toArray, List.getElem_cons_zero, List.getElem_cons_succ, Act.put, List.setIfInBounds_toArray, List.set_cons_zero, List.set_cons_succ]
          refine wpAnyH_one 5 _ rfl (by kernel_rfl) (by kernel_rfl) ?_
          intro K hK
          go_simp
          have hcal := hash_any' V_13 A' m' (begS seed used) OPH (hI13.gk.otk (unhide HOT8) (unhide HLO)) (k : Int) ((1 - bt : Nat) : Int) (byt_nat k (by have := unhide HKK; omega)) (byt_nat (1 - bt) (by have := unhide HKK; omega)) (hI13.gk.tab (unhide HT8) (by have := unhide HLOW; omega) (by have := unhide HLOW; omega))
          rw [show hashF (OPH ++ hashF (begS seed used ++ [(k : Int), ((1 - bt : Nat) : Int)])) = E from (unhide HE).symm, show dv E = .agg ce by rw [unhide HCE]] at hcal
          refine hcal.mono ?_; rintro x V_14 ⟨rfl, hB14⟩
          have hI14 := hI13.keep hB14
          have hP14 := hP13.keep hB14
          have hS14 : VsAt V_14 N8 83 (otkL A' m' OPH) ∧ VsAt V_14 NP 86 [.int .u8 (k : Int), .int .u8 (bt : Int)] := ⟨hI14.gk.vs (unhide HO8) (by have := unhide HLOW; omega) (by have := unhide HLOW; omega), hP14⟩
          dsimp only
          refine hK _ _ hS14 ?_
          clear hK K
          try simp only [List.getElem_toArray, List.getElem_cons_zero, List.getElem_cons_succ, Act.put, List.setIfInBounds_toArray, List.set_cons_zero, List.set_cons_succ]
          refine wpAnyH_one 6 _ rfl (by kernel_rfl) (by kernel_rfl) ?_
          intro K hK
          go_simp
          rw [overwritten hse (by rfl)]
          generalize hX15 : V_14.alloc _ = V_15
          have hB15 : Below V_14.heap.size V_14 V_15 := hX15 ▸ (Below.refl _ _).alloc (Nat.le_refl _) _
          have hM15 : ByAt V_15 V_14.heap.size 24 E := boxed V_14 V_15 E _ (by rw [← hX15, unhide HCE]; rfl)
          have hI15 := hI14.keep hB15
          have hP15 := hP14.keep hB15
          have hS15 : VsAt V_15 N8 83 (otkL A' m' OPH) ∧ VsAt V_15 NP 86 [.int .u8 (k : Int), .int .u8 (bt : Int)] := ⟨hI15.gk.vs (unhide HO8) (by have := unhide HLOW; omega) (by have := unhide HLOW; omega), hP15⟩
          clear hX15
          refine hK _ _ hS15 ?_
          clear hK K
          try simp only [List.getElem_toArray, List.getElem_cons_zero, List.getElem_cons_succ, Act.put, List.setIfInBounds_toArray, List.set_cons_zero, List.set_cons_succ]
          refine wpAnyH_chainOf [7, 8, 9] _ _ _ (by kernel_rfl) (by kernel_rfl) ?_
          simp only [List.filterMap_cons, List.filterMap_nil, List.getElem?_toArray, List.getElem?_cons_zero, List.getElem?_cons_succ]
          refine wpChain_step rfl fun K hK => ?_
          obtain ⟨AN, capN, WN, hr, hcN, hfN, hg, hIN⟩ := hI15.stepC (by have := unhide HKK; omega) (V_14.heap.size) 1 E (unhide HGE) (by rw [unhide HE, (unhide HKK).2.2.1]) hM15 26
          refine wp_append (.tmp 57) (.tmp 62) 26 rfl _ _ _ WN rfl rfl hr ?_
          have hPN := hP15.grown hg (unhide HNP).2.1
          have hSN : VsAt WN N8 83 (otkL A' m' OPH) ∧ VsAt WN NP 86 [.int .u8 (k : Int), .int .u8 (bt : Int)] := ⟨hS15.1.grown hg (fun e => by have := (hI15.cl.lt _ e).1; have := unhide HLOW; omega), hPN⟩
          refine hK _ _ hSN ?_
          clear hK K
          refine wpChain_step rfl fun K hK => ?_
          go_simp
          refine hK _ _ hSN ?_
          clear hK K
          refine wpChain_step rfl fun K hK => ?_
          go_simp
          refine hK _ _ ⟨hIN.gk.vs (unhide HO8) (by have := unhide HLOW; omega) (by have := unhide HLOW; omega), vs_set hPN (unhide HNP).2.2⟩ (wpChain_nil ?_)
          clear hK K
          have HIN := hide hIN
          go_wp2_with fail
          go_roundg g
          case measure => omega
          case rel => exact ⟨k + 1, _, _, by have := unhide HKK; omega, by push_cast; rfl, unhide HIN⟩
        · clear hx
          refine wpOp_one 4 _ rfl (by kernel_rfl) fun K hK => ?_
          go_simp
          refine (other_any (k : Int) bt (by have := unhide HKK; omega) W).mono ?_; rintro x V_17 ⟨rfl, hB17⟩
          have hI17 := hI0.keep hB17
          have hP17 := hP0.keep hB17
          have hS17 : VsAt V_17 N8 83 (otkL A' m' OPH) ∧ VsAt V_17 NP 86 [.int .u8 (k : Int), .int .u8 (bt : Int)] := ⟨hI17.gk.vs (unhide HO8) (by have := unhide HLOW; omega) (by have := unhide HLOW; omega), hP17⟩
          dsimp only
          refine hK _ _ ⟨hS17, ?_⟩
          clear hK K
          try simp only [List.getElem_toArray, List.getElem_cons_zero, List.getElem_cons_succ, Act.put, List.setIfInBounds_toArray, List.set_cons_zero, List.set_cons_succ]
          refine wpAnyH_all (show Region.ready .any _ _ = [1, 5] by kernel_rfl) (by simp) fun x hx => ?_
          rcases (by simpa using hx : x = 1 ∨ x = 5) with rfl | rfl
          · clear hx
            refine wpOp_one 1 _ rfl (by kernel_rfl) fun K hK => ?_
            have hc18 := hI17.sig.cell (j := 2) rfl
            go_simp
            refine hK _ _ ⟨hS17, ?_⟩
            clear hK K
            try simp only [List.getElem_toArray, List.getElem_cons_zero, List.getElem_cons_succ, Act.put, List.setIfInBounds_toArray, List.set_cons_zero, List.set_cons_succ]
            refine wpAnyH_one 5 _ rfl (by kernel_rfl) (by kernel_rfl) ?_
            intro K hK
            go_simp
            have hcal := hash_any' V_17 A' m' (begS seed used) OPH (hI17.gk.otk (unhide HOT8) (unhide HLO)) (k : Int) ((1 - bt : Nat) : Int) (byt_nat k (by have := unhide HKK; omega)) (byt_nat (1 - bt) (by have := unhide HKK; omega)) (hI17.gk.tab (unhide HT8) (by have := unhide HLOW; omega) (by have := unhide HLOW; omega))
            rw [show hashF (OPH ++ hashF (begS seed used ++ [(k : Int), ((1 - bt : Nat) : Int)])) = E from (unhide HE).symm, show dv E = .agg ce by rw [unhide HCE]] at hcal
            refine hcal.mono ?_; rintro x V_19 ⟨rfl, hB19⟩
            have hI19 := hI17.keep hB19
            have hP19 := hP17.keep hB19
            have hS19 : VsAt V_19 N8 83 (otkL A' m' OPH) ∧ VsAt V_19 NP 86 [.int .u8 (k : Int), .int .u8 (bt : Int)] := ⟨hI19.gk.vs (unhide HO8) (by have := unhide HLOW; omega) (by have := unhide HLOW; omega), hP19⟩
            dsimp only
            refine hK _ _ hS19 ?_
            clear hK K
            try simp only [List.getElem_toArray, List.getElem_cons_zero, List.getElem_cons_succ, Act.put, List.setIfInBounds_toArray, List.set_cons_zero, List.set_cons_succ]
            refine wpAnyH_one 6 _ rfl (by kernel_rfl) (by kernel_rfl) ?_
            intro K hK
            go_simp
            rw [overwritten hse (by rfl)]
            generalize hX20 : V_19.alloc _ = V_20
            have hB20 : Below V_19.heap.size V_19 V_20 := hX20 ▸ (Below.refl _ _).alloc (Nat.le_refl _) _
            have hM20 : ByAt V_20 V_19.heap.size 24 E := boxed V_19 V_20 E _ (by rw [← hX20, unhide HCE]; rfl)
            have hI20 := hI19.keep hB20
            have hP20 := hP19.keep hB20
            have hS20 : VsAt V_20 N8 83 (otkL A' m' OPH) ∧ VsAt V_20 NP 86 [.int .u8 (k : Int), .int .u8 (bt : Int)] := ⟨hI20.gk.vs (unhide HO8) (by have := unhide HLOW; omega) (by have := unhide HLOW; omega), hP20⟩
            clear hX20
            refine hK _ _ hS20 ?_
            clear hK K
            try simp only [List.getElem_toArray, List.getElem_cons_zero, List.getElem_cons_succ, Act.put, List.setIfInBounds_toArray, List.set_cons_zero, List.set_cons_succ]
            refine wpAnyH_chainOf [7, 8, 9] _ _ _ (by kernel_rfl) (by kernel_rfl) ?_
            simp only [List.filterMap_cons, List.filterMap_nil, List.getElem?_toArray, List.getElem?_cons_zero, List.getElem?_cons_succ]
            refine wpChain_step rfl fun K hK => ?_
            obtain ⟨AN, capN, WN, hr, hcN, hfN, hg, hIN⟩ := hI20.stepC (by have := unhide HKK; omega) (V_19.heap.size) 1 E (unhide HGE) (by rw [unhide HE, (unhide HKK).2.2.1]) hM20 26
            refine wp_append (.tmp 57) (.tmp 62) 26 rfl _ _ _ WN rfl rfl hr ?_
            have hPN := hP20.grown hg (unhide HNP).2.1
            have hSN : VsAt WN N8 83 (otkL A' m' OPH) ∧ VsAt WN NP 86 [.int .u8 (k : Int), .int .u8 (bt : Int)] := ⟨hS20.1.grown hg (fun e => by have := (hI20.cl.lt _ e).1; have := unhide HLOW; omega), hPN⟩
            refine hK _ _ hSN ?_
            clear hK K
            refine wpChain_step rfl fun K hK => ?_
            go_simp
            refine hK _ _ hSN ?_
            clear hK K
            refine wpChain_step rfl fun K hK => ?_
            go_simp
            refine hK _ _ ⟨hIN.gk.vs (unhide HO8) (by have := unhide HLOW; omega) (by have := unhide HLOW; omega), vs_set hPN (unhide HNP).2.2⟩ (wpChain_nil ?_)
            clear hK K
            have HIN := hide hIN
            go_wp2_with fail
            go_roundg g
            case measure => omega
            case rel => exact ⟨k + 1, _, _, by have := unhide HKK; omega, by push_cast; rfl, unhide HIN⟩
          · clear hx
            refine wpOp_one 5 _ rfl (by kernel_rfl) fun K hK => ?_
            go_simp
            have hcal := hash_any' V_17 A' m' (begS seed used) OPH (hI17.gk.otk (unhide HOT8) (unhide HLO)) (k : Int) ((1 - bt : Nat) : Int) (byt_nat k (by have := unhide HKK; omega)) (byt_nat (1 - bt) (by have := unhide HKK; omega)) (hI17.gk.tab (unhide HT8) (by have := unhide HLOW; omega) (by have := unhide HLOW; omega))
            rw [show hashF (OPH ++ hashF (begS seed used ++ [(k : Int), ((1 - bt : Nat) : Int)])) = E from (unhide HE).symm, show dv E = .agg ce by rw [unhide HCE]] at hcal
            refine hcal.mono ?_; rintro x V_22 ⟨rfl, hB22⟩
            have hI22 := hI17.keep hB22
            have hP22 := hP17.keep hB22
            have hS22 : VsAt V_22 N8 83 (otkL A' m' OPH) ∧ VsAt V_22 NP 86 [.int .u8 (k : Int), .int .u8 (bt : Int)] := ⟨hI22.gk.vs (unhide HO8) (by have := unhide HLOW; omega) (by have := unhide HLOW; omega), hP22⟩
            dsimp only
            refine hK _ _ ⟨hS22, ?_⟩
            clear hK K
            try simp only [List.getElem_toArray, List.getElem_cons_zero, List.getElem_cons_succ, Act.put, List.setIfInBounds_toArray, List.set_cons_zero, List.set_cons_succ]
            refine wpAnyH_all (show Region.ready .any _ _ = [1, 6] by kernel_rfl) (by simp) fun x hx => ?_
            rcases (by simpa using hx : x = 1 ∨ x = 6) with rfl | rfl
            · clear hx
              refine wpOp_one 1 _ rfl (by kernel_rfl) fun K hK => ?_
              have hc23 := hI22.sig.cell (j := 2) rfl
              go_simp
              refine hK _ _ ⟨hS22, ?_⟩
              clear hK K
              try simp only [List.getElem_toArray, List.getElem_cons_zero, List.getElem_cons_succ, Act.put, List.setIfInBounds_toArray, List.set_cons_zero, List.set_cons_succ]
              refine wpAnyH_one 6 _ rfl (by kernel_rfl) (by kernel_rfl) ?_
              intro K hK
              go_simp
              rw [overwritten hse (by rfl)]
              generalize hX24 : V_22.alloc _ = V_24
              have hB24 : Below V_22.heap.size V_22 V_24 := hX24 ▸ (Below.refl _ _).alloc (Nat.le_refl _) _
              have hM24 : ByAt V_24 V_22.heap.size 24 E := boxed V_22 V_24 E _ (by rw [← hX24, unhide HCE]; rfl)
              have hI24 := hI22.keep hB24
              have hP24 := hP22.keep hB24
              have hS24 : VsAt V_24 N8 83 (otkL A' m' OPH) ∧ VsAt V_24 NP 86 [.int .u8 (k : Int), .int .u8 (bt : Int)] := ⟨hI24.gk.vs (unhide HO8) (by have := unhide HLOW; omega) (by have := unhide HLOW; omega), hP24⟩
              clear hX24
              refine hK _ _ hS24 ?_
              clear hK K
              try simp only [List.getElem_toArray, List.getElem_cons_zero, List.getElem_cons_succ, Act.put, List.setIfInBounds_toArray, List.set_cons_zero, List.set_cons_succ]
              refine wpAnyH_chainOf [7, 8, 9] _ _ _ (by kernel_rfl) (by kernel_rfl) ?_
              simp only [List.filterMap_cons, List.filterMap_nil, List.getElem?_toArray, List.getElem?_cons_zero, List.getElem?_cons_succ]
              refine wpChain_step rfl fun K hK => ?_
              obtain ⟨AN, capN, WN, hr, hcN, hfN, hg, hIN⟩ := hI24.stepC (by have := unhide HKK; omega) (V_22.heap.size) 1 E (unhide HGE) (by rw [unhide HE, (unhide HKK).2.2.1]) hM24 26
              refine wp_append (.tmp 57) (.tmp 62) 26 rfl _ _ _ WN rfl rfl hr ?_
              have hPN := hP24.grown hg (unhide HNP).2.1
              have hSN : VsAt WN N8 83 (otkL A' m' OPH) ∧ VsAt WN NP 86 [.int .u8 (k : Int), .int .u8 (bt : Int)] := ⟨hS24.1.grown hg (fun e => by have := (hI24.cl.lt _ e).1; have := unhide HLOW; omega), hPN⟩
              refine hK _ _ hSN ?_
              clear hK K
              refine wpChain_step rfl fun K hK => ?_
              go_simp
              refine hK _ _ hSN ?_
              clear hK K
              refine wpChain_step rfl fun K hK => ?_
              go_simp
              refine hK _ _ ⟨hIN.gk.vs (unhide HO8) (by have := unhide HLOW; omega) (by have := unhide HLOW; omega), vs_set hPN (unhide HNP).2.2⟩ (wpChain_nil ?_)
              clear hK K
              have HIN := hide hIN
              go_wp2_with fail
              go_roundg g
              case measure => omega
              case rel => exact ⟨k + 1, _, _, by have := unhide HKK; omega, by push_cast; rfl, unhide HIN⟩
            · clear hx
              refine wpOp_one 6 _ rfl (by kernel_rfl) fun K hK => ?_
              go_simp
              rw [overwritten hse (by rfl)]
              generalize hX26 : V_22.alloc _ = V_26
              have hB26 : Below V_22.heap.size V_22 V_26 := hX26 ▸ (Below.refl _ _).alloc (Nat.le_refl _) _
              have hM26 : ByAt V_26 V_22.heap.size 24 E := boxed V_22 V_26 E _ (by rw [← hX26, unhide HCE]; rfl)
              have hI26 := hI22.keep hB26
              have hP26 := hP22.keep hB26
              have hS26 : VsAt V_26 N8 83 (otkL A' m' OPH) ∧ VsAt V_26 NP 86 [.int .u8 (k : Int), .int .u8 (bt : Int)] := ⟨hI26.gk.vs (unhide HO8) (by have := unhide HLOW; omega) (by have := unhide HLOW; omega), hP26⟩
              clear hX26
              refine hK _ _ ⟨hS26, ?_⟩
              clear hK K
              try simp only [List.getElem_toArray, List.getElem_cons_zero, List.getElem_cons_succ, Act.put, List.setIfInBounds_toArray, List.set_cons_zero, List.set_cons_succ]
              refine wpAnyH_one 1 _ rfl (by kernel_rfl) (by kernel_rfl) ?_
              intro K hK
              have hc27 := hI26.sig.cell (j := 2) rfl
              go_simp
              refine hK _ _ hS26 ?_
              clear hK K
              try simp only [List.getElem_toArray, List.getElem_cons_zero, List.getElem_cons_succ, Act.put, List.setIfInBounds_toArray, List.set_cons_zero, List.set_cons_succ]
              refine wpAnyH_chainOf [7, 8, 9] _ _ _ (by kernel_rfl) (by kernel_rfl) ?_
              simp only [List.filterMap_cons, List.filterMap_nil, List.getElem?_toArray, List.getElem?_cons_zero, List.getElem?_cons_succ]
              refine wpChain_step rfl fun K hK => ?_
              obtain ⟨AN, capN, WN, hr, hcN, hfN, hg, hIN⟩ := hI26.stepC (by have := unhide HKK; omega) (V_22.heap.size) 1 E (unhide HGE) (by rw [unhide HE, (unhide HKK).2.2.1]) hM26 26
              refine wp_append (.tmp 57) (.tmp 62) 26 rfl _ _ _ WN rfl rfl hr ?_
              have hPN := hP26.grown hg (unhide HNP).2.1
              have hSN : VsAt WN N8 83 (otkL A' m' OPH) ∧ VsAt WN NP 86 [.int .u8 (k : Int), .int .u8 (bt : Int)] := ⟨hS26.1.grown hg (fun e => by have := (hI26.cl.lt _ e).1; have := unhide HLOW; omega), hPN⟩
              refine hK _ _ hSN ?_
              clear hK K
              refine wpChain_step rfl fun K hK => ?_
              go_simp
              refine hK _ _ hSN ?_
              clear hK K
              refine wpChain_step rfl fun K hK => ?_
              go_simp
              refine hK _ _ ⟨hIN.gk.vs (unhide HO8) (by have := unhide HLOW; omega) (by have := unhide HLOW; omega), vs_set hPN (unhide HNP).2.2⟩ (wpChain_nil ?_)
              clear hK K
              have HIN := hide hIN
              go_wp2_with fail
              go_roundg g
              case measure => omega
              case rel => exact ⟨k + 1, _, _, by have := unhide HKK; omega, by push_cast; rfl, unhide HIN⟩
end Go.Proofs.YtceppmajbkmbdaaDoor
