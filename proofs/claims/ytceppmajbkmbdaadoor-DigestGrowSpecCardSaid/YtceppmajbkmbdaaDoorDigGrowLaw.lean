/- The law DigestGrowSpec: Grow and Grew are the reference's. -/
import Derived.Test.YtceppmajbkmbdaaDoorDigGrowRef
import Derived.Test.YtceppmajbkmbdaaDoorDigTwo
import Derived.Test.YtceppmajbkmbdaaDoorClose
import Derived.Deep.DeepCutAuto
namespace Go.Proofs.YtceppmajbkmbdaaDoor
set_option linter.unusedSimpArgs false
set_option linter.unusedVariables false
open Go.RowKit Go.LawClose

set_option maxRecDepth 100000 in
set_option maxHeartbeats 8000000 in
theorem growSpec_any (A : Option Addr) (c : Nat) (l : List Int) (at_ nn : Int) (d : List Int) (hd : Dg d) (w : World) (hA : Bt w A l) (hc : l.length ≤ c) (h63 : l.length ≤ 140737488351232) (hT : DTab w) :
    Calls Tryd.prog 4 #[.slice A l.length c, .int .i64 at_, .int .i64 nn, dv d] w (LawOk w) := by
  have HT := hide hT
  have HA := hide hA
  have HD := hide hd
  have HC : Hid (l.length ≤ c ∧ l.length ≤ 140737488351232) := ⟨hc, h63⟩
  obtain ⟨cd, hcd⟩ : ∃ cs, cs = (d.map (Value.int .u8)).toArray := ⟨_, rfl⟩
  have hsd : cd.size = 32 := by rw [hcd]; simpa using hd.len
  have HCD := hide hcd
  rw [show dv d = .agg cd by rw [hcd]]
  clear hT hA hc h63 hd hcd
  go_enter Tryd.func4, Tryd.ntmps4
  go_upto_region 1 with fail
  generalize hX1 : w.alloc _ = W1
  have hB1 : Below w.heap.size w W1 := hX1 ▸ (Below.refl _ _).alloc (Nat.le_refl _) _
  have ho1 : ByAt W1 w.heap.size 24 d := boxed w W1 d _ (by rw [← hX1]; first | rfl | (rw [unhide HCD]; rfl))
  have HB1 := hide hB1
  have HO1 := hide ho1
  clear hX1 hB1 ho1
  go_wp2_with fail
  refine (sane_any W1 ((unhide HT).keep (unhide HB1))).mono ?_; rintro x W2 ⟨rfl, hB2⟩
  have HB2 := hide (thenB (unhide HB1) hB2)
  have HO2 := hide ((unhide HO1).keep hB2)
  clear hB2 HB1 HO1
  go_wp2_with fail
  refine (of_any A c l W2 ((unhide HA).keep (unhide HB2)) (unhide HC).1 (unhide HC).2).mono ?_; rintro x W3 ⟨⟨v, rfl, hown⟩, hB3⟩
  obtain ⟨AL, cL, rfl, hcL, hds⟩ := hown.ds (dg_dsP l)
  have h24 : (dsP l).length ≤ 24 := by rw [dsP_length]; exact Nat.min_le_right _ _
  obtain ⟨L, hL⟩ : ∃ L, L = dsP l := ⟨_, rfl⟩
  rw [← hL] at hds hcL h24 ⊢
  obtain ⟨n, hn⟩ : ∃ n, n = L.length := ⟨_, rfl⟩
  rw [← hn]
  have HB3 := hide (thenB (unhide HB2) hB3)
  have HO3 := hide ((unhide HO2).keep hB3)
  have HDS := hide hds
  have HN : Hid (n = L.length ∧ n ≤ cL ∧ n ≤ 24) := ⟨hn, by omega, by omega⟩
  have HT3 := hide ((unhide HT).keep (unhide HB3))
  clear hown hL hcL hds h24 hB3 HB2 HA HC hn HT HO2
  obtain ⟨T, hTd⟩ : ∃ T, T = treeD L := ⟨_, rfl⟩
  have hgT : Dg T := hTd ▸ dg_treeD _
  obtain ⟨ct, hct⟩ : ∃ cs, cs = (T.map (Value.int .u8)).toArray := ⟨_, rfl⟩
  have hst : ct.size = 32 := by rw [hct]; simpa using hgT.len
  have HTR : Hid (∀ V, Below W3.heap.size W3 V → Calls Tryd.prog 16 #[.slice AL n cL] V fun x w' => x = .returned (.agg ct) ∧ Below V.heap.size V w') := fun V hV => by
    have := rtree_any V cL AL L ((unhide HDS).keep hV) (by have := unhide HN; omega) (by have := unhide HN; omega)
    rw [← (unhide HN).1, ← hTd, show dv T = .agg ct by rw [hct]] at this
    exact this
  have HGT := hide hgT; have HCT := hide hct
  clear hTd hgT hct
  go_upto_region 4 with fail
  refine wp_region_lit ?_
  refine wpList_plain rfl fun Kt hKt => ?_
  go_simp
  refine hKt _ _ ?_
  clear hKt Kt
  refine wpList_plain rfl fun Kt hKt => ?_
  go_simp
  refine hKt _ _ ?_
  clear hKt Kt
  refine wpList_plain rfl fun Kt hKt => ?_
  go_simp
  refine hKt _ _ ?_
  clear hKt Kt
  obtain ⟨b, hb⟩ : ∃ b, b = bits BinOp.and IntKind.i64 at_ 31 := ⟨_, rfl⟩
  rw [← hb]
  clear hb
  refine wpList_plain rfl fun Kt hKt => ?_
  go_simp
  refine hKt _ _ ?_
  clear hKt Kt
  generalize hX : W3.alloc _ = V0
  have hv0 : Below W3.heap.size W3 V0 := hX ▸ (Below.refl _ _).alloc (Nat.le_refl _) _
  have HB0 := hide (thenB (unhide HB3) hv0)
  have HO0 := hide ((unhide HO3).keep hv0)
  have HDS0 := hide ((unhide HDS).keep hv0)
  have HT0 := hide ((unhide HT3).keep hv0)
  have HV30 := hide hv0
  obtain ⟨TA, hTA⟩ : ∃ T, T = W3.heap.size := ⟨_, rfl⟩
  have HTA : Hid (V0.heap[TA]? = some (.cells #[.int .i64 at_, .int .i64 b] 3 (0, 0))) := by
    show V0.heap[TA]? = _
    rw [← hX, hTA]
    show (W3.heap.push _)[W3.heap.size]? = _
    rw [Array.getElem?_push_size]
  rw [← hTA]
  clear hX hv0 HB3 HO3 HDS HT3 hTA
  go_wp2_with fail
  go_loopg [32] 2 (fun g y32 wx => ∃ j : Nat, y32 = .int .i64 (j : Int) ∧ j + g = 2 ∧ Below V0.heap.size V0 wx)
  case atStart => exact ⟨0, rfl, by omega, Below.refl _ _⟩
  case round =>
    obtain ⟨j, rfl, hjg, hbj⟩ := hrel
    have HBJ := hide (thenB (unhide HB0) hbj)
    by_cases hj : j < 2
    · obtain ⟨g2, rfl⟩ : ∃ g, gk = g + 1 := ⟨gk - 1, by omega⟩
      have j1 : (j : Int) < 2 := by omega
      have j0 : (0 : Int) ≤ (j : Int) := Int.natCast_nonneg _
      have wj : IntKind.i64.wrap ((j : Int) + 1) = ((j + 1 : Nat) : Int) := (IntWalk.i64_in _ (by omega)).trans (by omega)
      obtain ⟨i, hci⟩ : ∃ i : Int, wr.cell? ⟨TA, j, none⟩ = some (.int .i64 i) := by
        have hblk : wr.heap[TA]? = some (.cells #[.int .i64 at_, .int .i64 b] 3 (0, 0)) := (hbj.block TA (lt_of_block (unhide HTA))).trans (unhide HTA)
        obtain rfl | rfl : j = 0 ∨ j = 1 := by omega
        · exact ⟨at_, by simp [World.cell?, hblk]⟩
        · exact ⟨b, by simp [World.cell?, hblk]⟩
      have HJ : Hid (j + (g2 + 1) = 2 ∧ j < 2) := ⟨hjg, hj⟩
      have HV := hide hbj
      have HDJ := hide ((unhide HDS0).keep hbj)
      have HTJ := hide ((unhide HT0).keep hbj)
      have HOJ := hide ((unhide HO0).keep hbj)
      have HV3J := hide (thenB (unhide HV30) hbj)
      clear hbj hjg hj
      have hp1 := Grow_all L i AL cL wr (unhide HDJ) (by have := unhide HN; omega) (by have := unhide HN; omega) (unhide HTJ)
      have hp2 : ∀ V, Below wr.heap.size wr V → GrowC 23 L i AL cL V := fun V hV => rGrow_all L i AL cL V ((unhide HDJ).keep hV) (by have := unhide HN; omega) (by have := unhide HN; omega)
      unfold GrowC at hp1 hp2
      rw [← (unhide HN).1] at hp1 hp2
      obtain ⟨E, hE⟩ : ∃ E, E = gerr n i := ⟨_, rfl⟩
      obtain ⟨q, hq⟩ : ∃ q, q = growI L i := ⟨_, rfl⟩
      have hgq : ∀ d ∈ q, Dg d := hq ▸ dg_growI L i
      have hql : q.length ≤ 24 := by rw [hq]; have := growI_len L i; have := unhide HN; omega
      rw [← hE, ← hq] at hp1 hp2
      obtain ⟨m, hm⟩ : ∃ m, m = q.length := ⟨_, rfl⟩
      have HP1 := hide hp1
      have HP2 := hide hp2
      have HQ : Hid (m = q.length ∧ m ≤ 24 ∧ ∀ d ∈ q, Dg d) := ⟨hm, by omega, hgq⟩
      have HE := hide hE
      clear hp1 hp2 hE hq hgq hql hm
      go_wp2_with fail
      refine (unhide HP1).mono ?_; rintro x V1 ⟨⟨v1, rfl, ho1⟩, hb1⟩
      obtain ⟨A1, c1, rfl, hc1, hds1, _⟩ := own_form ho1 (unhide HQ).2.2
      rw [← (unhide HQ).1] at hc1 ⊢
      have HD1 := hide hds1
      have HC1 := hide hc1
      have HBK1 := hide hb1
      clear hb1 ho1 hds1 hc1 HP1
      go_wp2_with fail
      refine ((unhide HP2) V1 (unhide HBK1)).mono ?_; rintro x V2_ ⟨⟨v2, rfl, ho2⟩, hb2⟩
      obtain ⟨A2, c2, rfl, hc2, hds2, hn2⟩ := own_form ho2 (unhide HQ).2.2
      rw [← (unhide HQ).1] at hc2 ⊢
      have HD2 := hide hds2
      have HC2 : Hid (m ≤ c2 ∧ (A2 = none → c2 = 0)) := ⟨hc2, hn2⟩
      have HBK2 := hide (thenB (unhide HBK1) hb2)
      have HD1' := hide ((unhide HD1).keep hb2)
      clear hb2 ho2 hds2 hc2 hn2 HP2 HD1 HBK1
      go_wp2_with fail
      refine (rsame_any V2_ m q (unhide HQ).1 (by have := unhide HQ; omega) A1 c1 (unhide HC1) (unhide HD1') A2 c2 (unhide HC2).1 (unhide HD2)).mono ?_; rintro x V3 ⟨rfl, hb3⟩
      have HBK3 := hide (thenB (unhide HBK2) hb3)
      have HD3 := hide ((unhide HD2).keep hb3)
      have HVV := hide (thenB (unhide HV) (unhide HBK3))
      have HO3' := hide ((unhide HOJ).keep (unhide HBK3))
      have HT3' := hide ((unhide HTJ).keep (unhide HBK3))
      have HDL3 := hide ((unhide HDJ).keep (unhide HBK3))
      have HV33 := hide (thenB (unhide HV3J) (unhide HBK3))
      clear hb3 HD1' HD2 HBK2 HC1 HBK3 HV HDJ HTJ HOJ HV3J
      go_upto_region 11 with fail
      go_cut [16, 17] (fun y16 y17 wx => ∃ N16 N17 : Nat, y16 = .pointer (some ⟨N16, 0, none⟩) ∧ y17 = .pointer (some ⟨N17, 0, none⟩) ∧ N16 ≠ N17 ∧ V3.heap.size ≤ N16 ∧ V3.heap.size ≤ N17 ∧ ByAt wx N16 24 d ∧ ByAt wx N17 24 T ∧ Below V3.heap.size V3 wx)
      case first =>
        obtain ⟨W, hW⟩ : ∃ W, W = V3.drewN 1 := ⟨_, rfl⟩
        have HW : Hid (W = V3.drewN 1) := hW
        have hSW : Below V3.heap.size V3 W := below_named HW
        have HTRW : Hid (∀ V, Below V3.heap.size V3 V → Calls Tryd.prog 16 #[.slice AL n cL] V fun x w' => x = .returned (.agg ct) ∧ Below V.heap.size V w') := fun V hV => (unhide HTR) V (thenB (unhide HV33) hV)
        clear hW
        refine held (S := Below V3.heap.size V3) W HW (by kernel_rfl) ?_
        refine wpAnyH_take (i := 0) (v := .agg cd) rfl (by kernel_rfl) (by kernel_rfl) (by kernel_rfl) (fun _ _ _ h => h) (by rw [unhide HCD]; exact yieldsIf_load_mid (by kernel_rfl) 24 (.tmp 7) rfl w.heap.size 0 rfl (d.map (Value.int .u8)) _ (fun W hS => ((unhide HO3').keep hS).range) Tryd.underlying24 rfl (by rw [List.length_map, (unhide HD).len]; exact info32)) (by assumption) ?_
        try simp only [List.getElem_toArray, List.getElem_cons_zero, List.getElem_cons_succ, Act.put, List.setIfInBounds_toArray, List.set_cons_zero, List.set_cons_succ]
        refine wpAnyH_take (i := 1) (v := ?_) rfl (by kernel_rfl) (by kernel_rfl) (by kernel_rfl) (fun _ _ _ h => h) (Or.inl ⟨by kernel_rfl, ?_⟩) (by assumption) ?_
        rotate_left
        · intro Wt hSt
          go_simp
          try with_reducible rfl
        try simp only [List.getElem_toArray, List.getElem_cons_zero, List.getElem_cons_succ, Act.put, List.setIfInBounds_toArray, List.set_cons_zero, List.set_cons_succ]
        refine wpAnyH_all (show Region.ready .any _ _ = [2, 3, 4] by kernel_rfl) (by simp) fun x hx => ?_
        rcases (by simpa using hx : x = 2 ∨ x = 3 ∨ x = 4) with rfl | rfl | rfl
        · clear hx
          refine wpOp_one 2 _ rfl (by kernel_rfl) fun K hK => ?_
          go_simp
          refine ((unhide HTRW) W hSW).mono ?_; rintro x Z1 ⟨rfl, hb1⟩
          dsimp only
          have hS1 := thenB hSW hb1
          refine hK _ _ ⟨hS1, ?_⟩
          clear hK K
          try simp only [List.getElem_toArray, List.getElem_cons_zero, List.getElem_cons_succ, Act.put, List.setIfInBounds_toArray, List.set_cons_zero, List.set_cons_succ]
          refine wpAnyH_all (show Region.ready .any _ _ = [3, 4] by kernel_rfl) (by simp) fun x hx => ?_
          rcases (by simpa using hx : x = 3 ∨ x = 4) with rfl | rfl
          · clear hx
            refine wpOp_one 3 _ rfl (by kernel_rfl) fun K hK => ?_
            go_simp
            generalize hX2 : Z1.alloc _ = Z2
            have hb2 : Below Z1.heap.size Z1 Z2 := hX2 ▸ (Below.refl _ _).alloc (Nat.le_refl _) _
            have hz2 := newBy Z1 Z2 (by rw [← hX2]; rfl)
            have hS2 := thenB hS1 hb2
            have hle2 : V3.heap.size ≤ Z1.heap.size := hS1.size
            refine hK _ _ ⟨hS2, ?_⟩
            clear hK K
            try simp only [List.getElem_toArray, List.getElem_cons_zero, List.getElem_cons_succ, Act.put, List.setIfInBounds_toArray, List.set_cons_zero, List.set_cons_succ]
            refine wpAnyH_all (show Region.ready .any _ _ = [4] by kernel_rfl) (by simp) fun x hx => ?_
            obtain rfl : x = 4 := by simpa using hx
            clear hx
            refine wpOp_one 4 _ rfl (by kernel_rfl) fun K hK => ?_
            go_simp
            generalize hX3 : Z2.alloc _ = Z3
            have hb3 : Below Z2.heap.size Z2 Z3 := hX3 ▸ (Below.refl _ _).alloc (Nat.le_refl _) _
            have hz3 := newBy Z2 Z3 (by rw [← hX3]; rfl)
            have hS3 := thenB hS2 hb3
            have hle3 : V3.heap.size ≤ Z2.heap.size := hS2.size
            have hk3_3 := hz2.keep hb3
            have hlt3_3 : Z1.heap.size < Z2.heap.size := lt_of_block hz2
            refine hK _ _ ⟨hS3, ?_⟩
            clear hK K
            try simp only [List.getElem_toArray, List.getElem_cons_zero, List.getElem_cons_succ, Act.put, List.setIfInBounds_toArray, List.set_cons_zero, List.set_cons_succ]
            refine wpAnyH_chainOf [5, 6] _ _ _ (by kernel_rfl) (by kernel_rfl) ?_
            simp only [List.filterMap_cons, List.filterMap_nil, List.getElem?_toArray, List.getElem?_cons_zero, List.getElem?_cons_succ]
            refine wpChain_bstore rfl 24 (.tmp 16) (.tmp 57) rfl Z1.heap.size rfl d (show Value.agg cd = _ by rw [unhide HCD]) 32 info32 (unhide HD).len _ zeros hk3_3 rfl ?_
            intro X1 HX1 HGx1
            have hSx1 := hS3.grown (unhide HGx1) hS3.size (fun i e => by injection e with e; omega)
            have hz17 := hz3.grown (unhide HGx1) (by omega)
            refine ⟨hSx1, ?_⟩
            refine wpChain_bstore rfl 24 (.tmp 17) (.tmp 59) rfl Z2.heap.size rfl T (show Value.agg ct = _ by rw [unhide HCT]) 32 info32 (unhide HGT).len _ zeros hz17 rfl ?_
            intro X2 HX2 HGx2
            have hSx2 := hSx1.grown (unhide HGx2) hSx1.size (fun i e => by injection e with e; omega)
            have hz16 := (unhide HX1).grown (unhide HGx2) (by omega)
            refine ⟨hSx2, wpChain_nil ?_⟩
            go_wp2_with fail
            go_meet
            exact ⟨_, _, rfl, rfl, by omega, by omega, by omega, hz16, unhide HX2, hSx2⟩
          · clear hx
            refine wpOp_one 4 _ rfl (by kernel_rfl) fun K hK => ?_
            go_simp
            generalize hX4 : Z1.alloc _ = Z4
            have hb4 : Below Z1.heap.size Z1 Z4 := hX4 ▸ (Below.refl _ _).alloc (Nat.le_refl _) _
            have hz4 := newBy Z1 Z4 (by rw [← hX4]; rfl)
            have hS4 := thenB hS1 hb4
            have hle4 : V3.heap.size ≤ Z1.heap.size := hS1.size
            refine hK _ _ ⟨hS4, ?_⟩
            clear hK K
            try simp only [List.getElem_toArray, List.getElem_cons_zero, List.getElem_cons_succ, Act.put, List.setIfInBounds_toArray, List.set_cons_zero, List.set_cons_succ]
            refine wpAnyH_all (show Region.ready .any _ _ = [3] by kernel_rfl) (by simp) fun x hx => ?_
            obtain rfl : x = 3 := by simpa using hx
            clear hx
            refine wpOp_one 3 _ rfl (by kernel_rfl) fun K hK => ?_
            go_simp
            generalize hX5 : Z4.alloc _ = Z5
            have hb5 : Below Z4.heap.size Z4 Z5 := hX5 ▸ (Below.refl _ _).alloc (Nat.le_refl _) _
            have hz5 := newBy Z4 Z5 (by rw [← hX5]; rfl)
            have hS5 := thenB hS4 hb5
            have hle5 : V3.heap.size ≤ Z4.heap.size := hS4.size
            have hk5_4 := hz4.keep hb5
            have hlt5_4 : Z1.heap.size < Z4.heap.size := lt_of_block hz4
            refine hK _ _ ⟨hS5, ?_⟩
            clear hK K
            try simp only [List.getElem_toArray, List.getElem_cons_zero, List.getElem_cons_succ, Act.put, List.setIfInBounds_toArray, List.set_cons_zero, List.set_cons_succ]
            refine wpAnyH_chainOf [5, 6] _ _ _ (by kernel_rfl) (by kernel_rfl) ?_
            simp only [List.filterMap_cons, List.filterMap_nil, List.getElem?_toArray, List.getElem?_cons_zero, List.getElem?_cons_succ]
            refine wpChain_bstore rfl 24 (.tmp 16) (.tmp 57) rfl Z4.heap.size rfl d (show Value.agg cd = _ by rw [unhide HCD]) 32 info32 (unhide HD).len _ zeros hz5 rfl ?_
            intro X1 HX1 HGx1
            have hSx1 := hS5.grown (unhide HGx1) hS5.size (fun i e => by injection e with e; omega)
            have hz17 := hk5_4.grown (unhide HGx1) (by omega)
            refine ⟨hSx1, ?_⟩
            refine wpChain_bstore rfl 24 (.tmp 17) (.tmp 59) rfl Z1.heap.size rfl T (show Value.agg ct = _ by rw [unhide HCT]) 32 info32 (unhide HGT).len _ zeros hz17 rfl ?_
            intro X2 HX2 HGx2
            have hSx2 := hSx1.grown (unhide HGx2) hSx1.size (fun i e => by injection e with e; omega)
            have hz16 := (unhide HX1).grown (unhide HGx2) (by omega)
            refine ⟨hSx2, wpChain_nil ?_⟩
            go_wp2_with fail
            go_meet
            exact ⟨_, _, rfl, rfl, by omega, by omega, by omega, hz16, unhide HX2, hSx2⟩
        · clear hx
          refine wpOp_one 3 _ rfl (by kernel_rfl) fun K hK => ?_
          go_simp
          generalize hX6 : W.alloc _ = Z6
          have hb6 : Below W.heap.size W Z6 := hX6 ▸ (Below.refl _ _).alloc (Nat.le_refl _) _
          have hz6 := newBy W Z6 (by rw [← hX6]; rfl)
          have hS6 := thenB hSW hb6
          have hle6 : V3.heap.size ≤ W.heap.size := hSW.size
          refine hK _ _ ⟨hS6, ?_⟩
          clear hK K
          try simp only [List.getElem_toArray, List.getElem_cons_zero, List.getElem_cons_succ, Act.put, List.setIfInBounds_toArray, List.set_cons_zero, List.set_cons_succ]
          refine wpAnyH_all (show Region.ready .any _ _ = [2, 4] by kernel_rfl) (by simp) fun x hx => ?_
          rcases (by simpa using hx : x = 2 ∨ x = 4) with rfl | rfl
          · clear hx
            refine wpOp_one 2 _ rfl (by kernel_rfl) fun K hK => ?_
            go_simp
            refine ((unhide HTRW) Z6 hS6).mono ?_; rintro x Z7 ⟨rfl, hb7⟩
            dsimp only
            have hS7 := thenB hS6 hb7
            have hk7_3 := hz6.keep hb7
            refine hK _ _ ⟨hS7, ?_⟩
            clear hK K
            try simp only [List.getElem_toArray, List.getElem_cons_zero, List.getElem_cons_succ, Act.put, List.setIfInBounds_toArray, List.set_cons_zero, List.set_cons_succ]
            refine wpAnyH_all (show Region.ready .any _ _ = [4] by kernel_rfl) (by simp) fun x hx => ?_
            obtain rfl : x = 4 := by simpa using hx
            clear hx
            refine wpOp_one 4 _ rfl (by kernel_rfl) fun K hK => ?_
            go_simp
            generalize hX8 : Z7.alloc _ = Z8
            have hb8 : Below Z7.heap.size Z7 Z8 := hX8 ▸ (Below.refl _ _).alloc (Nat.le_refl _) _
            have hz8 := newBy Z7 Z8 (by rw [← hX8]; rfl)
            have hS8 := thenB hS7 hb8
            have hle8 : V3.heap.size ≤ Z7.heap.size := hS7.size
            have hk8_3 := hk7_3.keep hb8
            have hlt8_3 : W.heap.size < Z7.heap.size := lt_of_block hk7_3
            refine hK _ _ ⟨hS8, ?_⟩
            clear hK K
            try simp only [List.getElem_toArray, List.getElem_cons_zero, List.getElem_cons_succ, Act.put, List.setIfInBounds_toArray, List.set_cons_zero, List.set_cons_succ]
            refine wpAnyH_chainOf [5, 6] _ _ _ (by kernel_rfl) (by kernel_rfl) ?_
            simp only [List.filterMap_cons, List.filterMap_nil, List.getElem?_toArray, List.getElem?_cons_zero, List.getElem?_cons_succ]
            refine wpChain_bstore rfl 24 (.tmp 16) (.tmp 57) rfl W.heap.size rfl d (show Value.agg cd = _ by rw [unhide HCD]) 32 info32 (unhide HD).len _ zeros hk8_3 rfl ?_
            intro X1 HX1 HGx1
            have hSx1 := hS8.grown (unhide HGx1) hS8.size (fun i e => by injection e with e; omega)
            have hz17 := hz8.grown (unhide HGx1) (by omega)
            refine ⟨hSx1, ?_⟩
            refine wpChain_bstore rfl 24 (.tmp 17) (.tmp 59) rfl Z7.heap.size rfl T (show Value.agg ct = _ by rw [unhide HCT]) 32 info32 (unhide HGT).len _ zeros hz17 rfl ?_
            intro X2 HX2 HGx2
            have hSx2 := hSx1.grown (unhide HGx2) hSx1.size (fun i e => by injection e with e; omega)
            have hz16 := (unhide HX1).grown (unhide HGx2) (by omega)
            refine ⟨hSx2, wpChain_nil ?_⟩
            go_wp2_with fail
            go_meet
            exact ⟨_, _, rfl, rfl, by omega, by omega, by omega, hz16, unhide HX2, hSx2⟩
          · clear hx
            refine wpOp_one 4 _ rfl (by kernel_rfl) fun K hK => ?_
            go_simp
            generalize hX9 : Z6.alloc _ = Z9
            have hb9 : Below Z6.heap.size Z6 Z9 := hX9 ▸ (Below.refl _ _).alloc (Nat.le_refl _) _
            have hz9 := newBy Z6 Z9 (by rw [← hX9]; rfl)
            have hS9 := thenB hS6 hb9
            have hle9 : V3.heap.size ≤ Z6.heap.size := hS6.size
            have hk9_3 := hz6.keep hb9
            have hlt9_3 : W.heap.size < Z6.heap.size := lt_of_block hz6
            refine hK _ _ ⟨hS9, ?_⟩
            clear hK K
            try simp only [List.getElem_toArray, List.getElem_cons_zero, List.getElem_cons_succ, Act.put, List.setIfInBounds_toArray, List.set_cons_zero, List.set_cons_succ]
            refine wpAnyH_all (show Region.ready .any _ _ = [2] by kernel_rfl) (by simp) fun x hx => ?_
            obtain rfl : x = 2 := by simpa using hx
            clear hx
            refine wpOp_one 2 _ rfl (by kernel_rfl) fun K hK => ?_
            go_simp
            refine ((unhide HTRW) Z9 hS9).mono ?_; rintro x Z10 ⟨rfl, hb10⟩
            dsimp only
            have hS10 := thenB hS9 hb10
            have hk10_3 := hk9_3.keep hb10
            have hk10_4 := hz9.keep hb10
            refine hK _ _ ⟨hS10, ?_⟩
            clear hK K
            try simp only [List.getElem_toArray, List.getElem_cons_zero, List.getElem_cons_succ, Act.put, List.setIfInBounds_toArray, List.set_cons_zero, List.set_cons_succ]
            refine wpAnyH_chainOf [5, 6] _ _ _ (by kernel_rfl) (by kernel_rfl) ?_
            simp only [List.filterMap_cons, List.filterMap_nil, List.getElem?_toArray, List.getElem?_cons_zero, List.getElem?_cons_succ]
            refine wpChain_bstore rfl 24 (.tmp 16) (.tmp 57) rfl W.heap.size rfl d (show Value.agg cd = _ by rw [unhide HCD]) 32 info32 (unhide HD).len _ zeros hk10_3 rfl ?_
            intro X1 HX1 HGx1
            have hSx1 := hS10.grown (unhide HGx1) hS10.size (fun i e => by injection e with e; omega)
            have hz17 := hk10_4.grown (unhide HGx1) (by omega)
            refine ⟨hSx1, ?_⟩
            refine wpChain_bstore rfl 24 (.tmp 17) (.tmp 59) rfl Z6.heap.size rfl T (show Value.agg ct = _ by rw [unhide HCT]) 32 info32 (unhide HGT).len _ zeros hz17 rfl ?_
            intro X2 HX2 HGx2
            have hSx2 := hSx1.grown (unhide HGx2) hSx1.size (fun i e => by injection e with e; omega)
            have hz16 := (unhide HX1).grown (unhide HGx2) (by omega)
            refine ⟨hSx2, wpChain_nil ?_⟩
            go_wp2_with fail
            go_meet
            exact ⟨_, _, rfl, rfl, by omega, by omega, by omega, hz16, unhide HX2, hSx2⟩
        · clear hx
          refine wpOp_one 4 _ rfl (by kernel_rfl) fun K hK => ?_
          go_simp
          generalize hX11 : W.alloc _ = Z11
          have hb11 : Below W.heap.size W Z11 := hX11 ▸ (Below.refl _ _).alloc (Nat.le_refl _) _
          have hz11 := newBy W Z11 (by rw [← hX11]; rfl)
          have hS11 := thenB hSW hb11
          have hle11 : V3.heap.size ≤ W.heap.size := hSW.size
          refine hK _ _ ⟨hS11, ?_⟩
          clear hK K
          try simp only [List.getElem_toArray, List.getElem_cons_zero, List.getElem_cons_succ, Act.put, List.setIfInBounds_toArray, List.set_cons_zero, List.set_cons_succ]
          refine wpAnyH_all (show Region.ready .any _ _ = [2, 3] by kernel_rfl) (by simp) fun x hx => ?_
          rcases (by simpa using hx : x = 2 ∨ x = 3) with rfl | rfl
          · clear hx
            refine wpOp_one 2 _ rfl (by kernel_rfl) fun K hK => ?_
            go_simp
            refine ((unhide HTRW) Z11 hS11).mono ?_; rintro x Z12 ⟨rfl, hb12⟩
            dsimp only
            have hS12 := thenB hS11 hb12
            have hk12_4 := hz11.keep hb12
            refine hK _ _ ⟨hS12, ?_⟩
            clear hK K
            try simp only [List.getElem_toArray, List.getElem_cons_zero, List.getElem_cons_succ, Act.put, List.setIfInBounds_toArray, List.set_cons_zero, List.set_cons_succ]
            refine wpAnyH_all (show Region.ready .any _ _ = [3] by kernel_rfl) (by simp) fun x hx => ?_
            obtain rfl : x = 3 := by simpa using hx
            clear hx
            refine wpOp_one 3 _ rfl (by kernel_rfl) fun K hK => ?_
            go_simp
            generalize hX13 : Z12.alloc _ = Z13
            have hb13 : Below Z12.heap.size Z12 Z13 := hX13 ▸ (Below.refl _ _).alloc (Nat.le_refl _) _
            have hz13 := newBy Z12 Z13 (by rw [← hX13]; rfl)
            have hS13 := thenB hS12 hb13
            have hle13 : V3.heap.size ≤ Z12.heap.size := hS12.size
            have hk13_4 := hk12_4.keep hb13
            have hlt13_4 : W.heap.size < Z12.heap.size := lt_of_block hk12_4
            refine hK _ _ ⟨hS13, ?_⟩
            clear hK K
            try simp only [List.getElem_toArray, List.getElem_cons_zero, List.getElem_cons_succ, Act.put, List.setIfInBounds_toArray, List.set_cons_zero, List.set_cons_succ]
            refine wpAnyH_chainOf [5, 6] _ _ _ (by kernel_rfl) (by kernel_rfl) ?_
            simp only [List.filterMap_cons, List.filterMap_nil, List.getElem?_toArray, List.getElem?_cons_zero, List.getElem?_cons_succ]
            refine wpChain_bstore rfl 24 (.tmp 16) (.tmp 57) rfl Z12.heap.size rfl d (show Value.agg cd = _ by rw [unhide HCD]) 32 info32 (unhide HD).len _ zeros hz13 rfl ?_
            intro X1 HX1 HGx1
            have hSx1 := hS13.grown (unhide HGx1) hS13.size (fun i e => by injection e with e; omega)
            have hz17 := hk13_4.grown (unhide HGx1) (by omega)
            refine ⟨hSx1, ?_⟩
            refine wpChain_bstore rfl 24 (.tmp 17) (.tmp 59) rfl W.heap.size rfl T (show Value.agg ct = _ by rw [unhide HCT]) 32 info32 (unhide HGT).len _ zeros hz17 rfl ?_
            intro X2 HX2 HGx2
            have hSx2 := hSx1.grown (unhide HGx2) hSx1.size (fun i e => by injection e with e; omega)
            have hz16 := (unhide HX1).grown (unhide HGx2) (by omega)
            refine ⟨hSx2, wpChain_nil ?_⟩
            go_wp2_with fail
            go_meet
            exact ⟨_, _, rfl, rfl, by omega, by omega, by omega, hz16, unhide HX2, hSx2⟩
          · clear hx
            refine wpOp_one 3 _ rfl (by kernel_rfl) fun K hK => ?_
            go_simp
            generalize hX14 : Z11.alloc _ = Z14
            have hb14 : Below Z11.heap.size Z11 Z14 := hX14 ▸ (Below.refl _ _).alloc (Nat.le_refl _) _
            have hz14 := newBy Z11 Z14 (by rw [← hX14]; rfl)
            have hS14 := thenB hS11 hb14
            have hle14 : V3.heap.size ≤ Z11.heap.size := hS11.size
            have hk14_4 := hz11.keep hb14
            have hlt14_4 : W.heap.size < Z11.heap.size := lt_of_block hz11
            refine hK _ _ ⟨hS14, ?_⟩
            clear hK K
            try simp only [List.getElem_toArray, List.getElem_cons_zero, List.getElem_cons_succ, Act.put, List.setIfInBounds_toArray, List.set_cons_zero, List.set_cons_succ]
            refine wpAnyH_all (show Region.ready .any _ _ = [2] by kernel_rfl) (by simp) fun x hx => ?_
            obtain rfl : x = 2 := by simpa using hx
            clear hx
            refine wpOp_one 2 _ rfl (by kernel_rfl) fun K hK => ?_
            go_simp
            refine ((unhide HTRW) Z14 hS14).mono ?_; rintro x Z15 ⟨rfl, hb15⟩
            dsimp only
            have hS15 := thenB hS14 hb15
            have hk15_4 := hk14_4.keep hb15
            have hk15_3 := hz14.keep hb15
            refine hK _ _ ⟨hS15, ?_⟩
            clear hK K
            try simp only [List.getElem_toArray, List.getElem_cons_zero, List.getElem_cons_succ, Act.put, List.setIfInBounds_toArray, List.set_cons_zero, List.set_cons_succ]
            refine wpAnyH_chainOf [5, 6] _ _ _ (by kernel_rfl) (by kernel_rfl) ?_
            simp only [List.filterMap_cons, List.filterMap_nil, List.getElem?_toArray, List.getElem?_cons_zero, List.getElem?_cons_succ]
            refine wpChain_bstore rfl 24 (.tmp 16) (.tmp 57) rfl Z11.heap.size rfl d (show Value.agg cd = _ by rw [unhide HCD]) 32 info32 (unhide HD).len _ zeros hk15_3 rfl ?_
            intro X1 HX1 HGx1
            have hSx1 := hS15.grown (unhide HGx1) hS15.size (fun i e => by injection e with e; omega)
            have hz17 := hk15_4.grown (unhide HGx1) (by omega)
            refine ⟨hSx1, ?_⟩
            refine wpChain_bstore rfl 24 (.tmp 17) (.tmp 59) rfl W.heap.size rfl T (show Value.agg ct = _ by rw [unhide HCT]) 32 info32 (unhide HGT).len _ zeros hz17 rfl ?_
            intro X2 HX2 HGx2
            have hSx2 := hSx1.grown (unhide HGx2) hSx1.size (fun i e => by injection e with e; omega)
            have hz16 := (unhide HX1).grown (unhide HGx2) (by omega)
            refine ⟨hSx2, wpChain_nil ?_⟩
            go_wp2_with fail
            go_meet
            exact ⟨_, _, rfl, rfl, by omega, by omega, by omega, hz16, unhide HX2, hSx2⟩
      case rest =>
        obtain ⟨N16, N17, rfl, rfl, hne, hle16, hle17, h16, h17, hbC⟩ := hcut
        have HNE : Hid (N16 ≠ N17 ∧ V3.heap.size ≤ N16 ∧ V3.heap.size ≤ N17) := ⟨hne, hle16, hle17⟩
        have H16 := hide h16; have H17 := hide h17
        have HBC := hide hbC
        have HO4 := hide ((unhide HO3').keep hbC)
        have HQ4 := hide ((unhide HD3).keep hbC)
        have HT4 := hide ((unhide HT3').keep hbC)
        have HDL4 := hide ((unhide HDL3).keep hbC)
        have HV34 := hide (thenB (unhide HV33) hbC)
        clear hne hle16 hle17 h16 h17 hbC
        obtain ⟨w5, rfl⟩ : ∃ x, x = wc := ⟨wc, rfl⟩
        obtain ⟨m1, hm1⟩ : ∃ x, x = m + 1 := ⟨_, rfl⟩
        have HM1 := hide hm1
        clear hm1
        go_upto_if 61 with fail
        go_cut [16] (fun y16 wx => y16 = .pointer (some ⟨N16, 0, none⟩) ∧ ∃ bf, Dg bf ∧ ByAt wx N16 24 bf ∧ ByAt wx N17 24 T ∧ Below V3.heap.size V3 wx)
        case first =>
          by_cases hok : 1 ≤ i ∧ i ≤ n
          · obtain rfl : E = 0 := by rw [unhide HE]; exact if_pos hok
            obtain ⟨k, rfl⟩ : ∃ k : Nat, i = k := ⟨i.toNat, by omega⟩
            have k0 : (0 : Int) ≤ (k : Int) := Int.natCast_nonneg _
            have k1 : (k : Int) ≤ (cL : Int) := by have := unhide HN; omega
            have k2 : (n : Int) ≤ (cL : Int) := by have := unhide HN; omega
            obtain ⟨T2, hT2⟩ : ∃ d, d = treeD (L.take k) := ⟨_, rfl⟩
            have hg2 : Dg T2 := hT2 ▸ dg_treeD _
            obtain ⟨c2', hc2'⟩ : ∃ cs, cs = (T2.map (Value.int .u8)).toArray := ⟨_, rfl⟩
            have hs2' : c2'.size = 32 := by rw [hc2']; simpa using hg2.len
            have htr := rtree_any w5 cL AL (L.take k) ((unhide HDL4).take k) (by have := unhide HN; simp; omega) (by have := unhide HN; simp; omega)
            rw [show (L.take k).length = k by have := unhide HN; simp; omega, ← hT2, show dv T2 = .agg c2' by rw [hc2']] at htr
            have HTR4 := hide htr; have HG2 := hide hg2; have HC2' := hide hc2'
            clear hT2 hg2 hc2' htr hok
            go_wp2_with fail
            refine (unhide HTR4).mono ?_; rintro x w6 ⟨rfl, hb6⟩
            have HB6 := hide (thenB (unhide HBC) hb6)
            have H16b := hide ((unhide H16).keep hb6)
            have H17b := hide ((unhide H17).keep hb6)
            clear hb6
            dsimp only
            rename_i KK hK
            refine hK _ _ ?_
            clear hK KK
            refine wpList_bstore rfl 24 (.tmp 16) (.tmp 65) rfl N16 rfl T2 (show Value.agg c2' = _ by rw [unhide HC2']) 32 info32 (unhide HG2).len _ d (unhide H16b) (unhide HD).len ?_
            intro w7 HW7 HG7
            have h17 := (unhide H17b).grown (unhide HG7) (by have := unhide HNE; omega)
            have hb7 := (unhide HB6).grown (unhide HG7) (unhide HB6).size (fun i e => by injection e with e; have := unhide HNE; omega)
            have H17c := hide h17; have HB7 := hide hb7
            clear h17 hb7
            go_wp2_with fail
            go_meet
            exact ⟨rfl, T2, unhide HG2, unhide HW7, unhide H17c, unhide HB7⟩
          · obtain rfl : E = 1 := by rw [unhide HE]; exact if_neg hok
            clear hok
            go_wp2_with fail
            go_meet
            exact ⟨rfl, d, unhide HD, unhide H16, unhide H17, unhide HBC⟩
        case rest =>
          obtain ⟨rfl, bf, hgb, h16, h17, hbc⟩ := hcut
          obtain ⟨w8, rfl⟩ : ∃ x, x = wc := ⟨wc, rfl⟩
          obtain ⟨cb, hcb⟩ : ∃ cs, cs = (bf.map (Value.int .u8)).toArray := ⟨_, rfl⟩
          have hsb : cb.size = 32 := by rw [hcb]; simpa using hgb.len
          have HGBF := hide hgb; have HCB := hide hcb
          have H16' := hide h16; have H17' := hide h17
          have HB8 := hide hbc
          have HO8 := hide ((unhide HO3').keep hbc)
          have HQ8 := hide ((unhide HD3).keep hbc)
          have HT8 := hide ((unhide HT3').keep hbc)
          have HN7 : Hid (w.heap.size < V3.heap.size) := lt_of_block (unhide HO3')
          clear hgb hcb h16 h17 hbc H16 H17 HBC HO4 HQ4 HT4 HDL4 HV34 HO3' HD3 HT3' HDL3 HV33 HV30
          go_upto_region 14 with fail
          go_cut [18] (fun y18 wx => Below w8.heap.size w8 wx ∧ ∃ (A3 : Option Addr) (c3 : Nat), y18 = .slice A3 m1 c3 ∧ m1 ≤ c3 ∧ Ds wx A3 (q ++ [d]))
          case first =>
            obtain ⟨W, hW⟩ : ∃ W, W = w8.drewN 1 := ⟨_, rfl⟩
            have HW : Hid (W = w8.drewN 1) := hW
            have HW2 := hide (below_named HW)
            have HDW := hide ((unhide HO8).keep (below_named HW))
            have HQW := hide ((unhide HQ8).keep (below_named HW))
            have hSW : Below W.heap.size W W := Below.refl _ _
            clear hW
            refine held (S := Below W.heap.size W) W HW (by kernel_rfl) ?_
            refine wpAnyH_take (i := 1) (v := ?_) rfl (by kernel_rfl) (by kernel_rfl) (by kernel_rfl) (fun _ _ _ h => h) (Or.inl ⟨by kernel_rfl, ?_⟩) (by assumption) ?_
            rotate_left
            · intro Wt hSt
              go_simp
              try with_reducible rfl
            try simp only [List.getElem_toArray, List.getElem_cons_zero, List.getElem_cons_succ, Act.put, List.setIfInBounds_toArray, List.set_cons_zero, List.set_cons_succ]
            refine wpAnyH_take (i := 3) (v := .agg cd) rfl (by kernel_rfl) (by kernel_rfl) (by kernel_rfl) (fun _ _ _ h => h) (by rw [unhide HCD]; exact yieldsIf_load_mid (by kernel_rfl) 24 (.tmp 7) rfl w.heap.size 0 rfl (d.map (Value.int .u8)) _ (fun W hS => ((unhide HDW).keep hS).range) Tryd.underlying24 rfl (by rw [List.length_map, (unhide HD).len]; exact info32)) (by assumption) ?_
            try simp only [List.getElem_toArray, List.getElem_cons_zero, List.getElem_cons_succ, Act.put, List.setIfInBounds_toArray, List.set_cons_zero, List.set_cons_succ]
            refine wpAnyH_all (show Region.ready .any _ _ = [0, 4] by kernel_rfl) (by simp) fun x hx => ?_
            rcases (by simpa using hx : x = 0 ∨ x = 4) with rfl | rfl
            · clear hx
              refine wpOp_one 0 _ rfl (by kernel_rfl) fun K hK => ?_
              go_simp
              generalize hX1 : W.alloc _ = Y1
              have hb1 : Below W.heap.size W Y1 := hX1 ▸ (Below.refl _ _).alloc (Nat.le_refl _) _
              have ho1 : OwnD Y1 W.heap.size (.slice (some ⟨W.heap.size, 0, none⟩) 0 0) [] := hX1 ▸ World.ownsRow_lit W #[] 0 hSW.size (Nat.zero_le _) rfl
              have hS1 := thenB hSW hb1
              refine hK _ _ ⟨hS1, ?_⟩
              clear hK K
              try simp only [List.getElem_toArray, List.getElem_cons_zero, List.getElem_cons_succ, Act.put, List.setIfInBounds_toArray, List.set_cons_zero, List.set_cons_succ]
              refine wpAnyH_all (show Region.ready .any _ _ = [2, 4] by kernel_rfl) (by simp) fun x hx => ?_
              rcases (by simpa using hx : x = 2 ∨ x = 4) with rfl | rfl
              · clear hx
                refine wpOp_one 2 _ rfl (by kernel_rfl) fun K hK => ?_
                obtain ⟨v2, Y2, hr2, ho2, hg2, hob2⟩ := append_many ho1 26 A2 c2 ((unhide HQW).keep hS1) (unhide HC2).2 (by have := unhide HQ; simp; omega) hS1.size
                rw [← (unhide HQ).1] at hr2
                have hS2 := grown_below hS1 hg2 (fun k hk => (ho1.lt k hk).1)
                refine wp_append (.tmp 66) (.tmp 67) 26 rfl _ _ v2 Y2 rfl rfl hr2 ?_
                refine hK _ _ ⟨hS2, ?_⟩
                clear hK K
                try simp only [List.getElem_toArray, List.getElem_cons_zero, List.getElem_cons_succ, Act.put, List.setIfInBounds_toArray, List.set_cons_zero, List.set_cons_succ]
                refine wpAnyH_all (show Region.ready .any _ _ = [4] by kernel_rfl) (by simp) fun x hx => ?_
                obtain rfl : x = 4 := by simpa using hx
                clear hx
                refine wpOp_one 4 _ rfl (by kernel_rfl) fun K hK => ?_
                go_simp
                rw [overwritten hsd (by rfl)]
                generalize hX3 : Y2.alloc _ = Y3
                have hb3 : Below Y2.heap.size Y2 Y3 := hX3 ▸ (Below.refl _ _).alloc (Nat.le_refl _) _
                have hE3 : ByAt Y3 Y2.heap.size 24 d := boxed Y2 Y3 d _ (by rw [← hX3, unhide HCD]; rfl)
                have hS3 := thenB hS2 hb3
                have ho3 := ho2.later hb3
                have hne3 : ∀ k, Value.ownBlock _ = some k → k ≠ Y2.heap.size := fun k hk => by have := (ho2.lt k hk).2; omega
                refine hK _ _ ⟨hS3, ?_⟩
                clear hK K
                try simp only [List.getElem_toArray, List.getElem_cons_zero, List.getElem_cons_succ, Act.put, List.setIfInBounds_toArray, List.set_cons_zero, List.set_cons_succ]
                refine wpAnyH_all (show Region.ready .any _ _ = [5] by kernel_rfl) (by simp) fun x hx => ?_
                obtain rfl : x = 5 := by simpa using hx
                clear hx
                refine wpOp_one 5 _ rfl (by kernel_rfl) fun K hK => ?_
                obtain ⟨v4, V4_, hr4, ho4, hg4, hob4⟩ := append_one ho3 26 (Y2.heap.size) 1 d (unhide HD) hE3 (by have := unhide HQ; simp; omega) hS3.size
                have hS4 := grown_below hS3 hg4 (fun k hk => (ho3.lt k hk).1)
                refine wp_append (.tmp 68) (.tmp 70) 26 rfl _ _ v4 V4_ rfl rfl hr4 ?_
                refine hK _ _ ⟨hS4, ?_⟩
                clear hK K
                try simp only [List.getElem_toArray, List.getElem_cons_zero, List.getElem_cons_succ, Act.put, List.setIfInBounds_toArray, List.set_cons_zero, List.set_cons_succ]
                obtain ⟨A3, c3, hvq, hc3, hd3, _⟩ := own_form ho4 (fun x hx => by
                  rcases List.mem_append.1 hx with h | h
                  · exact (unhide HQ).2.2 x (by simpa using h)
                  · rw [List.mem_singleton.1 h]; exact unhide HD)
                rw [show (([] : List (List Int)) ++ q ++ [d]).length = m1 by have := unhide HQ; have := unhide HM1; simp; omega] at hvq hc3
                rw [List.nil_append] at hd3
                subst hvq
                refine wpAnyH_chainOf [6] _ _ _ (by kernel_rfl) (by kernel_rfl) ?_
                simp only [List.filterMap_cons, List.filterMap_nil, List.getElem?_toArray, List.getElem?_cons_zero, List.getElem?_cons_succ]
                refine wpChain_step rfl fun K hK => ?_
                go_simp
                refine hK _ _ hS4 (wpChain_nil ?_)
                clear hK K
                go_wp2_with fail
                go_meet
                exact ⟨thenB (unhide HW2) hS4, A3, c3, rfl, hc3, hd3⟩
              · clear hx
                refine wpOp_one 4 _ rfl (by kernel_rfl) fun K hK => ?_
                go_simp
                rw [overwritten hsd (by rfl)]
                generalize hX4 : Y1.alloc _ = Y4
                have hb4 : Below Y1.heap.size Y1 Y4 := hX4 ▸ (Below.refl _ _).alloc (Nat.le_refl _) _
                have hE4 : ByAt Y4 Y1.heap.size 24 d := boxed Y1 Y4 d _ (by rw [← hX4, unhide HCD]; rfl)
                have hS4 := thenB hS1 hb4
                have ho4 := ho1.later hb4
                have hne4 : ∀ k, Value.ownBlock _ = some k → k ≠ Y1.heap.size := fun k hk => by have := (ho1.lt k hk).2; omega
                refine hK _ _ ⟨hS4, ?_⟩
                clear hK K
                try simp only [List.getElem_toArray, List.getElem_cons_zero, List.getElem_cons_succ, Act.put, List.setIfInBounds_toArray, List.set_cons_zero, List.set_cons_succ]
                refine wpAnyH_all (show Region.ready .any _ _ = [2] by kernel_rfl) (by simp) fun x hx => ?_
                obtain rfl : x = 2 := by simpa using hx
                clear hx
                refine wpOp_one 2 _ rfl (by kernel_rfl) fun K hK => ?_
                obtain ⟨v5, Y5, hr5, ho5, hg5, hob5⟩ := append_many ho4 26 A2 c2 ((unhide HQW).keep hS4) (unhide HC2).2 (by have := unhide HQ; simp; omega) hS4.size
                rw [← (unhide HQ).1] at hr5
                have hS5 := grown_below hS4 hg5 (fun k hk => (ho4.lt k hk).1)
                refine wp_append (.tmp 66) (.tmp 67) 26 rfl _ _ v5 Y5 rfl rfl hr5 ?_
                have hE5 := own_kept hE4 hg5 hne4
                refine hK _ _ ⟨hS5, ?_⟩
                clear hK K
                try simp only [List.getElem_toArray, List.getElem_cons_zero, List.getElem_cons_succ, Act.put, List.setIfInBounds_toArray, List.set_cons_zero, List.set_cons_succ]
                refine wpAnyH_all (show Region.ready .any _ _ = [5] by kernel_rfl) (by simp) fun x hx => ?_
                obtain rfl : x = 5 := by simpa using hx
                clear hx
                refine wpOp_one 5 _ rfl (by kernel_rfl) fun K hK => ?_
                obtain ⟨v4, V4_, hr4, ho4, hg4, hob4⟩ := append_one ho5 26 (Y1.heap.size) 1 d (unhide HD) hE5 (by have := unhide HQ; simp; omega) hS5.size
                have hS4 := grown_below hS5 hg4 (fun k hk => (ho5.lt k hk).1)
                refine wp_append (.tmp 68) (.tmp 70) 26 rfl _ _ v4 V4_ rfl rfl hr4 ?_
                refine hK _ _ ⟨hS4, ?_⟩
                clear hK K
                try simp only [List.getElem_toArray, List.getElem_cons_zero, List.getElem_cons_succ, Act.put, List.setIfInBounds_toArray, List.set_cons_zero, List.set_cons_succ]
                obtain ⟨A3, c3, hvq, hc3, hd3, _⟩ := own_form ho4 (fun x hx => by
                  rcases List.mem_append.1 hx with h | h
                  · exact (unhide HQ).2.2 x (by simpa using h)
                  · rw [List.mem_singleton.1 h]; exact unhide HD)
                rw [show (([] : List (List Int)) ++ q ++ [d]).length = m1 by have := unhide HQ; have := unhide HM1; simp; omega] at hvq hc3
                rw [List.nil_append] at hd3
                subst hvq
                refine wpAnyH_chainOf [6] _ _ _ (by kernel_rfl) (by kernel_rfl) ?_
                simp only [List.filterMap_cons, List.filterMap_nil, List.getElem?_toArray, List.getElem?_cons_zero, List.getElem?_cons_succ]
                refine wpChain_step rfl fun K hK => ?_
                go_simp
                refine hK _ _ hS4 (wpChain_nil ?_)
                clear hK K
                go_wp2_with fail
                go_meet
                exact ⟨thenB (unhide HW2) hS4, A3, c3, rfl, hc3, hd3⟩
            · clear hx
              refine wpOp_one 4 _ rfl (by kernel_rfl) fun K hK => ?_
              go_simp
              rw [overwritten hsd (by rfl)]
              generalize hX6 : W.alloc _ = Y6
              have hb6 : Below W.heap.size W Y6 := hX6 ▸ (Below.refl _ _).alloc (Nat.le_refl _) _
              have hE6 : ByAt Y6 W.heap.size 24 d := boxed W Y6 d _ (by rw [← hX6, unhide HCD]; rfl)
              have hS6 := thenB hSW hb6
              refine hK _ _ ⟨hS6, ?_⟩
              clear hK K
              try simp only [List.getElem_toArray, List.getElem_cons_zero, List.getElem_cons_succ, Act.put, List.setIfInBounds_toArray, List.set_cons_zero, List.set_cons_succ]
              refine wpAnyH_all (show Region.ready .any _ _ = [0] by kernel_rfl) (by simp) fun x hx => ?_
              obtain rfl : x = 0 := by simpa using hx
              clear hx
              refine wpOp_one 0 _ rfl (by kernel_rfl) fun K hK => ?_
              go_simp
              generalize hX7 : Y6.alloc _ = Y7
              have hb7 : Below Y6.heap.size Y6 Y7 := hX7 ▸ (Below.refl _ _).alloc (Nat.le_refl _) _
              have ho7 : OwnD Y7 W.heap.size (.slice (some ⟨Y6.heap.size, 0, none⟩) 0 0) [] := hX7 ▸ World.ownsRow_lit Y6 #[] 0 hS6.size (Nat.zero_le _) rfl
              have hS7 := thenB hS6 hb7
              have hE7 := hE6.keep hb7
              have hne7 : ∀ k, (Value.slice (some ⟨Y6.heap.size, 0, none⟩) 0 0).ownBlock = some k → k ≠ W.heap.size := fun k hk => by have hk' : some Y6.heap.size = some k := hk; injection hk' with hk'; have := lt_of_block hE6; omega
              refine hK _ _ ⟨hS7, ?_⟩
              clear hK K
              try simp only [List.getElem_toArray, List.getElem_cons_zero, List.getElem_cons_succ, Act.put, List.setIfInBounds_toArray, List.set_cons_zero, List.set_cons_succ]
              refine wpAnyH_all (show Region.ready .any _ _ = [2] by kernel_rfl) (by simp) fun x hx => ?_
              obtain rfl : x = 2 := by simpa using hx
              clear hx
              refine wpOp_one 2 _ rfl (by kernel_rfl) fun K hK => ?_
              obtain ⟨v8, Y8, hr8, ho8, hg8, hob8⟩ := append_many ho7 26 A2 c2 ((unhide HQW).keep hS7) (unhide HC2).2 (by have := unhide HQ; simp; omega) hS7.size
              rw [← (unhide HQ).1] at hr8
              have hS8 := grown_below hS7 hg8 (fun k hk => (ho7.lt k hk).1)
              refine wp_append (.tmp 66) (.tmp 67) 26 rfl _ _ v8 Y8 rfl rfl hr8 ?_
              have hE8 := own_kept hE7 hg8 hne7
              refine hK _ _ ⟨hS8, ?_⟩
              clear hK K
              try simp only [List.getElem_toArray, List.getElem_cons_zero, List.getElem_cons_succ, Act.put, List.setIfInBounds_toArray, List.set_cons_zero, List.set_cons_succ]
              refine wpAnyH_all (show Region.ready .any _ _ = [5] by kernel_rfl) (by simp) fun x hx => ?_
              obtain rfl : x = 5 := by simpa using hx
              clear hx
              refine wpOp_one 5 _ rfl (by kernel_rfl) fun K hK => ?_
              obtain ⟨v4, V4_, hr4, ho4, hg4, hob4⟩ := append_one ho8 26 (W.heap.size) 1 d (unhide HD) hE8 (by have := unhide HQ; simp; omega) hS8.size
              have hS4 := grown_below hS8 hg4 (fun k hk => (ho8.lt k hk).1)
              refine wp_append (.tmp 68) (.tmp 70) 26 rfl _ _ v4 V4_ rfl rfl hr4 ?_
              refine hK _ _ ⟨hS4, ?_⟩
              clear hK K
              try simp only [List.getElem_toArray, List.getElem_cons_zero, List.getElem_cons_succ, Act.put, List.setIfInBounds_toArray, List.set_cons_zero, List.set_cons_succ]
              obtain ⟨A3, c3, hvq, hc3, hd3, _⟩ := own_form ho4 (fun x hx => by
                rcases List.mem_append.1 hx with h | h
                · exact (unhide HQ).2.2 x (by simpa using h)
                · rw [List.mem_singleton.1 h]; exact unhide HD)
              rw [show (([] : List (List Int)) ++ q ++ [d]).length = m1 by have := unhide HQ; have := unhide HM1; simp; omega] at hvq hc3
              rw [List.nil_append] at hd3
              subst hvq
              refine wpAnyH_chainOf [6] _ _ _ (by kernel_rfl) (by kernel_rfl) ?_
              simp only [List.filterMap_cons, List.filterMap_nil, List.getElem?_toArray, List.getElem?_cons_zero, List.getElem?_cons_succ]
              refine wpChain_step rfl fun K hK => ?_
              go_simp
              refine hK _ _ hS4 (wpChain_nil ?_)
              clear hK K
              go_wp2_with fail
              go_meet
              exact ⟨thenB (unhide HW2) hS4, A3, c3, rfl, hc3, hd3⟩
          case rest =>
            obtain ⟨hb9, A3, c3, rfl, hc3, hd3⟩ := hcut
            obtain ⟨w9, rfl⟩ : ∃ x, x = wc := ⟨wc, rfl⟩
            have HB9 := hide hb9
            have HO9 := hide ((unhide HO8).keep hb9)
            have HQ9 := hide ((unhide HQ8).keep hb9)
            have HT9 := hide ((unhide HT8).keep hb9)
            have H16'' := hide ((unhide H16').keep hb9)
            have H17'' := hide ((unhide H17').keep hb9)
            have HD9 := hide hd3
            have HC3 := hide hc3
            clear hb9 hd3 hc3 HO8 HQ8 HT8 H16' H17'
            have wn : IntKind.i64.wrap ((n : Int) + 1) = ((n + 1 : Nat) : Int) := (IntWalk.i64_in _ (by have := unhide HN; omega)).trans (by omega)
            go_upto_region 15 with fail
            refine wp_region_lit ?_
            refine wpList_plain rfl fun Kt hKt => ?_
            go_simp
            refine hKt _ _ ?_
            clear hKt Kt
            refine wpList_plain rfl fun Kt hKt => ?_
            go_simp
            refine hKt _ _ ?_
            clear hKt Kt
            refine wpList_plain rfl fun Kt hKt => ?_
            go_simp
            refine hKt _ _ ?_
            clear hKt Kt
            refine wpList_plain rfl fun Kt hKt => ?_
            go_simp
            refine hKt _ _ ?_
            clear hKt Kt
            refine wpList_plain rfl fun Kt hKt => ?_
            go_simp
            refine hKt _ _ ?_
            clear hKt Kt
            refine wpList_plain rfl fun Kt hKt => ?_
            go_simp
            refine hKt _ _ ?_
            clear hKt Kt
            refine wpList_plain rfl fun Kt hKt => ?_
            go_simp
            refine hKt _ _ ?_
            clear hKt Kt
            generalize hX : w9.alloc _ = U0
            have hu0 : Below w9.heap.size w9 U0 := hX ▸ (Below.refl _ _).alloc (Nat.le_refl _) _
            have HBU := hide (thenB (unhide HB9) hu0)
            obtain ⟨TB, hTB⟩ : ∃ T, T = w9.heap.size := ⟨_, rfl⟩
            have HTB : Hid (∃ z1 z2 : Int, U0.heap[TB]? = some (.cells #[.int .i64 nn, .int .i64 z1, .int .i64 z2] 3 (0, 0))) := by
              refine ⟨(n : Int), (n : Int) + 1, ?_⟩
              rw [← hX, hTB]
              show (w9.heap.push _)[w9.heap.size]? = _
              rw [Array.getElem?_push_size]
            rw [← hTB]
            have HOU := hide ((unhide HO9).keep hu0)
            have HQU := hide ((unhide HQ9).keep hu0)
            have HTU := hide ((unhide HT9).keep hu0)
            have HDU := hide ((unhide HD9).keep hu0)
            have H16U := hide ((unhide H16'').keep hu0)
            have H17U := hide ((unhide H17'').keep hu0)
            have HVU := hide (thenB (unhide HVV) (thenB (unhide HB8) (unhide HBU)))
            clear hX hu0 hTB HB9 HO9 HQ9 HT9 HD9 H16'' H17'' hci
            go_wp2_with fail
            go_loopg [80] 3 (fun g y80 wx => ∃ k : Nat, y80 = .int .i64 (k : Int) ∧ k + g = 3 ∧ Below U0.heap.size U0 wx)
            case atStart => exact ⟨0, rfl, by omega, Below.refl _ _⟩
            case round =>
              obtain ⟨k, rfl, hkg, hbk⟩ := hrel
              by_cases hk : k < 3
              · obtain ⟨g3, rfl⟩ : ∃ g, gk = g + 1 := ⟨gk - 1, by omega⟩
                have k1 : (k : Int) < 3 := by omega
                have k0 : (0 : Int) ≤ (k : Int) := Int.natCast_nonneg _
                have wk : IntKind.i64.wrap ((k : Int) + 1) = ((k + 1 : Nat) : Int) := (IntWalk.i64_in _ (by omega)).trans (by omega)
                obtain ⟨ms, hcm⟩ : ∃ i : Int, wr.cell? ⟨TB, k, none⟩ = some (.int .i64 i) := by
                  obtain ⟨z1, z2, hT3⟩ := unhide HTB
                  have hblk : wr.heap[TB]? = some (.cells #[.int .i64 nn, .int .i64 z1, .int .i64 z2] 3 (0, 0)) := (hbk.block TB (lt_of_block hT3)).trans hT3
                  obtain rfl | rfl | rfl : k = 0 ∨ k = 1 ∨ k = 2 := by omega
                  · exact ⟨nn, by simp [World.cell?, hblk]⟩
                  · exact ⟨z1, by simp [World.cell?, hblk]⟩
                  · exact ⟨z2, by simp [World.cell?, hblk]⟩
                have HK2 : Hid (k + (g3 + 1) = 3 ∧ k < 3) := ⟨hkg, hk⟩
                have HVK := hide hbk
                have HQK := hide ((unhide HQU).keep hbk)
                have HDK := hide ((unhide HDU).keep hbk)
                have HTK := hide ((unhide HTU).keep hbk)
                have HOK := hide ((unhide HOU).keep hbk)
                have H16K := hide ((unhide H16U).keep hbk)
                have H17K := hide ((unhide H17U).keep hbk)
                obtain ⟨h2, hh2⟩ : ∃ h, h = m1 / 2 := ⟨_, rfl⟩
                have wq : IntKind.i64.wrap ((m1 : Int) / 2) = (h2 : Int) := (IntWalk.i64_in _ (by have := unhide HQ; have := unhide HM1; omega)).trans (by omega)
                have q0 : (0 : Int) ≤ (h2 : Int) := Int.natCast_nonneg _
                have q1 : (h2 : Int) ≤ (c3 : Int) := by have := unhide HC3; omega
                have q2 : (m1 : Int) ≤ (c3 : Int) := by have := unhide HC3; omega
                have HH2 : Hid (h2 = m1 / 2) := hh2
                clear hbk hkg hk hh2
                go_upto_region 18 with fail
                refine wp_region_lit ?_
                refine wpList_plain rfl fun Kt hKt => ?_
                go_simp
                refine hKt _ _ ?_
                clear hKt Kt
                refine wpList_plain rfl fun Kt hKt => ?_
                go_simp
                refine hKt _ _ ?_
                clear hKt Kt
                refine wpList_plain rfl fun Kt hKt => ?_
                go_simp
                refine hKt _ _ ?_
                clear hKt Kt
                refine wpList_plain rfl fun Kt hKt => ?_
                go_simp
                refine hKt _ _ ?_
                clear hKt Kt
                refine wpList_plain rfl fun Kt hKt => ?_
                go_simp
                refine hKt _ _ ?_
                clear hKt Kt
                refine wpList_plain rfl fun Kt hKt => ?_
                go_simp
                refine hKt _ _ ?_
                clear hKt Kt
                refine wpList_plain rfl fun Kt hKt => ?_
                go_simp
                refine hKt _ _ ?_
                clear hKt Kt
                refine wpList_plain rfl fun Kt hKt => ?_
                go_simp
                refine hKt _ _ ?_
                clear hKt Kt
                generalize hX : wr.alloc _ = U1
                have hu1 : Below wr.heap.size wr U1 := hX ▸ (Below.refl _ _).alloc (Nat.le_refl _) _
                obtain ⟨T3, hT3⟩ : ∃ T, T = wr.heap.size := ⟨_, rfl⟩
                have HT3 : Hid (U1.heap[T3]? = some (.cells #[.slice A2 m c2, .slice A3 m1 c3, .slice A3 h2 c3] 26 (0, 0))) := by
                  show U1.heap[T3]? = _
                  rw [← hX, hT3]
                  show (wr.heap.push _)[wr.heap.size]? = _
                  rw [Array.getElem?_push_size]
                rw [← hT3]
                have HBC1 := hide (thenB (unhide HVK) hu1)
                have HQC := hide ((unhide HQK).keep hu1)
                have HDC := hide ((unhide HDK).keep hu1)
                have HTC := hide ((unhide HTK).keep hu1)
                have HOC := hide ((unhide HOK).keep hu1)
                have H16C := hide ((unhide H16K).keep hu1)
                have H17C := hide ((unhide H17K).keep hu1)
                clear hX hu1 hT3 HQK HDK HTK HOK H16K H17K hcm
                go_wp2_with fail
                go_loopg [93] 3 (fun g y93 wx => ∃ t : Nat, y93 = .int .i64 (t : Int) ∧ t + g = 3 ∧ Below U1.heap.size U1 wx)
                case atStart => exact ⟨0, rfl, by omega, Below.refl _ _⟩
                case round =>
                  obtain ⟨t, rfl, htg, hbt⟩ := hrel
                  by_cases ht : t < 3
                  · obtain ⟨g4, rfl⟩ : ∃ g, gk = g + 1 := ⟨gk - 1, by omega⟩
                    have t1 : (t : Int) < 3 := by omega
                    have t0 : (0 : Int) ≤ (t : Int) := Int.natCast_nonneg _
                    have wt : IntKind.i64.wrap ((t : Int) + 1) = ((t + 1 : Nat) : Int) := (IntWalk.i64_in _ (by omega)).trans (by omega)
                    obtain ⟨Ap, mp, cp, p, hcp, hdp, hlp, hcc, hp8⟩ : ∃ (Ap : Option Addr) (mp cp : Nat) (p : List (List Int)), wr.cell? ⟨T3, t, none⟩ = some (.slice Ap mp cp) ∧ Ds wr Ap p ∧ mp = p.length ∧ mp ≤ cp ∧ mp ≤ 1000 := by
                      have hblk : wr.heap[T3]? = some (.cells #[.slice A2 m c2, .slice A3 m1 c3, .slice A3 h2 c3] 26 (0, 0)) := (hbt.block T3 (lt_of_block (unhide HT3))).trans (unhide HT3)
                      have hq := unhide HQ
                      have hm1 := unhide HM1
                      have hh := unhide HH2
                      have hc := unhide HC3
                      obtain rfl | rfl | rfl : t = 0 ∨ t = 1 ∨ t = 2 := by omega
                      · exact ⟨A2, m, c2, q, by simp [World.cell?, hblk], (unhide HQC).keep hbt, hq.1, (unhide HC2).1, by omega⟩
                      · exact ⟨A3, m1, c3, q ++ [d], by simp [World.cell?, hblk], (unhide HDC).keep hbt, by simp; omega, hc, by omega⟩
                      · exact ⟨A3, h2, c3, (q ++ [d]).take h2, by simp [World.cell?, hblk], ((unhide HDC).keep hbt).take h2, by simp; omega, by omega, by omega⟩
                    have HTT : Hid (t + (g4 + 1) = 3) := htg
                    have HVT := hide hbt
                    have hTt := (unhide HTC).keep hbt
                    have hO := (unhide HOC).keep hbt
                    have h16 := (unhide H16C).keep hbt
                    have h17 := (unhide H17C).keep hbt
                    have hg1 : ∀ V, Below wr.heap.size wr V → GrewC 24 bf T i ms p Ap cp V := fun V hV => Grew_all bf T (unhide HGBF) (unhide HGT) i ms p Ap cp V (hdp.keep hV) (by omega) (by omega) (hTt.keep hV)
                    have hg2 : ∀ V, Below wr.heap.size wr V → GrewC 25 bf T i ms p Ap cp V := fun V hV => rGrew_all bf T (unhide HGBF) (unhide HGT) i ms p Ap cp V (hdp.keep hV) (by omega)
                    have hg3 : ∀ V, Below wr.heap.size wr V → GrewC 24 d T i ms p Ap cp V := fun V hV => Grew_all d T (unhide HD) (unhide HGT) i ms p Ap cp V (hdp.keep hV) (by omega) (by omega) (hTt.keep hV)
                    have hg4 : ∀ V, Below wr.heap.size wr V → GrewC 25 d T i ms p Ap cp V := fun V hV => rGrew_all d T (unhide HD) (unhide HGT) i ms p Ap cp V (hdp.keep hV) (by omega)
                    unfold GrewC at hg1 hg2 hg3 hg4
                    obtain ⟨b1, hb1⟩ : ∃ X, X = grewI bf T i ms p := ⟨_, rfl⟩
                    obtain ⟨b2, hb2⟩ : ∃ X, X = grewI d T i ms p := ⟨_, rfl⟩
                    rw [← hb1, ← hlp, show dv bf = .agg cb by rw [unhide HCB], show dv T = .agg ct by rw [unhide HCT]] at hg1 hg2
                    rw [← hb2, ← hlp, show dv d = .agg cd by rw [unhide HCD], show dv T = .agg ct by rw [unhide HCT]] at hg3 hg4
                    obtain ⟨W, hW⟩ : ∃ W, W = wr.drewN 1 := ⟨_, rfl⟩
                    have HW : Hid (W = wr.drewN 1) := hW
                    have hBW := below_named HW
                    have HG1 := hide hg1; have HG2 := hide hg2; have HG3 := hide hg3; have HG4 := hide hg4
                    have hSW : S3 w.heap.size N16 N17 d bf T W := ⟨hO.keep hBW, h16.keep hBW, h17.keep hBW⟩
                    clear htg ht hbt hdp hlp hcc hp8 hg1 hg2 hg3 hg4 hb1 hb2 hTt hO h16 h17 hW
                    go_upto_region 21 with fail
                    clear hcp
                    refine held (S := S3 w.heap.size N16 N17 d bf T) W HW (by kernel_rfl) ?_
                    refine wpAnyH_take (i := 0) (v := .agg cb) rfl (by kernel_rfl) (by kernel_rfl) (by kernel_rfl) (fun _ _ _ h => h) (by rw [unhide HCB]; exact yieldsIf_load_mid (by kernel_rfl) 24 (.tmp 16) rfl N16 0 rfl (bf.map (Value.int .u8)) _ (fun W hS => hS.b.range) Tryd.underlying24 rfl (by rw [List.length_map, (unhide HGBF).len]; exact info32)) (by assumption) ?_
                    try simp only [List.getElem_toArray, List.getElem_cons_zero, List.getElem_cons_succ, Act.put, List.setIfInBounds_toArray, List.set_cons_zero, List.set_cons_succ]
                    refine wpAnyH_take (i := 1) (v := .agg ct) rfl (by kernel_rfl) (by kernel_rfl) (by kernel_rfl) (fun _ _ _ h => h) (by rw [unhide HCT]; exact yieldsIf_load_mid (by kernel_rfl) 24 (.tmp 17) rfl N17 0 rfl (T.map (Value.int .u8)) _ (fun W hS => hS.c.range) Tryd.underlying24 rfl (by rw [List.length_map, (unhide HGT).len]; exact info32)) (by assumption) ?_
                    try simp only [List.getElem_toArray, List.getElem_cons_zero, List.getElem_cons_succ, Act.put, List.setIfInBounds_toArray, List.set_cons_zero, List.set_cons_succ]
                    refine wpAnyH_take (i := 2) (v := ?_) rfl (by kernel_rfl) (by kernel_rfl) (by kernel_rfl) (fun _ _ _ h => h) (Or.inl ⟨by kernel_rfl, ?_⟩) (by assumption) ?_
                    rotate_left
                    · intro Wt hSt
                      go_simp
                      try with_reducible rfl
                    try simp only [List.getElem_toArray, List.getElem_cons_zero, List.getElem_cons_succ, Act.put, List.setIfInBounds_toArray, List.set_cons_zero, List.set_cons_succ]
                    refine wpAnyH_take (i := 3) (v := ?_) rfl (by kernel_rfl) (by kernel_rfl) (by kernel_rfl) (fun _ _ _ h => h) (Or.inl ⟨by kernel_rfl, ?_⟩) (by assumption) ?_
                    rotate_left
                    · intro Wt hSt
                      go_simp
                      try with_reducible rfl
                    try simp only [List.getElem_toArray, List.getElem_cons_zero, List.getElem_cons_succ, Act.put, List.setIfInBounds_toArray, List.set_cons_zero, List.set_cons_succ]
                    refine wpAnyH_take (i := 4) (v := ?_) rfl (by kernel_rfl) (by kernel_rfl) (by kernel_rfl) (fun _ _ _ h => h) (Or.inl ⟨by kernel_rfl, ?_⟩) (by assumption) ?_
                    rotate_left
                    · intro Wt hSt
                      go_simp
                      try with_reducible rfl
                    try simp only [List.getElem_toArray, List.getElem_cons_zero, List.getElem_cons_succ, Act.put, List.setIfInBounds_toArray, List.set_cons_zero, List.set_cons_succ]
                    refine wpAnyH_take (i := 6) (v := .agg cb) rfl (by kernel_rfl) (by kernel_rfl) (by kernel_rfl) (fun _ _ _ h => h) (by rw [unhide HCB]; exact yieldsIf_load_mid (by kernel_rfl) 24 (.tmp 16) rfl N16 0 rfl (bf.map (Value.int .u8)) _ (fun W hS => hS.b.range) Tryd.underlying24 rfl (by rw [List.length_map, (unhide HGBF).len]; exact info32)) (by assumption) ?_
                    try simp only [List.getElem_toArray, List.getElem_cons_zero, List.getElem_cons_succ, Act.put, List.setIfInBounds_toArray, List.set_cons_zero, List.set_cons_succ]
                    refine wpAnyH_take (i := 7) (v := .agg ct) rfl (by kernel_rfl) (by kernel_rfl) (by kernel_rfl) (fun _ _ _ h => h) (by rw [unhide HCT]; exact yieldsIf_load_mid (by kernel_rfl) 24 (.tmp 17) rfl N17 0 rfl (T.map (Value.int .u8)) _ (fun W hS => hS.c.range) Tryd.underlying24 rfl (by rw [List.length_map, (unhide HGT).len]; exact info32)) (by assumption) ?_
                    try simp only [List.getElem_toArray, List.getElem_cons_zero, List.getElem_cons_succ, Act.put, List.setIfInBounds_toArray, List.set_cons_zero, List.set_cons_succ]
                    refine wpAnyH_take (i := 8) (v := ?_) rfl (by kernel_rfl) (by kernel_rfl) (by kernel_rfl) (fun _ _ _ h => h) (Or.inl ⟨by kernel_rfl, ?_⟩) (by assumption) ?_
                    rotate_left
                    · intro Wt hSt
                      go_simp
                      try with_reducible rfl
                    try simp only [List.getElem_toArray, List.getElem_cons_zero, List.getElem_cons_succ, Act.put, List.setIfInBounds_toArray, List.set_cons_zero, List.set_cons_succ]
                    refine wpAnyH_take (i := 9) (v := ?_) rfl (by kernel_rfl) (by kernel_rfl) (by kernel_rfl) (fun _ _ _ h => h) (Or.inl ⟨by kernel_rfl, ?_⟩) (by assumption) ?_
                    rotate_left
                    · intro Wt hSt
                      go_simp
                      try with_reducible rfl
                    try simp only [List.getElem_toArray, List.getElem_cons_zero, List.getElem_cons_succ, Act.put, List.setIfInBounds_toArray, List.set_cons_zero, List.set_cons_succ]
                    refine wpAnyH_take (i := 10) (v := ?_) rfl (by kernel_rfl) (by kernel_rfl) (by kernel_rfl) (fun _ _ _ h => h) (Or.inl ⟨by kernel_rfl, ?_⟩) (by assumption) ?_
                    rotate_left
                    · intro Wt hSt
                      go_simp
                      try with_reducible rfl
                    try simp only [List.getElem_toArray, List.getElem_cons_zero, List.getElem_cons_succ, Act.put, List.setIfInBounds_toArray, List.set_cons_zero, List.set_cons_succ]
                    refine wpAnyH_one 5 _ rfl (by kernel_rfl) (by kernel_rfl) ?_
                    intro Kt hK
                    go_simp
                    refine ((unhide HG1) _ hBW).mono ?_; rintro x Q1 ⟨rfl, hq1⟩
                    have hS1 := hSW.keep hq1
                    have hV1 := thenB hBW hq1
                    dsimp only
                    refine hK _ _ hS1 ?_
                    clear hK Kt
                    try simp only [List.getElem_toArray, List.getElem_cons_zero, List.getElem_cons_succ, Act.put, List.setIfInBounds_toArray, List.set_cons_zero, List.set_cons_succ]
                    refine wpAnyH_one 11 _ rfl (by kernel_rfl) (by kernel_rfl) ?_
                    intro Kt hK
                    go_simp
                    refine ((unhide HG2) _ hV1).mono ?_; rintro x Q2 ⟨rfl, hq2⟩
                    have hS2 := hS1.keep hq2
                    have hV2 := thenB hV1 hq2
                    dsimp only
                    refine hK _ _ hS2 ?_
                    clear hK Kt
                    try simp only [List.getElem_toArray, List.getElem_cons_zero, List.getElem_cons_succ, Act.put, List.setIfInBounds_toArray, List.set_cons_zero, List.set_cons_succ]
                    refine wpAnyH_take (i := 12) (v := ?_) rfl (by kernel_rfl) (by kernel_rfl) (by kernel_rfl) (fun _ _ _ h => h) (Or.inl ⟨by kernel_rfl, ?_⟩) (by assumption) ?_
                    rotate_left
                    · intro Wt hSt
                      go_simp
                      try with_reducible rfl
                    try simp only [List.getElem_toArray, List.getElem_cons_zero, List.getElem_cons_succ, Act.put, List.setIfInBounds_toArray, List.set_cons_zero, List.set_cons_succ]
                    refine wpAnyH_take (i := 13) (v := ?_) rfl (by kernel_rfl) (by kernel_rfl) (by kernel_rfl) (fun _ _ _ h => h) (Or.inl ⟨by kernel_rfl, ?_⟩) (by assumption) ?_
                    rotate_left
                    · intro Wt hSt
                      go_simp
                      try with_reducible rfl
                    try simp only [List.getElem_toArray, List.getElem_cons_zero, List.getElem_cons_succ, Act.put, List.setIfInBounds_toArray, List.set_cons_zero, List.set_cons_succ]
                    refine wpAnyH_take (i := 14) (v := .agg cd) rfl (by kernel_rfl) (by kernel_rfl) (by kernel_rfl) (fun _ _ _ h => h) (by rw [unhide HCD]; exact yieldsIf_load_mid (by kernel_rfl) 24 (.tmp 7) rfl w.heap.size 0 rfl (d.map (Value.int .u8)) _ (fun W hS => hS.a.range) Tryd.underlying24 rfl (by rw [List.length_map, (unhide HD).len]; exact info32)) (by assumption) ?_
                    try simp only [List.getElem_toArray, List.getElem_cons_zero, List.getElem_cons_succ, Act.put, List.setIfInBounds_toArray, List.set_cons_zero, List.set_cons_succ]
                    refine wpAnyH_take (i := 15) (v := .agg ct) rfl (by kernel_rfl) (by kernel_rfl) (by kernel_rfl) (fun _ _ _ h => h) (by rw [unhide HCT]; exact yieldsIf_load_mid (by kernel_rfl) 24 (.tmp 17) rfl N17 0 rfl (T.map (Value.int .u8)) _ (fun W hS => hS.c.range) Tryd.underlying24 rfl (by rw [List.length_map, (unhide HGT).len]; exact info32)) (by assumption) ?_
                    try simp only [List.getElem_toArray, List.getElem_cons_zero, List.getElem_cons_succ, Act.put, List.setIfInBounds_toArray, List.set_cons_zero, List.set_cons_succ]
                    refine wpAnyH_take (i := 16) (v := ?_) rfl (by kernel_rfl) (by kernel_rfl) (by kernel_rfl) (fun _ _ _ h => h) (Or.inl ⟨by kernel_rfl, ?_⟩) (by assumption) ?_
                    rotate_left
                    · intro Wt hSt
                      go_simp
                      try with_reducible rfl
                    try simp only [List.getElem_toArray, List.getElem_cons_zero, List.getElem_cons_succ, Act.put, List.setIfInBounds_toArray, List.set_cons_zero, List.set_cons_succ]
                    refine wpAnyH_take (i := 17) (v := ?_) rfl (by kernel_rfl) (by kernel_rfl) (by kernel_rfl) (fun _ _ _ h => h) (Or.inl ⟨by kernel_rfl, ?_⟩) (by assumption) ?_
                    rotate_left
                    · intro Wt hSt
                      go_simp
                      try with_reducible rfl
                    try simp only [List.getElem_toArray, List.getElem_cons_zero, List.getElem_cons_succ, Act.put, List.setIfInBounds_toArray, List.set_cons_zero, List.set_cons_succ]
                    refine wpAnyH_take (i := 18) (v := ?_) rfl (by kernel_rfl) (by kernel_rfl) (by kernel_rfl) (fun _ _ _ h => h) (Or.inl ⟨by kernel_rfl, ?_⟩) (by assumption) ?_
                    rotate_left
                    · intro Wt hSt
                      go_simp
                      try with_reducible rfl
                    try simp only [List.getElem_toArray, List.getElem_cons_zero, List.getElem_cons_succ, Act.put, List.setIfInBounds_toArray, List.set_cons_zero, List.set_cons_succ]
                    refine wpAnyH_take (i := 20) (v := .agg cd) rfl (by kernel_rfl) (by kernel_rfl) (by kernel_rfl) (fun _ _ _ h => h) (by rw [unhide HCD]; exact yieldsIf_load_mid (by kernel_rfl) 24 (.tmp 7) rfl w.heap.size 0 rfl (d.map (Value.int .u8)) _ (fun W hS => hS.a.range) Tryd.underlying24 rfl (by rw [List.length_map, (unhide HD).len]; exact info32)) (by assumption) ?_
                    try simp only [List.getElem_toArray, List.getElem_cons_zero, List.getElem_cons_succ, Act.put, List.setIfInBounds_toArray, List.set_cons_zero, List.set_cons_succ]
                    refine wpAnyH_take (i := 21) (v := .agg ct) rfl (by kernel_rfl) (by kernel_rfl) (by kernel_rfl) (fun _ _ _ h => h) (by rw [unhide HCT]; exact yieldsIf_load_mid (by kernel_rfl) 24 (.tmp 17) rfl N17 0 rfl (T.map (Value.int .u8)) _ (fun W hS => hS.c.range) Tryd.underlying24 rfl (by rw [List.length_map, (unhide HGT).len]; exact info32)) (by assumption) ?_
                    try simp only [List.getElem_toArray, List.getElem_cons_zero, List.getElem_cons_succ, Act.put, List.setIfInBounds_toArray, List.set_cons_zero, List.set_cons_succ]
                    refine wpAnyH_take (i := 22) (v := ?_) rfl (by kernel_rfl) (by kernel_rfl) (by kernel_rfl) (fun _ _ _ h => h) (Or.inl ⟨by kernel_rfl, ?_⟩) (by assumption) ?_
                    rotate_left
                    · intro Wt hSt
                      go_simp
                      try with_reducible rfl
                    try simp only [List.getElem_toArray, List.getElem_cons_zero, List.getElem_cons_succ, Act.put, List.setIfInBounds_toArray, List.set_cons_zero, List.set_cons_succ]
                    refine wpAnyH_take (i := 23) (v := ?_) rfl (by kernel_rfl) (by kernel_rfl) (by kernel_rfl) (fun _ _ _ h => h) (Or.inl ⟨by kernel_rfl, ?_⟩) (by assumption) ?_
                    rotate_left
                    · intro Wt hSt
                      go_simp
                      try with_reducible rfl
                    try simp only [List.getElem_toArray, List.getElem_cons_zero, List.getElem_cons_succ, Act.put, List.setIfInBounds_toArray, List.set_cons_zero, List.set_cons_succ]
                    refine wpAnyH_take (i := 24) (v := ?_) rfl (by kernel_rfl) (by kernel_rfl) (by kernel_rfl) (fun _ _ _ h => h) (Or.inl ⟨by kernel_rfl, ?_⟩) (by assumption) ?_
                    rotate_left
                    · intro Wt hSt
                      go_simp
                      try with_reducible rfl
                    try simp only [List.getElem_toArray, List.getElem_cons_zero, List.getElem_cons_succ, Act.put, List.setIfInBounds_toArray, List.set_cons_zero, List.set_cons_succ]
                    refine wpAnyH_one 19 _ rfl (by kernel_rfl) (by kernel_rfl) ?_
                    intro Kt hK
                    go_simp
                    refine ((unhide HG3) _ hV2).mono ?_; rintro x Q3 ⟨rfl, hq3⟩
                    have hS3 := hS2.keep hq3
                    have hV3 := thenB hV2 hq3
                    dsimp only
                    refine hK _ _ hS3 ?_
                    clear hK Kt
                    try simp only [List.getElem_toArray, List.getElem_cons_zero, List.getElem_cons_succ, Act.put, List.setIfInBounds_toArray, List.set_cons_zero, List.set_cons_succ]
                    refine wpAnyH_one 25 _ rfl (by kernel_rfl) (by kernel_rfl) ?_
                    intro Kt hK
                    go_simp
                    refine ((unhide HG4) _ hV3).mono ?_; rintro x Q4 ⟨rfl, hq4⟩
                    have hS4 := hS3.keep hq4
                    have hV4 := thenB hV3 hq4
                    dsimp only
                    refine hK _ _ hS4 ?_
                    clear hK Kt
                    try simp only [List.getElem_toArray, List.getElem_cons_zero, List.getElem_cons_succ, Act.put, List.setIfInBounds_toArray, List.set_cons_zero, List.set_cons_succ]
                    refine wpAnyH_take (i := 26) (v := ?_) rfl (by kernel_rfl) (by kernel_rfl) (by kernel_rfl) (fun _ _ _ h => h) (Or.inl ⟨by kernel_rfl, ?_⟩) (by assumption) ?_
                    rotate_left
                    · intro Wt hSt
                      go_simp
                      try with_reducible rfl
                    try simp only [List.getElem_toArray, List.getElem_cons_zero, List.getElem_cons_succ, Act.put, List.setIfInBounds_toArray, List.set_cons_zero, List.set_cons_succ]
                    refine wpAnyH_take (i := 27) (v := ?_) rfl (by kernel_rfl) (by kernel_rfl) (by kernel_rfl) (fun _ _ _ h => h) (Or.inl ⟨by kernel_rfl, ?_⟩) (by assumption) ?_
                    rotate_left
                    · intro Wt hSt
                      go_simp
                      try with_reducible rfl
                    try simp only [List.getElem_toArray, List.getElem_cons_zero, List.getElem_cons_succ, Act.put, List.setIfInBounds_toArray, List.set_cons_zero, List.set_cons_succ]
                    refine wpAnyH_chainOf [] _ _ _ (by kernel_rfl) (by kernel_rfl) ?_
                    refine wpChain_nil ?_
                    have HEND := hide (thenB (unhide HVT) hV4)
                    clear hSW hS1 hS2 hS3 hS4 hV1 hV2 hV3 hV4 hq1 hq2 hq3 hq4 hBW
                    go_wp2_with fail
                    go_roundg g4
                    case measure => omega
                    case rel => exact ⟨t + 1, rfl, by have := unhide HTT; omega, unhide HEND⟩
                  · have t1 : ¬ (t : Int) < 3 := by omega
                    have HE := hide (thenB (unhide HBC1) hbt)
                    clear htg ht hbt
                    go_wp2_with fail
                    go_roundg g3
                    case measure => omega
                    case rel => exact ⟨k + 1, rfl, by have := unhide HK2; omega, unhide HE⟩
              · have k1 : ¬ (k : Int) < 3 := by omega
                have HE := hide (thenB (unhide HVU) hbk)
                clear hkg hk hbk
                go_wp2_with fail
                go_roundg g2
                case measure => omega
                case rel => exact ⟨j + 1, rfl, by have := unhide HJ; omega, unhide HE⟩
    · have j1 : ¬ (j : Int) < 2 := by omega
      have HE := hide (unhide HBJ)
      clear hbj hjg hj
      go_wp2_with fail
      go_ret
      exact ⟨rfl, unhide HE⟩
end Go.Proofs.YtceppmajbkmbdaaDoor
