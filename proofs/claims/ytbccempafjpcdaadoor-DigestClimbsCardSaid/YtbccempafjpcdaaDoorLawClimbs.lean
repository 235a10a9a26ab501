/- The law DigestClimbs: paths lead to the digest of the list; longer ones are refused. -/
import Derived.Test.YtbccempafjpcdaaDoorDigApp2
import Derived.Test.YtbccempafjpcdaaDoorDigTwo
import Derived.Test.YtbccempafjpcdaaDoorClose
import Derived.Deep.DeepCutAuto
namespace Go.Proofs.YtbccempafjpcdaaDoor
set_option linter.unusedSimpArgs false
set_option linter.unusedVariables false
open Go.RowKit Go.LawClose

set_option maxRecDepth 100000 in
set_option maxHeartbeats 8000000 in
theorem climbs_any (A : Option Addr) (c : Nat) (l : List Int) (w : World) (hA : Bt w A l) (hc : l.length ≤ c) (h63 : l.length ≤ 140737488351232) (hT : DTab w) :
    Calls Tryd.prog 7 #[.slice A l.length c] w (LawOk w) := by
  have HT := hide hT
  have HA := hide hA
  have HC : Hid (l.length ≤ c ∧ l.length ≤ 140737488351232) := ⟨hc, h63⟩
  clear hT hA hc h63
  go_enter Tryd.func7, Tryd.ntmps7
  go_wp2_with fail
  refine (sane_any w (unhide HT)).mono ?_; rintro x W1 ⟨rfl, hB1⟩
  have HB1 := hide hB1
  clear hB1
  go_wp2_with fail
  refine (of_any A c l W1 ((unhide HA).keep (unhide HB1)) (unhide HC).1 (unhide HC).2).mono ?_; rintro x W2 ⟨⟨v, rfl, hown⟩, hB2⟩
  obtain ⟨AL, cL, rfl, hcL, hds⟩ := hown.ds (dg_dsP l)
  have h24 : (dsP l).length ≤ 24 := by rw [dsP_length]; exact Nat.min_le_right _ _
  obtain ⟨L, hL⟩ : ∃ L, L = dsP l := ⟨_, rfl⟩
  rw [← hL] at hds hcL h24 ⊢
  obtain ⟨n, hn⟩ : ∃ n, n = L.length := ⟨_, rfl⟩
  rw [← hn]
  have HB2 := hide (thenB (unhide HB1) hB2)
  have HDS := hide hds
  have HN : Hid (n = L.length ∧ n ≤ cL ∧ n ≤ 24) := ⟨hn, by omega, by omega⟩
  have HT2 := hide ((unhide HT).keep (unhide HB2))
  clear hown hL hcL hds h24 hB2 HB1 HA HC hn HT
  obtain ⟨T, hTd⟩ : ∃ T, T = treeD L := ⟨_, rfl⟩
  have hgT : Dg T := hTd ▸ dg_treeD _
  obtain ⟨ct, hct⟩ : ∃ cs, cs = (T.map (Value.int .u8)).toArray := ⟨_, rfl⟩
  have hst : ct.size = 32 := by rw [hct]; simpa using hgT.len
  have htr := Tree_any W2 cL AL L (unhide HDS) (by have := unhide HN; omega) (by have := unhide HN; omega) (unhide HT2)
  rw [← (unhide HN).1, ← hTd, show dv T = .agg ct by rw [hct]] at htr
  have HTD := hide hTd; have HGT := hide hgT; have HCT := hide hct
  clear hTd hgT hct
  go_wp2_with fail
  refine htr.mono ?_; rintro x W3 ⟨rfl, hB3⟩
  have HB3 := hide hB3
  clear hB3 htr
  dsimp only
  rename_i KK hK
  refine hK _ _ ?_
  clear hK KK
  refine wpList_plain rfl fun Kt hKt => ?_
  go_simp
  refine hKt _ _ ?_
  clear hKt Kt
  generalize hX4 : W3.alloc _ = W4
  have hB4 : Below W3.heap.size W3 W4 := hX4 ▸ (Below.refl _ _).alloc (Nat.le_refl _) _
  have HO4 := hide (newBy W3 W4 (by rw [← hX4]; rfl))
  have HB4 := hide (thenB (unhide HB3) hB4)
  have HZ : Hid (W2.heap.size ≤ W3.heap.size) := (unhide HB3).size
  clear hX4 hB4 HB3
  refine wpList_bstore rfl 26 (.tmp 4) (.tmp 18) rfl W3.heap.size rfl T (show Value.agg ct = _ by rw [unhide HCT]) 32 info32 (unhide HGT).len _ zeros (unhide HO4) rfl ?_
  intro W5 HW5 HG5
  have HB5 := hide ((unhide HB4).grown (unhide HG5) (unhide HB4).size (fun i e => by injection e with e; have := unhide HZ; omega))
  have HDS5 := hide ((unhide HDS).keep (unhide HB5))
  have HT5 := hide ((unhide HT2).keep (unhide HB5))
  have HBW5 := hide (thenB (unhide HB2) (unhide HB5))
  obtain ⟨N4, hN4⟩ : ∃ N, N = W3.heap.size := ⟨_, rfl⟩
  rw [← hN4] at HW5 ⊢
  clear hN4 HG5 HO4 HB4 HB5 HDS HT2 HB2 HZ
  try simp only [List.getElem_toArray, List.getElem_cons_zero, List.getElem_cons_succ, Act.put, List.setIfInBounds_toArray, List.set_cons_zero, List.set_cons_succ]
  go_wp2_with fail
  go_loopg [21] n (fun g y21 wx => ∃ k : Nat, y21 = .int .i64 (k : Int) ∧ k + g = n ∧ Below W5.heap.size W5 wx)
  case atStart => exact ⟨0, rfl, by omega, Below.refl _ _⟩
  case round =>
    obtain ⟨k, rfl, hkg, hbel⟩ := hrel
    have HBE := hide hbel
    by_cases hkn : k < n
    · obtain ⟨g, rfl⟩ : ∃ g, gk = g + 1 := ⟨gk - 1, by omega⟩
      have hN := unhide HN
      obtain ⟨d, hd⟩ : ∃ d, L[k]? = some d := ⟨_, List.getElem?_eq_getElem (by omega)⟩
      have hgd : Dg d := (unhide HDS5).dg d (List.mem_of_getElem? hd)
      obtain ⟨b, o, rfl, hrg⟩ := (unhide HDS5).at_ (fun e => by rw [e] at hN; simp at hN; omega)
      have hrd := rangeAt_keep (hrg k d hd) hbel
      obtain ⟨cd, hcd⟩ : ∃ cs, cs = (d.map (Value.int .u8)).toArray := ⟨_, rfl⟩
      have hsd : cd.size = 32 := by rw [hcd]; simpa using hgd.len
      obtain ⟨sp1, sp2, sp3⟩ := pathP_spec n L k hN.1.symm hkn
      have hTP : climbP d n k (pathP L k) = T := by
        rw [sp3 d hd, unhide HTD, treeD, if_neg (fun e => by rw [e] at hN; simp at hN; omega)]
      have hm5 : lenP n k ≤ 5 := lenP_le 5 n k (by omega) (by omega) hkn
      obtain ⟨p, hp⟩ : ∃ p, p = pathP L k := ⟨_, rfl⟩
      rw [← hp] at sp1 sp2 hTP
      obtain ⟨m, hm⟩ : ∃ m, m = p.length := ⟨_, rfl⟩
      have i1 : (k : Int) < (n : Int) := by omega
      have i0 : (0 : Int) ≤ (k : Int) := Int.natCast_nonneg _
      have i2 : ¬ (5 : Int) < (m : Int) := by omega
      have wk : IntKind.i64.wrap ((k : Int) + 1) = ((k + 1 : Nat) : Int) := (IntWalk.i64_in _ (by omega)).trans (by omega)
      have i3 : (n : Int) ≤ (cL : Int) := by omega
      have HKN : Hid (k < n ∧ k + (g + 1) = n ∧ n ≤ 24 ∧ n = L.length ∧ n ≤ cL) := ⟨hkn, hkg, hN.2.2, hN.1, hN.2.1⟩
      have HP : Hid (p = pathP L k ∧ p.length = lenP n k ∧ (∀ d ∈ p, Dg d) ∧ climbP d n k p = T ∧ m = p.length ∧ lenP n k ≤ 5) := ⟨hp, sp1, sp2, hTP, hm, hm5⟩
      have HGD := hide hgd; have HRD := hide hrd; have HCD := hide hcd
      clear hN hd hgd hrg hrd hcd sp1 sp2 sp3 hTP hm5 hp hm hkn hkg hbel
      go_upto_region 7 with fail
      refine wp_region_lit ?_
      refine wpList_plain rfl fun Kt hKt => ?_
      go_simp
      refine hKt _ _ ?_
      clear hKt Kt
      refine wpList_plain rfl fun Kt hKt => ?_
      go_simp
      refine hKt _ _ ?_
      clear hKt Kt
      refine wpList_load_mid rfl 26 (.tmp 24) rfl b (o + k * 32) rfl (d.map (Value.int .u8)) _ (unhide HRD) Tryd.underlying26 rfl (by rw [List.length_map, (unhide HGD).len]; exact info32) ?_
      rw [show Value.agg (d.map (Value.int .u8)).toArray = .agg cd by rw [unhide HCD]]
      try simp only [List.getElem_toArray, List.getElem_cons_zero, List.getElem_cons_succ, Act.put, List.setIfInBounds_toArray, List.set_cons_zero, List.set_cons_succ]
      refine wpList_plain rfl fun Kt hKt => ?_
      go_simp
      refine hKt _ _ ?_
      clear hKt Kt
      generalize hX6 : wr.alloc _ = V1
      have hB6 : Below wr.heap.size wr V1 := hX6 ▸ (Below.refl _ _).alloc (Nat.le_refl _) _
      have HO6 := hide (newBy wr V1 (by rw [← hX6]; rfl))
      have HB6 := hide (thenB (unhide HBE) hB6)
      have HZ6 : Hid (W5.heap.size ≤ wr.heap.size) := (unhide HBE).size
      clear hX6 hB6
      refine wpList_plain rfl fun Kt hKt => ?_
      go_simp
      refine hKt _ _ ?_
      clear hKt Kt
      refine wpList_bstore rfl 26 (.tmp 6) (.tmp 25) rfl wr.heap.size rfl d (show Value.agg cd = _ by rw [unhide HCD]) 32 info32 (unhide HGD).len _ zeros (unhide HO6) rfl ?_
      intro V2 HV2 HG2
      have HB7 := hide ((unhide HB6).grown (unhide HG2) (unhide HB6).size (fun i e => by injection e with e; have := unhide HZ6; omega))
      obtain ⟨N6, hN6⟩ : ∃ N, N = wr.heap.size := ⟨_, rfl⟩
      rw [← hN6] at HV2 ⊢
      clear hN6 HG2 HO6 HB6 HZ6 HRD
      try simp only [List.getElem_toArray, List.getElem_cons_zero, List.getElem_cons_succ, Act.put, List.setIfInBounds_toArray, List.set_cons_zero, List.set_cons_succ]
      go_wp2_with fail
      have hpo := Path_ok L k (some ⟨b, o, none⟩) cL V2 ((unhide HDS5).keep (unhide HB7)) (by have := unhide HKN; omega) (by have := unhide HKN; omega) (by have := unhide HKN; omega) ((unhide HT5).keep (unhide HB7))
      rw [← (unhide HKN).2.2.2.1, ← (unhide HP).1] at hpo
      refine hpo.mono ?_; rintro x V3 ⟨⟨vp, rfl, hop⟩, hB8⟩
      obtain ⟨Ap, cp, rfl, hpc, hdp, hnone⟩ := own_form hop (unhide HP).2.2.1
      rw [← (unhide HP).2.2.2.2.1]
      have HB8 := hide (thenB (unhide HB7) hB8)
      have HN8 := hide ((unhide HV2).keep hB8)
      have HDP := hide hdp
      have HPC : Hid (p.length ≤ cp) := hpc
      have HNONE := hide hnone
      clear hpo hop hpc hdp hnone hB8 HB7 HV2
      go_upto_region 9 with fail
      refine wp_region_lit ?_
      refine wpList_bload rfl 26 (.tmp 6) rfl N6 rfl _ Tryd.underlying26 rfl 32 info32 _ d (unhide HN8) (unhide HGD).len ?_
      rw [show dv d = .agg cd by rw [unhide HCD]]
      go_wp2_with fail
      have hcl := Climb_ok k n (by have := unhide HKN; omega) (by have := unhide HKN; omega) (unhide HKN).1 p (unhide HP).2.1 d V3 m cp Ap (unhide HP).2.2.2.2.1 (unhide HGD) ((unhide HT5).keep (unhide HB8)) (by have := unhide HP; have := unhide HPC; omega) (unhide HDP)
        (fun W hb h1 h2 h3 => climb_any n (by have := unhide HKN; omega) k d p W hb m cp Ap (by have := unhide HKN; omega) (unhide HKN).1 (unhide HP).2.2.2.2.1.symm (by have := unhide HP; omega) (by have := unhide HP; have := unhide HPC; omega) (unhide HGD) h3 h1 h2)
      rw [(unhide HP).2.2.2.1, show dv T = .agg ct by rw [unhide HCT], show dv d = .agg cd by rw [unhide HCD]] at hcl
      refine hcl.mono ?_; rintro x V4 ⟨rfl, hB9⟩
      have HB9 := hide (thenB (unhide HB8) hB9)
      have HN9 := hide ((unhide HN8).keep hB9)
      have HDP9 := hide ((unhide HDP).keep hB9)
      clear hcl hB9 HB8 HN8 HDP
      dsimp only
      rename_i KK hK
      refine hK _ _ ?_
      clear hK KK
      refine wpList_plain rfl fun Kt hKt => ?_
      go_simp
      refine hKt _ _ ?_
      clear hKt Kt
      refine wpList_plain rfl fun Kt hKt => ?_
      go_simp
      refine hKt _ _ ?_
      clear hKt Kt
      refine wpList_plain rfl fun Kt hKt => ?_
      go_simp
      refine hKt _ _ ?_
      clear hKt Kt
      refine wpList_plain rfl fun Kt hKt => ?_
      go_simp
      refine hKt _ _ ?_
      clear hKt Kt
      generalize hX10 : V4.alloc _ = V5
      have hB10 : Below V4.heap.size V4 V5 := hX10 ▸ (Below.refl _ _).alloc (Nat.le_refl _) _
      have HO10 := hide (newBy V4 V5 (by rw [← hX10]; rfl))
      have HB10 := hide (thenB (unhide HB9) hB10)
      have HN10 := hide ((unhide HN9).keep hB10)
      have HDP10 := hide ((unhide HDP9).keep hB10)
      have HZ10 : Hid (N6 < V4.heap.size ∧ W5.heap.size ≤ V4.heap.size) := ⟨lt_of_block (unhide HN9), (unhide HB9).size⟩
      clear hX10 HB9 HN9
      refine wpList_bstore rfl 26 (.tmp 9) (.tmp 39) rfl V4.heap.size rfl T (show Value.agg ct = _ by rw [unhide HCT]) 32 info32 (unhide HGT).len _ zeros (unhide HO10) rfl ?_
      intro V6 HV6 HG6
      have HB11 := hide ((unhide HB10).grown (unhide HG6) (unhide HB10).size (fun i e => by injection e with e; have := unhide HZ10; omega))
      have HN11 := hide ((unhide HN10).grown (unhide HG6) (by have := unhide HZ10; omega))
      have HDP11 := hide ((unhide HDP9).keep (hB10.grown (unhide HG6) hB10.size (fun i e => by injection e with e; omega)))
      obtain ⟨N9, hN9⟩ : ∃ N, N = V4.heap.size := ⟨_, rfl⟩
      rw [← hN9] at HV6 ⊢
      clear hN9 HG6 HO10 HB10 HN10 HDP10 HDP9 HZ10 hB10
      try simp only [List.getElem_toArray, List.getElem_cons_zero, List.getElem_cons_succ, Act.put, List.setIfInBounds_toArray, List.set_cons_zero, List.set_cons_succ]
      go_wp2_with fail
      go_cut [12] (fun y12 wx => y12 = .int .i64 1 ∧ Below V6.heap.size V6 wx)
      case first =>
        obtain ⟨W, hW⟩ : ∃ W, W = V6.drewN 1 := ⟨_, rfl⟩
        have HW : Hid (W = V6.drewN 1) := hW
        have HW2 := hide (below_named HW)
        have HBW := hide (thenB (unhide HB11) (below_named HW))
        have HDW := hide ((unhide HN11).keep (below_named HW))
        have HPW := hide ((unhide HDP11).keep (below_named HW))
        have hSW : Below W.heap.size W W := Below.refl _ _
        have HTW := hide ((unhide HT5).keep (unhide HBW))
        obtain ⟨cz, hcz⟩ : ∃ cs, cs = (zeros.map (Value.int .u8)).toArray := ⟨_, rfl⟩
        have hsz : cz.size = 32 := by rw [hcz]; rfl
        have HCZ := hide hcz
        have HBADC : Hid (∀ (V : World) (Aq : Option Addr) (cq : Nat), Below W.heap.size W V → Calls Tryd.prog 21 #[.agg cd, .int .i64 (k : Int), .int .i64 (n : Int), .slice Aq (m + 1) cq] V fun x w' => x = .returned (.tuple #[.agg cz, .int .i64 1]) ∧ Below V.heap.size V w') := fun V Aq cq hV => by
          have := Climb_bad (k : Int) (n : Int) (m + 1) (fun h => by have h5 := h.2.2.2.2; have hp := unhide HP; rw [Int.toNat_natCast, Int.toNat_natCast] at h5; omega) d V cq Aq (unhide HGD) ((unhide HTW).keep hV)
          rw [show dv zeros = .agg cz by rw [unhide HCZ], show dv d = .agg cd by rw [unhide HCD]] at this
          exact this
        clear hW hcz HB11 HN11 HDP11 HV6
        refine held (S := Below W.heap.size W) W HW (by kernel_rfl) ?_
        refine wpAnyH_take (i := 0) (v := .agg cd) rfl (by kernel_rfl) (by kernel_rfl) (by kernel_rfl) (fun _ _ _ h => h) (by rw [unhide HCD]; exact yieldsIf_load_mid (by kernel_rfl) 26 (.tmp 6) rfl N6 0 rfl (d.map (Value.int .u8)) _ (fun W hS => ((unhide HDW).keep hS).range) Tryd.underlying26 rfl (by rw [List.length_map, (unhide HGD).len]; exact info32)) (by assumption) ?_
        try simp only [List.getElem_toArray, List.getElem_cons_zero, List.getElem_cons_succ, Act.put, List.setIfInBounds_toArray, List.set_cons_zero, List.set_cons_succ]
        refine wpAnyH_take (i := 1) (v := ?_) rfl (by kernel_rfl) (by kernel_rfl) (by kernel_rfl) (fun _ _ _ h => h) (Or.inl ⟨by kernel_rfl, ?_⟩) (by assumption) ?_
        rotate_left
        · intro Wt hSt
          go_simp
          try with_reducible rfl
        try simp only [List.getElem_toArray, List.getElem_cons_zero, List.getElem_cons_succ, Act.put, List.setIfInBounds_toArray, List.set_cons_zero, List.set_cons_succ]
        refine wpAnyH_take (i := 2) (v := ?_) rfl (by kernel_rfl) (by kernel_rfl) (by kernel_rfl) (fun _ _ _ h => h) (Or.inl ⟨by kernel_rfl, ?_⟩) (by assumption) ?_
        rotate_left
        · intro Wt hSt
          go_simp
          try with_reducible rfl
        try simp only [List.getElem_toArray, List.getElem_cons_zero, List.getElem_cons_succ, Act.put, List.setIfInBounds_toArray, List.set_cons_zero, List.set_cons_succ]
        refine wpAnyH_take (i := 3) (v := ?_) rfl (by kernel_rfl) (by kernel_rfl) (by kernel_rfl) (fun _ _ _ h => h) (Or.inl ⟨by kernel_rfl, ?_⟩) (by assumption) ?_
        rotate_left
        · intro Wt hSt
          go_simp
          try with_reducible rfl
        try simp only [List.getElem_toArray, List.getElem_cons_zero, List.getElem_cons_succ, Act.put, List.setIfInBounds_toArray, List.set_cons_zero, List.set_cons_succ]
        refine wpAnyH_take (i := 5) (v := ?_) rfl (by kernel_rfl) (by kernel_rfl) (by kernel_rfl) (fun _ _ _ h => h) (Or.inl ⟨by kernel_rfl, ?_⟩) (by assumption) ?_
        rotate_left
        · intro Wt hSt
          go_simp
          try with_reducible rfl
        try simp only [List.getElem_toArray, List.getElem_cons_zero, List.getElem_cons_succ, Act.put, List.setIfInBounds_toArray, List.set_cons_zero, List.set_cons_succ]
        refine wpAnyH_take (i := 7) (v := .agg cd) rfl (by kernel_rfl) (by kernel_rfl) (by kernel_rfl) (fun _ _ _ h => h) (by rw [unhide HCD]; exact yieldsIf_load_mid (by kernel_rfl) 26 (.tmp 6) rfl N6 0 rfl (d.map (Value.int .u8)) _ (fun W hS => ((unhide HDW).keep hS).range) Tryd.underlying26 rfl (by rw [List.length_map, (unhide HGD).len]; exact info32)) (by assumption) ?_
        try simp only [List.getElem_toArray, List.getElem_cons_zero, List.getElem_cons_succ, Act.put, List.setIfInBounds_toArray, List.set_cons_zero, List.set_cons_succ]
        refine wpAnyH_all (show Region.ready .any _ _ = [4, 8, 14] by kernel_rfl) (by simp) fun x hx => ?_
        rcases (by simpa using hx : x = 4 ∨ x = 8 ∨ x = 14) with rfl | rfl | rfl
        · clear hx
          refine wpOp_one 4 _ rfl (by kernel_rfl) fun K hK => ?_
          go_simp
          generalize hX1 : W.alloc _ = V1_
          have hb1 : Below W.heap.size W V1_ := hX1 ▸ (Below.refl _ _).alloc (Nat.le_refl _) _
          have ho1 : OwnD V1_ W.heap.size (.slice (some ⟨W.heap.size, 0, none⟩) 0 0) [] := hX1 ▸ World.ownsRow_lit W #[] 0 hSW.size (Nat.zero_le _) rfl
          have hS1 := thenB hSW hb1
          refine hK _ _ ⟨hS1, ?_⟩
          clear hK K
          try simp only [List.getElem_toArray, List.getElem_cons_zero, List.getElem_cons_succ, Act.put, List.setIfInBounds_toArray, List.set_cons_zero, List.set_cons_succ]
          refine wpAnyH_all (show Region.ready .any _ _ = [6, 8, 14] by kernel_rfl) (by simp) fun x hx => ?_
          rcases (by simpa using hx : x = 6 ∨ x = 8 ∨ x = 14) with rfl | rfl | rfl
          · clear hx
            refine wpOp_one 6 _ rfl (by kernel_rfl) fun K hK => ?_
            obtain ⟨v2, V2_, hr2, ho2, hg2, hob2⟩ := append_many ho1 30 Ap cp ((unhide HPW).keep hS1) (unhide HNONE) (by have := unhide HP; simp; omega) hS1.size
            rw [← (unhide HP).2.2.2.2.1] at hr2
            have hS2 := grown_below hS1 hg2 (fun k hk => (ho1.lt k hk).1)
            refine wp_append (.tmp 46) (.tmp 47) 30 rfl _ _ v2 V2_ rfl rfl hr2 ?_
            refine hK _ _ ⟨hS2, ?_⟩
            clear hK K
            try simp only [List.getElem_toArray, List.getElem_cons_zero, List.getElem_cons_succ, Act.put, List.setIfInBounds_toArray, List.set_cons_zero, List.set_cons_succ]
            refine wpAnyH_all (show Region.ready .any _ _ = [8, 14] by kernel_rfl) (by simp) fun x hx => ?_
            rcases (by simpa using hx : x = 8 ∨ x = 14) with rfl | rfl
            · clear hx
              refine wpOp_one 8 _ rfl (by kernel_rfl) fun K hK => ?_
              go_simp
              rw [overwritten hsd (by rfl)]
              generalize hX3 : V2_.alloc _ = V3_
              have hb3 : Below V2_.heap.size V2_ V3_ := hX3 ▸ (Below.refl _ _).alloc (Nat.le_refl _) _
              have hneE3 : ∀ k, (v2 : Value).ownBlock = some k → k ≠ V2_.heap.size := fun k hk => by have := (ho2.lt k hk).2; omega
              have ho3 := ho2.later hb3
              have hE3 : ByAt V3_ V2_.heap.size 26 d := boxed V2_ V3_ d _ (by rw [← hX3, unhide HCD]; rfl)
              have hS3 := thenB hS2 hb3
              refine hK _ _ ⟨hS3, ?_⟩
              clear hK K
              try simp only [List.getElem_toArray, List.getElem_cons_zero, List.getElem_cons_succ, Act.put, List.setIfInBounds_toArray, List.set_cons_zero, List.set_cons_succ]
              refine wpAnyH_all (show Region.ready .any _ _ = [9, 14] by kernel_rfl) (by simp) fun x hx => ?_
              rcases (by simpa using hx : x = 9 ∨ x = 14) with rfl | rfl
              · clear hx
                refine wpOp_one 9 _ rfl (by kernel_rfl) fun K hK => ?_
                obtain ⟨v4, V4_, hr4, ho4, hg4, hob4⟩ := append_one ho3 30 (V2_.heap.size) 1 d (unhide HGD) hE3 (by have := unhide HP; simp; omega) hS3.size
                have hS4 := grown_below hS3 hg4 (fun k hk => (ho3.lt k hk).1)
                refine wp_append (.tmp 48) (.tmp 50) 30 rfl _ _ v4 V4_ rfl rfl hr4 ?_
                refine hK _ _ ⟨hS4, ?_⟩
                clear hK K
                try simp only [List.getElem_toArray, List.getElem_cons_zero, List.getElem_cons_succ, Act.put, List.setIfInBounds_toArray, List.set_cons_zero, List.set_cons_succ]
                refine wpAnyH_all (show Region.ready .any _ _ = [10, 14] by kernel_rfl) (by simp) fun x hx => ?_
                rcases (by simpa using hx : x = 10 ∨ x = 14) with rfl | rfl
                · clear hx
                  refine wpOp_one 10 _ rfl (by kernel_rfl) fun K hK => ?_
                  obtain ⟨Aq, cq, hvq, _, _, _⟩ := own_form ho4 (fun x hx => by
                    rcases List.mem_append.1 hx with h | h
                    · exact (unhide HP).2.2.1 x (by simpa using h)
                    · rw [List.mem_singleton.1 h]; exact unhide HGD)
                  rw [show (([] : List (List Int)) ++ p ++ [d]).length = m + 1 by have := unhide HP; simp; omega] at hvq
                  subst hvq
                  go_simp
                  refine ((unhide HBADC) V4_ Aq cq hS4).mono ?_; rintro x V5_ ⟨rfl, hb5⟩
                  dsimp only
                  have hS5 := thenB hS4 hb5
                  refine hK _ _ ⟨hS5, ?_⟩
                  clear hK K
                  try simp only [List.getElem_toArray, List.getElem_cons_zero, List.getElem_cons_succ, Act.put, List.setIfInBounds_toArray, List.set_cons_zero, List.set_cons_succ]
                  refine wpAnyH_take (i := 11) (v := ?_) rfl (by kernel_rfl) (by kernel_rfl) (by kernel_rfl) (fun _ _ _ h => h) (Or.inl ⟨by kernel_rfl, ?_⟩) (by assumption) ?_
                  rotate_left
                  · intro Wt hSt
                    go_simp
                    try with_reducible rfl
                  try simp only [List.getElem_toArray, List.getElem_cons_zero, List.getElem_cons_succ, Act.put, List.setIfInBounds_toArray, List.set_cons_zero, List.set_cons_succ]
                  refine wpAnyH_take (i := 12) (v := ?_) rfl (by kernel_rfl) (by kernel_rfl) (by kernel_rfl) (fun _ _ _ h => h) (Or.inl ⟨by kernel_rfl, ?_⟩) (by assumption) ?_
                  rotate_left
                  · intro Wt hSt
                    go_simp
                    try with_reducible rfl
                  try simp only [List.getElem_toArray, List.getElem_cons_zero, List.getElem_cons_succ, Act.put, List.setIfInBounds_toArray, List.set_cons_zero, List.set_cons_succ]
                  refine wpAnyH_take (i := 13) (v := ?_) rfl (by kernel_rfl) (by kernel_rfl) (by kernel_rfl) (fun _ _ _ h => h) (Or.inl ⟨by kernel_rfl, ?_⟩) (by assumption) ?_
                  rotate_left
                  · intro Wt hSt
                    go_simp
                    try with_reducible rfl
                  try simp only [List.getElem_toArray, List.getElem_cons_zero, List.getElem_cons_succ, Act.put, List.setIfInBounds_toArray, List.set_cons_zero, List.set_cons_succ]
                  refine wpAnyH_all (show Region.ready .any _ _ = [14] by kernel_rfl) (by simp) fun x hx => ?_
                  obtain rfl : x = 14 := by simpa using hx
                  clear hx
                  refine wpOp_one 14 _ rfl (by kernel_rfl) fun K hK => ?_
                  go_simp
                  generalize hX6 : V5_.alloc _ = V6_
                  have hb6 : Below V5_.heap.size V5_ V6_ := hX6 ▸ (Below.refl _ _).alloc (Nat.le_refl _) _
                  have hZ6 := newBy V5_ V6_ (by rw [← hX6]; rfl)
                  have hS6 := thenB hS5 hb6
                  have hleZ : W.heap.size ≤ V5_.heap.size := hS5.size
                  refine hK _ _ ⟨hS6, ?_⟩
                  clear hK K
                  try simp only [List.getElem_toArray, List.getElem_cons_zero, List.getElem_cons_succ, Act.put, List.setIfInBounds_toArray, List.set_cons_zero, List.set_cons_succ]
                  refine wpAnyH_chainOf [15, 16] _ _ _ (by kernel_rfl) (by kernel_rfl) ?_
                  simp only [List.filterMap_cons, List.filterMap_nil, List.getElem?_toArray, List.getElem?_cons_zero, List.getElem?_cons_succ]
                  refine wpChain_bstore rfl 26 (.tmp 11) (.tmp 53) rfl (V5_.heap.size) rfl zeros (show Value.agg cz = _ by rw [unhide HCZ]) 32 info32 rfl _ zeros hZ6 rfl ?_
                  intro X1 HX1 HGx1
                  have hZ1 := hS6.grown (unhide HGx1) hS6.size (fun i e => by injection e with e; omega)
                  refine ⟨hZ1, ?_⟩
                  refine wpChain_step rfl fun K hK => ?_
                  go_simp
                  refine hK _ _ hZ1 (wpChain_nil ?_)
                  clear hK K
                  go_wp2_with fail
                  go_meet
                  exact ⟨rfl, thenB (unhide HW2) hZ1⟩
                · clear hx
                  refine wpOp_one 14 _ rfl (by kernel_rfl) fun K hK => ?_
                  go_simp
                  generalize hX7 : V4_.alloc _ = V7_
                  have hb7 : Below V4_.heap.size V4_ V7_ := hX7 ▸ (Below.refl _ _).alloc (Nat.le_refl _) _
                  have hneZ7 : ∀ k, (v4 : Value).ownBlock = some k → k ≠ V4_.heap.size := fun k hk => by have := (ho4.lt k hk).2; omega
                  have ho7 := ho4.later hb7
                  have hZ7 := newBy V4_ V7_ (by rw [← hX7]; rfl)
                  have hS7 := thenB hS4 hb7
                  have hleZ : W.heap.size ≤ V4_.heap.size := hS4.size
                  refine hK _ _ ⟨hS7, ?_⟩
                  clear hK K
                  try simp only [List.getElem_toArray, List.getElem_cons_zero, List.getElem_cons_succ, Act.put, List.setIfInBounds_toArray, List.set_cons_zero, List.set_cons_succ]
                  refine wpAnyH_all (show Region.ready .any _ _ = [10] by kernel_rfl) (by simp) fun x hx => ?_
                  obtain rfl : x = 10 := by simpa using hx
                  clear hx
                  refine wpOp_one 10 _ rfl (by kernel_rfl) fun K hK => ?_
                  obtain ⟨Aq, cq, hvq, _, _, _⟩ := own_form ho7 (fun x hx => by
                    rcases List.mem_append.1 hx with h | h
                    · exact (unhide HP).2.2.1 x (by simpa using h)
                    · rw [List.mem_singleton.1 h]; exact unhide HGD)
                  rw [show (([] : List (List Int)) ++ p ++ [d]).length = m + 1 by have := unhide HP; simp; omega] at hvq
                  subst hvq
                  go_simp
                  refine ((unhide HBADC) V7_ Aq cq hS7).mono ?_; rintro x V8_ ⟨rfl, hb8⟩
                  dsimp only
                  have hZ8 := hZ7.keep hb8
                  have hS8 := thenB hS7 hb8
                  refine hK _ _ ⟨hS8, ?_⟩
                  clear hK K
                  try simp only [List.getElem_toArray, List.getElem_cons_zero, List.getElem_cons_succ, Act.put, List.setIfInBounds_toArray, List.set_cons_zero, List.set_cons_succ]
                  refine wpAnyH_take (i := 11) (v := ?_) rfl (by kernel_rfl) (by kernel_rfl) (by kernel_rfl) (fun _ _ _ h => h) (Or.inl ⟨by kernel_rfl, ?_⟩) (by assumption) ?_
                  rotate_left
                  · intro Wt hSt
                    go_simp
                    try with_reducible rfl
                  try simp only [List.getElem_toArray, List.getElem_cons_zero, List.getElem_cons_succ, Act.put, List.setIfInBounds_toArray, List.set_cons_zero, List.set_cons_succ]
                  refine wpAnyH_take (i := 12) (v := ?_) rfl (by kernel_rfl) (by kernel_rfl) (by kernel_rfl) (fun _ _ _ h => h) (Or.inl ⟨by kernel_rfl, ?_⟩) (by assumption) ?_
                  rotate_left
                  · intro Wt hSt
                    go_simp
                    try with_reducible rfl
                  try simp only [List.getElem_toArray, List.getElem_cons_zero, List.getElem_cons_succ, Act.put, List.setIfInBounds_toArray, List.set_cons_zero, List.set_cons_succ]
                  refine wpAnyH_take (i := 13) (v := ?_) rfl (by kernel_rfl) (by kernel_rfl) (by kernel_rfl) (fun _ _ _ h => h) (Or.inl ⟨by kernel_rfl, ?_⟩) (by assumption) ?_
                  rotate_left
                  · intro Wt hSt
                    go_simp
                    try with_reducible rfl
                  try simp only [List.getElem_toArray, List.getElem_cons_zero, List.getElem_cons_succ, Act.put, List.setIfInBounds_toArray, List.set_cons_zero, List.set_cons_succ]
                  refine wpAnyH_chainOf [15, 16] _ _ _ (by kernel_rfl) (by kernel_rfl) ?_
                  simp only [List.filterMap_cons, List.filterMap_nil, List.getElem?_toArray, List.getElem?_cons_zero, List.getElem?_cons_succ]
                  refine wpChain_bstore rfl 26 (.tmp 11) (.tmp 53) rfl (V4_.heap.size) rfl zeros (show Value.agg cz = _ by rw [unhide HCZ]) 32 info32 rfl _ zeros hZ8 rfl ?_
                  intro X1 HX1 HGx1
                  have hZ1 := hS8.grown (unhide HGx1) hS8.size (fun i e => by injection e with e; omega)
                  refine ⟨hZ1, ?_⟩
                  refine wpChain_step rfl fun K hK => ?_
                  go_simp
                  refine hK _ _ hZ1 (wpChain_nil ?_)
                  clear hK K
                  go_wp2_with fail
                  go_meet
                  exact ⟨rfl, thenB (unhide HW2) hZ1⟩
              · clear hx
                refine wpOp_one 14 _ rfl (by kernel_rfl) fun K hK => ?_
                go_simp
                generalize hX9 : V3_.alloc _ = V9_
                have hb9 : Below V3_.heap.size V3_ V9_ := hX9 ▸ (Below.refl _ _).alloc (Nat.le_refl _) _
                have hneZ9 : ∀ k, (v2 : Value).ownBlock = some k → k ≠ V3_.heap.size := fun k hk => by have := (ho3.lt k hk).2; omega
                have hE9 := hE3.keep hb9
                have ho9 := ho3.later hb9
                have hZ9 := newBy V3_ V9_ (by rw [← hX9]; rfl)
                have hS9 := thenB hS3 hb9
                have hleZ : W.heap.size ≤ V3_.heap.size := hS3.size
                refine hK _ _ ⟨hS9, ?_⟩
                clear hK K
                try simp only [List.getElem_toArray, List.getElem_cons_zero, List.getElem_cons_succ, Act.put, List.setIfInBounds_toArray, List.set_cons_zero, List.set_cons_succ]
                refine wpAnyH_all (show Region.ready .any _ _ = [9] by kernel_rfl) (by simp) fun x hx => ?_
                obtain rfl : x = 9 := by simpa using hx
                clear hx
                refine wpOp_one 9 _ rfl (by kernel_rfl) fun K hK => ?_
                obtain ⟨v10, V10_, hr10, ho10, hg10, hob10⟩ := append_one ho9 30 (V2_.heap.size) 1 d (unhide HGD) hE9 (by have := unhide HP; simp; omega) hS9.size
                have hS10 := grown_below hS9 hg10 (fun k hk => (ho9.lt k hk).1)
                have hZ10 := own_kept hZ9 hg10 hneZ9
                have hneZ10 := own_ne hob10 hneZ9 (lt_of_block hZ9)
                refine wp_append (.tmp 48) (.tmp 50) 30 rfl _ _ v10 V10_ rfl rfl hr10 ?_
                refine hK _ _ ⟨hS10, ?_⟩
                clear hK K
                try simp only [List.getElem_toArray, List.getElem_cons_zero, List.getElem_cons_succ, Act.put, List.setIfInBounds_toArray, List.set_cons_zero, List.set_cons_succ]
                refine wpAnyH_all (show Region.ready .any _ _ = [10] by kernel_rfl) (by simp) fun x hx => ?_
                obtain rfl : x = 10 := by simpa using hx
                clear hx
                refine wpOp_one 10 _ rfl (by kernel_rfl) fun K hK => ?_
                obtain ⟨Aq, cq, hvq, _, _, _⟩ := own_form ho10 (fun x hx => by
                  rcases List.mem_append.1 hx with h | h
                  · exact (unhide HP).2.2.1 x (by simpa using h)
                  · rw [List.mem_singleton.1 h]; exact unhide HGD)
                rw [show (([] : List (List Int)) ++ p ++ [d]).length = m + 1 by have := unhide HP; simp; omega] at hvq
                subst hvq
                go_simp
                refine ((unhide HBADC) V10_ Aq cq hS10).mono ?_; rintro x V11_ ⟨rfl, hb11⟩
                dsimp only
                have hZ11 := hZ10.keep hb11
                have hS11 := thenB hS10 hb11
                refine hK _ _ ⟨hS11, ?_⟩
                clear hK K
                try simp only [List.getElem_toArray, List.getElem_cons_zero, List.getElem_cons_succ, Act.put, List.setIfInBounds_toArray, List.set_cons_zero, List.set_cons_succ]
                refine wpAnyH_take (i := 11) (v := ?_) rfl (by kernel_rfl) (by kernel_rfl) (by kernel_rfl) (fun _ _ _ h => h) (Or.inl ⟨by kernel_rfl, ?_⟩) (by assumption) ?_
                rotate_left
                · intro Wt hSt
                  go_simp
                  try with_reducible rfl
                try simp only [List.getElem_toArray, List.getElem_cons_zero, List.getElem_cons_succ, Act.put, List.setIfInBounds_toArray, List.set_cons_zero, List.set_cons_succ]
                refine wpAnyH_take (i := 12) (v := ?_) rfl (by kernel_rfl) (by kernel_rfl) (by kernel_rfl) (fun _ _ _ h => h) (Or.inl ⟨by kernel_rfl, ?_⟩) (by assumption) ?_
                rotate_left
                · intro Wt hSt
                  go_simp
                  try with_reducible rfl
                try simp only [List.getElem_toArray, List.getElem_cons_zero, List.getElem_cons_succ, Act.put, List.setIfInBounds_toArray, List.set_cons_zero, List.set_cons_succ]
                refine wpAnyH_take (i := 13) (v := ?_) rfl (by kernel_rfl) (by kernel_rfl) (by kernel_rfl) (fun _ _ _ h => h) (Or.inl ⟨by kernel_rfl, ?_⟩) (by assumption) ?_
                rotate_left
                · intro Wt hSt
                  go_simp
                  try with_reducible rfl
                try simp only [List.getElem_toArray, List.getElem_cons_zero, List.getElem_cons_succ, Act.put, List.setIfInBounds_toArray, List.set_cons_zero, List.set_cons_succ]
                refine wpAnyH_chainOf [15, 16] _ _ _ (by kernel_rfl) (by kernel_rfl) ?_
                simp only [List.filterMap_cons, List.filterMap_nil, List.getElem?_toArray, List.getElem?_cons_zero, List.getElem?_cons_succ]
                refine wpChain_bstore rfl 26 (.tmp 11) (.tmp 53) rfl (V3_.heap.size) rfl zeros (show Value.agg cz = _ by rw [unhide HCZ]) 32 info32 rfl _ zeros hZ11 rfl ?_
                intro X1 HX1 HGx1
                have hZ1 := hS11.grown (unhide HGx1) hS11.size (fun i e => by injection e with e; omega)
                refine ⟨hZ1, ?_⟩
                refine wpChain_step rfl fun K hK => ?_
                go_simp
                refine hK _ _ hZ1 (wpChain_nil ?_)
                clear hK K
                go_wp2_with fail
                go_meet
                exact ⟨rfl, thenB (unhide HW2) hZ1⟩
            · clear hx
              refine wpOp_one 14 _ rfl (by kernel_rfl) fun K hK => ?_
              go_simp
              generalize hX12 : V2_.alloc _ = V12_
              have hb12 : Below V2_.heap.size V2_ V12_ := hX12 ▸ (Below.refl _ _).alloc (Nat.le_refl _) _
              have hneZ12 : ∀ k, (v2 : Value).ownBlock = some k → k ≠ V2_.heap.size := fun k hk => by have := (ho2.lt k hk).2; omega
              have ho12 := ho2.later hb12
              have hZ12 := newBy V2_ V12_ (by rw [← hX12]; rfl)
              have hS12 := thenB hS2 hb12
              have hleZ : W.heap.size ≤ V2_.heap.size := hS2.size
              refine hK _ _ ⟨hS12, ?_⟩
              clear hK K
              try simp only [List.getElem_toArray, List.getElem_cons_zero, List.getElem_cons_succ, Act.put, List.setIfInBounds_toArray, List.set_cons_zero, List.set_cons_succ]
              refine wpAnyH_all (show Region.ready .any _ _ = [8] by kernel_rfl) (by simp) fun x hx => ?_
              obtain rfl : x = 8 := by simpa using hx
              clear hx
              refine wpOp_one 8 _ rfl (by kernel_rfl) fun K hK => ?_
              go_simp
              rw [overwritten hsd (by rfl)]
              generalize hX13 : V12_.alloc _ = V13_
              have hb13 : Below V12_.heap.size V12_ V13_ := hX13 ▸ (Below.refl _ _).alloc (Nat.le_refl _) _
              have hneE13 : ∀ k, (v2 : Value).ownBlock = some k → k ≠ V12_.heap.size := fun k hk => by have := (ho12.lt k hk).2; omega
              have hZ13 := hZ12.keep hb13
              have ho13 := ho12.later hb13
              have hE13 : ByAt V13_ V12_.heap.size 26 d := boxed V12_ V13_ d _ (by rw [← hX13, unhide HCD]; rfl)
              have hS13 := thenB hS12 hb13
              refine hK _ _ ⟨hS13, ?_⟩
              clear hK K
              try simp only [List.getElem_toArray, List.getElem_cons_zero, List.getElem_cons_succ, Act.put, List.setIfInBounds_toArray, List.set_cons_zero, List.set_cons_succ]
              refine wpAnyH_all (show Region.ready .any _ _ = [9] by kernel_rfl) (by simp) fun x hx => ?_
              obtain rfl : x = 9 := by simpa using hx
              clear hx
              refine wpOp_one 9 _ rfl (by kernel_rfl) fun K hK => ?_
              obtain ⟨v14, V14_, hr14, ho14, hg14, hob14⟩ := append_one ho13 30 (V12_.heap.size) 1 d (unhide HGD) hE13 (by have := unhide HP; simp; omega) hS13.size
              have hS14 := grown_below hS13 hg14 (fun k hk => (ho13.lt k hk).1)
              have hZ14 := own_kept hZ13 hg14 hneZ12
              have hneZ14 := own_ne hob14 hneZ12 (lt_of_block hZ13)
              refine wp_append (.tmp 48) (.tmp 50) 30 rfl _ _ v14 V14_ rfl rfl hr14 ?_
              refine hK _ _ ⟨hS14, ?_⟩
              clear hK K
              try simp only [List.getElem_toArray, List.getElem_cons_zero, List.getElem_cons_succ, Act.put, List.setIfInBounds_toArray, List.set_cons_zero, List.set_cons_succ]
              refine wpAnyH_all (show Region.ready .any _ _ = [10] by kernel_rfl) (by simp) fun x hx => ?_
              obtain rfl : x = 10 := by simpa using hx
              clear hx
              refine wpOp_one 10 _ rfl (by kernel_rfl) fun K hK => ?_
              obtain ⟨Aq, cq, hvq, _, _, _⟩ := own_form ho14 (fun x hx => by
                rcases List.mem_append.1 hx with h | h
                · exact (unhide HP).2.2.1 x (by simpa using h)
                · rw [List.mem_singleton.1 h]; exact unhide HGD)
              rw [show (([] : List (List Int)) ++ p ++ [d]).length = m + 1 by have := unhide HP; simp; omega] at hvq
              subst hvq
              go_simp
              refine ((unhide HBADC) V14_ Aq cq hS14).mono ?_; rintro x V15_ ⟨rfl, hb15⟩
              dsimp only
              have hZ15 := hZ14.keep hb15
              have hS15 := thenB hS14 hb15
              refine hK _ _ ⟨hS15, ?_⟩
              clear hK K
              try simp only [List.getElem_toArray, List.getElem_cons_zero, List.getElem_cons_succ, Act.put, List.setIfInBounds_toArray, List.set_cons_zero, List.set_cons_succ]
              refine wpAnyH_take (i := 11) (v := ?_) rfl (by kernel_rfl) (by kernel_rfl) (by kernel_rfl) (fun _ _ _ h => h) (Or.inl ⟨by kernel_rfl, ?_⟩) (by assumption) ?_
              rotate_left
              · intro Wt hSt
                go_simp
                try with_reducible rfl
              try simp only [List.getElem_toArray, List.getElem_cons_zero, List.getElem_cons_succ, Act.put, List.setIfInBounds_toArray, List.set_cons_zero, List.set_cons_succ]
              refine wpAnyH_take (i := 12) (v := ?_) rfl (by kernel_rfl) (by kernel_rfl) (by kernel_rfl) (fun _ _ _ h => h) (Or.inl ⟨by kernel_rfl, ?_⟩) (by assumption) ?_
              rotate_left
              · intro Wt hSt
                go_simp
                try with_reducible rfl
              try simp only [List.getElem_toArray, List.getElem_cons_zero, List.getElem_cons_succ, Act.put, List.setIfInBounds_toArray, List.set_cons_zero, List.set_cons_succ]
              refine wpAnyH_take (i := 13) (v := ?_) rfl (by kernel_rfl) (by kernel_rfl) (by kernel_rfl) (fun _ _ _ h => h) (Or.inl ⟨by kernel_rfl, ?_⟩) (by assumption) ?_
              rotate_left
              · intro Wt hSt
                go_simp
                try with_reducible rfl
              try simp only [List.getElem_toArray, List.getElem_cons_zero, List.getElem_cons_succ, Act.put, List.setIfInBounds_toArray, List.set_cons_zero, List.set_cons_succ]
              refine wpAnyH_chainOf [15, 16] _ _ _ (by kernel_rfl) (by kernel_rfl) ?_
              simp only [List.filterMap_cons, List.filterMap_nil, List.getElem?_toArray, List.getElem?_cons_zero, List.getElem?_cons_succ]
              refine wpChain_bstore rfl 26 (.tmp 11) (.tmp 53) rfl (V2_.heap.size) rfl zeros (show Value.agg cz = _ by rw [unhide HCZ]) 32 info32 rfl _ zeros hZ15 rfl ?_
              intro X1 HX1 HGx1
              have hZ1 := hS15.grown (unhide HGx1) hS15.size (fun i e => by injection e with e; omega)
              refine ⟨hZ1, ?_⟩
              refine wpChain_step rfl fun K hK => ?_
              go_simp
              refine hK _ _ hZ1 (wpChain_nil ?_)
              clear hK K
              go_wp2_with fail
              go_meet
              exact ⟨rfl, thenB (unhide HW2) hZ1⟩
          · clear hx
            refine wpOp_one 8 _ rfl (by kernel_rfl) fun K hK => ?_
            go_simp
            rw [overwritten hsd (by rfl)]
            generalize hX16 : V1_.alloc _ = V16_
            have hb16 : Below V1_.heap.size V1_ V16_ := hX16 ▸ (Below.refl _ _).alloc (Nat.le_refl _) _
            have hneE16 : ∀ k, ((.slice (some ⟨W.heap.size, 0, none⟩) 0 0) : Value).ownBlock = some k → k ≠ V1_.heap.size := fun k hk => by have := (ho1.lt k hk).2; omega
            have ho16 := ho1.later hb16
            have hE16 : ByAt V16_ V1_.heap.size 26 d := boxed V1_ V16_ d _ (by rw [← hX16, unhide HCD]; rfl)
            have hS16 := thenB hS1 hb16
            refine hK _ _ ⟨hS16, ?_⟩
            clear hK K
            try simp only [List.getElem_toArray, List.getElem_cons_zero, List.getElem_cons_succ, Act.put, List.setIfInBounds_toArray, List.set_cons_zero, List.set_cons_succ]
            refine wpAnyH_all (show Region.ready .any _ _ = [6, 14] by kernel_rfl) (by simp) fun x hx => ?_
            rcases (by simpa using hx : x = 6 ∨ x = 14) with rfl | rfl
            · clear hx
              refine wpOp_one 6 _ rfl (by kernel_rfl) fun K hK => ?_
              obtain ⟨v17, V17_, hr17, ho17, hg17, hob17⟩ := append_many ho16 30 Ap cp ((unhide HPW).keep hS16) (unhide HNONE) (by have := unhide HP; simp; omega) hS16.size
              rw [← (unhide HP).2.2.2.2.1] at hr17
              have hS17 := grown_below hS16 hg17 (fun k hk => (ho16.lt k hk).1)
              have hE17 := own_kept hE16 hg17 hneE16
              have hneE17 := own_ne hob17 hneE16 (lt_of_block hE16)
              refine wp_append (.tmp 46) (.tmp 47) 30 rfl _ _ v17 V17_ rfl rfl hr17 ?_
              refine hK _ _ ⟨hS17, ?_⟩
              clear hK K
              try simp only [List.getElem_toArray, List.getElem_cons_zero, List.getElem_cons_succ, Act.put, List.setIfInBounds_toArray, List.set_cons_zero, List.set_cons_succ]
              refine wpAnyH_all (show Region.ready .any _ _ = [9, 14] by kernel_rfl) (by simp) fun x hx => ?_
              rcases (by simpa using hx : x = 9 ∨ x = 14) with rfl | rfl
              · clear hx
                refine wpOp_one 9 _ rfl (by kernel_rfl) fun K hK => ?_
                obtain ⟨v18, V18_, hr18, ho18, hg18, hob18⟩ := append_one ho17 30 (V1_.heap.size) 1 d (unhide HGD) hE17 (by have := unhide HP; simp; omega) hS17.size
                have hS18 := grown_below hS17 hg18 (fun k hk => (ho17.lt k hk).1)
                refine wp_append (.tmp 48) (.tmp 50) 30 rfl _ _ v18 V18_ rfl rfl hr18 ?_
                refine hK _ _ ⟨hS18, ?_⟩
                clear hK K
                try simp only [List.getElem_toArray, List.getElem_cons_zero, List.getElem_cons_succ, Act.put, List.setIfInBounds_toArray, List.set_cons_zero, List.set_cons_succ]
                refine wpAnyH_all (show Region.ready .any _ _ = [10, 14] by kernel_rfl) (by simp) fun x hx => ?_
                rcases (by simpa using hx : x = 10 ∨ x = 14) with rfl | rfl
                · clear hx
                  refine wpOp_one 10 _ rfl (by kernel_rfl) fun K hK => ?_
                  obtain ⟨Aq, cq, hvq, _, _, _⟩ := own_form ho18 (fun x hx => by
                    rcases List.mem_append.1 hx with h | h
                    · exact (unhide HP).2.2.1 x (by simpa using h)
                    · rw [List.mem_singleton.1 h]; exact unhide HGD)
                  rw [show (([] : List (List Int)) ++ p ++ [d]).length = m + 1 by have := unhide HP; simp; omega] at hvq
                  subst hvq
                  go_simp
                  refine ((unhide HBADC) V18_ Aq cq hS18).mono ?_; rintro x V19_ ⟨rfl, hb19⟩
                  dsimp only
                  have hS19 := thenB hS18 hb19
                  refine hK _ _ ⟨hS19, ?_⟩
                  clear hK K
                  try simp only [List.getElem_toArray, List.getElem_cons_zero, List.getElem_cons_succ, Act.put, List.setIfInBounds_toArray, List.set_cons_zero, List.set_cons_succ]
                  refine wpAnyH_take (i := 11) (v := ?_) rfl (by kernel_rfl) (by kernel_rfl) (by kernel_rfl) (fun _ _ _ h => h) (Or.inl ⟨by kernel_rfl, ?_⟩) (by assumption) ?_
                  rotate_left
                  · intro Wt hSt
                    go_simp
                    try with_reducible rfl
                  try simp only [List.getElem_toArray, List.getElem_cons_zero, List.getElem_cons_succ, Act.put, List.setIfInBounds_toArray, List.set_cons_zero, List.set_cons_succ]
                  refine wpAnyH_take (i := 12) (v := ?_) rfl (by kernel_rfl) (by kernel_rfl) (by kernel_rfl) (fun _ _ _ h => h) (Or.inl ⟨by kernel_rfl, ?_⟩) (by assumption) ?_
                  rotate_left
                  · intro Wt hSt
                    go_simp
                    try with_reducible rfl
                  try simp only [List.getElem_toArray, List.getElem_cons_zero, List.getElem_cons_succ, Act.put, List.setIfInBounds_toArray, List.set_cons_zero, List.set_cons_succ]
                  refine wpAnyH_take (i := 13) (v := ?_) rfl (by kernel_rfl) (by kernel_rfl) (by kernel_rfl) (fun _ _ _ h => h) (Or.inl ⟨by kernel_rfl, ?_⟩) (by assumption) ?_
                  rotate_left
                  · intro Wt hSt
                    go_simp
                    try with_reducible rfl
                  try simp only [List.getElem_toArray, List.getElem_cons_zero, List.getElem_cons_succ, Act.put, List.setIfInBounds_toArray, List.set_cons_zero, List.set_cons_succ]
                  refine wpAnyH_all (show Region.ready .any _ _ = [14] by kernel_rfl) (by simp) fun x hx => ?_
                  obtain rfl : x = 14 := by simpa using hx
                  clear hx
                  refine wpOp_one 14 _ rfl (by kernel_rfl) fun K hK => ?_
                  go_simp
                  generalize hX20 : V19_.alloc _ = V20_
                  have hb20 : Below V19_.heap.size V19_ V20_ := hX20 ▸ (Below.refl _ _).alloc (Nat.le_refl _) _
                  have hZ20 := newBy V19_ V20_ (by rw [← hX20]; rfl)
                  have hS20 := thenB hS19 hb20
                  have hleZ : W.heap.size ≤ V19_.heap.size := hS19.size
                  refine hK _ _ ⟨hS20, ?_⟩
                  clear hK K
                  try simp only [List.getElem_toArray, List.getElem_cons_zero, List.getElem_cons_succ, Act.put, List.setIfInBounds_toArray, List.set_cons_zero, List.set_cons_succ]
                  refine wpAnyH_chainOf [15, 16] _ _ _ (by kernel_rfl) (by kernel_rfl) ?_
                  simp only [List.filterMap_cons, List.filterMap_nil, List.getElem?_toArray, List.getElem?_cons_zero, List.getElem?_cons_succ]
                  refine wpChain_bstore rfl 26 (.tmp 11) (.tmp 53) rfl (V19_.heap.size) rfl zeros (show Value.agg cz = _ by rw [unhide HCZ]) 32 info32 rfl _ zeros hZ20 rfl ?_
                  intro X1 HX1 HGx1
                  have hZ1 := hS20.grown (unhide HGx1) hS20.size (fun i e => by injection e with e; omega)
                  refine ⟨hZ1, ?_⟩
                  refine wpChain_step rfl fun K hK => ?_
                  go_simp
                  refine hK _ _ hZ1 (wpChain_nil ?_)
                  clear hK K
                  go_wp2_with fail
                  go_meet
                  exact ⟨rfl, thenB (unhide HW2) hZ1⟩
                · clear hx
                  refine wpOp_one 14 _ rfl (by kernel_rfl) fun K hK => ?_
                  go_simp
                  generalize hX21 : V18_.alloc _ = V21_
                  have hb21 : Below V18_.heap.size V18_ V21_ := hX21 ▸ (Below.refl _ _).alloc (Nat.le_refl _) _
                  have hneZ21 : ∀ k, (v18 : Value).ownBlock = some k → k ≠ V18_.heap.size := fun k hk => by have := (ho18.lt k hk).2; omega
                  have ho21 := ho18.later hb21
                  have hZ21 := newBy V18_ V21_ (by rw [← hX21]; rfl)
                  have hS21 := thenB hS18 hb21
                  have hleZ : W.heap.size ≤ V18_.heap.size := hS18.size
                  refine hK _ _ ⟨hS21, ?_⟩
                  clear hK K
                  try simp only [List.getElem_toArray, List.getElem_cons_zero, List.getElem_cons_succ, Act.put, List.setIfInBounds_toArray, List.set_cons_zero, List.set_cons_succ]
                  refine wpAnyH_all (show Region.ready .any _ _ = [10] by kernel_rfl) (by simp) fun x hx => ?_
                  obtain rfl : x = 10 := by simpa using hx
                  clear hx
                  refine wpOp_one 10 _ rfl (by kernel_rfl) fun K hK => ?_
                  obtain ⟨Aq, cq, hvq, _, _, _⟩ := own_form ho21 (fun x hx => by
                    rcases List.mem_append.1 hx with h | h
                    · exact (unhide HP).2.2.1 x (by simpa using h)
                    · rw [List.mem_singleton.1 h]; exact unhide HGD)
                  rw [show (([] : List (List Int)) ++ p ++ [d]).length = m + 1 by have := unhide HP; simp; omega] at hvq
                  subst hvq
                  go_simp
                  refine ((unhide HBADC) V21_ Aq cq hS21).mono ?_; rintro x V22_ ⟨rfl, hb22⟩
                  dsimp only
                  have hZ22 := hZ21.keep hb22
                  have hS22 := thenB hS21 hb22
                  refine hK _ _ ⟨hS22, ?_⟩
                  clear hK K
                  try simp only [List.getElem_toArray, List.getElem_cons_zero, List.getElem_cons_succ, Act.put, List.setIfInBounds_toArray, List.set_cons_zero, List.set_cons_succ]
                  refine wpAnyH_take (i := 11) (v := ?_) rfl (by kernel_rfl) (by kernel_rfl) (by kernel_rfl) (fun _ _ _ h => h) (Or.inl ⟨by kernel_rfl, ?_⟩) (by assumption) ?_
                  rotate_left
                  · intro Wt hSt
                    go_simp
                    try with_reducible rfl
                  try simp only [List.getElem_toArray, List.getElem_cons_zero, List.getElem_cons_succ, Act.put, List.setIfInBounds_toArray, List.set_cons_zero, List.set_cons_succ]
                  refine wpAnyH_take (i := 12) (v := ?_) rfl (by kernel_rfl) (by kernel_rfl) (by kernel_rfl) (fun _ _ _ h => h) (Or.inl ⟨by kernel_rfl, ?_⟩) (by assumption) ?_
                  rotate_left
                  · intro Wt hSt
                    go_simp
                    try with_reducible rfl
                  try simp only [List.getElem_toArray, List.getElem_cons_zero, List.getElem_cons_succ, Act.put, List.setIfInBounds_toArray, List.set_cons_zero, List.set_cons_succ]
                  refine wpAnyH_take (i := 13) (v := ?_) rfl (by kernel_rfl) (by kernel_rfl) (by kernel_rfl) (fun _ _ _ h => h) (Or.inl ⟨by kernel_rfl, ?_⟩) (by assumption) ?_
                  rotate_left
                  · intro Wt hSt
                    go_simp
                    try with_reducible rfl
                  try simp only [List.getElem_toArray, List.getElem_cons_zero, List.getElem_cons_succ, Act.put, List.setIfInBounds_toArray, List.set_cons_zero, List.set_cons_succ]
                  refine wpAnyH_chainOf [15, 16] _ _ _ (by kernel_rfl) (by kernel_rfl) ?_
                  simp only [List.filterMap_cons, List.filterMap_nil, List.getElem?_toArray, List.getElem?_cons_zero, List.getElem?_cons_succ]
                  refine wpChain_bstore rfl 26 (.tmp 11) (.tmp 53) rfl (V18_.heap.size) rfl zeros (show Value.agg cz = _ by rw [unhide HCZ]) 32 info32 rfl _ zeros hZ22 rfl ?_
                  intro X1 HX1 HGx1
                  have hZ1 := hS22.grown (unhide HGx1) hS22.size (fun i e => by injection e with e; omega)
                  refine ⟨hZ1, ?_⟩
                  refine wpChain_step rfl fun K hK => ?_
                  go_simp
                  refine hK _ _ hZ1 (wpChain_nil ?_)
                  clear hK K
                  go_wp2_with fail
                  go_meet
                  exact ⟨rfl, thenB (unhide HW2) hZ1⟩
              · clear hx
                refine wpOp_one 14 _ rfl (by kernel_rfl) fun K hK => ?_
                go_simp
                generalize hX23 : V17_.alloc _ = V23_
                have hb23 : Below V17_.heap.size V17_ V23_ := hX23 ▸ (Below.refl _ _).alloc (Nat.le_refl _) _
                have hneZ23 : ∀ k, (v17 : Value).ownBlock = some k → k ≠ V17_.heap.size := fun k hk => by have := (ho17.lt k hk).2; omega
                have hE23 := hE17.keep hb23
                have ho23 := ho17.later hb23
                have hZ23 := newBy V17_ V23_ (by rw [← hX23]; rfl)
                have hS23 := thenB hS17 hb23
                have hleZ : W.heap.size ≤ V17_.heap.size := hS17.size
                refine hK _ _ ⟨hS23, ?_⟩
                clear hK K
                try simp only [List.getElem_toArray, List.getElem_cons_zero, List.getElem_cons_succ, Act.put, List.setIfInBounds_toArray, List.set_cons_zero, List.set_cons_succ]
                refine wpAnyH_all (show Region.ready .any _ _ = [9] by kernel_rfl) (by simp) fun x hx => ?_
                obtain rfl : x = 9 := by simpa using hx
                clear hx
                refine wpOp_one 9 _ rfl (by kernel_rfl) fun K hK => ?_
                obtain ⟨v24, V24_, hr24, ho24, hg24, hob24⟩ := append_one ho23 30 (V1_.heap.size) 1 d (unhide HGD) hE23 (by have := unhide HP; simp; omega) hS23.size
                have hS24 := grown_below hS23 hg24 (fun k hk => (ho23.lt k hk).1)
                have hZ24 := own_kept hZ23 hg24 hneZ23
                have hneZ24 := own_ne hob24 hneZ23 (lt_of_block hZ23)
                refine wp_append (.tmp 48) (.tmp 50) 30 rfl _ _ v24 V24_ rfl rfl hr24 ?_
                refine hK _ _ ⟨hS24, ?_⟩
                clear hK K
                try simp only [List.getElem_toArray, List.getElem_cons_zero, List.getElem_cons_succ, Act.put, List.setIfInBounds_toArray, List.set_cons_zero, List.set_cons_succ]
                refine wpAnyH_all (show Region.ready .any _ _ = [10] by kernel_rfl) (by simp) fun x hx => ?_
                obtain rfl : x = 10 := by simpa using hx
                clear hx
                refine wpOp_one 10 _ rfl (by kernel_rfl) fun K hK => ?_
                obtain ⟨Aq, cq, hvq, _, _, _⟩ := own_form ho24 (fun x hx => by
                  rcases List.mem_append.1 hx with h | h
                  · exact (unhide HP).2.2.1 x (by simpa using h)
                  · rw [List.mem_singleton.1 h]; exact unhide HGD)
                rw [show (([] : List (List Int)) ++ p ++ [d]).length = m + 1 by have := unhide HP; simp; omega] at hvq
                subst hvq
                go_simp
                refine ((unhide HBADC) V24_ Aq cq hS24).mono ?_; rintro x V25_ ⟨rfl, hb25⟩
                dsimp only
                have hZ25 := hZ24.keep hb25
                have hS25 := thenB hS24 hb25
                refine hK _ _ ⟨hS25, ?_⟩
                clear hK K
                try simp only [List.getElem_toArray, List.getElem_cons_zero, List.getElem_cons_succ, Act.put, List.setIfInBounds_toArray, List.set_cons_zero, List.set_cons_succ]
                refine wpAnyH_take (i := 11) (v := ?_) rfl (by kernel_rfl) (by kernel_rfl) (by kernel_rfl) (fun _ _ _ h => h) (Or.inl ⟨by kernel_rfl, ?_⟩) (by assumption) ?_
                rotate_left
                · intro Wt hSt
                  go_simp
                  try with_reducible rfl
                try simp only [List.getElem_toArray, List.getElem_cons_zero, List.getElem_cons_succ, Act.put, List.setIfInBounds_toArray, List.set_cons_zero, List.set_cons_succ]
                refine wpAnyH_take (i := 12) (v := ?_) rfl (by kernel_rfl) (by kernel_rfl) (by kernel_rfl) (fun _ _ _ h => h) (Or.inl ⟨by kernel_rfl, ?_⟩) (by assumption) ?_
                rotate_left
                · intro Wt hSt
                  go_simp
                  try with_reducible rfl
                try simp only [List.getElem_toArray, List.getElem_cons_zero, List.getElem_cons_succ, Act.put, List.setIfInBounds_toArray, List.set_cons_zero, List.set_cons_succ]
                refine wpAnyH_take (i := 13) (v := ?_) rfl (by kernel_rfl) (by kernel_rfl) (by kernel_rfl) (fun _ _ _ h => h) (Or.inl ⟨by kernel_rfl, ?_⟩) (by assumption) ?_
                rotate_left
                · intro Wt hSt
                  go_simp
                  try with_reducible rfl
                try simp only [List.getElem_toArray, List.getElem_cons_zero, List.getElem_cons_succ, Act.put, List.setIfInBounds_toArray, List.set_cons_zero, List.set_cons_succ]
                refine wpAnyH_chainOf [15, 16] _ _ _ (by kernel_rfl) (by kernel_rfl) ?_
                simp only [List.filterMap_cons, List.filterMap_nil, List.getElem?_toArray, List.getElem?_cons_zero, List.getElem?_cons_succ]
                refine wpChain_bstore rfl 26 (.tmp 11) (.tmp 53) rfl (V17_.heap.size) rfl zeros (show Value.agg cz = _ by rw [unhide HCZ]) 32 info32 rfl _ zeros hZ25 rfl ?_
                intro X1 HX1 HGx1
                have hZ1 := hS25.grown (unhide HGx1) hS25.size (fun i e => by injection e with e; omega)
                refine ⟨hZ1, ?_⟩
                refine wpChain_step rfl fun K hK => ?_
                go_simp
                refine hK _ _ hZ1 (wpChain_nil ?_)
                clear hK K
                go_wp2_with fail
                go_meet
                exact ⟨rfl, thenB (unhide HW2) hZ1⟩
            · clear hx
              refine wpOp_one 14 _ rfl (by kernel_rfl) fun K hK => ?_
              go_simp
              generalize hX26 : V16_.alloc _ = V26_
              have hb26 : Below V16_.heap.size V16_ V26_ := hX26 ▸ (Below.refl _ _).alloc (Nat.le_refl _) _
              have hneZ26 : ∀ k, ((.slice (some ⟨W.heap.size, 0, none⟩) 0 0) : Value).ownBlock = some k → k ≠ V16_.heap.size := fun k hk => by have := (ho16.lt k hk).2; omega
              have hE26 := hE16.keep hb26
              have ho26 := ho16.later hb26
              have hZ26 := newBy V16_ V26_ (by rw [← hX26]; rfl)
              have hS26 := thenB hS16 hb26
              have hleZ : W.heap.size ≤ V16_.heap.size := hS16.size
              refine hK _ _ ⟨hS26, ?_⟩
              clear hK K
              try simp only [List.getElem_toArray, List.getElem_cons_zero, List.getElem_cons_succ, Act.put, List.setIfInBounds_toArray, List.set_cons_zero, List.set_cons_succ]
              refine wpAnyH_all (show Region.ready .any _ _ = [6] by kernel_rfl) (by simp) fun x hx => ?_
              obtain rfl : x = 6 := by simpa using hx
              clear hx
              refine wpOp_one 6 _ rfl (by kernel_rfl) fun K hK => ?_
              obtain ⟨v27, V27_, hr27, ho27, hg27, hob27⟩ := append_many ho26 30 Ap cp ((unhide HPW).keep hS26) (unhide HNONE) (by have := unhide HP; simp; omega) hS26.size
              rw [← (unhide HP).2.2.2.2.1] at hr27
              have hS27 := grown_below hS26 hg27 (fun k hk => (ho26.lt k hk).1)
              have hE27 := own_kept hE26 hg27 hneE16
              have hneE27 := own_ne hob27 hneE16 (lt_of_block hE26)
              have hZ27 := own_kept hZ26 hg27 hneZ26
              have hneZ27 := own_ne hob27 hneZ26 (lt_of_block hZ26)
              refine wp_append (.tmp 46) (.tmp 47) 30 rfl _ _ v27 V27_ rfl rfl hr27 ?_
              refine hK _ _ ⟨hS27, ?_⟩
              clear hK K
              try simp only [List.getElem_toArray, List.getElem_cons_zero, List.getElem_cons_succ, Act.put, List.setIfInBounds_toArray, List.set_cons_zero, List.set_cons_succ]
              refine wpAnyH_all (show Region.ready .any _ _ = [9] by kernel_rfl) (by simp) fun x hx => ?_
              obtain rfl : x = 9 := by simpa using hx
              clear hx
              refine wpOp_one 9 _ rfl (by kernel_rfl) fun K hK => ?_
              obtain ⟨v28, V28_, hr28, ho28, hg28, hob28⟩ := append_one ho27 30 (V1_.heap.size) 1 d (unhide HGD) hE27 (by have := unhide HP; simp; omega) hS27.size
              have hS28 := grown_below hS27 hg28 (fun k hk => (ho27.lt k hk).1)
              have hZ28 := own_kept hZ27 hg28 hneZ27
              have hneZ28 := own_ne hob28 hneZ27 (lt_of_block hZ27)
              refine wp_append (.tmp 48) (.tmp 50) 30 rfl _ _ v28 V28_ rfl rfl hr28 ?_
              refine hK _ _ ⟨hS28, ?_⟩
              clear hK K
              try simp only [List.getElem_toArray, List.getElem_cons_zero, List.getElem_cons_succ, Act.put, List.setIfInBounds_toArray, List.set_cons_zero, List.set_cons_succ]
              refine wpAnyH_all (show Region.ready .any _ _ = [10] by kernel_rfl) (by simp) fun x hx => ?_
              obtain rfl : x = 10 := by simpa using hx
              clear hx
              refine wpOp_one 10 _ rfl (by kernel_rfl) fun K hK => ?_
              obtain ⟨Aq, cq, hvq, _, _, _⟩ := own_form ho28 (fun x hx => by
                rcases List.mem_append.1 hx with h | h
                · exact (unhide HP).2.2.1 x (by simpa using h)
                · rw [List.mem_singleton.1 h]; exact unhide HGD)
              rw [show (([] : List (List Int)) ++ p ++ [d]).length = m + 1 by have := unhide HP; simp; omega] at hvq
              subst hvq
              go_simp
              refine ((unhide HBADC) V28_ Aq cq hS28).mono ?_; rintro x V29_ ⟨rfl, hb29⟩
              dsimp only
              have hZ29 := hZ28.keep hb29
              have hS29 := thenB hS28 hb29
              refine hK _ _ ⟨hS29, ?_⟩
              clear hK K
              try simp only [List.getElem_toArray, List.getElem_cons_zero, List.getElem_cons_succ, Act.put, List.setIfInBounds_toArray, List.set_cons_zero, List.set_cons_succ]
              refine wpAnyH_take (i := 11) (v := ?_) rfl (by kernel_rfl) (by kernel_rfl) (by kernel_rfl) (fun _ _ _ h => h) (Or.inl ⟨by kernel_rfl, ?_⟩) (by assumption) ?_
              rotate_left
              · intro Wt hSt
                go_simp
                try with_reducible rfl
              try simp only [List.getElem_toArray, List.getElem_cons_zero, List.getElem_cons_succ, Act.put, List.setIfInBounds_toArray, List.set_cons_zero, List.set_cons_succ]
              refine wpAnyH_take (i := 12) (v := ?_) rfl (by kernel_rfl) (by kernel_rfl) (by kernel_rfl) (fun _ _ _ h => h) (Or.inl ⟨by kernel_rfl, ?_⟩) (by assumption) ?_
              rotate_left
              · intro Wt hSt
                go_simp
                try with_reducible rfl
              try simp only [List.getElem_toArray, List.getElem_cons_zero, List.getElem_cons_succ, Act.put, List.setIfInBounds_toArray, List.set_cons_zero, List.set_cons_succ]
              refine wpAnyH_take (i := 13) (v := ?_) rfl (by kernel_rfl) (by kernel_rfl) (by kernel_rfl) (fun _ _ _ h => h) (Or.inl ⟨by kernel_rfl, ?_⟩) (by assumption) ?_
              rotate_left
              · intro Wt hSt
                go_simp
                try with_reducible rfl
              try simp only [List.getElem_toArray, List.getElem_cons_zero, List.getElem_cons_succ, Act.put, List.setIfInBounds_toArray, List.set_cons_zero, List.set_cons_succ]
              refine wpAnyH_chainOf [15, 16] _ _ _ (by kernel_rfl) (by kernel_rfl) ?_
              simp only [List.filterMap_cons, List.filterMap_nil, List.getElem?_toArray, List.getElem?_cons_zero, List.getElem?_cons_succ]
              refine wpChain_bstore rfl 26 (.tmp 11) (.tmp 53) rfl (V16_.heap.size) rfl zeros (show Value.agg cz = _ by rw [unhide HCZ]) 32 info32 rfl _ zeros hZ29 rfl ?_
              intro X1 HX1 HGx1
              have hZ1 := hS29.grown (unhide HGx1) hS29.size (fun i e => by injection e with e; omega)
              refine ⟨hZ1, ?_⟩
              refine wpChain_step rfl fun K hK => ?_
              go_simp
              refine hK _ _ hZ1 (wpChain_nil ?_)
              clear hK K
              go_wp2_with fail
              go_meet
              exact ⟨rfl, thenB (unhide HW2) hZ1⟩
          · clear hx
            refine wpOp_one 14 _ rfl (by kernel_rfl) fun K hK => ?_
            go_simp
            generalize hX30 : V1_.alloc _ = V30_
            have hb30 : Below V1_.heap.size V1_ V30_ := hX30 ▸ (Below.refl _ _).alloc (Nat.le_refl _) _
            have hneZ30 : ∀ k, ((.slice (some ⟨W.heap.size, 0, none⟩) 0 0) : Value).ownBlock = some k → k ≠ V1_.heap.size := fun k hk => by have := (ho1.lt k hk).2; omega
            have ho30 := ho1.later hb30
            have hZ30 := newBy V1_ V30_ (by rw [← hX30]; rfl)
            have hS30 := thenB hS1 hb30
            have hleZ : W.heap.size ≤ V1_.heap.size := hS1.size
            refine hK _ _ ⟨hS30, ?_⟩
            clear hK K
            try simp only [List.getElem_toArray, List.getElem_cons_zero, List.getElem_cons_succ, Act.put, List.setIfInBounds_toArray, List.set_cons_zero, List.set_cons_succ]
            refine wpAnyH_all (show Region.ready .any _ _ = [6, 8] by kernel_rfl) (by simp) fun x hx => ?_
            rcases (by simpa using hx : x = 6 ∨ x = 8) with rfl | rfl
            · clear hx
              refine wpOp_one 6 _ rfl (by kernel_rfl) fun K hK => ?_
              obtain ⟨v31, V31_, hr31, ho31, hg31, hob31⟩ := append_many ho30 30 Ap cp ((unhide HPW).keep hS30) (unhide HNONE) (by have := unhide HP; simp; omega) hS30.size
              rw [← (unhide HP).2.2.2.2.1] at hr31
              have hS31 := grown_below hS30 hg31 (fun k hk => (ho30.lt k hk).1)
              have hZ31 := own_kept hZ30 hg31 hneZ30
              have hneZ31 := own_ne hob31 hneZ30 (lt_of_block hZ30)
              refine wp_append (.tmp 46) (.tmp 47) 30 rfl _ _ v31 V31_ rfl rfl hr31 ?_
              refine hK _ _ ⟨hS31, ?_⟩
              clear hK K
              try simp only [List.getElem_toArray, List.getElem_cons_zero, List.getElem_cons_succ, Act.put, List.setIfInBounds_toArray, List.set_cons_zero, List.set_cons_succ]
              refine wpAnyH_all (show Region.ready .any _ _ = [8] by kernel_rfl) (by simp) fun x hx => ?_
              obtain rfl : x = 8 := by simpa using hx
              clear hx
              refine wpOp_one 8 _ rfl (by kernel_rfl) fun K hK => ?_
              go_simp
              rw [overwritten hsd (by rfl)]
              generalize hX32 : V31_.alloc _ = V32_
              have hb32 : Below V31_.heap.size V31_ V32_ := hX32 ▸ (Below.refl _ _).alloc (Nat.le_refl _) _
              have hneE32 : ∀ k, (v31 : Value).ownBlock = some k → k ≠ V31_.heap.size := fun k hk => by have := (ho31.lt k hk).2; omega
              have hZ32 := hZ31.keep hb32
              have ho32 := ho31.later hb32
              have hE32 : ByAt V32_ V31_.heap.size 26 d := boxed V31_ V32_ d _ (by rw [← hX32, unhide HCD]; rfl)
              have hS32 := thenB hS31 hb32
              refine hK _ _ ⟨hS32, ?_⟩
              clear hK K
              try simp only [List.getElem_toArray, List.getElem_cons_zero, List.getElem_cons_succ, Act.put, List.setIfInBounds_toArray, List.set_cons_zero, List.set_cons_succ]
              refine wpAnyH_all (show Region.ready .any _ _ = [9] by kernel_rfl) (by simp) fun x hx => ?_
              obtain rfl : x = 9 := by simpa using hx
              clear hx
              refine wpOp_one 9 _ rfl (by kernel_rfl) fun K hK => ?_
              obtain ⟨v33, V33_, hr33, ho33, hg33, hob33⟩ := append_one ho32 30 (V31_.heap.size) 1 d (unhide HGD) hE32 (by have := unhide HP; simp; omega) hS32.size
              have hS33 := grown_below hS32 hg33 (fun k hk => (ho32.lt k hk).1)
              have hZ33 := own_kept hZ32 hg33 hneZ31
              have hneZ33 := own_ne hob33 hneZ31 (lt_of_block hZ32)
              refine wp_append (.tmp 48) (.tmp 50) 30 rfl _ _ v33 V33_ rfl rfl hr33 ?_
              refine hK _ _ ⟨hS33, ?_⟩
              clear hK K
              try simp only [List.getElem_toArray, List.getElem_cons_zero, List.getElem_cons_succ, Act.put, List.setIfInBounds_toArray, List.set_cons_zero, List.set_cons_succ]
              refine wpAnyH_all (show Region.ready .any _ _ = [10] by kernel_rfl) (by simp) fun x hx => ?_
              obtain rfl : x = 10 := by simpa using hx
              clear hx
              refine wpOp_one 10 _ rfl (by kernel_rfl) fun K hK => ?_
              obtain ⟨Aq, cq, hvq, _, _, _⟩ := own_form ho33 (fun x hx => by
                rcases List.mem_append.1 hx with h | h
                · exact (unhide HP).2.2.1 x (by simpa using h)
                · rw [List.mem_singleton.1 h]; exact unhide HGD)
              rw [show (([] : List (List Int)) ++ p ++ [d]).length = m + 1 by have := unhide HP; simp; omega] at hvq
              subst hvq
              go_simp
              refine ((unhide HBADC) V33_ Aq cq hS33).mono ?_; rintro x V34_ ⟨rfl, hb34⟩
              dsimp only
              have hZ34 := hZ33.keep hb34
              have hS34 := thenB hS33 hb34
              refine hK _ _ ⟨hS34, ?_⟩
              clear hK K
              try simp only [List.getElem_toArray, List.getElem_cons_zero, List.getElem_cons_succ, Act.put, List.setIfInBounds_toArray, List.set_cons_zero, List.set_cons_succ]
              refine wpAnyH_take (i := 11) (v := ?_) rfl (by kernel_rfl) (by kernel_rfl) (by kernel_rfl) (fun _ _ _ h => h) (Or.inl ⟨by kernel_rfl, ?_⟩) (by assumption) ?_
              rotate_left
              · intro Wt hSt
                go_simp
                try with_reducible rfl
              try simp only [List.getElem_toArray, List.getElem_cons_zero, List.getElem_cons_succ, Act.put, List.setIfInBounds_toArray, List.set_cons_zero, List.set_cons_succ]
              refine wpAnyH_take (i := 12) (v := ?_) rfl (by kernel_rfl) (by kernel_rfl) (by kernel_rfl) (fun _ _ _ h => h) (Or.inl ⟨by kernel_rfl, ?_⟩) (by assumption) ?_
              rotate_left
              · intro Wt hSt
                go_simp
                try with_reducible rfl
              try simp only [List.getElem_toArray, List.getElem_cons_zero, List.getElem_cons_succ, Act.put, List.setIfInBounds_toArray, List.set_cons_zero, List.set_cons_succ]
              refine wpAnyH_take (i := 13) (v := ?_) rfl (by kernel_rfl) (by kernel_rfl) (by kernel_rfl) (fun _ _ _ h => h) (Or.inl ⟨by kernel_rfl, ?_⟩) (by assumption) ?_
              rotate_left
              · intro Wt hSt
                go_simp
                try with_reducible rfl
              try simp only [List.getElem_toArray, List.getElem_cons_zero, List.getElem_cons_succ, Act.put, List.setIfInBounds_toArray, List.set_cons_zero, List.set_cons_succ]
              refine wpAnyH_chainOf [15, 16] _ _ _ (by kernel_rfl) (by kernel_rfl) ?_
              simp only [List.filterMap_cons, List.filterMap_nil, List.getElem?_toArray, List.getElem?_cons_zero, List.getElem?_cons_succ]
              refine wpChain_bstore rfl 26 (.tmp 11) (.tmp 53) rfl (V1_.heap.size) rfl zeros (show Value.agg cz = _ by rw [unhide HCZ]) 32 info32 rfl _ zeros hZ34 rfl ?_
              intro X1 HX1 HGx1
              have hZ1 := hS34.grown (unhide HGx1) hS34.size (fun i e => by injection e with e; omega)
              refine ⟨hZ1, ?_⟩
              refine wpChain_step rfl fun K hK => ?_
              go_simp
              refine hK _ _ hZ1 (wpChain_nil ?_)
              clear hK K
              go_wp2_with fail
              go_meet
              exact ⟨rfl, thenB (unhide HW2) hZ1⟩
            · clear hx
              refine wpOp_one 8 _ rfl (by kernel_rfl) fun K hK => ?_
              go_simp
              rw [overwritten hsd (by rfl)]
              generalize hX35 : V30_.alloc _ = V35_
              have hb35 : Below V30_.heap.size V30_ V35_ := hX35 ▸ (Below.refl _ _).alloc (Nat.le_refl _) _
              have hneE35 : ∀ k, ((.slice (some ⟨W.heap.size, 0, none⟩) 0 0) : Value).ownBlock = some k → k ≠ V30_.heap.size := fun k hk => by have := (ho30.lt k hk).2; omega
              have hZ35 := hZ30.keep hb35
              have ho35 := ho30.later hb35
              have hE35 : ByAt V35_ V30_.heap.size 26 d := boxed V30_ V35_ d _ (by rw [← hX35, unhide HCD]; rfl)
              have hS35 := thenB hS30 hb35
              refine hK _ _ ⟨hS35, ?_⟩
              clear hK K
              try simp only [List.getElem_toArray, List.getElem_cons_zero, List.getElem_cons_succ, Act.put, List.setIfInBounds_toArray, List.set_cons_zero, List.set_cons_succ]
              refine wpAnyH_all (show Region.ready .any _ _ = [6] by kernel_rfl) (by simp) fun x hx => ?_
              obtain rfl : x = 6 := by simpa using hx
              clear hx
              refine wpOp_one 6 _ rfl (by kernel_rfl) fun K hK => ?_
              obtain ⟨v36, V36_, hr36, ho36, hg36, hob36⟩ := append_many ho35 30 Ap cp ((unhide HPW).keep hS35) (unhide HNONE) (by have := unhide HP; simp; omega) hS35.size
              rw [← (unhide HP).2.2.2.2.1] at hr36
              have hS36 := grown_below hS35 hg36 (fun k hk => (ho35.lt k hk).1)
              have hE36 := own_kept hE35 hg36 hneE35
              have hneE36 := own_ne hob36 hneE35 (lt_of_block hE35)
              have hZ36 := own_kept hZ35 hg36 hneZ30
              have hneZ36 := own_ne hob36 hneZ30 (lt_of_block hZ35)
              refine wp_append (.tmp 46) (.tmp 47) 30 rfl _ _ v36 V36_ rfl rfl hr36 ?_
              refine hK _ _ ⟨hS36, ?_⟩
              clear hK K
              try simp only [List.getElem_toArray, List.getElem_cons_zero, List.getElem_cons_succ, Act.put, List.setIfInBounds_toArray, List.set_cons_zero, List.set_cons_succ]
              refine wpAnyH_all (show Region.ready .any _ _ = [9] by kernel_rfl) (by simp) fun x hx => ?_
              obtain rfl : x = 9 := by simpa using hx
              clear hx
              refine wpOp_one 9 _ rfl (by kernel_rfl) fun K hK => ?_
              obtain ⟨v37, V37_, hr37, ho37, hg37, hob37⟩ := append_one ho36 30 (V30_.heap.size) 1 d (unhide HGD) hE36 (by have := unhide HP; simp; omega) hS36.size
              have hS37 := grown_below hS36 hg37 (fun k hk => (ho36.lt k hk).1)
              have hZ37 := own_kept hZ36 hg37 hneZ36
              have hneZ37 := own_ne hob37 hneZ36 (lt_of_block hZ36)
              refine wp_append (.tmp 48) (.tmp 50) 30 rfl _ _ v37 V37_ rfl rfl hr37 ?_
              refine hK _ _ ⟨hS37, ?_⟩
              clear hK K
              try simp only [List.getElem_toArray, List.getElem_cons_zero, List.getElem_cons_succ, Act.put, List.setIfInBounds_toArray, List.set_cons_zero, List.set_cons_succ]
              refine wpAnyH_all (show Region.ready .any _ _ = [10] by kernel_rfl) (by simp) fun x hx => ?_
              obtain rfl : x = 10 := by simpa using hx
              clear hx
              refine wpOp_one 10 _ rfl (by kernel_rfl) fun K hK => ?_
              obtain ⟨Aq, cq, hvq, _, _, _⟩ := own_form ho37 (fun x hx => by
                rcases List.mem_append.1 hx with h | h
                · exact (unhide HP).2.2.1 x (by simpa using h)
                · rw [List.mem_singleton.1 h]; exact unhide HGD)
              rw [show (([] : List (List Int)) ++ p ++ [d]).length = m + 1 by have := unhide HP; simp; omega] at hvq
              subst hvq
              go_simp
              refine ((unhide HBADC) V37_ Aq cq hS37).mono ?_; rintro x V38_ ⟨rfl, hb38⟩
              dsimp only
              have hZ38 := hZ37.keep hb38
              have hS38 := thenB hS37 hb38
              refine hK _ _ ⟨hS38, ?_⟩
              clear hK K
              try simp only [List.getElem_toArray, List.getElem_cons_zero, List.getElem_cons_succ, Act.put, List.setIfInBounds_toArray, List.set_cons_zero, List.set_cons_succ]
              refine wpAnyH_take (i := 11) (v := ?_) rfl (by kernel_rfl) (by kernel_rfl) (by kernel_rfl) (fun _ _ _ h => h) (Or.inl ⟨by kernel_rfl, ?_⟩) (by assumption) ?_
              rotate_left
              · intro Wt hSt
                go_simp
                try with_reducible rfl
              try simp only [List.getElem_toArray, List.getElem_cons_zero, List.getElem_cons_succ, Act.put, List.setIfInBounds_toArray, List.set_cons_zero, List.set_cons_succ]
              refine wpAnyH_take (i := 12) (v := ?_) rfl (by kernel_rfl) (by kernel_rfl) (by kernel_rfl) (fun _ _ _ h => h) (Or.inl ⟨by kernel_rfl, ?_⟩) (by assumption) ?_
              rotate_left
              · intro Wt hSt
                go_simp
                try with_reducible rfl
              try simp only [List.getElem_toArray, List.getElem_cons_zero, List.getElem_cons_succ, Act.put, List.setIfInBounds_toArray, List.set_cons_zero, List.set_cons_succ]
              refine wpAnyH_take (i := 13) (v := ?_) rfl (by kernel_rfl) (by kernel_rfl) (by kernel_rfl) (fun _ _ _ h => h) (Or.inl ⟨by kernel_rfl, ?_⟩) (by assumption) ?_
              rotate_left
              · intro Wt hSt
                go_simp
                try with_reducible rfl
              try simp only [List.getElem_toArray, List.getElem_cons_zero, List.getElem_cons_succ, Act.put, List.setIfInBounds_toArray, List.set_cons_zero, List.set_cons_succ]
              refine wpAnyH_chainOf [15, 16] _ _ _ (by kernel_rfl) (by kernel_rfl) ?_
              simp only [List.filterMap_cons, List.filterMap_nil, List.getElem?_toArray, List.getElem?_cons_zero, List.getElem?_cons_succ]
              refine wpChain_bstore rfl 26 (.tmp 11) (.tmp 53) rfl (V1_.heap.size) rfl zeros (show Value.agg cz = _ by rw [unhide HCZ]) 32 info32 rfl _ zeros hZ38 rfl ?_
              intro X1 HX1 HGx1
              have hZ1 := hS38.grown (unhide HGx1) hS38.size (fun i e => by injection e with e; omega)
              refine ⟨hZ1, ?_⟩
              refine wpChain_step rfl fun K hK => ?_
              go_simp
              refine hK _ _ hZ1 (wpChain_nil ?_)
              clear hK K
              go_wp2_with fail
              go_meet
              exact ⟨rfl, thenB (unhide HW2) hZ1⟩
        · clear hx
          refine wpOp_one 8 _ rfl (by kernel_rfl) fun K hK => ?_
          go_simp
          rw [overwritten hsd (by rfl)]
          generalize hX39 : W.alloc _ = V39_
          have hb39 : Below W.heap.size W V39_ := hX39 ▸ (Below.refl _ _).alloc (Nat.le_refl _) _
          have hE39 : ByAt V39_ W.heap.size 26 d := boxed W V39_ d _ (by rw [← hX39, unhide HCD]; rfl)
          have hS39 := thenB hSW hb39
          refine hK _ _ ⟨hS39, ?_⟩
          clear hK K
          try simp only [List.getElem_toArray, List.getElem_cons_zero, List.getElem_cons_succ, Act.put, List.setIfInBounds_toArray, List.set_cons_zero, List.set_cons_succ]
          refine wpAnyH_all (show Region.ready .any _ _ = [4, 14] by kernel_rfl) (by simp) fun x hx => ?_
          rcases (by simpa using hx : x = 4 ∨ x = 14) with rfl | rfl
          · clear hx
            refine wpOp_one 4 _ rfl (by kernel_rfl) fun K hK => ?_
            go_simp
            generalize hX40 : V39_.alloc _ = V40_
            have hb40 : Below V39_.heap.size V39_ V40_ := hX40 ▸ (Below.refl _ _).alloc (Nat.le_refl _) _
            have hE40 := hE39.keep hb40
            have ho40 : OwnD V40_ W.heap.size (.slice (some ⟨V39_.heap.size, 0, none⟩) 0 0) [] := hX40 ▸ World.ownsRow_lit V39_ #[] 0 hS39.size (Nat.zero_le _) rfl
            have hS40 := thenB hS39 hb40
            have hneE40 : ∀ k, (Value.slice (some ⟨V39_.heap.size, 0, none⟩) 0 0).ownBlock = some k → k ≠ W.heap.size := fun k hk => by have := lt_of_block hE39; have e : V39_.heap.size = k := (by simpa [Value.ownBlock] using hk); omega
            refine hK _ _ ⟨hS40, ?_⟩
            clear hK K
            try simp only [List.getElem_toArray, List.getElem_cons_zero, List.getElem_cons_succ, Act.put, List.setIfInBounds_toArray, List.set_cons_zero, List.set_cons_succ]
            refine wpAnyH_all (show Region.ready .any _ _ = [6, 14] by kernel_rfl) (by simp) fun x hx => ?_
            rcases (by simpa using hx : x = 6 ∨ x = 14) with rfl | rfl
            · clear hx
              refine wpOp_one 6 _ rfl (by kernel_rfl) fun K hK => ?_
              obtain ⟨v41, V41_, hr41, ho41, hg41, hob41⟩ := append_many ho40 30 Ap cp ((unhide HPW).keep hS40) (unhide HNONE) (by have := unhide HP; simp; omega) hS40.size
              rw [← (unhide HP).2.2.2.2.1] at hr41
              have hS41 := grown_below hS40 hg41 (fun k hk => (ho40.lt k hk).1)
              have hE41 := own_kept hE40 hg41 hneE40
              have hneE41 := own_ne hob41 hneE40 (lt_of_block hE40)
              refine wp_append (.tmp 46) (.tmp 47) 30 rfl _ _ v41 V41_ rfl rfl hr41 ?_
              refine hK _ _ ⟨hS41, ?_⟩
              clear hK K
              try simp only [List.getElem_toArray, List.getElem_cons_zero, List.getElem_cons_succ, Act.put, List.setIfInBounds_toArray, List.set_cons_zero, List.set_cons_succ]
              refine wpAnyH_all (show Region.ready .any _ _ = [9, 14] by kernel_rfl) (by simp) fun x hx => ?_
              rcases (by simpa using hx : x = 9 ∨ x = 14) with rfl | rfl
              · clear hx
                refine wpOp_one 9 _ rfl (by kernel_rfl) fun K hK => ?_
                obtain ⟨v42, V42_, hr42, ho42, hg42, hob42⟩ := append_one ho41 30 (W.heap.size) 1 d (unhide HGD) hE41 (by have := unhide HP; simp; omega) hS41.size
                have hS42 := grown_below hS41 hg42 (fun k hk => (ho41.lt k hk).1)
                refine wp_append (.tmp 48) (.tmp 50) 30 rfl _ _ v42 V42_ rfl rfl hr42 ?_
                refine hK _ _ ⟨hS42, ?_⟩
                clear hK K
                try simp only [List.getElem_toArray, List.getElem_cons_zero, List.getElem_cons_succ, Act.put, List.setIfInBounds_toArray, List.set_cons_zero, List.set_cons_succ]
                refine wpAnyH_all (show Region.ready .any _ _ = [10, 14] by kernel_rfl) (by simp) fun x hx => ?_
                rcases (by simpa using hx : x = 10 ∨ x = 14) with rfl | rfl
                · clear hx
                  refine wpOp_one 10 _ rfl (by kernel_rfl) fun K hK => ?_
                  obtain ⟨Aq, cq, hvq, _, _, _⟩ := own_form ho42 (fun x hx => by
                    rcases List.mem_append.1 hx with h | h
                    · exact (unhide HP).2.2.1 x (by simpa using h)
                    · rw [List.mem_singleton.1 h]; exact unhide HGD)
                  rw [show (([] : List (List Int)) ++ p ++ [d]).length = m + 1 by have := unhide HP; simp; omega] at hvq
                  subst hvq
                  go_simp
                  refine ((unhide HBADC) V42_ Aq cq hS42).mono ?_; rintro x V43_ ⟨rfl, hb43⟩
                  dsimp only
                  have hS43 := thenB hS42 hb43
                  refine hK _ _ ⟨hS43, ?_⟩
                  clear hK K
                  try simp only [List.getElem_toArray, List.getElem_cons_zero, List.getElem_cons_succ, Act.put, List.setIfInBounds_toArray, List.set_cons_zero, List.set_cons_succ]
                  refine wpAnyH_take (i := 11) (v := ?_) rfl (by kernel_rfl) (by kernel_rfl) (by kernel_rfl) (fun _ _ _ h => h) (Or.inl ⟨by kernel_rfl, ?_⟩) (by assumption) ?_
                  rotate_left
                  · intro Wt hSt
                    go_simp
                    try with_reducible rfl
                  try simp only [List.getElem_toArray, List.getElem_cons_zero, List.getElem_cons_succ, Act.put, List.setIfInBounds_toArray, List.set_cons_zero, List.set_cons_succ]
                  refine wpAnyH_take (i := 12) (v := ?_) rfl (by kernel_rfl) (by kernel_rfl) (by kernel_rfl) (fun _ _ _ h => h) (Or.inl ⟨by kernel_rfl, ?_⟩) (by assumption) ?_
                  rotate_left
                  · intro Wt hSt
                    go_simp
                    try with_reducible rfl
                  try simp only [List.getElem_toArray, List.getElem_cons_zero, List.getElem_cons_succ, Act.put, List.setIfInBounds_toArray, List.set_cons_zero, List.set_cons_succ]
                  refine wpAnyH_take (i := 13) (v := ?_) rfl (by kernel_rfl) (by kernel_rfl) (by kernel_rfl) (fun _ _ _ h => h) (Or.inl ⟨by kernel_rfl, ?_⟩) (by assumption) ?_
                  rotate_left
                  · intro Wt hSt
                    go_simp
                    try with_reducible rfl
                  try simp only [List.getElem_toArray, List.getElem_cons_zero, List.getElem_cons_succ, Act.put, List.setIfInBounds_toArray, List.set_cons_zero, List.set_cons_succ]
                  refine wpAnyH_all (show Region.ready .any _ _ = [14] by kernel_rfl) (by simp) fun x hx => ?_
                  obtain rfl : x = 14 := by simpa using hx
                  clear hx
                  refine wpOp_one 14 _ rfl (by kernel_rfl) fun K hK => ?_
                  go_simp
                  generalize hX44 : V43_.alloc _ = V44_
                  have hb44 : Below V43_.heap.size V43_ V44_ := hX44 ▸ (Below.refl _ _).alloc (Nat.le_refl _) _
                  have hZ44 := newBy V43_ V44_ (by rw [← hX44]; rfl)
                  have hS44 := thenB hS43 hb44
                  have hleZ : W.heap.size ≤ V43_.heap.size := hS43.size
                  refine hK _ _ ⟨hS44, ?_⟩
                  clear hK K
                  try simp only [List.getElem_toArray, List.getElem_cons_zero, List.getElem_cons_succ, Act.put, List.setIfInBounds_toArray, List.set_cons_zero, List.set_cons_succ]
                  refine wpAnyH_chainOf [15, 16] _ _ _ (by kernel_rfl) (by kernel_rfl) ?_
                  simp only [List.filterMap_cons, List.filterMap_nil, List.getElem?_toArray, List.getElem?_cons_zero, List.getElem?_cons_succ]
                  refine wpChain_bstore rfl 26 (.tmp 11) (.tmp 53) rfl (V43_.heap.size) rfl zeros (show Value.agg cz = _ by rw [unhide HCZ]) 32 info32 rfl _ zeros hZ44 rfl ?_
                  intro X1 HX1 HGx1
                  have hZ1 := hS44.grown (unhide HGx1) hS44.size (fun i e => by injection e with e; omega)
                  refine ⟨hZ1, ?_⟩
                  refine wpChain_step rfl fun K hK => ?_
                  go_simp
                  refine hK _ _ hZ1 (wpChain_nil ?_)
                  clear hK K
                  go_wp2_with fail
                  go_meet
                  exact ⟨rfl, thenB (unhide HW2) hZ1⟩
                · clear hx
                  refine wpOp_one 14 _ rfl (by kernel_rfl) fun K hK => ?_
                  go_simp
                  generalize hX45 : V42_.alloc _ = V45_
                  have hb45 : Below V42_.heap.size V42_ V45_ := hX45 ▸ (Below.refl _ _).alloc (Nat.le_refl _) _
                  have hneZ45 : ∀ k, (v42 : Value).ownBlock = some k → k ≠ V42_.heap.size := fun k hk => by have := (ho42.lt k hk).2; omega
                  have ho45 := ho42.later hb45
                  have hZ45 := newBy V42_ V45_ (by rw [← hX45]; rfl)
                  have hS45 := thenB hS42 hb45
                  have hleZ : W.heap.size ≤ V42_.heap.size := hS42.size
                  refine hK _ _ ⟨hS45, ?_⟩
                  clear hK K
                  try simp only [List.getElem_toArray, List.getElem_cons_zero, List.getElem_cons_succ, Act.put, List.setIfInBounds_toArray, List.set_cons_zero, List.set_cons_succ]
                  refine wpAnyH_all (show Region.ready .any _ _ = [10] by kernel_rfl) (by simp) fun x hx => ?_
                  obtain rfl : x = 10 := by simpa using hx
                  clear hx
                  refine wpOp_one 10 _ rfl (by kernel_rfl) fun K hK => ?_
                  obtain ⟨Aq, cq, hvq, _, _, _⟩ := own_form ho45 (fun x hx => by
                    rcases List.mem_append.1 hx with h | h
                    · exact (unhide HP).2.2.1 x (by simpa using h)
                    · rw [List.mem_singleton.1 h]; exact unhide HGD)
                  rw [show (([] : List (List Int)) ++ p ++ [d]).length = m + 1 by have := unhide HP; simp; omega] at hvq
                  subst hvq
                  go_simp
                  refine ((unhide HBADC) V45_ Aq cq hS45).mono ?_; rintro x V46_ ⟨rfl, hb46⟩
                  dsimp only
                  have hZ46 := hZ45.keep hb46
                  have hS46 := thenB hS45 hb46
                  refine hK _ _ ⟨hS46, ?_⟩
                  clear hK K
                  try simp only [List.getElem_toArray, List.getElem_cons_zero, List.getElem_cons_succ, Act.put, List.setIfInBounds_toArray, List.set_cons_zero, List.set_cons_succ]
                  refine wpAnyH_take (i := 11) (v := ?_) rfl (by kernel_rfl) (by kernel_rfl) (by kernel_rfl) (fun _ _ _ h => h) (Or.inl ⟨by kernel_rfl, ?_⟩) (by assumption) ?_
                  rotate_left
                  · intro Wt hSt
                    go_simp
                    try with_reducible rfl
                  try simp only [List.getElem_toArray, List.getElem_cons_zero, List.getElem_cons_succ, Act.put, List.setIfInBounds_toArray, List.set_cons_zero, List.set_cons_succ]
                  refine wpAnyH_take (i := 12) (v := ?_) rfl (by kernel_rfl) (by kernel_rfl) (by kernel_rfl) (fun _ _ _ h => h) (Or.inl ⟨by kernel_rfl, ?_⟩) (by assumption) ?_
                  rotate_left
                  · intro Wt hSt
                    go_simp
                    try with_reducible rfl
                  try simp only [List.getElem_toArray, List.getElem_cons_zero, List.getElem_cons_succ, Act.put, List.setIfInBounds_toArray, List.set_cons_zero, List.set_cons_succ]
                  refine wpAnyH_take (i := 13) (v := ?_) rfl (by kernel_rfl) (by kernel_rfl) (by kernel_rfl) (fun _ _ _ h => h) (Or.inl ⟨by kernel_rfl, ?_⟩) (by assumption) ?_
                  rotate_left
                  · intro Wt hSt
                    go_simp
                    try with_reducible rfl
                  try simp only [List.getElem_toArray, List.getElem_cons_zero, List.getElem_cons_succ, Act.put, List.setIfInBounds_toArray, List.set_cons_zero, List.set_cons_succ]
                  refine wpAnyH_chainOf [15, 16] _ _ _ (by kernel_rfl) (by kernel_rfl) ?_
                  simp only [List.filterMap_cons, List.filterMap_nil, List.getElem?_toArray, List.getElem?_cons_zero, List.getElem?_cons_succ]
                  refine wpChain_bstore rfl 26 (.tmp 11) (.tmp 53) rfl (V42_.heap.size) rfl zeros (show Value.agg cz = _ by rw [unhide HCZ]) 32 info32 rfl _ zeros hZ46 rfl ?_
                  intro X1 HX1 HGx1
                  have hZ1 := hS46.grown (unhide HGx1) hS46.size (fun i e => by injection e with e; omega)
                  refine ⟨hZ1, ?_⟩
                  refine wpChain_step rfl fun K hK => ?_
                  go_simp
                  refine hK _ _ hZ1 (wpChain_nil ?_)
                  clear hK K
                  go_wp2_with fail
                  go_meet
                  exact ⟨rfl, thenB (unhide HW2) hZ1⟩
              · clear hx
                refine wpOp_one 14 _ rfl (by kernel_rfl) fun K hK => ?_
                go_simp
                generalize hX47 : V41_.alloc _ = V47_
                have hb47 : Below V41_.heap.size V41_ V47_ := hX47 ▸ (Below.refl _ _).alloc (Nat.le_refl _) _
                have hneZ47 : ∀ k, (v41 : Value).ownBlock = some k → k ≠ V41_.heap.size := fun k hk => by have := (ho41.lt k hk).2; omega
                have hE47 := hE41.keep hb47
                have ho47 := ho41.later hb47
                have hZ47 := newBy V41_ V47_ (by rw [← hX47]; rfl)
                have hS47 := thenB hS41 hb47
                have hleZ : W.heap.size ≤ V41_.heap.size := hS41.size
                refine hK _ _ ⟨hS47, ?_⟩
                clear hK K
                try simp only [List.getElem_toArray, List.getElem_cons_zero, List.getElem_cons_succ, Act.put, List.setIfInBounds_toArray, List.set_cons_zero, List.set_cons_succ]
                refine wpAnyH_all (show Region.ready .any _ _ = [9] by kernel_rfl) (by simp) fun x hx => ?_
                obtain rfl : x = 9 := by simpa using hx
                clear hx
                refine wpOp_one 9 _ rfl (by kernel_rfl) fun K hK => ?_
                obtain ⟨v48, V48_, hr48, ho48, hg48, hob48⟩ := append_one ho47 30 (W.heap.size) 1 d (unhide HGD) hE47 (by have := unhide HP; simp; omega) hS47.size
                have hS48 := grown_below hS47 hg48 (fun k hk => (ho47.lt k hk).1)
                have hZ48 := own_kept hZ47 hg48 hneZ47
                have hneZ48 := own_ne hob48 hneZ47 (lt_of_block hZ47)
                refine wp_append (.tmp 48) (.tmp 50) 30 rfl _ _ v48 V48_ rfl rfl hr48 ?_
                refine hK _ _ ⟨hS48, ?_⟩
                clear hK K
                try simp only [List.getElem_toArray, List.getElem_cons_zero, List.getElem_cons_succ, Act.put, List.setIfInBounds_toArray, List.set_cons_zero, List.set_cons_succ]
                refine wpAnyH_all (show Region.ready .any _ _ = [10] by kernel_rfl) (by simp) fun x hx => ?_
                obtain rfl : x = 10 := by simpa using hx
                clear hx
                refine wpOp_one 10 _ rfl (by kernel_rfl) fun K hK => ?_
                obtain ⟨Aq, cq, hvq, _, _, _⟩ := own_form ho48 (fun x hx => by
                  rcases List.mem_append.1 hx with h | h
                  · exact (unhide HP).2.2.1 x (by simpa using h)
                  · rw [List.mem_singleton.1 h]; exact unhide HGD)
                rw [show (([] : List (List Int)) ++ p ++ [d]).length = m + 1 by have := unhide HP; simp; omega] at hvq
                subst hvq
                go_simp
                refine ((unhide HBADC) V48_ Aq cq hS48).mono ?_; rintro x V49_ ⟨rfl, hb49⟩
                dsimp only
                have hZ49 := hZ48.keep hb49
                have hS49 := thenB hS48 hb49
                refine hK _ _ ⟨hS49, ?_⟩
                clear hK K
                try simp only [List.getElem_toArray, List.getElem_cons_zero, List.getElem_cons_succ, Act.put, List.setIfInBounds_toArray, List.set_cons_zero, List.set_cons_succ]
                refine wpAnyH_take (i := 11) (v := ?_) rfl (by kernel_rfl) (by kernel_rfl) (by kernel_rfl) (fun _ _ _ h => h) (Or.inl ⟨by kernel_rfl, ?_⟩) (by assumption) ?_
                rotate_left
                · intro Wt hSt
                  go_simp
                  try with_reducible rfl
                try simp only [List.getElem_toArray, List.getElem_cons_zero, List.getElem_cons_succ, Act.put, List.setIfInBounds_toArray, List.set_cons_zero, List.set_cons_succ]
                refine wpAnyH_take (i := 12) (v := ?_) rfl (by kernel_rfl) (by kernel_rfl) (by kernel_rfl) (fun _ _ _ h => h) (Or.inl ⟨by kernel_rfl, ?_⟩) (by assumption) ?_
                rotate_left
                · intro Wt hSt
                  go_simp
                  try with_reducible rfl
                try simp only [List.getElem_toArray, List.getElem_cons_zero, List.getElem_cons_succ, Act.put, List.setIfInBounds_toArray, List.set_cons_zero, List.set_cons_succ]
                refine wpAnyH_take (i := 13) (v := ?_) rfl (by kernel_rfl) (by kernel_rfl) (by kernel_rfl) (fun _ _ _ h => h) (Or.inl ⟨by kernel_rfl, ?_⟩) (by assumption) ?_
                rotate_left
                · intro Wt hSt
                  go_simp
                  try with_reducible rfl
                try simp only [List.getElem_toArray, List.getElem_cons_zero, List.getElem_cons_succ, Act.put, List.setIfInBounds_toArray, List.set_cons_zero, List.set_cons_succ]
                refine wpAnyH_chainOf [15, 16] _ _ _ (by kernel_rfl) (by kernel_rfl) ?_
                simp only [List.filterMap_cons, List.filterMap_nil, List.getElem?_toArray, List.getElem?_cons_zero, List.getElem?_cons_succ]
                refine wpChain_bstore rfl 26 (.tmp 11) (.tmp 53) rfl (V41_.heap.size) rfl zeros (show Value.agg cz = _ by rw [unhide HCZ]) 32 info32 rfl _ zeros hZ49 rfl ?_
                intro X1 HX1 HGx1
                have hZ1 := hS49.grown (unhide HGx1) hS49.size (fun i e => by injection e with e; omega)
                refine ⟨hZ1, ?_⟩
                refine wpChain_step rfl fun K hK => ?_
                go_simp
                refine hK _ _ hZ1 (wpChain_nil ?_)
                clear hK K
                go_wp2_with fail
                go_meet
                exact ⟨rfl, thenB (unhide HW2) hZ1⟩
            · clear hx
              refine wpOp_one 14 _ rfl (by kernel_rfl) fun K hK => ?_
              go_simp
              generalize hX50 : V40_.alloc _ = V50_
              have hb50 : Below V40_.heap.size V40_ V50_ := hX50 ▸ (Below.refl _ _).alloc (Nat.le_refl _) _
              have hneZ50 : ∀ k, ((.slice (some ⟨V39_.heap.size, 0, none⟩) 0 0) : Value).ownBlock = some k → k ≠ V40_.heap.size := fun k hk => by have := (ho40.lt k hk).2; omega
              have hE50 := hE40.keep hb50
              have ho50 := ho40.later hb50
              have hZ50 := newBy V40_ V50_ (by rw [← hX50]; rfl)
              have hS50 := thenB hS40 hb50
              have hleZ : W.heap.size ≤ V40_.heap.size := hS40.size
              refine hK _ _ ⟨hS50, ?_⟩
              clear hK K
              try simp only [List.getElem_toArray, List.getElem_cons_zero, List.getElem_cons_succ, Act.put, List.setIfInBounds_toArray, List.set_cons_zero, List.set_cons_succ]
              refine wpAnyH_all (show Region.ready .any _ _ = [6] by kernel_rfl) (by simp) fun x hx => ?_
              obtain rfl : x = 6 := by simpa using hx
              clear hx
              refine wpOp_one 6 _ rfl (by kernel_rfl) fun K hK => ?_
              obtain ⟨v51, V51_, hr51, ho51, hg51, hob51⟩ := append_many ho50 30 Ap cp ((unhide HPW).keep hS50) (unhide HNONE) (by have := unhide HP; simp; omega) hS50.size
              rw [← (unhide HP).2.2.2.2.1] at hr51
              have hS51 := grown_below hS50 hg51 (fun k hk => (ho50.lt k hk).1)
              have hE51 := own_kept hE50 hg51 hneE40
              have hneE51 := own_ne hob51 hneE40 (lt_of_block hE50)
              have hZ51 := own_kept hZ50 hg51 hneZ50
              have hneZ51 := own_ne hob51 hneZ50 (lt_of_block hZ50)
              refine wp_append (.tmp 46) (.tmp 47) 30 rfl _ _ v51 V51_ rfl rfl hr51 ?_
              refine hK _ _ ⟨hS51, ?_⟩
              clear hK K
              try simp only [List.getElem_toArray, List.getElem_cons_zero, List.getElem_cons_succ, Act.put, List.setIfInBounds_toArray, List.set_cons_zero, List.set_cons_succ]
              refine wpAnyH_all (show Region.ready .any _ _ = [9] by kernel_rfl) (by simp) fun x hx => ?_
              obtain rfl : x = 9 := by simpa using hx
              clear hx
              refine wpOp_one 9 _ rfl (by kernel_rfl) fun K hK => ?_
              obtain ⟨v52, V52_, hr52, ho52, hg52, hob52⟩ := append_one ho51 30 (W.heap.size) 1 d (unhide HGD) hE51 (by have := unhide HP; simp; omega) hS51.size
              have hS52 := grown_below hS51 hg52 (fun k hk => (ho51.lt k hk).1)
              have hZ52 := own_kept hZ51 hg52 hneZ51
              have hneZ52 := own_ne hob52 hneZ51 (lt_of_block hZ51)
              refine wp_append (.tmp 48) (.tmp 50) 30 rfl _ _ v52 V52_ rfl rfl hr52 ?_
              refine hK _ _ ⟨hS52, ?_⟩
              clear hK K
              try simp only [List.getElem_toArray, List.getElem_cons_zero, List.getElem_cons_succ, Act.put, List.setIfInBounds_toArray, List.set_cons_zero, List.set_cons_succ]
              refine wpAnyH_all (show Region.ready .any _ _ = [10] by kernel_rfl) (by simp) fun x hx => ?_
              obtain rfl : x = 10 := by simpa using hx
              clear hx
              refine wpOp_one 10 _ rfl (by kernel_rfl) fun K hK => ?_
              obtain ⟨Aq, cq, hvq, _, _, _⟩ := own_form ho52 (fun x hx => by
                rcases List.mem_append.1 hx with h | h
                · exact (unhide HP).2.2.1 x (by simpa using h)
                · rw [List.mem_singleton.1 h]; exact unhide HGD)
              rw [show (([] : List (List Int)) ++ p ++ [d]).length = m + 1 by have := unhide HP; simp; omega] at hvq
              subst hvq
              go_simp
              refine ((unhide HBADC) V52_ Aq cq hS52).mono ?_; rintro x V53_ ⟨rfl, hb53⟩
              dsimp only
              have hZ53 := hZ52.keep hb53
              have hS53 := thenB hS52 hb53
              refine hK _ _ ⟨hS53, ?_⟩
              clear hK K
              try simp only [List.getElem_toArray, List.getElem_cons_zero, List.getElem_cons_succ, Act.put, List.setIfInBounds_toArray, List.set_cons_zero, List.set_cons_succ]
              refine wpAnyH_take (i := 11) (v := ?_) rfl (by kernel_rfl) (by kernel_rfl) (by kernel_rfl) (fun _ _ _ h => h) (Or.inl ⟨by kernel_rfl, ?_⟩) (by assumption) ?_
              rotate_left
              · intro Wt hSt
                go_simp
                try with_reducible rfl
              try simp only [List.getElem_toArray, List.getElem_cons_zero, List.getElem_cons_succ, Act.put, List.setIfInBounds_toArray, List.set_cons_zero, List.set_cons_succ]
              refine wpAnyH_take (i := 12) (v := ?_) rfl (by kernel_rfl) (by kernel_rfl) (by kernel_rfl) (fun _ _ _ h => h) (Or.inl ⟨by kernel_rfl, ?_⟩) (by assumption) ?_
              rotate_left
              · intro Wt hSt
                go_simp
                try with_reducible rfl
              try simp only [List.getElem_toArray, List.getElem_cons_zero, List.getElem_cons_succ, Act.put, List.setIfInBounds_toArray, List.set_cons_zero, List.set_cons_succ]
              refine wpAnyH_take (i := 13) (v := ?_) rfl (by kernel_rfl) (by kernel_rfl) (by kernel_rfl) (fun _ _ _ h => h) (Or.inl ⟨by kernel_rfl, ?_⟩) (by assumption) ?_
              rotate_left
              · intro Wt hSt
                go_simp
                try with_reducible rfl
              try simp only [List.getElem_toArray, List.getElem_cons_zero, List.getElem_cons_succ, Act.put, List.setIfInBounds_toArray, List.set_cons_zero, List.set_cons_succ]
              refine wpAnyH_chainOf [15, 16] _ _ _ (by kernel_rfl) (by kernel_rfl) ?_
              simp only [List.filterMap_cons, List.filterMap_nil, List.getElem?_toArray, List.getElem?_cons_zero, List.getElem?_cons_succ]
              refine wpChain_bstore rfl 26 (.tmp 11) (.tmp 53) rfl (V40_.heap.size) rfl zeros (show Value.agg cz = _ by rw [unhide HCZ]) 32 info32 rfl _ zeros hZ53 rfl ?_
              intro X1 HX1 HGx1
              have hZ1 := hS53.grown (unhide HGx1) hS53.size (fun i e => by injection e with e; omega)
              refine ⟨hZ1, ?_⟩
              refine wpChain_step rfl fun K hK => ?_
              go_simp
              refine hK _ _ hZ1 (wpChain_nil ?_)
              clear hK K
              go_wp2_with fail
              go_meet
              exact ⟨rfl, thenB (unhide HW2) hZ1⟩
          · clear hx
            refine wpOp_one 14 _ rfl (by kernel_rfl) fun K hK => ?_
            go_simp
            generalize hX54 : V39_.alloc _ = V54_
            have hb54 : Below V39_.heap.size V39_ V54_ := hX54 ▸ (Below.refl _ _).alloc (Nat.le_refl _) _
            have hE54 := hE39.keep hb54
            have hZ54 := newBy V39_ V54_ (by rw [← hX54]; rfl)
            have hS54 := thenB hS39 hb54
            have hleZ : W.heap.size ≤ V39_.heap.size := hS39.size
            refine hK _ _ ⟨hS54, ?_⟩
            clear hK K
            try simp only [List.getElem_toArray, List.getElem_cons_zero, List.getElem_cons_succ, Act.put, List.setIfInBounds_toArray, List.set_cons_zero, List.set_cons_succ]
            refine wpAnyH_all (show Region.ready .any _ _ = [4] by kernel_rfl) (by simp) fun x hx => ?_
            obtain rfl : x = 4 := by simpa using hx
            clear hx
            refine wpOp_one 4 _ rfl (by kernel_rfl) fun K hK => ?_
            go_simp
            generalize hX55 : V54_.alloc _ = V55_
            have hb55 : Below V54_.heap.size V54_ V55_ := hX55 ▸ (Below.refl _ _).alloc (Nat.le_refl _) _
            have hE55 := hE54.keep hb55
            have hZ55 := hZ54.keep hb55
            have ho55 : OwnD V55_ W.heap.size (.slice (some ⟨V54_.heap.size, 0, none⟩) 0 0) [] := hX55 ▸ World.ownsRow_lit V54_ #[] 0 hS54.size (Nat.zero_le _) rfl
            have hS55 := thenB hS54 hb55
            have hneE55 : ∀ k, (Value.slice (some ⟨V54_.heap.size, 0, none⟩) 0 0).ownBlock = some k → k ≠ W.heap.size := fun k hk => by have := lt_of_block hE54; have e : V54_.heap.size = k := (by simpa [Value.ownBlock] using hk); omega
            have hneZ55 : ∀ k, (Value.slice (some ⟨V54_.heap.size, 0, none⟩) 0 0).ownBlock = some k → k ≠ V39_.heap.size := fun k hk => by have := lt_of_block hZ54; have e : V54_.heap.size = k := (by simpa [Value.ownBlock] using hk); omega
            refine hK _ _ ⟨hS55, ?_⟩
            clear hK K
            try simp only [List.getElem_toArray, List.getElem_cons_zero, List.getElem_cons_succ, Act.put, List.setIfInBounds_toArray, List.set_cons_zero, List.set_cons_succ]
            refine wpAnyH_all (show Region.ready .any _ _ = [6] by kernel_rfl) (by simp) fun x hx => ?_
            obtain rfl : x = 6 := by simpa using hx
            clear hx
            refine wpOp_one 6 _ rfl (by kernel_rfl) fun K hK => ?_
            obtain ⟨v56, V56_, hr56, ho56, hg56, hob56⟩ := append_many ho55 30 Ap cp ((unhide HPW).keep hS55) (unhide HNONE) (by have := unhide HP; simp; omega) hS55.size
            rw [← (unhide HP).2.2.2.2.1] at hr56
            have hS56 := grown_below hS55 hg56 (fun k hk => (ho55.lt k hk).1)
            have hE56 := own_kept hE55 hg56 hneE55
            have hneE56 := own_ne hob56 hneE55 (lt_of_block hE55)
            have hZ56 := own_kept hZ55 hg56 hneZ55
            have hneZ56 := own_ne hob56 hneZ55 (lt_of_block hZ55)
            refine wp_append (.tmp 46) (.tmp 47) 30 rfl _ _ v56 V56_ rfl rfl hr56 ?_
            refine hK _ _ ⟨hS56, ?_⟩
            clear hK K
            try simp only [List.getElem_toArray, List.getElem_cons_zero, List.getElem_cons_succ, Act.put, List.setIfInBounds_toArray, List.set_cons_zero, List.set_cons_succ]
            refine wpAnyH_all (show Region.ready .any _ _ = [9] by kernel_rfl) (by simp) fun x hx => ?_
            obtain rfl : x = 9 := by simpa using hx
            clear hx
            refine wpOp_one 9 _ rfl (by kernel_rfl) fun K hK => ?_
            obtain ⟨v57, V57_, hr57, ho57, hg57, hob57⟩ := append_one ho56 30 (W.heap.size) 1 d (unhide HGD) hE56 (by have := unhide HP; simp; omega) hS56.size
            have hS57 := grown_below hS56 hg57 (fun k hk => (ho56.lt k hk).1)
            have hZ57 := own_kept hZ56 hg57 hneZ56
            have hneZ57 := own_ne hob57 hneZ56 (lt_of_block hZ56)
            refine wp_append (.tmp 48) (.tmp 50) 30 rfl _ _ v57 V57_ rfl rfl hr57 ?_
            refine hK _ _ ⟨hS57, ?_⟩
            clear hK K
            try simp only [List.getElem_toArray, List.getElem_cons_zero, List.getElem_cons_succ, Act.put, List.setIfInBounds_toArray, List.set_cons_zero, List.set_cons_succ]
            refine wpAnyH_all (show Region.ready .any _ _ = [10] by kernel_rfl) (by simp) fun x hx => ?_
            obtain rfl : x = 10 := by simpa using hx
            clear hx
            refine wpOp_one 10 _ rfl (by kernel_rfl) fun K hK => ?_
            obtain ⟨Aq, cq, hvq, _, _, _⟩ := own_form ho57 (fun x hx => by
              rcases List.mem_append.1 hx with h | h
              · exact (unhide HP).2.2.1 x (by simpa using h)
              · rw [List.mem_singleton.1 h]; exact unhide HGD)
            rw [show (([] : List (List Int)) ++ p ++ [d]).length = m + 1 by have := unhide HP; simp; omega] at hvq
            subst hvq
            go_simp
            refine ((unhide HBADC) V57_ Aq cq hS57).mono ?_; rintro x V58_ ⟨rfl, hb58⟩
            dsimp only
            have hZ58 := hZ57.keep hb58
            have hS58 := thenB hS57 hb58
            refine hK _ _ ⟨hS58, ?_⟩
            clear hK K
            try simp only [List.getElem_toArray, List.getElem_cons_zero, List.getElem_cons_succ, Act.put, List.setIfInBounds_toArray, List.set_cons_zero, List.set_cons_succ]
            refine wpAnyH_take (i := 11) (v := ?_) rfl (by kernel_rfl) (by kernel_rfl) (by kernel_rfl) (fun _ _ _ h => h) (Or.inl ⟨by kernel_rfl, ?_⟩) (by assumption) ?_
            rotate_left
            · intro Wt hSt
              go_simp
              try with_reducible rfl
            try simp only [List.getElem_toArray, List.getElem_cons_zero, List.getElem_cons_succ, Act.put, List.setIfInBounds_toArray, List.set_cons_zero, List.set_cons_succ]
            refine wpAnyH_take (i := 12) (v := ?_) rfl (by kernel_rfl) (by kernel_rfl) (by kernel_rfl) (fun _ _ _ h => h) (Or.inl ⟨by kernel_rfl, ?_⟩) (by assumption) ?_
            rotate_left
            · intro Wt hSt
              go_simp
              try with_reducible rfl
            try simp only [List.getElem_toArray, List.getElem_cons_zero, List.getElem_cons_succ, Act.put, List.setIfInBounds_toArray, List.set_cons_zero, List.set_cons_succ]
            refine wpAnyH_take (i := 13) (v := ?_) rfl (by kernel_rfl) (by kernel_rfl) (by kernel_rfl) (fun _ _ _ h => h) (Or.inl ⟨by kernel_rfl, ?_⟩) (by assumption) ?_
            rotate_left
            · intro Wt hSt
              go_simp
              try with_reducible rfl
            try simp only [List.getElem_toArray, List.getElem_cons_zero, List.getElem_cons_succ, Act.put, List.setIfInBounds_toArray, List.set_cons_zero, List.set_cons_succ]
            refine wpAnyH_chainOf [15, 16] _ _ _ (by kernel_rfl) (by kernel_rfl) ?_
            simp only [List.filterMap_cons, List.filterMap_nil, List.getElem?_toArray, List.getElem?_cons_zero, List.getElem?_cons_succ]
            refine wpChain_bstore rfl 26 (.tmp 11) (.tmp 53) rfl (V39_.heap.size) rfl zeros (show Value.agg cz = _ by rw [unhide HCZ]) 32 info32 rfl _ zeros hZ58 rfl ?_
            intro X1 HX1 HGx1
            have hZ1 := hS58.grown (unhide HGx1) hS58.size (fun i e => by injection e with e; omega)
            refine ⟨hZ1, ?_⟩
            refine wpChain_step rfl fun K hK => ?_
            go_simp
            refine hK _ _ hZ1 (wpChain_nil ?_)
            clear hK K
            go_wp2_with fail
            go_meet
            exact ⟨rfl, thenB (unhide HW2) hZ1⟩
        · clear hx
          refine wpOp_one 14 _ rfl (by kernel_rfl) fun K hK => ?_
          go_simp
          generalize hX59 : W.alloc _ = V59_
          have hb59 : Below W.heap.size W V59_ := hX59 ▸ (Below.refl _ _).alloc (Nat.le_refl _) _
          have hZ59 := newBy W V59_ (by rw [← hX59]; rfl)
          have hS59 := thenB hSW hb59
          have hleZ : W.heap.size ≤ W.heap.size := hSW.size
          refine hK _ _ ⟨hS59, ?_⟩
          clear hK K
          try simp only [List.getElem_toArray, List.getElem_cons_zero, List.getElem_cons_succ, Act.put, List.setIfInBounds_toArray, List.set_cons_zero, List.set_cons_succ]
          refine wpAnyH_all (show Region.ready .any _ _ = [4, 8] by kernel_rfl) (by simp) fun x hx => ?_
          rcases (by simpa using hx : x = 4 ∨ x = 8) with rfl | rfl
          · clear hx
            refine wpOp_one 4 _ rfl (by kernel_rfl) fun K hK => ?_
            go_simp
            generalize hX60 : V59_.alloc _ = V60_
            have hb60 : Below V59_.heap.size V59_ V60_ := hX60 ▸ (Below.refl _ _).alloc (Nat.le_refl _) _
            have hZ60 := hZ59.keep hb60
            have ho60 : OwnD V60_ W.heap.size (.slice (some ⟨V59_.heap.size, 0, none⟩) 0 0) [] := hX60 ▸ World.ownsRow_lit V59_ #[] 0 hS59.size (Nat.zero_le _) rfl
            have hS60 := thenB hS59 hb60
            have hneZ60 : ∀ k, (Value.slice (some ⟨V59_.heap.size, 0, none⟩) 0 0).ownBlock = some k → k ≠ W.heap.size := fun k hk => by have := lt_of_block hZ59; have e : V59_.heap.size = k := (by simpa [Value.ownBlock] using hk); omega
            refine hK _ _ ⟨hS60, ?_⟩
            clear hK K
            try simp only [List.getElem_toArray, List.getElem_cons_zero, List.getElem_cons_succ, Act.put, List.setIfInBounds_toArray, List.set_cons_zero, List.set_cons_succ]
            refine wpAnyH_all (show Region.ready .any _ _ = [6, 8] by kernel_rfl) (by simp) fun x hx => ?_
            rcases (by simpa using hx : x = 6 ∨ x = 8) with rfl | rfl
            · clear hx
              refine wpOp_one 6 _ rfl (by kernel_rfl) fun K hK => ?_
              obtain ⟨v61, V61_, hr61, ho61, hg61, hob61⟩ := append_many ho60 30 Ap cp ((unhide HPW).keep hS60) (unhide HNONE) (by have := unhide HP; simp; omega) hS60.size
              rw [← (unhide HP).2.2.2.2.1] at hr61
              have hS61 := grown_below hS60 hg61 (fun k hk => (ho60.lt k hk).1)
              have hZ61 := own_kept hZ60 hg61 hneZ60
              have hneZ61 := own_ne hob61 hneZ60 (lt_of_block hZ60)
              refine wp_append (.tmp 46) (.tmp 47) 30 rfl _ _ v61 V61_ rfl rfl hr61 ?_
              refine hK _ _ ⟨hS61, ?_⟩
              clear hK K
              try simp only [List.getElem_toArray, List.getElem_cons_zero, List.getElem_cons_succ, Act.put, List.setIfInBounds_toArray, List.set_cons_zero, List.set_cons_succ]
              refine wpAnyH_all (show Region.ready .any _ _ = [8] by kernel_rfl) (by simp) fun x hx => ?_
              obtain rfl : x = 8 := by simpa using hx
              clear hx
              refine wpOp_one 8 _ rfl (by kernel_rfl) fun K hK => ?_
              go_simp
              rw [overwritten hsd (by rfl)]
              generalize hX62 : V61_.alloc _ = V62_
              have hb62 : Below V61_.heap.size V61_ V62_ := hX62 ▸ (Below.refl _ _).alloc (Nat.le_refl _) _
              have hneE62 : ∀ k, (v61 : Value).ownBlock = some k → k ≠ V61_.heap.size := fun k hk => by have := (ho61.lt k hk).2; omega
              have hZ62 := hZ61.keep hb62
              have ho62 := ho61.later hb62
              have hE62 : ByAt V62_ V61_.heap.size 26 d := boxed V61_ V62_ d _ (by rw [← hX62, unhide HCD]; rfl)
              have hS62 := thenB hS61 hb62
              refine hK _ _ ⟨hS62, ?_⟩
              clear hK K
              try simp only [List.getElem_toArray, List.getElem_cons_zero, List.getElem_cons_succ, Act.put, List.setIfInBounds_toArray, List.set_cons_zero, List.set_cons_succ]
              refine wpAnyH_all (show Region.ready .any _ _ = [9] by kernel_rfl) (by simp) fun x hx => ?_
              obtain rfl : x = 9 := by simpa using hx
              clear hx
              refine wpOp_one 9 _ rfl (by kernel_rfl) fun K hK => ?_
              obtain ⟨v63, V63_, hr63, ho63, hg63, hob63⟩ := append_one ho62 30 (V61_.heap.size) 1 d (unhide HGD) hE62 (by have := unhide HP; simp; omega) hS62.size
              have hS63 := grown_below hS62 hg63 (fun k hk => (ho62.lt k hk).1)
              have hZ63 := own_kept hZ62 hg63 hneZ61
              have hneZ63 := own_ne hob63 hneZ61 (lt_of_block hZ62)
              refine wp_append (.tmp 48) (.tmp 50) 30 rfl _ _ v63 V63_ rfl rfl hr63 ?_
              refine hK _ _ ⟨hS63, ?_⟩
              clear hK K
              try simp only [List.getElem_toArray, List.getElem_cons_zero, List.getElem_cons_succ, Act.put, List.setIfInBounds_toArray, List.set_cons_zero, List.set_cons_succ]
              refine wpAnyH_all (show Region.ready .any _ _ = [10] by kernel_rfl) (by simp) fun x hx => ?_
              obtain rfl : x = 10 := by simpa using hx
              clear hx
              refine wpOp_one 10 _ rfl (by kernel_rfl) fun K hK => ?_
              obtain ⟨Aq, cq, hvq, _, _, _⟩ := own_form ho63 (fun x hx => by
                rcases List.mem_append.1 hx with h | h
                · exact (unhide HP).2.2.1 x (by simpa using h)
                · rw [List.mem_singleton.1 h]; exact unhide HGD)
              rw [show (([] : List (List Int)) ++ p ++ [d]).length = m + 1 by have := unhide HP; simp; omega] at hvq
              subst hvq
              go_simp
              refine ((unhide HBADC) V63_ Aq cq hS63).mono ?_; rintro x V64_ ⟨rfl, hb64⟩
              dsimp only
              have hZ64 := hZ63.keep hb64
              have hS64 := thenB hS63 hb64
              refine hK _ _ ⟨hS64, ?_⟩
              clear hK K
              try simp only [List.getElem_toArray, List.getElem_cons_zero, List.getElem_cons_succ, Act.put, List.setIfInBounds_toArray, List.set_cons_zero, List.set_cons_succ]
              refine wpAnyH_take (i := 11) (v := ?_) rfl (by kernel_rfl) (by kernel_rfl) (by kernel_rfl) (fun _ _ _ h => h) (Or.inl ⟨by kernel_rfl, ?_⟩) (by assumption) ?_
              rotate_left
              · intro Wt hSt
                go_simp
                try with_reducible rfl
              try simp only [List.getElem_toArray, List.getElem_cons_zero, List.getElem_cons_succ, Act.put, List.setIfInBounds_toArray, List.set_cons_zero, List.set_cons_succ]
              refine wpAnyH_take (i := 12) (v := ?_) rfl (by kernel_rfl) (by kernel_rfl) (by kernel_rfl) (fun _ _ _ h => h) (Or.inl ⟨by kernel_rfl, ?_⟩) (by assumption) ?_
              rotate_left
              · intro Wt hSt
                go_simp
                try with_reducible rfl
              try simp only [List.getElem_toArray, List.getElem_cons_zero, List.getElem_cons_succ, Act.put, List.setIfInBounds_toArray, List.set_cons_zero, List.set_cons_succ]
              refine wpAnyH_take (i := 13) (v := ?_) rfl (by kernel_rfl) (by kernel_rfl) (by kernel_rfl) (fun _ _ _ h => h) (Or.inl ⟨by kernel_rfl, ?_⟩) (by assumption) ?_
              rotate_left
              · intro Wt hSt
                go_simp
                try with_reducible rfl
              try simp only [List.getElem_toArray, List.getElem_cons_zero, List.getElem_cons_succ, Act.put, List.setIfInBounds_toArray, List.set_cons_zero, List.set_cons_succ]
              refine wpAnyH_chainOf [15, 16] _ _ _ (by kernel_rfl) (by kernel_rfl) ?_
              simp only [List.filterMap_cons, List.filterMap_nil, List.getElem?_toArray, List.getElem?_cons_zero, List.getElem?_cons_succ]
              refine wpChain_bstore rfl 26 (.tmp 11) (.tmp 53) rfl (W.heap.size) rfl zeros (show Value.agg cz = _ by rw [unhide HCZ]) 32 info32 rfl _ zeros hZ64 rfl ?_
              intro X1 HX1 HGx1
              have hZ1 := hS64.grown (unhide HGx1) hS64.size (fun i e => by injection e with e; omega)
              refine ⟨hZ1, ?_⟩
              refine wpChain_step rfl fun K hK => ?_
              go_simp
              refine hK _ _ hZ1 (wpChain_nil ?_)
              clear hK K
              go_wp2_with fail
              go_meet
              exact ⟨rfl, thenB (unhide HW2) hZ1⟩
            · clear hx
              refine wpOp_one 8 _ rfl (by kernel_rfl) fun K hK => ?_
              go_simp
              rw [overwritten hsd (by rfl)]
              generalize hX65 : V60_.alloc _ = V65_
              have hb65 : Below V60_.heap.size V60_ V65_ := hX65 ▸ (Below.refl _ _).alloc (Nat.le_refl _) _
              have hneE65 : ∀ k, ((.slice (some ⟨V59_.heap.size, 0, none⟩) 0 0) : Value).ownBlock = some k → k ≠ V60_.heap.size := fun k hk => by have := (ho60.lt k hk).2; omega
              have hZ65 := hZ60.keep hb65
              have ho65 := ho60.later hb65
              have hE65 : ByAt V65_ V60_.heap.size 26 d := boxed V60_ V65_ d _ (by rw [← hX65, unhide HCD]; rfl)
              have hS65 := thenB hS60 hb65
              refine hK _ _ ⟨hS65, ?_⟩
              clear hK K
              try simp only [List.getElem_toArray, List.getElem_cons_zero, List.getElem_cons_succ, Act.put, List.setIfInBounds_toArray, List.set_cons_zero, List.set_cons_succ]
              refine wpAnyH_all (show Region.ready .any _ _ = [6] by kernel_rfl) (by simp) fun x hx => ?_
              obtain rfl : x = 6 := by simpa using hx
              clear hx
              refine wpOp_one 6 _ rfl (by kernel_rfl) fun K hK => ?_
              obtain ⟨v66, V66_, hr66, ho66, hg66, hob66⟩ := append_many ho65 30 Ap cp ((unhide HPW).keep hS65) (unhide HNONE) (by have := unhide HP; simp; omega) hS65.size
              rw [← (unhide HP).2.2.2.2.1] at hr66
              have hS66 := grown_below hS65 hg66 (fun k hk => (ho65.lt k hk).1)
              have hE66 := own_kept hE65 hg66 hneE65
              have hneE66 := own_ne hob66 hneE65 (lt_of_block hE65)
              have hZ66 := own_kept hZ65 hg66 hneZ60
              have hneZ66 := own_ne hob66 hneZ60 (lt_of_block hZ65)
              refine wp_append (.tmp 46) (.tmp 47) 30 rfl _ _ v66 V66_ rfl rfl hr66 ?_
              refine hK _ _ ⟨hS66, ?_⟩
              clear hK K
              try simp only [List.getElem_toArray, List.getElem_cons_zero, List.getElem_cons_succ, Act.put, List.setIfInBounds_toArray, List.set_cons_zero, List.set_cons_succ]
              refine wpAnyH_all (show Region.ready .any _ _ = [9] by kernel_rfl) (by simp) fun x hx => ?_
              obtain rfl : x = 9 := by simpa using hx
              clear hx
              refine wpOp_one 9 _ rfl (by kernel_rfl) fun K hK => ?_
              obtain ⟨v67, V67_, hr67, ho67, hg67, hob67⟩ := append_one ho66 30 (V60_.heap.size) 1 d (unhide HGD) hE66 (by have := unhide HP; simp; omega) hS66.size
              have hS67 := grown_below hS66 hg67 (fun k hk => (ho66.lt k hk).1)
              have hZ67 := own_kept hZ66 hg67 hneZ66
              have hneZ67 := own_ne hob67 hneZ66 (lt_of_block hZ66)
              refine wp_append (.tmp 48) (.tmp 50) 30 rfl _ _ v67 V67_ rfl rfl hr67 ?_
              refine hK _ _ ⟨hS67, ?_⟩
              clear hK K
              try simp only [List.getElem_toArray, List.getElem_cons_zero, List.getElem_cons_succ, Act.put, List.setIfInBounds_toArray, List.set_cons_zero, List.set_cons_succ]
              refine wpAnyH_all (show Region.ready .any _ _ = [10] by kernel_rfl) (by simp) fun x hx => ?_
              obtain rfl : x = 10 := by simpa using hx
              clear hx
              refine wpOp_one 10 _ rfl (by kernel_rfl) fun K hK => ?_
              obtain ⟨Aq, cq, hvq, _, _, _⟩ := own_form ho67 (fun x hx => by
                rcases List.mem_append.1 hx with h | h
                · exact (unhide HP).2.2.1 x (by simpa using h)
                · rw [List.mem_singleton.1 h]; exact unhide HGD)
              rw [show (([] : List (List Int)) ++ p ++ [d]).length = m + 1 by have := unhide HP; simp; omega] at hvq
              subst hvq
              go_simp
              refine ((unhide HBADC) V67_ Aq cq hS67).mono ?_; rintro x V68_ ⟨rfl, hb68⟩
              dsimp only
              have hZ68 := hZ67.keep hb68
              have hS68 := thenB hS67 hb68
              refine hK _ _ ⟨hS68, ?_⟩
              clear hK K
              try simp only [List.getElem_toArray, List.getElem_cons_zero, List.getElem_cons_succ, Act.put, List.setIfInBounds_toArray, List.set_cons_zero, List.set_cons_succ]
              refine wpAnyH_take (i := 11) (v := ?_) rfl (by kernel_rfl) (by kernel_rfl) (by kernel_rfl) (fun _ _ _ h => h) (Or.inl ⟨by kernel_rfl, ?_⟩) (by assumption) ?_
              rotate_left
              · intro Wt hSt
                go_simp
                try with_reducible rfl
              try simp only [List.getElem_toArray, List.getElem_cons_zero, List.getElem_cons_succ, Act.put, List.setIfInBounds_toArray, List.set_cons_zero, List.set_cons_succ]
              refine wpAnyH_take (i := 12) (v := ?_) rfl (by kernel_rfl) (by kernel_rfl) (by kernel_rfl) (fun _ _ _ h => h) (Or.inl ⟨by kernel_rfl, ?_⟩) (by assumption) ?_
              rotate_left
              · intro Wt hSt
                go_simp
                try with_reducible rfl
              try simp only [List.getElem_toArray, List.getElem_cons_zero, List.getElem_cons_succ, Act.put, List.setIfInBounds_toArray, List.set_cons_zero, List.set_cons_succ]
              refine wpAnyH_take (i := 13) (v := ?_) rfl (by kernel_rfl) (by kernel_rfl) (by kernel_rfl) (fun _ _ _ h => h) (Or.inl ⟨by kernel_rfl, ?_⟩) (by assumption) ?_
              rotate_left
              · intro Wt hSt
                go_simp
                try with_reducible rfl
              try simp only [List.getElem_toArray, List.getElem_cons_zero, List.getElem_cons_succ, Act.put, List.setIfInBounds_toArray, List.set_cons_zero, List.set_cons_succ]
              refine wpAnyH_chainOf [15, 16] _ _ _ (by kernel_rfl) (by kernel_rfl) ?_
              simp only [List.filterMap_cons, List.filterMap_nil, List.getElem?_toArray, List.getElem?_cons_zero, List.getElem?_cons_succ]
              refine wpChain_bstore rfl 26 (.tmp 11) (.tmp 53) rfl (W.heap.size) rfl zeros (show Value.agg cz = _ by rw [unhide HCZ]) 32 info32 rfl _ zeros hZ68 rfl ?_
              intro X1 HX1 HGx1
              have hZ1 := hS68.grown (unhide HGx1) hS68.size (fun i e => by injection e with e; omega)
              refine ⟨hZ1, ?_⟩
              refine wpChain_step rfl fun K hK => ?_
              go_simp
              refine hK _ _ hZ1 (wpChain_nil ?_)
              clear hK K
              go_wp2_with fail
              go_meet
              exact ⟨rfl, thenB (unhide HW2) hZ1⟩
          · clear hx
            refine wpOp_one 8 _ rfl (by kernel_rfl) fun K hK => ?_
            go_simp
            rw [overwritten hsd (by rfl)]
            generalize hX69 : V59_.alloc _ = V69_
            have hb69 : Below V59_.heap.size V59_ V69_ := hX69 ▸ (Below.refl _ _).alloc (Nat.le_refl _) _
            have hZ69 := hZ59.keep hb69
            have hE69 : ByAt V69_ V59_.heap.size 26 d := boxed V59_ V69_ d _ (by rw [← hX69, unhide HCD]; rfl)
            have hS69 := thenB hS59 hb69
            refine hK _ _ ⟨hS69, ?_⟩
            clear hK K
            try simp only [List.getElem_toArray, List.getElem_cons_zero, List.getElem_cons_succ, Act.put, List.setIfInBounds_toArray, List.set_cons_zero, List.set_cons_succ]
            refine wpAnyH_all (show Region.ready .any _ _ = [4] by kernel_rfl) (by simp) fun x hx => ?_
            obtain rfl : x = 4 := by simpa using hx
            clear hx
            refine wpOp_one 4 _ rfl (by kernel_rfl) fun K hK => ?_
            go_simp
            generalize hX70 : V69_.alloc _ = V70_
            have hb70 : Below V69_.heap.size V69_ V70_ := hX70 ▸ (Below.refl _ _).alloc (Nat.le_refl _) _
            have hE70 := hE69.keep hb70
            have hZ70 := hZ69.keep hb70
            have ho70 : OwnD V70_ W.heap.size (.slice (some ⟨V69_.heap.size, 0, none⟩) 0 0) [] := hX70 ▸ World.ownsRow_lit V69_ #[] 0 hS69.size (Nat.zero_le _) rfl
            have hS70 := thenB hS69 hb70
            have hneE70 : ∀ k, (Value.slice (some ⟨V69_.heap.size, 0, none⟩) 0 0).ownBlock = some k → k ≠ V59_.heap.size := fun k hk => by have := lt_of_block hE69; have e : V69_.heap.size = k := (by simpa [Value.ownBlock] using hk); omega
            have hneZ70 : ∀ k, (Value.slice (some ⟨V69_.heap.size, 0, none⟩) 0 0).ownBlock = some k → k ≠ W.heap.size := fun k hk => by have := lt_of_block hZ69; have e : V69_.heap.size = k := (by simpa [Value.ownBlock] using hk); omega
            refine hK _ _ ⟨hS70, ?_⟩
            clear hK K
            try simp only [List.getElem_toArray, List.getElem_cons_zero, List.getElem_cons_succ, Act.put, List.setIfInBounds_toArray, List.set_cons_zero, List.set_cons_succ]
            refine wpAnyH_all (show Region.ready .any _ _ = [6] by kernel_rfl) (by simp) fun x hx => ?_
            obtain rfl : x = 6 := by simpa using hx
            clear hx
            refine wpOp_one 6 _ rfl (by kernel_rfl) fun K hK => ?_
            obtain ⟨v71, V71_, hr71, ho71, hg71, hob71⟩ := append_many ho70 30 Ap cp ((unhide HPW).keep hS70) (unhide HNONE) (by have := unhide HP; simp; omega) hS70.size
            rw [← (unhide HP).2.2.2.2.1] at hr71
            have hS71 := grown_below hS70 hg71 (fun k hk => (ho70.lt k hk).1)
            have hE71 := own_kept hE70 hg71 hneE70
            have hneE71 := own_ne hob71 hneE70 (lt_of_block hE70)
            have hZ71 := own_kept hZ70 hg71 hneZ70
            have hneZ71 := own_ne hob71 hneZ70 (lt_of_block hZ70)
            refine wp_append (.tmp 46) (.tmp 47) 30 rfl _ _ v71 V71_ rfl rfl hr71 ?_
            refine hK _ _ ⟨hS71, ?_⟩
            clear hK K
            try simp only [List.getElem_toArray, List.getElem_cons_zero, List.getElem_cons_succ, Act.put, List.setIfInBounds_toArray, List.set_cons_zero, List.set_cons_succ]
            refine wpAnyH_all (show Region.ready .any _ _ = [9] by kernel_rfl) (by simp) fun x hx => ?_
            obtain rfl : x = 9 := by simpa using hx
            clear hx
            refine wpOp_one 9 _ rfl (by kernel_rfl) fun K hK => ?_
            obtain ⟨v72, V72_, hr72, ho72, hg72, hob72⟩ := append_one ho71 30 (V59_.heap.size) 1 d (unhide HGD) hE71 (by have := unhide HP; simp; omega) hS71.size
            have hS72 := grown_below hS71 hg72 (fun k hk => (ho71.lt k hk).1)
            have hZ72 := own_kept hZ71 hg72 hneZ71
            have hneZ72 := own_ne hob72 hneZ71 (lt_of_block hZ71)
            refine wp_append (.tmp 48) (.tmp 50) 30 rfl _ _ v72 V72_ rfl rfl hr72 ?_
            refine hK _ _ ⟨hS72, ?_⟩
            clear hK K
            try simp only [List.getElem_toArray, List.getElem_cons_zero, List.getElem_cons_succ, Act.put, List.setIfInBounds_toArray, List.set_cons_zero, List.set_cons_succ]
            refine wpAnyH_all (show Region.ready .any _ _ = [10] by kernel_rfl) (by simp) fun x hx => ?_
            obtain rfl : x = 10 := by simpa using hx
            clear hx
            refine wpOp_one 10 _ rfl (by kernel_rfl) fun K hK => ?_
            obtain ⟨Aq, cq, hvq, _, _, _⟩ := own_form ho72 (fun x hx => by
              rcases List.mem_append.1 hx with h | h
              · exact (unhide HP).2.2.1 x (by simpa using h)
              · rw [List.mem_singleton.1 h]; exact unhide HGD)
            rw [show (([] : List (List Int)) ++ p ++ [d]).length = m + 1 by have := unhide HP; simp; omega] at hvq
            subst hvq
            go_simp
            refine ((unhide HBADC) V72_ Aq cq hS72).mono ?_; rintro x V73_ ⟨rfl, hb73⟩
            dsimp only
            have hZ73 := hZ72.keep hb73
            have hS73 := thenB hS72 hb73
            refine hK _ _ ⟨hS73, ?_⟩
            clear hK K
            try simp only [List.getElem_toArray, List.getElem_cons_zero, List.getElem_cons_succ, Act.put, List.setIfInBounds_toArray, List.set_cons_zero, List.set_cons_succ]
            refine wpAnyH_take (i := 11) (v := ?_) rfl (by kernel_rfl) (by kernel_rfl) (by kernel_rfl) (fun _ _ _ h => h) (Or.inl ⟨by kernel_rfl, ?_⟩) (by assumption) ?_
            rotate_left
            · intro Wt hSt
              go_simp
              try with_reducible rfl
            try simp only [List.getElem_toArray, List.getElem_cons_zero, List.getElem_cons_succ, Act.put, List.setIfInBounds_toArray, List.set_cons_zero, List.set_cons_succ]
            refine wpAnyH_take (i := 12) (v := ?_) rfl (by kernel_rfl) (by kernel_rfl) (by kernel_rfl) (fun _ _ _ h => h) (Or.inl ⟨by kernel_rfl, ?_⟩) (by assumption) ?_
            rotate_left
            · intro Wt hSt
              go_simp
              try with_reducible rfl
            try simp only [List.getElem_toArray, List.getElem_cons_zero, List.getElem_cons_succ, Act.put, List.setIfInBounds_toArray, List.set_cons_zero, List.set_cons_succ]
            refine wpAnyH_take (i := 13) (v := ?_) rfl (by kernel_rfl) (by kernel_rfl) (by kernel_rfl) (fun _ _ _ h => h) (Or.inl ⟨by kernel_rfl, ?_⟩) (by assumption) ?_
            rotate_left
            · intro Wt hSt
              go_simp
              try with_reducible rfl
            try simp only [List.getElem_toArray, List.getElem_cons_zero, List.getElem_cons_succ, Act.put, List.setIfInBounds_toArray, List.set_cons_zero, List.set_cons_succ]
            refine wpAnyH_chainOf [15, 16] _ _ _ (by kernel_rfl) (by kernel_rfl) ?_
            simp only [List.filterMap_cons, List.filterMap_nil, List.getElem?_toArray, List.getElem?_cons_zero, List.getElem?_cons_succ]
            refine wpChain_bstore rfl 26 (.tmp 11) (.tmp 53) rfl (W.heap.size) rfl zeros (show Value.agg cz = _ by rw [unhide HCZ]) 32 info32 rfl _ zeros hZ73 rfl ?_
            intro X1 HX1 HGx1
            have hZ1 := hS73.grown (unhide HGx1) hS73.size (fun i e => by injection e with e; omega)
            refine ⟨hZ1, ?_⟩
            refine wpChain_step rfl fun K hK => ?_
            go_simp
            refine hK _ _ hZ1 (wpChain_nil ?_)
            clear hK K
            go_wp2_with fail
            go_meet
            exact ⟨rfl, thenB (unhide HW2) hZ1⟩
      case rest =>
        obtain ⟨rfl, hbw⟩ := hcut
        have HB12 := hide (thenB (unhide HB11) hbw)
        have HX9 := hide ((unhide HV6).keep hbw)
        have HX4 := hide ((unhide HW5).keep (unhide HB12))
        clear hbw HB11 HN11 HDP11 HV6
        go_upto_region 11 with fail
        refine wp_region_lit ?_
        refine wpList_wanted (by kernel_rfl) fun Kt hKt => ?_
        go_simp
        refine hKt _ _ ?_
        clear hKt Kt
        refine wpList_wanted (by kernel_rfl) fun Kt hKt => ?_
        go_simp
        refine hKt _ _ ?_
        clear hKt Kt
        refine wpList_wanted (by kernel_rfl) fun Kt hKt => ?_
        go_simp
        refine hKt _ _ ?_
        clear hKt Kt
        refine wpList_wanted (by kernel_rfl) fun Kt hKt => ?_
        go_simp
        refine hKt _ _ ?_
        clear hKt Kt
        refine wpList_wanted (by kernel_rfl) fun Kt hKt => ?_
        go_simp
        refine hKt _ _ ?_
        clear hKt Kt
        refine wpList_wanted (by kernel_rfl) fun Kt hKt => ?_
        go_simp
        refine hKt _ _ ?_
        clear hKt Kt
        refine wpList_wanted (by kernel_rfl) fun Kt hKt => ?_
        go_simp
        refine hKt _ _ ?_
        clear hKt Kt
        refine wpList_gload (by kernel_rfl) 26 (.tmp 9) rfl N9 rfl _ Tryd.underlying26 rfl 32 info32 _ T (unhide HX9) (unhide HGT).len ?_
        refine wpList_gload (by kernel_rfl) 26 (.tmp 4) rfl N4 rfl _ Tryd.underlying26 rfl 32 info32 _ T (unhide HX4) (unhide HGT).len ?_
        refine wpList_neq (by kernel_rfl) (.tmp 62) (.tmp 63) _ rfl T T rfl rfl (unhide HGT).len (unhide HGT).len ?_
        rw [show (!decide (T = T)) = false by rw [decide_eq_true rfl]; rfl, show dv T = .agg ct by rw [unhide HCT]]
        try simp only [List.getElem_toArray, List.getElem_cons_zero, List.getElem_cons_succ, Act.put, List.setIfInBounds_toArray, List.set_cons_zero, List.set_cons_succ]
        go_wp2_with fail
        go_roundg g
        case measure => omega
        case rel => exact ⟨k + 1, rfl, by have := unhide HKN; omega, unhide HB12⟩
    · have i1 : ¬ (k : Int) < (n : Int) := by omega
      clear hkg hkn hbel
      go_wp2_with fail
      go_ret
      exact ⟨rfl, thenB (unhide HBW5) (unhide HBE)⟩
end Go.Proofs.YtbccempafjpcdaaDoor
