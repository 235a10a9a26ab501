/- The law DigestHalves: the digest of a list is that of the node of its halves. -/
import Derived.Test.YtbccempafjpcdaaDoorDigHlf
import Derived.Test.YtbccempafjpcdaaDoorDigTwo
import Derived.Test.YtbccempafjpcdaaDoorDigTag
import Derived.Test.YtbccempafjpcdaaDoorClose
import Derived.Deep.DeepCutAuto
namespace Go.Proofs.YtbccempafjpcdaaDoor
set_option linter.unusedSimpArgs false
set_option linter.unusedVariables false
open Go.RowKit Go.LawClose

set_option maxRecDepth 100000 in
set_option maxHeartbeats 1000000 in
theorem halves_2 (A : Option Addr) (c : Nat) (l : List Int) (w : World) (hA : Bt w A l) (hc : l.length ≤ c) (h63 : l.length ≤ 140737488351232) (hT : DTab w) (hcase : 2 ≤ (dsP l).length) :
    Calls Tryd.prog 9 #[.slice A l.length c] w (LawOk w) := by
  have HT := hide hT
  have HA := hide hA
  have HC : Hid (l.length ≤ c ∧ l.length ≤ 140737488351232) := ⟨hc, h63⟩
  have HCASE := hide hcase
  clear hT hA hc h63 hcase
  go_enter Tryd.func9, Tryd.ntmps9
  go_wp2_with fail
  refine (sane_any w (unhide HT)).mono ?_; rintro x W1 ⟨rfl, hB1⟩
  have HB1 := hide hB1
  clear hB1
  go_wp2_with fail
  refine (of_any A c l W1 ((unhide HA).keep (unhide HB1)) (unhide HC).1 (unhide HC).2).mono ?_; rintro x W2 ⟨⟨v, rfl, hown⟩, hB2⟩
  obtain ⟨AL, cL, rfl, hcL, hds⟩ := hown.ds (dg_dsP l)
  have h24 : (dsP l).length ≤ 24 := by rw [dsP_length]; exact Nat.min_le_right _ _
  obtain ⟨L, hL⟩ : ∃ L, L = dsP l := ⟨_, rfl⟩
  rw [← hL] at hds hcL h24 ⊢
  obtain ⟨n, hn⟩ : ∃ n, n = L.length := ⟨_, rfl⟩
  rw [← hn]
  have HB2 := hide (thenB (unhide HB1) hB2)
  have HDS := hide hds
  have HN : Hid (n = L.length ∧ n ≤ cL ∧ n ≤ 24) := ⟨hn, by omega, by omega⟩
  have HTT := hide ((unhide HT).keep (unhide HB2))
  have HL := hide hL
  clear hown hL hcL hds h24 hB2 HB1 HA HC hn
  have hTree : Hid (∀ (A : Option Addr) (c : Nat) (p : List (List Int)) (W : World), Ds W2 A p → p.length ≤ c → p.length ≤ 24 → Below W2.heap.size W2 W → Calls Tryd.prog 16 #[.slice A p.length c] W fun x w' => x = .returned (dv (treeD p)) ∧ Below W.heap.size W w') := fun A c p W h1 h2 h3 h4 => Tree_any W c A p (h1.keep h4) h2 (by omega) ((unhide HTT).keep h4)
  have hn2 : 2 ≤ n := by have h1 := unhide HL; have h2 := unhide HN; rw [h2.1, h1]; exact unhide HCASE
  have n0 : ¬ (n : Int) = 0 := by omega
  have n1 : ¬ (n : Int) = 1 := by omega
  have HN2 : Hid (2 ≤ n) := by show 2 ≤ n; omega
  clear hn2
  go_wp2_with fail
  go_loopg [4] n (fun g y4 wx => ∃ j : Nat, y4 = .int .i64 ((2 ^ j : Nat) : Int) ∧ 2 ^ j < n ∧ n < g + 2 ^ j + 1 ∧ wx = W2)
  case atStart => exact ⟨0, rfl, by have := unhide HN2; omega, by omega, rfl⟩
  case round =>
    obtain ⟨j, rfl, hjn, hjg, rfl⟩ := hrel
    obtain ⟨k, hk⟩ : ∃ k, k = 2 ^ j := ⟨_, rfl⟩
    rw [← hk] at hjn hjg ⊢
    have hk0 : 0 < k := hk ▸ Nat.pow_pos (by omega)
    obtain ⟨k2, hk2⟩ : ∃ k2, k2 = 2 * k := ⟨_, rfl⟩
    have w2k : IntKind.i64.wrap (2 * (k : Int)) = (k2 : Int) := (IntWalk.i64_in _ (by have := unhide HN; omega)).trans (by omega)
    have w2k' : IntKind.i64.wrap ((k : Int) * 2) = (k2 : Int) := (IntWalk.i64_in _ (by have := unhide HN; omega)).trans (by omega)
    by_cases h2k : k2 < n
    · have i1 : (k2 : Int) < (n : Int) := by omega
      obtain ⟨g, rfl⟩ : ∃ g, gk = g + 1 := ⟨gk - 1, by omega⟩
      have HK : Hid (k2 = 2 * k ∧ k = 2 ^ j ∧ 0 < k ∧ k2 < n ∧ n < g + 1 + k + 1) := ⟨hk2, hk, hk0, h2k, hjg⟩
      clear hjn hjg hk0 hk hk2 h2k
      go_wp2_with fail
      go_roundg g
      case measure => omega
      case rel => have := unhide HK; exact ⟨j + 1, by rw [Nat.pow_succ, ← this.2.1, Nat.mul_comm, ← this.1], by rw [Nat.pow_succ, ← this.2.1]; omega, by rw [Nat.pow_succ, ← this.2.1]; omega, rfl⟩
    · have i1 : ¬ (k2 : Int) < (n : Int) := by omega
      have hhalf : halfN n = k := by rw [hk]; exact half_pow (hk ▸ hjn) (by omega)
      have HK : Hid (halfN n = k ∧ 0 < k ∧ k < n) := ⟨hhalf, hk0, hjn⟩
      clear hjg hhalf hk0 hk hk2 h2k hjn
      have hK := unhide HK
      have hN := unhide HN
      have hne : L ≠ [] := fun e => by rw [e] at hN; simp at hN; omega
      obtain ⟨sb', so, rfl, hrg⟩ := (unhide HDS).at_ hne
      obtain ⟨T1, hT1⟩ : ∃ d, d = treeP (L.take k) := ⟨_, rfl⟩
      obtain ⟨T2, hT2⟩ : ∃ d, d = treeP (L.drop k) := ⟨_, rfl⟩
      have hg1 : Dg T1 := hT1 ▸ dg_tree _
      have hg2 : Dg T2 := hT2 ▸ dg_tree _
      obtain ⟨c1, hc1⟩ : ∃ cs, cs = (T1.map (Value.int .u8)).toArray := ⟨_, rfl⟩
      obtain ⟨c2, hc2⟩ : ∃ cs, cs = (T2.map (Value.int .u8)).toArray := ⟨_, rfl⟩
      have hs1 : c1.size = 32 := by rw [hc1]; simpa using hg1.len
      have hs2 : c2.size = 32 := by rw [hc2]; simpa using hg2.len
      have hlt : (L.take k).length = k := by simp; omega
      have hld : (L.drop k).length = n - k := by simp; omega
      have htk : treeD (L.take k) = T1 := by rw [hT1, treeD, if_neg (fun e => by rw [e] at hlt; simp at hlt; omega)]
      have htd : treeD (L.drop k) = T2 := by rw [hT2, treeD, if_neg (fun e => by rw [e] at hld; simp at hld; omega)]
      have htl : treeD L = nodeP T1 T2 := by rw [treeD, if_neg hne, treeP_more L (by omega), ← hN.1, hK.1, ← hT1, ← hT2]
      have HF1 : Hid (∀ W, Below wr.heap.size wr W → Calls Tryd.prog 16 #[.slice (some ⟨sb', so, none⟩) k cL] W fun x w' => x = .returned (.agg c1) ∧ Below W.heap.size W w') := fun W hB => by
        have := (unhide hTree) (some ⟨sb', so, none⟩) cL (L.take k) W ((unhide HDS).take k) (by omega) (by omega) hB
        rw [hlt, htk] at this
        refine this.mono ?_
        rintro x w' ⟨rfl, h'⟩
        exact ⟨by rw [hc1], h'⟩
      have HF2 : Hid (∀ W, Below wr.heap.size wr W → Calls Tryd.prog 16 #[.slice (some ⟨sb', so + k * 32, none⟩) (n - k) (cL - k)] W fun x w' => x = .returned (.agg c2) ∧ Below W.heap.size W w') := fun W hB => by
        have := (unhide hTree) (some ⟨sb', so + k * 32, none⟩) (cL - k) (L.drop k) W ((unhide HDS).drop k) (by omega) (by omega) hB
        rw [hld, htd] at this
        refine this.mono ?_
        rintro x w' ⟨rfl, h'⟩
        exact ⟨by rw [hc2], h'⟩
      obtain ⟨T3, hT3⟩ : ∃ d, d = nodeP T1 T2 := ⟨_, rfl⟩
      have hg3 : Dg T3 := hT3 ▸ dg_hash _
      obtain ⟨c3, hc3⟩ : ∃ cs, cs = (T3.map (Value.int .u8)).toArray := ⟨_, rfl⟩
      have hs3 : c3.size = 32 := by rw [hc3]; simpa using hg3.len
      have HF3 : Hid (∀ W, Below wr.heap.size wr W → Calls Tryd.prog 16 #[.slice (some ⟨sb', so, none⟩) n cL] W fun x w' => x = .returned (.agg c3) ∧ Below W.heap.size W w') := fun W hB => by
        have := (unhide hTree) (some ⟨sb', so, none⟩) cL L W (unhide HDS) (by omega) (by omega) hB
        rw [← hN.1, htl] at this
        refine this.mono ?_
        rintro x w' ⟨rfl, h'⟩
        exact ⟨by rw [hc3, hT3], h'⟩
      have HG1 := hide hg1; have HG2 := hide hg2; have HG3 := hide hg3
      have HC1 := hide hc1; have HC2 := hide hc2; have HC3 := hide hc3; have HT3 := hide hT3
      have k0 : (0 : Int) ≤ (k : Int) := Int.natCast_nonneg _
      have k1 : (k : Int) ≤ (n : Int) := by omega
      have k2' : (k : Int) ≤ (cL : Int) := by omega
      have k3 : ¬ (cL = k) := by omega
      clear hK hN hne hrg hT1 hT2 hg1 hg2 hc1 hc2 hlt hld htk htd htl hT3 hg3 hc3 HTT hTree HDS
      go_wp2_with fail
      go_cut [5, 6] (fun y5 y6 wx => ∃ N1 N2 : Nat, y5 = .pointer (some ⟨N1, 0, none⟩) ∧ y6 = .pointer (some ⟨N2, 0, none⟩) ∧ ByAt wx N1 26 T1 ∧ ByAt wx N2 26 T2 ∧ Below wr.heap.size wr wx)
      case first =>
        obtain ⟨W, hW⟩ : ∃ W, W = wr.drewN 1 := ⟨_, rfl⟩
        have HW : Hid (W = wr.drewN 1) := hW
        have HW2 := hide (below_named HW)
        have hSW : Below W.heap.size W W := Below.refl _ _
        clear hW
        refine held (S := Below W.heap.size W) W HW (by kernel_rfl) ?_
        refine wpAnyH_take (i := 0) (v := ?_) rfl (by kernel_rfl) (by kernel_rfl) (by kernel_rfl) (fun _ _ _ h => h) (Or.inl ⟨by kernel_rfl, ?_⟩) (by assumption) ?_
        rotate_left
        · intro Wt hSt
          go_simp
          try with_reducible rfl
        try simp only [List.getElem_toArray, List.getElem_cons_zero, List.getElem_cons_succ, Act.put, List.setIfInBounds_toArray, List.set_cons_zero, List.set_cons_succ]
        refine wpAnyH_take (i := 1) (v := ?_) rfl (by kernel_rfl) (by kernel_rfl) (by kernel_rfl) (fun _ _ _ h => h) (Or.inl ⟨by kernel_rfl, ?_⟩) (by assumption) ?_
        rotate_left
        · intro Wt hSt
          go_simp
          try with_reducible rfl
        try simp only [List.getElem_toArray, List.getElem_cons_zero, List.getElem_cons_succ, Act.put, List.setIfInBounds_toArray, List.set_cons_zero, List.set_cons_succ]
        refine wpAnyH_take (i := 2) (v := ?_) rfl (by kernel_rfl) (by kernel_rfl) (by kernel_rfl) (fun _ _ _ h => h) (Or.inl ⟨by kernel_rfl, ?_⟩) (by assumption) ?_
        rotate_left
        · intro Wt hSt
          go_simp
          try with_reducible rfl
        try simp only [List.getElem_toArray, List.getElem_cons_zero, List.getElem_cons_succ, Act.put, List.setIfInBounds_toArray, List.set_cons_zero, List.set_cons_succ]
        refine wpAnyH_take (i := 4) (v := ?_) rfl (by kernel_rfl) (by kernel_rfl) (by kernel_rfl) (fun _ _ _ h => h) (Or.inl ⟨by kernel_rfl, ?_⟩) (by assumption) ?_
        rotate_left
        · intro Wt hSt
          go_simp
          try with_reducible rfl
        try simp only [List.getElem_toArray, List.getElem_cons_zero, List.getElem_cons_succ, Act.put, List.setIfInBounds_toArray, List.set_cons_zero, List.set_cons_succ]
        refine wpAnyH_take (i := 5) (v := ?_) rfl (by kernel_rfl) (by kernel_rfl) (by kernel_rfl) (fun _ _ _ h => h) (Or.inl ⟨by kernel_rfl, ?_⟩) (by assumption) ?_
        rotate_left
        · intro Wt hSt
          go_simp
          try with_reducible rfl
        try simp only [List.getElem_toArray, List.getElem_cons_zero, List.getElem_cons_succ, Act.put, List.setIfInBounds_toArray, List.set_cons_zero, List.set_cons_succ]
        refine wpAnyH_take (i := 6) (v := ?_) rfl (by kernel_rfl) (by kernel_rfl) (by kernel_rfl) (fun _ _ _ h => h) (Or.inl ⟨by kernel_rfl, ?_⟩) (by assumption) ?_
        rotate_left
        · intro Wt hSt
          go_simp
          try with_reducible rfl
        try simp only [List.getElem_toArray, List.getElem_cons_zero, List.getElem_cons_succ, Act.put, List.setIfInBounds_toArray, List.set_cons_zero, List.set_cons_succ]
        refine wpAnyH_all (show Region.ready .any _ _ = [3, 8, 9] by kernel_rfl) (by simp) fun x hx => ?_
        rcases (by simpa using hx : x = 3 ∨ x = 8 ∨ x = 9) with rfl | rfl | rfl
        · clear hx
          refine wpOp_one 3 _ rfl (by kernel_rfl) fun K hK => ?_
          go_simp
          refine ((unhide HF1) W (thenB (unhide HW2) hSW)).mono ?_; rintro x V1 ⟨rfl, hb1⟩
          dsimp only
          have hS1 := thenB hSW hb1
          refine hK _ _ ⟨hS1, ?_⟩
          clear hK K
          try simp only [List.getElem_toArray, List.getElem_cons_zero, List.getElem_cons_succ, Act.put, List.setIfInBounds_toArray, List.set_cons_zero, List.set_cons_succ]
          refine wpAnyH_all (show Region.ready .any _ _ = [7, 8, 9] by kernel_rfl) (by simp) fun x hx => ?_
          rcases (by simpa using hx : x = 7 ∨ x = 8 ∨ x = 9) with rfl | rfl | rfl
          · clear hx
            refine wpOp_one 7 _ rfl (by kernel_rfl) fun K hK => ?_
            go_simp
            refine ((unhide HF2) V1 (thenB (unhide HW2) hS1)).mono ?_; rintro x V2 ⟨rfl, hb2⟩
            dsimp only
            have hS2 := thenB hS1 hb2
            refine hK _ _ ⟨hS2, ?_⟩
            clear hK K
            try simp only [List.getElem_toArray, List.getElem_cons_zero, List.getElem_cons_succ, Act.put, List.setIfInBounds_toArray, List.set_cons_zero, List.set_cons_succ]
            refine wpAnyH_all (show Region.ready .any _ _ = [8, 9] by kernel_rfl) (by simp) fun x hx => ?_
            rcases (by simpa using hx : x = 8 ∨ x = 9) with rfl | rfl
            · clear hx
              refine wpOp_one 8 _ rfl (by kernel_rfl) fun K hK => ?_
              go_simp
              generalize hX3 : V2.alloc _ = V3
              have hb3 : Below V2.heap.size V2 V3 := hX3 ▸ (Below.refl _ _).alloc (Nat.le_refl _) _
              have ho8_3 := newBy V2 V3 (by rw [← hX3]; rfl)
              have hle8 : W.heap.size ≤ V2.heap.size := hS2.size
              have hS3 := thenB hS2 hb3
              refine hK _ _ ⟨hS3, ?_⟩
              clear hK K
              try simp only [List.getElem_toArray, List.getElem_cons_zero, List.getElem_cons_succ, Act.put, List.setIfInBounds_toArray, List.set_cons_zero, List.set_cons_succ]
              refine wpAnyH_all (show Region.ready .any _ _ = [9] by kernel_rfl) (by simp) fun x hx => ?_
              obtain rfl : x = 9 := by simpa using hx
              clear hx
              refine wpOp_one 9 _ rfl (by kernel_rfl) fun K hK => ?_
              go_simp
              generalize hX4 : V3.alloc _ = V4
              have hb4 : Below V3.heap.size V3 V4 := hX4 ▸ (Below.refl _ _).alloc (Nat.le_refl _) _
              have ho8_4 := ho8_3.keep hb4
              have ho9_4 := newBy V3 V4 (by rw [← hX4]; rfl)
              have hle9 : W.heap.size ≤ V3.heap.size := hS3.size
              have hne : V2.heap.size < V3.heap.size := lt_of_block ho8_3
              have hS4 := thenB hS3 hb4
              refine hK _ _ ⟨hS4, ?_⟩
              clear hK K
              try simp only [List.getElem_toArray, List.getElem_cons_zero, List.getElem_cons_succ, Act.put, List.setIfInBounds_toArray, List.set_cons_zero, List.set_cons_succ]
              refine wpAnyH_chainOf [10, 11] _ _ _ (by kernel_rfl) (by kernel_rfl) ?_
              simp only [List.filterMap_cons, List.filterMap_nil, List.getElem?_toArray, List.getElem?_cons_zero, List.getElem?_cons_succ]
              refine wpChain_bstore rfl 26 (.tmp 5) (.tmp 38) rfl (V2.heap.size) rfl T1 (show Value.agg c1 = _ by rw [unhide HC1]) 32 info32 (unhide HG1).len _ zeros ho8_4 rfl ?_
              intro X1 HX1 HGx1
              have hY2 := ho9_4.grown (unhide HGx1) (by omega)
              have hZ1 := hS4.grown (unhide HGx1) hS4.size (fun i e => by injection e with e; omega)
              refine ⟨hZ1, ?_⟩
              refine wpChain_bstore rfl 26 (.tmp 6) (.tmp 42) rfl (V3.heap.size) rfl T2 (show Value.agg c2 = _ by rw [unhide HC2]) 32 info32 (unhide HG2).len _ zeros hY2 rfl ?_
              intro X2 HX2 HGx2
              have hY1 := (unhide HX1).grown (unhide HGx2) (by omega)
              have hZ2 := hZ1.grown (unhide HGx2) hZ1.size (fun i e => by injection e with e; omega)
              refine ⟨hZ2, wpChain_nil ?_⟩
              go_wp2_with fail
              go_meet
              exact ⟨_, _, rfl, rfl, hY1, unhide HX2, thenB (unhide HW2) hZ2⟩
            · clear hx
              refine wpOp_one 9 _ rfl (by kernel_rfl) fun K hK => ?_
              go_simp
              generalize hX5 : V2.alloc _ = V5
              have hb5 : Below V2.heap.size V2 V5 := hX5 ▸ (Below.refl _ _).alloc (Nat.le_refl _) _
              have ho9_5 := newBy V2 V5 (by rw [← hX5]; rfl)
              have hle9 : W.heap.size ≤ V2.heap.size := hS2.size
              have hS5 := thenB hS2 hb5
              refine hK _ _ ⟨hS5, ?_⟩
              clear hK K
              try simp only [List.getElem_toArray, List.getElem_cons_zero, List.getElem_cons_succ, Act.put, List.setIfInBounds_toArray, List.set_cons_zero, List.set_cons_succ]
              refine wpAnyH_all (show Region.ready .any _ _ = [8] by kernel_rfl) (by simp) fun x hx => ?_
              obtain rfl : x = 8 := by simpa using hx
              clear hx
              refine wpOp_one 8 _ rfl (by kernel_rfl) fun K hK => ?_
              go_simp
              generalize hX6 : V5.alloc _ = V6
              have hb6 : Below V5.heap.size V5 V6 := hX6 ▸ (Below.refl _ _).alloc (Nat.le_refl _) _
              have ho9_6 := ho9_5.keep hb6
              have ho8_6 := newBy V5 V6 (by rw [← hX6]; rfl)
              have hle8 : W.heap.size ≤ V5.heap.size := hS5.size
              have hne : V2.heap.size < V5.heap.size := lt_of_block ho9_5
              have hS6 := thenB hS5 hb6
              refine hK _ _ ⟨hS6, ?_⟩
              clear hK K
              try simp only [List.getElem_toArray, List.getElem_cons_zero, List.getElem_cons_succ, Act.put, List.setIfInBounds_toArray, List.set_cons_zero, List.set_cons_succ]
              refine wpAnyH_chainOf [10, 11] _ _ _ (by kernel_rfl) (by kernel_rfl) ?_
              simp only [List.filterMap_cons, List.filterMap_nil, List.getElem?_toArray, List.getElem?_cons_zero, List.getElem?_cons_succ]
              refine wpChain_bstore rfl 26 (.tmp 5) (.tmp 38) rfl (V5.heap.size) rfl T1 (show Value.agg c1 = _ by rw [unhide HC1]) 32 info32 (unhide HG1).len _ zeros ho8_6 rfl ?_
              intro X1 HX1 HGx1
              have hY2 := ho9_6.grown (unhide HGx1) (by omega)
              have hZ1 := hS6.grown (unhide HGx1) hS6.size (fun i e => by injection e with e; omega)
              refine ⟨hZ1, ?_⟩
              refine wpChain_bstore rfl 26 (.tmp 6) (.tmp 42) rfl (V2.heap.size) rfl T2 (show Value.agg c2 = _ by rw [unhide HC2]) 32 info32 (unhide HG2).len _ zeros hY2 rfl ?_
              intro X2 HX2 HGx2
              have hY1 := (unhide HX1).grown (unhide HGx2) (by omega)
              have hZ2 := hZ1.grown (unhide HGx2) hZ1.size (fun i e => by injection e with e; omega)
              refine ⟨hZ2, wpChain_nil ?_⟩
              go_wp2_with fail
              go_meet
              exact ⟨_, _, rfl, rfl, hY1, unhide HX2, thenB (unhide HW2) hZ2⟩
          · clear hx
            refine wpOp_one 8 _ rfl (by kernel_rfl) fun K hK => ?_
            go_simp
            generalize hX7 : V1.alloc _ = V7
            have hb7 : Below V1.heap.size V1 V7 := hX7 ▸ (Below.refl _ _).alloc (Nat.le_refl _) _
            have ho8_7 := newBy V1 V7 (by rw [← hX7]; rfl)
            have hle8 : W.heap.size ≤ V1.heap.size := hS1.size
            have hS7 := thenB hS1 hb7
            refine hK _ _ ⟨hS7, ?_⟩
            clear hK K
            try simp only [List.getElem_toArray, List.getElem_cons_zero, List.getElem_cons_succ, Act.put, List.setIfInBounds_toArray, List.set_cons_zero, List.set_cons_succ]
            refine wpAnyH_all (show Region.ready .any _ _ = [7, 9] by kernel_rfl) (by simp) fun x hx => ?_
            rcases (by simpa using hx : x = 7 ∨ x = 9) with rfl | rfl
            · clear hx
              refine wpOp_one 7 _ rfl (by kernel_rfl) fun K hK => ?_
              go_simp
              refine ((unhide HF2) V7 (thenB (unhide HW2) hS7)).mono ?_; rintro x V8 ⟨rfl, hb8⟩
              dsimp only
              have ho8_8 := ho8_7.keep hb8
              have hS8 := thenB hS7 hb8
              refine hK _ _ ⟨hS8, ?_⟩
              clear hK K
              try simp only [List.getElem_toArray, List.getElem_cons_zero, List.getElem_cons_succ, Act.put, List.setIfInBounds_toArray, List.set_cons_zero, List.set_cons_succ]
              refine wpAnyH_all (show Region.ready .any _ _ = [9] by kernel_rfl) (by simp) fun x hx => ?_
              obtain rfl : x = 9 := by simpa using hx
              clear hx
              refine wpOp_one 9 _ rfl (by kernel_rfl) fun K hK => ?_
              go_simp
              generalize hX9 : V8.alloc _ = V9
              have hb9 : Below V8.heap.size V8 V9 := hX9 ▸ (Below.refl _ _).alloc (Nat.le_refl _) _
              have ho8_9 := ho8_8.keep hb9
              have ho9_9 := newBy V8 V9 (by rw [← hX9]; rfl)
              have hle9 : W.heap.size ≤ V8.heap.size := hS8.size
              have hne : V1.heap.size < V8.heap.size := lt_of_block ho8_8
              have hS9 := thenB hS8 hb9
              refine hK _ _ ⟨hS9, ?_⟩
              clear hK K
              try simp only [List.getElem_toArray, List.getElem_cons_zero, List.getElem_cons_succ, Act.put, List.setIfInBounds_toArray, List.set_cons_zero, List.set_cons_succ]
              refine wpAnyH_chainOf [10, 11] _ _ _ (by kernel_rfl) (by kernel_rfl) ?_
              simp only [List.filterMap_cons, List.filterMap_nil, List.getElem?_toArray, List.getElem?_cons_zero, List.getElem?_cons_succ]
              refine wpChain_bstore rfl 26 (.tmp 5) (.tmp 38) rfl (V1.heap.size) rfl T1 (show Value.agg c1 = _ by rw [unhide HC1]) 32 info32 (unhide HG1).len _ zeros ho8_9 rfl ?_
              intro X1 HX1 HGx1
              have hY2 := ho9_9.grown (unhide HGx1) (by omega)
              have hZ1 := hS9.grown (unhide HGx1) hS9.size (fun i e => by injection e with e; omega)
              refine ⟨hZ1, ?_⟩
              refine wpChain_bstore rfl 26 (.tmp 6) (.tmp 42) rfl (V8.heap.size) rfl T2 (show Value.agg c2 = _ by rw [unhide HC2]) 32 info32 (unhide HG2).len _ zeros hY2 rfl ?_
              intro X2 HX2 HGx2
              have hY1 := (unhide HX1).grown (unhide HGx2) (by omega)
              have hZ2 := hZ1.grown (unhide HGx2) hZ1.size (fun i e => by injection e with e; omega)
              refine ⟨hZ2, wpChain_nil ?_⟩
              go_wp2_with fail
              go_meet
              exact ⟨_, _, rfl, rfl, hY1, unhide HX2, thenB (unhide HW2) hZ2⟩
            · clear hx
              refine wpOp_one 9 _ rfl (by kernel_rfl) fun K hK => ?_
              go_simp
              generalize hX10 : V7.alloc _ = V10
              have hb10 : Below V7.heap.size V7 V10 := hX10 ▸ (Below.refl _ _).alloc (Nat.le_refl _) _
              have ho8_10 := ho8_7.keep hb10
              have ho9_10 := newBy V7 V10 (by rw [← hX10]; rfl)
              have hle9 : W.heap.size ≤ V7.heap.size := hS7.size
              have hne : V1.heap.size < V7.heap.size := lt_of_block ho8_7
              have hS10 := thenB hS7 hb10
              refine hK _ _ ⟨hS10, ?_⟩
              clear hK K
              try simp only [List.getElem_toArray, List.getElem_cons_zero, List.getElem_cons_succ, Act.put, List.setIfInBounds_toArray, List.set_cons_zero, List.set_cons_succ]
              refine wpAnyH_all (show Region.ready .any _ _ = [7] by kernel_rfl) (by simp) fun x hx => ?_
              obtain rfl : x = 7 := by simpa using hx
              clear hx
              refine wpOp_one 7 _ rfl (by kernel_rfl) fun K hK => ?_
              go_simp
              refine ((unhide HF2) V10 (thenB (unhide HW2) hS10)).mono ?_; rintro x V11 ⟨rfl, hb11⟩
              dsimp only
              have ho8_11 := ho8_10.keep hb11
              have ho9_11 := ho9_10.keep hb11
              have hS11 := thenB hS10 hb11
              refine hK _ _ ⟨hS11, ?_⟩
              clear hK K
              try simp only [List.getElem_toArray, List.getElem_cons_zero, List.getElem_cons_succ, Act.put, List.setIfInBounds_toArray, List.set_cons_zero, List.set_cons_succ]
              refine wpAnyH_chainOf [10, 11] _ _ _ (by kernel_rfl) (by kernel_rfl) ?_
              simp only [List.filterMap_cons, List.filterMap_nil, List.getElem?_toArray, List.getElem?_cons_zero, List.getElem?_cons_succ]
              refine wpChain_bstore rfl 26 (.tmp 5) (.tmp 38) rfl (V1.heap.size) rfl T1 (show Value.agg c1 = _ by rw [unhide HC1]) 32 info32 (unhide HG1).len _ zeros ho8_11 rfl ?_
              intro X1 HX1 HGx1
              have hY2 := ho9_11.grown (unhide HGx1) (by omega)
              have hZ1 := hS11.grown (unhide HGx1) hS11.size (fun i e => by injection e with e; omega)
              refine ⟨hZ1, ?_⟩
              refine wpChain_bstore rfl 26 (.tmp 6) (.tmp 42) rfl (V7.heap.size) rfl T2 (show Value.agg c2 = _ by rw [unhide HC2]) 32 info32 (unhide HG2).len _ zeros hY2 rfl ?_
              intro X2 HX2 HGx2
              have hY1 := (unhide HX1).grown (unhide HGx2) (by omega)
              have hZ2 := hZ1.grown (unhide HGx2) hZ1.size (fun i e => by injection e with e; omega)
              refine ⟨hZ2, wpChain_nil ?_⟩
              go_wp2_with fail
              go_meet
              exact ⟨_, _, rfl, rfl, hY1, unhide HX2, thenB (unhide HW2) hZ2⟩
          · clear hx
            refine wpOp_one 9 _ rfl (by kernel_rfl) fun K hK => ?_
            go_simp
            generalize hX12 : V1.alloc _ = V12
            have hb12 : Below V1.heap.size V1 V12 := hX12 ▸ (Below.refl _ _).alloc (Nat.le_refl _) _
            have ho9_12 := newBy V1 V12 (by rw [← hX12]; rfl)
            have hle9 : W.heap.size ≤ V1.heap.size := hS1.size
            have hS12 := thenB hS1 hb12
            refine hK _ _ ⟨hS12, ?_⟩
            clear hK K
            try simp only [List.getElem_toArray, List.getElem_cons_zero, List.getElem_cons_succ, Act.put, List.setIfInBounds_toArray, List.set_cons_zero, List.set_cons_succ]
            refine wpAnyH_all (show Region.ready .any _ _ = [7, 8] by kernel_rfl) (by simp) fun x hx => ?_
            rcases (by simpa using hx : x = 7 ∨ x = 8) with rfl | rfl
            · clear hx
              refine wpOp_one 7 _ rfl (by kernel_rfl) fun K hK => ?_
              go_simp
              refine ((unhide HF2) V12 (thenB (unhide HW2) hS12)).mono ?_; rintro x V13 ⟨rfl, hb13⟩
              dsimp only
              have ho9_13 := ho9_12.keep hb13
              have hS13 := thenB hS12 hb13
              refine hK _ _ ⟨hS13, ?_⟩
              clear hK K
              try simp only [List.getElem_toArray, List.getElem_cons_zero, List.getElem_cons_succ, Act.put, List.setIfInBounds_toArray, List.set_cons_zero, List.set_cons_succ]
              refine wpAnyH_all (show Region.ready .any _ _ = [8] by kernel_rfl) (by simp) fun x hx => ?_
              obtain rfl : x = 8 := by simpa using hx
              clear hx
              refine wpOp_one 8 _ rfl (by kernel_rfl) fun K hK => ?_
              go_simp
              generalize hX14 : V13.alloc _ = V14
              have hb14 : Below V13.heap.size V13 V14 := hX14 ▸ (Below.refl _ _).alloc (Nat.le_refl _) _
              have ho9_14 := ho9_13.keep hb14
              have ho8_14 := newBy V13 V14 (by rw [← hX14]; rfl)
              have hle8 : W.heap.size ≤ V13.heap.size := hS13.size
              have hne : V1.heap.size < V13.heap.size := lt_of_block ho9_13
              have hS14 := thenB hS13 hb14
              refine hK _ _ ⟨hS14, ?_⟩
              clear hK K
              try simp only [List.getElem_toArray, List.getElem_cons_zero, List.getElem_cons_succ, Act.put, List.setIfInBounds_toArray, List.set_cons_zero, List.set_cons_succ]
              refine wpAnyH_chainOf [10, 11] _ _ _ (by kernel_rfl) (by kernel_rfl) ?_
              simp only [List.filterMap_cons, List.filterMap_nil, List.getElem?_toArray, List.getElem?_cons_zero, List.getElem?_cons_succ]
              refine wpChain_bstore rfl 26 (.tmp 5) (.tmp 38) rfl (V13.heap.size) rfl T1 (show Value.agg c1 = _ by rw [unhide HC1]) 32 info32 (unhide HG1).len _ zeros ho8_14 rfl ?_
              intro X1 HX1 HGx1
              have hY2 := ho9_14.grown (unhide HGx1) (by omega)
              have hZ1 := hS14.grown (unhide HGx1) hS14.size (fun i e => by injection e with e; omega)
              refine ⟨hZ1, ?_⟩
              refine wpChain_bstore rfl 26 (.tmp 6) (.tmp 42) rfl (V1.heap.size) rfl T2 (show Value.agg c2 = _ by rw [unhide HC2]) 32 info32 (unhide HG2).len _ zeros hY2 rfl ?_
              intro X2 HX2 HGx2
              have hY1 := (unhide HX1).grown (unhide HGx2) (by omega)
              have hZ2 := hZ1.grown (unhide HGx2) hZ1.size (fun i e => by injection e with e; omega)
              refine ⟨hZ2, wpChain_nil ?_⟩
              go_wp2_with fail
              go_meet
              exact ⟨_, _, rfl, rfl, hY1, unhide HX2, thenB (unhide HW2) hZ2⟩
            · clear hx
              refine wpOp_one 8 _ rfl (by kernel_rfl) fun K hK => ?_
              go_simp
              generalize hX15 : V12.alloc _ = V15
              have hb15 : Below V12.heap.size V12 V15 := hX15 ▸ (Below.refl _ _).alloc (Nat.le_refl _) _
              have ho9_15 := ho9_12.keep hb15
              have ho8_15 := newBy V12 V15 (by rw [← hX15]; rfl)
              have hle8 : W.heap.size ≤ V12.heap.size := hS12.size
              have hne : V1.heap.size < V12.heap.size := lt_of_block ho9_12
              have hS15 := thenB hS12 hb15
              refine hK _ _ ⟨hS15, ?_⟩
              clear hK K
              try simp only [List.getElem_toArray, List.getElem_cons_zero, List.getElem_cons_succ, Act.put, List.setIfInBounds_toArray, List.set_cons_zero, List.set_cons_succ]
              refine wpAnyH_all (show Region.ready .any _ _ = [7] by kernel_rfl) (by simp) fun x hx => ?_
              obtain rfl : x = 7 := by simpa using hx
              clear hx
              refine wpOp_one 7 _ rfl (by kernel_rfl) fun K hK => ?_
              go_simp
              refine ((unhide HF2) V15 (thenB (unhide HW2) hS15)).mono ?_; rintro x V16 ⟨rfl, hb16⟩
              dsimp only
              have ho9_16 := ho9_15.keep hb16
              have ho8_16 := ho8_15.keep hb16
              have hS16 := thenB hS15 hb16
              refine hK _ _ ⟨hS16, ?_⟩
              clear hK K
              try simp only [List.getElem_toArray, List.getElem_cons_zero, List.getElem_cons_succ, Act.put, List.setIfInBounds_toArray, List.set_cons_zero, List.set_cons_succ]
              refine wpAnyH_chainOf [10, 11] _ _ _ (by kernel_rfl) (by kernel_rfl) ?_
              simp only [List.filterMap_cons, List.filterMap_nil, List.getElem?_toArray, List.getElem?_cons_zero, List.getElem?_cons_succ]
              refine wpChain_bstore rfl 26 (.tmp 5) (.tmp 38) rfl (V12.heap.size) rfl T1 (show Value.agg c1 = _ by rw [unhide HC1]) 32 info32 (unhide HG1).len _ zeros ho8_16 rfl ?_
              intro X1 HX1 HGx1
              have hY2 := ho9_16.grown (unhide HGx1) (by omega)
              have hZ1 := hS16.grown (unhide HGx1) hS16.size (fun i e => by injection e with e; omega)
              refine ⟨hZ1, ?_⟩
              refine wpChain_bstore rfl 26 (.tmp 6) (.tmp 42) rfl (V1.heap.size) rfl T2 (show Value.agg c2 = _ by rw [unhide HC2]) 32 info32 (unhide HG2).len _ zeros hY2 rfl ?_
              intro X2 HX2 HGx2
              have hY1 := (unhide HX1).grown (unhide HGx2) (by omega)
              have hZ2 := hZ1.grown (unhide HGx2) hZ1.size (fun i e => by injection e with e; omega)
              refine ⟨hZ2, wpChain_nil ?_⟩
              go_wp2_with fail
              go_meet
              exact ⟨_, _, rfl, rfl, hY1, unhide HX2, thenB (unhide HW2) hZ2⟩
        · clear hx
          refine wpOp_one 8 _ rfl (by kernel_rfl) fun K hK => ?_
          go_simp
          generalize hX17 : W.alloc _ = V17
          have hb17 : Below W.heap.size W V17 := hX17 ▸ (Below.refl _ _).alloc (Nat.le_refl _) _
          have ho8_17 := newBy W V17 (by rw [← hX17]; rfl)
          have hle8 : W.heap.size ≤ W.heap.size := hSW.size
          have hS17 := thenB hSW hb17
          refine hK _ _ ⟨hS17, ?_⟩
          clear hK K
          try simp only [List.getElem_toArray, List.getElem_cons_zero, List.getElem_cons_succ, Act.put, List.setIfInBounds_toArray, List.set_cons_zero, List.set_cons_succ]
          refine wpAnyH_all (show Region.ready .any _ _ = [3, 9] by kernel_rfl) (by simp) fun x hx => ?_
          rcases (by simpa using hx : x = 3 ∨ x = 9) with rfl | rfl
          · clear hx
            refine wpOp_one 3 _ rfl (by kernel_rfl) fun K hK => ?_
            go_simp
            refine ((unhide HF1) V17 (thenB (unhide HW2) hS17)).mono ?_; rintro x V18 ⟨rfl, hb18⟩
            dsimp only
            have ho8_18 := ho8_17.keep hb18
            have hS18 := thenB hS17 hb18
            refine hK _ _ ⟨hS18, ?_⟩
            clear hK K
            try simp only [List.getElem_toArray, List.getElem_cons_zero, List.getElem_cons_succ, Act.put, List.setIfInBounds_toArray, List.set_cons_zero, List.set_cons_succ]
            refine wpAnyH_all (show Region.ready .any _ _ = [7, 9] by kernel_rfl) (by simp) fun x hx => ?_
            rcases (by simpa using hx : x = 7 ∨ x = 9) with rfl | rfl
            · clear hx
              refine wpOp_one 7 _ rfl (by kernel_rfl) fun K hK => ?_
              go_simp
              refine ((unhide HF2) V18 (thenB (unhide HW2) hS18)).mono ?_; rintro x V19 ⟨rfl, hb19⟩
              dsimp only
              have ho8_19 := ho8_18.keep hb19
              have hS19 := thenB hS18 hb19
              refine hK _ _ ⟨hS19, ?_⟩
              clear hK K
              try simp only [List.getElem_toArray, List.getElem_cons_zero, List.getElem_cons_succ, Act.put, List.setIfInBounds_toArray, List.set_cons_zero, List.set_cons_succ]
              refine wpAnyH_all (show Region.ready .any _ _ = [9] by kernel_rfl) (by simp) fun x hx => ?_
              obtain rfl : x = 9 := by simpa using hx
              clear hx
              refine wpOp_one 9 _ rfl (by kernel_rfl) fun K hK => ?_
              go_simp
              generalize hX20 : V19.alloc _ = V20
              have hb20 : Below V19.heap.size V19 V20 := hX20 ▸ (Below.refl _ _).alloc (Nat.le_refl _) _
              have ho8_20 := ho8_19.keep hb20
              have ho9_20 := newBy V19 V20 (by rw [← hX20]; rfl)
              have hle9 : W.heap.size ≤ V19.heap.size := hS19.size
              have hne : W.heap.size < V19.heap.size := lt_of_block ho8_19
              have hS20 := thenB hS19 hb20
              refine hK _ _ ⟨hS20, ?_⟩
              clear hK K
              try simp only [List.getElem_toArray, List.getElem_cons_zero, List.getElem_cons_succ, Act.put, List.setIfInBounds_toArray, List.set_cons_zero, List.set_cons_succ]
              refine wpAnyH_chainOf [10, 11] _ _ _ (by kernel_rfl) (by kernel_rfl) ?_
              simp only [List.filterMap_cons, List.filterMap_nil, List.getElem?_toArray, List.getElem?_cons_zero, List.getElem?_cons_succ]
              refine wpChain_bstore rfl 26 (.tmp 5) (.tmp 38) rfl (W.heap.size) rfl T1 (show Value.agg c1 = _ by rw [unhide HC1]) 32 info32 (unhide HG1).len _ zeros ho8_20 rfl ?_
              intro X1 HX1 HGx1
              have hY2 := ho9_20.grown (unhide HGx1) (by omega)
              have hZ1 := hS20.grown (unhide HGx1) hS20.size (fun i e => by injection e with e; omega)
              refine ⟨hZ1, ?_⟩
              refine wpChain_bstore rfl 26 (.tmp 6) (.tmp 42) rfl (V19.heap.size) rfl T2 (show Value.agg c2 = _ by rw [unhide HC2]) 32 info32 (unhide HG2).len _ zeros hY2 rfl ?_
              intro X2 HX2 HGx2
              have hY1 := (unhide HX1).grown (unhide HGx2) (by omega)
              have hZ2 := hZ1.grown (unhide HGx2) hZ1.size (fun i e => by injection e with e; omega)
              refine ⟨hZ2, wpChain_nil ?_⟩
              go_wp2_with fail
              go_meet
              exact ⟨_, _, rfl, rfl, hY1, unhide HX2, thenB (unhide HW2) hZ2⟩
            · clear hx
              refine wpOp_one 9 _ rfl (by kernel_rfl) fun K hK => ?_
              go_simp
              generalize hX21 : V18.alloc _ = V21
              have hb21 : Below V18.heap.size V18 V21 := hX21 ▸ (Below.refl _ _).alloc (Nat.le_refl _) _
              have ho8_21 := ho8_18.keep hb21
              have ho9_21 := newBy V18 V21 (by rw [← hX21]; rfl)
              have hle9 : W.heap.size ≤ V18.heap.size := hS18.size
              have hne : W.heap.size < V18.heap.size := lt_of_block ho8_18
              have hS21 := thenB hS18 hb21
              refine hK _ _ ⟨hS21, ?_⟩
              clear hK K
              try simp only [List.getElem_toArray, List.getElem_cons_zero, List.getElem_cons_succ, Act.put, List.setIfInBounds_toArray, List.set_cons_zero, List.set_cons_succ]
              refine wpAnyH_all (show Region.ready .any _ _ = [7] by kernel_rfl) (by simp) fun x hx => ?_
              obtain rfl : x = 7 := by simpa using hx
              clear hx
              refine wpOp_one 7 _ rfl (by kernel_rfl) fun K hK => ?_
              go_simp
              refine ((unhide HF2) V21 (thenB (unhide HW2) hS21)).mono ?_; rintro x V22 ⟨rfl, hb22⟩
              dsimp only
              have ho8_22 := ho8_21.keep hb22
              have ho9_22 := ho9_21.keep hb22
              have hS22 := thenB hS21 hb22
              refine hK _ _ ⟨hS22, ?_⟩
              clear hK K
              try simp only [List.getElem_toArray, List.getElem_cons_zero, List.getElem_cons_succ, Act.put, List.setIfInBounds_toArray, List.set_cons_zero, List.set_cons_succ]
              refine wpAnyH_chainOf [10, 11] _ _ _ (by kernel_rfl) (by kernel_rfl) ?_
              simp only [List.filterMap_cons, List.filterMap_nil, List.getElem?_toArray, List.getElem?_cons_zero, List.getElem?_cons_succ]
              refine wpChain_bstore rfl 26 (.tmp 5) (.tmp 38) rfl (W.heap.size) rfl T1 (show Value.agg c1 = _ by rw [unhide HC1]) 32 info32 (unhide HG1).len _ zeros ho8_22 rfl ?_
              intro X1 HX1 HGx1
              have hY2 := ho9_22.grown (unhide HGx1) (by omega)
              have hZ1 := hS22.grown (unhide HGx1) hS22.size (fun i e => by injection e with e; omega)
              refine ⟨hZ1, ?_⟩
              refine wpChain_bstore rfl 26 (.tmp 6) (.tmp 42) rfl (V18.heap.size) rfl T2 (show Value.agg c2 = _ by rw [unhide HC2]) 32 info32 (unhide HG2).len _ zeros hY2 rfl ?_
              intro X2 HX2 HGx2
              have hY1 := (unhide HX1).grown (unhide HGx2) (by omega)
              have hZ2 := hZ1.grown (unhide HGx2) hZ1.size (fun i e => by injection e with e; omega)
              refine ⟨hZ2, wpChain_nil ?_⟩
              go_wp2_with fail
              go_meet
              exact ⟨_, _, rfl, rfl, hY1, unhide HX2, thenB (unhide HW2) hZ2⟩
          · clear hx
            refine wpOp_one 9 _ rfl (by kernel_rfl) fun K hK => ?_
            go_simp
            generalize hX23 : V17.alloc _ = V23
            have hb23 : Below V17.heap.size V17 V23 := hX23 ▸ (Below.refl _ _).alloc (Nat.le_refl _) _
            have ho8_23 := ho8_17.keep hb23
            have ho9_23 := newBy V17 V23 (by rw [← hX23]; rfl)
            have hle9 : W.heap.size ≤ V17.heap.size := hS17.size
            have hne : W.heap.size < V17.heap.size := lt_of_block ho8_17
            have hS23 := thenB hS17 hb23
            refine hK _ _ ⟨hS23, ?_⟩
            clear hK K
            try simp only [List.getElem_toArray, List.getElem_cons_zero, List.getElem_cons_succ, Act.put, List.setIfInBounds_toArray, List.set_cons_zero, List.set_cons_succ]
            refine wpAnyH_all (show Region.ready .any _ _ = [3] by kernel_rfl) (by simp) fun x hx => ?_
            obtain rfl : x = 3 := by simpa using hx
            clear hx
            refine wpOp_one 3 _ rfl (by kernel_rfl) fun K hK => ?_
            go_simp
            refine ((unhide HF1) V23 (thenB (unhide HW2) hS23)).mono ?_; rintro x V24 ⟨rfl, hb24⟩
            dsimp only
            have ho8_24 := ho8_23.keep hb24
            have ho9_24 := ho9_23.keep hb24
            have hS24 := thenB hS23 hb24
            refine hK _ _ ⟨hS24, ?_⟩
            clear hK K
            try simp only [List.getElem_toArray, List.getElem_cons_zero, List.getElem_cons_succ, Act.put, List.setIfInBounds_toArray, List.set_cons_zero, List.set_cons_succ]
            refine wpAnyH_all (show Region.ready .any _ _ = [7] by kernel_rfl) (by simp) fun x hx => ?_
            obtain rfl : x = 7 := by simpa using hx
            clear hx
            refine wpOp_one 7 _ rfl (by kernel_rfl) fun K hK => ?_
            go_simp
            refine ((unhide HF2) V24 (thenB (unhide HW2) hS24)).mono ?_; rintro x V25 ⟨rfl, hb25⟩
            dsimp only
            have ho8_25 := ho8_24.keep hb25
            have ho9_25 := ho9_24.keep hb25
            have hS25 := thenB hS24 hb25
            refine hK _ _ ⟨hS25, ?_⟩
            clear hK K
            try simp only [List.getElem_toArray, List.getElem_cons_zero, List.getElem_cons_succ, Act.put, List.setIfInBounds_toArray, List.set_cons_zero, List.set_cons_succ]
            refine wpAnyH_chainOf [10, 11] _ _ _ (by kernel_rfl) (by kernel_rfl) ?_
            simp only [List.filterMap_cons, List.filterMap_nil, List.getElem?_toArray, List.getElem?_cons_zero, List.getElem?_cons_succ]
            refine wpChain_bstore rfl 26 (.tmp 5) (.tmp 38) rfl (W.heap.size) rfl T1 (show Value.agg c1 = _ by rw [unhide HC1]) 32 info32 (unhide HG1).len _ zeros ho8_25 rfl ?_
            intro X1 HX1 HGx1
            have hY2 := ho9_25.grown (unhide HGx1) (by omega)
            have hZ1 := hS25.grown (unhide HGx1) hS25.size (fun i e => by injection e with e; omega)
            refine ⟨hZ1, ?_⟩
            refine wpChain_bstore rfl 26 (.tmp 6) (.tmp 42) rfl (V17.heap.size) rfl T2 (show Value.agg c2 = _ by rw [unhide HC2]) 32 info32 (unhide HG2).len _ zeros hY2 rfl ?_
            intro X2 HX2 HGx2
            have hY1 := (unhide HX1).grown (unhide HGx2) (by omega)
            have hZ2 := hZ1.grown (unhide HGx2) hZ1.size (fun i e => by injection e with e; omega)
            refine ⟨hZ2, wpChain_nil ?_⟩
            go_wp2_with fail
            go_meet
            exact ⟨_, _, rfl, rfl, hY1, unhide HX2, thenB (unhide HW2) hZ2⟩
        · clear hx
          refine wpOp_one 9 _ rfl (by kernel_rfl) fun K hK => ?_
          go_simp
          generalize hX26 : W.alloc _ = V26
          have hb26 : Below W.heap.size W V26 := hX26 ▸ (Below.refl _ _).alloc (Nat.le_refl _) _
          have ho9_26 := newBy W V26 (by rw [← hX26]; rfl)
          have hle9 : W.heap.size ≤ W.heap.size := hSW.size
          have hS26 := thenB hSW hb26
          refine hK _ _ ⟨hS26, ?_⟩
          clear hK K
          try simp only [List.getElem_toArray, List.getElem_cons_zero, List.getElem_cons_succ, Act.put, List.setIfInBounds_toArray, List.set_cons_zero, List.set_cons_succ]
          refine wpAnyH_all (show Region.ready .any _ _ = [3, 8] by kernel_rfl) (by simp) fun x hx => ?_
          rcases (by simpa using hx : x = 3 ∨ x = 8) with rfl | rfl
          · clear hx
            refine wpOp_one 3 _ rfl (by kernel_rfl) fun K hK => ?_
            go_simp
            refine ((unhide HF1) V26 (thenB (unhide HW2) hS26)).mono ?_; rintro x V27 ⟨rfl, hb27⟩
            dsimp only
            have ho9_27 := ho9_26.keep hb27
            have hS27 := thenB hS26 hb27
            refine hK _ _ ⟨hS27, ?_⟩
            clear hK K
            try simp only [List.getElem_toArray, List.getElem_cons_zero, List.getElem_cons_succ, Act.put, List.setIfInBounds_toArray, List.set_cons_zero, List.set_cons_succ]
            refine wpAnyH_all (show Region.ready .any _ _ = [7, 8] by kernel_rfl) (by simp) fun x hx => ?_
            rcases (by simpa using hx : x = 7 ∨ x = 8) with rfl | rfl
            · clear hx
              refine wpOp_one 7 _ rfl (by kernel_rfl) fun K hK => ?_
              go_simp
              refine ((unhide HF2) V27 (thenB (unhide HW2) hS27)).mono ?_; rintro x V28 ⟨rfl, hb28⟩
              dsimp only
              have ho9_28 := ho9_27.keep hb28
              have hS28 := thenB hS27 hb28
              refine hK _ _ ⟨hS28, ?_⟩
              clear hK K
              try simp only [List.getElem_toArray, List.getElem_cons_zero, List.getElem_cons_succ, Act.put, List.setIfInBounds_toArray, List.set_cons_zero, List.set_cons_succ]
              refine wpAnyH_all (show Region.ready .any _ _ = [8] by kernel_rfl) (by simp) fun x hx => ?_
              obtain rfl : x = 8 := by simpa using hx
              clear hx
              refine wpOp_one 8 _ rfl (by kernel_rfl) fun K hK => ?_
              go_simp
              generalize hX29 : V28.alloc _ = V29
              have hb29 : Below V28.heap.size V28 V29 := hX29 ▸ (Below.refl _ _).alloc (Nat.le_refl _) _
              have ho9_29 := ho9_28.keep hb29
              have ho8_29 := newBy V28 V29 (by rw [← hX29]; rfl)
              have hle8 : W.heap.size ≤ V28.heap.size := hS28.size
              have hne : W.heap.size < V28.heap.size := lt_of_block ho9_28
              have hS29 := thenB hS28 hb29
              refine hK _ _ ⟨hS29, ?_⟩
              clear hK K
              try simp only [List.getElem_toArray, List.getElem_cons_zero, List.getElem_cons_succ, Act.put, List.setIfInBounds_toArray, List.set_cons_zero, List.set_cons_succ]
              refine wpAnyH_chainOf [10, 11] _ _ _ (by kernel_rfl) (by kernel_rfl) ?_
              simp only [List.filterMap_cons, List.filterMap_nil, List.getElem?_toArray, List.getElem?_cons_zero, List.getElem?_cons_succ]
              refine wpChain_bstore rfl 26 (.tmp 5) (.tmp 38) rfl (V28.heap.size) rfl T1 (show Value.agg c1 = _ by rw [unhide HC1]) 32 info32 (unhide HG1).len _ zeros ho8_29 rfl ?_
              intro X1 HX1 HGx1
              have hY2 := ho9_29.grown (unhide HGx1) (by omega)
              have hZ1 := hS29.grown (unhide HGx1) hS29.size (fun i e => by injection e with e; omega)
              refine ⟨hZ1, ?_⟩
              refine wpChain_bstore rfl 26 (.tmp 6) (.tmp 42) rfl (W.heap.size) rfl T2 (show Value.agg c2 = _ by rw [unhide HC2]) 32 info32 (unhide HG2).len _ zeros hY2 rfl ?_
              intro X2 HX2 HGx2
              have hY1 := (unhide HX1).grown (unhide HGx2) (by omega)
              have hZ2 := hZ1.grown (unhide HGx2) hZ1.size (fun i e => by injection e with e; omega)
              refine ⟨hZ2, wpChain_nil ?_⟩
              go_wp2_with fail
              go_meet
              exact ⟨_, _, rfl, rfl, hY1, unhide HX2, thenB (unhide HW2) hZ2⟩
            · clear hx
              refine wpOp_one 8 _ rfl (by kernel_rfl) fun K hK => ?_
              go_simp
              generalize hX30 : V27.alloc _ = V30
              have hb30 : Below V27.heap.size V27 V30 := hX30 ▸ (Below.refl _ _).alloc (Nat.le_refl _) _
              have ho9_30 := ho9_27.keep hb30
              have ho8_30 := newBy V27 V30 (by rw [← hX30]; rfl)
              have hle8 : W.heap.size ≤ V27.heap.size := hS27.size
              have hne : W.heap.size < V27.heap.size := lt_of_block ho9_27
              have hS30 := thenB hS27 hb30
              refine hK _ _ ⟨hS30, ?_⟩
              clear hK K
              try simp only [List.getElem_toArray, List.getElem_cons_zero, List.getElem_cons_succ, Act.put, List.setIfInBounds_toArray, List.set_cons_zero, List.set_cons_succ]
              refine wpAnyH_all (show Region.ready .any _ _ = [7] by kernel_rfl) (by simp) fun x hx => ?_
              obtain rfl : x = 7 := by simpa using hx
              clear hx
              refine wpOp_one 7 _ rfl (by kernel_rfl) fun K hK => ?_
              go_simp
              refine ((unhide HF2) V30 (thenB (unhide HW2) hS30)).mono ?_; rintro x V31 ⟨rfl, hb31⟩
              dsimp only
              have ho9_31 := ho9_30.keep hb31
              have ho8_31 := ho8_30.keep hb31
              have hS31 := thenB hS30 hb31
              refine hK _ _ ⟨hS31, ?_⟩
              clear hK K
              try simp only [List.getElem_toArray, List.getElem_cons_zero, List.getElem_cons_succ, Act.put, List.setIfInBounds_toArray, List.set_cons_zero, List.set_cons_succ]
              refine wpAnyH_chainOf [10, 11] _ _ _ (by kernel_rfl) (by kernel_rfl) ?_
              simp only [List.filterMap_cons, List.filterMap_nil, List.getElem?_toArray, List.getElem?_cons_zero, List.getElem?_cons_succ]
              refine wpChain_bstore rfl 26 (.tmp 5) (.tmp 38) rfl (V27.heap.size) rfl T1 (show Value.agg c1 = _ by rw [unhide HC1]) 32 info32 (unhide HG1).len _ zeros ho8_31 rfl ?_
              intro X1 HX1 HGx1
              have hY2 := ho9_31.grown (unhide HGx1) (by omega)
              have hZ1 := hS31.grown (unhide HGx1) hS31.size (fun i e => by injection e with e; omega)
              refine ⟨hZ1, ?_⟩
              refine wpChain_bstore rfl 26 (.tmp 6) (.tmp 42) rfl (W.heap.size) rfl T2 (show Value.agg c2 = _ by rw [unhide HC2]) 32 info32 (unhide HG2).len _ zeros hY2 rfl ?_
              intro X2 HX2 HGx2
              have hY1 := (unhide HX1).grown (unhide HGx2) (by omega)
              have hZ2 := hZ1.grown (unhide HGx2) hZ1.size (fun i e => by injection e with e; omega)
              refine ⟨hZ2, wpChain_nil ?_⟩
              go_wp2_with fail
              go_meet
              exact ⟨_, _, rfl, rfl, hY1, unhide HX2, thenB (unhide HW2) hZ2⟩
          · clear hx
            refine wpOp_one 8 _ rfl (by kernel_rfl) fun K hK => ?_
            go_simp
            generalize hX32 : V26.alloc _ = V32
            have hb32 : Below V26.heap.size V26 V32 := hX32 ▸ (Below.refl _ _).alloc (Nat.le_refl _) _
            have ho9_32 := ho9_26.keep hb32
            have ho8_32 := newBy V26 V32 (by rw [← hX32]; rfl)
            have hle8 : W.heap.size ≤ V26.heap.size := hS26.size
            have hne : W.heap.size < V26.heap.size := lt_of_block ho9_26
            have hS32 := thenB hS26 hb32
            refine hK _ _ ⟨hS32, ?_⟩
            clear hK K
            try simp only [List.getElem_toArray, List.getElem_cons_zero, List.getElem_cons_succ, Act.put, List.setIfInBounds_toArray, List.set_cons_zero, List.set_cons_succ]
            refine wpAnyH_all (show Region.ready .any _ _ = [3] by kernel_rfl) (by simp) fun x hx => ?_
            obtain rfl : x = 3 := by simpa using hx
            clear hx
            refine wpOp_one 3 _ rfl (by kernel_rfl) fun K hK => ?_
            go_simp
            refine ((unhide HF1) V32 (thenB (unhide HW2) hS32)).mono ?_; rintro x V33 ⟨rfl, hb33⟩
            dsimp only
            have ho9_33 := ho9_32.keep hb33
            have ho8_33 := ho8_32.keep hb33
            have hS33 := thenB hS32 hb33
            refine hK _ _ ⟨hS33, ?_⟩
            clear hK K
            try simp only [List.getElem_toArray, List.getElem_cons_zero, List.getElem_cons_succ, Act.put, List.setIfInBounds_toArray, List.set_cons_zero, List.set_cons_succ]
            refine wpAnyH_all (show Region.ready .any _ _ = [7] by kernel_rfl) (by simp) fun x hx => ?_
            obtain rfl : x = 7 := by simpa using hx
            clear hx
            refine wpOp_one 7 _ rfl (by kernel_rfl) fun K hK => ?_
            go_simp
            refine ((unhide HF2) V33 (thenB (unhide HW2) hS33)).mono ?_; rintro x V34 ⟨rfl, hb34⟩
            dsimp only
            have ho9_34 := ho9_33.keep hb34
            have ho8_34 := ho8_33.keep hb34
            have hS34 := thenB hS33 hb34
            refine hK _ _ ⟨hS34, ?_⟩
            clear hK K
            try simp only [List.getElem_toArray, List.getElem_cons_zero, List.getElem_cons_succ, Act.put, List.setIfInBounds_toArray, List.set_cons_zero, List.set_cons_succ]
            refine wpAnyH_chainOf [10, 11] _ _ _ (by kernel_rfl) (by kernel_rfl) ?_
            simp only [List.filterMap_cons, List.filterMap_nil, List.getElem?_toArray, List.getElem?_cons_zero, List.getElem?_cons_succ]
            refine wpChain_bstore rfl 26 (.tmp 5) (.tmp 38) rfl (V26.heap.size) rfl T1 (show Value.agg c1 = _ by rw [unhide HC1]) 32 info32 (unhide HG1).len _ zeros ho8_34 rfl ?_
            intro X1 HX1 HGx1
            have hY2 := ho9_34.grown (unhide HGx1) (by omega)
            have hZ1 := hS34.grown (unhide HGx1) hS34.size (fun i e => by injection e with e; omega)
            refine ⟨hZ1, ?_⟩
            refine wpChain_bstore rfl 26 (.tmp 6) (.tmp 42) rfl (W.heap.size) rfl T2 (show Value.agg c2 = _ by rw [unhide HC2]) 32 info32 (unhide HG2).len _ zeros hY2 rfl ?_
            intro X2 HX2 HGx2
            have hY1 := (unhide HX1).grown (unhide HGx2) (by omega)
            have hZ2 := hZ1.grown (unhide HGx2) hZ1.size (fun i e => by injection e with e; omega)
            refine ⟨hZ2, wpChain_nil ?_⟩
            go_wp2_with fail
            go_meet
            exact ⟨_, _, rfl, rfl, hY1, unhide HX2, thenB (unhide HW2) hZ2⟩
      case rest =>
        obtain ⟨N1, N2, rfl, rfl, hb1, hb2, hbw⟩ := hcut
        have HX1 := hide hb1; have HX2 := hide hb2; have HBX := hide hbw
        have HB4 := hide (thenB (unhide HB2) hbw)
        clear hb1 hb2 hbw HF1 HF2
        go_wp2_with fail
        obtain ⟨W, hW⟩ : ∃ W, W = wc.drewN 1 := ⟨_, rfl⟩
        have HW : Hid (W = wc.drewN 1) := hW
        have HBW := hide (thenB (unhide HB4) (below_named HW))
        have HRW := hide (thenB (unhide HBX) (below_named HW))
        have HY1 := hide ((unhide HX1).keep (below_named HW))
        have HY2 := hide ((unhide HX2).keep (below_named HW))
        have hSW : Below W.heap.size W W := Below.refl _ _
        clear hW HX1 HX2
        refine held (S := Below W.heap.size W) W HW (by kernel_rfl) ?_
        refine wpAnyH_take (i := 0) (v := ?_) rfl (by kernel_rfl) (by kernel_rfl) (by kernel_rfl) (fun _ _ _ h => h) (Or.inl ⟨by kernel_rfl, ?_⟩) (by assumption) ?_
        rotate_left
        · intro Wt hSt
          go_simp
          try with_reducible rfl
        try simp only [List.getElem_toArray, List.getElem_cons_zero, List.getElem_cons_succ, Act.put, List.setIfInBounds_toArray, List.set_cons_zero, List.set_cons_succ]
        refine wpAnyH_take (i := 3) (v := ?_) rfl (by kernel_rfl) (by kernel_rfl) (by kernel_rfl) (fun _ _ _ h => h) (Or.inl ⟨by kernel_rfl, ?_⟩) (by assumption) ?_
        rotate_left
        · intro Wt hSt
          go_simp
          try with_reducible rfl
        try simp only [List.getElem_toArray, List.getElem_cons_zero, List.getElem_cons_succ, Act.put, List.setIfInBounds_toArray, List.set_cons_zero, List.set_cons_succ]
        refine wpAnyH_take (i := 5) (v := ?_) rfl (by kernel_rfl) (by kernel_rfl) (by kernel_rfl) (fun _ _ _ h => h) (Or.inl ⟨by kernel_rfl, ?_⟩) (by assumption) ?_
        rotate_left
        · intro Wt hSt
          go_simp
          try with_reducible rfl
        try simp only [List.getElem_toArray, List.getElem_cons_zero, List.getElem_cons_succ, Act.put, List.setIfInBounds_toArray, List.set_cons_zero, List.set_cons_succ]
        refine wpAnyH_two 1 2 _ _ rfl rfl (by kernel_rfl) (by kernel_rfl) (by kernel_rfl) ?_ ?_
        · intro K hK
          go_simp
          refine ((unhide HF3) W (thenB (unhide HRW) hSW)).mono ?_; rintro x V1 ⟨rfl, hb9⟩
          dsimp only
          have hS1 := thenB hSW hb9
          clear hb9
          refine hK _ _ hS1 ?_
          clear hK K
          try simp only [List.getElem_toArray, List.getElem_cons_zero, List.getElem_cons_succ, Act.put, List.setIfInBounds_toArray, List.set_cons_zero, List.set_cons_succ]
          refine wpAnyH_one 2 _ rfl (by kernel_rfl) (by kernel_rfl) ?_
          intro K hK
          go_simp
          generalize hX : V1.alloc _ = V2
          have hb9 : Below V1.heap.size V1 V2 := hX ▸ (Below.refl _ _).alloc (Nat.le_refl _) _
          have hown : OwnB V2 W.heap.size (.slice (some ⟨V1.heap.size, 0, none⟩) 0 0) [] := hX ▸ World.ownsRow_lit V1 #[] 0 hS1.size (Nat.zero_le _) rfl
          clear hX
          have hS2 := thenB hS1 hb9
          clear hb9 hS1
          refine hK _ _ hS2 ?_
          clear hK K
          try simp only [List.getElem_toArray, List.getElem_cons_zero, List.getElem_cons_succ, Act.put, List.setIfInBounds_toArray, List.set_cons_zero, List.set_cons_succ]
          refine wpAnyH_one 4 _ rfl (by kernel_rfl) (by kernel_rfl) ?_
          intro K hK
          obtain ⟨v3, V3, hr3, hown3, hg3⟩ := run_append_B hown 22 (some ⟨N1, 0, none⟩) 32 (((unhide HY1).keep hS2).bt (unhide HG1)) (fun h => by cases h) (by rw [(unhide HG1).len]; simp) hS2.size
          rw [(unhide HG1).len] at hr3
          have hS3 := grown_below hS2 hg3 (fun k hk => (hown.lt k hk).1)
          refine wp_append (.tmp 45) (.tmp 46) 22 rfl _ _ v3 V3 rfl rfl hr3 ?_
          refine hK _ _ hS3 ?_
          clear hK K hr3 hown hg3 hS2
          try simp only [List.getElem_toArray, List.getElem_cons_zero, List.getElem_cons_succ, Act.put, List.setIfInBounds_toArray, List.set_cons_zero, List.set_cons_succ]
          refine wpAnyH_one 6 _ rfl (by kernel_rfl) (by kernel_rfl) ?_
          intro K hK
          obtain ⟨v4, V4, hr4, hown4, hg4⟩ := run_append_B hown3 22 (some ⟨N2, 0, none⟩) 32 (((unhide HY2).keep hS3).bt (unhide HG2)) (fun h => by cases h) (by have h1 := (unhide HG1).len; have h2 := (unhide HG2).len; rw [List.nil_append, h1, h2]; decide) hS3.size
          rw [(unhide HG2).len] at hr4
          have hS4 := grown_below hS3 hg4 (fun k hk => (hown3.lt k hk).1)
          refine wp_append (.tmp 47) (.tmp 48) 22 rfl _ _ v4 V4 rfl rfl hr4 ?_
          refine hK _ _ hS4 ?_
          clear hK K hr4 hown3 hg4 hS3
          try simp only [List.getElem_toArray, List.getElem_cons_zero, List.getElem_cons_succ, Act.put, List.setIfInBounds_toArray, List.set_cons_zero, List.set_cons_succ]
          rw [List.nil_append] at hown4
          obtain ⟨A4, c4, rfl, hc4, hbt4⟩ := hown4.bt (fun x hx => by
            rcases List.mem_append.1 hx with h | h
            · exact (unhide HG1).byt x h
            · exact (unhide HG2).byt x h)
          refine wpAnyH_one 7 _ rfl (by kernel_rfl) (by kernel_rfl) ?_
          intro K hK
          go_simp
          have hsm := tagged_any V4 ⟨#[110, 111, 100, 101]⟩ A4 c4 _ hbt4 hc4 ((unhide HT).keep (thenB (unhide HBW) hS4))
          rw [sb_node, tag_node, ← unhide HT3, show dv T3 = .agg c3 by rw [unhide HC3], List.length_append] at hsm
          refine hsm.mono ?_; rintro x V5 ⟨rfl, hb5⟩
          have hS5 := thenB hS4 hb5
          clear hsm hb5 hS4 hown4 hbt4 hc4
          dsimp only
          refine hK _ _ hS5 ?_
          clear hK K
          try simp only [List.getElem_toArray, List.getElem_cons_zero, List.getElem_cons_succ, Act.put, List.setIfInBounds_toArray, List.set_cons_zero, List.set_cons_succ]
          refine wpAnyH_one 8 _ rfl (by kernel_rfl) (by kernel_rfl) ?_
          intro K hK
          refine wp_eql (.tmp 44) (.tmp 50) _ rfl T3 T3 (show Value.agg c3 = _ by rw [unhide HC3]) (show Value.agg c3 = _ by rw [unhide HC3]) (unhide HG3).len (unhide HG3).len ?_
          rw [show decide (T3 = T3) = true from decide_eq_true rfl]
          refine hK _ _ hS5 ?_
          clear hK K
          try simp only [List.getElem_toArray, List.getElem_cons_zero, List.getElem_cons_succ, Act.put, List.setIfInBounds_toArray, List.set_cons_zero, List.set_cons_succ]
          refine wpAnyH_one 9 _ rfl (by kernel_rfl) (by kernel_rfl) ?_
          intro K hK
          go_simp
          refine hK _ _ hS5 ?_
          clear hK K
          try simp only [List.getElem_toArray, List.getElem_cons_zero, List.getElem_cons_succ, Act.put, List.setIfInBounds_toArray, List.set_cons_zero, List.set_cons_succ]
          refine wpAnyH_chainOf [] _ _ _ (by kernel_rfl) (by kernel_rfl) ?_
          refine wpChain_nil ?_
          have HEND := hide (thenB (unhide HBW) hS5)
          clear hS5 hSW
          go_wp2_with fail
          go_ret
          exact ⟨rfl, unhide HEND⟩
        · intro K hK
          go_simp
          generalize hX : W.alloc _ = V1
          have hb9 : Below W.heap.size W V1 := hX ▸ (Below.refl _ _).alloc (Nat.le_refl _) _
          have hown : OwnB V1 W.heap.size (.slice (some ⟨W.heap.size, 0, none⟩) 0 0) [] := hX ▸ World.ownsRow_lit W #[] 0 hSW.size (Nat.zero_le _) rfl
          clear hX
          have hS1 := thenB hSW hb9
          clear hb9
          refine hK _ _ hS1 ?_
          clear hK K
          try simp only [List.getElem_toArray, List.getElem_cons_zero, List.getElem_cons_succ, Act.put, List.setIfInBounds_toArray, List.set_cons_zero, List.set_cons_succ]
          refine wpAnyH_one 1 _ rfl (by kernel_rfl) (by kernel_rfl) ?_
          intro K hK
          go_simp
          refine ((unhide HF3) V1 (thenB (unhide HRW) hS1)).mono ?_; rintro x V2 ⟨rfl, hb9⟩
          dsimp only
          have hS2 := thenB hS1 hb9
          replace hown := hown.later hb9
          clear hb9 hS1
          refine hK _ _ hS2 ?_
          clear hK K
          try simp only [List.getElem_toArray, List.getElem_cons_zero, List.getElem_cons_succ, Act.put, List.setIfInBounds_toArray, List.set_cons_zero, List.set_cons_succ]
          refine wpAnyH_one 4 _ rfl (by kernel_rfl) (by kernel_rfl) ?_
          intro K hK
          obtain ⟨v3, V3, hr3, hown3, hg3⟩ := run_append_B hown 22 (some ⟨N1, 0, none⟩) 32 (((unhide HY1).keep hS2).bt (unhide HG1)) (fun h => by cases h) (by rw [(unhide HG1).len]; simp) hS2.size
          rw [(unhide HG1).len] at hr3
          have hS3 := grown_below hS2 hg3 (fun k hk => (hown.lt k hk).1)
          refine wp_append (.tmp 45) (.tmp 46) 22 rfl _ _ v3 V3 rfl rfl hr3 ?_
          refine hK _ _ hS3 ?_
          clear hK K hr3 hown hg3 hS2
          try simp only [List.getElem_toArray, List.getElem_cons_zero, List.getElem_cons_succ, Act.put, List.setIfInBounds_toArray, List.set_cons_zero, List.set_cons_succ]
          refine wpAnyH_one 6 _ rfl (by kernel_rfl) (by kernel_rfl) ?_
          intro K hK
          obtain ⟨v4, V4, hr4, hown4, hg4⟩ := run_append_B hown3 22 (some ⟨N2, 0, none⟩) 32 (((unhide HY2).keep hS3).bt (unhide HG2)) (fun h => by cases h) (by have h1 := (unhide HG1).len; have h2 := (unhide HG2).len; rw [List.nil_append, h1, h2]; decide) hS3.size
          rw [(unhide HG2).len] at hr4
          have hS4 := grown_below hS3 hg4 (fun k hk => (hown3.lt k hk).1)
          refine wp_append (.tmp 47) (.tmp 48) 22 rfl _ _ v4 V4 rfl rfl hr4 ?_
          refine hK _ _ hS4 ?_
          clear hK K hr4 hown3 hg4 hS3
          try simp only [List.getElem_toArray, List.getElem_cons_zero, List.getElem_cons_succ, Act.put, List.setIfInBounds_toArray, List.set_cons_zero, List.set_cons_succ]
          rw [List.nil_append] at hown4
          obtain ⟨A4, c4, rfl, hc4, hbt4⟩ := hown4.bt (fun x hx => by
            rcases List.mem_append.1 hx with h | h
            · exact (unhide HG1).byt x h
            · exact (unhide HG2).byt x h)
          refine wpAnyH_one 7 _ rfl (by kernel_rfl) (by kernel_rfl) ?_
          intro K hK
          go_simp
          have hsm := tagged_any V4 ⟨#[110, 111, 100, 101]⟩ A4 c4 _ hbt4 hc4 ((unhide HT).keep (thenB (unhide HBW) hS4))
          rw [sb_node, tag_node, ← unhide HT3, show dv T3 = .agg c3 by rw [unhide HC3], List.length_append] at hsm
          refine hsm.mono ?_; rintro x V5 ⟨rfl, hb5⟩
          have hS5 := thenB hS4 hb5
          clear hsm hb5 hS4 hown4 hbt4 hc4
          dsimp only
          refine hK _ _ hS5 ?_
          clear hK K
          try simp only [List.getElem_toArray, List.getElem_cons_zero, List.getElem_cons_succ, Act.put, List.setIfInBounds_toArray, List.set_cons_zero, List.set_cons_succ]
          refine wpAnyH_one 8 _ rfl (by kernel_rfl) (by kernel_rfl) ?_
          intro K hK
          refine wp_eql (.tmp 44) (.tmp 50) _ rfl T3 T3 (show Value.agg c3 = _ by rw [unhide HC3]) (show Value.agg c3 = _ by rw [unhide HC3]) (unhide HG3).len (unhide HG3).len ?_
          rw [show decide (T3 = T3) = true from decide_eq_true rfl]
          refine hK _ _ hS5 ?_
          clear hK K
          try simp only [List.getElem_toArray, List.getElem_cons_zero, List.getElem_cons_succ, Act.put, List.setIfInBounds_toArray, List.set_cons_zero, List.set_cons_succ]
          refine wpAnyH_one 9 _ rfl (by kernel_rfl) (by kernel_rfl) ?_
          intro K hK
          go_simp
          refine hK _ _ hS5 ?_
          clear hK K
          try simp only [List.getElem_toArray, List.getElem_cons_zero, List.getElem_cons_succ, Act.put, List.setIfInBounds_toArray, List.set_cons_zero, List.set_cons_succ]
          refine wpAnyH_chainOf [] _ _ _ (by kernel_rfl) (by kernel_rfl) ?_
          refine wpChain_nil ?_
          have HEND := hide (thenB (unhide HBW) hS5)
          clear hS5 hSW
          go_wp2_with fail
          go_ret
          exact ⟨rfl, unhide HEND⟩
end Go.Proofs.YtbccempafjpcdaaDoor
