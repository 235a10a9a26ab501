/- The law DigestTags: Tagged is the hash of the hash of the tag and the bytes. -/
import Derived.Test.YtbccempafjpcdaaDoorDigSane
import Derived.Test.YtbccempafjpcdaaDoorDigApp
import Derived.Test.YtbccempafjpcdaaDoorDigTwo
import Derived.Test.YtbccempafjpcdaaDoorDigTag
import Derived.Test.YtbccempafjpcdaaDoorClose
namespace Go.Proofs.YtbccempafjpcdaaDoor
set_option linter.unusedSimpArgs false
set_option linter.unusedVariables false
open Go.RowKit Go.LawClose

set_option maxRecDepth 100000 in
set_option maxHeartbeats 2000000 in
theorem tags_any (s : ByteArray) (A : Option Addr) (c : Nat) (l : List Int) (w : World) (hA : Bt w A l) (hc : l.length ≤ c) (hn : A = none → c = 0) (hT : DTab w) :
    Calls Tryd.prog 6 #[.string s, .slice A l.length c] w (LawOk w) := by
  have HT := hide hT
  have HA := hide hA
  have HC : Hid (l.length ≤ c) := hc
  have HNn := hide hn
  obtain ⟨n, hnl⟩ : ∃ n, n = l.length := ⟨_, rfl⟩
  obtain ⟨m, hms⟩ : ∃ m, m = s.size := ⟨_, rfl⟩
  rw [← hnl]
  have HNL := hide hnl
  have HMS := hide hms
  by_cases h1 : (600 : Int) < (m : Int)
  · rw [hms] at h1
    clear hT hA hc hn hnl
    go_enter Tryd.func6, Tryd.ntmps6
    go_wp2_with fail
    refine (sane_any w (unhide HT)).mono ?_; rintro x W1 ⟨rfl, hB1⟩
    have HB1 := hide hB1
    clear hB1
    go_wp2_with fail
    go_ret
    exact ⟨rfl, unhide HB1⟩
  by_cases h2 : (600 : Int) < (n : Int)
  · rw [hms] at h1
    clear hT hA hc hn hnl
    go_enter Tryd.func6, Tryd.ntmps6
    go_wp2_with fail
    refine (sane_any w (unhide HT)).mono ?_; rintro x W1 ⟨rfl, hB1⟩
    have HB1 := hide hB1
    clear hB1
    go_wp2_with fail
    go_ret
    exact ⟨rfl, unhide HB1⟩
  have HN2 : Hid (n ≤ 600) := by show n ≤ 600; omega
  rw [hms] at h1
  clear hT hA hc hn hnl hms
  go_enter Tryd.func6, Tryd.ntmps6
  go_wp2_with fail
  refine (sane_any w (unhide HT)).mono ?_; rintro x W1 ⟨rfl, hB1⟩
  have HB1 := hide hB1
  clear hB1
  obtain ⟨W2, C, hcv, hB2, hBt, hC⟩ := conv_str W1 s
  have HB2 := hide (thenB (unhide HB1) hB2)
  have HBt := hide hBt
  have HC2 : Hid ((sb s).length ≤ C) := hC
  clear hB2 hBt hC
  go_wp2_with fail
  refine (sum_any W2 _ C (sb s) (unhide HBt) (unhide HC2) ((unhide HT).keep (unhide HB2))).mono ?_; rintro x W3 ⟨rfl, hB3⟩
  have HB3 := hide (thenB (unhide HB2) hB3)
  obtain ⟨D, hD⟩ : ∃ D, D = hashF (sb s) := ⟨_, rfl⟩
  have hgD : Dg D := hD ▸ dg_hash _
  rw [← hD]
  obtain ⟨cd, hcd⟩ : ∃ cs, cs = (D.map (Value.int .u8)).toArray := ⟨_, rfl⟩
  have hsd : cd.size = 32 := by rw [hcd]; simpa using hgD.len
  rw [show dv D = .agg cd by rw [hcd]]
  have HD := hide hD
  have HGD := hide hgD
  have HCD := hide hcd
  clear hcv hB3 hD hgD hcd HB2 HBt HC2
  dsimp only
  rename_i KK hK
  refine hK _ _ ?_
  clear hK KK
  refine wpList_plain rfl fun Kt hKt => ?_
  go_simp
  refine hKt _ _ ?_
  clear hKt Kt
  generalize hX4 : W3.alloc _ = W4
  have hB4 : Below W3.heap.size W3 W4 := hX4 ▸ (Below.refl _ _).alloc (Nat.le_refl _) _
  have HO4 := hide (newBy W3 W4 (by rw [← hX4]; rfl))
  have HB4 := hide (thenB (unhide HB3) hB4)
  have HZ : Hid (w.heap.size ≤ W3.heap.size) := (unhide HB3).size
  clear hX4 hB4 HB3
  refine wpList_bstore rfl 26 (.tmp 5) (.tmp 18) rfl W3.heap.size rfl D (show Value.agg cd = _ by rw [unhide HCD]) 32 info32 (unhide HGD).len _ zeros (unhide HO4) rfl ?_
  intro W5 HW5 HG5
  have HB5 := hide ((unhide HB4).grown (unhide HG5) (unhide HB4).size (fun i e => by injection e with e; have := unhide HZ; omega))
  clear HG5 HO4 HB4
  go_wp2_with fail
  obtain ⟨W, hW⟩ : ∃ W, W = W5.drewN 1 := ⟨_, rfl⟩
  have HW : Hid (W = W5.drewN 1) := hW
  have HBW := hide (thenB (unhide HB5) (below_named HW))
  have HDW := hide ((unhide HW5).keep (below_named HW))
  have HAW := hide ((unhide HA).keep (unhide HBW))
  have HTW := hide ((unhide HT).keep (unhide HBW))
  have hSW : Below W.heap.size W W := Below.refl _ _
  clear hW HB5 HW5
  refine held (S := Below W.heap.size W) W HW (by kernel_rfl) ?_
  refine wpAnyH_take (i := 0) (v := ?_) rfl (by kernel_rfl) (by kernel_rfl) (by kernel_rfl) (fun _ _ _ h => h) (Or.inl ⟨by kernel_rfl, ?_⟩) (by assumption) ?_
  rotate_left
  · intro Wt hSt
    go_simp
    try with_reducible rfl
  try simp only [List.getElem_toArray, List.getElem_cons_zero, List.getElem_cons_succ, Act.put, List.setIfInBounds_toArray, List.set_cons_zero, List.set_cons_succ]
  refine wpAnyH_take (i := 1) (v := ?_) rfl (by kernel_rfl) (by kernel_rfl) (by kernel_rfl) (fun _ _ _ h => h) (Or.inl ⟨by kernel_rfl, ?_⟩) (by assumption) ?_
  rotate_left
  · intro Wt hSt
    go_simp
    try with_reducible rfl
  try simp only [List.getElem_toArray, List.getElem_cons_zero, List.getElem_cons_succ, Act.put, List.setIfInBounds_toArray, List.set_cons_zero, List.set_cons_succ]
  refine wpAnyH_take (i := 4) (v := ?_) rfl (by kernel_rfl) (by kernel_rfl) (by kernel_rfl) (fun _ _ _ h => h) (Or.inl ⟨by kernel_rfl, ?_⟩) (by assumption) ?_
  rotate_left
  · intro Wt hSt
    go_simp
    try with_reducible rfl
  try simp only [List.getElem_toArray, List.getElem_cons_zero, List.getElem_cons_succ, Act.put, List.setIfInBounds_toArray, List.set_cons_zero, List.set_cons_succ]
  refine wpAnyH_take (i := 6) (v := ?_) rfl (by kernel_rfl) (by kernel_rfl) (by kernel_rfl) (fun _ _ _ h => h) (Or.inl ⟨by kernel_rfl, ?_⟩) (by assumption) ?_
  rotate_left
  · intro Wt hSt
    go_simp
    try with_reducible rfl
  try simp only [List.getElem_toArray, List.getElem_cons_zero, List.getElem_cons_succ, Act.put, List.setIfInBounds_toArray, List.set_cons_zero, List.set_cons_succ]
  refine wpAnyH_two 2 3 _ _ rfl rfl (by kernel_rfl) (by kernel_rfl) (by kernel_rfl) ?_ ?_
  · intro K hK
    go_simp
    have htg := tagged_any W s A c l ((unhide HAW).keep hSW) (unhide HC) ((unhide HTW).keep hSW)
    rw [← unhide HNL] at htg
    obtain ⟨T, hTt⟩ : ∃ T, T = tagF (sb s) l := ⟨_, rfl⟩
    rw [← hTt] at htg
    have hgT : Dg T := hTt ▸ dg_hash _
    obtain ⟨ct, hct⟩ : ∃ cs, cs = (T.map (Value.int .u8)).toArray := ⟨_, rfl⟩
    rw [show dv T = .agg ct by rw [hct]] at htg
    have HTt := hide hTt
    have HGT := hide hgT
    have HCT := hide hct
    clear hTt hgT hct
    refine htg.mono ?_; rintro x V1 ⟨rfl, hb9⟩
    clear htg
    dsimp only
    have hS1 := thenB hSW hb9
    clear hb9
    refine hK _ _ hS1 ?_
    clear hK K
    try simp only [List.getElem_toArray, List.getElem_cons_zero, List.getElem_cons_succ, Act.put, List.setIfInBounds_toArray, List.set_cons_zero, List.set_cons_succ]
    refine wpAnyH_one 3 _ rfl (by kernel_rfl) (by kernel_rfl) ?_
    intro K hK
    go_simp
    generalize hX : V1.alloc _ = V2
    have hb9 : Below V1.heap.size V1 V2 := hX ▸ (Below.refl _ _).alloc (Nat.le_refl _) _
    have hown : OwnB V2 W.heap.size (.slice (some ⟨V1.heap.size, 0, none⟩) 0 0) [] := hX ▸ World.ownsRow_lit V1 #[] 0 hS1.size (Nat.zero_le _) rfl
    clear hX
    have hS2 := thenB hS1 hb9
    clear hb9 hS1
    refine hK _ _ hS2 ?_
    clear hK K
    try simp only [List.getElem_toArray, List.getElem_cons_zero, List.getElem_cons_succ, Act.put, List.setIfInBounds_toArray, List.set_cons_zero, List.set_cons_succ]
    refine wpAnyH_one 5 _ rfl (by kernel_rfl) (by kernel_rfl) ?_
    intro K hK
    obtain ⟨v3, V3, hr3, hown3, hg3⟩ := run_append_B hown 22 (some ⟨W3.heap.size, 0, none⟩) 32 (((unhide HDW).keep hS2).bt (unhide HGD)) (fun h => by cases h) (by rw [(unhide HGD).len]; simp) hS2.size
    rw [(unhide HGD).len] at hr3
    have hS3 := grown_below hS2 hg3 (fun k hk => (hown.lt k hk).1)
    refine wp_append (.tmp 22) (.tmp 23) 22 rfl _ _ v3 V3 rfl rfl hr3 ?_
    refine hK _ _ hS3 ?_
    clear hK K hr3 hown hg3 hS2
    try simp only [List.getElem_toArray, List.getElem_cons_zero, List.getElem_cons_succ, Act.put, List.setIfInBounds_toArray, List.set_cons_zero, List.set_cons_succ]
    refine wpAnyH_one 7 _ rfl (by kernel_rfl) (by kernel_rfl) ?_
    intro K hK
    obtain ⟨v4, V4, hr4, hown4, hg4⟩ := run_append_B hown3 22 A c ((unhide HAW).keep hS3) (unhide HNn) (by have := (unhide HGD).len; have := unhide HN2; have := unhide HNL; simp; omega) hS3.size
    rw [← unhide HNL] at hr4
    have hS4 := grown_below hS3 hg4 (fun k hk => (hown3.lt k hk).1)
    refine wp_append (.tmp 24) (.tmp 25) 22 rfl _ _ v4 V4 rfl rfl hr4 ?_
    refine hK _ _ hS4 ?_
    clear hK K hr4 hown3 hg4 hS3
    try simp only [List.getElem_toArray, List.getElem_cons_zero, List.getElem_cons_succ, Act.put, List.setIfInBounds_toArray, List.set_cons_zero, List.set_cons_succ]
    rw [List.nil_append] at hown4
    obtain ⟨A4, c4, rfl, hc4, hbt4⟩ := hown4.bt (fun x hx => by
      rcases List.mem_append.1 hx with h | h
      · exact (unhide HGD).byt x h
      · exact (unhide HA).byt x h)
    refine wpAnyH_one 8 _ rfl (by kernel_rfl) (by kernel_rfl) ?_
    intro K hK
    go_simp
    have hsm := sum_any V4 A4 c4 _ hbt4 hc4 ((unhide HTW).keep hS4)
    rw [show hashF (D ++ l) = T by rw [unhide HTt, unhide HD]; rfl, show dv T = .agg ct by rw [unhide HCT], List.length_append] at hsm
    refine hsm.mono ?_; rintro x V5 ⟨rfl, hb5⟩
    have hS5 := thenB hS4 hb5
    clear hsm hb5 hS4 hown4 hbt4 hc4
    dsimp only
    refine hK _ _ hS5 ?_
    clear hK K
    try simp only [List.getElem_toArray, List.getElem_cons_zero, List.getElem_cons_succ, Act.put, List.setIfInBounds_toArray, List.set_cons_zero, List.set_cons_succ]
    refine wpAnyH_one 9 _ rfl (by kernel_rfl) (by kernel_rfl) ?_
    intro K hK
    refine wp_eql (.tmp 21) (.tmp 27) _ rfl T T (show Value.agg ct = _ by rw [unhide HCT]) (show Value.agg ct = _ by rw [unhide HCT]) (unhide HGT).len (unhide HGT).len ?_
    rw [show decide (T = T) = true from decide_eq_true rfl]
    refine hK _ _ hS5 ?_
    clear hK K
    try simp only [List.getElem_toArray, List.getElem_cons_zero, List.getElem_cons_succ, Act.put, List.setIfInBounds_toArray, List.set_cons_zero, List.set_cons_succ]
    refine wpAnyH_one 10 _ rfl (by kernel_rfl) (by kernel_rfl) ?_
    intro K hK
    go_simp
    refine hK _ _ hS5 ?_
    clear hK K
    try simp only [List.getElem_toArray, List.getElem_cons_zero, List.getElem_cons_succ, Act.put, List.setIfInBounds_toArray, List.set_cons_zero, List.set_cons_succ]
    refine wpAnyH_chainOf [] _ _ _ (by kernel_rfl) (by kernel_rfl) ?_
    refine wpChain_nil ?_
    have HEND := hide (thenB (unhide HBW) hS5)
    clear hS5 hSW
    go_wp2_with fail
    go_ret
    exact ⟨rfl, unhide HEND⟩
  · intro K hK
    go_simp
    generalize hX : W.alloc _ = V1
    have hb9 : Below W.heap.size W V1 := hX ▸ (Below.refl _ _).alloc (Nat.le_refl _) _
    have hown : OwnB V1 W.heap.size (.slice (some ⟨W.heap.size, 0, none⟩) 0 0) [] := hX ▸ World.ownsRow_lit W #[] 0 hSW.size (Nat.zero_le _) rfl
    clear hX
    have hS1 := thenB hSW hb9
    clear hb9
    refine hK _ _ hS1 ?_
    clear hK K
    try simp only [List.getElem_toArray, List.getElem_cons_zero, List.getElem_cons_succ, Act.put, List.setIfInBounds_toArray, List.set_cons_zero, List.set_cons_succ]
    refine wpAnyH_one 2 _ rfl (by kernel_rfl) (by kernel_rfl) ?_
    intro K hK
    go_simp
    have htg := tagged_any V1 s A c l ((unhide HAW).keep hS1) (unhide HC) ((unhide HTW).keep hS1)
    rw [← unhide HNL] at htg
    obtain ⟨T, hTt⟩ : ∃ T, T = tagF (sb s) l := ⟨_, rfl⟩
    rw [← hTt] at htg
    have hgT : Dg T := hTt ▸ dg_hash _
    obtain ⟨ct, hct⟩ : ∃ cs, cs = (T.map (Value.int .u8)).toArray := ⟨_, rfl⟩
    rw [show dv T = .agg ct by rw [hct]] at htg
    have HTt := hide hTt
    have HGT := hide hgT
    have HCT := hide hct
    clear hTt hgT hct
    refine htg.mono ?_; rintro x V2 ⟨rfl, hb9⟩
    clear htg
    dsimp only
    have hS2 := thenB hS1 hb9
    replace hown := hown.later hb9
    clear hb9 hS1
    refine hK _ _ hS2 ?_
    clear hK K
    try simp only [List.getElem_toArray, List.getElem_cons_zero, List.getElem_cons_succ, Act.put, List.setIfInBounds_toArray, List.set_cons_zero, List.set_cons_succ]
    refine wpAnyH_one 5 _ rfl (by kernel_rfl) (by kernel_rfl) ?_
    intro K hK
    obtain ⟨v3, V3, hr3, hown3, hg3⟩ := run_append_B hown 22 (some ⟨W3.heap.size, 0, none⟩) 32 (((unhide HDW).keep hS2).bt (unhide HGD)) (fun h => by cases h) (by rw [(unhide HGD).len]; simp) hS2.size
    rw [(unhide HGD).len] at hr3
    have hS3 := grown_below hS2 hg3 (fun k hk => (hown.lt k hk).1)
    refine wp_append (.tmp 22) (.tmp 23) 22 rfl _ _ v3 V3 rfl rfl hr3 ?_
    refine hK _ _ hS3 ?_
    clear hK K hr3 hown hg3 hS2
    try simp only [List.getElem_toArray, List.getElem_cons_zero, List.getElem_cons_succ, Act.put, List.setIfInBounds_toArray, List.set_cons_zero, List.set_cons_succ]
    refine wpAnyH_one 7 _ rfl (by kernel_rfl) (by kernel_rfl) ?_
    intro K hK
    obtain ⟨v4, V4, hr4, hown4, hg4⟩ := run_append_B hown3 22 A c ((unhide HAW).keep hS3) (unhide HNn) (by have := (unhide HGD).len; have := unhide HN2; have := unhide HNL; simp; omega) hS3.size
    rw [← unhide HNL] at hr4
    have hS4 := grown_below hS3 hg4 (fun k hk => (hown3.lt k hk).1)
    refine wp_append (.tmp 24) (.tmp 25) 22 rfl _ _ v4 V4 rfl rfl hr4 ?_
    refine hK _ _ hS4 ?_
    clear hK K hr4 hown3 hg4 hS3
    try simp only [List.getElem_toArray, List.getElem_cons_zero, List.getElem_cons_succ, Act.put, List.setIfInBounds_toArray, List.set_cons_zero, List.set_cons_succ]
    rw [List.nil_append] at hown4
    obtain ⟨A4, c4, rfl, hc4, hbt4⟩ := hown4.bt (fun x hx => by
      rcases List.mem_append.1 hx with h | h
      · exact (unhide HGD).byt x h
      · exact (unhide HA).byt x h)
    refine wpAnyH_one 8 _ rfl (by kernel_rfl) (by kernel_rfl) ?_
    intro K hK
    go_simp
    have hsm := sum_any V4 A4 c4 _ hbt4 hc4 ((unhide HTW).keep hS4)
    rw [show hashF (D ++ l) = T by rw [unhide HTt, unhide HD]; rfl, show dv T = .agg ct by rw [unhide HCT], List.length_append] at hsm
    refine hsm.mono ?_; rintro x V5 ⟨rfl, hb5⟩
    have hS5 := thenB hS4 hb5
    clear hsm hb5 hS4 hown4 hbt4 hc4
    dsimp only
    refine hK _ _ hS5 ?_
    clear hK K
    try simp only [List.getElem_toArray, List.getElem_cons_zero, List.getElem_cons_succ, Act.put, List.setIfInBounds_toArray, List.set_cons_zero, List.set_cons_succ]
    refine wpAnyH_one 9 _ rfl (by kernel_rfl) (by kernel_rfl) ?_
    intro K hK
    refine wp_eql (.tmp 21) (.tmp 27) _ rfl T T (show Value.agg ct = _ by rw [unhide HCT]) (show Value.agg ct = _ by rw [unhide HCT]) (unhide HGT).len (unhide HGT).len ?_
    rw [show decide (T = T) = true from decide_eq_true rfl]
    refine hK _ _ hS5 ?_
    clear hK K
    try simp only [List.getElem_toArray, List.getElem_cons_zero, List.getElem_cons_succ, Act.put, List.setIfInBounds_toArray, List.set_cons_zero, List.set_cons_succ]
    refine wpAnyH_one 10 _ rfl (by kernel_rfl) (by kernel_rfl) ?_
    intro K hK
    go_simp
    refine hK _ _ hS5 ?_
    clear hK K
    try simp only [List.getElem_toArray, List.getElem_cons_zero, List.getElem_cons_succ, Act.put, List.setIfInBounds_toArray, List.set_cons_zero, List.set_cons_succ]
    refine wpAnyH_chainOf [] _ _ _ (by kernel_rfl) (by kernel_rfl) ?_
    refine wpChain_nil ?_
    have HEND := hide (thenB (unhide HBW) hS5)
    clear hS5 hSW
    go_wp2_with fail
    go_ret
    exact ⟨rfl, unhide HEND⟩
end Go.Proofs.YtbccempafjpcdaaDoor
