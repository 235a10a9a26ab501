/- The reference's tagged hash: a contract. The reference's tree: half, node, Tree. The reference's tree: Tree. Two lists of bits are compared. The reference of signing: Valid, hash, two, secret. The reference of signing: one. The reference of signing: two digests in a slice. The reference of signing: keys. The reference of signing: Public. The reference of signing: Bits. The reference of signing: New. The reference of signing: SameKey. What SigningKeySpec compares: New and the bits. The law SigningKeySpec: New, Public and Bits are those of the reference. -/
import Derived.Test.YtninjgplgoimeaaDoorDigRAll
import Derived.Test.YtninjgplgoimeaaDoorDigTag
import Derived.Test.YtninjgplgoimeaaDoorDigApp2
import Derived.Test.YtninjgplgoimeaaDoorDigTop
import Derived.Test.YtninjgplgoimeaaDoorDigTwo
import Derived.Test.YtninjgplgoimeaaDoorSigSane
import Derived.Laws.BytesString
import Derived.Lib.BufferRead
import Derived.Test.YtninjgplgoimeaaDoorClose
namespace Go.Proofs.YtninjgplgoimeaaDoor
set_option linter.unusedSimpArgs false
set_option linter.unusedVariables false
open Go.RowKit

set_option maxRecDepth 100000 in
set_option maxHeartbeats 2000000 in
theorem rtag_any (w : World) (s : ByteArray) (A : Option Addr) (c : Nat) (l : List Int) (hA : Bt w A l) (hc : l.length ≤ c) (hn : A = none → c = 0) (hl : l.length ≤ 800000000) (hs : (sb s).length ≤ 800000000) :
    Calls Tryd.prog 48 #[.string s, .slice A l.length c] w fun x w' => x = .returned (dv (tagF (sb s) l)) ∧ Below w.heap.size w w' := by
  obtain ⟨n, hnl⟩ : ∃ n, n = l.length := ⟨_, rfl⟩
  have HA := hide hA
  have HL : Hid (n = l.length ∧ l.length ≤ 800000000 ∧ l.length ≤ c ∧ (sb s).length ≤ 800000000) := ⟨hnl, hl, hc, hs⟩
  have HNn := hide hn
  rw [← hnl]
  clear hnl hl hA hn hc hs
  go_enter Tryd.func48, Tryd.ntmps48
  go_upto_region 1 with fail
  generalize hX1 : w.alloc _ = W1
  have hB1 : Below w.heap.size w W1 := hX1 ▸ (Below.refl _ _).alloc (Nat.le_refl _) _
  have HR1 := hide (newBy w W1 (by rw [← hX1]; rfl))
  have HB1 := hide hB1
  clear hX1 hB1
  obtain ⟨W2, C, hcv, hB2, hBt, hC⟩ := conv_str W1 s
  have HB2 := hide (thenB (unhide HB1) hB2)
  have HR2 := hide ((unhide HR1).keep hB2)
  have HBt := hide hBt
  have HC2 : Hid ((sb s).length ≤ C) := hC
  clear hB2 hBt hC HR1 HB1
  go_wp2_with fail
  refine (rsum_any W2 _ C (sb s) (unhide HBt) (unhide HC2) (fun h => by cases h) (by have := unhide HL; omega)).mono ?_; rintro x W3 ⟨rfl, hB3⟩
  have HB3 := hide (thenB (unhide HB2) hB3)
  have HR3 := hide ((unhide HR2).keep hB3)
  obtain ⟨D, hD⟩ : ∃ D, D = hashF (sb s) := ⟨_, rfl⟩
  have hgD : Dg D := hD ▸ dg_hash _
  rw [← hD]
  obtain ⟨cd, hcd⟩ : ∃ cs, cs = (D.map (Value.int .u8)).toArray := ⟨_, rfl⟩
  rw [show dv D = .agg cd by rw [hcd]]
  have HD := hide hD
  have HGD := hide hgD
  have HCD := hide hcd
  clear hcv hB3 hD hgD hcd HB2 HBt HC2 HR2
  dsimp only
  rename_i KK hK
  refine hK _ _ ?_
  clear hK KK
  refine wpList_plain rfl fun Kt hKt => ?_
  go_simp
  refine hKt _ _ ?_
  clear hKt Kt
  generalize hX4 : W3.alloc _ = W4
  have hB4 : Below W3.heap.size W3 W4 := hX4 ▸ (Below.refl _ _).alloc (Nat.le_refl _) _
  have HO4 := hide (newBy W3 W4 (by rw [← hX4]; rfl))
  have HB4 := hide (thenB (unhide HB3) hB4)
  have HR4 := hide ((unhide HR3).keep hB4)
  obtain ⟨M, hM⟩ : ∃ M, M = W3.heap.size := ⟨_, rfl⟩
  have HM : Hid (w.heap.size < M) := hM ▸ lt_of_block (unhide HR3)
  rw [← hM] at HO4 ⊢
  clear hX4 hB4 HB3 HR3 hM
  refine wpList_bstore rfl 24 (.tmp 5) (.tmp 8) rfl M rfl D (show Value.agg cd = _ by rw [unhide HCD]) 32 info32 (unhide HGD).len _ zeros (unhide HO4) rfl ?_
  intro W5 HW5 HG5
  have HB5 := hide ((unhide HB4).grown (unhide HG5) (unhide HB4).size (fun i e => by injection e with e; have := unhide HM; omega))
  have HR5 := hide ((unhide HR4).grown (unhide HG5) (by have := unhide HM; omega))
  clear HG5 HO4 HB4 HR4
  try simp only [List.getElem_toArray, List.getElem_cons_zero, List.getElem_cons_succ, Act.put, List.setIfInBounds_toArray, List.set_cons_zero, List.set_cons_succ]
  go_upto_region 2 with fail
  refine wp_region_lit ?_
  refine wpList_plain rfl fun Kt hKt => ?_
  go_simp
  refine hKt _ _ ?_
  clear hKt Kt
  generalize hX : W5.alloc _ = V1
  have hv1 : Below W5.heap.size W5 V1 := hX ▸ (Below.refl _ _).alloc (Nat.le_refl _) _
  have hown1 : OwnB V1 W5.heap.size (.slice (some ⟨W5.heap.size, 0, none⟩) 0 0) [] := hX ▸ World.ownsRow_lit W5 #[] 0 (Nat.le_refl _) (Nat.zero_le _) rfl
  clear hX
  refine wpList_plain rfl fun Kt hKt => ?_
  go_simp
  refine hKt _ _ ?_
  clear hKt Kt
  refine wpList_plain rfl fun Kt hKt => ?_
  obtain ⟨v2, V2, hr2, hown2, hg2⟩ := run_append_B hown1 22 (some ⟨M, 0, none⟩) 32 (((unhide HW5).keep hv1).bt (unhide HGD)) (fun h => by cases h) (by rw [(unhide HGD).len]; simp) hv1.size
  rw [(unhide HGD).len] at hr2
  have hv2 := grown_below hv1 hg2 (fun k hk => (hown1.lt k hk).1)
  refine wp_append (.tmp 9) (.tmp 10) 22 rfl _ _ v2 V2 rfl rfl hr2 ?_
  refine hKt _ _ ?_
  clear hKt Kt hr2 hown1 hg2 hv1
  try simp only [List.getElem_toArray, List.getElem_cons_zero, List.getElem_cons_succ, Act.put, List.setIfInBounds_toArray, List.set_cons_zero, List.set_cons_succ]
  refine wpList_plain rfl fun Kt hKt => ?_
  go_simp
  refine hKt _ _ ?_
  clear hKt Kt
  refine wpList_plain rfl fun Kt hKt => ?_
  obtain ⟨v3, V3, hr3, hown3, hg3⟩ := run_append_B hown2 22 A c (((unhide HA).keep (unhide HB5)).keep hv2) (unhide HNn) (by have h1 := (unhide HGD).len; have h2 := unhide HL; rw [List.nil_append]; omega) hv2.size
  rw [← (unhide HL).1] at hr3
  have hv3 := grown_below hv2 hg3 (fun k hk => (hown2.lt k hk).1)
  refine wp_append (.tmp 11) (.tmp 12) 22 rfl _ _ v3 V3 rfl rfl hr3 ?_
  refine hKt _ _ ?_
  clear hKt Kt hr3 hown2 hg3 hv2
  try simp only [List.getElem_toArray, List.getElem_cons_zero, List.getElem_cons_succ, Act.put, List.setIfInBounds_toArray, List.set_cons_zero, List.set_cons_succ]
  rw [List.nil_append] at hown3
  have hne : D ++ l ≠ [] := by
    intro h
    have h1 := congrArg List.length h
    rw [List.length_append, (unhide HGD).len] at h1
    simp at h1
  obtain ⟨g3, c3, rfl, -, -, -⟩ := hown3.opened hne
  have hbt3 : Bt V3 (some ⟨g3, 0, none⟩) (D ++ l) ∧ (D ++ l).length ≤ c3 := by
    obtain ⟨A4, c4, e, hc4, hbt4⟩ := hown3.bt (fun x hx => by
      rcases List.mem_append.1 hx with h | h
      · exact (unhide HGD).byt x h
      · exact (unhide HA).byt x h)
    injection e with e1 e2 e3
    subst e1 e3
    exact ⟨hbt4, hc4⟩
  have hsm := rsum_any V3 (some ⟨g3, 0, none⟩) c3 (D ++ l) hbt3.1 hbt3.2 (fun h => by cases h) (by have h1 := (unhide HGD).len; have h2 := unhide HL; rw [List.length_append]; omega)
  obtain ⟨T, hT⟩ : ∃ T, T = tagF (sb s) l := ⟨_, rfl⟩
  rw [show hashF (D ++ l) = T by rw [hT, unhide HD]; rfl] at hsm
  have HTT := hide hT
  obtain ⟨nl, hnl⟩ : ∃ nl, nl = (D ++ l).length := ⟨_, rfl⟩
  rw [← hnl] at hsm ⊢
  have hgT : Dg T := hT ▸ dg_hash _
  obtain ⟨ct, hct⟩ : ∃ cs, cs = (T.map (Value.int .u8)).toArray := ⟨_, rfl⟩
  rw [show dv T = .agg ct by rw [hct]] at hsm
  have HCT := hide hct
  have HGT := hide hgT
  have HV3 := hide (thenB (unhide HB5) hv3)
  have HR6 := hide ((unhide HR5).keep hv3)
  clear hct hgT hT hnl hbt3 hown3 hne hv3
  refine wpList_plain rfl fun Kt hKt => ?_
  go_simp
  refine hsm.mono ?_; rintro x V4 ⟨rfl, hb4⟩
  dsimp only
  refine hKt _ _ ?_
  clear hKt Kt hsm
  have HV4 := hide (thenB (unhide HV3) hb4)
  have HR7 := hide ((unhide HR6).keep hb4)
  clear hb4
  try simp only [List.getElem_toArray, List.getElem_cons_zero, List.getElem_cons_succ, Act.put, List.setIfInBounds_toArray, List.set_cons_zero, List.set_cons_succ]
  refine wpList_bstore rfl 24 (.tmp 4) (.tmp 14) rfl w.heap.size rfl T (show Value.agg ct = _ by rw [unhide HCT]) 32 info32 (unhide HGT).len _ zeros (unhide HR7) rfl ?_
  intro V9 HV9 HG9
  have HB9 := hide ((unhide HV4).grown (unhide HG9) (unhide HV4).size (fun i e => by injection e with e; omega))
  go_wp2_with fail
  try simp only [Exit.inBlock, Exit.then]
  exact bret rfl rfl w.heap.size rfl _ _ (unhide HV9) (unhide HGT).len ⟨by rw [unhide HTT], unhide HB9⟩

end Go.Proofs.YtninjgplgoimeaaDoor
namespace Go.Proofs.YtninjgplgoimeaaDoor
set_option linter.unusedSimpArgs false
set_option linter.unusedVariables false
open Go.RowKit

theorem half_is {n i K : Nat} (hK : K = 2 ^ i) (h1 : K < n) (h2 : ¬ 2 * K < n) : halfN n = K := by
  have h0 : n - 1 ≠ 0 := by
    have := Nat.pow_pos (n := i) (show 0 < 2 by omega)
    omega
  have h3 : Nat.log2 (n - 1) = i := (Nat.log2_eq_iff h0).2 ⟨by omega, by rw [Nat.pow_succ]; omega⟩
  unfold halfN
  rw [h3, hK]
set_option maxRecDepth 100000 in
set_option maxHeartbeats 2000000 in
theorem rhalf_any (n : Nat) (h2 : 2 ≤ n) (hn : n ≤ 1099511627776) (w : World) :
    Calls Tryd.prog 49 #[.int .i64 (n : Int)] w fun e w' => e = .returned (.int .i64 ((halfN n : Nat) : Int)) ∧ w' = w := by
  have HN : Hid (2 ≤ n ∧ n ≤ 1099511627776) := ⟨h2, hn⟩
  clear h2 hn
  go_enter Tryd.func49, Tryd.ntmps49
  go_wp2_with fail
  go_loopg [3] 41 (fun g y wx => ∃ (i K : Nat), g + i = 41 ∧ y = .int .i64 (K : Int) ∧ K = 2 ^ i ∧ K < n ∧ wx = w)
  case atStart => exact ⟨0, 1, rfl, rfl, rfl, by have := unhide HN; omega, rfl⟩
  case round =>
    obtain ⟨i, K, hg, rfl, hK, hKn, rfl⟩ := hrel
    have k0 : (0 : Int) ≤ (K : Int) := Int.natCast_nonneg _
    have kM : (K : Int) ≤ 1099511627776 := by have := unhide HN; omega
    by_cases hlt : 2 * K < n
    · have hl : 2 * (K : Int) < (n : Int) := by omega
      have h41 : i + 1 < 41 := by
        rcases Nat.lt_or_ge (i + 1) 41 with h | h
        · exact h
        · have h3 := Nat.pow_le_pow_right (n := 2) (by omega) h
          rw [Nat.pow_succ] at h3
          have := unhide HN
          omega
      obtain ⟨g, rfl⟩ : ∃ g, gk = g + 1 := ⟨gk - 1, by omega⟩
      have HKK : Hid (g + 1 + i = 41 ∧ K = 2 ^ i ∧ 2 * K < n) := ⟨hg, hK, hlt⟩
      clear hg hK hKn hlt h41
      go_wp2_with fail
      go_roundg g
      case measure => omega
      case rel => exact ⟨i + 1, 2 * K, by have := (unhide HKK).1; omega, by push_cast; rfl, by rw [Nat.pow_succ, (unhide HKK).2.1]; omega, (unhide HKK).2.2, rfl⟩
    · have hl : ¬ 2 * (K : Int) < (n : Int) := by omega
      have hh := half_is hK hKn hlt
      have HH := hide hh
      clear hg hK hKn hlt hh
      go_wp2_with fail
      go_ret
      exact ⟨by rw [unhide HH]; rfl, rfl⟩

set_option maxRecDepth 100000 in
set_option maxHeartbeats 4000000 in
theorem rnode_any (w : World) (d e : List Int) (hd : Dg d) (he : Dg e) :
    Calls Tryd.prog 50 #[dv d, dv e] w fun x w' => x = .returned (dv (nodeP d e)) ∧ Below w.heap.size w w' := by
  have HD := hide hd
  have hld := hd.len
  obtain ⟨cd, hcd⟩ : ∃ cs, cs = (d.map (Value.int .u8)).toArray := ⟨_, rfl⟩
  have hsd : cd.size = 32 := by rw [hcd]; simpa using hld
  rw [show dv d = .agg cd by rw [hcd]]
  have HE := hide he
  have hle := he.len
  obtain ⟨ce, hce⟩ : ∃ cs, cs = (e.map (Value.int .u8)).toArray := ⟨_, rfl⟩
  have hse : ce.size = 32 := by rw [hce]; simpa using hle
  rw [show dv e = .agg ce by rw [hce]]
  clear hd hld he hle
  go_enter Tryd.func50, Tryd.ntmps50
  go_upto_region 1 with fail
  generalize hX1 : w.alloc _ = W1
  have hB1 : Below w.heap.size w W1 := hX1 ▸ (Below.refl _ _).alloc (Nat.le_refl _) _
  have ho1 : ByAt W1 w.heap.size 24 d := boxed w W1 d _ (by rw [← hX1]; first | rfl | (rw [hcd]; rfl))
  have hz1 : W1.heap.size = w.heap.size + 1 := by rw [← hX1]; show (w.heap.push _).size = _; rw [Array.size_push]
  generalize hX2 : W1.alloc _ = W2
  have hB2 : Below W1.heap.size W1 W2 := hX2 ▸ (Below.refl _ _).alloc (Nat.le_refl _) _
  have ho2 : ByAt W2 W1.heap.size 24 e := boxed W1 W2 e _ (by rw [← hX2]; first | rfl | (rw [hce]; rfl))
  have hz2 : W2.heap.size = w.heap.size + 2 := by rw [← hX2]; show (W1.heap.push _).size = _; rw [Array.size_push]; omega
  generalize hX3 : W2.alloc _ = W3
  have hB3 : Below W2.heap.size W2 W3 := hX3 ▸ (Below.refl _ _).alloc (Nat.le_refl _) _
  have ho3 : ByAt W3 W2.heap.size 24 zeros := newBy W2 W3 (by rw [← hX3]; rfl)
  have hz3 : W3.heap.size = w.heap.size + 3 := by rw [← hX3]; show (W2.heap.push _).size = _; rw [Array.size_push]; omega
  have hB : Below w.heap.size w W3 := (thenB (thenB hB1 hB2) hB3)
  have hk1 := ((ho1.keep hB2).keep hB3)
  have hk2 := (ho2.keep hB3)
  rw [hz1] at hk2
  have hk3 := ho3
  rw [hz2] at hk3
  obtain ⟨W, hW⟩ : ∃ W, W = W3.drewN 1 := ⟨_, rfl⟩
  have HW : Hid (W = W3.drewN 1) := hW
  have HK1 := hide (hk1.keep (below_named HW))
  have HK2 := hide (hk2.keep (below_named HW))
  have HK3 := hide (hk3.keep (below_named HW))
  have HB := hide (thenB hB (below_named HW))
  have HZ : Hid (w.heap.size + 3 ≤ W.heap.size) := by have := (below_named HW).size; show _ ≤ _; omega
  have hS0 : Below W.heap.size W W := Below.refl _ _
  clear hW hB hX1 hB1 ho1 hz1 hk1 hX2 hB2 ho2 hz2 hk2 hX3 hB3 ho3 hz3 hk3 hcd hce
  refine held (S := Below w.heap.size w) W HW (by kernel_rfl) ?_
  have hSW := unhide HB
  refine wpAnyH_take (i := 1) (v := ?_) rfl (by kernel_rfl) (by kernel_rfl) (by kernel_rfl) (fun _ _ _ h => h) (Or.inl ⟨by kernel_rfl, ?_⟩) (by assumption) ?_
  rotate_left
  · intro Wt hSt
    go_simp
    try with_reducible rfl
  try simp only [List.getElem_toArray, List.getElem_cons_zero, List.getElem_cons_succ, Act.put, List.setIfInBounds_toArray, List.set_cons_zero, List.set_cons_succ]
  refine wpAnyH_take (i := 3) (v := ?_) rfl (by kernel_rfl) (by kernel_rfl) (by kernel_rfl) (fun _ _ _ h => h) (Or.inl ⟨by kernel_rfl, ?_⟩) (by assumption) ?_
  rotate_left
  · intro Wt hSt
    go_simp
    try with_reducible rfl
  try simp only [List.getElem_toArray, List.getElem_cons_zero, List.getElem_cons_succ, Act.put, List.setIfInBounds_toArray, List.set_cons_zero, List.set_cons_succ]
  refine wpAnyH_chainOf [0, 2, 4, 5, 6] _ _ _ (by kernel_rfl) (by kernel_rfl) ?_
  simp only [List.filterMap_cons, List.filterMap_nil, List.getElem?_toArray, List.getElem?_cons_zero, List.getElem?_cons_succ]
  refine wpChain_step rfl fun K hK => ?_
  go_simp
  generalize hX : W.alloc _ = V1
  have hv1 : Below W.heap.size W V1 := hX ▸ (Below.refl _ _).alloc (Nat.le_refl _) _
  have hown1 : OwnB V1 W.heap.size (.slice (some ⟨W.heap.size, 0, none⟩) 0 0) [] := hX ▸ World.ownsRow_lit W #[] 0 (Nat.le_refl _) (Nat.zero_le _) rfl
  clear hX
  refine hK _ _ (thenB hSW hv1) ?_
  clear hK K
  refine wpChain_step rfl fun K hK => ?_
  obtain ⟨v2, V2, hr2, hown2, hg2⟩ := run_append_B hown1 22 (some ⟨w.heap.size, 0, none⟩) 32 (((unhide HK1).keep hv1).bt (unhide HD)) (fun h => by cases h) (by rw [(unhide HD).len]; simp) hv1.size
  rw [(unhide HD).len] at hr2
  have hv2 := grown_below hv1 hg2 (fun k hk => (hown1.lt k hk).1)
  refine wp_append (.tmp 5) (.tmp 6) 22 rfl _ _ v2 V2 rfl rfl hr2 ?_
  refine hK _ _ (thenB hSW hv2) ?_
  clear hK K hr2 hown1 hg2 hv1
  refine wpChain_step rfl fun K hK => ?_
  obtain ⟨v3, V3, hr3, hown3, hg3⟩ := run_append_B hown2 22 (some ⟨w.heap.size + 1, 0, none⟩) 32 (((unhide HK2).keep hv2).bt (unhide HE)) (fun h => by cases h) (by rw [List.nil_append, (unhide HD).len, (unhide HE).len]; omega) hv2.size
  rw [(unhide HE).len] at hr3
  have hv3 := grown_below hv2 hg3 (fun k hk => (hown2.lt k hk).1)
  refine wp_append (.tmp 7) (.tmp 8) 22 rfl _ _ v3 V3 rfl rfl hr3 ?_
  refine hK _ _ (thenB hSW hv3) ?_
  clear hK K hr3 hown2 hg3 hv2
  rw [List.nil_append] at hown3
  have hlen : (d ++ e).length = 64 := by rw [List.length_append, (unhide HD).len, (unhide HE).len]
  have hne : d ++ e ≠ [] := by
    intro h
    rw [h] at hlen
    simp at hlen
  obtain ⟨g3, c3, rfl, -, -, -⟩ := hown3.opened hne
  have hbt3 : Bt V3 (some ⟨g3, 0, none⟩) (d ++ e) ∧ (d ++ e).length ≤ c3 := by
    obtain ⟨A4, c4, e', hc4, hbt4⟩ := hown3.bt (fun x hx => by
      rcases List.mem_append.1 hx with h | h
      · exact (unhide HD).byt x h
      · exact (unhide HE).byt x h)
    injection e' with e1 e2 e3
    subst e1 e3
    exact ⟨hbt4, hc4⟩
  have hsm := rtag_any V3 ⟨#[110, 111, 100, 101]⟩ (some ⟨g3, 0, none⟩) c3 (d ++ e) hbt3.1 hbt3.2 (fun h => by cases h) (by rw [hlen]; omega) (by decide)
  rw [show sb ⟨#[110, 111, 100, 101]⟩ = [110, 111, 100, 101] by decide] at hsm
  obtain ⟨T, hT⟩ : ∃ T, T = nodeP d e := ⟨_, rfl⟩
  rw [show tagF [110, 111, 100, 101] (d ++ e) = T from hT ▸ rfl] at hsm
  have HTT := hide hT
  have hgT : Dg T := hT ▸ dg_hash _
  obtain ⟨nl, hnl⟩ : ∃ nl, nl = (d ++ e).length := ⟨_, rfl⟩
  rw [← hnl] at hsm ⊢
  obtain ⟨ct, hct⟩ : ∃ cs, cs = (T.map (Value.int .u8)).toArray := ⟨_, rfl⟩
  rw [show dv T = .agg ct by rw [hct]] at hsm
  have HCT := hide hct
  have HGT := hide hgT
  have hSV := thenB hSW hv3
  have hO3 := (unhide HK3).keep hv3
  clear hct hgT hT hnl hbt3 hown3 hne hv3 hlen
  refine wpChain_step rfl fun K hK => ?_
  go_simp
  refine hsm.mono ?_; rintro x V4 ⟨rfl, hb4⟩
  have hS4 := thenB hSV hb4
  have hO4 := hO3.keep hb4
  dsimp only
  refine hK _ _ hS4 ?_
  clear hK K hsm
  refine wpChain_bstore rfl 24 (.tmp 4) (.tmp 10) rfl (w.heap.size + 2) rfl T (show Value.agg ct = _ by rw [unhide HCT]) 32 info32 (unhide HGT).len _ zeros hO4 rfl ?_
  intro W9 HW9 HG
  have hS9 : Below w.heap.size w W9 := hS4.grown (unhide HG) hS4.size (fun i e => by injection e with e; omega)
  refine ⟨hS9, wpChain_nil ?_⟩
  have HS9 := hide hS9
  clear hO4 hO3 hS4 hSV hSW hS9 hb4
  go_wp2_with fail
  try simp only [Exit.inBlock, Exit.then]
  exact bret rfl rfl (w.heap.size + 2) rfl _ _ (unhide HW9) (unhide HGT).len ⟨by rw [unhide HTT], unhide HS9⟩
end Go.Proofs.YtninjgplgoimeaaDoor
namespace Go.Proofs.YtninjgplgoimeaaDoor
set_option linter.unusedSimpArgs false
set_option linter.unusedVariables false
open Go.RowKit

theorem treeD_ne {l : List (List Int)} (h : l ≠ []) : treeD l = treeP l := if_neg h
theorem bt_of_range {w : World} {b o : Nat} {d : List Int} (hd : Dg d) (h : w.rangeAt b o (d.map (Value.int .u8))) : Bt w (some ⟨b, o, none⟩) d :=
  ⟨hd.byt, fun _ => ⟨b, o, rfl, fun i hi => h i _ (by rw [List.getElem?_map, List.getD_eq_getElem?_getD, List.getElem?_eq_getElem hi]; rfl)⟩⟩
set_option maxRecDepth 100000 in
set_option maxHeartbeats 4000000 in
theorem rtree_step (n : Nat) (IH : ∀ (l : List (List Int)), l.length < n → ∀ (w : World) (c : Nat) (A : Option Addr), Ds w A l → l.length ≤ c →
      Calls Tryd.prog 16 #[.slice A l.length c] w fun x w' => x = .returned (dv (treeD l)) ∧ Below w.heap.size w w')
    (l : List (List Int)) (hn : l.length = n) (h1000 : n ≤ 1099511627776) (w : World) (c : Nat) (A : Option Addr) (hA : Ds w A l) (hc : l.length ≤ c) :
    Calls Tryd.prog 16 #[.slice A n c] w fun x w' => x = .returned (dv (treeD l)) ∧ Below w.heap.size w w' := by
  by_cases hz : n = 0
  · subst hz
    obtain rfl := List.length_eq_zero_iff.1 hn
    clear IH hA hc hn
    go_enter Tryd.func16, Tryd.ntmps16
    go_upto_region 1 with fail
    generalize hX1 : w.alloc _ = W1
    have hB1 : Below w.heap.size w W1 := hX1 ▸ (Below.refl _ _).alloc (Nat.le_refl _) _
    have HO1 := hide (newBy w W1 (by rw [← hX1]; rfl))
    have HB1 := hide hB1
    clear hX1 hB1
    go_wp2_with fail
    refine (rtag_any W1 ⟨#[101, 109, 112, 116, 121]⟩ none 0 [] Bt.nil (Nat.le_refl _) (fun _ => rfl) (by decide) (by decide)).mono ?_; rintro x W2 ⟨rfl, hB2⟩
    rw [sb_empty]
    have HB2 := hide (thenB (unhide HB1) hB2)
    have HO2 := hide ((unhide HO1).keep hB2)
    clear hB2
    dsimp only
    rename_i KK hK
    refine hK _ _ ?_
    clear hK KK
    refine wpList_bstore rfl 24 (.tmp 2) (.tmp 7) rfl w.heap.size rfl emptyP rfl 32 info32 (dg_hash _).len _ zeros (unhide HO2) rfl ?_
    intro W9 HW9 HG
    go_wp2_with fail
    try simp only [Exit.inBlock, Exit.then]
    exact bret rfl rfl w.heap.size rfl _ _ (unhide HW9) (dg_hash _).len ⟨rfl, (unhide HB2).grown (unhide HG) (unhide HB2).size (fun i e => by injection e with e; omega)⟩
  have hne : l ≠ [] := fun e => by rw [e] at hn; exact hz hn.symm
  rw [treeD_ne hne]
  have HI := hide IH
  have HA := hide hA
  have HN := hide hn
  obtain ⟨sb', so, rfl, hrg⟩ := hA.at_ hne
  have HR := hide hrg
  have hcn : (n : Int) ≤ (c : Int) := by omega
  have HC : Hid (n ≤ c ∧ n ≤ 1099511627776) := ⟨by omega, h1000⟩
  by_cases h1 : n = 1
  · obtain ⟨d, rfl⟩ : ∃ d, l = [d] := List.length_eq_one_iff.1 (by omega)
    subst h1
    have hd0 := hA.dg d (by simp)
    have HD := hide hd0
    have hr0 := hrg 0 d rfl
    rw [Nat.zero_mul, Nat.add_zero] at hr0
    have HR0 := hide hr0
    clear IH hA hn hc hrg hd0 h1000 hcn hne hz hr0
    go_enter Tryd.func16, Tryd.ntmps16
    go_upto_region 1 with fail
    generalize hX1 : w.alloc _ = W1
    have hB1 : Below w.heap.size w W1 := hX1 ▸ (Below.refl _ _).alloc (Nat.le_refl _) _
    have HO1 := hide (newBy w W1 (by rw [← hX1]; rfl))
    have HB1 := hide hB1
    clear hX1 hB1
    have hsm := rtag_any W1 ⟨#[108, 101, 97, 102]⟩ (some ⟨sb', so, none⟩) 32 d (bt_of_range (unhide HD) (rangeAt_keep (unhide HR0) (unhide HB1))) (Nat.le_of_eq (unhide HD).len) (fun h => by cases h) (by rw [(unhide HD).len]; omega) (by decide)
    rw [show sb ⟨#[108, 101, 97, 102]⟩ = [108, 101, 97, 102] by decide, show tagF [108, 101, 97, 102] d = leafP d from rfl, (unhide HD).len] at hsm
    have HSM := hide hsm
    clear hsm
    go_wp2_with fail
    refine (unhide HSM).mono ?_; rintro x W2 ⟨rfl, hB2⟩
    have HB2 := hide (thenB (unhide HB1) hB2)
    have HO2 := hide ((unhide HO1).keep hB2)
    clear hB2 HSM
    dsimp only
    rename_i KK hK
    refine hK _ _ ?_
    clear hK KK
    refine wpList_bstore rfl 24 (.tmp 2) (.tmp 14) rfl w.heap.size rfl (leafP d) rfl 32 info32 (dg_hash _).len _ zeros (unhide HO2) rfl ?_
    intro W9 HW9 HG
    go_wp2_with fail
    try simp only [Exit.inBlock, Exit.then]
    rw [treeP_one]
    exact bret rfl rfl w.heap.size rfl _ _ (unhide HW9) (dg_hash _).len ⟨rfl, (unhide HB2).grown (unhide HG) (unhide HB2).size (fun i e => by injection e with e; omega)⟩
  · have h2 : 2 ≤ n := by have := List.length_pos_iff.2 hne; omega
    obtain ⟨k, hk⟩ : ∃ k, k = halfN n := ⟨_, rfl⟩
    have hkn := halfN_lt h2
    have hk0 := halfN_pos n
    rw [← hk] at hkn hk0
    have HK : Hid (k = halfN n ∧ 0 < k ∧ k < n ∧ 2 ≤ n) := ⟨hk, hk0, hkn, h2⟩
    have n0 : ¬ (n : Int) = 0 := by omega
    have n1 : ¬ (n : Int) = 1 := by omega
    have k0 : (0 : Int) ≤ (k : Int) := Int.natCast_nonneg _
    have k1 : (k : Int) ≤ (n : Int) := by omega
    have k2 : (k : Int) ≤ (c : Int) := by omega
    have k3 : ¬ (c = k) := by omega
    clear IH hA hn hc hrg h1000 hne hk hkn hk0 h2 hz
    go_enter Tryd.func16, Tryd.ntmps16
    go_upto_region 1 with fail
    generalize hX1 : w.alloc _ = W1
    have hB1 : Below w.heap.size w W1 := hX1 ▸ (Below.refl _ _).alloc (Nat.le_refl _) _
    have HO1 := hide (newBy w W1 (by rw [← hX1]; rfl))
    have HB1 := hide hB1
    clear hX1 hB1
    go_wp2_with fail
    refine (rhalf_any n (unhide HK).2.2.2 (unhide HC).2 W1).mono ?_; rintro x W2 ⟨rfl, rfl⟩
    rw [← (unhide HK).1]
    obtain ⟨T1, hT1⟩ : ∃ d, d = treeP (l.take k) := ⟨_, rfl⟩
    obtain ⟨T2, hT2⟩ : ∃ d, d = treeP (l.drop k) := ⟨_, rfl⟩
    have hg1 : Dg T1 := hT1 ▸ dg_tree _
    have hg2 : Dg T2 := hT2 ▸ dg_tree _
    obtain ⟨c1, hc1⟩ : ∃ cs, cs = (T1.map (Value.int .u8)).toArray := ⟨_, rfl⟩
    obtain ⟨c2, hc2⟩ : ∃ cs, cs = (T2.map (Value.int .u8)).toArray := ⟨_, rfl⟩
    have hK := unhide HK
    have hlt : (l.take k).length = k := by have := unhide HN; simp; omega
    have hld : (l.drop k).length = n - k := by have := unhide HN; simp; omega
    have HF1 : Hid (∀ W, Below w.heap.size w W → Calls Tryd.prog 16 #[.slice (some ⟨sb', so, none⟩) k c] W fun x w' => x = .returned (.agg c1) ∧ Below W.heap.size W w') := fun W hB => by
      have := (unhide HI) (l.take k) (by omega) W c (some ⟨sb', so, none⟩) (((unhide HA).keep hB).take k) (by have := (unhide HC).1; omega)
      rw [hlt, treeD_ne (fun e => by rw [e] at hlt; simp at hlt; omega)] at this
      refine this.mono ?_
      rintro x w' ⟨rfl, h'⟩
      exact ⟨by rw [hc1, hT1], h'⟩
    have HF2 : Hid (∀ W, Below w.heap.size w W → Calls Tryd.prog 16 #[.slice (some ⟨sb', so + k * 32, none⟩) (n - k) (c - k)] W fun x w' => x = .returned (.agg c2) ∧ Below W.heap.size W w') := fun W hB => by
      have := (unhide HI) (l.drop k) (by omega) W (c - k) (some ⟨sb', so + k * 32, none⟩) (((unhide HA).keep hB).drop k) (by have := (unhide HC).1; omega)
      rw [hld, treeD_ne (fun e => by rw [e] at hld; simp at hld; omega)] at this
      refine this.mono ?_
      rintro x w' ⟨rfl, h'⟩
      exact ⟨by rw [hc2, hT2], h'⟩
    have HF3 : Hid (∀ W, Below w.heap.size w W → Calls Tryd.prog 50 #[.agg c1, .agg c2] W fun x w' => x = .returned (dv (treeP l)) ∧ Below W.heap.size W w') := fun W hB => by
      rw [hc1, hc2]
      refine (rnode_any W T1 T2 hg1 hg2).mono ?_
      rintro x w' ⟨rfl, h'⟩
      exact ⟨by rw [treeP_more l (by have := unhide HN; omega), unhide HN, ← hK.1, ← hT1, ← hT2], h'⟩
    obtain ⟨W, hW⟩ : ∃ W, W = W2.drewN 1 := ⟨_, rfl⟩
    have HW : Hid (W = W2.drewN 1) := hW
    have hSW := thenB (unhide HB1) (below_named HW)
    have HOW := hide ((unhide HO1).keep (below_named HW))
    clear hT1 hT2 hg1 hg2 hc1 hc2 hK hlt hld hW
    go_wp2_with fail
    refine held (S := Below w.heap.size w) W HW (by kernel_rfl) ?_
    refine wpAnyH_take (i := 0) (v := ?_) rfl (by kernel_rfl) (by kernel_rfl) (by kernel_rfl) (fun _ _ _ h => h) (Or.inl ⟨by kernel_rfl, ?_⟩) (by assumption) ?_
    rotate_left
    · intro Wt hSt
      go_simp
      try with_reducible rfl
    try simp only [List.getElem_toArray, List.getElem_cons_zero, List.getElem_cons_succ, Act.put, List.setIfInBounds_toArray, List.set_cons_zero, List.set_cons_succ]
    refine wpAnyH_take (i := 1) (v := ?_) rfl (by kernel_rfl) (by kernel_rfl) (by kernel_rfl) (fun _ _ _ h => h) (Or.inl ⟨by kernel_rfl, ?_⟩) (by assumption) ?_
    rotate_left
    · intro Wt hSt
      go_simp
      try with_reducible rfl
    try simp only [List.getElem_toArray, List.getElem_cons_zero, List.getElem_cons_succ, Act.put, List.setIfInBounds_toArray, List.set_cons_zero, List.set_cons_succ]
    refine wpAnyH_take (i := 2) (v := ?_) rfl (by kernel_rfl) (by kernel_rfl) (by kernel_rfl) (fun _ _ _ h => h) (Or.inl ⟨by kernel_rfl, ?_⟩) (by assumption) ?_
    rotate_left
    · intro Wt hSt
      go_simp
      try with_reducible rfl
    try simp only [List.getElem_toArray, List.getElem_cons_zero, List.getElem_cons_succ, Act.put, List.setIfInBounds_toArray, List.set_cons_zero, List.set_cons_succ]
    refine wpAnyH_take (i := 4) (v := ?_) rfl (by kernel_rfl) (by kernel_rfl) (by kernel_rfl) (fun _ _ _ h => h) (Or.inl ⟨by kernel_rfl, ?_⟩) (by assumption) ?_
    rotate_left
    · intro Wt hSt
      go_simp
      try with_reducible rfl
    try simp only [List.getElem_toArray, List.getElem_cons_zero, List.getElem_cons_succ, Act.put, List.setIfInBounds_toArray, List.set_cons_zero, List.set_cons_succ]
    refine wpAnyH_take (i := 5) (v := ?_) rfl (by kernel_rfl) (by kernel_rfl) (by kernel_rfl) (fun _ _ _ h => h) (Or.inl ⟨by kernel_rfl, ?_⟩) (by assumption) ?_
    rotate_left
    · intro Wt hSt
      go_simp
      try with_reducible rfl
    try simp only [List.getElem_toArray, List.getElem_cons_zero, List.getElem_cons_succ, Act.put, List.setIfInBounds_toArray, List.set_cons_zero, List.set_cons_succ]
    refine wpAnyH_take (i := 6) (v := ?_) rfl (by kernel_rfl) (by kernel_rfl) (by kernel_rfl) (fun _ _ _ h => h) (Or.inl ⟨by kernel_rfl, ?_⟩) (by assumption) ?_
    rotate_left
    · intro Wt hSt
      go_simp
      try with_reducible rfl
    try simp only [List.getElem_toArray, List.getElem_cons_zero, List.getElem_cons_succ, Act.put, List.setIfInBounds_toArray, List.set_cons_zero, List.set_cons_succ]
    refine wpAnyH_chainOf [3, 7, 8, 9] _ _ _ (by kernel_rfl) (by kernel_rfl) ?_
    simp only [List.filterMap_cons, List.filterMap_nil, List.getElem?_toArray, List.getElem?_cons_zero, List.getElem?_cons_succ]
    refine wpChain_step rfl fun K hK => ?_
    go_simp
    refine ((unhide HF1) _ hSW).mono ?_; rintro x wA ⟨rfl, hA1⟩
    have hSA := thenB hSW hA1
    dsimp only
    refine hK _ _ hSA ?_
    clear hK K
    refine wpChain_step rfl fun K hK => ?_
    go_simp
    refine ((unhide HF2) _ hSA).mono ?_; rintro x wB ⟨rfl, hA2⟩
    have hSB := thenB hSA hA2
    dsimp only
    refine hK _ _ hSB ?_
    clear hK K
    refine wpChain_step rfl fun K hK => ?_
    go_simp
    refine ((unhide HF3) _ hSB).mono ?_; rintro x wC ⟨rfl, hA3⟩
    have hSC := thenB hSB hA3
    have hO := (((unhide HOW).keep hA1).keep hA2).keep hA3
    dsimp only
    refine hK _ _ hSC ?_
    clear hK K
    refine wpChain_bstore rfl 24 (.tmp 2) (.tmp 26) rfl w.heap.size rfl (treeP l) rfl 32 info32 (dg_tree l).len _ zeros hO rfl ?_
    intro W9 HW9 HG
    have hS9 : Below w.heap.size w W9 := hSC.grown (unhide HG) hSC.size (fun i e => by injection e with e; omega)
    refine ⟨hS9, wpChain_nil ?_⟩
    clear hO hSC hSB hSA hA1 hA2 hA3
    have HS9 := hide hS9
    clear hS9 hSW
    go_wp2_with fail
    try simp only [Exit.inBlock, Exit.then]
    exact bret rfl rfl w.heap.size rfl _ _ (unhide HW9) (dg_tree l).len ⟨rfl, unhide HS9⟩
theorem rtree_all (n : Nat) : ∀ (l : List (List Int)), l.length = n → n ≤ 1099511627776 → ∀ (w : World) (c : Nat) (A : Option Addr), Ds w A l → l.length ≤ c →
      Calls Tryd.prog 16 #[.slice A n c] w fun x w' => x = .returned (dv (treeD l)) ∧ Below w.heap.size w w' := by
  induction n using Nat.strongRecOn with
  | _ n IH =>
    intro l hn h1000 w c A hA hc
    exact rtree_step n (fun l' hl' w' c' A' hA' hc' => IH l'.length hl' l' rfl (by omega) w' c' A' hA' hc') l hn h1000 w c A hA hc
theorem rtree_any (w : World) (c : Nat) (A : Option Addr) (l : List (List Int)) (hA : Ds w A l) (hc : l.length ≤ c) (h1000 : l.length ≤ 1099511627776) :
    Calls Tryd.prog 16 #[.slice A l.length c] w fun x w' => x = .returned (dv (treeD l)) ∧ Below w.heap.size w w' :=
  rtree_all l.length l rfl h1000 w c A hA hc
end Go.Proofs.YtninjgplgoimeaaDoor
namespace Go.Proofs.YtninjgplgoimeaaDoor
set_option linter.unusedSimpArgs false
set_option linter.unusedVariables false
open Go.RowKit

theorem take_next {l k : List Bool} {j : Nat} {x : Bool} (h : l.take j = k.take j) (hl : l[j]? = some x) (hk : k[j]? = some x) : l.take (j + 1) = k.take (j + 1) := by
  rw [List.take_add_one, List.take_add_one, h, hl, hk]
set_option maxRecDepth 100000 in
set_option maxHeartbeats 4000000 in
theorem same4_any (w : World) (n : Nat) (hn : n ≤ 1000) (A1 : Option Addr) (c1 : Nat) (l1 : List Bool) (h1 : l1.length = n) (hc1 : n ≤ c1) (hb1 : Bl w A1 l1) (A2 : Option Addr) (c2 : Nat) (l2 : List Bool) (h2 : l2.length = n) (hc2 : n ≤ c2) (hb2 : Bl w A2 l2) (h0 : 0 < n) :
    Calls Tryd.prog 30 #[.slice A1 n c1, .slice A2 n c2] w fun x w' => x = .returned (.bool (decide (l1 = l2))) ∧ Below w.heap.size w w' := by
  obtain ⟨b1, o1, rfl, hr1⟩ := hb1 (fun e => by rw [e] at h1; simp at h1; omega)
  obtain ⟨b2, o2, rfl, hr2⟩ := hb2 (fun e => by rw [e] at h2; simp at h2; omega)
  obtain ⟨R, hR⟩ : ∃ R, R = decide (l1 = l2) := ⟨_, rfl⟩
  rw [← hR]
  have HR := hide hR; have HR1 := hide hr1; have HR2 := hide hr2
  have HN : Hid (l1.length = n ∧ l2.length = n ∧ n ≤ 1000) := ⟨h1, h2, hn⟩
  have k1 : (n : Int) ≤ (c1 : Int) := by omega
  have k2 : (n : Int) ≤ (c2 : Int) := by omega
  clear hR hr1 hr2 h1 h2 hn hc1 hc2 hb1 hb2 h0
  go_enter Tryd.func30, Tryd.ntmps30
  go_wp2_with fail
  go_loopg [5] n (fun g y5 wx => ∃ j : Nat, g + j = n ∧ y5 = .int .i64 (j : Int) ∧ l1.take j = l2.take j ∧ Below w.heap.size w wx)
  case atStart => exact ⟨0, rfl, rfl, rfl, Below.refl _ _⟩
  case round =>
    obtain ⟨j, hj, rfl, ht, hb⟩ := hrel
    cases gk with
    | zero =>
      obtain rfl : j = n := by omega
      rw [List.take_of_length_le (Nat.le_of_eq (unhide HN).1), List.take_of_length_le (Nat.le_of_eq (unhide HN).2.1)] at ht
      have hRt : R = true := by rw [unhide HR]; exact decide_eq_true ht
      have HB := hide hb; have HRT := hide hRt
      clear ht hb hj hRt
      go_wp2_with fail
      go_ret
      exact ⟨by rw [unhide HRT]; rfl, unhide HB⟩
    | succ g =>
      have j1 : (j : Int) < (n : Int) := by omega
      have j0 : (0 : Int) ≤ (j : Int) := Int.natCast_nonneg _
      have jM : (j : Int) ≤ 1000 := by have := unhide HN; omega
      obtain ⟨x1, hx1⟩ : ∃ x, l1[j]? = some x := ⟨_, List.getElem?_eq_getElem (by have := unhide HN; omega)⟩
      obtain ⟨x2, hx2⟩ : ∃ x, l2[j]? = some x := ⟨_, List.getElem?_eq_getElem (by have := unhide HN; omega)⟩
      have d1 := (unhide HR1) j x1 hx1
      have d2 := (unhide HR2) j x2 hx2
      have HD := hide (And.intro d1 d2)
      have HX := hide (And.intro hx1 hx2); have HB := hide hb; have HTK := hide ht; have HJ := hide hj
      clear d1 d2 hx1 hx2 hb ht hj
      go_wp2_with fail
      obtain ⟨W, hW⟩ : ∃ W, W = wr.drewN 1 := ⟨_, rfl⟩
      have HW : Hid (W = wr.drewN 1) := hW
      have hS : Below w.heap.size w W := thenB (unhide HB) (below_named HW)
      clear hW
      refine held (S := Below w.heap.size w) W HW (by kernel_rfl) ?_
      refine wpAnyH_take (i := 0) (v := ?_) rfl (by kernel_rfl) (by kernel_rfl) (by kernel_rfl) (fun _ _ _ h => h) (Or.inl ⟨by kernel_rfl, ?_⟩) (by assumption) ?_
      rotate_left
      · intro Wt hSt
        go_simp
        try with_reducible rfl
      try simp only [List.getElem_toArray, List.getElem_cons_zero, List.getElem_cons_succ, Act.put, List.setIfInBounds_toArray, List.set_cons_zero, List.set_cons_succ]
      refine wpAnyH_take (i := 1) (v := ?_) rfl (by kernel_rfl) (by kernel_rfl) (by kernel_rfl) (fun _ _ _ h => h) (Or.inl ⟨by kernel_rfl, ?_⟩) (by assumption) ?_
      rotate_left
      · intro Wt hSt
        go_simp
        try with_reducible rfl
      try simp only [List.getElem_toArray, List.getElem_cons_zero, List.getElem_cons_succ, Act.put, List.setIfInBounds_toArray, List.set_cons_zero, List.set_cons_succ]
      refine wpAnyH_take (i := 2) (v := ?_) rfl (by kernel_rfl) (by kernel_rfl) (by kernel_rfl) (fun _ _ _ h => h) (Or.inl ⟨by kernel_rfl, ?_⟩) (by assumption) ?_
      rotate_left
      · intro Wt hSt
        go_simp
        try with_reducible rfl
      try simp only [List.getElem_toArray, List.getElem_cons_zero, List.getElem_cons_succ, Act.put, List.setIfInBounds_toArray, List.set_cons_zero, List.set_cons_succ]
      refine wpAnyH_take (i := 3) (v := ?_) rfl (by kernel_rfl) (by kernel_rfl) (by kernel_rfl) (fun _ _ _ h => h) (Or.inl ⟨by kernel_rfl, ?_⟩) (by assumption) ?_
      rotate_left
      · intro Wt hSt
        have hct := (show Wt.cell? ⟨b1, o1 + j, none⟩ = some (.bool x1) from (hSt.cell (p := ⟨b1, o1 + j, none⟩) (lt_of_cell (unhide HD).1)).trans (unhide HD).1)
        go_simp
        try with_reducible rfl
      try simp only [List.getElem_toArray, List.getElem_cons_zero, List.getElem_cons_succ, Act.put, List.setIfInBounds_toArray, List.set_cons_zero, List.set_cons_succ]
      refine wpAnyH_take (i := 4) (v := ?_) rfl (by kernel_rfl) (by kernel_rfl) (by kernel_rfl) (fun _ _ _ h => h) (Or.inl ⟨by kernel_rfl, ?_⟩) (by assumption) ?_
      rotate_left
      · intro Wt hSt
        go_simp
        try with_reducible rfl
      try simp only [List.getElem_toArray, List.getElem_cons_zero, List.getElem_cons_succ, Act.put, List.setIfInBounds_toArray, List.set_cons_zero, List.set_cons_succ]
      refine wpAnyH_take (i := 5) (v := ?_) rfl (by kernel_rfl) (by kernel_rfl) (by kernel_rfl) (fun _ _ _ h => h) (Or.inl ⟨by kernel_rfl, ?_⟩) (by assumption) ?_
      rotate_left
      · intro Wt hSt
        go_simp
        try with_reducible rfl
      try simp only [List.getElem_toArray, List.getElem_cons_zero, List.getElem_cons_succ, Act.put, List.setIfInBounds_toArray, List.set_cons_zero, List.set_cons_succ]
      refine wpAnyH_take (i := 6) (v := ?_) rfl (by kernel_rfl) (by kernel_rfl) (by kernel_rfl) (fun _ _ _ h => h) (Or.inl ⟨by kernel_rfl, ?_⟩) (by assumption) ?_
      rotate_left
      · intro Wt hSt
        go_simp
        try with_reducible rfl
      try simp only [List.getElem_toArray, List.getElem_cons_zero, List.getElem_cons_succ, Act.put, List.setIfInBounds_toArray, List.set_cons_zero, List.set_cons_succ]
      refine wpAnyH_take (i := 7) (v := ?_) rfl (by kernel_rfl) (by kernel_rfl) (by kernel_rfl) (fun _ _ _ h => h) (Or.inl ⟨by kernel_rfl, ?_⟩) (by assumption) ?_
      rotate_left
      · intro Wt hSt
        have hct := (show Wt.cell? ⟨b2, o2 + j, none⟩ = some (.bool x2) from (hSt.cell (p := ⟨b2, o2 + j, none⟩) (lt_of_cell (unhide HD).2)).trans (unhide HD).2)
        go_simp
        try with_reducible rfl
      try simp only [List.getElem_toArray, List.getElem_cons_zero, List.getElem_cons_succ, Act.put, List.setIfInBounds_toArray, List.set_cons_zero, List.set_cons_succ]
      refine wpAnyH_take (i := 8) (v := ?_) rfl (by kernel_rfl) (by kernel_rfl) (by kernel_rfl) (fun _ _ _ h => h) (Or.inl ⟨by kernel_rfl, ?_⟩) (by assumption) ?_
      rotate_left
      · intro Wt hSt
        go_simp
        try with_reducible rfl
      try simp only [List.getElem_toArray, List.getElem_cons_zero, List.getElem_cons_succ, Act.put, List.setIfInBounds_toArray, List.set_cons_zero, List.set_cons_succ]
      refine wpAnyH_chainOf [] _ _ _ (by kernel_rfl) (by kernel_rfl) ?_
      refine wpChain_nil ?_
      have HS := hide hS
      clear hS
      by_cases hxx : x1 = x2
      · subst hxx
        have HTN := hide (take_next (unhide HTK) (unhide HX).1 (unhide HX).2)
        cases x1
        all_goals
          go_wp2_with fail
          go_roundg g
          case measure => omega
          case rel => exact ⟨j + 1, by have := unhide HJ; omega, by push_cast; rfl, unhide HTN, unhide HS⟩
      · have hRf : R = false := by
          rw [unhide HR]
          refine decide_eq_false fun e => hxx ?_
          have h := (unhide HX).1
          rw [e, (unhide HX).2] at h
          injection h with h
          exact h.symm
        have HRF := hide hRf
        clear hRf
        cases x1 <;> cases x2
        · exact absurd rfl hxx
        · go_wp2_with fail
          go_ret
          exact ⟨by rw [unhide HRF]; rfl, unhide HS⟩
        · go_wp2_with fail
          go_ret
          exact ⟨by rw [unhide HRF]; rfl, unhide HS⟩
        · exact absurd rfl hxx
end Go.Proofs.YtninjgplgoimeaaDoor
namespace Go.Proofs.YtninjgplgoimeaaDoor
set_option linter.unusedSimpArgs false
set_option linter.unusedVariables false
open Go.RowKit

set_option maxRecDepth 100000 in
set_option maxHeartbeats 4000000 in
theorem rvalid_any (w : World) (A : Option Addr) (n c : Nat) (m u : Int) :
    Calls Tryd.prog 34 #[.agg #[.slice A n c, .int .i64 m, .int .i64 u]] w fun x w' => x = .returned (.bool (keyOk n m u)) ∧ Below w.heap.size w w' := by
  have hb1 := fun o => Below.alloc (Below.refl w.heap.size w) (Nat.le_refl _) o
  have HB := hide hb1
  clear hb1
  by_cases h0 : 1 ≤ (n : Int)
  case neg =>
    have e : keyOk n m u = false := by unfold keyOk; simp; omega
    rw [e]; clear e
    go_enter Tryd.func34, Tryd.ntmps34
    go_wp2_with fail
    go_ret
    exact ⟨rfl, unhide HB _⟩
  by_cases h1 : (n : Int) ≤ 64
  case neg =>
    have e : keyOk n m u = false := by unfold keyOk; simp; omega
    rw [e]; clear e
    go_enter Tryd.func34, Tryd.ntmps34
    go_wp2_with fail
    go_ret
    exact ⟨rfl, unhide HB _⟩
  by_cases h2 : 1 ≤ m
  case neg =>
    have e : keyOk n m u = false := by unfold keyOk; simp; omega
    rw [e]; clear e
    go_enter Tryd.func34, Tryd.ntmps34
    go_wp2_with fail
    go_ret
    exact ⟨rfl, unhide HB _⟩
  by_cases h3 : m ≤ 4096
  case neg =>
    have e : keyOk n m u = false := by unfold keyOk; simp; omega
    rw [e]; clear e
    go_enter Tryd.func34, Tryd.ntmps34
    go_wp2_with fail
    go_ret
    exact ⟨rfl, unhide HB _⟩
  by_cases h4 : 0 ≤ u
  case neg =>
    have e : keyOk n m u = false := by unfold keyOk; simp; omega
    rw [e]; clear e
    go_enter Tryd.func34, Tryd.ntmps34
    go_wp2_with fail
    go_ret
    exact ⟨rfl, unhide HB _⟩
  by_cases h5 : u ≤ m
  case neg =>
    have e : keyOk n m u = false := by unfold keyOk; simp; omega
    rw [e]; clear e
    go_enter Tryd.func34, Tryd.ntmps34
    go_wp2_with fail
    go_ret
    exact ⟨rfl, unhide HB _⟩
  have e : keyOk n m u = true := by unfold keyOk; simp; omega
  rw [e]; clear e
  go_enter Tryd.func34, Tryd.ntmps34
  go_wp2_with fail
  go_ret
  exact ⟨rfl, unhide HB _⟩

set_option maxRecDepth 100000 in
set_option maxHeartbeats 4000000 in
theorem rhash_any (w : World) (d : List Int) (hd : Dg d) :
    Calls Tryd.prog 78 #[dv d] w fun x w' => x = .returned (dv (opnS d)) ∧ Below w.heap.size w w' := by
  have HD := hide hd
  have hld := hd.len
  obtain ⟨cd, hcd⟩ : ∃ cs, cs = (d.map (Value.int .u8)).toArray := ⟨_, rfl⟩
  have hsd : cd.size = 32 := by rw [hcd]; simpa using hld
  rw [show dv d = .agg cd by rw [hcd]]
  clear hd hld
  go_enter Tryd.func78, Tryd.ntmps78
  go_upto_region 1 with fail
  generalize hX1 : w.alloc _ = W1
  have hB1 : Below w.heap.size w W1 := hX1 ▸ (Below.refl _ _).alloc (Nat.le_refl _) _
  have ho1 : ByAt W1 w.heap.size 24 d := boxed w W1 d _ (by rw [← hX1]; first | rfl | (rw [hcd]; rfl))
  have hz1 : W1.heap.size = w.heap.size + 1 := by rw [← hX1]; show (w.heap.push _).size = _; rw [Array.size_push]
  generalize hX2 : W1.alloc _ = W2
  have hB2 : Below W1.heap.size W1 W2 := hX2 ▸ (Below.refl _ _).alloc (Nat.le_refl _) _
  have ho2 : ByAt W2 W1.heap.size 24 zeros := newBy W1 W2 (by rw [← hX2]; rfl)
  rw [hz1] at ho2
  have HB := hide (thenB hB1 hB2)
  have HK1 := hide (ho1.keep hB2)
  have HK2 := hide ho2
  clear hX1 hB1 ho1 hz1 hX2 hB2 ho2 hcd
  have hsm := rtag_any W2 ⟨#[111, 112, 101, 110]⟩ (some ⟨w.heap.size, 0, none⟩) 32 d ((unhide HK1).bt (unhide HD)) (Nat.le_of_eq (unhide HD).len) (fun h => by cases h) (by rw [(unhide HD).len]; omega) (by decide)
  rw [show sb ⟨#[111, 112, 101, 110]⟩ = OPNB by decide, show tagF OPNB d = opnS d from rfl, (unhide HD).len] at hsm
  have HSM := hide hsm
  clear hsm
  go_wp2_with fail
  refine (unhide HSM).mono ?_; rintro x W3 ⟨rfl, hB3⟩
  have HB3 := hide (thenB (unhide HB) hB3)
  have HO3 := hide ((unhide HK2).keep hB3)
  clear hB3 HSM
  dsimp only
  rename_i KK hK
  refine hK _ _ ?_
  clear hK KK
  refine wpList_bstore rfl 24 (.tmp 2) (.tmp 4) rfl (w.heap.size + 1) rfl (opnS d) rfl 32 info32 (dg_opnS _).len _ zeros (unhide HO3) rfl ?_
  intro W9 HW9 HG
  go_wp2_with fail
  try simp only [Exit.inBlock, Exit.then]
  exact bret rfl rfl (w.heap.size + 1) rfl _ _ (unhide HW9) (dg_opnS _).len ⟨rfl, (unhide HB3).grown (unhide HG) (unhide HB3).size (fun i e => by injection e with e; omega)⟩

set_option maxRecDepth 100000 in
set_option maxHeartbeats 4000000 in
theorem rtwo_any (i : Nat) (h : i < 65536) (w : World) :
    Calls Tryd.prog 69 #[.int .i64 (i : Int)] w fun x w' => (∃ A c, x = .returned (.slice A 2 c) ∧ 2 ≤ c ∧ Bt w' A (twoB i) ∧ (A = none → c = 0)) ∧ Below w.heap.size w w' := by
  have e1 := two_hi i h
  have e2 := two_lo i
  have H : Hid (i < 65536) := h
  clear h
  go_enter Tryd.func69, Tryd.ntmps69
  go_wp2_with fail
  go_ret
  exact ⟨⟨_, _, rfl, Nat.le_refl _, lit2 w _ _ _ _ _ rfl ⟨by omega, by omega⟩ ⟨by omega, by omega⟩, by simp⟩, (Below.refl _ _).alloc (Nat.le_refl _) _⟩

set_option maxRecDepth 100000 in
set_option maxHeartbeats 4000000 in
theorem rsecret_any (w : World) (A : Option Addr) (n c : Nat) (seed : List Int) (hn : n = seed.length) (h64 : n ≤ 1000) (hc : n ≤ c) (hA : Bt w A seed) (hA0 : A = none → c = 0) (m u : Int) (i : Nat) (hi : i < 65536) (j b : Nat) (hj : j < 256) (hb : b < 256) :
    Calls Tryd.prog 77 #[.agg #[.slice A n c, .int .i64 m, .int .i64 u], .int .i64 (i : Int), .int .i64 (j : Int), .int .i64 (b : Int)] w fun x w' => x = .returned (dv (secS (begS seed i) j b)) ∧ Below w.heap.size w w' := by
  have HA := hide hA
  have HN : Hid (n = seed.length ∧ n ≤ 1000 ∧ n ≤ c ∧ (A = none → c = 0) ∧ i < 65536 ∧ j < 256 ∧ b < 256) := ⟨hn, h64, hc, hA0, hi, hj, hb⟩
  have wj : IntKind.u8.wrap (j : Int) = (j : Int) := IntWalk.u8_in _ (by omega)
  have wb : IntKind.u8.wrap (b : Int) = (b : Int) := IntWalk.u8_in _ (by omega)
  clear hA hn h64 hc hA0 hi hj hb
  go_enter Tryd.func77, Tryd.ntmps77
  go_upto_region 1 with fail
  generalize hX1 : w.alloc _ = W1
  have hB1 : Below w.heap.size w W1 := hX1 ▸ (Below.refl _ _).alloc (Nat.le_refl _) _
  have ho1 : VsAt W1 w.heap.size 40 [.slice A n c, .int .i64 m, .int .i64 u] := boxedV w W1 _ _ (by rw [← hX1]; rfl)
  have hz1 : W1.heap.size = w.heap.size + 1 := by rw [← hX1]; show (w.heap.push _).size = _; rw [Array.size_push]
  generalize hX2 : W1.alloc _ = W2
  have hB2 : Below W1.heap.size W1 W2 := hX2 ▸ (Below.refl _ _).alloc (Nat.le_refl _) _
  have ho2 : ByAt W2 W1.heap.size 24 zeros := newBy W1 W2 (by rw [← hX2]; rfl)
  rw [hz1] at ho2
  have hv := ho1.keep hB2
  have HB := hide (thenB hB1 hB2)
  have HK2 := hide ho2
  have HZ : Hid (w.heap.size + 2 ≤ W2.heap.size) := by have := hB2.size; have h2 := lt_of_block ho2; show _ ≤ _; omega
  clear hX1 hB1 ho1 hz1 hX2 hB2 ho2
  refine wp_region_lit ?_
  refine wpList_plain rfl fun Kt hKt => ?_
  go_simp
  refine hKt _ _ ?_
  clear hKt Kt
  generalize hX : W2.alloc _ = V1
  have hv1 : Below W2.heap.size W2 V1 := hX ▸ (Below.refl _ _).alloc (Nat.le_refl _) _
  have hown1 : OwnB V1 W2.heap.size (.slice (some ⟨W2.heap.size, 0, none⟩) 0 0) [] := hX ▸ World.ownsRow_lit W2 #[] 0 (Nat.le_refl _) (Nat.zero_le _) rfl
  clear hX
  have hcv : V1.cell? ⟨w.heap.size, 0, none⟩ = some (.slice A n c) := (hv.keep hv1).cell rfl
  refine wpList_plain rfl fun Kt hKt => ?_
  go_simp
  refine hKt _ _ ?_
  clear hKt Kt
  refine wpList_plain rfl fun Kt hKt => ?_
  go_simp
  refine hKt _ _ ?_
  clear hKt Kt
  refine wpList_plain rfl fun Kt hKt => ?_
  obtain ⟨v2, V2, hr2, hown2, hg2⟩ := run_append_B hown1 22 A c (((unhide HA).keep (unhide HB)).keep hv1) (unhide HN).2.2.2.1 (by have := unhide HN; rw [List.length_nil]; omega) hv1.size
  rw [← (unhide HN).1] at hr2
  have hv2 := grown_below hv1 hg2 (fun k hk => (hown1.lt k hk).1)
  refine wp_append (.tmp 10) (.tmp 12) 22 rfl _ _ v2 V2 rfl rfl hr2 ?_
  refine hKt _ _ ?_
  clear hKt Kt hr2 hown1 hg2 hv1 hcv hv
  try simp only [List.getElem_toArray, List.getElem_cons_zero, List.getElem_cons_succ, Act.put, List.setIfInBounds_toArray, List.set_cons_zero, List.set_cons_succ]
  refine wpList_plain rfl fun Kt hKt => ?_
  go_simp
  refine hKt _ _ ?_
  clear hKt Kt
  refine wpList_plain rfl fun Kt hKt => ?_
  go_simp
  refine (rtwo_any i (unhide HN).2.2.2.2.1 V2).mono ?_; rintro x V3 ⟨⟨A3, c3, rfl, hc3, hbt3, hn3⟩, hb3⟩
  dsimp only
  refine hKt _ _ ?_
  clear hKt Kt
  try simp only [List.getElem_toArray, List.getElem_cons_zero, List.getElem_cons_succ, Act.put, List.setIfInBounds_toArray, List.set_cons_zero, List.set_cons_succ]
  refine wpList_plain rfl fun Kt hKt => ?_
  obtain ⟨v4, V4, hr4, hown4, hg4⟩ := run_append_B (hown2.later hb3) 22 A3 c3 hbt3 hn3 (by have := unhide HN; rw [List.nil_append, twoB_length]; omega) (Nat.le_trans hv2.size hb3.size)
  rw [twoB_length] at hr4
  have hv4 := grown_below (thenB hv2 hb3) hg4 (fun k hk => (hown2.lt k hk).1)
  refine wp_append (.tmp 13) (.tmp 15) 22 rfl _ _ v4 V4 rfl rfl hr4 ?_
  refine hKt _ _ ?_
  clear hKt Kt hr4 hown2 hg4 hv2 hb3 hbt3 hn3 hc3
  try simp only [List.getElem_toArray, List.getElem_cons_zero, List.getElem_cons_succ, Act.put, List.setIfInBounds_toArray, List.set_cons_zero, List.set_cons_succ]
  refine wpList_plain rfl fun Kt hKt => ?_
  go_simp
  refine hKt _ _ ?_
  clear hKt Kt
  rw [List.nil_append] at hown4
  obtain ⟨A4, c4, rfl, hc4, hbt4, hn4, hl4⟩ := own_formB hown4 (fun x hx => by
    rcases List.mem_append.1 hx with h | h
    · exact (unhide HA).byt x h
    · exact twoB_byt i x h)
  obtain ⟨n4, hn4l⟩ : ∃ k, k = (seed ++ twoB i).length := ⟨_, rfl⟩
  have HN4 : Hid (n4 = (seed ++ twoB i).length ∧ n4 ≤ 1002) := ⟨hn4l, by rw [hn4l, List.length_append, twoB_length]; have := unhide HN; omega⟩
  rw [← hn4l] at hc4 ⊢
  have HOW := hide hown4
  have HBV := hide hv4
  have HK4 := hide ((unhide HK2).keep hv4)
  rw [← hn4l] at HOW
  clear hbt4 hn4 hl4 hn4l hown4 hv4
  go_upto_region 2 with fail
  refine wp_region_lit ?_
  refine wpList_plain rfl fun Kt hKt => ?_
  go_simp
  refine hKt _ _ ?_
  clear hKt Kt
  refine wpList_plain rfl fun Kt hKt => ?_
  go_simp
  refine hKt _ _ ?_
  clear hKt Kt
  refine wpList_plain rfl fun Kt hKt => ?_
  go_simp
  refine hKt _ _ ?_
  clear hKt Kt
  refine wpList_plain rfl fun Kt hKt => ?_
  go_simp
  refine hKt _ _ ?_
  clear hKt Kt
  refine wpList_plain rfl fun Kt hKt => ?_
  go_simp
  refine hKt _ _ ?_
  clear hKt Kt
  refine wpList_plain rfl fun Kt hKt => ?_
  go_simp
  refine hKt _ _ ?_
  clear hKt Kt
  generalize hX : V4.alloc _ = V5
  have hv5 : Below V4.heap.size V4 V5 := hX ▸ (Below.refl _ _).alloc (Nat.le_refl _) _
  have hbt5 : Bt V5 (some ⟨V4.heap.size, 0, none⟩) [(j : Int), (b : Int)] := lit2 V4 V5 _ _ _ _ (by rw [← hX]; rfl) (byt_nat j (unhide HN).2.2.2.2.2.1) (byt_nat b (unhide HN).2.2.2.2.2.2)
  clear hX
  refine wpList_plain rfl fun Kt hKt => ?_
  have hn4 := (unhide HN4).1
  obtain ⟨v6, V6, hr6, hown6, hg6⟩ := run_append_B (base := W2.heap.size) (v := .slice A4 n4 c4) (l := seed ++ twoB i) (OwnB.later (by rw [hn4]; rw [hn4] at HOW; exact unhide HOW) hv5) 22 (some ⟨V4.heap.size, 0, none⟩) 2 hbt5 (fun h => by cases h) (by have := (unhide HN4).2; rw [← hn4]; simp; omega) (Nat.le_trans (unhide HBV).size hv5.size)
  have hv6 := grown_below (thenB (unhide HBV) hv5) hg6 (fun k hk => by
    have h1 : OwnB V4 W2.heap.size (.slice A4 n4 c4) (seed ++ twoB i) := by rw [hn4]; rw [hn4] at HOW; exact unhide HOW
    exact (h1.lt k hk).1)
  refine wp_append (.tmp 17) (.tmp 22) 22 rfl _ _ v6 V6 rfl rfl hr6 ?_
  refine hKt _ _ ?_
  clear hKt Kt hr6 hg6 hbt5 hv5 hn4
  try simp only [List.getElem_toArray, List.getElem_cons_zero, List.getElem_cons_succ, Act.put, List.setIfInBounds_toArray, List.set_cons_zero, List.set_cons_succ]
  obtain ⟨L, hL⟩ : ∃ L, L = (seed ++ twoB i) ++ [(j : Int), (b : Int)] := ⟨_, rfl⟩
  have hbL : ∀ x ∈ L, Byt x := by
    intro x hx
    rw [hL] at hx
    rcases List.mem_append.1 hx with h | h
    · rcases List.mem_append.1 h with h | h
      · exact (unhide HA).byt x h
      · exact twoB_byt i x h
    · simp only [List.mem_cons, List.not_mem_nil, or_false] at h
      rcases h with rfl | rfl
      · exact byt_nat j (unhide HN).2.2.2.2.2.1
      · exact byt_nat b (unhide HN).2.2.2.2.2.2
  have hlL : L.length ≤ 1004 := by rw [hL, List.length_append, ← (unhide HN4).1]; have := (unhide HN4).2; simp; omega
  rw [← hL] at hown6
  obtain ⟨A6, c6, rfl, hc6, hbt6, hn6, hl6⟩ := own_formB hown6 hbL
  have hsm := rtag_any V6 ⟨#[115, 101, 99, 114, 101, 116]⟩ A6 c6 L hbt6 hc6 hn6 (by omega) (by decide)
  obtain ⟨T, hT⟩ : ∃ T, T = secS (begS seed i) j b := ⟨_, rfl⟩
  rw [show sb ⟨#[115, 101, 99, 114, 101, 116]⟩ = SECB by decide, show tagF SECB L = T by rw [hT, hL]; unfold tagF secS begS; rw [List.append_assoc, List.append_assoc, List.append_assoc]] at hsm
  have HTT := hide hT
  have hgT : Dg T := hT ▸ dg_secS _ _ _
  obtain ⟨nL, hnL⟩ : ∃ k, k = L.length := ⟨_, rfl⟩
  rw [← hnL] at hsm ⊢
  obtain ⟨ct, hct⟩ : ∃ cs, cs = (T.map (Value.int .u8)).toArray := ⟨_, rfl⟩
  rw [show dv T = .agg ct by rw [hct]] at hsm
  have HCT := hide hct
  have HGT := hide hgT
  have hB6 := thenB (unhide HB) hv6
  have hO6 := (unhide HK2).keep hv6
  have HB6 := hide hB6; have HO6 := hide hO6
  clear hT hgT hct hnL hlL hbL hL hown6 hc6 hbt6 hn6 hl6 hB6 hO6 hv6
  refine wpList_plain rfl fun Kt hKt => ?_
  go_simp
  refine hsm.mono ?_; rintro x V7 ⟨rfl, hb7⟩
  dsimp only
  refine hKt _ _ ?_
  clear hKt Kt hsm
  have HB7 := hide (thenB (unhide HB6) hb7)
  have HO7 := hide ((unhide HO6).keep hb7)
  clear hb7
  try simp only [List.getElem_toArray, List.getElem_cons_zero, List.getElem_cons_succ, Act.put, List.setIfInBounds_toArray, List.set_cons_zero, List.set_cons_succ]
  refine wpList_bstore rfl 24 (.tmp 8) (.tmp 24) rfl (w.heap.size + 1) rfl T (show Value.agg ct = _ by rw [unhide HCT]) 32 info32 (unhide HGT).len _ zeros (unhide HO7) rfl ?_
  intro W9 HW9 HG9
  go_wp2_with fail
  try simp only [Exit.inBlock, Exit.then]
  exact bret rfl rfl (w.heap.size + 1) rfl _ _ (unhide HW9) (unhide HGT).len ⟨by rw [unhide HTT], (unhide HB7).grown (unhide HG9) (unhide HB7).size (fun i e => by injection e with e; omega)⟩
end Go.Proofs.YtninjgplgoimeaaDoor
namespace Go.Proofs.YtninjgplgoimeaaDoor
set_option linter.unusedSimpArgs false
set_option linter.unusedVariables false
open Go.RowKit

def flatD (l : List (List Int)) : List Int := l.flatMap fun d => d
theorem flatD_append (p q : List (List Int)) : flatD (p ++ q) = flatD p ++ flatD q := List.flatMap_append
theorem flatD_one (d : List Int) : flatD [d] = d := by simp [flatD]
theorem flatD_byt {l : List (List Int)} (h : ∀ d ∈ l, Dg d) : ∀ c ∈ flatD l, Byt c := fun c hc => by
  obtain ⟨d, hd, hm⟩ := List.mem_flatMap.1 hc
  exact (h d hd).byt c hm
theorem flatD_length : ∀ {l : List (List Int)}, (∀ d ∈ l, Dg d) → (flatD l).length = l.length * 32
  | [], _ => rfl
  | d :: l, h => by
    have e : flatD (d :: l) = d ++ flatD l := by simp [flatD]
    rw [e, List.length_append, flatD_length fun x hx => h x (List.mem_cons_of_mem _ hx), (h d List.mem_cons_self).len, List.length_cons]
    omega
theorem flatD_take {l : List (List Int)} {k : Nat} {d : List Int} (h : l[k]? = some d) : flatD (l.take (k + 1)) = flatD (l.take k) ++ d := by
  rw [List.take_add_one, h, flatD_append]
  show _ ++ flatD [d] = _
  rw [flatD_one]
set_option maxRecDepth 100000 in
set_option maxHeartbeats 2000000 in
theorem rone_any (w : World) (A : Option Addr) (n c : Nat) (l : List (List Int)) (hn : n = l.length) (hc : n ≤ c) (h1000 : n ≤ 1000) (hA : Ds w A l) :
    Calls Tryd.prog 81 #[.slice A n c] w fun x w' => x = .returned (dv (tagF ONEB (flatD l))) ∧ Below w.heap.size w w' := by
  have HA := hide hA
  have HN : Hid (n = l.length ∧ n ≤ c ∧ n ≤ 1000) := ⟨hn, hc, h1000⟩
  clear hA hn hc h1000
  go_enter Tryd.func81, Tryd.ntmps81
  go_upto_region 1 with fail
  generalize hX1 : w.alloc _ = W1
  have hB1 : Below w.heap.size w W1 := hX1 ▸ (Below.refl _ _).alloc (Nat.le_refl _) _
  have ho1 : ByAt W1 w.heap.size 24 zeros := newBy w W1 (by rw [← hX1]; rfl)
  have hz1 : W1.heap.size = w.heap.size + 1 := by rw [← hX1]; show (w.heap.push _).size = _; rw [Array.size_push]
  clear hX1
  refine wp_region_lit ?_
  refine wpList_plain rfl fun Kt hKt => ?_
  go_simp
  refine hKt _ _ ?_
  clear hKt Kt
  generalize hX : W1.alloc _ = V1
  have hv1 : Below W1.heap.size W1 V1 := hX ▸ (Below.refl _ _).alloc (Nat.le_refl _) _
  have hown1 : OwnB V1 W1.heap.size (.slice (some ⟨W1.heap.size, 0, none⟩) 0 0) [] := hX ▸ World.ownsRow_lit W1 #[] 0 (Nat.le_refl _) (Nat.zero_le _) rfl
  have HB1 := hide hB1
  have HV1 := hide hv1
  have HO1 := hide hown1
  have HD1 := hide ho1
  have HZ1 := hide hz1
  clear hX hv1 hown1 hB1 ho1 hz1
  go_wp2_with fail
  go_loopg [3, 4] n (fun g y3 y4 wx => ∃ (k : Nat) (v : Value), y3 = v ∧ y4 = .int .i64 (k : Int) ∧ k + g = n ∧ OwnB wx W1.heap.size v (flatD (l.take k)) ∧ Below W1.heap.size W1 wx)
  case atStart => exact ⟨0, _, rfl, rfl, by omega, by rw [← unhide HZ1]; simpa [flatD] using unhide HO1, unhide HV1⟩
  case round =>
    obtain ⟨k, v, rfl, rfl, hkg, hown, hbel⟩ := hrel
    have HOW := hide hown
    have HBE := hide hbel
    have HKG : Hid (k + gk = n) := hkg
    clear hown hbel
    cases gk with
    | zero =>
      obtain rfl : k = n := by omega
      have hown := unhide HOW
      rw [List.take_of_length_le (Nat.le_of_eq (unhide HN).1.symm)] at hown
      obtain ⟨A6, c6, rfl, hc6, hbt6, hn6, hl6⟩ := own_formB hown (flatD_byt (unhide HA).dg)
      have hsm := rtag_any wr ⟨#[111, 110, 101]⟩ A6 c6 (flatD l) hbt6 hc6 hn6 (by rw [flatD_length (unhide HA).dg]; have := unhide HN; omega) (by decide)
      obtain ⟨T, hT⟩ : ∃ T, T = tagF ONEB (flatD l) := ⟨_, rfl⟩
      rw [show sb ⟨#[111, 110, 101]⟩ = ONEB by decide, ← hT] at hsm
      have HTT := hide hT
      have hgT : Dg T := hT ▸ dg_hash _
      obtain ⟨nL, hnL⟩ : ∃ k, k = (flatD l).length := ⟨_, rfl⟩
      rw [← hnL] at hsm ⊢
      obtain ⟨ct, hct⟩ : ∃ cs, cs = (T.map (Value.int .u8)).toArray := ⟨_, rfl⟩
      rw [show dv T = .agg ct by rw [hct]] at hsm
      have HCT := hide hct
      have HGT := hide hgT
      have HSM := hide hsm
      clear hT hgT hct hnL hown hc6 hbt6 hn6 hl6 hsm hkg HOW
      go_wp2_with fail
      refine (unhide HSM).mono ?_; rintro x V7 ⟨rfl, hb7⟩
      dsimp only
      rename_i KK hK
      refine hK _ _ ?_
      clear hK KK HSM
      have HB7 := hide (thenB (unhide HB1) (thenB (unhide HBE) hb7))
      have HO7 := hide (((unhide HD1).keep (unhide HBE)).keep hb7)
      clear hb7
      refine wpList_bstore rfl 24 (.tmp 2) (.tmp 19) rfl w.heap.size rfl T (show Value.agg ct = _ by rw [unhide HCT]) 32 info32 (unhide HGT).len _ zeros (unhide HO7) rfl ?_
      intro W9 HW9 HG9
      go_wp2_with fail
      try simp only [Exit.inBlock, Exit.then]
      exact bret rfl rfl w.heap.size rfl _ _ (unhide HW9) (unhide HGT).len ⟨by rw [unhide HTT], (unhide HB7).grown (unhide HG9) (unhide HB7).size (fun i e => by injection e with e; omega)⟩
    | succ g =>
      have i1 : (k : Int) < (n : Int) := by omega
      have i0 : (0 : Int) ≤ (k : Int) := Int.natCast_nonneg _
      have iM : (k : Int) ≤ 1000 := by have := unhide HN; omega
      obtain ⟨d, hd⟩ : ∃ x, l[k]? = some x := ⟨_, List.getElem?_eq_getElem (by have := (unhide HN).1; omega)⟩
      have hne : l ≠ [] := fun e => by rw [e] at hd; simp at hd
      obtain ⟨b1, o1, rfl, hr1⟩ := (unhide HA).at_ hne
      have hg : Dg d := (unhide HA).dg d (List.mem_of_getElem? hd)
      have hbd := bt_of_range hg (rangeAt_keep (rangeAt_keep (rangeAt_keep (hr1 k d hd) (unhide HB1)) (Below.refl _ _)) (unhide HBE))
      have HD := hide hd; have HG := hide hg; have HBD := hide hbd
      have kc : (n : Int) ≤ (c : Int) := by have := unhide HN; omega
      clear hd hne hr1 hg hbd hkg
      go_upto_region 5 with fail
      refine wp_region_lit ?_
      refine wpList_plain rfl fun Kt hKt => ?_
      go_simp
      refine hKt _ _ ?_
      clear hKt Kt
      refine wpList_plain rfl fun Kt hKt => ?_
      go_simp
      refine hKt _ _ ?_
      clear hKt Kt
      refine wpList_plain rfl fun Kt hKt => ?_
      go_simp
      refine hKt _ _ ?_
      clear hKt Kt
      refine wpList_plain rfl fun Kt hKt => ?_
      go_simp
      refine hKt _ _ ?_
      clear hKt Kt
      refine wpList_plain rfl fun Kt hKt => ?_
      go_simp
      refine hKt _ _ ?_
      clear hKt Kt
      refine wpList_plain rfl fun K hK => ?_
      obtain ⟨v3, V3, hr3, hown3, hg3⟩ := run_append_B (unhide HOW) 22 (some ⟨b1, o1 + k * 32, none⟩) 32 (unhide HBD) (fun h => by cases h) (by rw [flatD_length (fun x hx => (unhide HA).dg x (List.mem_of_mem_take hx)), (unhide HG).len, List.length_take]; have := unhide HN; omega) (unhide HBE).size
      rw [(unhide HG).len] at hr3
      have hS3 := grown_below (unhide HBE) hg3 (fun k hk => ((unhide HOW).lt k hk).1)
      have HS3 := hide hS3
      have HO3 := hide hown3
      refine wp_append (.tmp 12) (.tmp 16) 22 rfl _ _ v3 V3 rfl rfl hr3 ?_
      refine hK _ _ ?_
      clear hK K hr3 hown3 hg3 hS3
      try simp only [List.getElem_toArray, List.getElem_cons_zero, List.getElem_cons_succ, Act.put, List.setIfInBounds_toArray, List.set_cons_zero, List.set_cons_succ]
      go_wp2_with fail
      go_roundg g
      case measure => omega
      case rel => exact ⟨k + 1, v3, rfl, by push_cast; rfl, by have := unhide HKG; omega, by rw [flatD_take (unhide HD)]; exact unhide HO3, unhide HS3⟩
end Go.Proofs.YtninjgplgoimeaaDoor
namespace Go.Proofs.YtninjgplgoimeaaDoor
set_option linter.unusedSimpArgs false
set_option linter.unusedVariables false
open Go.RowKit

def pairL (f : Nat → Nat → List Int) (k : Nat) : List (List Int) := (List.range k).flatMap fun j => [f j 0, f j 1]
theorem pairL_succ (f : Nat → Nat → List Int) (k : Nat) : pairL f (k + 1) = pairL f k ++ [f k 0, f k 1] := by simp [pairL, List.range_succ]
theorem pairL_length (f : Nat → Nat → List Int) : ∀ k, (pairL f k).length = 2 * k
  | 0 => rfl
  | k + 1 => by rw [pairL_succ, List.length_append, pairL_length f k]; simp; omega
theorem flatD_pair (f : Nat → Nat → List Int) : ∀ k, flatD (pairL f k) = halfS f k
  | 0 => rfl
  | k + 1 => by
    rw [pairL_succ, flatD_append, flatD_pair f k, halfS_succ]
    simp [flatD]
theorem dg_pairL {f : Nat → Nat → List Int} (h : ∀ j b, Dg (f j b)) (k : Nat) : ∀ d ∈ pairL f k, Dg d := fun d hd => by
  obtain ⟨j, _, hm⟩ := List.mem_flatMap.1 hd
  simp only [List.mem_cons, List.not_mem_nil, or_false] at hm
  rcases hm with rfl | rfl <;> exact h _ _
theorem run_two (w : World) (d e : List Int) (hd : d.length = 32) (he : e.length = 32) :
    (Instr.buildSlice 26 2 #[(0, dv d), (1, dv e)]).run Tryd.prog w = .ok (.slice (some ⟨w.heap.size, 0, none⟩) 2 2) (w.alloc (.cells ((d ++ e).map (Value.int .u8)).toArray 24)) := by
  obtain ⟨i0, hi, hz0, hz1, hz2⟩ := info_parts infoDig
  have hf := fill_two d e hd he
  simp [Instr.buildSlice, run_underlying Tryd.underlying26, sizeOf, typeInfo, zeroValue, hi, hz0, hz1, newRow, hf]
theorem wp_two {o : Oper} {a : Act} {w : World} {K : Act → World → Prop} {Q : Exit → Act → World → Prop} (x y : Operand) (ho : o.op = .buildSlice 26 2 #[(0, x), (1, y)]) (d e : List Int) (hd : d.length = 32) (he : e.length = 32) (hx : a.eval x = dv d) (hy : a.eval y = dv e)
    (h : K (a.put o.dst (.slice (some ⟨w.heap.size, 0, none⟩) 2 2)) (w.alloc (.cells ((d ++ e).map (Value.int .u8)).toArray 24))) : o.wp Tryd.prog a w K Q := by
  unfold Oper.wp execOp
  have e1 : (#[(0, x), (1, y)].map fun (i, x) => (i, a.eval x)) = #[(0, dv d), (1, dv e)] := by simp [hx, hy]
  simp only [ho]
  rw [e1]
  simp only [Sem.run_bind, Sem.run_pure, run_two w d e hd he, Result.andThen_ok]
  exact h
theorem ds_two {w : World} {N : Nat} {d e : List Int} {t : TypeId} (hd : Dg d) (he : Dg e) (h : VsAt w N t ((d ++ e).map (Value.int .u8))) : Ds w (some ⟨N, 0, none⟩) [d, e] := by
  refine ⟨fun x hx => ?_, fun _ => ⟨N, 0, rfl, fun j x hx => ?_⟩⟩
  · simp only [List.mem_cons, List.not_mem_nil, or_false] at hx
    rcases hx with rfl | rfl <;> assumption
  · refine h.mid (0 + j * 32) _ fun i v hv => ?_
    rw [List.map_append]
    match j, hx with
    | 0, hx =>
      injection hx with hx
      subst hx
      have hi := (List.getElem?_eq_some_iff.1 hv).1
      rw [List.getElem?_append_left (by omega)]
      simpa using hv
    | 1, hx =>
      injection hx with hx
      subst hx
      rw [List.getElem?_append_right (by rw [List.length_map, hd.len]; omega), List.length_map, hd.len, show 0 + 1 * 32 + i - 32 = i by omega]
      exact hv
end Go.Proofs.YtninjgplgoimeaaDoor
namespace Go.Proofs.YtninjgplgoimeaaDoor
set_option linter.unusedSimpArgs false
set_option linter.unusedVariables false
open Go.RowKit

set_option maxRecDepth 100000 in
set_option maxHeartbeats 1000000 in
theorem rkeys_any (w : World) (A : Option Addr) (n c : Nat) (seed : List Int) (hn : n = seed.length) (h64 : n ≤ 1000) (hc : n ≤ c) (hA : Bt w A seed) (hA0 : A = none → c = 0) (m : Nat) (hm : m ≤ 4096) (u : Int) :
    Calls Tryd.prog 71 #[.agg #[.slice A n c, .int .i64 (m : Int), .int .i64 u]] w fun x w' => (∃ v, x = .returned v ∧ OwnD w' w.heap.size v (pubsS seed m)) ∧ Below w.heap.size w w' := by
  have HA := hide hA
  have HN : Hid (n = seed.length ∧ n ≤ 1000 ∧ n ≤ c ∧ (A = none → c = 0) ∧ m ≤ 4096) := ⟨hn, h64, hc, hA0, hm⟩
  clear hA hn h64 hc hA0 hm
  go_enter Tryd.func71, Tryd.ntmps71
  go_upto_region 1 with fail
  generalize hX1 : w.alloc _ = W1
  have hB1 : Below w.heap.size w W1 := hX1 ▸ (Below.refl _ _).alloc (Nat.le_refl _) _
  have ho1 : VsAt W1 w.heap.size 40 [.slice A n c, .int .i64 (m : Int), .int .i64 u] := boxedV w W1 _ _ (by rw [← hX1]; rfl)
  clear hX1
  refine wp_region_lit ?_
  refine wpList_plain rfl fun Kt hKt => ?_
  go_simp
  refine hKt _ _ ?_
  clear hKt Kt
  generalize hX : W1.alloc _ = V1
  have hv1 : Below W1.heap.size W1 V1 := hX ▸ (Below.refl _ _).alloc (Nat.le_refl _) _
  have hown1 : OwnD V1 W1.heap.size (.slice (some ⟨W1.heap.size, 0, none⟩) 0 0) [] := hX ▸ World.ownsRow_lit W1 #[] 0 (Nat.le_refl _) (Nat.zero_le _) rfl
  have HV1 := hide hv1
  have HB1 := hide hB1
  have HO1 := hide hown1
  have HK := hide ho1
  clear hX hv1 hown1 hB1 ho1
  go_wp2_with fail
  go_loopg [3, 4] m (fun g y3 y4 wx => ∃ (k : Nat) (v : Value), y3 = v ∧ y4 = .int .i64 (k : Int) ∧ k + g = m ∧ OwnD wx W1.heap.size v (pubsS seed k) ∧ Below W1.heap.size W1 wx)
  case atStart => exact ⟨0, _, rfl, rfl, by omega, unhide HO1, unhide HV1⟩
  case round =>
    obtain ⟨k, v, rfl, rfl, hkg, hown, hbel⟩ := hrel
    obtain ⟨wo, hwo⟩ : ∃ x, x = wr := ⟨wr, rfl⟩
    subst hwo
    have HOW := hide hown
    have HBE := hide hbel
    have HKG : Hid (k + gk = m) := hkg
    have hcm : wo.cell? ⟨w.heap.size, 1, none⟩ = some (.int .i64 (m : Int)) := ((unhide HK).keep hbel).cell rfl
    clear hown hbel
    cases gk with
    | zero =>
      obtain rfl : k = m := by omega
      clear hkg
      go_wp2_with fail
      go_ret
      exact ⟨⟨_, rfl, own_le (unhide HOW) (unhide HB1).size⟩, thenB (unhide HB1) (unhide HBE)⟩
    | succ g =>
      have i1 : (k : Int) < (m : Int) := by omega
      have i0 : (0 : Int) ≤ (k : Int) := Int.natCast_nonneg _
      have iM : (k : Int) ≤ 4096 := by have := unhide HN; omega
      obtain ⟨f, hf⟩ : ∃ f : Nat → Nat → List Int, f = fun j b => opnS (secS (begS seed k) j b) := ⟨_, rfl⟩
      have HF : Hid (∀ j b, f j b = opnS (secS (begS seed k) j b)) := fun j b => by rw [hf]
      have HFE := hide hf
      have HGF : Hid (∀ j b, Dg (f j b)) := fun j b => by rw [hf]; exact dg_opnS _
      clear hkg hf
      go_upto_region 5 with fail
      clear hcm
      refine wp_region_lit ?_
      refine wpList_plain rfl fun Kt hKt => ?_
      go_simp
      refine hKt _ _ ?_
      clear hKt Kt
      generalize hX : wo.alloc _ = U1
      have hu1 : Below wo.heap.size wo U1 := hX ▸ (Below.refl _ _).alloc (Nat.le_refl _) _
      have hownu : OwnD U1 wo.heap.size (.slice (some ⟨wo.heap.size, 0, none⟩) 0 0) [] := hX ▸ World.ownsRow_lit wo #[] 0 (Nat.le_refl _) (Nat.zero_le _) rfl
      have HU1 := hide hu1
      have HOU := hide hownu
      clear hX hu1 hownu
      go_wp2_with fail
      go_loopg [5, 6] 64 (fun g y5 y6 wx => ∃ (j : Nat) (v : Value), y5 = v ∧ y6 = .int .i64 (j : Int) ∧ j + g = 64 ∧ OwnD wx wo.heap.size v (pairL f j) ∧ Below wo.heap.size wo wx)
      case atStart => exact ⟨0, _, rfl, rfl, by omega, unhide HOU, unhide HU1⟩
      case round =>
        obtain ⟨j, v', rfl, rfl, hjg, hown', hbel'⟩ := hrel
        have HOV := hide hown'
        have HBV := hide hbel'
        have HJG : Hid (j + gk = 64) := hjg
        clear hown' hbel'
        cases gk with
        | zero =>
          obtain rfl : j = 64 := by omega
          clear hjg
          obtain ⟨A5, c5, rfl, hc5, hd5, hn5⟩ := own_form (unhide HOV) (dg_pairL (unhide HGF) 64)
          rw [pairL_length] at hc5 ⊢
          have hro := rone_any wr A5 (2 * 64) c5 (pairL f 64) (pairL_length f 64).symm hc5 (by omega) hd5
          obtain ⟨P, hP⟩ : ∃ d, d = pubS seed k := ⟨_, rfl⟩
          rw [flatD_pair, show tagF ONEB (halfS f 64) = P by rw [hP, unhide HFE]; rfl] at hro
          have hgP : Dg P := hP ▸ dg_pubS _ _
          obtain ⟨qP, hqP⟩ : ∃ cs, cs = (P.map (Value.int .u8)).toArray := ⟨_, rfl⟩
          have hsP : qP.size = 32 := by rw [hqP]; simpa using hgP.len
          rw [show dv P = .agg qP by rw [hqP]] at hro
          have HRO := hide hro
          have HP := hide hP; have HGP := hide hgP; have HQP := hide hqP
          clear hc5 hd5 hn5 hro hP hgP hqP HOV
          go_upto_region 10 with fail
          refine wp_region_lit ?_
          refine wpList_plain rfl fun Kt hKt => ?_
          go_simp
          refine hKt _ _ ?_
          clear hKt Kt
          refine wpList_plain rfl fun Kt hKt => ?_
          go_simp
          refine hKt _ _ ?_
          clear hKt Kt
          refine wpList_plain rfl fun Kt hKt => ?_
          go_simp
          refine (unhide HRO).mono ?_; rintro x U2 ⟨rfl, hb2⟩
          dsimp only
          refine hKt _ _ ?_
          clear hKt Kt HRO
          try simp only [List.getElem_toArray, List.getElem_cons_zero, List.getElem_cons_succ, Act.put, List.setIfInBounds_toArray, List.set_cons_zero, List.set_cons_succ]
          refine wpList_plain rfl fun Kt hKt => ?_
          go_simp
          refine hKt _ _ ?_
          clear hKt Kt
          rw [overwritten hsP (by rfl)]
          generalize hY : U2.alloc _ = Y1
          have hBY : Below U2.heap.size U2 Y1 := hY ▸ (Below.refl _ _).alloc (Nat.le_refl _) _
          have hoY : ByAt Y1 U2.heap.size 24 P := boxed U2 Y1 P _ (by rw [← hY, unhide HQP]; rfl)
          clear hY
          have hB3 := thenB (thenB (unhide HBV) hb2) hBY
          have hO3 := (unhide HOW).later hB3
          obtain ⟨v3, V3, hr3, hown3, hg3⟩ := run_append_D hO3 26 U2.heap.size 1 P (unhide HGP) hoY (by rw [pubsS_length]; omega) (Nat.le_trans (unhide HBE).size hB3.size)
          have hS3 := grown_below (thenB (unhide HBE) hB3) hg3 (fun k hk => (hO3.lt k hk).1)
          have HS3 := hide hS3
          have HO3 := hide hown3
          refine wpList_plain rfl fun K hK => ?_
          refine wp_append (.tmp 32) (.tmp 35) 26 rfl _ _ v3 V3 rfl rfl hr3 ?_
          refine hK _ _ ?_
          clear hK K hB3 hO3 hr3 hown3 hg3 hS3 hBY hoY hb2
          try simp only [List.getElem_toArray, List.getElem_cons_zero, List.getElem_cons_succ, Act.put, List.setIfInBounds_toArray, List.set_cons_zero, List.set_cons_succ]
          go_wp2_with fail
          go_roundg g
          case measure => omega
          case rel => exact ⟨k + 1, v3, rfl, by push_cast; rfl, by have := unhide HKG; omega, by rw [pubsS_succ, ← unhide HP]; exact unhide HO3, unhide HS3⟩
        | succ g2 =>
          have j1 : (j : Int) < 64 := by omega
          have j0 : (0 : Int) ≤ (j : Int) := Int.natCast_nonneg _
          clear hjg
          have hSe : ∀ V, Below wo.heap.size wo V → ∀ b : Nat, b < 2 → Calls Tryd.prog 77 #[.agg #[.slice A n c, .int .i64 (m : Int), .int .i64 u], .int .i64 (k : Int), .int .i64 (j : Int), .int .i64 (b : Int)] V fun x w' => x = .returned (dv (secS (begS seed k) j b)) ∧ Below V.heap.size V w' := fun V hV b hb =>
            rsecret_any V A n c seed (unhide HN).1 (unhide HN).2.1 (unhide HN).2.2.1 ((((unhide HA).keep (unhide HB1)).keep (unhide HBE)).keep hV) (unhide HN).2.2.2.1 m u k (by omega) j b (by omega) (by omega)
          have HSE := hide hSe
          have HKV : Hid (∀ V, Below wo.heap.size wo V → V.rangeAt w.heap.size 0 [.slice A n c, .int .i64 (m : Int), .int .i64 u]) := fun V hV => (((unhide HK).keep (unhide HBE)).keep hV).range
          clear hSe
          go_wp2_with fail
          obtain ⟨W, hW⟩ : ∃ W, W = wr.drewN 1 := ⟨_, rfl⟩
          have HW : Hid (W = wr.drewN 1) := hW
          have hS : Below wo.heap.size wo W := thenB (unhide HBV) (below_named HW)
          clear hW
          refine held (S := Below wo.heap.size wo) W HW (by kernel_rfl) ?_
          refine wpAnyH_take (i := 0) (v := ?_) rfl (by kernel_rfl) (by kernel_rfl) (by kernel_rfl) (fun _ _ _ h => h) (Or.inl ⟨by kernel_rfl, ?_⟩) (by assumption) ?_
          rotate_left
          · intro Wt hSt
            go_simp
            try with_reducible rfl
          try simp only [List.getElem_toArray, List.getElem_cons_zero, List.getElem_cons_succ, Act.put, List.setIfInBounds_toArray, List.set_cons_zero, List.set_cons_succ]
          refine wpAnyH_take (i := 1) (v := .agg [.slice A n c, .int .i64 (m : Int), .int .i64 u].toArray) rfl (by kernel_rfl) (by kernel_rfl) (by kernel_rfl) (fun _ _ _ h => h) (yieldsIf_load_mid (by kernel_rfl) 40 (.tmp 1) rfl w.heap.size 0 rfl [.slice A n c, .int .i64 (m : Int), .int .i64 u] _ (fun W hS => unhide HKV W hS) Tryd.underlying40 rfl infoKey) (by assumption) ?_
          try simp only [List.getElem_toArray, List.getElem_cons_zero, List.getElem_cons_succ, Act.put, List.setIfInBounds_toArray, List.set_cons_zero, List.set_cons_succ]
          refine wpAnyH_take (i := 2) (v := ?_) rfl (by kernel_rfl) (by kernel_rfl) (by kernel_rfl) (fun _ _ _ h => h) (Or.inl ⟨by kernel_rfl, ?_⟩) (by assumption) ?_
          rotate_left
          · intro Wt hSt
            go_simp
            try with_reducible rfl
          try simp only [List.getElem_toArray, List.getElem_cons_zero, List.getElem_cons_succ, Act.put, List.setIfInBounds_toArray, List.set_cons_zero, List.set_cons_succ]
          refine wpAnyH_take (i := 3) (v := ?_) rfl (by kernel_rfl) (by kernel_rfl) (by kernel_rfl) (fun _ _ _ h => h) (Or.inl ⟨by kernel_rfl, ?_⟩) (by assumption) ?_
          rotate_left
          · intro Wt hSt
            go_simp
            try with_reducible rfl
          try simp only [List.getElem_toArray, List.getElem_cons_zero, List.getElem_cons_succ, Act.put, List.setIfInBounds_toArray, List.set_cons_zero, List.set_cons_succ]
          refine wpAnyH_take (i := 6) (v := .agg [.slice A n c, .int .i64 (m : Int), .int .i64 u].toArray) rfl (by kernel_rfl) (by kernel_rfl) (by kernel_rfl) (fun _ _ _ h => h) (yieldsIf_load_mid (by kernel_rfl) 40 (.tmp 1) rfl w.heap.size 0 rfl [.slice A n c, .int .i64 (m : Int), .int .i64 u] _ (fun W hS => unhide HKV W hS) Tryd.underlying40 rfl infoKey) (by assumption) ?_
          try simp only [List.getElem_toArray, List.getElem_cons_zero, List.getElem_cons_succ, Act.put, List.setIfInBounds_toArray, List.set_cons_zero, List.set_cons_succ]
          refine wpAnyH_take (i := 7) (v := ?_) rfl (by kernel_rfl) (by kernel_rfl) (by kernel_rfl) (fun _ _ _ h => h) (Or.inl ⟨by kernel_rfl, ?_⟩) (by assumption) ?_
          rotate_left
          · intro Wt hSt
            go_simp
            try with_reducible rfl
          try simp only [List.getElem_toArray, List.getElem_cons_zero, List.getElem_cons_succ, Act.put, List.setIfInBounds_toArray, List.set_cons_zero, List.set_cons_succ]
          refine wpAnyH_take (i := 8) (v := ?_) rfl (by kernel_rfl) (by kernel_rfl) (by kernel_rfl) (fun _ _ _ h => h) (Or.inl ⟨by kernel_rfl, ?_⟩) (by assumption) ?_
          rotate_left
          · intro Wt hSt
            go_simp
            try with_reducible rfl
          try simp only [List.getElem_toArray, List.getElem_cons_zero, List.getElem_cons_succ, Act.put, List.setIfInBounds_toArray, List.set_cons_zero, List.set_cons_succ]
          refine wpAnyH_chainOf [4, 5, 9, 10, 11, 12, 13] _ _ _ (by kernel_rfl) (by kernel_rfl) ?_
          simp only [List.filterMap_cons, List.filterMap_nil, List.getElem?_toArray, List.getElem?_cons_zero, List.getElem?_cons_succ]
          refine wpChain_step rfl fun K hK => ?_
          go_simp
          obtain ⟨s0, hs0⟩ : ∃ s, s = secS (begS seed k) j 0 := ⟨_, rfl⟩
          obtain ⟨s1, hs1⟩ : ∃ s, s = secS (begS seed k) j 1 := ⟨_, rfl⟩
          have hg0 : Dg s0 := hs0 ▸ dg_secS _ _ _
          have hg1 : Dg s1 := hs1 ▸ dg_secS _ _ _
          have HS0 := hide hs0; have HS1 := hide hs1
          clear hs0 hs1
          have hc0 := unhide HSE W hS 0 (by omega)
          rw [← unhide HS0] at hc0
          refine hc0.mono ?_; rintro x U2 ⟨rfl, hb2⟩
          have hS2 := thenB hS hb2
          dsimp only
          refine hK _ _ hS2 ?_
          clear hK K hc0
          refine wpChain_step rfl fun K hK => ?_
          go_simp
          obtain ⟨t0, ht0⟩ : ∃ s, s = opnS s0 := ⟨_, rfl⟩
          have hh0 := rhash_any U2 s0 hg0
          have hgt0 : Dg t0 := ht0 ▸ dg_opnS _
          obtain ⟨q0, hq0⟩ : ∃ cs, cs = (t0.map (Value.int .u8)).toArray := ⟨_, rfl⟩
          rw [← ht0, show dv t0 = .agg q0 by rw [hq0]] at hh0
          have z0 : q0.size = 32 := by rw [hq0]; simpa using hgt0.len
          have HT0 := hide ht0; have HQ0 := hide hq0
          clear ht0 hq0 z0
          refine hh0.mono ?_; rintro x U3 ⟨rfl, hb3⟩
          have hS3 := thenB hS2 hb3
          dsimp only
          refine hK _ _ hS3 ?_
          clear hK K hh0
          refine wpChain_step rfl fun K hK => ?_
          go_simp
          have hc1 := unhide HSE U3 hS3 1 (by omega)
          rw [← unhide HS1] at hc1
          refine hc1.mono ?_; rintro x U4 ⟨rfl, hb4⟩
          have hS4 := thenB hS3 hb4
          dsimp only
          refine hK _ _ hS4 ?_
          clear hK K hc1
          refine wpChain_step rfl fun K hK => ?_
          go_simp
          obtain ⟨t1, ht1⟩ : ∃ s, s = opnS s1 := ⟨_, rfl⟩
          have hh1 := rhash_any U4 s1 hg1
          have hgt1 : Dg t1 := ht1 ▸ dg_opnS _
          obtain ⟨q1, hq1⟩ : ∃ cs, cs = (t1.map (Value.int .u8)).toArray := ⟨_, rfl⟩
          rw [← ht1, show dv t1 = .agg q1 by rw [hq1]] at hh1
          have z1 : q1.size = 32 := by rw [hq1]; simpa using hgt1.len
          have HT1 := hide ht1; have HQ1 := hide hq1
          clear ht1 hq1 z1
          refine hh1.mono ?_; rintro x U5 ⟨rfl, hb5⟩
          have hS5 := thenB hS4 hb5
          dsimp only
          refine hK _ _ hS5 ?_
          clear hK K hh1
          refine wpChain_step rfl fun K hK => ?_
          refine wp_two (.tmp 24) (.tmp 29) rfl t0 t1 hgt0.len hgt1.len (show Value.agg q0 = _ by rw [unhide HQ0]) (show Value.agg q1 = _ by rw [unhide HQ1]) ?_
          generalize hY : U5.alloc _ = U6
          have hb6 : Below U5.heap.size U5 U6 := hY ▸ (Below.refl _ _).alloc (Nat.le_refl _) _
          have hv6 : VsAt U6 U5.heap.size 24 ((t0 ++ t1).map (Value.int .u8)) := boxedV U5 U6 _ _ (by rw [← hY]; rfl)
          have hds := ds_two hgt0 hgt1 hv6
          clear hY
          have hS6 := thenB hS5 hb6
          refine hK _ _ hS6 ?_
          clear hK K
          refine wpChain_step rfl fun K hK => ?_
          have hO6 := (((((((unhide HOV).later (below_named HW)).later hb2).later hb3).later hb4).later hb5).later hb6)
          obtain ⟨v7, U7, hr7, hown7, hg7, _⟩ := append_many hO6 26 (some ⟨U5.heap.size, 0, none⟩) 2 hds (fun h => by cases h) (by rw [pairL_length]; simp; omega) hS6.size
          have hS7 := grown_below hS6 hg7 (fun k hk => (hO6.lt k hk).1)
          refine wp_append (.tmp 19) (.tmp 30) 26 rfl _ _ v7 U7 rfl rfl hr7 ?_
          refine hK _ _ hS7 ?_
          clear hK K
          have hE : Hid (t0 = f j 0 ∧ t1 = f j 1) := ⟨by rw [unhide HF, unhide HT0, unhide HS0], by rw [unhide HF, unhide HT1, unhide HS1]⟩
          have HO7 := hide hown7
          have HS7 := hide hS7
          refine wpChain_step rfl fun K hK => ?_
          go_simp
          refine hK _ _ hS7 (wpChain_nil ?_)
          clear hK K hr7 hown7 hg7 hO6 hS6 hds hv6 hS5 hS4 hS3 hS2 hS hb2 hb3 hb4 hb5 hb6 hS7 hg0 hg1 hgt0 hgt1
          go_wp2_with fail
          go_roundg g2
          case measure => omega
          case rel => exact ⟨j + 1, v7, rfl, by push_cast; rfl, by have := unhide HJG; omega, by rw [pairL_succ, ← (unhide hE).1, ← (unhide hE).2]; exact unhide HO7, unhide HS7⟩
end Go.Proofs.YtninjgplgoimeaaDoor
namespace Go.Proofs.YtninjgplgoimeaaDoor
set_option linter.unusedSimpArgs false
set_option linter.unusedVariables false
open Go.RowKit

set_option maxRecDepth 100000 in
set_option maxHeartbeats 1000000 in
theorem rPublic_bad (w : World) (A : Option Addr) (n c : Nat) (many u : Int) (hk : keyOk n many u = false) :
    Calls Tryd.prog 36 #[.agg #[.slice A n c, .int .i64 many, .int .i64 u]] w fun x w' => x = .returned (.tuple #[dv zeros, .int .i64 40]) ∧ Below w.heap.size w w' := by
  have hik := fun W => rvalid_any W A n c many u
  rw [hk] at hik
  have HIK := hide hik
  clear hik hk
  go_enter Tryd.func36, Tryd.ntmps36
  go_upto_region 1 with fail
  generalize hX1 : w.alloc _ = W1
  have hB1 : Below w.heap.size w W1 := hX1 ▸ (Below.refl _ _).alloc (Nat.le_refl _) _
  have ho1 : VsAt W1 w.heap.size 40 [.slice A n c, .int .i64 many, .int .i64 u] := boxedV w W1 _ _ (by rw [← hX1]; rfl)
  have hz1 : W1.heap.size = w.heap.size + 1 := by rw [← hX1]; show (w.heap.push _).size = _; rw [Array.size_push]
  generalize hX2 : W1.alloc _ = W2
  have hB2 : Below W1.heap.size W1 W2 := hX2 ▸ (Below.refl _ _).alloc (Nat.le_refl _) _
  have ho2 : ByAt W2 W1.heap.size 24 zeros := newBy W1 W2 (by rw [← hX2]; rfl)
  rw [hz1] at ho2
  have HO1 := hide (ho1.keep hB2); have HO2 := hide ho2
  have HB2 := hide (thenB hB1 hB2)
  clear hX1 hX2 hB1 hB2 ho1 ho2 hz1
  refine wp_region_lit ?_
  refine wpList_load_mid rfl 40 (.tmp 1) rfl w.heap.size 0 rfl [.slice A n c, .int .i64 many, .int .i64 u] _ (unhide HO1).range Tryd.underlying40 rfl (by kernel_rfl) ?_
  try simp only [List.getElem_toArray, List.getElem_cons_zero, List.getElem_cons_succ, Act.put, List.setIfInBounds_toArray, List.set_cons_zero, List.set_cons_succ]
  go_wp2_with fail
  refine ((unhide HIK) W2).mono ?_; rintro x W3 ⟨rfl, hB3⟩
  have HB3 := hide (thenB (unhide HB2) hB3)
  have HO2' := hide ((unhide HO2).keep hB3)
  clear hB3 HB2 HO1 HO2
  go_upto_region 2 with fail
  refine wp_region_lit ?_
  refine wpList_build0 rfl 24 rfl (dv zeros) (build_zero _) ?_
  refine wpList_bstore rfl 24 (.tmp 2) (.tmp 7) rfl (w.heap.size + 1) rfl zeros rfl 32 info32 rfl _ zeros (unhide HO2') rfl ?_
  intro W9 HW9 HG
  go_wp2_with fail
  try simp only [Exit.inBlock, Exit.then]
  exact bret2 rfl rfl (w.heap.size + 1) rfl _ _ (unhide HW9) rfl _ rfl ⟨rfl, (unhide HB3).grown (unhide HG) (unhide HB3).size (fun i e => by injection e with e; omega)⟩

set_option maxRecDepth 100000 in
set_option maxHeartbeats 1000000 in
theorem rPublic_ok (w : World) (A : Option Addr) (n c : Nat) (seed : List Int) (hn : n = seed.length) (hc : n ≤ c) (hA : Bt w A seed) (hA0 : A = none → c = 0) (many : Nat) (u : Int) (hk : keyOk n (many : Int) u = true) :
    Calls Tryd.prog 36 #[.agg #[.slice A n c, .int .i64 (many : Int), .int .i64 u]] w fun x w' => x = .returned (.tuple #[dv (treeP (pubsS seed many)), .int .i64 0]) ∧ Below w.heap.size w w' := by
  have hik := fun W => rvalid_any W A n c many u
  rw [hk] at hik
  have HIK := hide hik
  have hkk : 1 ≤ n ∧ n ≤ 64 ∧ 1 ≤ many ∧ many ≤ 4096 := by
    unfold keyOk at hk
    rw [decide_eq_true_eq] at hk
    omega
  have HN : Hid (n = seed.length ∧ n ≤ c ∧ (A = none → c = 0) ∧ 1 ≤ n ∧ n ≤ 64 ∧ 1 ≤ many ∧ many ≤ 4096) := ⟨hn, hc, hA0, hkk⟩
  have HA := hide hA
  obtain ⟨T, hT⟩ : ∃ t, t = treeP (pubsS seed many) := ⟨_, rfl⟩
  have hgT : Dg T := hT ▸ dg_tree _
  obtain ⟨ct, hct⟩ : ∃ cs, cs = (T.map (Value.int .u8)).toArray := ⟨_, rfl⟩
  rw [← hT]
  have HTT := hide hT; have HGT := hide hgT; have HCT := hide hct
  clear hik hk hkk hn hc hA hA0 hT hgT hct
  go_enter Tryd.func36, Tryd.ntmps36
  go_upto_region 1 with fail
  generalize hX1 : w.alloc _ = W1
  have hB1 : Below w.heap.size w W1 := hX1 ▸ (Below.refl _ _).alloc (Nat.le_refl _) _
  have ho1 : VsAt W1 w.heap.size 40 [.slice A n c, .int .i64 (many : Int), .int .i64 u] := boxedV w W1 _ _ (by rw [← hX1]; rfl)
  have hz1 : W1.heap.size = w.heap.size + 1 := by rw [← hX1]; show (w.heap.push _).size = _; rw [Array.size_push]
  generalize hX2 : W1.alloc _ = W2
  have hB2 : Below W1.heap.size W1 W2 := hX2 ▸ (Below.refl _ _).alloc (Nat.le_refl _) _
  have ho2 : ByAt W2 W1.heap.size 24 zeros := newBy W1 W2 (by rw [← hX2]; rfl)
  rw [hz1] at ho2
  have HO1 := hide (ho1.keep hB2); have HO2 := hide ho2
  have HB2 := hide (thenB hB1 hB2)
  clear hX1 hX2 hB1 hB2 ho1 ho2 hz1
  refine wp_region_lit ?_
  refine wpList_load_mid rfl 40 (.tmp 1) rfl w.heap.size 0 rfl [.slice A n c, .int .i64 (many : Int), .int .i64 u] _ (unhide HO1).range Tryd.underlying40 rfl (by kernel_rfl) ?_
  try simp only [List.getElem_toArray, List.getElem_cons_zero, List.getElem_cons_succ, Act.put, List.setIfInBounds_toArray, List.set_cons_zero, List.set_cons_succ]
  go_wp2_with fail
  refine ((unhide HIK) W2).mono ?_; rintro x W3 ⟨rfl, hB3⟩
  have HB3 := hide (thenB (unhide HB2) hB3)
  have HO3 := hide ((unhide HO2).keep hB3)
  have HK3 := hide ((unhide HO1).keep hB3)
  clear hB3 HB2 HO1 HO2 HIK
  go_upto_region 3 with fail
  refine wp_region_lit ?_
  refine wpList_load_mid rfl 40 (.tmp 1) rfl w.heap.size 0 rfl [.slice A n c, .int .i64 (many : Int), .int .i64 u] _ (unhide HK3).range Tryd.underlying40 rfl (by kernel_rfl) ?_
  try simp only [List.getElem_toArray, List.getElem_cons_zero, List.getElem_cons_succ, Act.put, List.setIfInBounds_toArray, List.set_cons_zero, List.set_cons_succ]
  refine wpList_plain rfl fun Kt hKt => ?_
  go_simp
  refine (rkeys_any W3 A n c seed (unhide HN).1 (by have := unhide HN; omega) (unhide HN).2.1 ((unhide HA).keep (unhide HB3)) (unhide HN).2.2.1 many (unhide HN).2.2.2.2.2.2 u).mono ?_; rintro x W4 ⟨⟨v, rfl, hov⟩, hB4⟩
  obtain ⟨A4, c4, rfl, hc4, hd4, hn4⟩ := own_form hov (dg_pubsS seed many)
  rw [pubsS_length] at hc4 ⊢
  dsimp only
  refine hKt _ _ ?_
  clear hKt Kt hov hn4
  try simp only [List.getElem_toArray, List.getElem_cons_zero, List.getElem_cons_succ, Act.put, List.setIfInBounds_toArray, List.set_cons_zero, List.set_cons_succ]
  have htr := rtree_any W4 c4 A4 (pubsS seed many) hd4 (by rw [pubsS_length]; exact hc4) (by rw [pubsS_length]; have := unhide HN; omega)
  rw [pubsS_length, treeD_ne (pubs_ne seed many (unhide HN).2.2.2.2.2.1), ← unhide HTT, show dv T = .agg ct by rw [unhide HCT]] at htr
  have HB4 := hide (thenB (unhide HB3) hB4)
  have HO4 := hide ((unhide HO3).keep hB4)
  clear hc4 hd4 hB4 HB3 HO3 HK3
  refine wpList_plain rfl fun Kt hKt => ?_
  go_simp
  refine htr.mono ?_; rintro x W5 ⟨rfl, hB5⟩
  dsimp only
  refine hKt _ _ ?_
  clear hKt Kt htr
  try simp only [List.getElem_toArray, List.getElem_cons_zero, List.getElem_cons_succ, Act.put, List.setIfInBounds_toArray, List.set_cons_zero, List.set_cons_succ]
  have HB5 := hide (thenB (unhide HB4) hB5)
  have HO5 := hide ((unhide HO4).keep hB5)
  clear hB5
  refine wpList_bstore rfl 24 (.tmp 2) (.tmp 10) rfl (w.heap.size + 1) rfl T (show Value.agg ct = _ by rw [unhide HCT]) 32 info32 (unhide HGT).len _ zeros (unhide HO5) rfl ?_
  intro W9 HW9 HG
  go_wp2_with fail
  try simp only [Exit.inBlock, Exit.then]
  exact bret2 rfl rfl (w.heap.size + 1) rfl _ _ (unhide HW9) (unhide HGT).len _ rfl ⟨rfl, (unhide HB5).grown (unhide HG) (unhide HB5).size (fun i e => by injection e with e; omega)⟩
end Go.Proofs.YtninjgplgoimeaaDoor
namespace Go.Proofs.YtninjgplgoimeaaDoor
set_option linter.unusedSimpArgs false
set_option linter.unusedVariables false
open Go.RowKit

set_option maxRecDepth 100000 in
set_option maxHeartbeats 1000000 in
theorem rBits_bad (w : World) (d : List Int) (i : Int) (hi : i < 0 ∨ 4096 ≤ i) (m : Value) :
    Calls Tryd.prog 32 #[dv d, .int .i64 i, m] w fun x w' => x = .returned (.slice none 0 0) ∧ Below w.heap.size w w' := by
  have hb1 := fun o => Below.alloc (Below.refl w.heap.size w) (Nat.le_refl _) o
  have HB := hide hb1
  clear hb1
  obtain ⟨cd, hcd⟩ : ∃ cs, cs = (d.map (Value.int .u8)).toArray := ⟨_, rfl⟩
  rw [show dv d = .agg cd by rw [hcd]]
  clear hcd
  by_cases h1 : i < 0
  · clear hi
    go_enter Tryd.func32, Tryd.ntmps32
    go_wp2_with fail
    go_ret
    exact ⟨rfl, unhide HB _⟩
  · have h2 : 4096 ≤ i := by omega
    clear hi
    go_enter Tryd.func32, Tryd.ntmps32
    go_wp2_with fail
    go_ret
    exact ⟨rfl, unhide HB _⟩

set_option maxRecDepth 100000 in
set_option maxHeartbeats 2000000 in
theorem rBits_ok (w : World) (d : List Int) (hd : Dg d) (i : Nat) (hi : i < 4096) (A : Option Addr) (n c : Nat) (msg : List Int) (hn : n = msg.length) (hc : n ≤ c) (hA : Bt w A msg) (hA0 : A = none → c = 0) (h65 : n ≤ 65536) :
    Calls Tryd.prog 32 #[dv d, .int .i64 (i : Int), .slice A n c] w fun x w' => ∃ A9 c9, x = .returned (.slice A9 (bitsS d i msg).length c9) ∧ (bitsS d i msg).length ≤ c9 ∧ Bl w' A9 (bitsS d i msg) ∧ Below w.heap.size w w' := by
  have HA := hide hA
  have HN : Hid (n = msg.length ∧ n ≤ c ∧ (A = none → c = 0) ∧ n ≤ 65536 ∧ i < 4096) := ⟨hn, hc, hA0, h65, hi⟩
  have HD := hide hd
  have hld := hd.len
  obtain ⟨cd, hcd⟩ : ∃ cs, cs = (d.map (Value.int .u8)).toArray := ⟨_, rfl⟩
  have hsd : cd.size = 32 := by rw [hcd]; simpa using hld
  rw [show dv d = .agg cd by rw [hcd]]
  have i0 : ¬ (i : Int) < 0 := by omega
  have i1 : ¬ (4096 : Int) ≤ (i : Int) := by omega
  clear hd hld hA hn hc hA0 h65 hi
  go_enter Tryd.func32, Tryd.ntmps32
  go_upto_region 1 with fail
  generalize hX1 : w.alloc _ = W1
  have hB1 : Below w.heap.size w W1 := hX1 ▸ (Below.refl _ _).alloc (Nat.le_refl _) _
  have ho1 : ByAt W1 w.heap.size 24 d := boxed w W1 d _ (by rw [← hX1]; first | rfl | (rw [hcd]; rfl))
  have HB1 := hide hB1
  have HK1 := hide ho1
  clear hX1 hB1 ho1 hcd
  go_upto_region 3 with fail
  clear i0 i1
  refine wp_region_lit ?_
  refine wpList_plain rfl fun Kt hKt => ?_
  go_simp
  refine hKt _ _ ?_
  clear hKt Kt
  generalize hX : W1.alloc _ = V1
  have hv1 : Below W1.heap.size W1 V1 := hX ▸ (Below.refl _ _).alloc (Nat.le_refl _) _
  have hown1 : OwnB V1 W1.heap.size (.slice (some ⟨W1.heap.size, 0, none⟩) 0 0) [] := hX ▸ World.ownsRow_lit W1 #[] 0 (Nat.le_refl _) (Nat.zero_le _) rfl
  clear hX
  refine wpList_plain rfl fun Kt hKt => ?_
  go_simp
  refine hKt _ _ ?_
  clear hKt Kt
  refine wpList_plain rfl fun Kt hKt => ?_
  obtain ⟨v2, V2, hr2, hown2, hg2⟩ := run_append_B hown1 22 (some ⟨w.heap.size, 0, none⟩) 32 (((unhide HK1).keep hv1).bt (unhide HD)) (fun h => by cases h) (by rw [(unhide HD).len, List.length_nil]; omega) hv1.size
  rw [(unhide HD).len] at hr2
  have hv2 := grown_below hv1 hg2 (fun k hk => (hown1.lt k hk).1)
  refine wp_append (.tmp 17) (.tmp 18) 22 rfl _ _ v2 V2 rfl rfl hr2 ?_
  refine hKt _ _ ?_
  clear hKt Kt hr2 hown1 hg2 hv1
  try simp only [List.getElem_toArray, List.getElem_cons_zero, List.getElem_cons_succ, Act.put, List.setIfInBounds_toArray, List.set_cons_zero, List.set_cons_succ]
  refine wpList_plain rfl fun Kt hKt => ?_
  go_simp
  refine hKt _ _ ?_
  clear hKt Kt
  refine wpList_plain rfl fun Kt hKt => ?_
  go_simp
  refine (rtwo_any i (by have := unhide HN; omega) V2).mono ?_; rintro x V3 ⟨⟨A3, c3, rfl, hc3, hbt3, hn3⟩, hb3⟩
  dsimp only
  refine hKt _ _ ?_
  clear hKt Kt
  try simp only [List.getElem_toArray, List.getElem_cons_zero, List.getElem_cons_succ, Act.put, List.setIfInBounds_toArray, List.set_cons_zero, List.set_cons_succ]
  refine wpList_plain rfl fun Kt hKt => ?_
  obtain ⟨v4, V4, hr4, hown4, hg4⟩ := run_append_B (hown2.later hb3) 22 A3 c3 hbt3 hn3 (by rw [List.nil_append, twoB_length, (unhide HD).len]; omega) (Nat.le_trans hv2.size hb3.size)
  rw [twoB_length] at hr4
  have hv4 := grown_below (thenB hv2 hb3) hg4 (fun k hk => (hown2.lt k hk).1)
  refine wp_append (.tmp 19) (.tmp 21) 22 rfl _ _ v4 V4 rfl rfl hr4 ?_
  refine hKt _ _ ?_
  clear hKt Kt hr4 hown2 hg4 hv2 hb3 hbt3 hn3 hc3
  try simp only [List.getElem_toArray, List.getElem_cons_zero, List.getElem_cons_succ, Act.put, List.setIfInBounds_toArray, List.set_cons_zero, List.set_cons_succ]
  refine wpList_plain rfl fun Kt hKt => ?_
  go_simp
  refine hKt _ _ ?_
  clear hKt Kt
  rw [List.nil_append] at hown4
  have hb34 : ∀ x ∈ d ++ twoB i, Byt x := fun x hx => by
    rcases List.mem_append.1 hx with h | h
    · exact (unhide HD).byt x h
    · exact twoB_byt i x h
  obtain ⟨A4, c4, rfl, hc4, hbt4, hn4, hl4⟩ := own_formB hown4 hb34
  have hl34 : (d ++ twoB i).length = 34 := by rw [List.length_append, twoB_length, (unhide HD).len]
  have HL34 := hide hl34; have HB34 := hide hb34
  obtain ⟨n4, hn4l⟩ : ∃ k, k = (d ++ twoB i).length := ⟨_, rfl⟩
  rw [← hn4l] at hown4 ⊢
  have HOW := hide hown4
  have HV4 := hide hv4
  clear hbt4 hn4 hl4 hc4 hown4 hv4 hl34 hb34 hn4l
  go_upto_region 4 with fail
  refine wp_region_lit ?_
  refine wpList_plain rfl fun Kt hKt => ?_
  go_simp
  refine hKt _ _ ?_
  clear hKt Kt
  refine wpList_plain rfl fun Kt hKt => ?_
  go_simp
  refine hKt _ _ ?_
  clear hKt Kt
  refine wpList_plain rfl fun Kt hKt => ?_
  obtain ⟨v6, V6, hr6, hown6, hg6⟩ := run_append_B (unhide HOW) 22 A c (((unhide HA).keep (unhide HB1)).keep (unhide HV4)) (unhide HN).2.2.1 (by rw [unhide HL34, ← (unhide HN).1]; have := unhide HN; omega) (unhide HV4).size
  rw [← (unhide HN).1] at hr6
  have hv6 := grown_below (unhide HV4) hg6 (fun k hk => ((unhide HOW).lt k hk).1)
  refine wp_append (.tmp 23) (.tmp 24) 22 rfl _ _ v6 V6 rfl rfl hr6 ?_
  refine hKt _ _ ?_
  clear hKt Kt hr6 hg6
  try simp only [List.getElem_toArray, List.getElem_cons_zero, List.getElem_cons_succ, Act.put, List.setIfInBounds_toArray, List.set_cons_zero, List.set_cons_succ]
  obtain ⟨L, hL⟩ : ∃ L, L = (d ++ twoB i) ++ msg := ⟨_, rfl⟩
  have hbL : ∀ x ∈ L, Byt x := by
    intro x hx
    rw [hL] at hx
    rcases List.mem_append.1 hx with h | h
    · exact unhide HB34 x h
    · exact (unhide HA).byt x h
  have hlL : L.length ≤ 70000 := by rw [hL, List.length_append, unhide HL34, ← (unhide HN).1]; have := unhide HN; omega
  rw [← hL] at hown6
  obtain ⟨A6, c6, rfl, hc6, hbt6, hn6, hl6⟩ := own_formB hown6 hbL
  have hsm := rtag_any V6 ⟨#[109, 101, 115, 115, 97, 103, 101]⟩ A6 c6 L hbt6 hc6 hn6 (by omega) (by decide)
  obtain ⟨D, hD5⟩ : ∃ T, T = msgS d i msg := ⟨_, rfl⟩
  rw [show sb ⟨#[109, 101, 115, 115, 97, 103, 101]⟩ = MSGB by decide, show tagF MSGB L = D by rw [hD5, hL, List.append_assoc]; rfl] at hsm
  have HD5 := hide hD5
  have hgD : Dg D := hD5 ▸ dg_hash _
  obtain ⟨nL, hnL⟩ : ∃ k, k = L.length := ⟨_, rfl⟩
  rw [← hnL] at hsm ⊢
  obtain ⟨ct, hct⟩ : ∃ cs, cs = (D.map (Value.int .u8)).toArray := ⟨_, rfl⟩
  rw [show dv D = .agg ct by rw [hct]] at hsm
  have HCT := hide hct
  have HGD := hide hgD
  have HB6 := hide (thenB (unhide HB1) hv6)
  clear hD5 hgD hct hnL hlL hbL hL hown6 hc6 hbt6 hn6 hl6 hv6 HOW HV4
  refine wpList_plain rfl fun Kt hKt => ?_
  go_simp
  refine hsm.mono ?_; rintro x V7 ⟨rfl, hb7⟩
  dsimp only
  refine hKt _ _ ?_
  clear hKt Kt hsm
  have HB7 := hide (thenB (unhide HB6) hb7)
  clear hb7
  try simp only [List.getElem_toArray, List.getElem_cons_zero, List.getElem_cons_succ, Act.put, List.setIfInBounds_toArray, List.set_cons_zero, List.set_cons_succ]
  refine wpList_plain rfl fun Kt hKt => ?_
  go_simp
  refine hKt _ _ ?_
  clear hKt Kt
  generalize hX8 : V7.alloc _ = V8
  have hB8 : Below V7.heap.size V7 V8 := hX8 ▸ (Below.refl _ _).alloc (Nat.le_refl _) _
  have HO8 := hide (newBy V7 V8 (by rw [← hX8]; rfl))
  have HB8 := hide hB8
  obtain ⟨N, hNN⟩ : ∃ N, N = V7.heap.size := ⟨_, rfl⟩
  have HNN : Hid (N = V7.heap.size ∧ w.heap.size ≤ N) := ⟨hNN, by rw [hNN]; exact (unhide HB7).size⟩
  rw [← hNN] at HO8 ⊢
  clear hX8 hB8 hNN
  refine wpList_bstore rfl 24 (.tmp 8) (.tmp 26) rfl N rfl D (show Value.agg ct = _ by rw [unhide HCT]) 32 info32 (unhide HGD).len _ zeros (unhide HO8) rfl ?_
  intro V9 HV9 HG9
  have hB9 : Below w.heap.size w V9 := (thenB (unhide HB7) (unhide HB8)).grown (unhide HG9) (thenB (unhide HB7) (unhide HB8)).size (fun i e => by injection e with e; have := unhide HNN; omega)
  have HB9 := hide hB9
  clear hB9 HG9 HB8 HB7 HO8 HB6
  try simp only [List.getElem_toArray, List.getElem_cons_zero, List.getElem_cons_succ, Act.put, List.setIfInBounds_toArray, List.set_cons_zero, List.set_cons_succ]
  go_upto_region 5 with fail
  refine wp_region_lit ?_
  refine wpList_plain rfl fun Kt hKt => ?_
  go_simp
  refine hKt _ _ ?_
  clear hKt Kt
  generalize hX : V9.alloc _ = wc
  have hvc : Below V9.heap.size V9 wc := hX ▸ (Below.refl _ _).alloc (Nat.le_refl _) _
  have hownc : OwnL wc V9.heap.size (.slice (some ⟨V9.heap.size, 0, none⟩) 0 0) [] := hX ▸ World.ownsRow_lit V9 #[] 0 (Nat.le_refl _) (Nat.zero_le _) rfl
  have HVC := hide hvc
  have HOC := hide hownc
  clear hX hvc hownc
  go_wp2_with fail
  go_loopg [9, 10] 64 (fun g y9 y10 wx => ∃ (j : Nat), g + j = 64 ∧ y10 = .int .i64 (j : Int) ∧ OwnL wx V9.heap.size y9 ((bitsS d i msg).take j) ∧ Below V9.heap.size V9 wx)
  case atStart => exact ⟨0, rfl, rfl, unhide HOC, unhide HVC⟩
  case round =>
    obtain ⟨j, hj, rfl, hov, hbv⟩ := hrel
    cases gk with
    | zero =>
      obtain rfl : j = 64 := by omega
      rw [List.take_of_length_le (by rw [bitsS_length]; exact Nat.le_refl _)] at hov
      obtain ⟨A9, c9, hv9, hc9, hbl⟩ := own_formL hov
      have H9 : Hid ((bitsS d i msg).length ≤ c9) := hc9
      have HBL := hide hbl; have HBV := hide hbv; have HW9 := hide hv9
      clear hov hc9 hbl hbv hj hv9
      go_wp2_with fail
      go_ret
      exact ⟨A9, c9, by rw [unhide HW9]; rfl, unhide H9, unhide HBL, thenB (unhide HB9) (unhide HBV)⟩
    | succ g =>
      have hj64 : j < 64 := by omega
      have j1 : (j : Int) < 64 := by omega
      have j0 : (0 : Int) ≤ (j : Int) := Int.natCast_nonneg _
      obtain ⟨q, hq⟩ : ∃ q, q = j / 8 := ⟨_, rfl⟩
      obtain ⟨r, hr8⟩ : ∃ r, r = j % 8 := ⟨_, rfl⟩
      obtain ⟨s, hs7⟩ : ∃ s, s = 7 - r := ⟨_, rfl⟩
      have wq : IntKind.i64.wrap ((j : Int) / 8) = (q : Int) := (IntWalk.i64_in _ (by omega)).trans (by omega)
      have wr8 : IntKind.i64.wrap ((j : Int) % 8) = (r : Int) := (IntWalk.i64_in _ (by omega)).trans (by omega)
      have wr9 : (j : Int).tmod 8 = (r : Int) := (Int.tmod_eq_emod_of_nonneg (by omega)).trans (by omega)
      have ws : IntKind.i64.wrap (7 - (r : Int)) = (s : Int) := (IntWalk.i64_in _ (by omega)).trans (by omega)
      have q1 : (q : Int) < 32 := by omega
      have s0 : (0 : Int) ≤ (s : Int) := by omega
      have s8 : (s : Int) < 8 := by omega
      have d0 := ((unhide HV9).keep hbv).cell (j := q) (by rw [(unhide HGD).len]; omega)
      have HQ : Hid (q = j / 8 ∧ r = j % 8 ∧ s = 7 - r) := ⟨hq, hr8, hs7⟩
      clear hq hr8 hs7
      go_upto_region 9 with fail
      refine wp_region_lit ?_
      refine wpList_plain rfl fun Kt hKt => ?_
      go_simp
      refine hKt _ _ ?_
      clear hKt Kt
      refine wpList_plain rfl fun Kt hKt => ?_
      go_simp
      refine hKt _ _ ?_
      clear hKt Kt
      refine wpList_plain rfl fun Kt hKt => ?_
      go_simp
      refine hKt _ _ ?_
      clear hKt Kt
      refine wpList_plain rfl fun Kt hKt => ?_
      go_simp
      refine hKt _ _ ?_
      clear hKt Kt
      refine wpList_plain rfl fun Kt hKt => ?_
      go_simp
      refine hKt _ _ ?_
      clear hKt Kt
      refine wpList_plain rfl fun Kt hKt => ?_
      go_simp
      refine hKt _ _ ?_
      clear hKt Kt
      refine wpList_plain rfl fun Kt hKt => ?_
      go_simp
      refine hKt _ _ ?_
      clear hKt Kt
      refine wpList_plain rfl fun Kt hKt => ?_
      go_simp
      refine hKt _ _ ?_
      clear hKt Kt
      refine wpList_plain rfl fun Kt hKt => ?_
      go_simp
      refine hKt _ _ ?_
      clear hKt Kt
      refine wpList_plain rfl fun Kt hKt => ?_
      go_simp
      refine hKt _ _ ?_
      clear hKt Kt
      refine wpList_plain rfl fun Kt hKt => ?_
      go_simp
      refine hKt _ _ ?_
      clear hKt Kt
      obtain ⟨x, hx⟩ : ∃ x, x = bitS D j := ⟨_, rfl⟩
      have hxx : (bits .and .u8 (D[q]?.getD 0 / 2 ^ s) 1 == 1) = x := by
        rw [hx]
        unfold bitS
        obtain ⟨h1, h2, h3⟩ := unhide HQ
        rw [h3, h2, h1, List.getD_eq_getElem?_getD]
      have htk : (bitsS d i msg).take (j + 1) = (bitsS d i msg).take j ++ [x] := by
        rw [List.take_add_one, show (bitsS d i msg)[j]? = some x by unfold bitsS; rw [List.getElem?_map, List.getElem?_range hj64, hx, unhide HD5]; rfl]
        rfl
      have hlt : ((bitsS d i msg).take j).length ≤ 1000000 := by rw [List.length_take, bitsS_length]; omega
      rw [hxx]
      obtain ⟨v2, W2, hr2, ho2, hg2⟩ := append_L wr V9.heap.size u9 _ x hov hlt hbv.size 45
      rw [← htk] at ho2
      have HR2 := hide hr2; have HO2 := hide ho2
      have HB2 := hide (grown_below (hbv.alloc hbv.size (.cells #[.bool x] 4)) hg2 (fun k hk => (hov.lt k hk).1))
      have HJ : Hid (g + 1 + j = 64) := hj
      clear hxx htk hlt hr2 ho2 hg2 hov hbv hx hj hj64 d0
      refine wpList_plain rfl fun Kt hKt => ?_
      go_simp
      refine hKt _ _ ?_
      clear hKt Kt
      refine wpList_app rfl (.tmp 32) (.tmp 43) 45 45 rfl _ _ v2 W2 rfl rfl (unhide HR2) ?_
      go_wp2_with fail
      go_roundg g
      case measure => omega
      case rel => exact ⟨j + 1, by have := unhide HJ; omega, by push_cast; rfl, unhide HO2, unhide HB2⟩
end Go.Proofs.YtninjgplgoimeaaDoor
namespace Go.Proofs.YtninjgplgoimeaaDoor
set_option linter.unusedSimpArgs false
set_option linter.unusedVariables false
open Go.RowKit

theorem bt_grown {w w' : World} {r : Nat} {A : Option Addr} {l : List Int} (h : Bt w A l) (hg : w.grownBy w' (some r)) (hne : ∀ a, A = some a → a.block ≠ r) : Bt w' A l := ⟨h.byt, fun hl => by
  obtain ⟨b, o, rfl, hc⟩ := h.at_ hl
  refine ⟨b, o, rfl, fun j hj => ?_⟩
  rw [cell_block (hg.block b (lt_of_cell (hc j hj)) (fun e => hne _ rfl (by injection e)))]
  exact hc j hj⟩
/-- what New of the reference returns: a copy of the seed -/
def RNewIs (w : World) (ok : Bool) (seed : List Int) (n : Nat) (m : Int) (x : Ending) (w' : World) : Prop :=
  if ok then ∃ A c, x = .returned (.tuple #[.agg #[.slice A n c, .int .i64 m, .int .i64 0], .int .i64 0]) ∧ n ≤ c ∧ Bt w' A seed ∧ (A = none → c = 0) ∧ Below w.heap.size w w'
  else x = .returned (.tuple #[.agg #[.slice none 0 0, .int .i64 0, .int .i64 0], .int .i64 40]) ∧ Below w.heap.size w w'
set_option maxRecDepth 100000 in
set_option maxHeartbeats 2000000 in
theorem rNew_any (w : World) (A : Option Addr) (n c : Nat) (seed : List Int) (hn : n = seed.length) (h200 : n ≤ 1000) (hc : n ≤ c) (hA : Bt w A seed) (hA0 : A = none → c = 0) (m : Int) :
    Calls Tryd.prog 28 #[.slice A n c, .int .i64 m] w (RNewIs w (keyOk n m 0) seed n m) := by
  have hik := fun W B k => rvalid_any W B n k m 0
  have one3 : ∀ (B : Option Addr) (x y : Nat) (p q : Int), ∀ v ∈ ([.slice B x y, .int .i64 p, .int .i64 q] : List Value), v.oneCell' = true := fun B x y p q v hv => by
    simp only [List.mem_cons, List.not_mem_nil, or_false] at hv
    rcases hv with rfl | rfl | rfl <;> rfl
  obtain ⟨ok, hok⟩ : ∃ b, b = keyOk n m 0 := ⟨_, rfl⟩
  rw [← hok] at hik ⊢
  have HIK := hide hik; have H13 := hide one3; have HA := hide hA
  have HN : Hid (n = seed.length ∧ n ≤ 1000 ∧ n ≤ c ∧ (A = none → c = 0)) := ⟨hn, h200, hc, hA0⟩
  clear hik hok one3 hA hn h200 hc hA0
  cases ok
  all_goals
    go_enter Tryd.func28, Tryd.ntmps28
    go_upto_region 1 with fail
    generalize hX1 : w.alloc _ = W1
    have hB1 : Below w.heap.size w W1 := hX1 ▸ (Below.refl _ _).alloc (Nat.le_refl _) _
    have ho1 : VsAt W1 w.heap.size 40 [.slice none 0 0, .int .i64 0, .int .i64 0] := boxedV w W1 _ _ (by rw [← hX1]; rfl)
    have HB1 := hide hB1; have HO1 := hide ho1
    clear hX1 hB1 ho1
    refine wp_region_lit ?_
    refine wpList_plain rfl fun Kt hKt => ?_
    go_simp
    refine hKt _ _ ?_
    clear hKt Kt
    generalize hX : W1.alloc _ = V1
    have hv1 : Below W1.heap.size W1 V1 := hX ▸ (Below.refl _ _).alloc (Nat.le_refl _) _
    have hown1 : OwnB V1 W1.heap.size (.slice (some ⟨W1.heap.size, 0, none⟩) 0 0) [] := hX ▸ World.ownsRow_lit W1 #[] 0 (Nat.le_refl _) (Nat.zero_le _) rfl
    clear hX
    refine wpList_plain rfl fun Kt hKt => ?_
    go_simp
    refine hKt _ _ ?_
    clear hKt Kt
    refine wpList_plain rfl fun Kt hKt => ?_
    obtain ⟨v2, V2, hr2, hown2, hg2⟩ := run_append_B hown1 22 A c (((unhide HA).keep (unhide HB1)).keep hv1) (unhide HN).2.2.2 (by have := unhide HN; rw [List.length_nil]; omega) hv1.size
    rw [← (unhide HN).1] at hr2
    have hv2 := grown_below hv1 hg2 (fun k hk => (hown1.lt k hk).1)
    refine wp_append (.tmp 7) (.tmp 8) 22 rfl _ _ v2 V2 rfl rfl hr2 ?_
    refine hKt _ _ ?_
    clear hKt Kt hr2 hown1 hg2 hv1
    try simp only [List.getElem_toArray, List.getElem_cons_zero, List.getElem_cons_succ, Act.put, List.setIfInBounds_toArray, List.set_cons_zero, List.set_cons_succ]
    rw [List.nil_append] at hown2
    obtain ⟨A4, c4, rfl, hc4, hbt4, hn4, hl4⟩ := own_formB hown2 (unhide HA).byt
    rw [← (unhide HN).1] at hc4 ⊢
    have HS4 : Hid (n ≤ c4 ∧ Bt V2 A4 seed ∧ (A4 = none → c4 = 0) ∧ ∀ a, A4 = some a → w.heap.size < a.block) := ⟨hc4, hbt4, hn4, fun a ha => Nat.lt_of_lt_of_le (lt_of_block (unhide HO1)) (hl4 a ha)⟩
    have HV2 := hide hv2
    clear hown2 hc4 hbt4 hn4 hl4 hv2
    refine wpList_plain rfl fun Kt hKt => ?_
    go_simp
    refine hKt _ _ ?_
    clear hKt Kt
    refine wpList_plain rfl fun Kt hKt => ?_
    go_simp
    refine hKt _ _ ?_
    clear hKt Kt
    refine wpList_plain rfl fun Kt hKt => ?_
    go_simp
    refine hKt _ _ ?_
    clear hKt Kt
    generalize hX5 : V2.alloc _ = V5
    have hB5 : Below V2.heap.size V2 V5 := hX5 ▸ (Below.refl _ _).alloc (Nat.le_refl _) _
    have ho5 : VsAt V5 V2.heap.size 40 [.slice none 0 0, .int .i64 0, .int .i64 0] := boxedV V2 V5 _ _ (by rw [← hX5]; rfl)
    obtain ⟨N, hNN⟩ : ∃ N, N = V2.heap.size := ⟨_, rfl⟩
    have HNN : Hid (w.heap.size < N ∧ N = V2.heap.size) := ⟨by have h1 := (unhide HV2).size; have h2 := lt_of_block (unhide HO1); omega, hNN⟩
    rw [← hNN] at ho5 ⊢
    have HB5 := hide hB5; have HO5 := hide ho5
    clear hX5 hB5 ho5 hNN
    refine wpList_vput rfl 40 (.tmp 6) (.tmp 11) rfl N 0 rfl [.slice A4 n c4, .int .i64 m, .int .i64 0] rfl (by kernel_rfl) (unhide H13 _ _ _ _ _) _ _ (unhide HO5) (by simp) ?_
    intro V6 HW6 HG6
    have hw6 := unhide HW6
    rw [spliceV_all _ _ (by simp)] at hw6
    have HW := hide hw6
    have hS6 : Below V2.heap.size V2 V6 := (unhide HB5).grown (unhide HG6) (unhide HB5).size (fun i e => by injection e with e; have := (unhide HNN).2; omega)
    have HB6 := hide (thenB (unhide HB1) (thenB (unhide HV2) hS6))
    have HO6 := hide (((unhide HO1).keep (unhide HV2)).keep hS6)
    replace HS4 : Hid (n ≤ c4 ∧ Bt V6 A4 seed ∧ (A4 = none → c4 = 0) ∧ ∀ a, A4 = some a → w.heap.size < a.block) := ⟨(unhide HS4).1, (unhide HS4).2.1.keep hS6, (unhide HS4).2.2⟩
    clear hw6 HW6 HG6 HO1 HO5 HB5 HB1 HV2 hS6
    try simp only [List.getElem_toArray, List.getElem_cons_zero, List.getElem_cons_succ, Act.put, List.setIfInBounds_toArray, List.set_cons_zero, List.set_cons_succ]
    go_upto_region 2 with fail
    refine wp_region_lit ?_
    refine wpList_load_mid rfl 40 (.tmp 6) rfl N 0 rfl [.slice A4 n c4, .int .i64 m, .int .i64 0] _ (unhide HW).range Tryd.underlying40 rfl (by kernel_rfl) ?_
    try simp only [List.getElem_toArray, List.getElem_cons_zero, List.getElem_cons_succ, Act.put, List.setIfInBounds_toArray, List.set_cons_zero, List.set_cons_succ]
    go_wp2_with fail
    refine ((unhide HIK) V6 A4 c4).mono ?_; rintro x W3 ⟨rfl, hB3⟩
    have HW3 := hide ((unhide HW).keep hB3)
    have HO3 := hide ((unhide HO6).keep hB3)
    have HB3 := hide (thenB (unhide HB6) hB3)
    replace HS4 : Hid (n ≤ c4 ∧ Bt W3 A4 seed ∧ (A4 = none → c4 = 0) ∧ ∀ a, A4 = some a → w.heap.size < a.block) := ⟨(unhide HS4).1, (unhide HS4).2.1.keep hB3, (unhide HS4).2.2⟩
    clear hB3 HW HB6 HO6
  · go_upto_region 3 with fail
    refine wp_region_lit ?_
    refine wpList_plain rfl fun Kt hKt => ?_
    go_simp
    refine hKt _ _ ?_
    clear hKt Kt
    refine wpList_vput rfl 40 (.tmp 4) (.tmp 15) rfl w.heap.size 0 rfl [.slice none 0 0, .int .i64 0, .int .i64 0] rfl (by kernel_rfl) (unhide H13 _ _ _ _ _) _ _ (unhide HO3) (by simp) ?_
    intro W4 HW4 HG4
    have hw4 := unhide HW4
    rw [spliceV_all _ _ (by simp)] at hw4
    have HW := hide hw4
    clear hw4 HW4
    go_wp2_with fail
    try simp only [Exit.inBlock, Exit.then]
    exact vret2 rfl rfl w.heap.size rfl _ _ (unhide HW) _ Tryd.underlying40 rfl (by kernel_rfl) _ rfl ⟨rfl, (unhide HB3).grown (unhide HG4) (unhide HB3).size (fun i e => by injection e with e; omega)⟩
  · go_upto_region 4 with fail
    refine wp_region_lit ?_
    refine wpList_load_mid rfl 40 (.tmp 6) rfl N 0 rfl [.slice A4 n c4, .int .i64 m, .int .i64 0] _ (unhide HW3).range Tryd.underlying40 rfl (by kernel_rfl) ?_
    try simp only [List.getElem_toArray, List.getElem_cons_zero, List.getElem_cons_succ, Act.put, List.setIfInBounds_toArray, List.set_cons_zero, List.set_cons_succ]
    refine wpList_vput rfl 40 (.tmp 4) (.tmp 16) rfl w.heap.size 0 rfl [.slice A4 n c4, .int .i64 m, .int .i64 0] rfl (by kernel_rfl) (unhide H13 _ _ _ _ _) _ _ (unhide HO3) (by simp) ?_
    intro W4 HW4 HG4
    have hw4 := unhide HW4
    rw [spliceV_all _ _ (by simp)] at hw4
    have HW := hide hw4
    clear hw4 HW4
    go_wp2_with fail
    try simp only [Exit.inBlock, Exit.then]
    exact vret2 rfl rfl w.heap.size rfl _ _ (unhide HW) _ Tryd.underlying40 rfl (by kernel_rfl) _ rfl ⟨A4, c4, rfl, (unhide HS4).1, bt_grown (unhide HS4).2.1 (unhide HG4) (fun a ha => by have := (unhide HS4).2.2.2 a ha; omega), (unhide HS4).2.2.1, (unhide HB3).grown (unhide HG4) (unhide HB3).size (fun i e => by injection e with e; omega)⟩
end Go.Proofs.YtninjgplgoimeaaDoor
namespace Go.Proofs.YtninjgplgoimeaaDoor
set_option linter.unusedSimpArgs false
set_option linter.unusedVariables false
open Go.RowKit

def strOf (l : List Int) : ByteArray := l.foldl (fun r n => r.push (UInt8.ofNat n.toNat)) ByteArray.empty
theorem conv_bytes (w : World) (A : Option Addr) (n c : Nat) (l : List Int) (hn : n = l.length) (hA : Bt w A l) :
    (convert 22 9 (.slice A n c)).run Tryd.prog w = .ok (.string (strOf l)) w := by
  subst hn
  cases A with
  | none =>
    obtain rfl : l = [] := by
      by_cases e : l = []
      · exact e
      · obtain ⟨b, o, e2, _⟩ := hA.at_ e
        cases e2
    exact Lib.run_convert_nil_bytes w _ _ _ c Tryd.underlying22 Tryd.underlying5 Tryd.underlying9
  | some a =>
    rw [run_convert_bytes_string w _ _ _ (some a) l.length c Tryd.underlying22 Tryd.underlying5 Tryd.underlying9]
    refine run_bytesToString w a l.length c l ?_
    have h := run_loadCells_list (P := Tryd.prog) (w := w) a (l.map (Value.int .u8)) (fun j v hv => by
      have hj : j < l.length := by simpa using (List.getElem?_eq_some_iff.1 hv).1
      obtain ⟨b, o, e, hc⟩ := hA.at_ (fun e => by rw [e] at hj; simp at hj)
      injection e with e
      subst e
      have h1 := hc j hj
      rw [List.getElem?_map, List.getElem?_eq_getElem hj] at hv
      injection hv with hv
      rw [List.getD_eq_getElem?_getD, List.getElem?_eq_getElem hj] at h1
      rw [add_flat]
      exact h1.trans (congrArg some hv))
    rw [List.length_map] at h
    exact h
set_option maxRecDepth 100000 in
set_option maxHeartbeats 1000000 in
theorem sameKey_any (w : World) (A B : Option Addr) (n c k : Nat) (l : List Int) (m u : Int) (hn : n = l.length) (hA : Bt w A l) (hB : Bt w B l) :
    Calls Tryd.prog 29 #[.agg #[.slice A n c, .int .i64 m, .int .i64 u], .agg #[.slice B n k, .int .i64 m, .int .i64 u]] w fun x w' => x = .returned (.bool true) ∧ Below w.heap.size w w' := by
  have HA := hide hA; have HB := hide hB; have HN := hide hn
  clear hA hB hn
  go_enter Tryd.func29, Tryd.ntmps29
  go_upto_region 1 with fail
  generalize hX1 : w.alloc _ = W1
  have hB1 : Below w.heap.size w W1 := hX1 ▸ (Below.refl _ _).alloc (Nat.le_refl _) _
  have ho1 : VsAt W1 w.heap.size 40 [.slice A n c, .int .i64 m, .int .i64 u] := boxedV w W1 _ _ (by rw [← hX1]; rfl)
  have hz1 : W1.heap.size = w.heap.size + 1 := by rw [← hX1]; show (w.heap.push _).size = _; rw [Array.size_push]
  generalize hX2 : W1.alloc _ = W2
  have hB2 : Below W1.heap.size W1 W2 := hX2 ▸ (Below.refl _ _).alloc (Nat.le_refl _) _
  have ho2 : VsAt W2 W1.heap.size 40 [.slice B n k, .int .i64 m, .int .i64 u] := boxedV W1 W2 _ _ (by rw [← hX2]; rfl)
  rw [hz1] at ho2
  have hv := ho1.keep hB2
  have a0 : W2.cell? ⟨w.heap.size, 0, none⟩ = some (.slice A n c) := hv.cell rfl
  have a1 : W2.cell? ⟨w.heap.size, 1, none⟩ = some (.int .i64 m) := hv.cell rfl
  have a2 : W2.cell? ⟨w.heap.size, 2, none⟩ = some (.int .i64 u) := hv.cell rfl
  have b0 : W2.cell? ⟨w.heap.size + 1, 0, none⟩ = some (.slice B n k) := ho2.cell rfl
  have b1 : W2.cell? ⟨w.heap.size + 1, 1, none⟩ = some (.int .i64 m) := ho2.cell rfl
  have b2 : W2.cell? ⟨w.heap.size + 1, 2, none⟩ = some (.int .i64 u) := ho2.cell rfl
  have c1 := conv_bytes W2 A n c l (unhide HN) ((unhide HA).keep (thenB hB1 hB2))
  have c2 := conv_bytes W2 B n k l (unhide HN) ((unhide HB).keep (thenB hB1 hB2))
  obtain ⟨S, hS⟩ : ∃ S, S = strOf l := ⟨_, rfl⟩
  rw [← hS] at c1 c2
  have HBB := hide (thenB hB1 hB2)
  clear hX1 hX2 hB1 hB2 ho1 ho2 hz1 hv hS
  go_wp2_with fail
  go_ret
  exact ⟨by simp, unhide HBB⟩
end Go.Proofs.YtninjgplgoimeaaDoor
namespace Go.Proofs.YtninjgplgoimeaaDoor
set_option linter.unusedSimpArgs false
set_option linter.unusedVariables false
open Go.RowKit Go.LawClose

set_option maxRecDepth 100000 in
set_option maxHeartbeats 1000000 in
theorem same_nil (w : World) (A1 A2 : Option Addr) (c1 c2 : Nat) :
    Calls Tryd.prog 30 #[.slice A1 0 c1, .slice A2 0 c2] w fun x w' => x = .returned (.bool true) ∧ Below w.heap.size w w' := by
  go_enter Tryd.func30, Tryd.ntmps30
  go_wp2_with fail
  go_loopg [5] 0 (fun g y5 wx => y5 = .int .i64 0 ∧ wx = w)
  case atStart => exact ⟨rfl, rfl⟩
  case round =>
    obtain ⟨rfl, rfl⟩ := hrel
    go_wp2_with fail
    go_ret
    exact ⟨rfl, Below.refl _ _⟩
theorem same_eq4 (w : World) (n : Nat) (hn : n ≤ 1000) (l : List Bool) (hl : l.length = n) (A1 : Option Addr) (c1 : Nat) (hc1 : n ≤ c1) (hb1 : Bl w A1 l) (A2 : Option Addr) (c2 : Nat) (hc2 : n ≤ c2) (hb2 : Bl w A2 l) :
    Calls Tryd.prog 30 #[.slice A1 n c1, .slice A2 n c2] w fun x w' => x = .returned (.bool true) ∧ Below w.heap.size w w' := by
  by_cases h0 : n = 0
  · subst h0
    exact same_nil w A1 A2 c1 c2
  · have h := same4_any w n hn A1 c1 l hl hc1 hb1 A2 c2 l hl hc2 hb2 (by omega)
    rw [show decide (l = l) = true by simp] at h
    exact h
theorem Bl.nil (w : World) (A : Option Addr) : Bl w A [] := fun h => absurd rfl h
theorem news (n c : Nat) (A : Option Addr) (seed : List Int) (m : Int) (w : World) (hn : n = seed.length) (h200 : n ≤ 1000) (hc : n ≤ c) (hA : Bt w A seed) (hA0 : A = none → c = 0) :
    ∃ (n' : Nat) (l' : List Int) (m' e : Int), n' = l'.length ∧
      (∀ V, Below w.heap.size w V → Calls Tryd.prog 27 #[.slice A n c, .int .i64 m] V fun x w' => ∃ B k, x = .returned (.tuple #[.agg #[.slice B n' k, .int .i64 m', .int .i64 0], .int .i64 e]) ∧ Bt w' B l' ∧ Below V.heap.size V w') ∧
      (∀ V, Below w.heap.size w V → Calls Tryd.prog 28 #[.slice A n c, .int .i64 m] V fun x w' => ∃ B k, x = .returned (.tuple #[.agg #[.slice B n' k, .int .i64 m', .int .i64 0], .int .i64 e]) ∧ Bt w' B l' ∧ Below V.heap.size V w') := by
  cases hk : keyOk n m 0 with
  | false =>
    refine ⟨0, [], 0, 40, rfl, fun V hV => ?_, fun V hV => ?_⟩
    · refine (New_no V A n c m hk).mono ?_
      rintro x w' ⟨rfl, hb⟩
      exact ⟨none, 0, rfl, Bt.nil, hb⟩
    · have h := rNew_any V A n c seed hn h200 hc (hA.keep hV) hA0 m
      rw [hk] at h
      refine h.mono ?_
      rintro x w' ⟨rfl, hb⟩
      exact ⟨none, 0, rfl, Bt.nil, hb⟩
  | true =>
    refine ⟨n, seed, m, 0, hn, fun V hV => ?_, fun V hV => ?_⟩
    · refine (New_yes V A n c m hk).mono ?_
      rintro x w' ⟨rfl, hb⟩
      exact ⟨A, c, rfl, (hA.keep hV).keep hb, hb⟩
    · have h := rNew_any V A n c seed hn h200 hc (hA.keep hV) hA0 m
      rw [hk] at h
      refine h.mono ?_
      rintro x w' ⟨B, k, rfl, _, hB, _, hb⟩
      exact ⟨B, k, rfl, hB, hb⟩
theorem bitses (d : List Int) (hd : Dg d) (i : Int) (A : Option Addr) (n c : Nat) (msg : List Int) (w : World) (hn : n = msg.length) (hc : n ≤ c) (h300 : n ≤ 300) (hA : Bt w A msg) (hA0 : A = none → c = 0) (hT : DTab w) :
    ∃ (nb : Nat) (l : List Bool), l.length = nb ∧ nb ≤ 1000 ∧
      (∀ V, Below w.heap.size w V → Calls Tryd.prog 31 #[dv d, .int .i64 i, .slice A n c] V fun x w' => ∃ B k, x = .returned (.slice B nb k) ∧ nb ≤ k ∧ Bl w' B l ∧ Below V.heap.size V w') ∧
      (∀ V, Below w.heap.size w V → Calls Tryd.prog 32 #[dv d, .int .i64 i, .slice A n c] V fun x w' => ∃ B k, x = .returned (.slice B nb k) ∧ nb ≤ k ∧ Bl w' B l ∧ Below V.heap.size V w') := by
  by_cases hi : i < 0 ∨ 4096 ≤ i
  · refine ⟨0, [], rfl, by omega, fun V hV => ?_, fun V hV => ?_⟩
    · refine (Bits_bad V d hd i hi _).mono ?_
      rintro x w' ⟨rfl, hb⟩
      exact ⟨none, 0, rfl, by omega, Bl.nil _ _, hb⟩
    · refine (rBits_bad V d i hi _).mono ?_
      rintro x w' ⟨rfl, hb⟩
      exact ⟨none, 0, rfl, by omega, Bl.nil _ _, hb⟩
  · obtain ⟨I, rfl⟩ : ∃ I : Nat, i = (I : Int) := ⟨i.toNat, by omega⟩
    refine ⟨(bitsS d I msg).length, bitsS d I msg, rfl, by rw [bitsS_length]; omega, fun V hV => ?_, fun V hV => ?_⟩
    · refine (Bits_ok V d hd I (by omega) A n c msg hn hc (hA.keep hV) hA0 (by omega) (hT.keep hV)).mono ?_
      rintro x w' ⟨B, k, rfl, h1, h2, hb⟩
      exact ⟨B, k, rfl, h1, h2, hb⟩
    · refine (rBits_ok V d hd I (by omega) A n c msg hn hc (hA.keep hV) hA0 (by omega)).mono ?_
      rintro x w' ⟨B, k, rfl, h1, h2, hb⟩
      exact ⟨B, k, rfl, h1, h2, hb⟩
theorem publics (A : Option Addr) (n c : Nat) (seed : List Int) (m u : Int) (w : World) (hn : n = seed.length) (hc : n ≤ c) (hA : Bt w A seed) (hA0 : A = none → c = 0) (hT : DTab w) :
    ∃ (T : List Int) (e : Int), Dg T ∧
      (∀ V, Below w.heap.size w V → Calls Tryd.prog 35 #[.agg #[.slice A n c, .int .i64 m, .int .i64 u]] V fun x w' => x = .returned (.tuple #[dv T, .int .i64 e]) ∧ Below V.heap.size V w') ∧
      (∀ V, Below w.heap.size w V → Calls Tryd.prog 36 #[.agg #[.slice A n c, .int .i64 m, .int .i64 u]] V fun x w' => x = .returned (.tuple #[dv T, .int .i64 e]) ∧ Below V.heap.size V w') := by
  cases hk : keyOk n m u with
  | false => exact ⟨zeros, 40, dg_zeros, fun V _ => Public_bad V A n c m u hk, fun V _ => rPublic_bad V A n c m u hk⟩
  | true =>
    obtain ⟨M, rfl⟩ : ∃ M : Nat, m = (M : Int) := by
      unfold keyOk at hk
      rw [decide_eq_true_eq] at hk
      exact ⟨m.toNat, by omega⟩
    exact ⟨treeP (pubsS seed M), 0, dg_tree _, fun V hV => Public_ok V A n c seed hn hc (hA.keep hV) M u hk (hT.keep hV), fun V hV => rPublic_ok V A n c seed hn hc (hA.keep hV) hA0 M u hk⟩
end Go.Proofs.YtninjgplgoimeaaDoor
namespace Go.Proofs.YtninjgplgoimeaaDoor
set_option linter.unusedSimpArgs false
set_option linter.unusedVariables false
open Go.RowKit Go.LawClose
/-- a load of values under a guard -/
theorem wpList_vgload {P : Program} {ops : Array Oper} {rest : List Oper} {o : Oper} {a : Act} {w : World} {Q : Exit → Act → World → Prop} (hw : Region.wanted o (yielded ops a.tmps) = true) (ty : TypeId) (x : Operand) (ho : o.op = .load ty x)
    (N : Nat) (hx : a.eval x = .pointer (some ⟨N, 0, none⟩)) (d : TypeDesc) (hu : P.underlying ty = some d) (hd : d.isRow = true) (T : TypeId) (cs : List Value) (hi : (P.info? ty).map (·.size) = some cs.length) (h0 : VsAt w N T cs)
    (h : wpList P ops Q rest (a.put o.dst (.agg cs.toArray)) w) : wpList P ops Q (o :: rest) a w :=
  wpList_wanted hw fun _ hK => wp_load_mid ty x ho N 0 hx cs d h0.range hu hd hi (hK _ _ h)

set_option maxRecDepth 100000 in
set_option maxHeartbeats 4000000 in
theorem keyspec_any (As : Option Addr) (cs : Nat) (seed : List Int) (m : Int) (Ak : Option Addr) (ck : Nat) (ks : List Int) (km ku : Int) (d : List Int) (i : Int) (Am : Option Addr) (cm : Nat) (msg : List Int) (w : World)
    (hAs : Bt w As seed) (hcs : seed.length ≤ cs) (hns : As = none → cs = 0) (hAk : Bt w Ak ks) (hck : ks.length ≤ ck) (hnk : Ak = none → ck = 0) (hd : Dg d) (hAm : Bt w Am msg) (hcm : msg.length ≤ cm) (hnm : Am = none → cm = 0) (hT : DTab w) :
    Calls Tryd.prog 5 #[.slice As seed.length cs, .int .i64 m, keyV Ak ks.length ck km ku, dv d, .int .i64 i, .slice Am msg.length cm] w (LawOk w) := by
  obtain ⟨n, hn⟩ : ∃ n, n = seed.length := ⟨_, rfl⟩
  obtain ⟨q, hq⟩ : ∃ n, n = ks.length := ⟨_, rfl⟩
  obtain ⟨nm, hl⟩ : ∃ n, n = msg.length := ⟨_, rfl⟩
  rw [← hn] at hcs ⊢
  rw [← hq] at hck ⊢
  rw [← hl] at hcm ⊢
  have HB : Hid (Below w.heap.size w w) := Below.refl _ _
  have HT := hide hT; have HA := hide hAs; have HQ := hide hAk; have HM := hide hAm
  have HN : Hid ((n = seed.length ∧ n ≤ cs ∧ (As = none → cs = 0)) ∧ (q = ks.length ∧ q ≤ ck ∧ (Ak = none → ck = 0)) ∧ (nm = msg.length ∧ nm ≤ cm ∧ (Am = none → cm = 0))) := ⟨⟨hn, hcs, hns⟩, ⟨hq, hck, hnk⟩, ⟨hl, hcm, hnm⟩⟩
  have HGD := hide hd
  have hld := hd.len
  obtain ⟨cd, hcd⟩ : ∃ cs, cs = (d.map (Value.int .u8)).toArray := ⟨_, rfl⟩
  have hsd : cd.size = 32 := by rw [hcd]; simpa using hld
  rw [show dv d = .agg cd by rw [hcd]]
  have HCD := hide hcd
  unfold keyV
  clear hT hAs hAk hAm hn hcs hns hq hck hnk hl hcm hnm hd hld
  go_enter Tryd.func5, Tryd.ntmps5
  go_upto_region 1 with fail
  generalize hX1 : w.alloc _ = W1
  have hB1 : Below w.heap.size w W1 := hX1 ▸ (Below.refl _ _).alloc (Nat.le_refl _) _
  have ho1 : VsAt W1 w.heap.size 40 [.slice Ak q ck, .int .i64 km, .int .i64 ku] := boxedV w W1 _ _ (by rw [← hX1]; rfl)
  have hz1 : W1.heap.size = w.heap.size + 1 := by rw [← hX1]; show (w.heap.push _).size = _; rw [Array.size_push]
  generalize hX2 : W1.alloc _ = W2
  have hB2 : Below W1.heap.size W1 W2 := hX2 ▸ (Below.refl _ _).alloc (Nat.le_refl _) _
  have ho2 : ByAt W2 W1.heap.size 24 d := boxed W1 W2 d _ (by rw [← hX2]; first | rfl | (rw [hcd]; rfl))
  rw [hz1] at ho2
  have hv := ho1.keep hB2
  obtain ⟨N_K, hNK⟩ : ∃ N, N = w.heap.size := ⟨_, rfl⟩
  obtain ⟨N_D, hND⟩ : ∃ N, N = w.heap.size + 1 := ⟨_, rfl⟩
  rw [← hND] at ho2 ⊢
  rw [← hNK] at hv ⊢
  have HK_ := hide hv; have HD_ := hide ho2
  have hb := thenB hB1 hB2
  clear hX1 hX2 hB1 hB2 ho1 ho2 hz1 hv hNK hND hcd
  replace HT := hide ((unhide HT).keep hb)
  replace HA := hide ((unhide HA).keep hb)
  replace HQ := hide ((unhide HQ).keep hb)
  replace HM := hide ((unhide HM).keep hb)
  replace HB := hide (thenB (unhide HB) hb)
  clear hb
  have HK := HK_; have HD := HD_
  clear HK_ HD_
  go_wp2_with fail
  refine (sane4_any W2 (unhide HT)).mono ?_; rintro x W3 ⟨rfl, hb⟩
  replace HT := hide ((unhide HT).keep hb)
  replace HA := hide ((unhide HA).keep hb)
  replace HQ := hide ((unhide HQ).keep hb)
  replace HM := hide ((unhide HM).keep hb)
  replace HK := hide ((unhide HK).keep hb)
  replace HD := hide ((unhide HD).keep hb)
  replace HB := hide (thenB (unhide HB) hb)
  clear hb
  by_cases h2 : (n : Int) ≤ 200
  case neg =>
    go_wp2_with fail
    go_ret
    exact ⟨rfl, unhide HB⟩
  by_cases h3 : (nm : Int) ≤ 300
  case neg =>
    go_wp2_with fail
    go_ret
    exact ⟨rfl, unhide HB⟩
  obtain ⟨n', l', m', e, hn', hnew, hrnew⟩ := news n cs As seed m W3 (unhide HN).1.1 (by omega) (unhide HN).1.2.1 (unhide HA) (unhide HN).1.2.2
  obtain ⟨nb, lb, hlb, hnb, hbit, hrbit⟩ := bitses d (unhide HGD) i Am nm cm msg W3 (unhide HN).2.2.1 (unhide HN).2.2.2.1 (by omega) (unhide HM) (unhide HN).2.2.2.2 (unhide HT)
  obtain ⟨T, e2, hgT, hpub, hrpub⟩ := publics Ak q ck ks km ku W3 (unhide HN).2.1.1 (unhide HN).2.1.2.1 (unhide HQ) (unhide HN).2.1.2.2 (unhide HT)
  obtain ⟨ct, hct⟩ : ∃ cs, cs = (T.map (Value.int .u8)).toArray := ⟨_, rfl⟩
  have hst : ct.size = 32 := by rw [hct]; simpa using hgT.len
  rw [show dv T = .agg ct by rw [hct]] at hpub hrpub
  rw [show dv d = .agg cd by rw [unhide HCD]] at hbit hrbit
  have HNEW := hide hnew; have HRNEW := hide hrnew; have HBIT := hide hbit; have HRBIT := hide hrbit; have HPUB := hide hpub; have HRPUB := hide hrpub
  have HL : Hid (n' = l'.length ∧ lb.length = nb ∧ nb ≤ 1000) := ⟨hn', hlb, hnb⟩
  have HGT := hide hgT; have HCT := hide hct
  clear hn' hnew hrnew hlb hnb hbit hrbit hgT hpub hrpub hct
  have HB3 : Hid (Below W3.heap.size W3 W3) := Below.refl _ _
  go_wp2_with fail
  refine (unhide HNEW W3 (unhide HB3)).mono ?_; rintro x W11 ⟨B1, k1, rfl, hbt, hb⟩
  replace HT := hide ((unhide HT).keep hb)
  replace HA := hide ((unhide HA).keep hb)
  replace HQ := hide ((unhide HQ).keep hb)
  replace HM := hide ((unhide HM).keep hb)
  replace HK := hide ((unhide HK).keep hb)
  replace HD := hide ((unhide HD).keep hb)
  replace HB := hide (thenB (unhide HB) hb)
  replace HB3 := hide (thenB (unhide HB3) hb)
  clear hb
  have HB1 := hide hbt
  clear hbt
  dsimp only
  rename_i KK hK
  refine hK _ _ ?_
  clear hK KK
  refine wpList_plain rfl fun Kt hKt => ?_
  go_simp
  refine hKt _ _ ?_
  clear hKt Kt
  refine wpList_plain rfl fun Kt hKt => ?_
  go_simp
  refine hKt _ _ ?_
  clear hKt Kt
  refine wpList_plain rfl fun Kt hKt => ?_
  go_simp
  refine hKt _ _ ?_
  clear hKt Kt
  refine wpList_plain rfl fun Kt hKt => ?_
  go_simp
  refine hKt _ _ ?_
  clear hKt Kt
  generalize hX : W11.alloc _ = W12
  have hb : Below W11.heap.size W11 W12 := hX ▸ (Below.refl _ _).alloc (Nat.le_refl _) _
  have hz : VsAt W12 W11.heap.size 40 [.slice none 0 0, .int .i64 0, .int .i64 0] := boxedV W11 W12 _ _ (by rw [← hX]; rfl)
  have HZ_ := hide hz; have HBB_ := hide hb
  clear hX hb hz
  refine wpList_vput rfl 40 (.tmp 13) (.tmp 35) rfl W11.heap.size 0 rfl [.slice B1 n' k1, .int .i64 m', .int .i64 0] rfl infoKey (keyL_one _ _ _ _ _) _ _ (unhide HZ_) (by first | simp | (rw [List.length_map, List.length_map]; simp)) ?_
  intro W13 HV_ HG_
  have hv := unhide HV_
  rw [spliceV_all _ _ (by first | simp | (rw [List.length_map, List.length_map]; simp))] at hv
  have hb : Below W11.heap.size W11 W13 := (unhide HBB_).grown (unhide HG_) (unhide HBB_).size (fun i e => by injection e with e; omega)
  obtain ⟨N_HX, hN⟩ : ∃ N, N = W11.heap.size := ⟨_, rfl⟩
  rw [← hN] at hv ⊢
  have HX_ := hide hv
  clear hN hv HV_ HG_ HZ_ HBB_
  replace HT := hide ((unhide HT).keep hb)
  replace HA := hide ((unhide HA).keep hb)
  replace HQ := hide ((unhide HQ).keep hb)
  replace HM := hide ((unhide HM).keep hb)
  replace HK := hide ((unhide HK).keep hb)
  replace HD := hide ((unhide HD).keep hb)
  replace HB1 := hide ((unhide HB1).keep hb)
  replace HB := hide (thenB (unhide HB) hb)
  replace HB3 := hide (thenB (unhide HB3) hb)
  clear hb
  have HX := HX_; clear HX_
  try simp only [List.getElem_toArray, List.getElem_cons_zero, List.getElem_cons_succ, Act.put, List.setIfInBounds_toArray, List.set_cons_zero, List.set_cons_succ]
  go_wp2_with fail
  refine (unhide HRNEW W13 (unhide HB3)).mono ?_; rintro x W14 ⟨B2, k2, rfl, hbt, hb⟩
  replace HT := hide ((unhide HT).keep hb)
  replace HA := hide ((unhide HA).keep hb)
  replace HQ := hide ((unhide HQ).keep hb)
  replace HM := hide ((unhide HM).keep hb)
  replace HK := hide ((unhide HK).keep hb)
  replace HD := hide ((unhide HD).keep hb)
  replace HB1 := hide ((unhide HB1).keep hb)
  replace HX := hide ((unhide HX).keep hb)
  replace HB := hide (thenB (unhide HB) hb)
  replace HB3 := hide (thenB (unhide HB3) hb)
  clear hb
  have HB2 := hide hbt
  clear hbt
  dsimp only
  rename_i KK hK
  refine hK _ _ ?_
  clear hK KK
  refine wpList_plain rfl fun Kt hKt => ?_
  go_simp
  refine hKt _ _ ?_
  clear hKt Kt
  refine wpList_plain rfl fun Kt hKt => ?_
  go_simp
  refine hKt _ _ ?_
  clear hKt Kt
  refine wpList_plain rfl fun Kt hKt => ?_
  go_simp
  refine hKt _ _ ?_
  clear hKt Kt
  refine wpList_plain rfl fun Kt hKt => ?_
  go_simp
  refine hKt _ _ ?_
  clear hKt Kt
  generalize hX : W14.alloc _ = W15
  have hb : Below W14.heap.size W14 W15 := hX ▸ (Below.refl _ _).alloc (Nat.le_refl _) _
  have hz : VsAt W15 W14.heap.size 40 [.slice none 0 0, .int .i64 0, .int .i64 0] := boxedV W14 W15 _ _ (by rw [← hX]; rfl)
  have HZ_ := hide hz; have HBB_ := hide hb
  clear hX hb hz
  refine wpList_vput rfl 40 (.tmp 15) (.tmp 41) rfl W14.heap.size 0 rfl [.slice B2 n' k2, .int .i64 m', .int .i64 0] rfl infoKey (keyL_one _ _ _ _ _) _ _ (unhide HZ_) (by first | simp | (rw [List.length_map, List.length_map]; simp)) ?_
  intro W16 HV_ HG_
  have hv := unhide HV_
  rw [spliceV_all _ _ (by first | simp | (rw [List.length_map, List.length_map]; simp))] at hv
  have hb : Below W14.heap.size W14 W16 := (unhide HBB_).grown (unhide HG_) (unhide HBB_).size (fun i e => by injection e with e; omega)
  obtain ⟨N_HY, hN⟩ : ∃ N, N = W14.heap.size := ⟨_, rfl⟩
  rw [← hN] at hv ⊢
  have HY_ := hide hv
  clear hN hv HV_ HG_ HZ_ HBB_
  replace HT := hide ((unhide HT).keep hb)
  replace HA := hide ((unhide HA).keep hb)
  replace HQ := hide ((unhide HQ).keep hb)
  replace HM := hide ((unhide HM).keep hb)
  replace HK := hide ((unhide HK).keep hb)
  replace HD := hide ((unhide HD).keep hb)
  replace HB1 := hide ((unhide HB1).keep hb)
  replace HX := hide ((unhide HX).keep hb)
  replace HB2 := hide ((unhide HB2).keep hb)
  replace HB := hide (thenB (unhide HB) hb)
  replace HB3 := hide (thenB (unhide HB3) hb)
  clear hb
  have HY := HY_; clear HY_
  try simp only [List.getElem_toArray, List.getElem_cons_zero, List.getElem_cons_succ, Act.put, List.setIfInBounds_toArray, List.set_cons_zero, List.set_cons_succ]
  go_wp2_with fail
  obtain ⟨W, hW⟩ : ∃ W, W = W16.drewN 1 := ⟨_, rfl⟩
  have HW : Hid (W = W16.drewN 1) := hW
  have hb := below_named HW
  clear hW
  replace HT := hide ((unhide HT).keep hb)
  replace HA := hide ((unhide HA).keep hb)
  replace HQ := hide ((unhide HQ).keep hb)
  replace HM := hide ((unhide HM).keep hb)
  replace HK := hide ((unhide HK).keep hb)
  replace HD := hide ((unhide HD).keep hb)
  replace HB1 := hide ((unhide HB1).keep hb)
  replace HX := hide ((unhide HX).keep hb)
  replace HB2 := hide ((unhide HB2).keep hb)
  replace HY := hide ((unhide HY).keep hb)
  replace HB := hide (thenB (unhide HB) hb)
  replace HB3 := hide (thenB (unhide HB3) hb)
  clear hb
  have hS : Below W.heap.size W W := Below.refl _ _
  refine held (S := Below W.heap.size W) W HW (by kernel_rfl) ?_
  refine wpAnyH_take (i := 0) (v := ?_) rfl (by kernel_rfl) (by kernel_rfl) (by kernel_rfl) (fun _ _ _ h => h) (Or.inl ⟨by kernel_rfl, ?_⟩) (by assumption) ?_
  rotate_left
  · intro Wt hSt
    go_simp
    try with_reducible rfl
  try simp only [List.getElem_toArray, List.getElem_cons_zero, List.getElem_cons_succ, Act.put, List.setIfInBounds_toArray, List.set_cons_zero, List.set_cons_succ]
  refine wpAnyH_take (i := 1) (v := ?_) rfl (by kernel_rfl) (by kernel_rfl) (by kernel_rfl) (fun _ _ _ h => h) (Or.inl ⟨by kernel_rfl, ?_⟩) (by assumption) ?_
  rotate_left
  · intro Wt hSt
    go_simp
    try with_reducible rfl
  try simp only [List.getElem_toArray, List.getElem_cons_zero, List.getElem_cons_succ, Act.put, List.setIfInBounds_toArray, List.set_cons_zero, List.set_cons_succ]
  refine wpAnyH_take (i := 2) (v := ?_) rfl (by kernel_rfl) (by kernel_rfl) (by kernel_rfl) (fun _ _ _ h => h) (Or.inl ⟨by kernel_rfl, ?_⟩) (by assumption) ?_
  rotate_left
  · intro Wt hSt
    go_simp
    try with_reducible rfl
  try simp only [List.getElem_toArray, List.getElem_cons_zero, List.getElem_cons_succ, Act.put, List.setIfInBounds_toArray, List.set_cons_zero, List.set_cons_succ]
  refine wpAnyH_take (i := 3) (v := ?_) rfl (by kernel_rfl) (by kernel_rfl) (by kernel_rfl) (fun _ _ _ h => h) (Or.inl ⟨by kernel_rfl, ?_⟩) (by assumption) ?_
  rotate_left
  · intro Wt hSt
    go_simp
    try with_reducible rfl
  try simp only [List.getElem_toArray, List.getElem_cons_zero, List.getElem_cons_succ, Act.put, List.setIfInBounds_toArray, List.set_cons_zero, List.set_cons_succ]
  refine wpAnyH_take (i := 4) (v := .agg [.slice B1 n' k1, .int .i64 m', .int .i64 0].toArray) rfl (by kernel_rfl) (by kernel_rfl) (by kernel_rfl) (fun _ _ _ h => h) (yieldsIf_load_mid (by kernel_rfl) 40 (.tmp 13) rfl N_HX 0 rfl [.slice B1 n' k1, .int .i64 m', .int .i64 0] _ (fun W hS => ((unhide HX).keep hS).range) Tryd.underlying40 rfl infoKey) (by assumption) ?_
  try simp only [List.getElem_toArray, List.getElem_cons_zero, List.getElem_cons_succ, Act.put, List.setIfInBounds_toArray, List.set_cons_zero, List.set_cons_succ]
  refine wpAnyH_take (i := 5) (v := .agg [.slice B2 n' k2, .int .i64 m', .int .i64 0].toArray) rfl (by kernel_rfl) (by kernel_rfl) (by kernel_rfl) (fun _ _ _ h => h) (yieldsIf_load_mid (by kernel_rfl) 40 (.tmp 15) rfl N_HY 0 rfl [.slice B2 n' k2, .int .i64 m', .int .i64 0] _ (fun W hS => ((unhide HY).keep hS).range) Tryd.underlying40 rfl infoKey) (by assumption) ?_
  try simp only [List.getElem_toArray, List.getElem_cons_zero, List.getElem_cons_succ, Act.put, List.setIfInBounds_toArray, List.set_cons_zero, List.set_cons_succ]
  refine wpAnyH_one 6 _ rfl (by kernel_rfl) (by kernel_rfl) ?_
  intro K hK
  go_simp
  refine (sameKey_any W B1 B2 n' k1 k2 l' m' 0 (unhide HL).1 (unhide HB1) (unhide HB2)).mono ?_; rintro x V1 ⟨rfl, hb⟩
  replace hS := thenB hS hb
  dsimp only
  refine hK _ _ hS ?_
  clear hK K
  try simp only [List.getElem_toArray, List.getElem_cons_zero, List.getElem_cons_succ, Act.put, List.setIfInBounds_toArray, List.set_cons_zero, List.set_cons_succ]
  clear hb
  refine wpAnyH_take (i := 7) (v := ?_) rfl (by kernel_rfl) (by kernel_rfl) (by kernel_rfl) (fun _ _ _ h => h) (Or.inl ⟨by kernel_rfl, ?_⟩) (by assumption) ?_
  rotate_left
  · intro Wt hSt
    go_simp
    try with_reducible rfl
  try simp only [List.getElem_toArray, List.getElem_cons_zero, List.getElem_cons_succ, Act.put, List.setIfInBounds_toArray, List.set_cons_zero, List.set_cons_succ]
  refine wpAnyH_take (i := 8) (v := ?_) rfl (by kernel_rfl) (by kernel_rfl) (by kernel_rfl) (fun _ _ _ h => h) (Or.inl ⟨by kernel_rfl, ?_⟩) (by assumption) ?_
  rotate_left
  · intro Wt hSt
    go_simp
    try with_reducible rfl
  try simp only [List.getElem_toArray, List.getElem_cons_zero, List.getElem_cons_succ, Act.put, List.setIfInBounds_toArray, List.set_cons_zero, List.set_cons_succ]
  refine wpAnyH_take (i := 9) (v := ?_) rfl (by kernel_rfl) (by kernel_rfl) (by kernel_rfl) (fun _ _ _ h => h) (Or.inl ⟨by kernel_rfl, ?_⟩) (by assumption) ?_
  rotate_left
  · intro Wt hSt
    go_simp
    try with_reducible rfl
  try simp only [List.getElem_toArray, List.getElem_cons_zero, List.getElem_cons_succ, Act.put, List.setIfInBounds_toArray, List.set_cons_zero, List.set_cons_succ]
  refine wpAnyH_take (i := 10) (v := .agg cd) rfl (by kernel_rfl) (by kernel_rfl) (by kernel_rfl) (fun _ _ _ h => h) (by rw [unhide HCD]; exact yieldsIf_load_mid (by kernel_rfl) 24 (.tmp 9) rfl N_D 0 rfl (d.map (Value.int .u8)) _ (fun W hS => ((unhide HD).keep hS).range) Tryd.underlying24 rfl (by rw [List.length_map, (unhide HGD).len]; exact info32)) (by assumption) ?_
  try simp only [List.getElem_toArray, List.getElem_cons_zero, List.getElem_cons_succ, Act.put, List.setIfInBounds_toArray, List.set_cons_zero, List.set_cons_succ]
  refine wpAnyH_take (i := 11) (v := ?_) rfl (by kernel_rfl) (by kernel_rfl) (by kernel_rfl) (fun _ _ _ h => h) (Or.inl ⟨by kernel_rfl, ?_⟩) (by assumption) ?_
  rotate_left
  · intro Wt hSt
    go_simp
    try with_reducible rfl
  try simp only [List.getElem_toArray, List.getElem_cons_zero, List.getElem_cons_succ, Act.put, List.setIfInBounds_toArray, List.set_cons_zero, List.set_cons_succ]
  refine wpAnyH_take (i := 12) (v := ?_) rfl (by kernel_rfl) (by kernel_rfl) (by kernel_rfl) (fun _ _ _ h => h) (Or.inl ⟨by kernel_rfl, ?_⟩) (by assumption) ?_
  rotate_left
  · intro Wt hSt
    go_simp
    try with_reducible rfl
  try simp only [List.getElem_toArray, List.getElem_cons_zero, List.getElem_cons_succ, Act.put, List.setIfInBounds_toArray, List.set_cons_zero, List.set_cons_succ]
  refine wpAnyH_take (i := 14) (v := .agg cd) rfl (by kernel_rfl) (by kernel_rfl) (by kernel_rfl) (fun _ _ _ h => h) (by rw [unhide HCD]; exact yieldsIf_load_mid (by kernel_rfl) 24 (.tmp 9) rfl N_D 0 rfl (d.map (Value.int .u8)) _ (fun W hS => ((unhide HD).keep hS).range) Tryd.underlying24 rfl (by rw [List.length_map, (unhide HGD).len]; exact info32)) (by assumption) ?_
  try simp only [List.getElem_toArray, List.getElem_cons_zero, List.getElem_cons_succ, Act.put, List.setIfInBounds_toArray, List.set_cons_zero, List.set_cons_succ]
  refine wpAnyH_take (i := 15) (v := ?_) rfl (by kernel_rfl) (by kernel_rfl) (by kernel_rfl) (fun _ _ _ h => h) (Or.inl ⟨by kernel_rfl, ?_⟩) (by assumption) ?_
  rotate_left
  · intro Wt hSt
    go_simp
    try with_reducible rfl
  try simp only [List.getElem_toArray, List.getElem_cons_zero, List.getElem_cons_succ, Act.put, List.setIfInBounds_toArray, List.set_cons_zero, List.set_cons_succ]
  refine wpAnyH_take (i := 16) (v := ?_) rfl (by kernel_rfl) (by kernel_rfl) (by kernel_rfl) (fun _ _ _ h => h) (Or.inl ⟨by kernel_rfl, ?_⟩) (by assumption) ?_
  rotate_left
  · intro Wt hSt
    go_simp
    try with_reducible rfl
  try simp only [List.getElem_toArray, List.getElem_cons_zero, List.getElem_cons_succ, Act.put, List.setIfInBounds_toArray, List.set_cons_zero, List.set_cons_succ]
  refine wpAnyH_one 13 _ rfl (by kernel_rfl) (by kernel_rfl) ?_
  intro K hK
  go_simp
  refine (unhide HBIT V1 (thenB (unhide HB3) hS)).mono ?_; rintro x V2 ⟨C1, z1, rfl, hz1, hl1, hb⟩
  replace hS := thenB hS hb
  dsimp only
  refine hK _ _ hS ?_
  clear hK K
  try simp only [List.getElem_toArray, List.getElem_cons_zero, List.getElem_cons_succ, Act.put, List.setIfInBounds_toArray, List.set_cons_zero, List.set_cons_succ]
  clear hb
  refine wpAnyH_one 17 _ rfl (by kernel_rfl) (by kernel_rfl) ?_
  intro K hK
  go_simp
  refine (unhide HRBIT V2 (thenB (unhide HB3) hS)).mono ?_; rintro x V3 ⟨C2, z2, rfl, hz2, hl2, hb⟩
  replace hS := thenB hS hb
  dsimp only
  refine hK _ _ hS ?_
  clear hK K
  try simp only [List.getElem_toArray, List.getElem_cons_zero, List.getElem_cons_succ, Act.put, List.setIfInBounds_toArray, List.set_cons_zero, List.set_cons_succ]
  refine wpAnyH_one 18 _ rfl (by kernel_rfl) (by kernel_rfl) ?_
  intro K hK
  go_simp
  refine (same_eq4 V3 nb (unhide HL).2.2 lb (unhide HL).2.1 C1 z1 hz1 (hl1.keep hb) C2 z2 hz2 hl2).mono ?_; rintro x V4 ⟨rfl, hb'⟩
  replace hS := thenB hS hb'
  dsimp only
  refine hK _ _ hS ?_
  clear hK K
  try simp only [List.getElem_toArray, List.getElem_cons_zero, List.getElem_cons_succ, Act.put, List.setIfInBounds_toArray, List.set_cons_zero, List.set_cons_succ]
  refine wpAnyH_take (i := 19) (v := ?_) rfl (by kernel_rfl) (by kernel_rfl) (by kernel_rfl) (fun _ _ _ h => h) (Or.inl ⟨by kernel_rfl, ?_⟩) (by assumption) ?_
  rotate_left
  · intro Wt hSt
    go_simp
    try with_reducible rfl
  try simp only [List.getElem_toArray, List.getElem_cons_zero, List.getElem_cons_succ, Act.put, List.setIfInBounds_toArray, List.set_cons_zero, List.set_cons_succ]
  refine wpAnyH_take (i := 20) (v := ?_) rfl (by kernel_rfl) (by kernel_rfl) (by kernel_rfl) (fun _ _ _ h => h) (Or.inl ⟨by kernel_rfl, ?_⟩) (by assumption) ?_
  rotate_left
  · intro Wt hSt
    go_simp
    try with_reducible rfl
  try simp only [List.getElem_toArray, List.getElem_cons_zero, List.getElem_cons_succ, Act.put, List.setIfInBounds_toArray, List.set_cons_zero, List.set_cons_succ]
  refine wpAnyH_chainOf [] _ _ _ (by kernel_rfl) (by kernel_rfl) ?_
  refine wpChain_nil ?_
  clear hb hb' hz1 hl1 hz2 hl2
  replace HT := hide ((unhide HT).keep hS)
  replace HA := hide ((unhide HA).keep hS)
  replace HQ := hide ((unhide HQ).keep hS)
  replace HM := hide ((unhide HM).keep hS)
  replace HK := hide ((unhide HK).keep hS)
  replace HD := hide ((unhide HD).keep hS)
  replace HB1 := hide ((unhide HB1).keep hS)
  replace HX := hide ((unhide HX).keep hS)
  replace HB2 := hide ((unhide HB2).keep hS)
  replace HY := hide ((unhide HY).keep hS)
  replace HB := hide (thenB (unhide HB) hS)
  replace HB3 := hide (thenB (unhide HB3) hS)
  clear hS
  go_upto_region 9 with fail
  refine wp_region_lit ?_
  refine wpList_load_mid rfl 40 (.tmp 8) rfl N_K 0 rfl [.slice Ak q ck, .int .i64 km, .int .i64 ku] _ (unhide HK).range Tryd.underlying40 rfl infoKey ?_
  try simp only [List.getElem_toArray, List.getElem_cons_zero, List.getElem_cons_succ, Act.put, List.setIfInBounds_toArray, List.set_cons_zero, List.set_cons_succ]
  go_wp2_with fail
  refine (few4_any V4 Ak q ck km ku none 0 0).mono ?_; rintro x W17 ⟨rfl, hb⟩
  replace HT := hide ((unhide HT).keep hb)
  replace HA := hide ((unhide HA).keep hb)
  replace HQ := hide ((unhide HQ).keep hb)
  replace HM := hide ((unhide HM).keep hb)
  replace HK := hide ((unhide HK).keep hb)
  replace HD := hide ((unhide HD).keep hb)
  replace HB1 := hide ((unhide HB1).keep hb)
  replace HX := hide ((unhide HX).keep hb)
  replace HB2 := hide ((unhide HB2).keep hb)
  replace HY := hide ((unhide HY).keep hb)
  replace HB := hide (thenB (unhide HB) hb)
  replace HB3 := hide (thenB (unhide HB3) hb)
  clear hb
  generalize fewS q km 0 = fw
  cases fw with
  | true =>
    go_upto_region 11 with fail
    refine wp_region_lit ?_
    refine wpList_load_mid rfl 40 (.tmp 8) rfl N_K 0 rfl [.slice Ak q ck, .int .i64 km, .int .i64 ku] _ (unhide HK).range Tryd.underlying40 rfl infoKey ?_
    try simp only [List.getElem_toArray, List.getElem_cons_zero, List.getElem_cons_succ, Act.put, List.setIfInBounds_toArray, List.set_cons_zero, List.set_cons_succ]
    go_wp2_with fail
    refine (unhide HPUB W17 (unhide HB3)).mono ?_; rintro x W18 ⟨rfl, hb⟩
    replace HT := hide ((unhide HT).keep hb)
    replace HA := hide ((unhide HA).keep hb)
    replace HQ := hide ((unhide HQ).keep hb)
    replace HM := hide ((unhide HM).keep hb)
    replace HK := hide ((unhide HK).keep hb)
    replace HD := hide ((unhide HD).keep hb)
    replace HB1 := hide ((unhide HB1).keep hb)
    replace HX := hide ((unhide HX).keep hb)
    replace HB2 := hide ((unhide HB2).keep hb)
    replace HY := hide ((unhide HY).keep hb)
    replace HB := hide (thenB (unhide HB) hb)
    replace HB3 := hide (thenB (unhide HB3) hb)
    clear hb
    dsimp only
    rename_i KK hK
    refine hK _ _ ?_
    clear hK KK
    refine wpList_plain rfl fun Kt hKt => ?_
    go_simp
    refine hKt _ _ ?_
    clear hKt Kt
    refine wpList_plain rfl fun Kt hKt => ?_
    go_simp
    refine hKt _ _ ?_
    clear hKt Kt
    refine wpList_plain rfl fun Kt hKt => ?_
    go_simp
    refine hKt _ _ ?_
    clear hKt Kt
    refine wpList_plain rfl fun Kt hKt => ?_
    go_simp
    refine hKt _ _ ?_
    clear hKt Kt
    generalize hX : W18.alloc _ = W19
    have hb : Below W18.heap.size W18 W19 := hX ▸ (Below.refl _ _).alloc (Nat.le_refl _) _
    have HZ_ := hide (newBy W18 W19 (by rw [← hX]; rfl))
    have HBB_ := hide hb
    clear hX hb
    refine wpList_bstore rfl 24 (.tmp 17) (.tmp 74) rfl W18.heap.size rfl T (show Value.agg ct = _ by rw [unhide HCT]) 32 info32 (unhide HGT).len _ zeros (unhide HZ_) rfl ?_
    intro W20 HV_ HG_
    have hv := unhide HV_
    have hb : Below W18.heap.size W18 W20 := (unhide HBB_).grown (unhide HG_) (unhide HBB_).size (fun i e => by injection e with e; omega)
    obtain ⟨N_HP1, hN⟩ : ∃ N, N = W18.heap.size := ⟨_, rfl⟩
    rw [← hN] at hv ⊢
    have HP1_ := hide hv
    clear hN hv HV_ HG_ HZ_ HBB_
    replace HT := hide ((unhide HT).keep hb)
    replace HA := hide ((unhide HA).keep hb)
    replace HQ := hide ((unhide HQ).keep hb)
    replace HM := hide ((unhide HM).keep hb)
    replace HK := hide ((unhide HK).keep hb)
    replace HD := hide ((unhide HD).keep hb)
    replace HB1 := hide ((unhide HB1).keep hb)
    replace HX := hide ((unhide HX).keep hb)
    replace HB2 := hide ((unhide HB2).keep hb)
    replace HY := hide ((unhide HY).keep hb)
    replace HB := hide (thenB (unhide HB) hb)
    replace HB3 := hide (thenB (unhide HB3) hb)
    clear hb
    have HP1 := HP1_
    clear HP1_
    try simp only [List.getElem_toArray, List.getElem_cons_zero, List.getElem_cons_succ, Act.put, List.setIfInBounds_toArray, List.set_cons_zero, List.set_cons_succ]
    go_upto_region 12 with fail
    refine wp_region_lit ?_
    refine wpList_load_mid rfl 40 (.tmp 8) rfl N_K 0 rfl [.slice Ak q ck, .int .i64 km, .int .i64 ku] _ (unhide HK).range Tryd.underlying40 rfl infoKey ?_
    try simp only [List.getElem_toArray, List.getElem_cons_zero, List.getElem_cons_succ, Act.put, List.setIfInBounds_toArray, List.set_cons_zero, List.set_cons_succ]
    go_wp2_with fail
    refine (unhide HRPUB W20 (unhide HB3)).mono ?_; rintro x W21 ⟨rfl, hb⟩
    replace HT := hide ((unhide HT).keep hb)
    replace HA := hide ((unhide HA).keep hb)
    replace HQ := hide ((unhide HQ).keep hb)
    replace HM := hide ((unhide HM).keep hb)
    replace HK := hide ((unhide HK).keep hb)
    replace HD := hide ((unhide HD).keep hb)
    replace HB1 := hide ((unhide HB1).keep hb)
    replace HX := hide ((unhide HX).keep hb)
    replace HB2 := hide ((unhide HB2).keep hb)
    replace HY := hide ((unhide HY).keep hb)
    replace HP1 := hide ((unhide HP1).keep hb)
    replace HB := hide (thenB (unhide HB) hb)
    replace HB3 := hide (thenB (unhide HB3) hb)
    clear hb
    dsimp only
    rename_i KK hK
    refine hK _ _ ?_
    clear hK KK
    refine wpList_plain rfl fun Kt hKt => ?_
    go_simp
    refine hKt _ _ ?_
    clear hKt Kt
    refine wpList_plain rfl fun Kt hKt => ?_
    go_simp
    refine hKt _ _ ?_
    clear hKt Kt
    refine wpList_plain rfl fun Kt hKt => ?_
    go_simp
    refine hKt _ _ ?_
    clear hKt Kt
    refine wpList_plain rfl fun Kt hKt => ?_
    go_simp
    refine hKt _ _ ?_
    clear hKt Kt
    generalize hX : W21.alloc _ = W22
    have hb : Below W21.heap.size W21 W22 := hX ▸ (Below.refl _ _).alloc (Nat.le_refl _) _
    have HZ_ := hide (newBy W21 W22 (by rw [← hX]; rfl))
    have HBB_ := hide hb
    clear hX hb
    refine wpList_bstore rfl 24 (.tmp 19) (.tmp 79) rfl W21.heap.size rfl T (show Value.agg ct = _ by rw [unhide HCT]) 32 info32 (unhide HGT).len _ zeros (unhide HZ_) rfl ?_
    intro W23 HV_ HG_
    have hv := unhide HV_
    have hb : Below W21.heap.size W21 W23 := (unhide HBB_).grown (unhide HG_) (unhide HBB_).size (fun i e => by injection e with e; omega)
    obtain ⟨N_HP2, hN⟩ : ∃ N, N = W21.heap.size := ⟨_, rfl⟩
    rw [← hN] at hv ⊢
    have HP2_ := hide hv
    clear hN hv HV_ HG_ HZ_ HBB_
    replace HT := hide ((unhide HT).keep hb)
    replace HA := hide ((unhide HA).keep hb)
    replace HQ := hide ((unhide HQ).keep hb)
    replace HM := hide ((unhide HM).keep hb)
    replace HK := hide ((unhide HK).keep hb)
    replace HD := hide ((unhide HD).keep hb)
    replace HB1 := hide ((unhide HB1).keep hb)
    replace HX := hide ((unhide HX).keep hb)
    replace HB2 := hide ((unhide HB2).keep hb)
    replace HY := hide ((unhide HY).keep hb)
    replace HP1 := hide ((unhide HP1).keep hb)
    replace HB := hide (thenB (unhide HB) hb)
    replace HB3 := hide (thenB (unhide HB3) hb)
    clear hb
    have HP2 := HP2_
    clear HP2_
    try simp only [List.getElem_toArray, List.getElem_cons_zero, List.getElem_cons_succ, Act.put, List.setIfInBounds_toArray, List.set_cons_zero, List.set_cons_succ]
    go_upto_region 13 with fail
    refine wp_region_lit ?_
    refine wpList_gload (by kernel_rfl) 24 (.tmp 17) rfl N_HP1 rfl _ Tryd.underlying24 rfl 32 info32 _ T (unhide HP1) (unhide HGT).len ?_
    rw [show dv T = .agg ct by rw [unhide HCT]]
    try simp only [List.getElem_toArray, List.getElem_cons_zero, List.getElem_cons_succ, Act.put, List.setIfInBounds_toArray, List.set_cons_zero, List.set_cons_succ]
    refine wpList_gload (by kernel_rfl) 24 (.tmp 19) rfl N_HP2 rfl _ Tryd.underlying24 rfl 32 info32 _ T (unhide HP2) (unhide HGT).len ?_
    rw [show dv T = .agg ct by rw [unhide HCT]]
    try simp only [List.getElem_toArray, List.getElem_cons_zero, List.getElem_cons_succ, Act.put, List.setIfInBounds_toArray, List.set_cons_zero, List.set_cons_succ]
    refine wpList_wanted (by kernel_rfl) fun Kt hKt => ?_
    refine wp_eql (.tmp 81) (.tmp 82) _ rfl T T (show Value.agg ct = _ by rw [unhide HCT]) (show Value.agg ct = _ by rw [unhide HCT]) (unhide HGT).len (unhide HGT).len ?_
    rw [show decide (T = T) = true by simp]
    refine hKt _ _ ?_
    clear hKt Kt
    try simp only [List.getElem_toArray, List.getElem_cons_zero, List.getElem_cons_succ, Act.put, List.setIfInBounds_toArray, List.set_cons_zero, List.set_cons_succ]
    go_wp2_with fail
    go_ret
    exact ⟨by simp, unhide HB⟩
  | false =>
    dsimp only
    rename_i KK hK
    refine hK _ _ ?_
    clear hK KK
    refine wpList_plain rfl fun Kt hKt => ?_
    go_simp
    refine hKt _ _ ?_
    clear hKt Kt
    refine wpList_plain rfl fun Kt hKt => ?_
    go_simp
    refine hKt _ _ ?_
    clear hKt Kt
    refine wpList_vgload (by kernel_rfl) 40 (.tmp 8) rfl N_K rfl _ Tryd.underlying40 rfl _ [.slice Ak q ck, .int .i64 km, .int .i64 ku] infoKey (unhide HK) ?_
    try simp only [List.getElem_toArray, List.getElem_cons_zero, List.getElem_cons_succ, Act.put, List.setIfInBounds_toArray, List.set_cons_zero, List.set_cons_succ]
    refine wpList_wanted (by kernel_rfl) fun Kt hKt => ?_
    go_simp
    refine (rvalid_any W17 Ak q ck km ku).mono ?_; rintro x W18 ⟨rfl, hb⟩
    replace HT := hide ((unhide HT).keep hb)
    replace HA := hide ((unhide HA).keep hb)
    replace HQ := hide ((unhide HQ).keep hb)
    replace HM := hide ((unhide HM).keep hb)
    replace HK := hide ((unhide HK).keep hb)
    replace HD := hide ((unhide HD).keep hb)
    replace HB1 := hide ((unhide HB1).keep hb)
    replace HX := hide ((unhide HX).keep hb)
    replace HB2 := hide ((unhide HB2).keep hb)
    replace HY := hide ((unhide HY).keep hb)
    replace HB := hide (thenB (unhide HB) hb)
    replace HB3 := hide (thenB (unhide HB3) hb)
    clear hb
    dsimp only
    refine hKt _ _ ?_
    clear hKt Kt
    try simp only [List.getElem_toArray, List.getElem_cons_zero, List.getElem_cons_succ, Act.put, List.setIfInBounds_toArray, List.set_cons_zero, List.set_cons_succ]
    generalize keyOk q km ku = kv
    cases kv with
    | true =>
      go_wp2_with fail
      go_ret
      exact ⟨rfl, unhide HB⟩
    | false =>
      go_upto_region 11 with fail
      refine wp_region_lit ?_
      refine wpList_load_mid rfl 40 (.tmp 8) rfl N_K 0 rfl [.slice Ak q ck, .int .i64 km, .int .i64 ku] _ (unhide HK).range Tryd.underlying40 rfl infoKey ?_
      try simp only [List.getElem_toArray, List.getElem_cons_zero, List.getElem_cons_succ, Act.put, List.setIfInBounds_toArray, List.set_cons_zero, List.set_cons_succ]
      go_wp2_with fail
      refine (unhide HPUB W18 (unhide HB3)).mono ?_; rintro x W19 ⟨rfl, hb⟩
      replace HT := hide ((unhide HT).keep hb)
      replace HA := hide ((unhide HA).keep hb)
      replace HQ := hide ((unhide HQ).keep hb)
      replace HM := hide ((unhide HM).keep hb)
      replace HK := hide ((unhide HK).keep hb)
      replace HD := hide ((unhide HD).keep hb)
      replace HB1 := hide ((unhide HB1).keep hb)
      replace HX := hide ((unhide HX).keep hb)
      replace HB2 := hide ((unhide HB2).keep hb)
      replace HY := hide ((unhide HY).keep hb)
      replace HB := hide (thenB (unhide HB) hb)
      replace HB3 := hide (thenB (unhide HB3) hb)
      clear hb
      dsimp only
      rename_i KK hK
      refine hK _ _ ?_
      clear hK KK
      refine wpList_plain rfl fun Kt hKt => ?_
      go_simp
      refine hKt _ _ ?_
      clear hKt Kt
      refine wpList_plain rfl fun Kt hKt => ?_
      go_simp
      refine hKt _ _ ?_
      clear hKt Kt
      refine wpList_plain rfl fun Kt hKt => ?_
      go_simp
      refine hKt _ _ ?_
      clear hKt Kt
      refine wpList_plain rfl fun Kt hKt => ?_
      go_simp
      refine hKt _ _ ?_
      clear hKt Kt
      generalize hX : W19.alloc _ = W20
      have hb : Below W19.heap.size W19 W20 := hX ▸ (Below.refl _ _).alloc (Nat.le_refl _) _
      have HZ_ := hide (newBy W19 W20 (by rw [← hX]; rfl))
      have HBB_ := hide hb
      clear hX hb
      refine wpList_bstore rfl 24 (.tmp 17) (.tmp 74) rfl W19.heap.size rfl T (show Value.agg ct = _ by rw [unhide HCT]) 32 info32 (unhide HGT).len _ zeros (unhide HZ_) rfl ?_
      intro W21 HV_ HG_
      have hv := unhide HV_
      have hb : Below W19.heap.size W19 W21 := (unhide HBB_).grown (unhide HG_) (unhide HBB_).size (fun i e => by injection e with e; omega)
      obtain ⟨N_HP1, hN⟩ : ∃ N, N = W19.heap.size := ⟨_, rfl⟩
      rw [← hN] at hv ⊢
      have HP1_ := hide hv
      clear hN hv HV_ HG_ HZ_ HBB_
      replace HT := hide ((unhide HT).keep hb)
      replace HA := hide ((unhide HA).keep hb)
      replace HQ := hide ((unhide HQ).keep hb)
      replace HM := hide ((unhide HM).keep hb)
      replace HK := hide ((unhide HK).keep hb)
      replace HD := hide ((unhide HD).keep hb)
      replace HB1 := hide ((unhide HB1).keep hb)
      replace HX := hide ((unhide HX).keep hb)
      replace HB2 := hide ((unhide HB2).keep hb)
      replace HY := hide ((unhide HY).keep hb)
      replace HB := hide (thenB (unhide HB) hb)
      replace HB3 := hide (thenB (unhide HB3) hb)
      clear hb
      have HP1 := HP1_
      clear HP1_
      try simp only [List.getElem_toArray, List.getElem_cons_zero, List.getElem_cons_succ, Act.put, List.setIfInBounds_toArray, List.set_cons_zero, List.set_cons_succ]
      go_upto_region 12 with fail
      refine wp_region_lit ?_
      refine wpList_load_mid rfl 40 (.tmp 8) rfl N_K 0 rfl [.slice Ak q ck, .int .i64 km, .int .i64 ku] _ (unhide HK).range Tryd.underlying40 rfl infoKey ?_
      try simp only [List.getElem_toArray, List.getElem_cons_zero, List.getElem_cons_succ, Act.put, List.setIfInBounds_toArray, List.set_cons_zero, List.set_cons_succ]
      go_wp2_with fail
      refine (unhide HRPUB W21 (unhide HB3)).mono ?_; rintro x W22 ⟨rfl, hb⟩
      replace HT := hide ((unhide HT).keep hb)
      replace HA := hide ((unhide HA).keep hb)
      replace HQ := hide ((unhide HQ).keep hb)
      replace HM := hide ((unhide HM).keep hb)
      replace HK := hide ((unhide HK).keep hb)
      replace HD := hide ((unhide HD).keep hb)
      replace HB1 := hide ((unhide HB1).keep hb)
      replace HX := hide ((unhide HX).keep hb)
      replace HB2 := hide ((unhide HB2).keep hb)
      replace HY := hide ((unhide HY).keep hb)
      replace HP1 := hide ((unhide HP1).keep hb)
      replace HB := hide (thenB (unhide HB) hb)
      replace HB3 := hide (thenB (unhide HB3) hb)
      clear hb
      dsimp only
      rename_i KK hK
      refine hK _ _ ?_
      clear hK KK
      refine wpList_plain rfl fun Kt hKt => ?_
      go_simp
      refine hKt _ _ ?_
      clear hKt Kt
      refine wpList_plain rfl fun Kt hKt => ?_
      go_simp
      refine hKt _ _ ?_
      clear hKt Kt
      refine wpList_plain rfl fun Kt hKt => ?_
      go_simp
      refine hKt _ _ ?_
      clear hKt Kt
      refine wpList_plain rfl fun Kt hKt => ?_
      go_simp
      refine hKt _ _ ?_
      clear hKt Kt
      generalize hX : W22.alloc _ = W23
      have hb : Below W22.heap.size W22 W23 := hX ▸ (Below.refl _ _).alloc (Nat.le_refl _) _
      have HZ_ := hide (newBy W22 W23 (by rw [← hX]; rfl))
      have HBB_ := hide hb
      clear hX hb
      refine wpList_bstore rfl 24 (.tmp 19) (.tmp 79) rfl W22.heap.size rfl T (show Value.agg ct = _ by rw [unhide HCT]) 32 info32 (unhide HGT).len _ zeros (unhide HZ_) rfl ?_
      intro W24 HV_ HG_
      have hv := unhide HV_
      have hb : Below W22.heap.size W22 W24 := (unhide HBB_).grown (unhide HG_) (unhide HBB_).size (fun i e => by injection e with e; omega)
      obtain ⟨N_HP2, hN⟩ : ∃ N, N = W22.heap.size := ⟨_, rfl⟩
      rw [← hN] at hv ⊢
      have HP2_ := hide hv
      clear hN hv HV_ HG_ HZ_ HBB_
      replace HT := hide ((unhide HT).keep hb)
      replace HA := hide ((unhide HA).keep hb)
      replace HQ := hide ((unhide HQ).keep hb)
      replace HM := hide ((unhide HM).keep hb)
      replace HK := hide ((unhide HK).keep hb)
      replace HD := hide ((unhide HD).keep hb)
      replace HB1 := hide ((unhide HB1).keep hb)
      replace HX := hide ((unhide HX).keep hb)
      replace HB2 := hide ((unhide HB2).keep hb)
      replace HY := hide ((unhide HY).keep hb)
      replace HP1 := hide ((unhide HP1).keep hb)
      replace HB := hide (thenB (unhide HB) hb)
      replace HB3 := hide (thenB (unhide HB3) hb)
      clear hb
      have HP2 := HP2_
      clear HP2_
      try simp only [List.getElem_toArray, List.getElem_cons_zero, List.getElem_cons_succ, Act.put, List.setIfInBounds_toArray, List.set_cons_zero, List.set_cons_succ]
      go_upto_region 13 with fail
      refine wp_region_lit ?_
      refine wpList_gload (by kernel_rfl) 24 (.tmp 17) rfl N_HP1 rfl _ Tryd.underlying24 rfl 32 info32 _ T (unhide HP1) (unhide HGT).len ?_
      rw [show dv T = .agg ct by rw [unhide HCT]]
      try simp only [List.getElem_toArray, List.getElem_cons_zero, List.getElem_cons_succ, Act.put, List.setIfInBounds_toArray, List.set_cons_zero, List.set_cons_succ]
      refine wpList_gload (by kernel_rfl) 24 (.tmp 19) rfl N_HP2 rfl _ Tryd.underlying24 rfl 32 info32 _ T (unhide HP2) (unhide HGT).len ?_
      rw [show dv T = .agg ct by rw [unhide HCT]]
      try simp only [List.getElem_toArray, List.getElem_cons_zero, List.getElem_cons_succ, Act.put, List.setIfInBounds_toArray, List.set_cons_zero, List.set_cons_succ]
      refine wpList_wanted (by kernel_rfl) fun Kt hKt => ?_
      refine wp_eql (.tmp 81) (.tmp 82) _ rfl T T (show Value.agg ct = _ by rw [unhide HCT]) (show Value.agg ct = _ by rw [unhide HCT]) (unhide HGT).len (unhide HGT).len ?_
      rw [show decide (T = T) = true by simp]
      refine hKt _ _ ?_
      clear hKt Kt
      try simp only [List.getElem_toArray, List.getElem_cons_zero, List.getElem_cons_succ, Act.put, List.setIfInBounds_toArray, List.set_cons_zero, List.set_cons_succ]
      go_wp2_with fail
      go_ret
      exact ⟨by simp, unhide HB⟩
end Go.Proofs.YtninjgplgoimeaaDoor
