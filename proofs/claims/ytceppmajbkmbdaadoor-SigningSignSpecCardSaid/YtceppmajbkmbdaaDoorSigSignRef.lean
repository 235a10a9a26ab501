/- The reference's tagged hash: a contract. The reference's tree: half, node, Tree. The reference's tree: Tree. The reference's paths: length and path. Two lists of digests are compared. The reference of signing: Valid, hash, two, secret. The reference of signing: one. The reference of signing: two digests in a slice. The reference of signing: keys. The reference of signing: Public. The reference of signing: Bits. The reference of signing: New. The reference of signing: SameKey. The reference of signing: Sign. The law SigningSignSpec: Sign is the reference's. -/
import Derived.Test.YtceppmajbkmbdaaDoorDigRAll
import Derived.Test.YtceppmajbkmbdaaDoorDigTag
import Derived.Test.YtceppmajbkmbdaaDoorDigApp2
import Derived.Test.YtceppmajbkmbdaaDoorDigTop
import Derived.Test.YtceppmajbkmbdaaDoorDigTwo
import Derived.Test.YtceppmajbkmbdaaDoorSigSane
import Derived.Laws.BytesString
import Derived.Lib.BufferRead
import Derived.Test.YtceppmajbkmbdaaDoorSigS3
import Derived.Test.YtceppmajbkmbdaaDoorClose
namespace Go.Proofs.YtceppmajbkmbdaaDoor
set_option linter.unusedSimpArgs false
set_option linter.unusedVariables false
open Go.RowKit

set_option maxRecDepth 100000 in
set_option maxHeartbeats 2000000 in
theorem rtag_any (w : World) (s : ByteArray) (A : Option Addr) (c : Nat) (l : List Int) (hA : Bt w A l) (hc : l.length ≤ c) (hn : A = none → c = 0) (hl : l.length ≤ 800000000) (hs : (sb s).length ≤ 800000000) :
    Calls Tryd.prog 48 #[.string s, .slice A l.length c] w fun x w' => x = .returned (dv (tagF (sb s) l)) ∧ Below w.heap.size w w' := by
  obtain ⟨n, hnl⟩ : ∃ n, n = l.length := ⟨_, rfl⟩
  have HA := hide hA
  have HL : Hid (n = l.length ∧ l.length ≤ 800000000 ∧ l.length ≤ c ∧ (sb s).length ≤ 800000000) := ⟨hnl, hl, hc, hs⟩
  have HNn := hide hn
  rw [← hnl]
  clear hnl hl hA hn hc hs
  go_enter Tryd.func48, Tryd.ntmps48
  go_upto_region 1 with fail
  generalize hX1 : w.alloc _ = W1
  have hB1 : Below w.heap.size w W1 := hX1 ▸ (Below.refl _ _).alloc (Nat.le_refl _) _
  have HR1 := hide (newBy w W1 (by rw [← hX1]; rfl))
  have HB1 := hide hB1
  clear hX1 hB1
  obtain ⟨W2, C, hcv, hB2, hBt, hC⟩ := conv_str W1 s
  have HB2 := hide (thenB (unhide HB1) hB2)
  have HR2 := hide ((unhide HR1).keep hB2)
  have HBt := hide hBt
  have HC2 : Hid ((sb s).length ≤ C) := hC
  clear hB2 hBt hC HR1 HB1
  go_wp2_with fail
  refine (rsum_any W2 _ C (sb s) (unhide HBt) (unhide HC2) (fun h => by cases h) (by have := unhide HL; omega)).mono ?_; rintro x W3 ⟨rfl, hB3⟩
  have HB3 := hide (thenB (unhide HB2) hB3)
  have HR3 := hide ((unhide HR2).keep hB3)
  obtain ⟨D, hD⟩ : ∃ D, D = hashF (sb s) := ⟨_, rfl⟩
  have hgD : Dg D := hD ▸ dg_hash _
  rw [← hD]
  obtain ⟨cd, hcd⟩ : ∃ cs, cs = (D.map (Value.int .u8)).toArray := ⟨_, rfl⟩
  rw [show dv D = .agg cd by rw [hcd]]
  have HD := hide hD
  have HGD := hide hgD
  have HCD := hide hcd
  clear hcv hB3 hD hgD hcd HB2 HBt HC2 HR2
  dsimp only
  rename_i KK hK
  refine hK _ _ ?_
  clear hK KK
  refine wpList_plain rfl fun Kt hKt => ?_
  go_simp
  refine hKt _ _ ?_
  clear hKt Kt
  generalize hX4 : W3.alloc _ = W4
  have hB4 : Below W3.heap.size W3 W4 := hX4 ▸ (Below.refl _ _).alloc (Nat.le_refl _) _
  have HO4 := hide (newBy W3 W4 (by rw [← hX4]; rfl))
  have HB4 := hide (thenB (unhide HB3) hB4)
  have HR4 := hide ((unhide HR3).keep hB4)
  obtain ⟨M, hM⟩ : ∃ M, M = W3.heap.size := ⟨_, rfl⟩
  have HM : Hid (w.heap.size < M) := hM ▸ lt_of_block (unhide HR3)
  rw [← hM] at HO4 ⊢
  clear hX4 hB4 HB3 HR3 hM
  refine wpList_bstore rfl 24 (.tmp 5) (.tmp 8) rfl M rfl D (show Value.agg cd = _ by rw [unhide HCD]) 32 info32 (unhide HGD).len _ zeros (unhide HO4) rfl ?_
  intro W5 HW5 HG5
  have HB5 := hide ((unhide HB4).grown (unhide HG5) (unhide HB4).size (fun i e => by injection e with e; have := unhide HM; omega))
  have HR5 := hide ((unhide HR4).grown (unhide HG5) (by have := unhide HM; omega))
  clear HG5 HO4 HB4 HR4
  try simp only [List.getElem_toArray, List.getElem_cons_zero, List.getElem_cons_succ, Act.put, List.setIfInBounds_toArray, List.set_cons_zero, List.set_cons_succ]
  go_upto_region 2 with fail
  refine wp_region_lit ?_
  refine wpList_plain rfl fun Kt hKt => ?_
  go_simp
  refine hKt _ _ ?_
  clear hKt Kt
  generalize hX : W5.alloc _ = V1
  have hv1 : Below W5.heap.size W5 V1 := hX ▸ (Below.refl _ _).alloc (Nat.le_refl _) _
  have hown1 : OwnB V1 W5.heap.size (.slice (some ⟨W5.heap.size, 0, none⟩) 0 0) [] := hX ▸ World.ownsRow_lit W5 #[] 0 (Nat.le_refl _) (Nat.zero_le _) rfl
  clear hX
  refine wpList_plain rfl fun Kt hKt => ?_
  go_simp
  refine hKt _ _ ?_
  clear hKt Kt
  refine wpList_plain rfl fun Kt hKt => ?_
  obtain ⟨v2, V2, hr2, hown2, hg2⟩ := run_append_B hown1 22 (some ⟨M, 0, none⟩) 32 (((unhide HW5).keep hv1).bt (unhide HGD)) (fun h => by cases h) (by rw [(unhide HGD).len]; simp) hv1.size
  rw [(unhide HGD).len] at hr2
  have hv2 := grown_below hv1 hg2 (fun k hk => (hown1.lt k hk).1)
  refine wp_append (.tmp 9) (.tmp 10) 22 rfl _ _ v2 V2 rfl rfl hr2 ?_
  refine hKt _ _ ?_
  clear hKt Kt hr2 hown1 hg2 hv1
  try simp only [List.getElem_toArray, List.getElem_cons_zero, List.getElem_cons_succ, Act.put, List.setIfInBounds_toArray, List.set_cons_zero, List.set_cons_succ]
  refine wpList_plain rfl fun Kt hKt => ?_
  go_simp
  refine hKt _ _ ?_
  clear hKt Kt
  refine wpList_plain rfl fun Kt hKt => ?_
  obtain ⟨v3, V3, hr3, hown3, hg3⟩ := run_append_B hown2 22 A c (((unhide HA).keep (unhide HB5)).keep hv2) (unhide HNn) (by have h1 := (unhide HGD).len; have h2 := unhide HL; rw [List.nil_append]; omega) hv2.size
  rw [← (unhide HL).1] at hr3
  have hv3 := grown_below hv2 hg3 (fun k hk => (hown2.lt k hk).1)
  refine wp_append (.tmp 11) (.tmp 12) 22 rfl _ _ v3 V3 rfl rfl hr3 ?_
  refine hKt _ _ ?_
  clear hKt Kt hr3 hown2 hg3 hv2
  try simp only [List.getElem_toArray, List.getElem_cons_zero, List.getElem_cons_succ, Act.put, List.setIfInBounds_toArray, List.set_cons_zero, List.set_cons_succ]
  rw [List.nil_append] at hown3
  have hne : D ++ l ≠ [] := by
    intro h
    have h1 := congrArg List.length h
    rw [List.length_append, (unhide HGD).len] at h1
    simp at h1
  obtain ⟨g3, c3, rfl, -, -, -⟩ := hown3.opened hne
  have hbt3 : Bt V3 (some ⟨g3, 0, none⟩) (D ++ l) ∧ (D ++ l).length ≤ c3 := by
    obtain ⟨A4, c4, e, hc4, hbt4⟩ := hown3.bt (fun x hx => by
      rcases List.mem_append.1 hx with h | h
      · exact (unhide HGD).byt x h
      · exact (unhide HA).byt x h)
    injection e with e1 e2 e3
    subst e1 e3
    exact ⟨hbt4, hc4⟩
  have hsm := rsum_any V3 (some ⟨g3, 0, none⟩) c3 (D ++ l) hbt3.1 hbt3.2 (fun h => by cases h) (by have h1 := (unhide HGD).len; have h2 := unhide HL; rw [List.length_append]; omega)
  obtain ⟨T, hT⟩ : ∃ T, T = tagF (sb s) l := ⟨_, rfl⟩
  rw [show hashF (D ++ l) = T by rw [hT, unhide HD]; rfl] at hsm
  have HTT := hide hT
  obtain ⟨nl, hnl⟩ : ∃ nl, nl = (D ++ l).length := ⟨_, rfl⟩
  rw [← hnl] at hsm ⊢
  have hgT : Dg T := hT ▸ dg_hash _
  obtain ⟨ct, hct⟩ : ∃ cs, cs = (T.map (Value.int .u8)).toArray := ⟨_, rfl⟩
  rw [show dv T = .agg ct by rw [hct]] at hsm
  have HCT := hide hct
  have HGT := hide hgT
  have HV3 := hide (thenB (unhide HB5) hv3)
  have HR6 := hide ((unhide HR5).keep hv3)
  clear hct hgT hT hnl hbt3 hown3 hne hv3
  refine wpList_plain rfl fun Kt hKt => ?_
  go_simp
  refine hsm.mono ?_; rintro x V4 ⟨rfl, hb4⟩
  dsimp only
  refine hKt _ _ ?_
  clear hKt Kt hsm
  have HV4 := hide (thenB (unhide HV3) hb4)
  have HR7 := hide ((unhide HR6).keep hb4)
  clear hb4
  try simp only [List.getElem_toArray, List.getElem_cons_zero, List.getElem_cons_succ, Act.put, List.setIfInBounds_toArray, List.set_cons_zero, List.set_cons_succ]
  refine wpList_bstore rfl 24 (.tmp 4) (.tmp 14) rfl w.heap.size rfl T (show Value.agg ct = _ by rw [unhide HCT]) 32 info32 (unhide HGT).len _ zeros (unhide HR7) rfl ?_
  intro V9 HV9 HG9
  have HB9 := hide ((unhide HV4).grown (unhide HG9) (unhide HV4).size (fun i e => by injection e with e; omega))
  go_wp2_with fail
  try simp only [Exit.inBlock, Exit.then]
  exact bret rfl rfl w.heap.size rfl _ _ (unhide HV9) (unhide HGT).len ⟨by rw [unhide HTT], unhide HB9⟩

end Go.Proofs.YtceppmajbkmbdaaDoor
namespace Go.Proofs.YtceppmajbkmbdaaDoor
set_option linter.unusedSimpArgs false
set_option linter.unusedVariables false
open Go.RowKit

theorem half_is {n i K : Nat} (hK : K = 2 ^ i) (h1 : K < n) (h2 : ¬ 2 * K < n) : halfN n = K := by
  have h0 : n - 1 ≠ 0 := by
    have := Nat.pow_pos (n := i) (show 0 < 2 by omega)
    omega
  have h3 : Nat.log2 (n - 1) = i := (Nat.log2_eq_iff h0).2 ⟨by omega, by rw [Nat.pow_succ]; omega⟩
  unfold halfN
  rw [h3, hK]
set_option maxRecDepth 100000 in
set_option maxHeartbeats 2000000 in
theorem rhalf_any (n : Nat) (h2 : 2 ≤ n) (hn : n ≤ 1099511627776) (w : World) :
    Calls Tryd.prog 49 #[.int .i64 (n : Int)] w fun e w' => e = .returned (.int .i64 ((halfN n : Nat) : Int)) ∧ w' = w := by
  have HN : Hid (2 ≤ n ∧ n ≤ 1099511627776) := ⟨h2, hn⟩
  clear h2 hn
  go_enter Tryd.func49, Tryd.ntmps49
  go_wp2_with fail
  go_loopg [3] 41 (fun g y wx => ∃ (i K : Nat), g + i = 41 ∧ y = .int .i64 (K : Int) ∧ K = 2 ^ i ∧ K < n ∧ wx = w)
  case atStart => exact ⟨0, 1, rfl, rfl, rfl, by have := unhide HN; omega, rfl⟩
  case round =>
    obtain ⟨i, K, hg, rfl, hK, hKn, rfl⟩ := hrel
    have k0 : (0 : Int) ≤ (K : Int) := Int.natCast_nonneg _
    have kM : (K : Int) ≤ 1099511627776 := by have := unhide HN; omega
    by_cases hlt : 2 * K < n
    · have hl : 2 * (K : Int) < (n : Int) := by omega
      have h41 : i + 1 < 41 := by
        rcases Nat.lt_or_ge (i + 1) 41 with h | h
        · exact h
        · have h3 := Nat.pow_le_pow_right (n := 2) (by omega) h
          rw [Nat.pow_succ] at h3
          have := unhide HN
          omega
      obtain ⟨g, rfl⟩ : ∃ g, gk = g + 1 := ⟨gk - 1, by omega⟩
      have HKK : Hid (g + 1 + i = 41 ∧ K = 2 ^ i ∧ 2 * K < n) := ⟨hg, hK, hlt⟩
      clear hg hK hKn hlt h41
      go_wp2_with fail
      go_roundg g
      case measure => omega
      case rel => exact ⟨i + 1, 2 * K, by have := (unhide HKK).1; omega, by push_cast; rfl, by rw [Nat.pow_succ, (unhide HKK).2.1]; omega, (unhide HKK).2.2, rfl⟩
    · have hl : ¬ 2 * (K : Int) < (n : Int) := by omega
      have hh := half_is hK hKn hlt
      have HH := hide hh
      clear hg hK hKn hlt hh
      go_wp2_with fail
      go_ret
      exact ⟨by rw [unhide HH]; rfl, rfl⟩

set_option maxRecDepth 100000 in
set_option maxHeartbeats 4000000 in
theorem rnode_any (w : World) (d e : List Int) (hd : Dg d) (he : Dg e) :
    Calls Tryd.prog 50 #[dv d, dv e] w fun x w' => x = .returned (dv (nodeP d e)) ∧ Below w.heap.size w w' := by
  have HD := hide hd
  have hld := hd.len
  obtain ⟨cd, hcd⟩ : ∃ cs, cs = (d.map (Value.int .u8)).toArray := ⟨_, rfl⟩
  have hsd : cd.size = 32 := by rw [hcd]; simpa using hld
  rw [show dv d = .agg cd by rw [hcd]]
  have HE := hide he
  have hle := he.len
  obtain ⟨ce, hce⟩ : ∃ cs, cs = (e.map (Value.int .u8)).toArray := ⟨_, rfl⟩
  have hse : ce.size = 32 := by rw [hce]; simpa using hle
  rw [show dv e = .agg ce by rw [hce]]
  clear hd hld he hle
  go_enter Tryd.func50, Tryd.ntmps50
  go_upto_region 1 with fail
  generalize hX1 : w.alloc _ = W1
  have hB1 : Below w.heap.size w W1 := hX1 ▸ (Below.refl _ _).alloc (Nat.le_refl _) _
  have ho1 : ByAt W1 w.heap.size 24 d := boxed w W1 d _ (by rw [← hX1]; first | rfl | (rw [hcd]; rfl))
  have hz1 : W1.heap.size = w.heap.size + 1 := by rw [← hX1]; show (w.heap.push _).size = _; rw [Array.size_push]
  generalize hX2 : W1.alloc _ = W2
  have hB2 : Below W1.heap.size W1 W2 := hX2 ▸ (Below.refl _ _).alloc (Nat.le_refl _) _
  have ho2 : ByAt W2 W1.heap.size 24 e := boxed W1 W2 e _ (by rw [← hX2]; first | rfl | (rw [hce]; rfl))
  have hz2 : W2.heap.size = w.heap.size + 2 := by rw [← hX2]; show (W1.heap.push _).size = _; rw [Array.size_push]; omega
  generalize hX3 : W2.alloc _ = W3
  have hB3 : Below W2.heap.size W2 W3 := hX3 ▸ (Below.refl _ _).alloc (Nat.le_refl _) _
  have ho3 : ByAt W3 W2.heap.size 24 zeros := newBy W2 W3 (by rw [← hX3]; rfl)
  have hz3 : W3.heap.size = w.heap.size + 3 := by rw [← hX3]; show (W2.heap.push _).size = _; rw [Array.size_push]; omega
  have hB : Below w.heap.size w W3 := (thenB (thenB hB1 hB2) hB3)
  have hk1 := ((ho1.keep hB2).keep hB3)
  have hk2 := (ho2.keep hB3)
  rw [hz1] at hk2
  have hk3 := ho3
  rw [hz2] at hk3
  obtain ⟨W, hW⟩ : ∃ W, W = W3.drewN 1 := ⟨_, rfl⟩
  have HW : Hid (W = W3.drewN 1) := hW
  have HK1 := hide (hk1.keep (below_named HW))
  have HK2 := hide (hk2.keep (below_named HW))
  have HK3 := hide (hk3.keep (below_named HW))
  have HB := hide (thenB hB (below_named HW))
  have HZ : Hid (w.heap.size + 3 ≤ W.heap.size) := by have := (below_named HW).size; show _ ≤ _; omega
  have hS0 : Below W.heap.size W W := Below.refl _ _
  clear hW hB hX1 hB1 ho1 hz1 hk1 hX2 hB2 ho2 hz2 hk2 hX3 hB3 ho3 hz3 hk3 hcd hce
  refine held (S := Below w.heap.size w) W HW (by kernel_rfl) ?_
  have hSW := unhide HB
  refine wpAnyH_take (i := 1) (v := ?_) rfl (by kernel_rfl) (by kernel_rfl) (by kernel_rfl) (fun _ _ _ h => h) (Or.inl ⟨by kernel_rfl, ?_⟩) (by assumption) ?_
  rotate_left
  · intro Wt hSt
    go_simp
    try with_reducible rfl
  try simp only [List.getElem_toArray, List.getElem_cons_zero, List.getElem_cons_succ, Act.put, List.setIfInBounds_toArray, List.set_cons_zero, List.set_cons_succ]
  refine wpAnyH_take (i := 3) (v := ?_) rfl (by kernel_rfl) (by kernel_rfl) (by kernel_rfl) (fun _ _ _ h => h) (Or.inl ⟨by kernel_rfl, ?_⟩) (by assumption) ?_
  rotate_left
  · intro Wt hSt
    go_simp
    try with_reducible rfl
  try simp only [List.getElem_toArray, List.getElem_cons_zero, List.getElem_cons_succ, Act.put, List.setIfInBounds_toArray, List.set_cons_zero, List.set_cons_succ]
  refine wpAnyH_chainOf [0, 2, 4, 5, 6] _ _ _ (by kernel_rfl) (by kernel_rfl) ?_
  simp only [List.filterMap_cons, List.filterMap_nil, List.getElem?_toArray, List.getElem?_cons_zero, List.getElem?_cons_succ]
  refine wpChain_step rfl fun K hK => ?_
  go_simp
  generalize hX : W.alloc _ = V1
  have hv1 : Below W.heap.size W V1 := hX ▸ (Below.refl _ _).alloc (Nat.le_refl _) _
  have hown1 : OwnB V1 W.heap.size (.slice (some ⟨W.heap.size, 0, none⟩) 0 0) [] := hX ▸ World.ownsRow_lit W #[] 0 (Nat.le_refl _) (Nat.zero_le _) rfl
  clear hX
  refine hK _ _ (thenB hSW hv1) ?_
  clear hK K
  refine wpChain_step rfl fun K hK => ?_
  obtain ⟨v2, V2, hr2, hown2, hg2⟩ := run_append_B hown1 22 (some ⟨w.heap.size, 0, none⟩) 32 (((unhide HK1).keep hv1).bt (unhide HD)) (fun h => by cases h) (by rw [(unhide HD).len]; simp) hv1.size
  rw [(unhide HD).len] at hr2
  have hv2 := grown_below hv1 hg2 (fun k hk => (hown1.lt k hk).1)
  refine wp_append (.tmp 5) (.tmp 6) 22 rfl _ _ v2 V2 rfl rfl hr2 ?_
  refine hK _ _ (thenB hSW hv2) ?_
  clear hK K hr2 hown1 hg2 hv1
  refine wpChain_step rfl fun K hK => ?_
  obtain ⟨v3, V3, hr3, hown3, hg3⟩ := run_append_B hown2 22 (some ⟨w.heap.size + 1, 0, none⟩) 32 (((unhide HK2).keep hv2).bt (unhide HE)) (fun h => by cases h) (by rw [List.nil_append, (unhide HD).len, (unhide HE).len]; omega) hv2.size
  rw [(unhide HE).len] at hr3
  have hv3 := grown_below hv2 hg3 (fun k hk => (hown2.lt k hk).1)
  refine wp_append (.tmp 7) (.tmp 8) 22 rfl _ _ v3 V3 rfl rfl hr3 ?_
  refine hK _ _ (thenB hSW hv3) ?_
  clear hK K hr3 hown2 hg3 hv2
  rw [List.nil_append] at hown3
  have hlen : (d ++ e).length = 64 := by rw [List.length_append, (unhide HD).len, (unhide HE).len]
  have hne : d ++ e ≠ [] := by
    intro h
    rw [h] at hlen
    simp at hlen
  obtain ⟨g3, c3, rfl, -, -, -⟩ := hown3.opened hne
  have hbt3 : Bt V3 (some ⟨g3, 0, none⟩) (d ++ e) ∧ (d ++ e).length ≤ c3 := by
    obtain ⟨A4, c4, e', hc4, hbt4⟩ := hown3.bt (fun x hx => by
      rcases List.mem_append.1 hx with h | h
      · exact (unhide HD).byt x h
      · exact (unhide HE).byt x h)
    injection e' with e1 e2 e3
    subst e1 e3
    exact ⟨hbt4, hc4⟩
  have hsm := rtag_any V3 ⟨#[110, 111, 100, 101]⟩ (some ⟨g3, 0, none⟩) c3 (d ++ e) hbt3.1 hbt3.2 (fun h => by cases h) (by rw [hlen]; omega) (by decide)
  rw [show sb ⟨#[110, 111, 100, 101]⟩ = [110, 111, 100, 101] by decide] at hsm
  obtain ⟨T, hT⟩ : ∃ T, T = nodeP d e := ⟨_, rfl⟩
  rw [show tagF [110, 111, 100, 101] (d ++ e) = T from hT ▸ rfl] at hsm
  have HTT := hide hT
  have hgT : Dg T := hT ▸ dg_hash _
  obtain ⟨nl, hnl⟩ : ∃ nl, nl = (d ++ e).length := ⟨_, rfl⟩
  rw [← hnl] at hsm ⊢
  obtain ⟨ct, hct⟩ : ∃ cs, cs = (T.map (Value.int .u8)).toArray := ⟨_, rfl⟩
  rw [show dv T = .agg ct by rw [hct]] at hsm
  have HCT := hide hct
  have HGT := hide hgT
  have hSV := thenB hSW hv3
  have hO3 := (unhide HK3).keep hv3
  clear hct hgT hT hnl hbt3 hown3 hne hv3 hlen
  refine wpChain_step rfl fun K hK => ?_
  go_simp
  refine hsm.mono ?_; rintro x V4 ⟨rfl, hb4⟩
  have hS4 := thenB hSV hb4
  have hO4 := hO3.keep hb4
  dsimp only
  refine hK _ _ hS4 ?_
  clear hK K hsm
  refine wpChain_bstore rfl 24 (.tmp 4) (.tmp 10) rfl (w.heap.size + 2) rfl T (show Value.agg ct = _ by rw [unhide HCT]) 32 info32 (unhide HGT).len _ zeros hO4 rfl ?_
  intro W9 HW9 HG
  have hS9 : Below w.heap.size w W9 := hS4.grown (unhide HG) hS4.size (fun i e => by injection e with e; omega)
  refine ⟨hS9, wpChain_nil ?_⟩
  have HS9 := hide hS9
  clear hO4 hO3 hS4 hSV hSW hS9 hb4
  go_wp2_with fail
  try simp only [Exit.inBlock, Exit.then]
  exact bret rfl rfl (w.heap.size + 2) rfl _ _ (unhide HW9) (unhide HGT).len ⟨by rw [unhide HTT], unhide HS9⟩
end Go.Proofs.YtceppmajbkmbdaaDoor
namespace Go.Proofs.YtceppmajbkmbdaaDoor
set_option linter.unusedSimpArgs false
set_option linter.unusedVariables false
open Go.RowKit

theorem treeD_ne {l : List (List Int)} (h : l ≠ []) : treeD l = treeP l := if_neg h
theorem bt_of_range {w : World} {b o : Nat} {d : List Int} (hd : Dg d) (h : w.rangeAt b o (d.map (Value.int .u8))) : Bt w (some ⟨b, o, none⟩) d :=
  ⟨hd.byt, fun _ => ⟨b, o, rfl, fun i hi => h i _ (by rw [List.getElem?_map, List.getD_eq_getElem?_getD, List.getElem?_eq_getElem hi]; rfl)⟩⟩
set_option maxRecDepth 100000 in
set_option maxHeartbeats 4000000 in
theorem rtree_step (n : Nat) (IH : ∀ (l : List (List Int)), l.length < n → ∀ (w : World) (c : Nat) (A : Option Addr), Ds w A l → l.length ≤ c →
      Calls Tryd.prog 16 #[.slice A l.length c] w fun x w' => x = .returned (dv (treeD l)) ∧ Below w.heap.size w w')
    (l : List (List Int)) (hn : l.length = n) (h1000 : n ≤ 1099511627776) (w : World) (c : Nat) (A : Option Addr) (hA : Ds w A l) (hc : l.length ≤ c) :
    Calls Tryd.prog 16 #[.slice A n c] w fun x w' => x = .returned (dv (treeD l)) ∧ Below w.heap.size w w' := by
  by_cases hz : n = 0
  · subst hz
    obtain rfl := List.length_eq_zero_iff.1 hn
    clear IH hA hc hn
    go_enter Tryd.func16, Tryd.ntmps16
    go_upto_region 1 with fail
    generalize hX1 : w.alloc _ = W1
    have hB1 : Below w.heap.size w W1 := hX1 ▸ (Below.refl _ _).alloc (Nat.le_refl _) _
    have HO1 := hide (newBy w W1 (by rw [← hX1]; rfl))
    have HB1 := hide hB1
    clear hX1 hB1
    go_wp2_with fail
    refine (rtag_any W1 ⟨#[101, 109, 112, 116, 121]⟩ none 0 [] Bt.nil (Nat.le_refl _) (fun _ => rfl) (by decide) (by decide)).mono ?_; rintro x W2 ⟨rfl, hB2⟩
    rw [sb_empty]
    have HB2 := hide (thenB (unhide HB1) hB2)
    have HO2 := hide ((unhide HO1).keep hB2)
    clear hB2
    dsimp only
    rename_i KK hK
    refine hK _ _ ?_
    clear hK KK
    refine wpList_bstore rfl 24 (.tmp 2) (.tmp 7) rfl w.heap.size rfl emptyP rfl 32 info32 (dg_hash _).len _ zeros (unhide HO2) rfl ?_
    intro W9 HW9 HG
    go_wp2_with fail
    try simp only [Exit.inBlock, Exit.then]
    exact bret rfl rfl w.heap.size rfl _ _ (unhide HW9) (dg_hash _).len ⟨rfl, (unhide HB2).grown (unhide HG) (unhide HB2).size (fun i e => by injection e with e; omega)⟩
  have hne : l ≠ [] := fun e => by rw [e] at hn; exact hz hn.symm
  rw [treeD_ne hne]
  have HI := hide IH
  have HA := hide hA
  have HN := hide hn
  obtain ⟨sb', so, rfl, hrg⟩ := hA.at_ hne
  have HR := hide hrg
  have hcn : (n : Int) ≤ (c : Int) := by omega
  have HC : Hid (n ≤ c ∧ n ≤ 1099511627776) := ⟨by omega, h1000⟩
  by_cases h1 : n = 1
  · obtain ⟨d, rfl⟩ : ∃ d, l = [d] := List.length_eq_one_iff.1 (by omega)
    subst h1
    have hd0 := hA.dg d (by simp)
    have HD := hide hd0
    have hr0 := hrg 0 d rfl
    rw [Nat.zero_mul, Nat.add_zero] at hr0
    have HR0 := hide hr0
    clear IH hA hn hc hrg hd0 h1000 hcn hne hz hr0
    go_enter Tryd.func16, Tryd.ntmps16
    go_upto_region 1 with fail
    generalize hX1 : w.alloc _ = W1
    have hB1 : Below w.heap.size w W1 := hX1 ▸ (Below.refl _ _).alloc (Nat.le_refl _) _
    have HO1 := hide (newBy w W1 (by rw [← hX1]; rfl))
    have HB1 := hide hB1
    clear hX1 hB1
    have hsm := rtag_any W1 ⟨#[108, 101, 97, 102]⟩ (some ⟨sb', so, none⟩) 32 d (bt_of_range (unhide HD) (rangeAt_keep (unhide HR0) (unhide HB1))) (Nat.le_of_eq (unhide HD).len) (fun h => by cases h) (by rw [(unhide HD).len]; omega) (by decide)
    rw [show sb ⟨#[108, 101, 97, 102]⟩ = [108, 101, 97, 102] by decide, show tagF [108, 101, 97, 102] d = leafP d from rfl, (unhide HD).len] at hsm
    have HSM := hide hsm
    clear hsm
    go_wp2_with fail
    refine (unhide HSM).mono ?_; rintro x W2 ⟨rfl, hB2⟩
    have HB2 := hide (thenB (unhide HB1) hB2)
    have HO2 := hide ((unhide HO1).keep hB2)
    clear hB2 HSM
    dsimp only
    rename_i KK hK
    refine hK _ _ ?_
    clear hK KK
    refine wpList_bstore rfl 24 (.tmp 2) (.tmp 14) rfl w.heap.size rfl (leafP d) rfl 32 info32 (dg_hash _).len _ zeros (unhide HO2) rfl ?_
    intro W9 HW9 HG
    go_wp2_with fail
    try simp only [Exit.inBlock, Exit.then]
    rw [treeP_one]
    exact bret rfl rfl w.heap.size rfl _ _ (unhide HW9) (dg_hash _).len ⟨rfl, (unhide HB2).grown (unhide HG) (unhide HB2).size (fun i e => by injection e with e; omega)⟩
  · have h2 : 2 ≤ n := by have := List.length_pos_iff.2 hne; omega
    obtain ⟨k, hk⟩ : ∃ k, k = halfN n := ⟨_, rfl⟩
    have hkn := halfN_lt h2
    have hk0 := halfN_pos n
    rw [← hk] at hkn hk0
    have HK : Hid (k = halfN n ∧ 0 < k ∧ k < n ∧ 2 ≤ n) := ⟨hk, hk0, hkn, h2⟩
    have n0 : ¬ (n : Int) = 0 := by omega
    have n1 : ¬ (n : Int) = 1 := by omega
    have k0 : (0 : Int) ≤ (k : Int) := Int.natCast_nonneg _
    have k1 : (k : Int) ≤ (n : Int) := by omega
    have k2 : (k : Int) ≤ (c : Int) := by omega
    have k3 : ¬ (c = k) := by omega
    clear IH hA hn hc hrg h1000 hne hk hkn hk0 h2 hz
    go_enter Tryd.func16, Tryd.ntmps16
    go_upto_region 1 with fail
    generalize hX1 : w.alloc _ = W1
    have hB1 : Below w.heap.size w W1 := hX1 ▸ (Below.refl _ _).alloc (Nat.le_refl _) _
    have HO1 := hide (newBy w W1 (by rw [← hX1]; rfl))
    have HB1 := hide hB1
    clear hX1 hB1
    go_wp2_with fail
    refine (rhalf_any n (unhide HK).2.2.2 (unhide HC).2 W1).mono ?_; rintro x W2 ⟨rfl, rfl⟩
    rw [← (unhide HK).1]
    obtain ⟨T1, hT1⟩ : ∃ d, d = treeP (l.take k) := ⟨_, rfl⟩
    obtain ⟨T2, hT2⟩ : ∃ d, d = treeP (l.drop k) := ⟨_, rfl⟩
    have hg1 : Dg T1 := hT1 ▸ dg_tree _
    have hg2 : Dg T2 := hT2 ▸ dg_tree _
    obtain ⟨c1, hc1⟩ : ∃ cs, cs = (T1.map (Value.int .u8)).toArray := ⟨_, rfl⟩
    obtain ⟨c2, hc2⟩ : ∃ cs, cs = (T2.map (Value.int .u8)).toArray := ⟨_, rfl⟩
    have hK := unhide HK
    have hlt : (l.take k).length = k := by have := unhide HN; simp; omega
    have hld : (l.drop k).length = n - k := by have := unhide HN; simp; omega
    have HF1 : Hid (∀ W, Below w.heap.size w W → Calls Tryd.prog 16 #[.slice (some ⟨sb', so, none⟩) k c] W fun x w' => x = .returned (.agg c1) ∧ Below W.heap.size W w') := fun W hB => by
      have := (unhide HI) (l.take k) (by omega) W c (some ⟨sb', so, none⟩) (((unhide HA).keep hB).take k) (by have := (unhide HC).1; omega)
      rw [hlt, treeD_ne (fun e => by rw [e] at hlt; simp at hlt; omega)] at this
      refine this.mono ?_
      rintro x w' ⟨rfl, h'⟩
      exact ⟨by rw [hc1, hT1], h'⟩
    have HF2 : Hid (∀ W, Below w.heap.size w W → Calls Tryd.prog 16 #[.slice (some ⟨sb', so + k * 32, none⟩) (n - k) (c - k)] W fun x w' => x = .returned (.agg c2) ∧ Below W.heap.size W w') := fun W hB => by
      have := (unhide HI) (l.drop k) (by omega) W (c - k) (some ⟨sb', so + k * 32, none⟩) (((unhide HA).keep hB).drop k) (by have := (unhide HC).1; omega)
      rw [hld, treeD_ne (fun e => by rw [e] at hld; simp at hld; omega)] at this
      refine this.mono ?_
      rintro x w' ⟨rfl, h'⟩
      exact ⟨by rw [hc2, hT2], h'⟩
    have HF3 : Hid (∀ W, Below w.heap.size w W → Calls Tryd.prog 50 #[.agg c1, .agg c2] W fun x w' => x = .returned (dv (treeP l)) ∧ Below W.heap.size W w') := fun W hB => by
      rw [hc1, hc2]
      refine (rnode_any W T1 T2 hg1 hg2).mono ?_
      rintro x w' ⟨rfl, h'⟩
      exact ⟨by rw [treeP_more l (by have := unhide HN; omega), unhide HN, ← hK.1, ← hT1, ← hT2], h'⟩
    obtain ⟨W, hW⟩ : ∃ W, W = W2.drewN 1 := ⟨_, rfl⟩
    have HW : Hid (W = W2.drewN 1) := hW
    have hSW := thenB (unhide HB1) (below_named HW)
    have HOW := hide ((unhide HO1).keep (below_named HW))
    clear hT1 hT2 hg1 hg2 hc1 hc2 hK hlt hld hW
    go_wp2_with fail
    refine held (S := Below w.heap.size w) W HW (by kernel_rfl) ?_
    refine wpAnyH_take (i := 0) (v := ?_) rfl (by kernel_rfl) (by kernel_rfl) (by kernel_rfl) (fun _ _ _ h => h) (Or.inl ⟨by kernel_rfl, ?_⟩) (by assumption) ?_
    rotate_left
    · intro Wt hSt
      go_simp
      try with_reducible rfl
    try simp only [List.getElem_toArray, List.getElem_cons_zero, List.getElem_cons_succ, Act.put, List.setIfInBounds_toArray, List.set_cons_zero, List.set_cons_succ]
    refine wpAnyH_take (i := 1) (v := ?_) rfl (by kernel_rfl) (by kernel_rfl) (by kernel_rfl) (fun _ _ _ h => h) (Or.inl ⟨by kernel_rfl, ?_⟩) (by assumption) ?_
    rotate_left
    · intro Wt hSt
      go_simp
      try with_reducible rfl
    try simp only [List.getElem_toArray, List.getElem_cons_zero, List.getElem_cons_succ, Act.put, List.setIfInBounds_toArray, List.set_cons_zero, List.set_cons_succ]
    refine wpAnyH_take (i := 2) (v := ?_) rfl (by kernel_rfl) (by kernel_rfl) (by kernel_rfl) (fun _ _ _ h => h) (Or.inl ⟨by kernel_rfl, ?_⟩) (by assumption) ?_
    rotate_left
    · intro Wt hSt
      go_simp
      try with_reducible rfl
    try simp only [List.getElem_toArray, List.getElem_cons_zero, List.getElem_cons_succ, Act.put, List.setIfInBounds_toArray, List.set_cons_zero, List.set_cons_succ]
    refine wpAnyH_take (i := 4) (v := ?_) rfl (by kernel_rfl) (by kernel_rfl) (by kernel_rfl) (fun _ _ _ h => h) (Or.inl ⟨by kernel_rfl, ?_⟩) (by assumption) ?_
    rotate_left
    · intro Wt hSt
      go_simp
      try with_reducible rfl
    try simp only [List.getElem_toArray, List.getElem_cons_zero, List.getElem_cons_succ, Act.put, List.setIfInBounds_toArray, List.set_cons_zero, List.set_cons_succ]
    refine wpAnyH_take (i := 5) (v := ?_) rfl (by kernel_rfl) (by kernel_rfl) (by kernel_rfl) (fun _ _ _ h => h) (Or.inl ⟨by kernel_rfl, ?_⟩) (by assumption) ?_
    rotate_left
    · intro Wt hSt
      go_simp
      try with_reducible rfl
    try simp only [List.getElem_toArray, List.getElem_cons_zero, List.getElem_cons_succ, Act.put, List.setIfInBounds_toArray, List.set_cons_zero, List.set_cons_succ]
    refine wpAnyH_take (i := 6) (v := ?_) rfl (by kernel_rfl) (by kernel_rfl) (by kernel_rfl) (fun _ _ _ h => h) (Or.inl ⟨by kernel_rfl, ?_⟩) (by assumption) ?_
    rotate_left
    · intro Wt hSt
      go_simp
      try with_reducible rfl
    try simp only [List.getElem_toArray, List.getElem_cons_zero, List.getElem_cons_succ, Act.put, List.setIfInBounds_toArray, List.set_cons_zero, List.set_cons_succ]
    refine wpAnyH_chainOf [3, 7, 8, 9] _ _ _ (by kernel_rfl) (by kernel_rfl) ?_
    simp only [List.filterMap_cons, List.filterMap_nil, List.getElem?_toArray, List.getElem?_cons_zero, List.getElem?_cons_succ]
    refine wpChain_step rfl fun K hK => ?_
    go_simp
    refine ((unhide HF1) _ hSW).mono ?_; rintro x wA ⟨rfl, hA1⟩
    have hSA := thenB hSW hA1
    dsimp only
    refine hK _ _ hSA ?_
    clear hK K
    refine wpChain_step rfl fun K hK => ?_
    go_simp
    refine ((unhide HF2) _ hSA).mono ?_; rintro x wB ⟨rfl, hA2⟩
    have hSB := thenB hSA hA2
    dsimp only
    refine hK _ _ hSB ?_
    clear hK K
    refine wpChain_step rfl fun K hK => ?_
    go_simp
    refine ((unhide HF3) _ hSB).mono ?_; rintro x wC ⟨rfl, hA3⟩
    have hSC := thenB hSB hA3
    have hO := (((unhide HOW).keep hA1).keep hA2).keep hA3
    dsimp only
    refine hK _ _ hSC ?_
    clear hK K
    refine wpChain_bstore rfl 24 (.tmp 2) (.tmp 26) rfl w.heap.size rfl (treeP l) rfl 32 info32 (dg_tree l).len _ zeros hO rfl ?_
    intro W9 HW9 HG
    have hS9 : Below w.heap.size w W9 := hSC.grown (unhide HG) hSC.size (fun i e => by injection e with e; omega)
    refine ⟨hS9, wpChain_nil ?_⟩
    clear hO hSC hSB hSA hA1 hA2 hA3
    have HS9 := hide hS9
    clear hS9 hSW
    go_wp2_with fail
    try simp only [Exit.inBlock, Exit.then]
    exact bret rfl rfl w.heap.size rfl _ _ (unhide HW9) (dg_tree l).len ⟨rfl, unhide HS9⟩
theorem rtree_all (n : Nat) : ∀ (l : List (List Int)), l.length = n → n ≤ 1099511627776 → ∀ (w : World) (c : Nat) (A : Option Addr), Ds w A l → l.length ≤ c →
      Calls Tryd.prog 16 #[.slice A n c] w fun x w' => x = .returned (dv (treeD l)) ∧ Below w.heap.size w w' := by
  induction n using Nat.strongRecOn with
  | _ n IH =>
    intro l hn h1000 w c A hA hc
    exact rtree_step n (fun l' hl' w' c' A' hA' hc' => IH l'.length hl' l' rfl (by omega) w' c' A' hA' hc') l hn h1000 w c A hA hc
theorem rtree_any (w : World) (c : Nat) (A : Option Addr) (l : List (List Int)) (hA : Ds w A l) (hc : l.length ≤ c) (h1000 : l.length ≤ 1099511627776) :
    Calls Tryd.prog 16 #[.slice A l.length c] w fun x w' => x = .returned (dv (treeD l)) ∧ Below w.heap.size w w' :=
  rtree_all l.length l rfl h1000 w c A hA hc
end Go.Proofs.YtceppmajbkmbdaaDoor
namespace Go.Proofs.YtceppmajbkmbdaaDoor
set_option linter.unusedSimpArgs false
set_option linter.unusedVariables false
open Go.RowKit

set_option maxRecDepth 100000 in
set_option maxHeartbeats 2000000 in
theorem rlen_step (n : Nat) (IH : ∀ n', n' < n → ∀ at_ : Nat, 1 ≤ n' → at_ < n' → ∀ w, Calls Tryd.prog 56 #[.int .i64 (at_ : Int), .int .i64 (n' : Int)] w fun x w' => x = .returned (.int .i64 ((lenP n' at_ : Nat) : Int)) ∧ w' = w)
    (at_ : Nat) (h1 : 1 ≤ n) (hn : n ≤ 1099511627776) (ha : at_ < n) (w : World) :
    Calls Tryd.prog 56 #[.int .i64 (at_ : Int), .int .i64 (n : Int)] w fun x w' => x = .returned (.int .i64 ((lenP n at_ : Nat) : Int)) ∧ w' = w := by
  have HI := hide IH
  by_cases e1 : n = 1
  · subst e1
    rw [lenP_one]
    clear IH h1 hn ha
    go_enter Tryd.func56, Tryd.ntmps56
    go_wp2_with fail
    go_ret
    exact ⟨rfl, rfl⟩
  · have h2 : 2 ≤ n := by omega
    obtain ⟨k, hk⟩ : ∃ k, k = halfN n := ⟨_, rfl⟩
    have hkn := halfN_lt h2
    have hk0 := halfN_pos n
    rw [← hk] at hkn hk0
    have hlt := lenP_lt n at_ h1
    have n1 : ¬ (n : Int) = 1 := by omega
    have HK : Hid (k = halfN n ∧ 0 < k ∧ k < n ∧ 2 ≤ n ∧ n ≤ 1099511627776) := ⟨hk, hk0, hkn, h2, hn⟩
    by_cases hak : at_ < k
    · have i1 : (at_ : Int) < (k : Int) := by omega
      obtain ⟨L, hL⟩ : ∃ L, L = lenP k at_ := ⟨_, rfl⟩
      have e : lenP n at_ = 1 + L := by rw [hL, hk]; exact lenP_left h2 (hk ▸ hak)
      rw [e] at hlt ⊢
      have wl : IntKind.i64.wrap (1 + (L : Int)) = ((1 + L : Nat) : Int) := (IntWalk.i64_in _ (by omega)).trans (by omega)
      have HL : Hid (L = lenP k at_ ∧ at_ < k) := ⟨hL, hak⟩
      clear IH h1 hn ha e1 h2 hk hkn hk0 hlt hak hL e
      go_enter Tryd.func56, Tryd.ntmps56
      go_wp2_with fail
      refine (rhalf_any n (unhide HK).2.2.2.1 (unhide HK).2.2.2.2 w).mono ?_; rintro x W2 ⟨rfl, rfl⟩
      rw [← (unhide HK).1]
      go_wp2_with fail
      refine ((unhide HI) k (unhide HK).2.2.1 at_ (unhide HK).2.1 (unhide HL).2 W2).mono ?_; rintro x W3 ⟨rfl, rfl⟩
      rw [← (unhide HL).1]
      go_wp2_with fail
      go_ret
      exact ⟨rfl, rfl⟩
    · have i1 : ¬ (at_ : Int) < (k : Int) := by omega
      obtain ⟨ak, hak2⟩ : ∃ a, a = at_ - k := ⟨_, rfl⟩
      obtain ⟨nk, hnk⟩ : ∃ a, a = n - k := ⟨_, rfl⟩
      obtain ⟨L, hL⟩ : ∃ L, L = lenP nk ak := ⟨_, rfl⟩
      have e : lenP n at_ = 1 + L := by rw [hL, hnk, hak2, hk]; exact lenP_right h2 (hk ▸ hak)
      rw [e] at hlt ⊢
      have wl : IntKind.i64.wrap (1 + (L : Int)) = ((1 + L : Nat) : Int) := (IntWalk.i64_in _ (by omega)).trans (by omega)
      have wa : IntKind.i64.wrap ((at_ : Int) - (k : Int)) = (ak : Int) := (IntWalk.i64_in _ (by omega)).trans (by omega)
      have wn : IntKind.i64.wrap ((n : Int) - (k : Int)) = (nk : Int) := (IntWalk.i64_in _ (by omega)).trans (by omega)
      have HL : Hid (L = lenP nk ak ∧ nk < n ∧ 1 ≤ nk ∧ ak < nk) := ⟨hL, by omega, by omega, by omega⟩
      clear IH h1 hn ha e1 h2 hk hkn hk0 hlt hak hL e hak2 hnk
      go_enter Tryd.func56, Tryd.ntmps56
      go_wp2_with fail
      refine (rhalf_any n (unhide HK).2.2.2.1 (unhide HK).2.2.2.2 w).mono ?_; rintro x W2 ⟨rfl, rfl⟩
      rw [← (unhide HK).1]
      go_wp2_with fail
      refine ((unhide HI) nk (unhide HL).2.1 ak (unhide HL).2.2.1 (unhide HL).2.2.2 W2).mono ?_; rintro x W3 ⟨rfl, rfl⟩
      rw [← (unhide HL).1]
      go_wp2_with fail
      go_ret
      exact ⟨rfl, rfl⟩
theorem rlen_all (n : Nat) : n ≤ 1099511627776 → ∀ at_ : Nat, 1 ≤ n → at_ < n → ∀ w, Calls Tryd.prog 56 #[.int .i64 (at_ : Int), .int .i64 (n : Int)] w fun x w' => x = .returned (.int .i64 ((lenP n at_ : Nat) : Int)) ∧ w' = w := by
  induction n using Nat.strongRecOn with
  | _ n IH =>
    intro hn at_ h1 ha w
    exact rlen_step n (fun n' h' at' h1' ha' w' => IH n' h' (by omega) at' h1' ha' w') at_ h1 hn ha w
theorem rlen_any (n at_ : Nat) (h1 : 1 ≤ n) (hn : n ≤ 1099511627776) (ha : at_ < n) (w : World) : Calls Tryd.prog 56 #[.int .i64 (at_ : Int), .int .i64 (n : Int)] w fun x w' => x = .returned (.int .i64 ((lenP n at_ : Nat) : Int)) ∧ w' = w :=
  rlen_all n hn at_ h1 ha w

abbrev PathIs (w : World) (l : List (List Int)) (n at_ c : Nat) (A : Option Addr) : Prop :=
  Calls Tryd.prog 53 #[.slice A n c, .int .i64 (at_ : Int)] w fun x w' => (∃ v, x = .returned v ∧ OwnD w' w.heap.size v (pathP l at_)) ∧ Below w.heap.size w w'
theorem OwnD.le {w : World} {base base' : Nat} {v : Value} {p : List (List Int)} (h : OwnD w base v p) (hb : base' ≤ base) : OwnD w base' v p := h.down hb
set_option maxRecDepth 100000 in
set_option maxHeartbeats 4000000 in
theorem rpath_step (n : Nat) (IH : ∀ (l : List (List Int)), l.length < n → ∀ (at_ : Nat) (w : World) (c : Nat) (A : Option Addr), at_ < l.length → Ds w A l → l.length ≤ c → PathIs w l l.length at_ c A)
    (l : List (List Int)) (hl : l.length = n) (h8 : n ≤ 100000000) (at_ : Nat) (w : World) (c : Nat) (A : Option Addr) (hat : at_ < n) (hA : Ds w A l) (hc : n ≤ c) : PathIs w l n at_ c A := by
  have HI := hide IH
  obtain ⟨sb', so, rfl, hrg⟩ := hA.at_ (fun e => by rw [e] at hl; simp at hl; omega)
  by_cases e1 : n = 1
  · subst e1
    unfold PathIs
    rw [pathP_one at_ (by omega)]
    clear IH hl h8 hat hA hc hrg
    go_enter Tryd.func53, Tryd.ntmps53
    go_wp2_with fail
    go_ret
    refine ⟨⟨_, rfl, ?_⟩, ?_⟩
    · exact World.ownsRow_lit w #[] 0 (Nat.le_refl _) (Nat.zero_le _) rfl
    · exact (Below.refl _ _).alloc (Nat.le_refl _) _
  · have h2 : 2 ≤ n := by omega
    obtain ⟨k, hk⟩ : ∃ k, k = halfN n := ⟨_, rfl⟩
    have hkn := halfN_lt h2
    have hk0 := halfN_pos n
    rw [← hk] at hkn hk0
    have hpl := (pathP_spec n l at_ hl hat).1
    have hll := lenP_lt n at_ (by omega)
    have n1 : ¬ (n : Int) = 1 := by omega
    have k0 : (0 : Int) ≤ (k : Int) := Int.natCast_nonneg _
    have k1 : (k : Int) ≤ (n : Int) := by omega
    have k2 : (k : Int) ≤ (c : Int) := by omega
    have k3 : ¬ (c = k) := by omega
    have k4 : (n : Int) ≤ (c : Int) := by omega
    have HA := hide hA
    have hlt : (l.take k).length = k := by simp; omega
    have hld : (l.drop k).length = n - k := by simp; omega
    have HLL : Hid ((l.take k).length = k ∧ (l.drop k).length = n - k) := ⟨hlt, hld⟩
    have HK : Hid (k = halfN n ∧ 0 < k ∧ k < n ∧ 2 ≤ n ∧ n ≤ 100000000 ∧ n ≤ c ∧ l.length = n ∧ at_ < n) := ⟨hk, hk0, hkn, h2, h8, hc, hl, hat⟩
    by_cases hak : at_ < k
    · have i1 : (at_ : Int) < (k : Int) := by omega
      have e := pathP_left (l := l) (at_ := at_) (by omega) (by rw [hl, ← hk]; exact hak)
      rw [hl, ← hk] at e
      obtain ⟨q, hq⟩ : ∃ q, q = pathP (l.take k) at_ := ⟨_, rfl⟩
      obtain ⟨T, hTd⟩ : ∃ d, d = treeP (l.drop k) := ⟨_, rfl⟩
      rw [← hq, ← hTd] at e
      have hql : q.length ≤ 100000000 := by rw [e, List.length_append] at hpl; omega
      unfold PathIs
      rw [e]
      have hgT : Dg T := hTd ▸ dg_tree _
      obtain ⟨ct, hct⟩ : ∃ cs, cs = (T.map (Value.int .u8)).toArray := ⟨_, rfl⟩
      have hst : ct.size = 32 := by rw [hct]; simpa using hgT.len
      have HF1 : Hid (∀ W, Below w.heap.size w W → Calls Tryd.prog 53 #[.slice (some ⟨sb', so, none⟩) k c, .int .i64 (at_ : Int)] W fun x w' => (∃ v, x = .returned v ∧ OwnD w' W.heap.size v q) ∧ Below W.heap.size W w') := fun W hB => by
        have := (unhide HI) (l.take k) (by have := unhide HLL; have := unhide HK; omega) at_ W c (some ⟨sb', so, none⟩) (by rw [(unhide HLL).1]; exact hak) (((unhide HA).keep hB).take k) (by have := unhide HLL; have := unhide HK; omega)
        unfold PathIs at this
        rw [(unhide HLL).1, ← hq] at this
        exact this
      have HF2 : Hid (∀ W, Below w.heap.size w W → Calls Tryd.prog 16 #[.slice (some ⟨sb', so + k * 32, none⟩) (n - k) (c - k)] W fun x w' => x = .returned (.agg ct) ∧ Below W.heap.size W w') := fun W hB => by
        have := rtree_any W (c - k) (some ⟨sb', so + k * 32, none⟩) (l.drop k) (((unhide HA).keep hB).drop k) (by have := unhide HLL; have := unhide HK; omega) (by have := unhide HLL; have := unhide HK; omega)
        rw [(unhide HLL).2, treeD_ne (fun e => by have h := (unhide HLL).2; rw [e] at h; simp at h; have := unhide HK; omega)] at this
        refine this.mono ?_
        rintro x w' ⟨rfl, h'⟩
        exact ⟨by rw [hct, hTd], h'⟩
      have HGT := hide hgT
      have HCT := hide hct
      have HQL := hide hql
      clear IH hl h8 hat hA hc hrg e1 h2 hk hkn hk0 hpl hll hlt hld hak e hq hTd hql hgT hct
      go_enter Tryd.func53, Tryd.ntmps53
      go_wp2_with fail
      refine (rhalf_any n (unhide HK).2.2.2.1 (by have := unhide HK; omega) w).mono ?_; rintro x W2 ⟨rfl, rfl⟩
      rw [← (unhide HK).1]
      obtain ⟨W, hW⟩ : ∃ W, W = W2.drewN 1 := ⟨_, rfl⟩
      have HW : Hid (W = W2.drewN 1) := hW
      have hSW := below_named HW
      clear hW
      go_wp2_with fail
      refine held (S := Below W2.heap.size W2) W HW (by kernel_rfl) ?_
      refine wpAnyH_take (i := 0) (v := ?_) rfl (by kernel_rfl) (by kernel_rfl) (by kernel_rfl) (fun _ _ _ h => h) (Or.inl ⟨by kernel_rfl, ?_⟩) (by assumption) ?_
      rotate_left
      · intro Wt hSt
        go_simp
        try with_reducible rfl
      try simp only [List.getElem_toArray, List.getElem_cons_zero, List.getElem_cons_succ, Act.put, List.setIfInBounds_toArray, List.set_cons_zero, List.set_cons_succ]
      refine wpAnyH_take (i := 1) (v := ?_) rfl (by kernel_rfl) (by kernel_rfl) (by kernel_rfl) (fun _ _ _ h => h) (Or.inl ⟨by kernel_rfl, ?_⟩) (by assumption) ?_
      rotate_left
      · intro Wt hSt
        go_simp
        try with_reducible rfl
      try simp only [List.getElem_toArray, List.getElem_cons_zero, List.getElem_cons_succ, Act.put, List.setIfInBounds_toArray, List.set_cons_zero, List.set_cons_succ]
      refine wpAnyH_take (i := 2) (v := ?_) rfl (by kernel_rfl) (by kernel_rfl) (by kernel_rfl) (fun _ _ _ h => h) (Or.inl ⟨by kernel_rfl, ?_⟩) (by assumption) ?_
      rotate_left
      · intro Wt hSt
        go_simp
        try with_reducible rfl
      try simp only [List.getElem_toArray, List.getElem_cons_zero, List.getElem_cons_succ, Act.put, List.setIfInBounds_toArray, List.set_cons_zero, List.set_cons_succ]
      refine wpAnyH_take (i := 3) (v := ?_) rfl (by kernel_rfl) (by kernel_rfl) (by kernel_rfl) (fun _ _ _ h => h) (Or.inl ⟨by kernel_rfl, ?_⟩) (by assumption) ?_
      rotate_left
      · intro Wt hSt
        go_simp
        try with_reducible rfl
      try simp only [List.getElem_toArray, List.getElem_cons_zero, List.getElem_cons_succ, Act.put, List.setIfInBounds_toArray, List.set_cons_zero, List.set_cons_succ]
      refine wpAnyH_take (i := 5) (v := ?_) rfl (by kernel_rfl) (by kernel_rfl) (by kernel_rfl) (fun _ _ _ h => h) (Or.inl ⟨by kernel_rfl, ?_⟩) (by assumption) ?_
      rotate_left
      · intro Wt hSt
        go_simp
        try with_reducible rfl
      try simp only [List.getElem_toArray, List.getElem_cons_zero, List.getElem_cons_succ, Act.put, List.setIfInBounds_toArray, List.set_cons_zero, List.set_cons_succ]
      refine wpAnyH_take (i := 6) (v := ?_) rfl (by kernel_rfl) (by kernel_rfl) (by kernel_rfl) (fun _ _ _ h => h) (Or.inl ⟨by kernel_rfl, ?_⟩) (by assumption) ?_
      rotate_left
      · intro Wt hSt
        go_simp
        try with_reducible rfl
      try simp only [List.getElem_toArray, List.getElem_cons_zero, List.getElem_cons_succ, Act.put, List.setIfInBounds_toArray, List.set_cons_zero, List.set_cons_succ]
      refine wpAnyH_take (i := 7) (v := ?_) rfl (by kernel_rfl) (by kernel_rfl) (by kernel_rfl) (fun _ _ _ h => h) (Or.inl ⟨by kernel_rfl, ?_⟩) (by assumption) ?_
      rotate_left
      · intro Wt hSt
        go_simp
        try with_reducible rfl
      try simp only [List.getElem_toArray, List.getElem_cons_zero, List.getElem_cons_succ, Act.put, List.setIfInBounds_toArray, List.set_cons_zero, List.set_cons_succ]
      refine wpAnyH_chainOf [4, 8, 9, 10, 11] _ _ _ (by kernel_rfl) (by kernel_rfl) ?_
      simp only [List.filterMap_cons, List.filterMap_nil, List.getElem?_toArray, List.getElem?_cons_zero, List.getElem?_cons_succ]
      refine wpChain_step rfl fun K hK => ?_
      go_simp
      refine ((unhide HF1) _ hSW).mono ?_; rintro x wA ⟨⟨v1, rfl, hO1⟩, hA1⟩
      have hSA := thenB hSW hA1
      dsimp only
      refine hK _ _ hSA ?_
      clear hK K
      refine wpChain_step rfl fun K hK => ?_
      go_simp
      refine ((unhide HF2) _ hSA).mono ?_; rintro x wB ⟨rfl, hA2⟩
      have hSB := thenB hSA hA2
      have hO2 := hO1.later hA2
      dsimp only
      refine hK _ _ hSB ?_
      clear hK K
      refine wpChain_step rfl fun K hK => ?_
      go_simp
      rw [overwritten hst (by rfl)]
      generalize hY : wB.alloc _ = Y1
      have hBY : Below wB.heap.size wB Y1 := hY ▸ (Below.refl _ _).alloc (Nat.le_refl _) _
      have hoY : ByAt Y1 wB.heap.size 24 T := boxed wB Y1 T _ (by rw [← hY, unhide HCT]; rfl)
      have hSC := thenB hSB hBY
      have hO3 := hO2.later hBY
      refine hK _ _ hSC ?_
      clear hK K hY
      obtain ⟨v3, V3, hr3, hown3, hg3⟩ := run_append_D hO3 26 wB.heap.size 1 T (unhide HGT) hoY (by have := unhide HQL; omega) (Nat.le_trans hA1.size (Nat.le_trans hA2.size hBY.size))
      have hS3 := grown_below hSC hg3 (fun k hk => Nat.le_trans hSW.size (hO3.lt k hk).1)
      refine wpChain_step rfl fun K hK => ?_
      refine wp_append (.tmp 20) (.tmp 25) 26 rfl _ _ v3 V3 rfl rfl hr3 ?_
      refine hK _ _ hS3 ?_
      clear hK K
      refine wpChain_step rfl fun K hK => ?_
      go_simp
      refine hK _ _ hS3 (wpChain_nil ?_)
      clear hK K
      go_wp2_with fail
      go_ret
      exact ⟨⟨_, rfl, hown3.le hSW.size⟩, hS3⟩
    · have i1 : ¬ (at_ : Int) < (k : Int) := by omega
      have e := pathP_right (l := l) (at_ := at_) (by omega) (by rw [hl, ← hk]; exact hak)
      rw [hl, ← hk] at e
      obtain ⟨ak, hak2⟩ : ∃ a, a = at_ - k := ⟨_, rfl⟩
      have wa : IntKind.i64.wrap ((at_ : Int) - (k : Int)) = (ak : Int) := (IntWalk.i64_in _ (by omega)).trans (by omega)
      obtain ⟨q, hq⟩ : ∃ q, q = pathP (l.drop k) ak := ⟨_, rfl⟩
      obtain ⟨T, hTd⟩ : ∃ d, d = treeP (l.take k) := ⟨_, rfl⟩
      rw [← hak2, ← hq, ← hTd] at e
      have hql : q.length ≤ 100000000 := by rw [e, List.length_append] at hpl; omega
      unfold PathIs
      rw [e]
      have hgT : Dg T := hTd ▸ dg_tree _
      obtain ⟨ct, hct⟩ : ∃ cs, cs = (T.map (Value.int .u8)).toArray := ⟨_, rfl⟩
      have hst : ct.size = 32 := by rw [hct]; simpa using hgT.len
      have HF1 : Hid (∀ W, Below w.heap.size w W → Calls Tryd.prog 53 #[.slice (some ⟨sb', so + k * 32, none⟩) (n - k) (c - k), .int .i64 (ak : Int)] W fun x w' => (∃ v, x = .returned v ∧ OwnD w' W.heap.size v q) ∧ Below W.heap.size W w') := fun W hB => by
        have := (unhide HI) (l.drop k) (by have := unhide HLL; have := unhide HK; omega) ak W (c - k) (some ⟨sb', so + k * 32, none⟩) (by rw [(unhide HLL).2]; have := unhide HK; omega) (((unhide HA).keep hB).drop k) (by have := unhide HLL; have := unhide HK; omega)
        unfold PathIs at this
        rw [(unhide HLL).2, ← hq] at this
        exact this
      have HF2 : Hid (∀ W, Below w.heap.size w W → Calls Tryd.prog 16 #[.slice (some ⟨sb', so, none⟩) k c] W fun x w' => x = .returned (.agg ct) ∧ Below W.heap.size W w') := fun W hB => by
        have := rtree_any W c (some ⟨sb', so, none⟩) (l.take k) (((unhide HA).keep hB).take k) (by have := unhide HLL; have := unhide HK; omega) (by have := unhide HLL; have := unhide HK; omega)
        rw [(unhide HLL).1, treeD_ne (fun e => by have h := (unhide HLL).1; rw [e] at h; simp at h; have := unhide HK; omega)] at this
        refine this.mono ?_
        rintro x w' ⟨rfl, h'⟩
        exact ⟨by rw [hct, hTd], h'⟩
      have HGT := hide hgT
      have HCT := hide hct
      have HQL := hide hql
      clear IH hl h8 hat hA hc hrg e1 h2 hk hkn hk0 hpl hll hlt hld hak e hq hTd hql hgT hct hak2
      go_enter Tryd.func53, Tryd.ntmps53
      go_wp2_with fail
      refine (rhalf_any n (unhide HK).2.2.2.1 (by have := unhide HK; omega) w).mono ?_; rintro x W2 ⟨rfl, rfl⟩
      rw [← (unhide HK).1]
      obtain ⟨W, hW⟩ : ∃ W, W = W2.drewN 1 := ⟨_, rfl⟩
      have HW : Hid (W = W2.drewN 1) := hW
      have hSW := below_named HW
      clear hW
      go_wp2_with fail
      refine held (S := Below W2.heap.size W2) W HW (by kernel_rfl) ?_
      refine wpAnyH_take (i := 0) (v := ?_) rfl (by kernel_rfl) (by kernel_rfl) (by kernel_rfl) (fun _ _ _ h => h) (Or.inl ⟨by kernel_rfl, ?_⟩) (by assumption) ?_
      rotate_left
      · intro Wt hSt
        go_simp
        try with_reducible rfl
      try simp only [List.getElem_toArray, List.getElem_cons_zero, List.getElem_cons_succ, Act.put, List.setIfInBounds_toArray, List.set_cons_zero, List.set_cons_succ]
      refine wpAnyH_take (i := 1) (v := ?_) rfl (by kernel_rfl) (by kernel_rfl) (by kernel_rfl) (fun _ _ _ h => h) (Or.inl ⟨by kernel_rfl, ?_⟩) (by assumption) ?_
      rotate_left
      · intro Wt hSt
        go_simp
        try with_reducible rfl
      try simp only [List.getElem_toArray, List.getElem_cons_zero, List.getElem_cons_succ, Act.put, List.setIfInBounds_toArray, List.set_cons_zero, List.set_cons_succ]
      refine wpAnyH_take (i := 2) (v := ?_) rfl (by kernel_rfl) (by kernel_rfl) (by kernel_rfl) (fun _ _ _ h => h) (Or.inl ⟨by kernel_rfl, ?_⟩) (by assumption) ?_
      rotate_left
      · intro Wt hSt
        go_simp
        try with_reducible rfl
      try simp only [List.getElem_toArray, List.getElem_cons_zero, List.getElem_cons_succ, Act.put, List.setIfInBounds_toArray, List.set_cons_zero, List.set_cons_succ]
      refine wpAnyH_take (i := 3) (v := ?_) rfl (by kernel_rfl) (by kernel_rfl) (by kernel_rfl) (fun _ _ _ h => h) (Or.inl ⟨by kernel_rfl, ?_⟩) (by assumption) ?_
      rotate_left
      · intro Wt hSt
        go_simp
        try with_reducible rfl
      try simp only [List.getElem_toArray, List.getElem_cons_zero, List.getElem_cons_succ, Act.put, List.setIfInBounds_toArray, List.set_cons_zero, List.set_cons_succ]
      refine wpAnyH_take (i := 4) (v := ?_) rfl (by kernel_rfl) (by kernel_rfl) (by kernel_rfl) (fun _ _ _ h => h) (Or.inl ⟨by kernel_rfl, ?_⟩) (by assumption) ?_
      rotate_left
      · intro Wt hSt
        go_simp
        try with_reducible rfl
      try simp only [List.getElem_toArray, List.getElem_cons_zero, List.getElem_cons_succ, Act.put, List.setIfInBounds_toArray, List.set_cons_zero, List.set_cons_succ]
      refine wpAnyH_take (i := 5) (v := ?_) rfl (by kernel_rfl) (by kernel_rfl) (by kernel_rfl) (fun _ _ _ h => h) (Or.inl ⟨by kernel_rfl, ?_⟩) (by assumption) ?_
      rotate_left
      · intro Wt hSt
        go_simp
        try with_reducible rfl
      try simp only [List.getElem_toArray, List.getElem_cons_zero, List.getElem_cons_succ, Act.put, List.setIfInBounds_toArray, List.set_cons_zero, List.set_cons_succ]
      refine wpAnyH_take (i := 7) (v := ?_) rfl (by kernel_rfl) (by kernel_rfl) (by kernel_rfl) (fun _ _ _ h => h) (Or.inl ⟨by kernel_rfl, ?_⟩) (by assumption) ?_
      rotate_left
      · intro Wt hSt
        go_simp
        try with_reducible rfl
      try simp only [List.getElem_toArray, List.getElem_cons_zero, List.getElem_cons_succ, Act.put, List.setIfInBounds_toArray, List.set_cons_zero, List.set_cons_succ]
      refine wpAnyH_take (i := 8) (v := ?_) rfl (by kernel_rfl) (by kernel_rfl) (by kernel_rfl) (fun _ _ _ h => h) (Or.inl ⟨by kernel_rfl, ?_⟩) (by assumption) ?_
      rotate_left
      · intro Wt hSt
        go_simp
        try with_reducible rfl
      try simp only [List.getElem_toArray, List.getElem_cons_zero, List.getElem_cons_succ, Act.put, List.setIfInBounds_toArray, List.set_cons_zero, List.set_cons_succ]
      refine wpAnyH_take (i := 9) (v := ?_) rfl (by kernel_rfl) (by kernel_rfl) (by kernel_rfl) (fun _ _ _ h => h) (Or.inl ⟨by kernel_rfl, ?_⟩) (by assumption) ?_
      rotate_left
      · intro Wt hSt
        go_simp
        try with_reducible rfl
      try simp only [List.getElem_toArray, List.getElem_cons_zero, List.getElem_cons_succ, Act.put, List.setIfInBounds_toArray, List.set_cons_zero, List.set_cons_succ]
      refine wpAnyH_chainOf [6, 10, 11, 12, 13] _ _ _ (by kernel_rfl) (by kernel_rfl) ?_
      simp only [List.filterMap_cons, List.filterMap_nil, List.getElem?_toArray, List.getElem?_cons_zero, List.getElem?_cons_succ]
      refine wpChain_step rfl fun K hK => ?_
      go_simp
      refine ((unhide HF1) _ hSW).mono ?_; rintro x wA ⟨⟨v1, rfl, hO1⟩, hA1⟩
      have hSA := thenB hSW hA1
      dsimp only
      refine hK _ _ hSA ?_
      clear hK K
      refine wpChain_step rfl fun K hK => ?_
      go_simp
      refine ((unhide HF2) _ hSA).mono ?_; rintro x wB ⟨rfl, hA2⟩
      have hSB := thenB hSA hA2
      have hO2 := hO1.later hA2
      dsimp only
      refine hK _ _ hSB ?_
      clear hK K
      refine wpChain_step rfl fun K hK => ?_
      go_simp
      rw [overwritten hst (by rfl)]
      generalize hY : wB.alloc _ = Y1
      have hBY : Below wB.heap.size wB Y1 := hY ▸ (Below.refl _ _).alloc (Nat.le_refl _) _
      have hoY : ByAt Y1 wB.heap.size 24 T := boxed wB Y1 T _ (by rw [← hY, unhide HCT]; rfl)
      have hSC := thenB hSB hBY
      have hO3 := hO2.later hBY
      refine hK _ _ hSC ?_
      clear hK K hY
      obtain ⟨v3, V3, hr3, hown3, hg3⟩ := run_append_D hO3 26 wB.heap.size 1 T (unhide HGT) hoY (by have := unhide HQL; omega) (Nat.le_trans hA1.size (Nat.le_trans hA2.size hBY.size))
      have hS3 := grown_below hSC hg3 (fun k hk => Nat.le_trans hSW.size (hO3.lt k hk).1)
      refine wpChain_step rfl fun K hK => ?_
      refine wp_append (.tmp 33) (.tmp 38) 26 rfl _ _ v3 V3 rfl rfl hr3 ?_
      refine hK _ _ hS3 ?_
      clear hK K
      refine wpChain_step rfl fun K hK => ?_
      go_simp
      refine hK _ _ hS3 (wpChain_nil ?_)
      clear hK K
      go_wp2_with fail
      go_ret
      exact ⟨⟨_, rfl, hown3.le hSW.size⟩, hS3⟩
theorem rpath_all (n : Nat) : n ≤ 100000000 → ∀ (l : List (List Int)), l.length = n → ∀ (at_ : Nat) (w : World) (c : Nat) (A : Option Addr), at_ < n → Ds w A l → n ≤ c → PathIs w l n at_ c A := by
  induction n using Nat.strongRecOn with
  | _ n IH =>
    intro h8 l hl at_ w c A hat hA hc
    exact rpath_step n (fun l' hl' at' w' c' A' hat' hA' hc' => IH l'.length hl' (by omega) l' rfl at' w' c' A' hat' hA' hc') l hl h8 at_ w c A hat hA hc
theorem rpath_any (l : List (List Int)) (h8 : l.length ≤ 100000000) (at_ : Nat) (w : World) (c : Nat) (A : Option Addr) (hat : at_ < l.length) (hA : Ds w A l) (hc : l.length ≤ c) : PathIs w l l.length at_ c A :=
  rpath_all l.length h8 l rfl at_ w c A hat hA hc
set_option maxRecDepth 100000 in
set_option maxHeartbeats 1000000 in
theorem rPath_ok (l : List (List Int)) (h8 : l.length ≤ 100000000) (at_ : Nat) (w : World) (c : Nat) (A : Option Addr) (hat : at_ < l.length) (hA : Ds w A l) (hc : l.length ≤ c) :
    Calls Tryd.prog 18 #[.slice A l.length c, .int .i64 (at_ : Int)] w fun x w' => (∃ v, x = .returned (.tuple #[v, .int .i64 0]) ∧ OwnD w' w.heap.size v (pathP l at_)) ∧ Below w.heap.size w w' := by
  have HF := hide (rpath_any l h8 at_ w c A hat hA hc)
  obtain ⟨n, hn⟩ : ∃ n, n = l.length := ⟨_, rfl⟩
  have i1 : ¬ (at_ : Int) < 0 := by omega
  have i2 : ¬ (n : Int) ≤ (at_ : Int) := by omega
  unfold PathIs at HF
  rw [← hn] at HF ⊢
  clear h8 hat hA hc hn
  go_enter Tryd.func18, Tryd.ntmps18
  go_wp2_with fail
  refine (unhide HF).mono ?_; rintro x W2 ⟨⟨v, rfl, ho⟩, hb⟩
  have HO := hide ho
  have HB := hide hb
  clear ho hb HF
  go_wp2_with fail
  go_ret2
  exact ⟨⟨_, rfl, unhide HO⟩, unhide HB⟩
set_option maxRecDepth 100000 in
set_option maxHeartbeats 1000000 in
theorem rPath_bad (n : Nat) (at_ : Int) (w : World) (c : Nat) (A : Option Addr) (h : at_ < 0 ∨ (n : Int) ≤ at_) :
    Calls Tryd.prog 18 #[.slice A n c, .int .i64 at_] w fun x w' => x = .returned (.tuple #[.slice none 0 0, .int .i64 1]) ∧ w' = w := by
  by_cases i1 : at_ < 0
  · clear h
    go_enter Tryd.func18, Tryd.ntmps18
    go_wp2_with fail
    go_ret2
    exact ⟨rfl, rfl⟩
  · have i2 : (n : Int) ≤ at_ := by omega
    clear h
    go_enter Tryd.func18, Tryd.ntmps18
    go_wp2_with fail
    go_ret2
    exact ⟨rfl, rfl⟩
end Go.Proofs.YtceppmajbkmbdaaDoor
namespace Go.Proofs.YtceppmajbkmbdaaDoor
set_option linter.unusedSimpArgs false
set_option linter.unusedVariables false
open Go.RowKit

/-- two digests are compared in a region that draws its order -/
theorem yieldsIf_neq {ops : Array Oper} {S : World → Prop} {o : Oper} {a : Act} (hw : Region.wanted o (yielded ops a.tmps) = true) (x y : Operand) (t : TypeId) (ho : o.op = .binOp .neq 24 x y t) (l k : List Int) (hx : a.eval x = dv l) (hy : a.eval y = dv k) (hl : l.length = 32) (hk : k.length = 32) (b : Bool) (hb : b = !decide (l = k)) :
    YieldsIf Tryd.prog ops S o (.bool b) a := by
  subst hb
  refine .inl ⟨hw, fun w _ => ?_⟩
  unfold execOp
  simp only [ho, hx, hy, Sem.run_bind, run_eqGuard_agg w _ _ _ _ _ _ guard_dg, run_neq_struct, eq_dg l k hl hk w, Result.andThen_ok, Sem.run_pure]
theorem neq_same (l : List Int) : false = !decide (l = l) := by simp
/-- an operation that isn't wanted, once only it may come -/
theorem wpAnyH_skip {P : Program} {md : Region.Mode} {ops : Array Oper} {Q : Exit → Act → World → Prop} {S : World → Prop} {n : Nat} {listed : Array Bool} {a : Act} {w : World} (i : Nat) (o : Oper) (ho : ops[i]? = some o) (hr : Region.ready md ops listed = [i]) (hgd : Region.wanted o (yielded ops a.tmps) = false) (hS : S w)
    (h : wpAnyH P md ops Q S n (listed.setIfInBounds i true) (a.put o.dst undef) w) : wpAnyH P md ops Q S (n + 1) listed a w := by
  refine wpAnyH_all hr (by simp) fun j hj => ?_
  obtain rfl : j = i := by simpa using hj
  unfold wpOp
  simp only [ho]
  rw [if_neg (by rw [hgd]; simp)]
  exact ⟨hS, h⟩
set_option maxRecDepth 100000 in
set_option maxHeartbeats 4000000 in
theorem sameDs_any (w : World) (n : Nat) (l : List (List Int)) (hl : n = l.length) (hn : n ≤ 1000) (A1 : Option Addr) (c1 : Nat) (hc1 : n ≤ c1) (h1 : Ds w A1 l) (A2 : Option Addr) (c2 : Nat) (hc2 : n ≤ c2) (h2 : Ds w A2 l) :
    Calls Tryd.prog 43 #[.slice A1 n c1, .slice A2 n c2] w fun x w' => x = .returned (.bool true) ∧ Below w.heap.size w w' := by
  have H1 := hide h1; have H2 := hide h2
  have HN : Hid (n = l.length ∧ n ≤ 1000) := ⟨hl, hn⟩
  have k1 : (n : Int) ≤ (c1 : Int) := by omega
  have k2 : (n : Int) ≤ (c2 : Int) := by omega
  clear h1 h2 hl hn hc1 hc2
  go_enter Tryd.func43, Tryd.ntmps43
  go_wp2_with fail
  go_loopg [5] n (fun g y5 wx => ∃ j : Nat, g + j = n ∧ y5 = .int .i64 (j : Int) ∧ Below w.heap.size w wx)
  case atStart => exact ⟨0, rfl, rfl, Below.refl _ _⟩
  case round =>
    obtain ⟨j, hj, rfl, hb⟩ := hrel
    cases gk with
    | zero =>
      obtain rfl : j = n := by omega
      have HB := hide hb
      clear hb hj
      go_wp2_with fail
      go_ret
      exact ⟨rfl, unhide HB⟩
    | succ g =>
      obtain ⟨d, hd⟩ : ∃ x, l[j]? = some x := ⟨_, List.getElem?_eq_getElem (by have := (unhide HN).1; omega)⟩
      have hne : l ≠ [] := fun e => by rw [e] at hd; simp at hd
      obtain ⟨b1, o1, rfl, hr1⟩ := (unhide H1).at_ hne
      obtain ⟨b2, o2, rfl, hr2⟩ := (unhide H2).at_ hne
      have hg : Dg d := (unhide H1).dg d (List.mem_of_getElem? hd)
      have HG := hide hg
      have HR1 := hide (hr1 j d hd); have HR2 := hide (hr2 j d hd)
      have j1 : (j : Int) < (n : Int) := by omega
      have j0 : (0 : Int) ≤ (j : Int) := Int.natCast_nonneg _
      have jM : (j : Int) ≤ 1000 := by have := unhide HN; omega
      have HB := hide hb; have HJ := hide hj
      obtain ⟨cd, hcd⟩ : ∃ cs, cs = (d.map (Value.int .u8)).toArray := ⟨_, rfl⟩
      have HCD := hide hcd
      clear hd hne hr1 hr2 hg hb hj hcd
      go_wp2_with fail
      obtain ⟨W, hW⟩ : ∃ W, W = wr.drewN 1 := ⟨_, rfl⟩
      have HW : Hid (W = wr.drewN 1) := hW
      have hS : Below w.heap.size w W := thenB (unhide HB) (below_named HW)
      clear hW
      refine held (S := Below w.heap.size w) W HW (by kernel_rfl) ?_
      refine wpAnyH_take (i := 0) (v := ?_) rfl (by kernel_rfl) (by kernel_rfl) (by kernel_rfl) (fun _ _ _ h => h) (Or.inl ⟨by kernel_rfl, ?_⟩) (by assumption) ?_
      rotate_left
      · intro Wt hSt
        go_simp
        try with_reducible rfl
      try simp only [List.getElem_toArray, List.getElem_cons_zero, List.getElem_cons_succ, Act.put, List.setIfInBounds_toArray, List.set_cons_zero, List.set_cons_succ]
      refine wpAnyH_take (i := 1) (v := ?_) rfl (by kernel_rfl) (by kernel_rfl) (by kernel_rfl) (fun _ _ _ h => h) (Or.inl ⟨by kernel_rfl, ?_⟩) (by assumption) ?_
      rotate_left
      · intro Wt hSt
        go_simp
        try with_reducible rfl
      try simp only [List.getElem_toArray, List.getElem_cons_zero, List.getElem_cons_succ, Act.put, List.setIfInBounds_toArray, List.set_cons_zero, List.set_cons_succ]
      refine wpAnyH_take (i := 2) (v := ?_) rfl (by kernel_rfl) (by kernel_rfl) (by kernel_rfl) (fun _ _ _ h => h) (Or.inl ⟨by kernel_rfl, ?_⟩) (by assumption) ?_
      rotate_left
      · intro Wt hSt
        go_simp
        try with_reducible rfl
      try simp only [List.getElem_toArray, List.getElem_cons_zero, List.getElem_cons_succ, Act.put, List.setIfInBounds_toArray, List.set_cons_zero, List.set_cons_succ]
      refine wpAnyH_take (i := 3) (v := .agg cd) rfl (by kernel_rfl) (by kernel_rfl) (by kernel_rfl) (fun _ _ _ h => h) (by rw [unhide HCD]; exact yieldsIf_load_mid (by kernel_rfl) 24 (.tmp 19) rfl b1 (o1 + j * 32) rfl (d.map (Value.int .u8)) _ (fun W hS => rangeAt_keep (unhide HR1) hS) Tryd.underlying24 rfl (by rw [List.length_map, (unhide HG).len]; exact info32)) (by assumption) ?_
      try simp only [List.getElem_toArray, List.getElem_cons_zero, List.getElem_cons_succ, Act.put, List.setIfInBounds_toArray, List.set_cons_zero, List.set_cons_succ]
      refine wpAnyH_take (i := 4) (v := ?_) rfl (by kernel_rfl) (by kernel_rfl) (by kernel_rfl) (fun _ _ _ h => h) (Or.inl ⟨by kernel_rfl, ?_⟩) (by assumption) ?_
      rotate_left
      · intro Wt hSt
        go_simp
        try with_reducible rfl
      try simp only [List.getElem_toArray, List.getElem_cons_zero, List.getElem_cons_succ, Act.put, List.setIfInBounds_toArray, List.set_cons_zero, List.set_cons_succ]
      refine wpAnyH_take (i := 5) (v := ?_) rfl (by kernel_rfl) (by kernel_rfl) (by kernel_rfl) (fun _ _ _ h => h) (Or.inl ⟨by kernel_rfl, ?_⟩) (by assumption) ?_
      rotate_left
      · intro Wt hSt
        go_simp
        try with_reducible rfl
      try simp only [List.getElem_toArray, List.getElem_cons_zero, List.getElem_cons_succ, Act.put, List.setIfInBounds_toArray, List.set_cons_zero, List.set_cons_succ]
      refine wpAnyH_take (i := 6) (v := ?_) rfl (by kernel_rfl) (by kernel_rfl) (by kernel_rfl) (fun _ _ _ h => h) (Or.inl ⟨by kernel_rfl, ?_⟩) (by assumption) ?_
      rotate_left
      · intro Wt hSt
        go_simp
        try with_reducible rfl
      try simp only [List.getElem_toArray, List.getElem_cons_zero, List.getElem_cons_succ, Act.put, List.setIfInBounds_toArray, List.set_cons_zero, List.set_cons_succ]
      refine wpAnyH_take (i := 7) (v := .agg cd) rfl (by kernel_rfl) (by kernel_rfl) (by kernel_rfl) (fun _ _ _ h => h) (by rw [unhide HCD]; exact yieldsIf_load_mid (by kernel_rfl) 24 (.tmp 23) rfl b2 (o2 + j * 32) rfl (d.map (Value.int .u8)) _ (fun W hS => rangeAt_keep (unhide HR2) hS) Tryd.underlying24 rfl (by rw [List.length_map, (unhide HG).len]; exact info32)) (by assumption) ?_
      try simp only [List.getElem_toArray, List.getElem_cons_zero, List.getElem_cons_succ, Act.put, List.setIfInBounds_toArray, List.set_cons_zero, List.set_cons_succ]
      refine wpAnyH_take (i := 8) (v := .bool false) rfl (by kernel_rfl) (by kernel_rfl) (by kernel_rfl) (fun _ _ _ h => h) (by refine yieldsIf_neq ?_ (.tmp 20) (.tmp 24) 24 ?_ d d ?_ ?_ (unhide HG).len (unhide HG).len false (neq_same d); (· kernel_rfl); (· rfl); (· show Value.agg cd = _; rw [unhide HCD]); (· show Value.agg cd = _; rw [unhide HCD])) (by assumption) ?_
      try simp only [List.getElem_toArray, List.getElem_cons_zero, List.getElem_cons_succ, Act.put, List.setIfInBounds_toArray, List.set_cons_zero, List.set_cons_succ]
      refine wpAnyH_chainOf [] _ _ _ (by kernel_rfl) (by kernel_rfl) ?_
      refine wpChain_nil ?_
      have HS := hide hS
      clear hS
      go_wp2_with fail
      go_roundg g
      case measure => omega
      case rel => exact ⟨j + 1, by have := unhide HJ; omega, by push_cast; rfl, unhide HS⟩
end Go.Proofs.YtceppmajbkmbdaaDoor
namespace Go.Proofs.YtceppmajbkmbdaaDoor
set_option linter.unusedSimpArgs false
set_option linter.unusedVariables false
open Go.RowKit

set_option maxRecDepth 100000 in
set_option maxHeartbeats 4000000 in
theorem rvalid_any (w : World) (A : Option Addr) (n c : Nat) (m u : Int) :
    Calls Tryd.prog 34 #[.agg #[.slice A n c, .int .i64 m, .int .i64 u]] w fun x w' => x = .returned (.bool (keyOk n m u)) ∧ Below w.heap.size w w' := by
  have hb1 := fun o => Below.alloc (Below.refl w.heap.size w) (Nat.le_refl _) o
  have HB := hide hb1
  clear hb1
  by_cases h0 : 1 ≤ (n : Int)
  case neg =>
    have e : keyOk n m u = false := by unfold keyOk; simp; omega
    rw [e]; clear e
    go_enter Tryd.func34, Tryd.ntmps34
    go_wp2_with fail
    go_ret
    exact ⟨rfl, unhide HB _⟩
  by_cases h1 : (n : Int) ≤ 64
  case neg =>
    have e : keyOk n m u = false := by unfold keyOk; simp; omega
    rw [e]; clear e
    go_enter Tryd.func34, Tryd.ntmps34
    go_wp2_with fail
    go_ret
    exact ⟨rfl, unhide HB _⟩
  by_cases h2 : 1 ≤ m
  case neg =>
    have e : keyOk n m u = false := by unfold keyOk; simp; omega
    rw [e]; clear e
    go_enter Tryd.func34, Tryd.ntmps34
    go_wp2_with fail
    go_ret
    exact ⟨rfl, unhide HB _⟩
  by_cases h3 : m ≤ 4096
  case neg =>
    have e : keyOk n m u = false := by unfold keyOk; simp; omega
    rw [e]; clear e
    go_enter Tryd.func34, Tryd.ntmps34
    go_wp2_with fail
    go_ret
    exact ⟨rfl, unhide HB _⟩
  by_cases h4 : 0 ≤ u
  case neg =>
    have e : keyOk n m u = false := by unfold keyOk; simp; omega
    rw [e]; clear e
    go_enter Tryd.func34, Tryd.ntmps34
    go_wp2_with fail
    go_ret
    exact ⟨rfl, unhide HB _⟩
  by_cases h5 : u ≤ m
  case neg =>
    have e : keyOk n m u = false := by unfold keyOk; simp; omega
    rw [e]; clear e
    go_enter Tryd.func34, Tryd.ntmps34
    go_wp2_with fail
    go_ret
    exact ⟨rfl, unhide HB _⟩
  have e : keyOk n m u = true := by unfold keyOk; simp; omega
  rw [e]; clear e
  go_enter Tryd.func34, Tryd.ntmps34
  go_wp2_with fail
  go_ret
  exact ⟨rfl, unhide HB _⟩

set_option maxRecDepth 100000 in
set_option maxHeartbeats 4000000 in
theorem rhash_any (w : World) (d : List Int) (hd : Dg d) :
    Calls Tryd.prog 78 #[dv d] w fun x w' => x = .returned (dv (opnS d)) ∧ Below w.heap.size w w' := by
  have HD := hide hd
  have hld := hd.len
  obtain ⟨cd, hcd⟩ : ∃ cs, cs = (d.map (Value.int .u8)).toArray := ⟨_, rfl⟩
  have hsd : cd.size = 32 := by rw [hcd]; simpa using hld
  rw [show dv d = .agg cd by rw [hcd]]
  clear hd hld
  go_enter Tryd.func78, Tryd.ntmps78
  go_upto_region 1 with fail
  generalize hX1 : w.alloc _ = W1
  have hB1 : Below w.heap.size w W1 := hX1 ▸ (Below.refl _ _).alloc (Nat.le_refl _) _
  have ho1 : ByAt W1 w.heap.size 24 d := boxed w W1 d _ (by rw [← hX1]; first | rfl | (rw [hcd]; rfl))
  have hz1 : W1.heap.size = w.heap.size + 1 := by rw [← hX1]; show (w.heap.push _).size = _; rw [Array.size_push]
  generalize hX2 : W1.alloc _ = W2
  have hB2 : Below W1.heap.size W1 W2 := hX2 ▸ (Below.refl _ _).alloc (Nat.le_refl _) _
  have ho2 : ByAt W2 W1.heap.size 24 zeros := newBy W1 W2 (by rw [← hX2]; rfl)
  rw [hz1] at ho2
  have HB := hide (thenB hB1 hB2)
  have HK1 := hide (ho1.keep hB2)
  have HK2 := hide ho2
  clear hX1 hB1 ho1 hz1 hX2 hB2 ho2 hcd
  have hsm := rtag_any W2 ⟨#[111, 112, 101, 110]⟩ (some ⟨w.heap.size, 0, none⟩) 32 d ((unhide HK1).bt (unhide HD)) (Nat.le_of_eq (unhide HD).len) (fun h => by cases h) (by rw [(unhide HD).len]; omega) (by decide)
  rw [show sb ⟨#[111, 112, 101, 110]⟩ = OPNB by decide, show tagF OPNB d = opnS d from rfl, (unhide HD).len] at hsm
  have HSM := hide hsm
  clear hsm
  go_wp2_with fail
  refine (unhide HSM).mono ?_; rintro x W3 ⟨rfl, hB3⟩
  have HB3 := hide (thenB (unhide HB) hB3)
  have HO3 := hide ((unhide HK2).keep hB3)
  clear hB3 HSM
  dsimp only
  rename_i KK hK
  refine hK _ _ ?_
  clear hK KK
  refine wpList_bstore rfl 24 (.tmp 2) (.tmp 4) rfl (w.heap.size + 1) rfl (opnS d) rfl 32 info32 (dg_opnS _).len _ zeros (unhide HO3) rfl ?_
  intro W9 HW9 HG
  go_wp2_with fail
  try simp only [Exit.inBlock, Exit.then]
  exact bret rfl rfl (w.heap.size + 1) rfl _ _ (unhide HW9) (dg_opnS _).len ⟨rfl, (unhide HB3).grown (unhide HG) (unhide HB3).size (fun i e => by injection e with e; omega)⟩

set_option maxRecDepth 100000 in
set_option maxHeartbeats 4000000 in
theorem rtwo_any (i : Nat) (h : i < 65536) (w : World) :
    Calls Tryd.prog 69 #[.int .i64 (i : Int)] w fun x w' => (∃ A c, x = .returned (.slice A 2 c) ∧ 2 ≤ c ∧ Bt w' A (twoB i) ∧ (A = none → c = 0)) ∧ Below w.heap.size w w' := by
  have e1 := two_hi i h
  have e2 := two_lo i
  have H : Hid (i < 65536) := h
  clear h
  go_enter Tryd.func69, Tryd.ntmps69
  go_wp2_with fail
  go_ret
  exact ⟨⟨_, _, rfl, Nat.le_refl _, lit2 w _ _ _ _ _ rfl ⟨by omega, by omega⟩ ⟨by omega, by omega⟩, by simp⟩, (Below.refl _ _).alloc (Nat.le_refl _) _⟩

set_option maxRecDepth 100000 in
set_option maxHeartbeats 4000000 in
theorem rsecret_any (w : World) (A : Option Addr) (n c : Nat) (seed : List Int) (hn : n = seed.length) (h64 : n ≤ 1000) (hc : n ≤ c) (hA : Bt w A seed) (hA0 : A = none → c = 0) (m u : Int) (i : Nat) (hi : i < 65536) (j b : Nat) (hj : j < 256) (hb : b < 256) :
    Calls Tryd.prog 77 #[.agg #[.slice A n c, .int .i64 m, .int .i64 u], .int .i64 (i : Int), .int .i64 (j : Int), .int .i64 (b : Int)] w fun x w' => x = .returned (dv (secS (begS seed i) j b)) ∧ Below w.heap.size w w' := by
  have HA := hide hA
  have HN : Hid (n = seed.length ∧ n ≤ 1000 ∧ n ≤ c ∧ (A = none → c = 0) ∧ i < 65536 ∧ j < 256 ∧ b < 256) := ⟨hn, h64, hc, hA0, hi, hj, hb⟩
  have wj : IntKind.u8.wrap (j : Int) = (j : Int) := IntWalk.u8_in _ (by omega)
  have wb : IntKind.u8.wrap (b : Int) = (b : Int) := IntWalk.u8_in _ (by omega)
  clear hA hn h64 hc hA0 hi hj hb
  go_enter Tryd.func77, Tryd.ntmps77
  go_upto_region 1 with fail
  generalize hX1 : w.alloc _ = W1
  have hB1 : Below w.heap.size w W1 := hX1 ▸ (Below.refl _ _).alloc (Nat.le_refl _) _
  have ho1 : VsAt W1 w.heap.size 40 [.slice A n c, .int .i64 m, .int .i64 u] := boxedV w W1 _ _ (by rw [← hX1]; rfl)
  have hz1 : W1.heap.size = w.heap.size + 1 := by rw [← hX1]; show (w.heap.push _).size = _; rw [Array.size_push]
  generalize hX2 : W1.alloc _ = W2
  have hB2 : Below W1.heap.size W1 W2 := hX2 ▸ (Below.refl _ _).alloc (Nat.le_refl _) _
  have ho2 : ByAt W2 W1.heap.size 24 zeros := newBy W1 W2 (by rw [← hX2]; rfl)
  rw [hz1] at ho2
  have hv := ho1.keep hB2
  have HB := hide (thenB hB1 hB2)
  have HK2 := hide ho2
  have HZ : Hid (w.heap.size + 2 ≤ W2.heap.size) := by have := hB2.size; have h2 := lt_of_block ho2; show _ ≤ _; omega
  clear hX1 hB1 ho1 hz1 hX2 hB2 ho2
  refine wp_region_lit ?_
  refine wpList_plain rfl fun Kt hKt => ?_
  go_simp
  refine hKt _ _ ?_
  clear hKt Kt
  generalize hX : W2.alloc _ = V1
  have hv1 : Below W2.heap.size W2 V1 := hX ▸ (Below.refl _ _).alloc (Nat.le_refl _) _
  have hown1 : OwnB V1 W2.heap.size (.slice (some ⟨W2.heap.size, 0, none⟩) 0 0) [] := hX ▸ World.ownsRow_lit W2 #[] 0 (Nat.le_refl _) (Nat.zero_le _) rfl
  clear hX
  have hcv : V1.cell? ⟨w.heap.size, 0, none⟩ = some (.slice A n c) := (hv.keep hv1).cell rfl
  refine wpList_plain rfl fun Kt hKt => ?_
  go_simp
  refine hKt _ _ ?_
  clear hKt Kt
  refine wpList_plain rfl fun Kt hKt => ?_
  go_simp
  refine hKt _ _ ?_
  clear hKt Kt
  refine wpList_plain rfl fun Kt hKt => ?_
  obtain ⟨v2, V2, hr2, hown2, hg2⟩ := run_append_B hown1 22 A c (((unhide HA).keep (unhide HB)).keep hv1) (unhide HN).2.2.2.1 (by have := unhide HN; rw [List.length_nil]; omega) hv1.size
  rw [← (unhide HN).1] at hr2
  have hv2 := grown_below hv1 hg2 (fun k hk => (hown1.lt k hk).1)
  refine wp_append (.tmp 10) (.tmp 12) 22 rfl _ _ v2 V2 rfl rfl hr2 ?_
  refine hKt _ _ ?_
  clear hKt Kt hr2 hown1 hg2 hv1 hcv hv
  try simp only [List.getElem_toArray, List.getElem_cons_zero, List.getElem_cons_succ, Act.put, List.setIfInBounds_toArray, List.set_cons_zero, List.set_cons_succ]
  refine wpList_plain rfl fun Kt hKt => ?_
  go_simp
  refine hKt _ _ ?_
  clear hKt Kt
  refine wpList_plain rfl fun Kt hKt => ?_
  go_simp
  refine (rtwo_any i (unhide HN).2.2.2.2.1 V2).mono ?_; rintro x V3 ⟨⟨A3, c3, rfl, hc3, hbt3, hn3⟩, hb3⟩
  dsimp only
  refine hKt _ _ ?_
  clear hKt Kt
  try simp only [List.getElem_toArray, List.getElem_cons_zero, List.getElem_cons_succ, Act.put, List.setIfInBounds_toArray, List.set_cons_zero, List.set_cons_succ]
  refine wpList_plain rfl fun Kt hKt => ?_
  obtain ⟨v4, V4, hr4, hown4, hg4⟩ := run_append_B (hown2.later hb3) 22 A3 c3 hbt3 hn3 (by have := unhide HN; rw [List.nil_append, twoB_length]; omega) (Nat.le_trans hv2.size hb3.size)
  rw [twoB_length] at hr4
  have hv4 := grown_below (thenB hv2 hb3) hg4 (fun k hk => (hown2.lt k hk).1)
  refine wp_append (.tmp 13) (.tmp 15) 22 rfl _ _ v4 V4 rfl rfl hr4 ?_
  refine hKt _ _ ?_
  clear hKt Kt hr4 hown2 hg4 hv2 hb3 hbt3 hn3 hc3
  try simp only [List.getElem_toArray, List.getElem_cons_zero, List.getElem_cons_succ, Act.put, List.setIfInBounds_toArray, List.set_cons_zero, List.set_cons_succ]
  refine wpList_plain rfl fun Kt hKt => ?_
  go_simp
  refine hKt _ _ ?_
  clear hKt Kt
  rw [List.nil_append] at hown4
  obtain ⟨A4, c4, rfl, hc4, hbt4, hn4, hl4⟩ := own_formB hown4 (fun x hx => by
    rcases List.mem_append.1 hx with h | h
    · exact (unhide HA).byt x h
    · exact twoB_byt i x h)
  obtain ⟨n4, hn4l⟩ : ∃ k, k = (seed ++ twoB i).length := ⟨_, rfl⟩
  have HN4 : Hid (n4 = (seed ++ twoB i).length ∧ n4 ≤ 1002) := ⟨hn4l, by rw [hn4l, List.length_append, twoB_length]; have := unhide HN; omega⟩
  rw [← hn4l] at hc4 ⊢
  have HOW := hide hown4
  have HBV := hide hv4
  have HK4 := hide ((unhide HK2).keep hv4)
  rw [← hn4l] at HOW
  clear hbt4 hn4 hl4 hn4l hown4 hv4
  go_upto_region 2 with fail
  refine wp_region_lit ?_
  refine wpList_plain rfl fun Kt hKt => ?_
  go_simp
  refine hKt _ _ ?_
  clear hKt Kt
  refine wpList_plain rfl fun Kt hKt => ?_
  go_simp
  refine hKt _ _ ?_
  clear hKt Kt
  refine wpList_plain rfl fun Kt hKt => ?_
  go_simp
  refine hKt _ _ ?_
  clear hKt Kt
  refine wpList_plain rfl fun Kt hKt => ?_
  go_simp
  refine hKt _ _ ?_
  clear hKt Kt
  refine wpList_plain rfl fun Kt hKt => ?_
  go_simp
  refine hKt _ _ ?_
  clear hKt Kt
  refine wpList_plain rfl fun Kt hKt => ?_
  go_simp
  refine hKt _ _ ?_
  clear hKt Kt
  generalize hX : V4.alloc _ = V5
  have hv5 : Below V4.heap.size V4 V5 := hX ▸ (Below.refl _ _).alloc (Nat.le_refl _) _
  have hbt5 : Bt V5 (some ⟨V4.heap.size, 0, none⟩) [(j : Int), (b : Int)] := lit2 V4 V5 _ _ _ _ (by rw [← hX]; rfl) (byt_nat j (unhide HN).2.2.2.2.2.1) (byt_nat b (unhide HN).2.2.2.2.2.2)
  clear hX
  refine wpList_plain rfl fun Kt hKt => ?_
  have hn4 := (unhide HN4).1
  obtain ⟨v6, V6, hr6, hown6, hg6⟩ := run_append_B (base := W2.heap.size) (v := .slice A4 n4 c4) (l := seed ++ twoB i) (OwnB.later (by rw [hn4]; rw [hn4] at HOW; exact unhide HOW) hv5) 22 (some ⟨V4.heap.size, 0, none⟩) 2 hbt5 (fun h => by cases h) (by have := (unhide HN4).2; rw [← hn4]; simp; omega) (Nat.le_trans (unhide HBV).size hv5.size)
  have hv6 := grown_below (thenB (unhide HBV) hv5) hg6 (fun k hk => by
    have h1 : OwnB V4 W2.heap.size (.slice A4 n4 c4) (seed ++ twoB i) := by rw [hn4]; rw [hn4] at HOW; exact unhide HOW
    exact (h1.lt k hk).1)
  refine wp_append (.tmp 17) (.tmp 22) 22 rfl _ _ v6 V6 rfl rfl hr6 ?_
  refine hKt _ _ ?_
  clear hKt Kt hr6 hg6 hbt5 hv5 hn4
  try simp only [List.getElem_toArray, List.getElem_cons_zero, List.getElem_cons_succ, Act.put, List.setIfInBounds_toArray, List.set_cons_zero, List.set_cons_succ]
  obtain ⟨L, hL⟩ : ∃ L, L = (seed ++ twoB i) ++ [(j : Int), (b : Int)] := ⟨_, rfl⟩
  have hbL : ∀ x ∈ L, Byt x := by
    intro x hx
    rw [hL] at hx
    rcases List.mem_append.1 hx with h | h
    · rcases List.mem_append.1 h with h | h
      · exact (unhide HA).byt x h
      · exact twoB_byt i x h
    · simp only [List.mem_cons, List.not_mem_nil, or_false] at h
      rcases h with rfl | rfl
      · exact byt_nat j (unhide HN).2.2.2.2.2.1
      · exact byt_nat b (unhide HN).2.2.2.2.2.2
  have hlL : L.length ≤ 1004 := by rw [hL, List.length_append, ← (unhide HN4).1]; have := (unhide HN4).2; simp; omega
  rw [← hL] at hown6
  obtain ⟨A6, c6, rfl, hc6, hbt6, hn6, hl6⟩ := own_formB hown6 hbL
  have hsm := rtag_any V6 ⟨#[115, 101, 99, 114, 101, 116]⟩ A6 c6 L hbt6 hc6 hn6 (by omega) (by decide)
  obtain ⟨T, hT⟩ : ∃ T, T = secS (begS seed i) j b := ⟨_, rfl⟩
  rw [show sb ⟨#[115, 101, 99, 114, 101, 116]⟩ = SECB by decide, show tagF SECB L = T by rw [hT, hL]; unfold tagF secS begS; rw [List.append_assoc, List.append_assoc, List.append_assoc]] at hsm
  have HTT := hide hT
  have hgT : Dg T := hT ▸ dg_secS _ _ _
  obtain ⟨nL, hnL⟩ : ∃ k, k = L.length := ⟨_, rfl⟩
  rw [← hnL] at hsm ⊢
  obtain ⟨ct, hct⟩ : ∃ cs, cs = (T.map (Value.int .u8)).toArray := ⟨_, rfl⟩
  rw [show dv T = .agg ct by rw [hct]] at hsm
  have HCT := hide hct
  have HGT := hide hgT
  have hB6 := thenB (unhide HB) hv6
  have hO6 := (unhide HK2).keep hv6
  have HB6 := hide hB6; have HO6 := hide hO6
  clear hT hgT hct hnL hlL hbL hL hown6 hc6 hbt6 hn6 hl6 hB6 hO6 hv6
  refine wpList_plain rfl fun Kt hKt => ?_
  go_simp
  refine hsm.mono ?_; rintro x V7 ⟨rfl, hb7⟩
  dsimp only
  refine hKt _ _ ?_
  clear hKt Kt hsm
  have HB7 := hide (thenB (unhide HB6) hb7)
  have HO7 := hide ((unhide HO6).keep hb7)
  clear hb7
  try simp only [List.getElem_toArray, List.getElem_cons_zero, List.getElem_cons_succ, Act.put, List.setIfInBounds_toArray, List.set_cons_zero, List.set_cons_succ]
  refine wpList_bstore rfl 24 (.tmp 8) (.tmp 24) rfl (w.heap.size + 1) rfl T (show Value.agg ct = _ by rw [unhide HCT]) 32 info32 (unhide HGT).len _ zeros (unhide HO7) rfl ?_
  intro W9 HW9 HG9
  go_wp2_with fail
  try simp only [Exit.inBlock, Exit.then]
  exact bret rfl rfl (w.heap.size + 1) rfl _ _ (unhide HW9) (unhide HGT).len ⟨by rw [unhide HTT], (unhide HB7).grown (unhide HG9) (unhide HB7).size (fun i e => by injection e with e; omega)⟩
end Go.Proofs.YtceppmajbkmbdaaDoor
namespace Go.Proofs.YtceppmajbkmbdaaDoor
set_option linter.unusedSimpArgs false
set_option linter.unusedVariables false
open Go.RowKit

def flatD (l : List (List Int)) : List Int := l.flatMap fun d => d
theorem flatD_append (p q : List (List Int)) : flatD (p ++ q) = flatD p ++ flatD q := List.flatMap_append
theorem flatD_one (d : List Int) : flatD [d] = d := by simp [flatD]
theorem flatD_byt {l : List (List Int)} (h : ∀ d ∈ l, Dg d) : ∀ c ∈ flatD l, Byt c := fun c hc => by
  obtain ⟨d, hd, hm⟩ := List.mem_flatMap.1 hc
  exact (h d hd).byt c hm
theorem flatD_length : ∀ {l : List (List Int)}, (∀ d ∈ l, Dg d) → (flatD l).length = l.length * 32
  | [], _ => rfl
  | d :: l, h => by
    have e : flatD (d :: l) = d ++ flatD l := by simp [flatD]
    rw [e, List.length_append, flatD_length fun x hx => h x (List.mem_cons_of_mem _ hx), (h d List.mem_cons_self).len, List.length_cons]
    omega
theorem flatD_take {l : List (List Int)} {k : Nat} {d : List Int} (h : l[k]? = some d) : flatD (l.take (k + 1)) = flatD (l.take k) ++ d := by
  rw [List.take_add_one, h, flatD_append]
  show _ ++ flatD [d] = _
  rw [flatD_one]
set_option maxRecDepth 100000 in
set_option maxHeartbeats 2000000 in
theorem rone_any (w : World) (A : Option Addr) (n c : Nat) (l : List (List Int)) (hn : n = l.length) (hc : n ≤ c) (h1000 : n ≤ 1000) (hA : Ds w A l) :
    Calls Tryd.prog 81 #[.slice A n c] w fun x w' => x = .returned (dv (tagF ONEB (flatD l))) ∧ Below w.heap.size w w' := by
  have HA := hide hA
  have HN : Hid (n = l.length ∧ n ≤ c ∧ n ≤ 1000) := ⟨hn, hc, h1000⟩
  clear hA hn hc h1000
  go_enter Tryd.func81, Tryd.ntmps81
  go_upto_region 1 with fail
  generalize hX1 : w.alloc _ = W1
  have hB1 : Below w.heap.size w W1 := hX1 ▸ (Below.refl _ _).alloc (Nat.le_refl _) _
  have ho1 : ByAt W1 w.heap.size 24 zeros := newBy w W1 (by rw [← hX1]; rfl)
  have hz1 : W1.heap.size = w.heap.size + 1 := by rw [← hX1]; show (w.heap.push _).size = _; rw [Array.size_push]
  clear hX1
  refine wp_region_lit ?_
  refine wpList_plain rfl fun Kt hKt => ?_
  go_simp
  refine hKt _ _ ?_
  clear hKt Kt
  generalize hX : W1.alloc _ = V1
  have hv1 : Below W1.heap.size W1 V1 := hX ▸ (Below.refl _ _).alloc (Nat.le_refl _) _
  have hown1 : OwnB V1 W1.heap.size (.slice (some ⟨W1.heap.size, 0, none⟩) 0 0) [] := hX ▸ World.ownsRow_lit W1 #[] 0 (Nat.le_refl _) (Nat.zero_le _) rfl
  have HB1 := hide hB1
  have HV1 := hide hv1
  have HO1 := hide hown1
  have HD1 := hide ho1
  have HZ1 := hide hz1
  clear hX hv1 hown1 hB1 ho1 hz1
  go_wp2_with fail
  go_loopg [3, 4] n (fun g y3 y4 wx => ∃ (k : Nat) (v : Value), y3 = v ∧ y4 = .int .i64 (k : Int) ∧ k + g = n ∧ OwnB wx W1.heap.size v (flatD (l.take k)) ∧ Below W1.heap.size W1 wx)
  case atStart => exact ⟨0, _, rfl, rfl, by omega, by rw [← unhide HZ1]; simpa [flatD] using unhide HO1, unhide HV1⟩
  case round =>
    obtain ⟨k, v, rfl, rfl, hkg, hown, hbel⟩ := hrel
    have HOW := hide hown
    have HBE := hide hbel
    have HKG : Hid (k + gk = n) := hkg
    clear hown hbel
    cases gk with
    | zero =>
      obtain rfl : k = n := by omega
      have hown := unhide HOW
      rw [List.take_of_length_le (Nat.le_of_eq (unhide HN).1.symm)] at hown
      obtain ⟨A6, c6, rfl, hc6, hbt6, hn6, hl6⟩ := own_formB hown (flatD_byt (unhide HA).dg)
      have hsm := rtag_any wr ⟨#[111, 110, 101]⟩ A6 c6 (flatD l) hbt6 hc6 hn6 (by rw [flatD_length (unhide HA).dg]; have := unhide HN; omega) (by decide)
      obtain ⟨T, hT⟩ : ∃ T, T = tagF ONEB (flatD l) := ⟨_, rfl⟩
      rw [show sb ⟨#[111, 110, 101]⟩ = ONEB by decide, ← hT] at hsm
      have HTT := hide hT
      have hgT : Dg T := hT ▸ dg_hash _
      obtain ⟨nL, hnL⟩ : ∃ k, k = (flatD l).length := ⟨_, rfl⟩
      rw [← hnL] at hsm ⊢
      obtain ⟨ct, hct⟩ : ∃ cs, cs = (T.map (Value.int .u8)).toArray := ⟨_, rfl⟩
      rw [show dv T = .agg ct by rw [hct]] at hsm
      have HCT := hide hct
      have HGT := hide hgT
      have HSM := hide hsm
      clear hT hgT hct hnL hown hc6 hbt6 hn6 hl6 hsm hkg HOW
      go_wp2_with fail
      refine (unhide HSM).mono ?_; rintro x V7 ⟨rfl, hb7⟩
      dsimp only
      rename_i KK hK
      refine hK _ _ ?_
      clear hK KK HSM
      have HB7 := hide (thenB (unhide HB1) (thenB (unhide HBE) hb7))
      have HO7 := hide (((unhide HD1).keep (unhide HBE)).keep hb7)
      clear hb7
      refine wpList_bstore rfl 24 (.tmp 2) (.tmp 19) rfl w.heap.size rfl T (show Value.agg ct = _ by rw [unhide HCT]) 32 info32 (unhide HGT).len _ zeros (unhide HO7) rfl ?_
      intro W9 HW9 HG9
      go_wp2_with fail
      try simp only [Exit.inBlock, Exit.then]
      exact bret rfl rfl w.heap.size rfl _ _ (unhide HW9) (unhide HGT).len ⟨by rw [unhide HTT], (unhide HB7).grown (unhide HG9) (unhide HB7).size (fun i e => by injection e with e; omega)⟩
    | succ g =>
      have i1 : (k : Int) < (n : Int) := by omega
      have i0 : (0 : Int) ≤ (k : Int) := Int.natCast_nonneg _
      have iM : (k : Int) ≤ 1000 := by have := unhide HN; omega
      obtain ⟨d, hd⟩ : ∃ x, l[k]? = some x := ⟨_, List.getElem?_eq_getElem (by have := (unhide HN).1; omega)⟩
      have hne : l ≠ [] := fun e => by rw [e] at hd; simp at hd
      obtain ⟨b1, o1, rfl, hr1⟩ := (unhide HA).at_ hne
      have hg : Dg d := (unhide HA).dg d (List.mem_of_getElem? hd)
      have hbd := bt_of_range hg (rangeAt_keep (rangeAt_keep (rangeAt_keep (hr1 k d hd) (unhide HB1)) (Below.refl _ _)) (unhide HBE))
      have HD := hide hd; have HG := hide hg; have HBD := hide hbd
      have kc : (n : Int) ≤ (c : Int) := by have := unhide HN; omega
      clear hd hne hr1 hg hbd hkg
      go_upto_region 5 with fail
      refine wp_region_lit ?_
      refine wpList_plain rfl fun Kt hKt => ?_
      go_simp
      refine hKt _ _ ?_
      clear hKt Kt
      refine wpList_plain rfl fun Kt hKt => ?_
      go_simp
      refine hKt _ _ ?_
      clear hKt Kt
      refine wpList_plain rfl fun Kt hKt => ?_
      go_simp
      refine hKt _ _ ?_
      clear hKt Kt
      refine wpList_plain rfl fun Kt hKt => ?_
      go_simp
      refine hKt _ _ ?_
      clear hKt Kt
      refine wpList_plain rfl fun Kt hKt => ?_
      go_simp
      refine hKt _ _ ?_
      clear hKt Kt
      refine wpList_plain rfl fun K hK => ?_
      obtain ⟨v3, V3, hr3, hown3, hg3⟩ := run_append_B (unhide HOW) 22 (some ⟨b1, o1 + k * 32, none⟩) 32 (unhide HBD) (fun h => by cases h) (by rw [flatD_length (fun x hx => (unhide HA).dg x (List.mem_of_mem_take hx)), (unhide HG).len, List.length_take]; have := unhide HN; omega) (unhide HBE).size
      rw [(unhide HG).len] at hr3
      have hS3 := grown_below (unhide HBE) hg3 (fun k hk => ((unhide HOW).lt k hk).1)
      have HS3 := hide hS3
      have HO3 := hide hown3
      refine wp_append (.tmp 12) (.tmp 16) 22 rfl _ _ v3 V3 rfl rfl hr3 ?_
      refine hK _ _ ?_
      clear hK K hr3 hown3 hg3 hS3
      try simp only [List.getElem_toArray, List.getElem_cons_zero, List.getElem_cons_succ, Act.put, List.setIfInBounds_toArray, List.set_cons_zero, List.set_cons_succ]
      go_wp2_with fail
      go_roundg g
      case measure => omega
      case rel => exact ⟨k + 1, v3, rfl, by push_cast; rfl, by have := unhide HKG; omega, by rw [flatD_take (unhide HD)]; exact unhide HO3, unhide HS3⟩
end Go.Proofs.YtceppmajbkmbdaaDoor
namespace Go.Proofs.YtceppmajbkmbdaaDoor
set_option linter.unusedSimpArgs false
set_option linter.unusedVariables false
open Go.RowKit

def pairL (f : Nat → Nat → List Int) (k : Nat) : List (List Int) := (List.range k).flatMap fun j => [f j 0, f j 1]
theorem pairL_succ (f : Nat → Nat → List Int) (k : Nat) : pairL f (k + 1) = pairL f k ++ [f k 0, f k 1] := by simp [pairL, List.range_succ]
theorem pairL_length (f : Nat → Nat → List Int) : ∀ k, (pairL f k).length = 2 * k
  | 0 => rfl
  | k + 1 => by rw [pairL_succ, List.length_append, pairL_length f k]; simp; omega
theorem flatD_pair (f : Nat → Nat → List Int) : ∀ k, flatD (pairL f k) = halfS f k
  | 0 => rfl
  | k + 1 => by
    rw [pairL_succ, flatD_append, flatD_pair f k, halfS_succ]
    simp [flatD]
theorem dg_pairL {f : Nat → Nat → List Int} (h : ∀ j b, Dg (f j b)) (k : Nat) : ∀ d ∈ pairL f k, Dg d := fun d hd => by
  obtain ⟨j, _, hm⟩ := List.mem_flatMap.1 hd
  simp only [List.mem_cons, List.not_mem_nil, or_false] at hm
  rcases hm with rfl | rfl <;> exact h _ _
theorem run_two (w : World) (d e : List Int) (hd : d.length = 32) (he : e.length = 32) :
    (Instr.buildSlice 26 2 #[(0, dv d), (1, dv e)]).run Tryd.prog w = .ok (.slice (some ⟨w.heap.size, 0, none⟩) 2 2) (w.alloc (.cells ((d ++ e).map (Value.int .u8)).toArray 24)) := by
  obtain ⟨i0, hi, hz0, hz1, hz2⟩ := info_parts infoDig
  have hf := fill_two d e hd he
  simp [Instr.buildSlice, run_underlying Tryd.underlying26, sizeOf, typeInfo, zeroValue, hi, hz0, hz1, newRow, hf]
theorem wp_two {o : Oper} {a : Act} {w : World} {K : Act → World → Prop} {Q : Exit → Act → World → Prop} (x y : Operand) (ho : o.op = .buildSlice 26 2 #[(0, x), (1, y)]) (d e : List Int) (hd : d.length = 32) (he : e.length = 32) (hx : a.eval x = dv d) (hy : a.eval y = dv e)
    (h : K (a.put o.dst (.slice (some ⟨w.heap.size, 0, none⟩) 2 2)) (w.alloc (.cells ((d ++ e).map (Value.int .u8)).toArray 24))) : o.wp Tryd.prog a w K Q := by
  unfold Oper.wp execOp
  have e1 : (#[(0, x), (1, y)].map fun (i, x) => (i, a.eval x)) = #[(0, dv d), (1, dv e)] := by simp [hx, hy]
  simp only [ho]
  rw [e1]
  simp only [Sem.run_bind, Sem.run_pure, run_two w d e hd he, Result.andThen_ok]
  exact h
theorem ds_two {w : World} {N : Nat} {d e : List Int} {t : TypeId} (hd : Dg d) (he : Dg e) (h : VsAt w N t ((d ++ e).map (Value.int .u8))) : Ds w (some ⟨N, 0, none⟩) [d, e] := by
  refine ⟨fun x hx => ?_, fun _ => ⟨N, 0, rfl, fun j x hx => ?_⟩⟩
  · simp only [List.mem_cons, List.not_mem_nil, or_false] at hx
    rcases hx with rfl | rfl <;> assumption
  · refine h.mid (0 + j * 32) _ fun i v hv => ?_
    rw [List.map_append]
    match j, hx with
    | 0, hx =>
      injection hx with hx
      subst hx
      have hi := (List.getElem?_eq_some_iff.1 hv).1
      rw [List.getElem?_append_left (by omega)]
      simpa using hv
    | 1, hx =>
      injection hx with hx
      subst hx
      rw [List.getElem?_append_right (by rw [List.length_map, hd.len]; omega), List.length_map, hd.len, show 0 + 1 * 32 + i - 32 = i by omega]
      exact hv
end Go.Proofs.YtceppmajbkmbdaaDoor
namespace Go.Proofs.YtceppmajbkmbdaaDoor
set_option linter.unusedSimpArgs false
set_option linter.unusedVariables false
open Go.RowKit

set_option maxRecDepth 100000 in
set_option maxHeartbeats 1000000 in
theorem rkeys_any (w : World) (A : Option Addr) (n c : Nat) (seed : List Int) (hn : n = seed.length) (h64 : n ≤ 1000) (hc : n ≤ c) (hA : Bt w A seed) (hA0 : A = none → c = 0) (m : Nat) (hm : m ≤ 4096) (u : Int) :
    Calls Tryd.prog 71 #[.agg #[.slice A n c, .int .i64 (m : Int), .int .i64 u]] w fun x w' => (∃ v, x = .returned v ∧ OwnD w' w.heap.size v (pubsS seed m)) ∧ Below w.heap.size w w' := by
  have HA := hide hA
  have HN : Hid (n = seed.length ∧ n ≤ 1000 ∧ n ≤ c ∧ (A = none → c = 0) ∧ m ≤ 4096) := ⟨hn, h64, hc, hA0, hm⟩
  clear hA hn h64 hc hA0 hm
  go_enter Tryd.func71, Tryd.ntmps71
  go_upto_region 1 with fail
  generalize hX1 : w.alloc _ = W1
  have hB1 : Below w.heap.size w W1 := hX1 ▸ (Below.refl _ _).alloc (Nat.le_refl _) _
  have ho1 : VsAt W1 w.heap.size 40 [.slice A n c, .int .i64 (m : Int), .int .i64 u] := boxedV w W1 _ _ (by rw [← hX1]; rfl)
  clear hX1
  refine wp_region_lit ?_
  refine wpList_plain rfl fun Kt hKt => ?_
  go_simp
  refine hKt _ _ ?_
  clear hKt Kt
  generalize hX : W1.alloc _ = V1
  have hv1 : Below W1.heap.size W1 V1 := hX ▸ (Below.refl _ _).alloc (Nat.le_refl _) _
  have hown1 : OwnD V1 W1.heap.size (.slice (some ⟨W1.heap.size, 0, none⟩) 0 0) [] := hX ▸ World.ownsRow_lit W1 #[] 0 (Nat.le_refl _) (Nat.zero_le _) rfl
  have HV1 := hide hv1
  have HB1 := hide hB1
  have HO1 := hide hown1
  have HK := hide ho1
  clear hX hv1 hown1 hB1 ho1
  go_wp2_with fail
  go_loopg [3, 4] m (fun g y3 y4 wx => ∃ (k : Nat) (v : Value), y3 = v ∧ y4 = .int .i64 (k : Int) ∧ k + g = m ∧ OwnD wx W1.heap.size v (pubsS seed k) ∧ Below W1.heap.size W1 wx)
  case atStart => exact ⟨0, _, rfl, rfl, by omega, unhide HO1, unhide HV1⟩
  case round =>
    obtain ⟨k, v, rfl, rfl, hkg, hown, hbel⟩ := hrel
    obtain ⟨wo, hwo⟩ : ∃ x, x = wr := ⟨wr, rfl⟩
    subst hwo
    have HOW := hide hown
    have HBE := hide hbel
    have HKG : Hid (k + gk = m) := hkg
    have hcm : wo.cell? ⟨w.heap.size, 1, none⟩ = some (.int .i64 (m : Int)) := ((unhide HK).keep hbel).cell rfl
    clear hown hbel
    cases gk with
    | zero =>
      obtain rfl : k = m := by omega
      clear hkg
      go_wp2_with fail
      go_ret
      exact ⟨⟨_, rfl, own_le (unhide HOW) (unhide HB1).size⟩, thenB (unhide HB1) (unhide HBE)⟩
    | succ g =>
      have i1 : (k : Int) < (m : Int) := by omega
      have i0 : (0 : Int) ≤ (k : Int) := Int.natCast_nonneg _
      have iM : (k : Int) ≤ 4096 := by have := unhide HN; omega
      obtain ⟨f, hf⟩ : ∃ f : Nat → Nat → List Int, f = fun j b => opnS (secS (begS seed k) j b) := ⟨_, rfl⟩
      have HF : Hid (∀ j b, f j b = opnS (secS (begS seed k) j b)) := fun j b => by rw [hf]
      have HFE := hide hf
      have HGF : Hid (∀ j b, Dg (f j b)) := fun j b => by rw [hf]; exact dg_opnS _
      clear hkg hf
      go_upto_region 5 with fail
      clear hcm
      refine wp_region_lit ?_
      refine wpList_plain rfl fun Kt hKt => ?_
      go_simp
      refine hKt _ _ ?_
      clear hKt Kt
      generalize hX : wo.alloc _ = U1
      have hu1 : Below wo.heap.size wo U1 := hX ▸ (Below.refl _ _).alloc (Nat.le_refl _) _
      have hownu : OwnD U1 wo.heap.size (.slice (some ⟨wo.heap.size, 0, none⟩) 0 0) [] := hX ▸ World.ownsRow_lit wo #[] 0 (Nat.le_refl _) (Nat.zero_le _) rfl
      have HU1 := hide hu1
      have HOU := hide hownu
      clear hX hu1 hownu
      go_wp2_with fail
      go_loopg [5, 6] 64 (fun g y5 y6 wx => ∃ (j : Nat) (v : Value), y5 = v ∧ y6 = .int .i64 (j : Int) ∧ j + g = 64 ∧ OwnD wx wo.heap.size v (pairL f j) ∧ Below wo.heap.size wo wx)
      case atStart => exact ⟨0, _, rfl, rfl, by omega, unhide HOU, unhide HU1⟩
      case round =>
        obtain ⟨j, v', rfl, rfl, hjg, hown', hbel'⟩ := hrel
        have HOV := hide hown'
        have HBV := hide hbel'
        have HJG : Hid (j + gk = 64) := hjg
        clear hown' hbel'
        cases gk with
        | zero =>
          obtain rfl : j = 64 := by omega
          clear hjg
          obtain ⟨A5, c5, rfl, hc5, hd5, hn5⟩ := own_form (unhide HOV) (dg_pairL (unhide HGF) 64)
          rw [pairL_length] at hc5 ⊢
          have hro := rone_any wr A5 (2 * 64) c5 (pairL f 64) (pairL_length f 64).symm hc5 (by omega) hd5
          obtain ⟨P, hP⟩ : ∃ d, d = pubS seed k := ⟨_, rfl⟩
          rw [flatD_pair, show tagF ONEB (halfS f 64) = P by rw [hP, unhide HFE]; rfl] at hro
          have hgP : Dg P := hP ▸ dg_pubS _ _
          obtain ⟨qP, hqP⟩ : ∃ cs, cs = (P.map (Value.int .u8)).toArray := ⟨_, rfl⟩
          have hsP : qP.size = 32 := by rw [hqP]; simpa using hgP.len
          rw [show dv P = .agg qP by rw [hqP]] at hro
          have HRO := hide hro
          have HP := hide hP; have HGP := hide hgP; have HQP := hide hqP
          clear hc5 hd5 hn5 hro hP hgP hqP HOV
          go_upto_region 10 with fail
          refine wp_region_lit ?_
          refine wpList_plain rfl fun Kt hKt => ?_
          go_simp
          refine hKt _ _ ?_
          clear hKt Kt
          refine wpList_plain rfl fun Kt hKt => ?_
          go_simp
          refine hKt _ _ ?_
          clear hKt Kt
          refine wpList_plain rfl fun Kt hKt => ?_
          go_simp
          refine (unhide HRO).mono ?_; rintro x U2 ⟨rfl, hb2⟩
          dsimp only
          refine hKt _ _ ?_
          clear hKt Kt HRO
          try simp only [List.getElem_toArray, List.getElem_cons_zero, List.getElem_cons_succ, Act.put, List.setIfInBounds_toArray, List.set_cons_zero, List.set_cons_succ]
          refine wpList_plain rfl fun Kt hKt => ?_
          go_simp
          refine hKt _ _ ?_
          clear hKt Kt
          rw [overwritten hsP (by rfl)]
          generalize hY : U2.alloc _ = Y1
          have hBY : Below U2.heap.size U2 Y1 := hY ▸ (Below.refl _ _).alloc (Nat.le_refl _) _
          have hoY : ByAt Y1 U2.heap.size 24 P := boxed U2 Y1 P _ (by rw [← hY, unhide HQP]; rfl)
          clear hY
          have hB3 := thenB (thenB (unhide HBV) hb2) hBY
          have hO3 := (unhide HOW).later hB3
          obtain ⟨v3, V3, hr3, hown3, hg3⟩ := run_append_D hO3 26 U2.heap.size 1 P (unhide HGP) hoY (by rw [pubsS_length]; omega) (Nat.le_trans (unhide HBE).size hB3.size)
          have hS3 := grown_below (thenB (unhide HBE) hB3) hg3 (fun k hk => (hO3.lt k hk).1)
          have HS3 := hide hS3
          have HO3 := hide hown3
          refine wpList_plain rfl fun K hK => ?_
          refine wp_append (.tmp 32) (.tmp 35) 26 rfl _ _ v3 V3 rfl rfl hr3 ?_
          refine hK _ _ ?_
          clear hK K hB3 hO3 hr3 hown3 hg3 hS3 hBY hoY hb2
          try simp only [List.getElem_toArray, List.getElem_cons_zero, List.getElem_cons_succ, Act.put, List.setIfInBounds_toArray, List.set_cons_zero, List.set_cons_succ]
          go_wp2_with fail
          go_roundg g
          case measure => omega
          case rel => exact ⟨k + 1, v3, rfl, by push_cast; rfl, by have := unhide HKG; omega, by rw [pubsS_succ, ← unhide HP]; exact unhide HO3, unhide HS3⟩
        | succ g2 =>
          have j1 : (j : Int) < 64 := by omega
          have j0 : (0 : Int) ≤ (j : Int) := Int.natCast_nonneg _
          clear hjg
          have hSe : ∀ V, Below wo.heap.size wo V → ∀ b : Nat, b < 2 → Calls Tryd.prog 77 #[.agg #[.slice A n c, .int .i64 (m : Int), .int .i64 u], .int .i64 (k : Int), .int .i64 (j : Int), .int .i64 (b : Int)] V fun x w' => x = .returned (dv (secS (begS seed k) j b)) ∧ Below V.heap.size V w' := fun V hV b hb =>
            rsecret_any V A n c seed (unhide HN).1 (unhide HN).2.1 (unhide HN).2.2.1 ((((unhide HA).keep (unhide HB1)).keep (unhide HBE)).keep hV) (unhide HN).2.2.2.1 m u k (by omega) j b (by omega) (by omega)
          have HSE := hide hSe
          have HKV : Hid (∀ V, Below wo.heap.size wo V → V.rangeAt w.heap.size 0 [.slice A n c, .int .i64 (m : Int), .int .i64 u]) := fun V hV => (((unhide HK).keep (unhide HBE)).keep hV).range
          clear hSe
          go_wp2_with fail
          obtain ⟨W, hW⟩ : ∃ W, W = wr.drewN 1 := ⟨_, rfl⟩
          have HW : Hid (W = wr.drewN 1) := hW
          have hS : Below wo.heap.size wo W := thenB (unhide HBV) (below_named HW)
          clear hW
          refine held (S := Below wo.heap.size wo) W HW (by kernel_rfl) ?_
          refine wpAnyH_take (i := 0) (v := ?_) rfl (by kernel_rfl) (by kernel_rfl) (by kernel_rfl) (fun _ _ _ h => h) (Or.inl ⟨by kernel_rfl, ?_⟩) (by assumption) ?_
          rotate_left
          · intro Wt hSt
            go_simp
            try with_reducible rfl
          try simp only [List.getElem_toArray, List.getElem_cons_zero, List.getElem_cons_succ, Act.put, List.setIfInBounds_toArray, List.set_cons_zero, List.set_cons_succ]
          refine wpAnyH_take (i := 1) (v := .agg [.slice A n c, .int .i64 (m : Int), .int .i64 u].toArray) rfl (by kernel_rfl) (by kernel_rfl) (by kernel_rfl) (fun _ _ _ h => h) (yieldsIf_load_mid (by kernel_rfl) 40 (.tmp 1) rfl w.heap.size 0 rfl [.slice A n c, .int .i64 (m : Int), .int .i64 u] _ (fun W hS => unhide HKV W hS) Tryd.underlying40 rfl infoKey) (by assumption) ?_
          try simp only [List.getElem_toArray, List.getElem_cons_zero, List.getElem_cons_succ, Act.put, List.setIfInBounds_toArray, List.set_cons_zero, List.set_cons_succ]
          refine wpAnyH_take (i := 2) (v := ?_) rfl (by kernel_rfl) (by kernel_rfl) (by kernel_rfl) (fun _ _ _ h => h) (Or.inl ⟨by kernel_rfl, ?_⟩) (by assumption) ?_
          rotate_left
          · intro Wt hSt
            go_simp
            try with_reducible rfl
          try simp only [List.getElem_toArray, List.getElem_cons_zero, List.getElem_cons_succ, Act.put, List.setIfInBounds_toArray, List.set_cons_zero, List.set_cons_succ]
          refine wpAnyH_take (i := 3) (v := ?_) rfl (by kernel_rfl) (by kernel_rfl) (by kernel_rfl) (fun _ _ _ h => h) (Or.inl ⟨by kernel_rfl, ?_⟩) (by assumption) ?_
          rotate_left
          · intro Wt hSt
            go_simp
            try with_reducible rfl
          try simp only [List.getElem_toArray, List.getElem_cons_zero, List.getElem_cons_succ, Act.put, List.setIfInBounds_toArray, List.set_cons_zero, List.set_cons_succ]
          refine wpAnyH_take (i := 6) (v := .agg [.slice A n c, .int .i64 (m : Int), .int .i64 u].toArray) rfl (by kernel_rfl) (by kernel_rfl) (by kernel_rfl) (fun _ _ _ h => h) (yieldsIf_load_mid (by kernel_rfl) 40 (.tmp 1) rfl w.heap.size 0 rfl [.slice A n c, .int .i64 (m : Int), .int .i64 u] _ (fun W hS => unhide HKV W hS) Tryd.underlying40 rfl infoKey) (by assumption) ?_
          try simp only [List.getElem_toArray, List.getElem_cons_zero, List.getElem_cons_succ, Act.put, List.setIfInBounds_toArray, List.set_cons_zero, List.set_cons_succ]
          refine wpAnyH_take (i := 7) (v := ?_) rfl (by kernel_rfl) (by kernel_rfl) (by kernel_rfl) (fun _ _ _ h => h) (Or.inl ⟨by kernel_rfl, ?_⟩) (by assumption) ?_
          rotate_left
          · intro Wt hSt
            go_simp
            try with_reducible rfl
          try simp only [List.getElem_toArray, List.getElem_cons_zero, List.getElem_cons_succ, Act.put, List.setIfInBounds_toArray, List.set_cons_zero, List.set_cons_succ]
          refine wpAnyH_take (i := 8) (v := ?_) rfl (by kernel_rfl) (by kernel_rfl) (by kernel_rfl) (fun _ _ _ h => h) (Or.inl ⟨by kernel_rfl, ?_⟩) (by assumption) ?_
          rotate_left
          · intro Wt hSt
            go_simp
            try with_reducible rfl
          try simp only [List.getElem_toArray, List.getElem_cons_zero, List.getElem_cons_succ, Act.put, List.setIfInBounds_toArray, List.set_cons_zero, List.set_cons_succ]
          refine wpAnyH_chainOf [4, 5, 9, 10, 11, 12, 13] _ _ _ (by kernel_rfl) (by kernel_rfl) ?_
          simp only [List.filterMap_cons, List.filterMap_nil, List.getElem?_toArray, List.getElem?_cons_zero, List.getElem?_cons_succ]
          refine wpChain_step rfl fun K hK => ?_
          go_simp
          obtain ⟨s0, hs0⟩ : ∃ s, s = secS (begS seed k) j 0 := ⟨_, rfl⟩
          obtain ⟨s1, hs1⟩ : ∃ s, s = secS (begS seed k) j 1 := ⟨_, rfl⟩
          have hg0 : Dg s0 := hs0 ▸ dg_secS _ _ _
          have hg1 : Dg s1 := hs1 ▸ dg_secS _ _ _
          have HS0 := hide hs0; have HS1 := hide hs1
          clear hs0 hs1
          have hc0 := unhide HSE W hS 0 (by omega)
          rw [← unhide HS0] at hc0
          refine hc0.mono ?_; rintro x U2 ⟨rfl, hb2⟩
          have hS2 := thenB hS hb2
          dsimp only
          refine hK _ _ hS2 ?_
          clear hK K hc0
          refine wpChain_step rfl fun K hK => ?_
          go_simp
          obtain ⟨t0, ht0⟩ : ∃ s, s = opnS s0 := ⟨_, rfl⟩
          have hh0 := rhash_any U2 s0 hg0
          have hgt0 : Dg t0 := ht0 ▸ dg_opnS _
          obtain ⟨q0, hq0⟩ : ∃ cs, cs = (t0.map (Value.int .u8)).toArray := ⟨_, rfl⟩
          rw [← ht0, show dv t0 = .agg q0 by rw [hq0]] at hh0
          have z0 : q0.size = 32 := by rw [hq0]; simpa using hgt0.len
          have HT0 := hide ht0; have HQ0 := hide hq0
          clear ht0 hq0 z0
          refine hh0.mono ?_; rintro x U3 ⟨rfl, hb3⟩
          have hS3 := thenB hS2 hb3
          dsimp only
          refine hK _ _ hS3 ?_
          clear hK K hh0
          refine wpChain_step rfl fun K hK => ?_
          go_simp
          have hc1 := unhide HSE U3 hS3 1 (by omega)
          rw [← unhide HS1] at hc1
          refine hc1.mono ?_; rintro x U4 ⟨rfl, hb4⟩
          have hS4 := thenB hS3 hb4
          dsimp only
          refine hK _ _ hS4 ?_
          clear hK K hc1
          refine wpChain_step rfl fun K hK => ?_
          go_simp
          obtain ⟨t1, ht1⟩ : ∃ s, s = opnS s1 := ⟨_, rfl⟩
          have hh1 := rhash_any U4 s1 hg1
          have hgt1 : Dg t1 := ht1 ▸ dg_opnS _
          obtain ⟨q1, hq1⟩ : ∃ cs, cs = (t1.map (Value.int .u8)).toArray := ⟨_, rfl⟩
          rw [← ht1, show dv t1 = .agg q1 by rw [hq1]] at hh1
          have z1 : q1.size = 32 := by rw [hq1]; simpa using hgt1.len
          have HT1 := hide ht1; have HQ1 := hide hq1
          clear ht1 hq1 z1
          refine hh1.mono ?_; rintro x U5 ⟨rfl, hb5⟩
          have hS5 := thenB hS4 hb5
          dsimp only
          refine hK _ _ hS5 ?_
          clear hK K hh1
          refine wpChain_step rfl fun K hK => ?_
          refine wp_two (.tmp 24) (.tmp 29) rfl t0 t1 hgt0.len hgt1.len (show Value.agg q0 = _ by rw [unhide HQ0]) (show Value.agg q1 = _ by rw [unhide HQ1]) ?_
          generalize hY : U5.alloc _ = U6
          have hb6 : Below U5.heap.size U5 U6 := hY ▸ (Below.refl _ _).alloc (Nat.le_refl _) _
          have hv6 : VsAt U6 U5.heap.size 24 ((t0 ++ t1).map (Value.int .u8)) := boxedV U5 U6 _ _ (by rw [← hY]; rfl)
          have hds := ds_two hgt0 hgt1 hv6
          clear hY
          have hS6 := thenB hS5 hb6
          refine hK _ _ hS6 ?_
          clear hK K
          refine wpChain_step rfl fun K hK => ?_
          have hO6 := (((((((unhide HOV).later (below_named HW)).later hb2).later hb3).later hb4).later hb5).later hb6)
          obtain ⟨v7, U7, hr7, hown7, hg7, _⟩ := append_many hO6 26 (some ⟨U5.heap.size, 0, none⟩) 2 hds (fun h => by cases h) (by rw [pairL_length]; simp; omega) hS6.size
          have hS7 := grown_below hS6 hg7 (fun k hk => (hO6.lt k hk).1)
          refine wp_append (.tmp 19) (.tmp 30) 26 rfl _ _ v7 U7 rfl rfl hr7 ?_
          refine hK _ _ hS7 ?_
          clear hK K
          have hE : Hid (t0 = f j 0 ∧ t1 = f j 1) := ⟨by rw [unhide HF, unhide HT0, unhide HS0], by rw [unhide HF, unhide HT1, unhide HS1]⟩
          have HO7 := hide hown7
          have HS7 := hide hS7
          refine wpChain_step rfl fun K hK => ?_
          go_simp
          refine hK _ _ hS7 (wpChain_nil ?_)
          clear hK K hr7 hown7 hg7 hO6 hS6 hds hv6 hS5 hS4 hS3 hS2 hS hb2 hb3 hb4 hb5 hb6 hS7 hg0 hg1 hgt0 hgt1
          go_wp2_with fail
          go_roundg g2
          case measure => omega
          case rel => exact ⟨j + 1, v7, rfl, by push_cast; rfl, by have := unhide HJG; omega, by rw [pairL_succ, ← (unhide hE).1, ← (unhide hE).2]; exact unhide HO7, unhide HS7⟩
end Go.Proofs.YtceppmajbkmbdaaDoor
namespace Go.Proofs.YtceppmajbkmbdaaDoor
set_option linter.unusedSimpArgs false
set_option linter.unusedVariables false
open Go.RowKit

set_option maxRecDepth 100000 in
set_option maxHeartbeats 1000000 in
theorem rPublic_bad (w : World) (A : Option Addr) (n c : Nat) (many u : Int) (hk : keyOk n many u = false) :
    Calls Tryd.prog 36 #[.agg #[.slice A n c, .int .i64 many, .int .i64 u]] w fun x w' => x = .returned (.tuple #[dv zeros, .int .i64 40]) ∧ Below w.heap.size w w' := by
  have hik := fun W => rvalid_any W A n c many u
  rw [hk] at hik
  have HIK := hide hik
  clear hik hk
  go_enter Tryd.func36, Tryd.ntmps36
  go_upto_region 1 with fail
  generalize hX1 : w.alloc _ = W1
  have hB1 : Below w.heap.size w W1 := hX1 ▸ (Below.refl _ _).alloc (Nat.le_refl _) _
  have ho1 : VsAt W1 w.heap.size 40 [.slice A n c, .int .i64 many, .int .i64 u] := boxedV w W1 _ _ (by rw [← hX1]; rfl)
  have hz1 : W1.heap.size = w.heap.size + 1 := by rw [← hX1]; show (w.heap.push _).size = _; rw [Array.size_push]
  generalize hX2 : W1.alloc _ = W2
  have hB2 : Below W1.heap.size W1 W2 := hX2 ▸ (Below.refl _ _).alloc (Nat.le_refl _) _
  have ho2 : ByAt W2 W1.heap.size 24 zeros := newBy W1 W2 (by rw [← hX2]; rfl)
  rw [hz1] at ho2
  have HO1 := hide (ho1.keep hB2); have HO2 := hide ho2
  have HB2 := hide (thenB hB1 hB2)
  clear hX1 hX2 hB1 hB2 ho1 ho2 hz1
  refine wp_region_lit ?_
  refine wpList_load_mid rfl 40 (.tmp 1) rfl w.heap.size 0 rfl [.slice A n c, .int .i64 many, .int .i64 u] _ (unhide HO1).range Tryd.underlying40 rfl (by kernel_rfl) ?_
  try simp only [List.getElem_toArray, List.getElem_cons_zero, List.getElem_cons_succ, Act.put, List.setIfInBounds_toArray, List.set_cons_zero, List.set_cons_succ]
  go_wp2_with fail
  refine ((unhide HIK) W2).mono ?_; rintro x W3 ⟨rfl, hB3⟩
  have HB3 := hide (thenB (unhide HB2) hB3)
  have HO2' := hide ((unhide HO2).keep hB3)
  clear hB3 HB2 HO1 HO2
  go_upto_region 2 with fail
  refine wp_region_lit ?_
  refine wpList_build0 rfl 24 rfl (dv zeros) (build_zero _) ?_
  refine wpList_bstore rfl 24 (.tmp 2) (.tmp 7) rfl (w.heap.size + 1) rfl zeros rfl 32 info32 rfl _ zeros (unhide HO2') rfl ?_
  intro W9 HW9 HG
  go_wp2_with fail
  try simp only [Exit.inBlock, Exit.then]
  exact bret2 rfl rfl (w.heap.size + 1) rfl _ _ (unhide HW9) rfl _ rfl ⟨rfl, (unhide HB3).grown (unhide HG) (unhide HB3).size (fun i e => by injection e with e; omega)⟩

set_option maxRecDepth 100000 in
set_option maxHeartbeats 1000000 in
theorem rPublic_ok (w : World) (A : Option Addr) (n c : Nat) (seed : List Int) (hn : n = seed.length) (hc : n ≤ c) (hA : Bt w A seed) (hA0 : A = none → c = 0) (many : Nat) (u : Int) (hk : keyOk n (many : Int) u = true) :
    Calls Tryd.prog 36 #[.agg #[.slice A n c, .int .i64 (many : Int), .int .i64 u]] w fun x w' => x = .returned (.tuple #[dv (treeP (pubsS seed many)), .int .i64 0]) ∧ Below w.heap.size w w' := by
  have hik := fun W => rvalid_any W A n c many u
  rw [hk] at hik
  have HIK := hide hik
  have hkk : 1 ≤ n ∧ n ≤ 64 ∧ 1 ≤ many ∧ many ≤ 4096 := by
    unfold keyOk at hk
    rw [decide_eq_true_eq] at hk
    omega
  have HN : Hid (n = seed.length ∧ n ≤ c ∧ (A = none → c = 0) ∧ 1 ≤ n ∧ n ≤ 64 ∧ 1 ≤ many ∧ many ≤ 4096) := ⟨hn, hc, hA0, hkk⟩
  have HA := hide hA
  obtain ⟨T, hT⟩ : ∃ t, t = treeP (pubsS seed many) := ⟨_, rfl⟩
  have hgT : Dg T := hT ▸ dg_tree _
  obtain ⟨ct, hct⟩ : ∃ cs, cs = (T.map (Value.int .u8)).toArray := ⟨_, rfl⟩
  rw [← hT]
  have HTT := hide hT; have HGT := hide hgT; have HCT := hide hct
  clear hik hk hkk hn hc hA hA0 hT hgT hct
  go_enter Tryd.func36, Tryd.ntmps36
  go_upto_region 1 with fail
  generalize hX1 : w.alloc _ = W1
  have hB1 : Below w.heap.size w W1 := hX1 ▸ (Below.refl _ _).alloc (Nat.le_refl _) _
  have ho1 : VsAt W1 w.heap.size 40 [.slice A n c, .int .i64 (many : Int), .int .i64 u] := boxedV w W1 _ _ (by rw [← hX1]; rfl)
  have hz1 : W1.heap.size = w.heap.size + 1 := by rw [← hX1]; show (w.heap.push _).size = _; rw [Array.size_push]
  generalize hX2 : W1.alloc _ = W2
  have hB2 : Below W1.heap.size W1 W2 := hX2 ▸ (Below.refl _ _).alloc (Nat.le_refl _) _
  have ho2 : ByAt W2 W1.heap.size 24 zeros := newBy W1 W2 (by rw [← hX2]; rfl)
  rw [hz1] at ho2
  have HO1 := hide (ho1.keep hB2); have HO2 := hide ho2
  have HB2 := hide (thenB hB1 hB2)
  clear hX1 hX2 hB1 hB2 ho1 ho2 hz1
  refine wp_region_lit ?_
  refine wpList_load_mid rfl 40 (.tmp 1) rfl w.heap.size 0 rfl [.slice A n c, .int .i64 (many : Int), .int .i64 u] _ (unhide HO1).range Tryd.underlying40 rfl (by kernel_rfl) ?_
  try simp only [List.getElem_toArray, List.getElem_cons_zero, List.getElem_cons_succ, Act.put, List.setIfInBounds_toArray, List.set_cons_zero, List.set_cons_succ]
  go_wp2_with fail
  refine ((unhide HIK) W2).mono ?_; rintro x W3 ⟨rfl, hB3⟩
  have HB3 := hide (thenB (unhide HB2) hB3)
  have HO3 := hide ((unhide HO2).keep hB3)
  have HK3 := hide ((unhide HO1).keep hB3)
  clear hB3 HB2 HO1 HO2 HIK
  go_upto_region 3 with fail
  refine wp_region_lit ?_
  refine wpList_load_mid rfl 40 (.tmp 1) rfl w.heap.size 0 rfl [.slice A n c, .int .i64 (many : Int), .int .i64 u] _ (unhide HK3).range Tryd.underlying40 rfl (by kernel_rfl) ?_
  try simp only [List.getElem_toArray, List.getElem_cons_zero, List.getElem_cons_succ, Act.put, List.setIfInBounds_toArray, List.set_cons_zero, List.set_cons_succ]
  refine wpList_plain rfl fun Kt hKt => ?_
  go_simp
  refine (rkeys_any W3 A n c seed (unhide HN).1 (by have := unhide HN; omega) (unhide HN).2.1 ((unhide HA).keep (unhide HB3)) (unhide HN).2.2.1 many (unhide HN).2.2.2.2.2.2 u).mono ?_; rintro x W4 ⟨⟨v, rfl, hov⟩, hB4⟩
  obtain ⟨A4, c4, rfl, hc4, hd4, hn4⟩ := own_form hov (dg_pubsS seed many)
  rw [pubsS_length] at hc4 ⊢
  dsimp only
  refine hKt _ _ ?_
  clear hKt Kt hov hn4
  try simp only [List.getElem_toArray, List.getElem_cons_zero, List.getElem_cons_succ, Act.put, List.setIfInBounds_toArray, List.set_cons_zero, List.set_cons_succ]
  have htr := rtree_any W4 c4 A4 (pubsS seed many) hd4 (by rw [pubsS_length]; exact hc4) (by rw [pubsS_length]; have := unhide HN; omega)
  rw [pubsS_length, treeD_ne (pubs_ne seed many (unhide HN).2.2.2.2.2.1), ← unhide HTT, show dv T = .agg ct by rw [unhide HCT]] at htr
  have HB4 := hide (thenB (unhide HB3) hB4)
  have HO4 := hide ((unhide HO3).keep hB4)
  clear hc4 hd4 hB4 HB3 HO3 HK3
  refine wpList_plain rfl fun Kt hKt => ?_
  go_simp
  refine htr.mono ?_; rintro x W5 ⟨rfl, hB5⟩
  dsimp only
  refine hKt _ _ ?_
  clear hKt Kt htr
  try simp only [List.getElem_toArray, List.getElem_cons_zero, List.getElem_cons_succ, Act.put, List.setIfInBounds_toArray, List.set_cons_zero, List.set_cons_succ]
  have HB5 := hide (thenB (unhide HB4) hB5)
  have HO5 := hide ((unhide HO4).keep hB5)
  clear hB5
  refine wpList_bstore rfl 24 (.tmp 2) (.tmp 10) rfl (w.heap.size + 1) rfl T (show Value.agg ct = _ by rw [unhide HCT]) 32 info32 (unhide HGT).len _ zeros (unhide HO5) rfl ?_
  intro W9 HW9 HG
  go_wp2_with fail
  try simp only [Exit.inBlock, Exit.then]
  exact bret2 rfl rfl (w.heap.size + 1) rfl _ _ (unhide HW9) (unhide HGT).len _ rfl ⟨rfl, (unhide HB5).grown (unhide HG) (unhide HB5).size (fun i e => by injection e with e; omega)⟩
end Go.Proofs.YtceppmajbkmbdaaDoor
namespace Go.Proofs.YtceppmajbkmbdaaDoor
set_option linter.unusedSimpArgs false
set_option linter.unusedVariables false
open Go.RowKit

set_option maxRecDepth 100000 in
set_option maxHeartbeats 1000000 in
theorem rBits_bad (w : World) (d : List Int) (i : Int) (hi : i < 0 ∨ 4096 ≤ i) (m : Value) :
    Calls Tryd.prog 32 #[dv d, .int .i64 i, m] w fun x w' => x = .returned (.slice none 0 0) ∧ Below w.heap.size w w' := by
  have hb1 := fun o => Below.alloc (Below.refl w.heap.size w) (Nat.le_refl _) o
  have HB := hide hb1
  clear hb1
  obtain ⟨cd, hcd⟩ : ∃ cs, cs = (d.map (Value.int .u8)).toArray := ⟨_, rfl⟩
  rw [show dv d = .agg cd by rw [hcd]]
  clear hcd
  by_cases h1 : i < 0
  · clear hi
    go_enter Tryd.func32, Tryd.ntmps32
    go_wp2_with fail
    go_ret
    exact ⟨rfl, unhide HB _⟩
  · have h2 : 4096 ≤ i := by omega
    clear hi
    go_enter Tryd.func32, Tryd.ntmps32
    go_wp2_with fail
    go_ret
    exact ⟨rfl, unhide HB _⟩

set_option maxRecDepth 100000 in
set_option maxHeartbeats 2000000 in
theorem rBits_ok (w : World) (d : List Int) (hd : Dg d) (i : Nat) (hi : i < 4096) (A : Option Addr) (n c : Nat) (msg : List Int) (hn : n = msg.length) (hc : n ≤ c) (hA : Bt w A msg) (hA0 : A = none → c = 0) (h65 : n ≤ 65536) :
    Calls Tryd.prog 32 #[dv d, .int .i64 (i : Int), .slice A n c] w fun x w' => ∃ A9 c9, x = .returned (.slice A9 (bitsS d i msg).length c9) ∧ (bitsS d i msg).length ≤ c9 ∧ Bl w' A9 (bitsS d i msg) ∧ Below w.heap.size w w' := by
  have HA := hide hA
  have HN : Hid (n = msg.length ∧ n ≤ c ∧ (A = none → c = 0) ∧ n ≤ 65536 ∧ i < 4096) := ⟨hn, hc, hA0, h65, hi⟩
  have HD := hide hd
  have hld := hd.len
  obtain ⟨cd, hcd⟩ : ∃ cs, cs = (d.map (Value.int .u8)).toArray := ⟨_, rfl⟩
  have hsd : cd.size = 32 := by rw [hcd]; simpa using hld
  rw [show dv d = .agg cd by rw [hcd]]
  have i0 : ¬ (i : Int) < 0 := by omega
  have i1 : ¬ (4096 : Int) ≤ (i : Int) := by omega
  clear hd hld hA hn hc hA0 h65 hi
  go_enter Tryd.func32, Tryd.ntmps32
  go_upto_region 1 with fail
  generalize hX1 : w.alloc _ = W1
  have hB1 : Below w.heap.size w W1 := hX1 ▸ (Below.refl _ _).alloc (Nat.le_refl _) _
  have ho1 : ByAt W1 w.heap.size 24 d := boxed w W1 d _ (by rw [← hX1]; first | rfl | (rw [hcd]; rfl))
  have HB1 := hide hB1
  have HK1 := hide ho1
  clear hX1 hB1 ho1 hcd
  go_upto_region 3 with fail
  clear i0 i1
  refine wp_region_lit ?_
  refine wpList_plain rfl fun Kt hKt => ?_
  go_simp
  refine hKt _ _ ?_
  clear hKt Kt
  generalize hX : W1.alloc _ = V1
  have hv1 : Below W1.heap.size W1 V1 := hX ▸ (Below.refl _ _).alloc (Nat.le_refl _) _
  have hown1 : OwnB V1 W1.heap.size (.slice (some ⟨W1.heap.size, 0, none⟩) 0 0) [] := hX ▸ World.ownsRow_lit W1 #[] 0 (Nat.le_refl _) (Nat.zero_le _) rfl
  clear hX
  refine wpList_plain rfl fun Kt hKt => ?_
  go_simp
  refine hKt _ _ ?_
  clear hKt Kt
  refine wpList_plain rfl fun Kt hKt => ?_
  obtain ⟨v2, V2, hr2, hown2, hg2⟩ := run_append_B hown1 22 (some ⟨w.heap.size, 0, none⟩) 32 (((unhide HK1).keep hv1).bt (unhide HD)) (fun h => by cases h) (by rw [(unhide HD).len, List.length_nil]; omega) hv1.size
  rw [(unhide HD).len] at hr2
  have hv2 := grown_below hv1 hg2 (fun k hk => (hown1.lt k hk).1)
  refine wp_append (.tmp 17) (.tmp 18) 22 rfl _ _ v2 V2 rfl rfl hr2 ?_
  refine hKt _ _ ?_
  clear hKt Kt hr2 hown1 hg2 hv1
  try simp only [List.getElem_toArray, List.getElem_cons_zero, List.getElem_cons_succ, Act.put, List.setIfInBounds_toArray, List.set_cons_zero, List.set_cons_succ]
  refine wpList_plain rfl fun Kt hKt => ?_
  go_simp
  refine hKt _ _ ?_
  clear hKt Kt
  refine wpList_plain rfl fun Kt hKt => ?_
  go_simp
  refine (rtwo_any i (by have := unhide HN; omega) V2).mono ?_; rintro x V3 ⟨⟨A3, c3, rfl, hc3, hbt3, hn3⟩, hb3⟩
  dsimp only
  refine hKt _ _ ?_
  clear hKt Kt
  try simp only [List.getElem_toArray, List.getElem_cons_zero, List.getElem_cons_succ, Act.put, List.setIfInBounds_toArray, List.set_cons_zero, List.set_cons_succ]
  refine wpList_plain rfl fun Kt hKt => ?_
  obtain ⟨v4, V4, hr4, hown4, hg4⟩ := run_append_B (hown2.later hb3) 22 A3 c3 hbt3 hn3 (by rw [List.nil_append, twoB_length, (unhide HD).len]; omega) (Nat.le_trans hv2.size hb3.size)
  rw [twoB_length] at hr4
  have hv4 := grown_below (thenB hv2 hb3) hg4 (fun k hk => (hown2.lt k hk).1)
  refine wp_append (.tmp 19) (.tmp 21) 22 rfl _ _ v4 V4 rfl rfl hr4 ?_
  refine hKt _ _ ?_
  clear hKt Kt hr4 hown2 hg4 hv2 hb3 hbt3 hn3 hc3
  try simp only [List.getElem_toArray, List.getElem_cons_zero, List.getElem_cons_succ, Act.put, List.setIfInBounds_toArray, List.set_cons_zero, List.set_cons_succ]
  refine wpList_plain rfl fun Kt hKt => ?_
  go_simp
  refine hKt _ _ ?_
  clear hKt Kt
  rw [List.nil_append] at hown4
  have hb34 : ∀ x ∈ d ++ twoB i, Byt x := fun x hx => by
    rcases List.mem_append.1 hx with h | h
    · exact (unhide HD).byt x h
    · exact twoB_byt i x h
  obtain ⟨A4, c4, rfl, hc4, hbt4, hn4, hl4⟩ := own_formB hown4 hb34
  have hl34 : (d ++ twoB i).length = 34 := by rw [List.length_append, twoB_length, (unhide HD).len]
  have HL34 := hide hl34; have HB34 := hide hb34
  obtain ⟨n4, hn4l⟩ : ∃ k, k = (d ++ twoB i).length := ⟨_, rfl⟩
  rw [← hn4l] at hown4 ⊢
  have HOW := hide hown4
  have HV4 := hide hv4
  clear hbt4 hn4 hl4 hc4 hown4 hv4 hl34 hb34 hn4l
  go_upto_region 4 with fail
  refine wp_region_lit ?_
  refine wpList_plain rfl fun Kt hKt => ?_
  go_simp
  refine hKt _ _ ?_
  clear hKt Kt
  refine wpList_plain rfl fun Kt hKt => ?_
  go_simp
  refine hKt _ _ ?_
  clear hKt Kt
  refine wpList_plain rfl fun Kt hKt => ?_
  obtain ⟨v6, V6, hr6, hown6, hg6⟩ := run_append_B (unhide HOW) 22 A c (((unhide HA).keep (unhide HB1)).keep (unhide HV4)) (unhide HN).2.2.1 (by rw [unhide HL34, ← (unhide HN).1]; have := unhide HN; omega) (unhide HV4).size
  rw [← (unhide HN).1] at hr6
  have hv6 := grown_below (unhide HV4) hg6 (fun k hk => ((unhide HOW).lt k hk).1)
  refine wp_append (.tmp 23) (.tmp 24) 22 rfl _ _ v6 V6 rfl rfl hr6 ?_
  refine hKt _ _ ?_
  clear hKt Kt hr6 hg6
  try simp only [List.getElem_toArray, List.getElem_cons_zero, List.getElem_cons_succ, Act.put, List.setIfInBounds_toArray, List.set_cons_zero, List.set_cons_succ]
  obtain ⟨L, hL⟩ : ∃ L, L = (d ++ twoB i) ++ msg := ⟨_, rfl⟩
  have hbL : ∀ x ∈ L, Byt x := by
    intro x hx
    rw [hL] at hx
    rcases List.mem_append.1 hx with h | h
    · exact unhide HB34 x h
    · exact (unhide HA).byt x h
  have hlL : L.length ≤ 70000 := by rw [hL, List.length_append, unhide HL34, ← (unhide HN).1]; have := unhide HN; omega
  rw [← hL] at hown6
  obtain ⟨A6, c6, rfl, hc6, hbt6, hn6, hl6⟩ := own_formB hown6 hbL
  have hsm := rtag_any V6 ⟨#[109, 101, 115, 115, 97, 103, 101]⟩ A6 c6 L hbt6 hc6 hn6 (by omega) (by decide)
  obtain ⟨D, hD5⟩ : ∃ T, T = msgS d i msg := ⟨_, rfl⟩
  rw [show sb ⟨#[109, 101, 115, 115, 97, 103, 101]⟩ = MSGB by decide, show tagF MSGB L = D by rw [hD5, hL, List.append_assoc]; rfl] at hsm
  have HD5 := hide hD5
  have hgD : Dg D := hD5 ▸ dg_hash _
  obtain ⟨nL, hnL⟩ : ∃ k, k = L.length := ⟨_, rfl⟩
  rw [← hnL] at hsm ⊢
  obtain ⟨ct, hct⟩ : ∃ cs, cs = (D.map (Value.int .u8)).toArray := ⟨_, rfl⟩
  rw [show dv D = .agg ct by rw [hct]] at hsm
  have HCT := hide hct
  have HGD := hide hgD
  have HB6 := hide (thenB (unhide HB1) hv6)
  clear hD5 hgD hct hnL hlL hbL hL hown6 hc6 hbt6 hn6 hl6 hv6 HOW HV4
  refine wpList_plain rfl fun Kt hKt => ?_
  go_simp
  refine hsm.mono ?_; rintro x V7 ⟨rfl, hb7⟩
  dsimp only
  refine hKt _ _ ?_
  clear hKt Kt hsm
  have HB7 := hide (thenB (unhide HB6) hb7)
  clear hb7
  try simp only [List.getElem_toArray, List.getElem_cons_zero, List.getElem_cons_succ, Act.put, List.setIfInBounds_toArray, List.set_cons_zero, List.set_cons_succ]
  refine wpList_plain rfl fun Kt hKt => ?_
  go_simp
  refine hKt _ _ ?_
  clear hKt Kt
  generalize hX8 : V7.alloc _ = V8
  have hB8 : Below V7.heap.size V7 V8 := hX8 ▸ (Below.refl _ _).alloc (Nat.le_refl _) _
  have HO8 := hide (newBy V7 V8 (by rw [← hX8]; rfl))
  have HB8 := hide hB8
  obtain ⟨N, hNN⟩ : ∃ N, N = V7.heap.size := ⟨_, rfl⟩
  have HNN : Hid (N = V7.heap.size ∧ w.heap.size ≤ N) := ⟨hNN, by rw [hNN]; exact (unhide HB7).size⟩
  rw [← hNN] at HO8 ⊢
  clear hX8 hB8 hNN
  refine wpList_bstore rfl 24 (.tmp 8) (.tmp 26) rfl N rfl D (show Value.agg ct = _ by rw [unhide HCT]) 32 info32 (unhide HGD).len _ zeros (unhide HO8) rfl ?_
  intro V9 HV9 HG9
  have hB9 : Below w.heap.size w V9 := (thenB (unhide HB7) (unhide HB8)).grown (unhide HG9) (thenB (unhide HB7) (unhide HB8)).size (fun i e => by injection e with e; have := unhide HNN; omega)
  have HB9 := hide hB9
  clear hB9 HG9 HB8 HB7 HO8 HB6
  try simp only [List.getElem_toArray, List.getElem_cons_zero, List.getElem_cons_succ, Act.put, List.setIfInBounds_toArray, List.set_cons_zero, List.set_cons_succ]
  go_upto_region 5 with fail
  refine wp_region_lit ?_
  refine wpList_plain rfl fun Kt hKt => ?_
  go_simp
  refine hKt _ _ ?_
  clear hKt Kt
  generalize hX : V9.alloc _ = wc
  have hvc : Below V9.heap.size V9 wc := hX ▸ (Below.refl _ _).alloc (Nat.le_refl _) _
  have hownc : OwnL wc V9.heap.size (.slice (some ⟨V9.heap.size, 0, none⟩) 0 0) [] := hX ▸ World.ownsRow_lit V9 #[] 0 (Nat.le_refl _) (Nat.zero_le _) rfl
  have HVC := hide hvc
  have HOC := hide hownc
  clear hX hvc hownc
  go_wp2_with fail
  go_loopg [9, 10] 64 (fun g y9 y10 wx => ∃ (j : Nat), g + j = 64 ∧ y10 = .int .i64 (j : Int) ∧ OwnL wx V9.heap.size y9 ((bitsS d i msg).take j) ∧ Below V9.heap.size V9 wx)
  case atStart => exact ⟨0, rfl, rfl, unhide HOC, unhide HVC⟩
  case round =>
    obtain ⟨j, hj, rfl, hov, hbv⟩ := hrel
    cases gk with
    | zero =>
      obtain rfl : j = 64 := by omega
      rw [List.take_of_length_le (by rw [bitsS_length]; exact Nat.le_refl _)] at hov
      obtain ⟨A9, c9, hv9, hc9, hbl⟩ := own_formL hov
      have H9 : Hid ((bitsS d i msg).length ≤ c9) := hc9
      have HBL := hide hbl; have HBV := hide hbv; have HW9 := hide hv9
      clear hov hc9 hbl hbv hj hv9
      go_wp2_with fail
      go_ret
      exact ⟨A9, c9, by rw [unhide HW9]; rfl, unhide H9, unhide HBL, thenB (unhide HB9) (unhide HBV)⟩
    | succ g =>
      have hj64 : j < 64 := by omega
      have j1 : (j : Int) < 64 := by omega
      have j0 : (0 : Int) ≤ (j : Int) := Int.natCast_nonneg _
      obtain ⟨q, hq⟩ : ∃ q, q = j / 8 := ⟨_, rfl⟩
      obtain ⟨r, hr8⟩ : ∃ r, r = j % 8 := ⟨_, rfl⟩
      obtain ⟨s, hs7⟩ : ∃ s, s = 7 - r := ⟨_, rfl⟩
      have wq : IntKind.i64.wrap ((j : Int) / 8) = (q : Int) := (IntWalk.i64_in _ (by omega)).trans (by omega)
      have wr8 : IntKind.i64.wrap ((j : Int) % 8) = (r : Int) := (IntWalk.i64_in _ (by omega)).trans (by omega)
      have wr9 : (j : Int).tmod 8 = (r : Int) := (Int.tmod_eq_emod_of_nonneg (by omega)).trans (by omega)
      have ws : IntKind.i64.wrap (7 - (r : Int)) = (s : Int) := (IntWalk.i64_in _ (by omega)).trans (by omega)
      have q1 : (q : Int) < 32 := by omega
      have s0 : (0 : Int) ≤ (s : Int) := by omega
      have s8 : (s : Int) < 8 := by omega
      have d0 := ((unhide HV9).keep hbv).cell (j := q) (by rw [(unhide HGD).len]; omega)
      have HQ : Hid (q = j / 8 ∧ r = j % 8 ∧ s = 7 - r) := ⟨hq, hr8, hs7⟩
      clear hq hr8 hs7
      go_upto_region 9 with fail
      refine wp_region_lit ?_
      refine wpList_plain rfl fun Kt hKt => ?_
      go_simp
      refine hKt _ _ ?_
      clear hKt Kt
      refine wpList_plain rfl fun Kt hKt => ?_
      go_simp
      refine hKt _ _ ?_
      clear hKt Kt
      refine wpList_plain rfl fun Kt hKt => ?_
      go_simp
      refine hKt _ _ ?_
      clear hKt Kt
      refine wpList_plain rfl fun Kt hKt => ?_
      go_simp
      refine hKt _ _ ?_
      clear hKt Kt
      refine wpList_plain rfl fun Kt hKt => ?_
      go_simp
      refine hKt _ _ ?_
      clear hKt Kt
      refine wpList_plain rfl fun Kt hKt => ?_
      go_simp
      refine hKt _ _ ?_
      clear hKt Kt
      refine wpList_plain rfl fun Kt hKt => ?_
      go_simp
      refine hKt _ _ ?_
      clear hKt Kt
      refine wpList_plain rfl fun Kt hKt => ?_
      go_simp
      refine hKt _ _ ?_
      clear hKt Kt
      refine wpList_plain rfl fun Kt hKt => ?_
      go_simp
      refine hKt _ _ ?_
      clear hKt Kt
      refine wpList_plain rfl fun Kt hKt => ?_
      go_simp
      refine hKt _ _ ?_
      clear hKt Kt
      refine wpList_plain rfl fun Kt hKt => ?_
      go_simp
      refine hKt _ _ ?_
      clear hKt Kt
      obtain ⟨x, hx⟩ : ∃ x, x = bitS D j := ⟨_, rfl⟩
      have hxx : (bits .and .u8 (D[q]?.getD 0 / 2 ^ s) 1 == 1) = x := by
        rw [hx]
        unfold bitS
        obtain ⟨h1, h2, h3⟩ := unhide HQ
        rw [h3, h2, h1, List.getD_eq_getElem?_getD]
      have htk : (bitsS d i msg).take (j + 1) = (bitsS d i msg).take j ++ [x] := by
        rw [List.take_add_one, show (bitsS d i msg)[j]? = some x by unfold bitsS; rw [List.getElem?_map, List.getElem?_range hj64, hx, unhide HD5]; rfl]
        rfl
      have hlt : ((bitsS d i msg).take j).length ≤ 1000000 := by rw [List.length_take, bitsS_length]; omega
      rw [hxx]
      obtain ⟨v2, W2, hr2, ho2, hg2⟩ := append_L wr V9.heap.size u9 _ x hov hlt hbv.size 45
      rw [← htk] at ho2
      have HR2 := hide hr2; have HO2 := hide ho2
      have HB2 := hide (grown_below (hbv.alloc hbv.size (.cells #[.bool x] 4)) hg2 (fun k hk => (hov.lt k hk).1))
      have HJ : Hid (g + 1 + j = 64) := hj
      clear hxx htk hlt hr2 ho2 hg2 hov hbv hx hj hj64 d0
      refine wpList_plain rfl fun Kt hKt => ?_
      go_simp
      refine hKt _ _ ?_
      clear hKt Kt
      refine wpList_app rfl (.tmp 32) (.tmp 43) 45 45 rfl _ _ v2 W2 rfl rfl (unhide HR2) ?_
      go_wp2_with fail
      go_roundg g
      case measure => omega
      case rel => exact ⟨j + 1, by have := unhide HJ; omega, by push_cast; rfl, unhide HO2, unhide HB2⟩
end Go.Proofs.YtceppmajbkmbdaaDoor
namespace Go.Proofs.YtceppmajbkmbdaaDoor
set_option linter.unusedSimpArgs false
set_option linter.unusedVariables false
open Go.RowKit

theorem bt_grown {w w' : World} {r : Nat} {A : Option Addr} {l : List Int} (h : Bt w A l) (hg : w.grownBy w' (some r)) (hne : ∀ a, A = some a → a.block ≠ r) : Bt w' A l := ⟨h.byt, fun hl => by
  obtain ⟨b, o, rfl, hc⟩ := h.at_ hl
  refine ⟨b, o, rfl, fun j hj => ?_⟩
  rw [cell_block (hg.block b (lt_of_cell (hc j hj)) (fun e => hne _ rfl (by injection e)))]
  exact hc j hj⟩
/-- what New of the reference returns: a copy of the seed -/
def RNewIs (w : World) (ok : Bool) (seed : List Int) (n : Nat) (m : Int) (x : Ending) (w' : World) : Prop :=
  if ok then ∃ A c, x = .returned (.tuple #[.agg #[.slice A n c, .int .i64 m, .int .i64 0], .int .i64 0]) ∧ n ≤ c ∧ Bt w' A seed ∧ (A = none → c = 0) ∧ Below w.heap.size w w'
  else x = .returned (.tuple #[.agg #[.slice none 0 0, .int .i64 0, .int .i64 0], .int .i64 40]) ∧ Below w.heap.size w w'
set_option maxRecDepth 100000 in
set_option maxHeartbeats 2000000 in
theorem rNew_any (w : World) (A : Option Addr) (n c : Nat) (seed : List Int) (hn : n = seed.length) (h200 : n ≤ 1000) (hc : n ≤ c) (hA : Bt w A seed) (hA0 : A = none → c = 0) (m : Int) :
    Calls Tryd.prog 28 #[.slice A n c, .int .i64 m] w (RNewIs w (keyOk n m 0) seed n m) := by
  have hik := fun W B k => rvalid_any W B n k m 0
  have one3 : ∀ (B : Option Addr) (x y : Nat) (p q : Int), ∀ v ∈ ([.slice B x y, .int .i64 p, .int .i64 q] : List Value), v.oneCell' = true := fun B x y p q v hv => by
    simp only [List.mem_cons, List.not_mem_nil, or_false] at hv
    rcases hv with rfl | rfl | rfl <;> rfl
  obtain ⟨ok, hok⟩ : ∃ b, b = keyOk n m 0 := ⟨_, rfl⟩
  rw [← hok] at hik ⊢
  have HIK := hide hik; have H13 := hide one3; have HA := hide hA
  have HN : Hid (n = seed.length ∧ n ≤ 1000 ∧ n ≤ c ∧ (A = none → c = 0)) := ⟨hn, h200, hc, hA0⟩
  clear hik hok one3 hA hn h200 hc hA0
  cases ok
  all_goals
    go_enter Tryd.func28, Tryd.ntmps28
    go_upto_region 1 with fail
    generalize hX1 : w.alloc _ = W1
    have hB1 : Below w.heap.size w W1 := hX1 ▸ (Below.refl _ _).alloc (Nat.le_refl _) _
    have ho1 : VsAt W1 w.heap.size 40 [.slice none 0 0, .int .i64 0, .int .i64 0] := boxedV w W1 _ _ (by rw [← hX1]; rfl)
    have HB1 := hide hB1; have HO1 := hide ho1
    clear hX1 hB1 ho1
    refine wp_region_lit ?_
    refine wpList_plain rfl fun Kt hKt => ?_
    go_simp
    refine hKt _ _ ?_
    clear hKt Kt
    generalize hX : W1.alloc _ = V1
    have hv1 : Below W1.heap.size W1 V1 := hX ▸ (Below.refl _ _).alloc (Nat.le_refl _) _
    have hown1 : OwnB V1 W1.heap.size (.slice (some ⟨W1.heap.size, 0, none⟩) 0 0) [] := hX ▸ World.ownsRow_lit W1 #[] 0 (Nat.le_refl _) (Nat.zero_le _) rfl
    clear hX
    refine wpList_plain rfl fun Kt hKt => ?_
    go_simp
    refine hKt _ _ ?_
    clear hKt Kt
    refine wpList_plain rfl fun Kt hKt => ?_
    obtain ⟨v2, V2, hr2, hown2, hg2⟩ := run_append_B hown1 22 A c (((unhide HA).keep (unhide HB1)).keep hv1) (unhide HN).2.2.2 (by have := unhide HN; rw [List.length_nil]; omega) hv1.size
    rw [← (unhide HN).1] at hr2
    have hv2 := grown_below hv1 hg2 (fun k hk => (hown1.lt k hk).1)
    refine wp_append (.tmp 7) (.tmp 8) 22 rfl _ _ v2 V2 rfl rfl hr2 ?_
    refine hKt _ _ ?_
    clear hKt Kt hr2 hown1 hg2 hv1
    try simp only [List.getElem_toArray, List.getElem_cons_zero, List.getElem_cons_succ, Act.put, List.setIfInBounds_toArray, List.set_cons_zero, List.set_cons_succ]
    rw [List.nil_append] at hown2
    obtain ⟨A4, c4, rfl, hc4, hbt4, hn4, hl4⟩ := own_formB hown2 (unhide HA).byt
    rw [← (unhide HN).1] at hc4 ⊢
    have HS4 : Hid (n ≤ c4 ∧ Bt V2 A4 seed ∧ (A4 = none → c4 = 0) ∧ ∀ a, A4 = some a → w.heap.size < a.block) := ⟨hc4, hbt4, hn4, fun a ha => Nat.lt_of_lt_of_le (lt_of_block (unhide HO1)) (hl4 a ha)⟩
    have HV2 := hide hv2
    clear hown2 hc4 hbt4 hn4 hl4 hv2
    refine wpList_plain rfl fun Kt hKt => ?_
    go_simp
    refine hKt _ _ ?_
    clear hKt Kt
    refine wpList_plain rfl fun Kt hKt => ?_
    go_simp
    refine hKt _ _ ?_
    clear hKt Kt
    refine wpList_plain rfl fun Kt hKt => ?_
    go_simp
    refine hKt _ _ ?_
    clear hKt Kt
    generalize hX5 : V2.alloc _ = V5
    have hB5 : Below V2.heap.size V2 V5 := hX5 ▸ (Below.refl _ _).alloc (Nat.le_refl _) _
    have ho5 : VsAt V5 V2.heap.size 40 [.slice none 0 0, .int .i64 0, .int .i64 0] := boxedV V2 V5 _ _ (by rw [← hX5]; rfl)
    obtain ⟨N, hNN⟩ : ∃ N, N = V2.heap.size := ⟨_, rfl⟩
    have HNN : Hid (w.heap.size < N ∧ N = V2.heap.size) := ⟨by have h1 := (unhide HV2).size; have h2 := lt_of_block (unhide HO1); omega, hNN⟩
    rw [← hNN] at ho5 ⊢
    have HB5 := hide hB5; have HO5 := hide ho5
    clear hX5 hB5 ho5 hNN
    refine wpList_vput rfl 40 (.tmp 6) (.tmp 11) rfl N 0 rfl [.slice A4 n c4, .int .i64 m, .int .i64 0] rfl (by kernel_rfl) (unhide H13 _ _ _ _ _) _ _ (unhide HO5) (by simp) ?_
    intro V6 HW6 HG6
    have hw6 := unhide HW6
    rw [spliceV_all _ _ (by simp)] at hw6
    have HW := hide hw6
    have hS6 : Below V2.heap.size V2 V6 := (unhide HB5).grown (unhide HG6) (unhide HB5).size (fun i e => by injection e with e; have := (unhide HNN).2; omega)
    have HB6 := hide (thenB (unhide HB1) (thenB (unhide HV2) hS6))
    have HO6 := hide (((unhide HO1).keep (unhide HV2)).keep hS6)
    replace HS4 : Hid (n ≤ c4 ∧ Bt V6 A4 seed ∧ (A4 = none → c4 = 0) ∧ ∀ a, A4 = some a → w.heap.size < a.block) := ⟨(unhide HS4).1, (unhide HS4).2.1.keep hS6, (unhide HS4).2.2⟩
    clear hw6 HW6 HG6 HO1 HO5 HB5 HB1 HV2 hS6
    try simp only [List.getElem_toArray, List.getElem_cons_zero, List.getElem_cons_succ, Act.put, List.setIfInBounds_toArray, List.set_cons_zero, List.set_cons_succ]
    go_upto_region 2 with fail
    refine wp_region_lit ?_
    refine wpList_load_mid rfl 40 (.tmp 6) rfl N 0 rfl [.slice A4 n c4, .int .i64 m, .int .i64 0] _ (unhide HW).range Tryd.underlying40 rfl (by kernel_rfl) ?_
    try simp only [List.getElem_toArray, List.getElem_cons_zero, List.getElem_cons_succ, Act.put, List.setIfInBounds_toArray, List.set_cons_zero, List.set_cons_succ]
    go_wp2_with fail
    refine ((unhide HIK) V6 A4 c4).mono ?_; rintro x W3 ⟨rfl, hB3⟩
    have HW3 := hide ((unhide HW).keep hB3)
    have HO3 := hide ((unhide HO6).keep hB3)
    have HB3 := hide (thenB (unhide HB6) hB3)
    replace HS4 : Hid (n ≤ c4 ∧ Bt W3 A4 seed ∧ (A4 = none → c4 = 0) ∧ ∀ a, A4 = some a → w.heap.size < a.block) := ⟨(unhide HS4).1, (unhide HS4).2.1.keep hB3, (unhide HS4).2.2⟩
    clear hB3 HW HB6 HO6
  · go_upto_region 3 with fail
    refine wp_region_lit ?_
    refine wpList_plain rfl fun Kt hKt => ?_
    go_simp
    refine hKt _ _ ?_
    clear hKt Kt
    refine wpList_vput rfl 40 (.tmp 4) (.tmp 15) rfl w.heap.size 0 rfl [.slice none 0 0, .int .i64 0, .int .i64 0] rfl (by kernel_rfl) (unhide H13 _ _ _ _ _) _ _ (unhide HO3) (by simp) ?_
    intro W4 HW4 HG4
    have hw4 := unhide HW4
    rw [spliceV_all _ _ (by simp)] at hw4
    have HW := hide hw4
    clear hw4 HW4
    go_wp2_with fail
    try simp only [Exit.inBlock, Exit.then]
    exact vret2 rfl rfl w.heap.size rfl _ _ (unhide HW) _ Tryd.underlying40 rfl (by kernel_rfl) _ rfl ⟨rfl, (unhide HB3).grown (unhide HG4) (unhide HB3).size (fun i e => by injection e with e; omega)⟩
  · go_upto_region 4 with fail
    refine wp_region_lit ?_
    refine wpList_load_mid rfl 40 (.tmp 6) rfl N 0 rfl [.slice A4 n c4, .int .i64 m, .int .i64 0] _ (unhide HW3).range Tryd.underlying40 rfl (by kernel_rfl) ?_
    try simp only [List.getElem_toArray, List.getElem_cons_zero, List.getElem_cons_succ, Act.put, List.setIfInBounds_toArray, List.set_cons_zero, List.set_cons_succ]
    refine wpList_vput rfl 40 (.tmp 4) (.tmp 16) rfl w.heap.size 0 rfl [.slice A4 n c4, .int .i64 m, .int .i64 0] rfl (by kernel_rfl) (unhide H13 _ _ _ _ _) _ _ (unhide HO3) (by simp) ?_
    intro W4 HW4 HG4
    have hw4 := unhide HW4
    rw [spliceV_all _ _ (by simp)] at hw4
    have HW := hide hw4
    clear hw4 HW4
    go_wp2_with fail
    try simp only [Exit.inBlock, Exit.then]
    exact vret2 rfl rfl w.heap.size rfl _ _ (unhide HW) _ Tryd.underlying40 rfl (by kernel_rfl) _ rfl ⟨A4, c4, rfl, (unhide HS4).1, bt_grown (unhide HS4).2.1 (unhide HG4) (fun a ha => by have := (unhide HS4).2.2.2 a ha; omega), (unhide HS4).2.2.1, (unhide HB3).grown (unhide HG4) (unhide HB3).size (fun i e => by injection e with e; omega)⟩
end Go.Proofs.YtceppmajbkmbdaaDoor
namespace Go.Proofs.YtceppmajbkmbdaaDoor
set_option linter.unusedSimpArgs false
set_option linter.unusedVariables false
open Go.RowKit

def strOf (l : List Int) : ByteArray := l.foldl (fun r n => r.push (UInt8.ofNat n.toNat)) ByteArray.empty
theorem conv_bytes (w : World) (A : Option Addr) (n c : Nat) (l : List Int) (hn : n = l.length) (hA : Bt w A l) :
    (convert 22 9 (.slice A n c)).run Tryd.prog w = .ok (.string (strOf l)) w := by
  subst hn
  cases A with
  | none =>
    obtain rfl : l = [] := by
      by_cases e : l = []
      · exact e
      · obtain ⟨b, o, e2, _⟩ := hA.at_ e
        cases e2
    exact Lib.run_convert_nil_bytes w _ _ _ c Tryd.underlying22 Tryd.underlying5 Tryd.underlying9
  | some a =>
    rw [run_convert_bytes_string w _ _ _ (some a) l.length c Tryd.underlying22 Tryd.underlying5 Tryd.underlying9]
    refine run_bytesToString w a l.length c l ?_
    have h := run_loadCells_list (P := Tryd.prog) (w := w) a (l.map (Value.int .u8)) (fun j v hv => by
      have hj : j < l.length := by simpa using (List.getElem?_eq_some_iff.1 hv).1
      obtain ⟨b, o, e, hc⟩ := hA.at_ (fun e => by rw [e] at hj; simp at hj)
      injection e with e
      subst e
      have h1 := hc j hj
      rw [List.getElem?_map, List.getElem?_eq_getElem hj] at hv
      injection hv with hv
      rw [List.getD_eq_getElem?_getD, List.getElem?_eq_getElem hj] at h1
      rw [add_flat]
      exact h1.trans (congrArg some hv))
    rw [List.length_map] at h
    exact h
set_option maxRecDepth 100000 in
set_option maxHeartbeats 1000000 in
theorem sameKey_any (w : World) (A B : Option Addr) (n c k : Nat) (l : List Int) (m u : Int) (hn : n = l.length) (hA : Bt w A l) (hB : Bt w B l) :
    Calls Tryd.prog 29 #[.agg #[.slice A n c, .int .i64 m, .int .i64 u], .agg #[.slice B n k, .int .i64 m, .int .i64 u]] w fun x w' => x = .returned (.bool true) ∧ Below w.heap.size w w' := by
  have HA := hide hA; have HB := hide hB; have HN := hide hn
  clear hA hB hn
  go_enter Tryd.func29, Tryd.ntmps29
  go_upto_region 1 with fail
  generalize hX1 : w.alloc _ = W1
  have hB1 : Below w.heap.size w W1 := hX1 ▸ (Below.refl _ _).alloc (Nat.le_refl _) _
  have ho1 : VsAt W1 w.heap.size 40 [.slice A n c, .int .i64 m, .int .i64 u] := boxedV w W1 _ _ (by rw [← hX1]; rfl)
  have hz1 : W1.heap.size = w.heap.size + 1 := by rw [← hX1]; show (w.heap.push _).size = _; rw [Array.size_push]
  generalize hX2 : W1.alloc _ = W2
  have hB2 : Below W1.heap.size W1 W2 := hX2 ▸ (Below.refl _ _).alloc (Nat.le_refl _) _
  have ho2 : VsAt W2 W1.heap.size 40 [.slice B n k, .int .i64 m, .int .i64 u] := boxedV W1 W2 _ _ (by rw [← hX2]; rfl)
  rw [hz1] at ho2
  have hv := ho1.keep hB2
  have a0 : W2.cell? ⟨w.heap.size, 0, none⟩ = some (.slice A n c) := hv.cell rfl
  have a1 : W2.cell? ⟨w.heap.size, 1, none⟩ = some (.int .i64 m) := hv.cell rfl
  have a2 : W2.cell? ⟨w.heap.size, 2, none⟩ = some (.int .i64 u) := hv.cell rfl
  have b0 : W2.cell? ⟨w.heap.size + 1, 0, none⟩ = some (.slice B n k) := ho2.cell rfl
  have b1 : W2.cell? ⟨w.heap.size + 1, 1, none⟩ = some (.int .i64 m) := ho2.cell rfl
  have b2 : W2.cell? ⟨w.heap.size + 1, 2, none⟩ = some (.int .i64 u) := ho2.cell rfl
  have c1 := conv_bytes W2 A n c l (unhide HN) ((unhide HA).keep (thenB hB1 hB2))
  have c2 := conv_bytes W2 B n k l (unhide HN) ((unhide HB).keep (thenB hB1 hB2))
  obtain ⟨S, hS⟩ : ∃ S, S = strOf l := ⟨_, rfl⟩
  rw [← hS] at c1 c2
  have HBB := hide (thenB hB1 hB2)
  clear hX1 hX2 hB1 hB2 ho1 ho2 hz1 hv hS
  go_wp2_with fail
  go_ret
  exact ⟨by simp, unhide HBB⟩
end Go.Proofs.YtceppmajbkmbdaaDoor
namespace Go.Proofs.YtceppmajbkmbdaaDoor
set_option linter.unusedSimpArgs false
set_option linter.unusedVariables false
open Go.RowKit

theorem dg_pubsL (seed : List Int) (m : Nat) : ∀ d ∈ pubsS seed m, Dg d := fun d hd => by
  obtain ⟨i, _, rfl⟩ := List.mem_map.1 hd
  exact dg_pubS _ _
theorem ds_low4 {w : World} {A : Option Addr} {l : List (List Int)} (h : Ds w A l) (hl : l ≠ []) (B : Nat) (hB : w.heap.size ≤ B) : Low B w.heap.size A := fun a e => by
  obtain ⟨b, o, e2, hc⟩ := h.at_ hl
  rw [e] at e2
  injection e2 with e2
  subst e2
  obtain ⟨d, r, rfl⟩ := List.exists_cons_of_ne_nil hl
  have hd := (h.dg d List.mem_cons_self).len
  have h0 := hc 0 d rfl 0 (.int .u8 (d[0]'(by omega))) (by rw [List.getElem?_map, List.getElem?_eq_getElem (by omega)]; rfl)
  have hlt : b < w.heap.size := lt_of_cell h0
  exact ⟨by show b < B; omega, by show b ≠ _; omega⟩

set_option maxRecDepth 100000 in
set_option maxHeartbeats 4000000 in
theorem rSign_bad (w : World) (A : Option Addr) (n c : Nat) (many used : Int) (hk : keyOk n many used = false) (v : Value) :
    Calls Tryd.prog 38 #[keyV A n c many used, v] w fun x w' => x = .returned signNone ∧ Below w.heap.size w w' := by
  have hik := fun W => rvalid_any W A n c many used
  rw [hk] at hik
  unfold keyV at ⊢
  have HIK := hide hik
  clear hik hk
  go_enter Tryd.func38, Tryd.ntmps38
  go_upto_region 1 with fail
  generalize hX1 : w.alloc _ = W1
  have hB1 : Below w.heap.size w W1 := hX1 ▸ (Below.refl _ _).alloc (Nat.le_refl _) _
  have ho1 : VsAt W1 w.heap.size 40 [.slice A n c, .int .i64 many, .int .i64 used] := boxedV w W1 _ _ (by rw [← hX1]; rfl)
  have hz1 : W1.heap.size = w.heap.size + 1 := by rw [← hX1]; show (w.heap.push _).size = _; rw [Array.size_push]
  generalize hX2 : W1.alloc _ = W2
  have hB2 : Below W1.heap.size W1 W2 := hX2 ▸ (Below.refl _ _).alloc (Nat.le_refl _) _
  have ho2 : VsAt W2 W1.heap.size 40 [.slice none 0 0, .int .i64 0, .int .i64 0] := boxedV W1 W2 _ _ (by rw [← hX2]; rfl)
  have hz2 : W2.heap.size = w.heap.size + 2 := by rw [← hX2]; show (W1.heap.push _).size = _; rw [Array.size_push]; omega
  generalize hX3 : W2.alloc _ = W3
  have hB3 : Below W2.heap.size W2 W3 := hX3 ▸ (Below.refl _ _).alloc (Nat.le_refl _) _
  have ho3 : VsAt W3 W2.heap.size 52 [.int .i64 0, .slice none 0 0, .slice none 0 0, .slice none 0 0] := boxedV W2 W3 _ _ (by rw [← hX3]; rfl)
  have hz3 : W3.heap.size = w.heap.size + 3 := by rw [← hX3]; show (W2.heap.push _).size = _; rw [Array.size_push]; omega
  rw [hz2] at ho3
  have hk2 := ho2.keep hB3
  rw [hz1] at hk2
  have HK1 := hide ((ho1.keep hB2).keep hB3)
  have HK2 := hide hk2
  have HK3 := hide ho3
  have HB3 := hide (thenB (thenB hB1 hB2) hB3)
  have HZ3 : Hid (w.heap.size + 3 ≤ W3.heap.size) := Nat.le_of_eq hz3.symm
  clear hX1 hB1 ho1 hz1 hX2 hB2 ho2 hz2 hk2 hX3 hB3 ho3 hz3
  refine wp_region_lit ?_
  refine wpList_load_mid rfl 40 (.tmp 2) rfl w.heap.size 0 rfl [.slice A n c, .int .i64 many, .int .i64 used] _ (unhide HK1).range Tryd.underlying40 rfl infoKey ?_
  try simp only [List.getElem_toArray, List.getElem_cons_zero, List.getElem_cons_succ, Act.put, List.setIfInBounds_toArray, List.set_cons_zero, List.set_cons_succ]
  go_wp2_with fail
  refine ((unhide HIK) W3).mono ?_; rintro x W4 ⟨rfl, hB4⟩
  have HL1 := hide ((unhide HK1).keep hB4)
  have HL2 := hide ((unhide HK2).keep hB4)
  have HL3 := hide ((unhide HK3).keep hB4)
  have HB4 := hide (thenB (unhide HB3) hB4)
  have HZ4 : Hid (w.heap.size + 3 ≤ W4.heap.size) := Nat.le_trans (unhide HZ3) hB4.size
  clear hB4 HK1 HK2 HK3 HB3 HZ3
  go_upto_region 2 with fail
  refine wp_region_lit ?_
  refine wpList_plain rfl fun Kt hKt => ?_
  go_simp
  refine hKt _ _ ?_
  clear hKt Kt
  refine wpList_plain rfl fun Kt hKt => ?_
  go_simp
  refine hKt _ _ ?_
  clear hKt Kt
  refine wpList_vput rfl 40 (.tmp 4) (.tmp 16) rfl (w.heap.size + 1) 0 rfl [.slice none 0 0, .int .i64 0, .int .i64 0] rfl infoKey (keyL_one _ _ _ _ _) _ _ (unhide HL2) (by simp) ?_
  intro W5 HW5 HG5
  have hw5 := unhide HW5
  rw [spliceV_all _ _ (by simp)] at hw5
  have HV5 := hide hw5
  have HB5 := hide ((unhide HB4).grown (unhide HG5) (unhide HB4).size (fun i e => by injection e with e; omega))
  have HS5 := hide ((unhide HL3).grown (unhide HG5) (fun e => by injection e with e; omega))
  clear hw5 HW5 HG5 HL2 HL3 HB4
  try simp only [List.getElem_toArray, List.getElem_cons_zero, List.getElem_cons_succ, Act.put, List.setIfInBounds_toArray, List.set_cons_zero, List.set_cons_succ]
  refine wpList_vput rfl 52 (.tmp 5) (.tmp 17) rfl (w.heap.size + 2) 0 rfl [.int .i64 0, .slice none 0 0, .slice none 0 0, .slice none 0 0] rfl infoSig (sigL_one _ _ _ _ _ _ _ _ _ _) _ _ (unhide HS5) (by simp) ?_
  intro W6 HW6 HG6
  have hw6 := unhide HW6
  rw [spliceV_all _ _ (by simp)] at hw6
  have HV6 := hide hw6
  have HB6 := hide ((unhide HB5).grown (unhide HG6) (unhide HB5).size (fun i e => by injection e with e; omega))
  have HK6 := hide ((unhide HV5).grown (unhide HG6) (fun e => by injection e with e; omega))
  clear hw6 HW6 HG6 HS5 HV5 HB5
  go_wp2_with fail
  try simp only [Exit.inBlock, Exit.then]
  exact vret3 rfl rfl (w.heap.size + 1) (w.heap.size + 2) rfl rfl _ _ _ _ (unhide HK6) (unhide HV6) _ _ Tryd.underlying40 rfl infoKey Tryd.underlying52 rfl infoSig _ rfl ⟨rfl, unhide HB6⟩
set_option maxRecDepth 100000 in
set_option maxHeartbeats 4000000 in
theorem rSign_spent (w : World) (A : Option Addr) (n c : Nat) (many : Int) (hk : keyOk n many many = true) (Am : Option Addr) (nm cm : Nat) (hm : nm ≤ 65536) :
    Calls Tryd.prog 38 #[keyV A n c many many, .slice Am nm cm] w fun x w' => x = .returned signNone ∧ Below w.heap.size w w' := by
  have hik := fun W => rvalid_any W A n c many many
  rw [hk] at hik
  unfold keyV at ⊢
  have HIK := hide hik
  have n65 : ¬ (65536 : Int) < (nm : Int) := by omega
  clear hik hk hm
  go_enter Tryd.func38, Tryd.ntmps38
  go_upto_region 1 with fail
  generalize hX1 : w.alloc _ = W1
  have hB1 : Below w.heap.size w W1 := hX1 ▸ (Below.refl _ _).alloc (Nat.le_refl _) _
  have ho1 : VsAt W1 w.heap.size 40 [.slice A n c, .int .i64 many, .int .i64 many] := boxedV w W1 _ _ (by rw [← hX1]; rfl)
  have hz1 : W1.heap.size = w.heap.size + 1 := by rw [← hX1]; show (w.heap.push _).size = _; rw [Array.size_push]
  generalize hX2 : W1.alloc _ = W2
  have hB2 : Below W1.heap.size W1 W2 := hX2 ▸ (Below.refl _ _).alloc (Nat.le_refl _) _
  have ho2 : VsAt W2 W1.heap.size 40 [.slice none 0 0, .int .i64 0, .int .i64 0] := boxedV W1 W2 _ _ (by rw [← hX2]; rfl)
  have hz2 : W2.heap.size = w.heap.size + 2 := by rw [← hX2]; show (W1.heap.push _).size = _; rw [Array.size_push]; omega
  generalize hX3 : W2.alloc _ = W3
  have hB3 : Below W2.heap.size W2 W3 := hX3 ▸ (Below.refl _ _).alloc (Nat.le_refl _) _
  have ho3 : VsAt W3 W2.heap.size 52 [.int .i64 0, .slice none 0 0, .slice none 0 0, .slice none 0 0] := boxedV W2 W3 _ _ (by rw [← hX3]; rfl)
  have hz3 : W3.heap.size = w.heap.size + 3 := by rw [← hX3]; show (W2.heap.push _).size = _; rw [Array.size_push]; omega
  rw [hz2] at ho3
  have hk2 := ho2.keep hB3
  rw [hz1] at hk2
  have HK1 := hide ((ho1.keep hB2).keep hB3)
  have HK2 := hide hk2
  have HK3 := hide ho3
  have HB3 := hide (thenB (thenB hB1 hB2) hB3)
  have HZ3 : Hid (w.heap.size + 3 ≤ W3.heap.size) := Nat.le_of_eq hz3.symm
  clear hX1 hB1 ho1 hz1 hX2 hB2 ho2 hz2 hk2 hX3 hB3 ho3 hz3
  refine wp_region_lit ?_
  refine wpList_load_mid rfl 40 (.tmp 2) rfl w.heap.size 0 rfl [.slice A n c, .int .i64 many, .int .i64 many] _ (unhide HK1).range Tryd.underlying40 rfl infoKey ?_
  try simp only [List.getElem_toArray, List.getElem_cons_zero, List.getElem_cons_succ, Act.put, List.setIfInBounds_toArray, List.set_cons_zero, List.set_cons_succ]
  go_wp2_with fail
  refine ((unhide HIK) W3).mono ?_; rintro x W4 ⟨rfl, hB4⟩
  have HL1 := hide ((unhide HK1).keep hB4)
  have HL2 := hide ((unhide HK2).keep hB4)
  have HL3 := hide ((unhide HK3).keep hB4)
  have HB4 := hide (thenB (unhide HB3) hB4)
  have HZ4 : Hid (w.heap.size + 3 ≤ W4.heap.size) := Nat.le_trans (unhide HZ3) hB4.size
  clear hB4 HK1 HK2 HK3 HB3 HZ3
  have hc1 : W4.cell? ⟨w.heap.size, 1, none⟩ = some (.int .i64 many) := (unhide HL1).cell rfl
  have hc2 : W4.cell? ⟨w.heap.size, 2, none⟩ = some (.int .i64 many) := (unhide HL1).cell rfl
  go_upto_region 6 with fail
  refine wp_region_lit ?_
  refine wpList_plain rfl fun Kt hKt => ?_
  go_simp
  refine hKt _ _ ?_
  clear hKt Kt
  refine wpList_plain rfl fun Kt hKt => ?_
  go_simp
  refine hKt _ _ ?_
  clear hKt Kt
  refine wpList_vput rfl 40 (.tmp 4) (.tmp 28) rfl (w.heap.size + 1) 0 rfl [.slice none 0 0, .int .i64 0, .int .i64 0] rfl infoKey (keyL_one _ _ _ _ _) _ _ (unhide HL2) (by simp) ?_
  intro W5 HW5 HG5
  have hw5 := unhide HW5
  rw [spliceV_all _ _ (by simp)] at hw5
  have HV5 := hide hw5
  have HB5 := hide ((unhide HB4).grown (unhide HG5) (unhide HB4).size (fun i e => by injection e with e; omega))
  have HS5 := hide ((unhide HL3).grown (unhide HG5) (fun e => by injection e with e; omega))
  clear hw5 HW5 HG5 HL2 HL3 HB4
  try simp only [List.getElem_toArray, List.getElem_cons_zero, List.getElem_cons_succ, Act.put, List.setIfInBounds_toArray, List.set_cons_zero, List.set_cons_succ]
  refine wpList_vput rfl 52 (.tmp 5) (.tmp 29) rfl (w.heap.size + 2) 0 rfl [.int .i64 0, .slice none 0 0, .slice none 0 0, .slice none 0 0] rfl infoSig (sigL_one _ _ _ _ _ _ _ _ _ _) _ _ (unhide HS5) (by simp) ?_
  intro W6 HW6 HG6
  have hw6 := unhide HW6
  rw [spliceV_all _ _ (by simp)] at hw6
  have HV6 := hide hw6
  have HB6 := hide ((unhide HB5).grown (unhide HG6) (unhide HB5).size (fun i e => by injection e with e; omega))
  have HK6 := hide ((unhide HV5).grown (unhide HG6) (fun e => by injection e with e; omega))
  clear hw6 HW6 HG6 HS5 HV5 HB5
  go_wp2_with fail
  try simp only [Exit.inBlock, Exit.then]
  exact vret3 rfl rfl (w.heap.size + 1) (w.heap.size + 2) rfl rfl _ _ _ _ (unhide HK6) (unhide HV6) _ _ Tryd.underlying40 rfl infoKey Tryd.underlying52 rfl infoSig _ rfl ⟨rfl, unhide HB6⟩
set_option maxRecDepth 100000 in
set_option maxHeartbeats 8000000 in
theorem rSign_ok (w : World) (A : Option Addr) (n c : Nat) (seed : List Int) (hn : n = seed.length) (hc : n ≤ c) (hA : Bt w A seed) (hA0 : A = none → c = 0) (many used : Nat) (hk : keyOk n (many : Int) (used : Int) = true) (hu : used < many)
    (Am : Option Addr) (nm cm : Nat) (msg : List Int) (hnm : nm = msg.length) (hcm : nm ≤ cm) (hAm : Bt w Am msg) (hAm0 : Am = none → cm = 0) (h65 : nm ≤ 65536) :
    Calls Tryd.prog 38 #[keyV A n c (many : Int) (used : Int), .slice Am nm cm] w (SignIs w A n c seed many used msg) := by
  have hk' := hk
  unfold keyOk at hk'
  rw [decide_eq_true_eq] at hk'
  have HA := hide hA; have HM := hide hAm
  have HN : Hid (n = seed.length ∧ 1 ≤ n ∧ n ≤ 1000 ∧ n ≤ c ∧ 1 ≤ many ∧ many ≤ 4096 ∧ used < many ∧ (A = none → c = 0)) := ⟨hn, by omega, by omega, hc, by omega, by omega, hu, hA0⟩
  have HNM : Hid (nm = msg.length ∧ nm ≤ cm ∧ (Am = none → cm = 0) ∧ nm ≤ 65536) := ⟨hnm, hcm, hAm0, h65⟩
  have hik := fun W => rvalid_any W A n c (many : Int) (used : Int)
  rw [hk] at hik
  have hpk := fun W (hb : Below w.heap.size w W) => rkeys_any W A n c seed hn (by omega) hc (hA.keep hb) hA0 many (by omega) (used : Int)
  have hsk := fun W (hb : Below w.heap.size w W) (j b : Nat) (hj : j < 256) (hb2 : b < 256) => rsecret_any W A n c seed hn (by omega) hc (hA.keep hb) hA0 (many : Int) (used : Int) used (by omega) j b hj hb2
  have n65 : ¬ (65536 : Int) < (nm : Int) := by omega
  have num : ¬ (used : Int) = (many : Int) := by omega
  obtain ⟨u1, hu1⟩ : ∃ u, u = used + 1 := ⟨_, rfl⟩
  have HU1 := hide hu1
  have wu : IntKind.i64.wrap ((used : Int) + 1) = (u1 : Int) := (IntWalk.i64_in _ (by omega)).trans (by omega)
  unfold keyV at ⊢
  have HIK := hide hik; have HPK := hide hpk; have HWU := hide wu; have HSK := hide hsk
  obtain ⟨T, hTT⟩ : ∃ t, t = treeP (pubsS seed many) := ⟨_, rfl⟩
  obtain ⟨bs, hbs⟩ : ∃ b, b = bitsS T used msg := ⟨_, rfl⟩
  have HTT := hide hTT; have HBS := hide hbs
  have hgT : Dg T := hTT ▸ dg_tree _
  have HGT := hide hgT
  obtain ⟨ct, hct⟩ : ∃ cs, cs = (T.map (Value.int .u8)).toArray := ⟨_, rfl⟩
  have hst : ct.size = 32 := by rw [hct]; simpa using hgT.len
  have HCT := hide hct
  have hbl : bs.length = 64 := by rw [hbs]; exact bitsS_length _ _ _
  have HBL := hide hbl
  clear hA hA0 hn hc hk hk' hik hpk hsk hnm hcm hAm hAm0 h65 hu wu hTT hbs hgT hct hbl hu1
  go_enter Tryd.func38, Tryd.ntmps38
  go_upto_region 1 with fail
  generalize hX1 : w.alloc _ = W1
  have hB1 : Below w.heap.size w W1 := hX1 ▸ (Below.refl _ _).alloc (Nat.le_refl _) _
  have ho1 : VsAt W1 w.heap.size 40 [.slice A n c, .int .i64 (many : Int), .int .i64 (used : Int)] := boxedV w W1 _ _ (by rw [← hX1]; rfl)
  have hz1 : W1.heap.size = w.heap.size + 1 := by rw [← hX1]; show (w.heap.push _).size = _; rw [Array.size_push]
  generalize hX2 : W1.alloc _ = W2
  have hB2 : Below W1.heap.size W1 W2 := hX2 ▸ (Below.refl _ _).alloc (Nat.le_refl _) _
  have ho2 : VsAt W2 W1.heap.size 40 [.slice none 0 0, .int .i64 0, .int .i64 0] := boxedV W1 W2 _ _ (by rw [← hX2]; rfl)
  have hz2 : W2.heap.size = w.heap.size + 2 := by rw [← hX2]; show (W1.heap.push _).size = _; rw [Array.size_push]; omega
  generalize hX3 : W2.alloc _ = W3
  have hB3 : Below W2.heap.size W2 W3 := hX3 ▸ (Below.refl _ _).alloc (Nat.le_refl _) _
  have ho3 : VsAt W3 W2.heap.size 52 [.int .i64 0, .slice none 0 0, .slice none 0 0, .slice none 0 0] := boxedV W2 W3 _ _ (by rw [← hX3]; rfl)
  have hz3 : W3.heap.size = w.heap.size + 3 := by rw [← hX3]; show (W2.heap.push _).size = _; rw [Array.size_push]; omega
  rw [hz2] at ho3
  have hk2 := ho2.keep hB3
  rw [hz1] at hk2
  have HK1 := hide ((ho1.keep hB2).keep hB3)
  have HK2 := hide hk2
  have HK3 := hide ho3
  have HB3 := hide (thenB (thenB hB1 hB2) hB3)
  have HZ3 : Hid (w.heap.size + 3 ≤ W3.heap.size) := Nat.le_of_eq hz3.symm
  clear hX1 hB1 ho1 hz1 hX2 hB2 ho2 hz2 hk2 hX3 hB3 ho3 hz3
  refine wp_region_lit ?_
  refine wpList_load_mid rfl 40 (.tmp 2) rfl w.heap.size 0 rfl [.slice A n c, .int .i64 (many : Int), .int .i64 (used : Int)] _ (unhide HK1).range Tryd.underlying40 rfl infoKey ?_
  try simp only [List.getElem_toArray, List.getElem_cons_zero, List.getElem_cons_succ, Act.put, List.setIfInBounds_toArray, List.set_cons_zero, List.set_cons_succ]
  go_wp2_with fail
  refine ((unhide HIK) W3).mono ?_; rintro x W4 ⟨rfl, hB4⟩
  have HL1 := hide ((unhide HK1).keep hB4)
  have HL2 := hide ((unhide HK2).keep hB4)
  have HL3 := hide ((unhide HK3).keep hB4)
  have HB4 := hide (thenB (unhide HB3) hB4)
  have HZ4 : Hid (w.heap.size + 3 ≤ W4.heap.size) := Nat.le_trans (unhide HZ3) hB4.size
  clear hB4 HK1 HK2 HK3 HB3 HZ3
  have hc1 : W4.cell? ⟨w.heap.size, 1, none⟩ = some (.int .i64 (many : Int)) := (unhide HL1).cell rfl
  have hc2 : W4.cell? ⟨w.heap.size, 2, none⟩ = some (.int .i64 (used : Int)) := (unhide HL1).cell rfl
  go_upto_region 7 with fail
  refine wp_region_lit ?_
  refine wpList_load_mid rfl 40 (.tmp 2) rfl w.heap.size 0 rfl [.slice A n c, .int .i64 (many : Int), .int .i64 (used : Int)] _ (unhide HL1).range Tryd.underlying40 rfl infoKey ?_
  try simp only [List.getElem_toArray, List.getElem_cons_zero, List.getElem_cons_succ, Act.put, List.setIfInBounds_toArray, List.set_cons_zero, List.set_cons_succ]
  go_wp2_with fail
  refine ((unhide HPK) W4 (unhide HB4)).mono ?_; rintro x W5 ⟨⟨v5, rfl, ho5⟩, hB5⟩
  obtain ⟨A4, c4, rfl, hc4, hds4, hn4⟩ := own_form ho5 (dg_pubsL seed many)
  rw [pubsS_length] at hc4 ⊢
  have HM1 := hide ((unhide HL1).keep hB5)
  have HM2 := hide ((unhide HL2).keep hB5)
  have HM3 := hide ((unhide HL3).keep hB5)
  have HB5 := hide (thenB (unhide HB4) hB5)
  have HZ5 : Hid (w.heap.size + 3 ≤ W5.heap.size) := Nat.le_trans (unhide HZ4) hB5.size
  have HDS := hide hds4
  have HC4 : Hid (many ≤ c4) := hc4
  have h52 : W5.cell? ⟨w.heap.size, 2, none⟩ = some (.int .i64 (used : Int)) := (unhide HM1).cell rfl
  clear hB5 hc4 hds4 hn4 ho5 hc1 hc2 HL1 HL2 HL3 HB4 HZ4
  go_upto_region 8 with fail
  refine wp_region_lit ?_
  refine wpList_plain rfl fun Kt hKt => ?_
  go_simp
  refine hKt _ _ ?_
  clear hKt Kt
  refine wpList_plain rfl fun Kt hKt => ?_
  go_simp
  refine hKt _ _ ?_
  clear hKt Kt
  refine wpList_plain rfl fun Kt hKt => ?_
  go_simp
  refine hKt _ _ ?_
  clear hKt Kt
  refine wpList_plain rfl fun Kt hKt => ?_
  go_simp
  refine hKt _ _ ?_
  clear hKt Kt
  generalize hX6 : W5.alloc _ = W6
  have hB6 : Below W5.heap.size W5 W6 := hX6 ▸ (Below.refl _ _).alloc (Nat.le_refl _) _
  have ho6 : VsAt W6 W5.heap.size 52 [.int .i64 0, .slice none 0 0, .slice none 0 0, .slice none 0 0] := boxedV W5 W6 _ _ (by rw [← hX6]; rfl)
  have hz6 : W6.heap.size = W5.heap.size + 1 := by rw [← hX6]; show (W5.heap.push _).size = _; rw [Array.size_push]
  obtain ⟨NS, hNS⟩ : ∃ N, N = W5.heap.size := ⟨_, rfl⟩
  have HNS : Hid (NS = W5.heap.size ∧ w.heap.size + 3 ≤ NS ∧ NS < W6.heap.size) := ⟨hNS, by have := unhide HZ5; omega, by omega⟩
  have HLA : Hid (∀ V : World, W5.heap.size ≤ V.heap.size → Low V.heap.size NS A4) := fun V hV => hNS ▸ ds_low4 (unhide HDS) (pubs_ne seed many (unhide HN).2.2.2.2.1) V.heap.size hV
  rw [← hNS] at ho6 ⊢
  refine wpList_vput rfl 52 (.tmp 8) (.tmp 34) rfl NS 0 rfl [.int .i64 (used : Int), .slice none 0 0, .slice none 0 0, .slice none 0 0] rfl infoSig (sigL_one _ _ _ _ _ _ _ _ _ _) _ _ ho6 (by simp) ?_
  intro W7 HW7 HG7
  have hw7 := unhide HW7
  rw [spliceV_all _ _ (by simp)] at hw7
  have hB57 : Below W5.heap.size W5 W7 := hB6.grown (unhide HG7) hB6.size (fun i e => by injection e with e; omega)
  have HS7 := hide hw7
  have HQ1 := hide ((unhide HM1).keep hB57)
  have HQ2 := hide ((unhide HM2).keep hB57)
  have HQ3 := hide ((unhide HM3).keep hB57)
  have HDS7 := hide ((unhide HDS).keep hB57)
  have HB7 := hide (thenB (unhide HB5) hB57)
  have HZ57 : Hid (W5.heap.size ≤ W7.heap.size ∧ NS < W7.heap.size) := ⟨hB57.size, lt_of_block hw7⟩
  clear hw7 HW7 HG7 hX6 hB6 ho6 hz6 hNS hB57 HM1 HM2 HM3 h52 HDS HB5 HZ5
  try simp only [List.getElem_toArray, List.getElem_cons_zero, List.getElem_cons_succ, Act.put, List.setIfInBounds_toArray, List.set_cons_zero, List.set_cons_succ]
  go_upto_region 9 with fail
  obtain ⟨W, hW⟩ : ∃ W, W = W7.drewN 1 := ⟨_, rfl⟩
  have HW : Hid (W = W7.drewN 1) := hW
  have hSW : Below W7.heap.size W7 W := below_named HW
  clear hW
  have HTR : Hid (∀ V, Below W7.heap.size W7 V → Calls Tryd.prog 16 #[.slice A4 many c4] V fun x w' => x = .returned (.agg ct) ∧ Below V.heap.size V w') := fun V hV => by
    have := rtree_any V c4 A4 (pubsS seed many) ((unhide HDS7).keep hV) (by rw [pubsS_length]; exact unhide HC4) (by rw [pubsS_length]; have := unhide HN; omega)
    rw [pubsS_length, treeD_ne (pubs_ne seed many (unhide HN).2.2.2.2.1), ← unhide HTT, show dv T = .agg ct by rw [unhide HCT]] at this
    exact this
  have HBITS : Hid (∀ V, Below W7.heap.size W7 V → Calls Tryd.prog 32 #[.agg ct, .int .i64 (used : Int), .slice Am nm cm] V fun x w' => ∃ A9 c9, x = .returned (.slice A9 64 c9) ∧ 64 ≤ c9 ∧ Bl w' A9 bs ∧ Below V.heap.size V w') := fun V hV => by
    have := rBits_ok V T (unhide HGT) used (by have := unhide HN; omega) Am nm cm msg (unhide HNM).1 (unhide HNM).2.1 ((unhide HM).keep (thenB (unhide HB7) hV)) (unhide HNM).2.2.1 (unhide HNM).2.2.2
    rw [← unhide HBS, unhide HBL, show dv T = .agg ct by rw [unhide HCT]] at this
    exact this
  refine held (S := Below W7.heap.size W7) W HW (by kernel_rfl) ?_
  refine wpAnyH_take (i := 0) (v := ?_) rfl (by kernel_rfl) (by kernel_rfl) (by kernel_rfl) (fun _ _ _ h => h) (Or.inl ⟨by kernel_rfl, ?_⟩) (by assumption) ?_
  rotate_left
  · intro Wt hSt
    go_simp
    try with_reducible rfl
  try simp only [List.getElem_toArray, List.getElem_cons_zero, List.getElem_cons_succ, Act.put, List.setIfInBounds_toArray, List.set_cons_zero, List.set_cons_succ]
  refine wpAnyH_take (i := 2) (v := ?_) rfl (by kernel_rfl) (by kernel_rfl) (by kernel_rfl) (fun _ _ _ h => h) (Or.inl ⟨by kernel_rfl, ?_⟩) (by assumption) ?_
  rotate_left
  · intro Wt hSt
    go_simp
    try with_reducible rfl
  try simp only [List.getElem_toArray, List.getElem_cons_zero, List.getElem_cons_succ, Act.put, List.setIfInBounds_toArray, List.set_cons_zero, List.set_cons_succ]
  refine wpAnyH_take (i := 3) (v := ?_) rfl (by kernel_rfl) (by kernel_rfl) (by kernel_rfl) (fun _ _ _ h => h) (Or.inl ⟨by kernel_rfl, ?_⟩) (by assumption) ?_
  rotate_left
  · intro Wt hSt
    have hct := (show Wt.cell? ⟨w.heap.size, 2, none⟩ = some (.int .i64 (used : Int)) from ((unhide HQ1).keep hSt).cell rfl)
    go_simp
    try with_reducible rfl
  try simp only [List.getElem_toArray, List.getElem_cons_zero, List.getElem_cons_succ, Act.put, List.setIfInBounds_toArray, List.set_cons_zero, List.set_cons_succ]
  refine wpAnyH_take (i := 4) (v := ?_) rfl (by kernel_rfl) (by kernel_rfl) (by kernel_rfl) (fun _ _ _ h => h) (Or.inl ⟨by kernel_rfl, ?_⟩) (by assumption) ?_
  rotate_left
  · intro Wt hSt
    go_simp
    try with_reducible rfl
  try simp only [List.getElem_toArray, List.getElem_cons_zero, List.getElem_cons_succ, Act.put, List.setIfInBounds_toArray, List.set_cons_zero, List.set_cons_succ]
  refine wpAnyH_chainOf [1, 5, 6] _ _ _ (by kernel_rfl) (by kernel_rfl) ?_
  simp only [List.filterMap_cons, List.filterMap_nil, List.getElem?_toArray, List.getElem?_cons_zero, List.getElem?_cons_succ]
  refine wpChain_step rfl fun K hK => ?_
  go_simp
  refine ((unhide HTR) W hSW).mono ?_; rintro x V1 ⟨rfl, hB1⟩
  have hS1 := thenB hSW hB1
  dsimp only
  refine hK _ _ hS1 ?_
  clear hK K
  refine wpChain_step rfl fun K hK => ?_
  go_simp
  refine ((unhide HBITS) V1 hS1).mono ?_; rintro x V2 ⟨A9, c9, rfl, hc9, hL9, hB2⟩
  have hS2 := thenB hS1 hB2
  dsimp only
  refine hK _ _ hS2 ?_
  clear hK K
  refine wpChain_step rfl fun K hK => ?_
  go_simp
  refine hK _ _ hS2 (wpChain_nil ?_)
  clear hK K
  obtain ⟨b9, o9, rfl, hbit⟩ := hL9 (fun e => by have := unhide HBL; rw [e] at this; simp at this)
  have k64c : (64 : Int) ≤ (c9 : Int) := by omega
  have hsig := (unhide HS7).keep hS2
  have hb9 : b9 ≠ NS := fun e => by
    subst e
    obtain ⟨z, hz⟩ : ∃ z, bs[0]? = some z := ⟨_, List.getElem?_eq_getElem (by rw [unhide HBL]; omega)⟩
    have h1 := hbit 0 z hz
    have h2 : V2.heap[b9]? = _ := hsig
    simp only [World.cell?, h2] at h1
    rw [Nat.add_zero] at h1
    match o9, h1 with
    | 0, h1 => simp at h1
    | 1, h1 => simp at h1
    | 2, h1 => simp at h1
    | 3, h1 => simp at h1
    | k + 4, h1 => simp at h1
  have HBIT := hide hbit
  have HB9 : Hid (b9 ≠ NS) := hb9
  have HR1 := hide ((unhide HQ1).keep hS2)
  have HR2 := hide ((unhide HQ2).keep hS2)
  have HR3 := hide ((unhide HQ3).keep hS2)
  have HDS2 := hide ((unhide HDS7).keep hS2)
  have HBV := hide (thenB (unhide HB7) hS2)
  have HLOW : Hid (w.heap.size + 2 < NS ∧ NS < V2.heap.size) := ⟨by have := unhide HNS; omega, Nat.lt_of_lt_of_le (unhide HZ57).2 hS2.size⟩
  have HLA2 := hide ((unhide HLA) V2 (Nat.le_trans (unhide HZ57).1 hS2.size))
  have HI0 : Hid (SgInv V2.heap.size NS V2 used seed bs 0 0 (.slice none 0 0) (.slice none 0 0) V2) := ⟨hsig, World.ownsRow_nil _ _ _ _, World.ownsRow_nil _ _ _ _, (fun b hb => by cases hb), GK.refl _ _ _, Nat.le_refl _, (unhide HLOW).2⟩
  clear hB1 hB2 hS1 hS2 hSW hc9 hL9 hbit hsig hb9 HS7 HQ1 HQ2 HQ3 HDS7 HB7 HLA HTR HBITS
  go_wp2_with fail
  go_loopg [10] 64 (fun g y10 wx => ∃ (k : Nat) (vO vC : Value), g + k = 64 ∧ y10 = .int .i64 (k : Int) ∧ SgInv V2.heap.size NS V2 used seed bs k k vO vC wx)
  case atStart => exact ⟨0, _, _, rfl, rfl, unhide HI0⟩
  case round =>
    obtain ⟨k, vO, vC, hk, rfl, hinv⟩ := hrel
    cases gk with
    | zero =>
      obtain rfl : k = 64 := by omega
      have HI := hide hinv
      clear hk hinv
      have hv0 := (unhide HI).gk.vs (unhide HR1) (by have := unhide HLOW; omega) (by have := unhide HLOW; omega)
      have h02 : wr.cell? ⟨w.heap.size, 2, none⟩ = some (.int .i64 (used : Int)) := hv0.cell rfl
      have hpa := rPath_ok (pubsS seed many) (by rw [pubsS_length]; have := unhide HN; omega) used wr c4 A4 (by rw [pubsS_length]; have := unhide HN; omega) ((unhide HI).gk.ds (unhide HDS2) (unhide HLA2)) (by rw [pubsS_length]; exact unhide HC4)
      rw [pubsS_length] at hpa
      have HPA := hide hpa
      clear hpa hv0
      go_wp2_with fail
      refine (unhide HPA).mono ?_; rintro x X1 ⟨⟨vp, rfl, hop⟩, hB1⟩
      obtain ⟨A3, c3, rfl, hc3, hd3, hn3⟩ := own_form hop (pathP_spec many (pubsS seed many) used (pubsS_length seed many) (by have := unhide HN; omega)).2.1
      have hi1 := (unhide HI).keep hB1
      have hs1 := hi1.sig
      have hc13 : X1.cell? ⟨NS, 3, none⟩ = some (.slice none 0 0) := hs1.cell rfl
      have hf13 := hs1.free 3
      obtain ⟨pl, hplen⟩ : ∃ p, p = (pathP (pubsS seed many) used).length := ⟨_, rfl⟩
      rw [← hplen] at hc3 ⊢
      have HPLEN := hide hplen
      have HI1 := hide hi1; have HOP := hide hop; have HC3 : Hid (pl ≤ c3 ∧ (A3 = none → c3 = 0)) := ⟨hc3, hn3⟩
      have HLTW : Hid (V2.heap.size ≤ wr.heap.size) := (unhide HI).gk.size
      clear hop hc3 hd3 hn3 hi1 hs1 hplen hB1 h02 HPA
      rw [← unhide HPLEN] at HOP
      go_upto_region 19 with fail
      generalize hY1 : X1.setCell _ _ = Y1
      have hlow := unhide HLOW
      have hsg1 := (unhide HI1).sig.set 3 (.slice A3 pl c3)
      rw [hY1] at hsg1
      have hky1 : VsAt Y1 w.heap.size _ _ := hY1 ▸ vs_set (o := 3) (u := .slice A3 pl c3) ((unhide HI1).gk.vs (unhide HR1) (by omega) (by omega)) (show w.heap.size ≠ NS by omega)
      have hk1 : VsAt Y1 (w.heap.size + 1) _ _ := hY1 ▸ vs_set (o := 3) (u := .slice A3 pl c3) ((unhide HI1).gk.vs (unhide HR2) (by omega) (by omega)) (show w.heap.size + 1 ≠ NS by omega)
      have hk3 : VsAt Y1 (w.heap.size + 2) _ _ := hY1 ▸ vs_set (o := 3) (u := .slice A3 pl c3) ((unhide HI1).gk.vs (unhide HR3) (by omega) (by omega)) (show w.heap.size + 2 ≠ NS by omega)
      have hop1 : OwnD Y1 V2.heap.size vO _ := hY1 ▸ (unhide HI1).op.putAt (o := 3) (u := .slice A3 pl c3) hlow.2
      have hcl1 : OwnD Y1 V2.heap.size vC _ := hY1 ▸ (unhide HI1).cl.putAt (o := 3) (u := .slice A3 pl c3) hlow.2
      have hpa1 : OwnD Y1 wr.heap.size (.slice A3 pl c3) _ := hY1 ▸ (unhide HOP).putAt (o := 3) (u := .slice A3 pl c3) (by have := unhide HLTW; omega)
      have hg1 : X1.grownBy Y1 (some NS) := hY1 ▸ grownSet (World.grownBy.refl X1 (some NS)) 3 _
      have hb1 : Below w.heap.size w X1 := (unhide HI1).gk.under (unhide HBV) (by omega) (by omega)
      have hbY1 : Below w.heap.size w Y1 := hb1.grown hg1 hb1.size (fun i e => by injection e with e; omega)
      obtain ⟨A1, c1, hv1, hcp1, hds1, _⟩ := own_form hop1 (dg_openedS _ _ _ _)
      obtain ⟨A2, c2, hv2, hcp2, hds2, _⟩ := own_form hcl1 (dg_closedS _ _ _ _)
      rw [openedS_length] at hv1 hcp1
      rw [closedS_length] at hv2 hcp2
      rw [hv1] at hop1
      rw [hv2] at hcl1
      rw [hv1, hv2] at hsg1
      have hsgY : VsAt Y1 NS 52 [.int .i64 (used : Int), .slice A1 64 c1, .slice A2 64 c2, .slice A3 pl c3] := hsg1
      have HSGY := hide hsgY; have HKY1 := hide hky1; have HKR1 := hide hk1; have HKR3 := hide hk3; have HOP1 := hide hop1; have HCL1 := hide hcl1; have HPA1 := hide hpa1; have HBY := hide hbY1
      have HCP : Hid (64 ≤ c1 ∧ 64 ≤ c2) := ⟨hcp1, hcp2⟩
      have HNSY : Hid (NS < Y1.heap.size) := lt_of_block hsgY
      clear hY1 hsg1 hky1 hk1 hk3 hop1 hcl1 hpa1 hg1 hb1 hbY1 hds1 hds2 hcp1 hcp2 hv1 hv2 hlow hc13 hf13 hsgY HI1 HOP
      refine wp_region_lit ?_
      refine wpList_load_mid rfl 40 (.tmp 2) rfl w.heap.size 0 rfl [.slice A n c, .int .i64 (many : Int), .int .i64 (used : Int)] _ (unhide HKY1).range Tryd.underlying40 rfl infoKey ?_
      try simp only [List.getElem_toArray, List.getElem_cons_zero, List.getElem_cons_succ, Act.put, List.setIfInBounds_toArray, List.set_cons_zero, List.set_cons_succ]
      refine wpList_plain rfl fun Kt hKt => ?_
      go_simp
      refine hKt _ _ ?_
      clear hKt Kt
      generalize hX2 : Y1.alloc _ = Y2
      have hB2 : Below Y1.heap.size Y1 Y2 := hX2 ▸ (Below.refl _ _).alloc (Nat.le_refl _) _
      have ho2 : VsAt Y2 Y1.heap.size 40 [.slice none 0 0, .int .i64 0, .int .i64 0] := boxedV Y1 Y2 _ _ (by rw [← hX2]; rfl)
      refine wpList_vput rfl 40 (.tmp 12) (.tmp 81) rfl Y1.heap.size 0 rfl [.slice A n c, .int .i64 (many : Int), .int .i64 (used : Int)] rfl infoKey (keyL_one _ _ _ _ _) _ _ ho2 (by simp) ?_
      intro Y3 HX3 HG3
      have hx3 := unhide HX3
      rw [spliceV_all _ _ (by simp)] at hx3
      have hB3 : Below Y1.heap.size Y1 Y3 := hB2.grown (unhide HG3) hB2.size (fun i e => by injection e with e; omega)
      have HB3 := hide hB3
      have HX3' := hide hx3
      obtain ⟨NX, hNX⟩ : ∃ N, N = Y1.heap.size := ⟨_, rfl⟩
      have HNX : Hid (NX = Y1.heap.size) := hNX
      rw [← hNX] at HX3' ⊢
      have hcx2 : Y3.cell? ⟨NX, 2, none⟩ = some (.int .i64 (used : Int)) := (unhide HX3').cell rfl
      have hfx2 := (unhide HX3').free 2
      have wu := unhide HWU
      clear hX2 hB2 ho2 HX3 HG3 hx3 hB3 hNX
      try simp only [List.getElem_toArray, List.getElem_cons_zero, List.getElem_cons_succ, Act.put, List.setIfInBounds_toArray, List.set_cons_zero, List.set_cons_succ]
      go_upto_region 21 with fail
      generalize hY4 : Y3.setCell _ _ = Y4
      have hx4 := (unhide HX3').set 2 (.int .i64 (u1 : Int))
      rw [hY4] at hx4
      have hg4 : Y3.grownBy Y4 (some NX) := hY4 ▸ grownSet (World.grownBy.refl Y3 (some NX)) 2 _
      have hB14 : Below Y1.heap.size Y1 Y4 := (unhide HB3).grown hg4 (unhide HB3).size (fun i e => by injection e with e; have := unhide HNX; omega)
      obtain ⟨W, hW⟩ : ∃ W, W = Y4.drewN 1 := ⟨_, rfl⟩
      have HW : Hid (W = Y4.drewN 1) := hW
      have hbn : Below Y1.heap.size Y1 W := thenB hB14 (below_named HW)
      have hxW : VsAt W NX 40 [.slice A n c, .int .i64 (many : Int), .int .i64 (u1 : Int)] := hx4.keep (below_named HW)
      have hsW : VsAt W NS 52 [.int .i64 (used : Int), .slice A1 64 c1, .slice A2 64 c2, .slice A3 pl c3] := (unhide HSGY).keep hbn
      have HK1W := hide ((unhide HKR1).keep hbn); have HK3W := hide ((unhide HKR3).keep hbn)
      have HOP2 := hide ((unhide HOP1).later hbn); have HCL2 := hide ((unhide HCL1).later hbn); have HPA2 := hide ((unhide HPA1).later hbn)
      have HBZ := hide (thenB (unhide HBY) hbn)
      have HNN : Hid (w.heap.size + 2 < NS ∧ NS < NX ∧ NS < V2.heap.size ∧ V2.heap.size ≤ wr.heap.size) := ⟨(unhide HLOW).1, by have := unhide HNX; have := unhide HNSY; omega, (unhide HLOW).2, unhide HLTW⟩
      have hS0 : VsAt W NX 40 [.slice A n c, .int .i64 (many : Int), .int .i64 (u1 : Int)] ∧ VsAt W NS 52 [.int .i64 (used : Int), .slice A1 64 c1, .slice A2 64 c2, .slice A3 pl c3] := ⟨hxW, hsW⟩
      clear hY4 hx4 hg4 hB14 hW hbn hxW hsW hcx2 hfx2 wu HX3' HB3 HSGY HKY1 HKR1 HKR3 HOP1 HCL1 HPA1 HBY HNSY
      refine held (S := fun V => VsAt V NX 40 [.slice A n c, .int .i64 (many : Int), .int .i64 (u1 : Int)] ∧ VsAt V NS 52 [.int .i64 (used : Int), .slice A1 64 c1, .slice A2 64 c2, .slice A3 pl c3]) W HW (by kernel_rfl) ?_
      refine wpAnyH_take (i := 0) (v := .agg [.slice A n c, .int .i64 (many : Int), .int .i64 (u1 : Int)].toArray) rfl (by kernel_rfl) (by kernel_rfl) (by kernel_rfl) (fun _ _ _ h => h) (yieldsIf_load_mid (by kernel_rfl) 40 (.tmp 12) rfl NX 0 rfl [.slice A n c, .int .i64 (many : Int), .int .i64 (u1 : Int)] _ (fun W hS => hS.1.range) Tryd.underlying40 rfl infoKey) (by assumption) ?_
      try simp only [List.getElem_toArray, List.getElem_cons_zero, List.getElem_cons_succ, Act.put, List.setIfInBounds_toArray, List.set_cons_zero, List.set_cons_succ]
      refine wpAnyH_take (i := 1) (v := .agg [.int .i64 (used : Int), .slice A1 64 c1, .slice A2 64 c2, .slice A3 pl c3].toArray) rfl (by kernel_rfl) (by kernel_rfl) (by kernel_rfl) (fun _ _ _ h => h) (yieldsIf_load_mid (by kernel_rfl) 52 (.tmp 8) rfl NS 0 rfl [.int .i64 (used : Int), .slice A1 64 c1, .slice A2 64 c2, .slice A3 pl c3] _ (fun W hS => hS.2.range) Tryd.underlying52 rfl infoSig) (by assumption) ?_
      try simp only [List.getElem_toArray, List.getElem_cons_zero, List.getElem_cons_succ, Act.put, List.setIfInBounds_toArray, List.set_cons_zero, List.set_cons_succ]
      refine wpAnyH_chainOf [2, 3, 4] _ _ _ (by kernel_rfl) (by kernel_rfl) ?_
      simp only [List.filterMap_cons, List.filterMap_nil, List.getElem?_toArray, List.getElem?_cons_zero, List.getElem?_cons_succ]
      refine wpChain_vput rfl 40 (.tmp 4) (.tmp 86) rfl (w.heap.size + 1) 0 rfl [.slice A n c, .int .i64 (many : Int), .int .i64 (u1 : Int)] rfl infoKey (keyL_one _ _ _ _ _) _ _ (unhide HK1W) (by simp) ?_
      intro Z1 HZ1 HGZ1
      have hz1 := unhide HZ1
      rw [spliceV_all _ _ (by simp)] at hz1
      have hS1 : VsAt Z1 NX 40 [.slice A n c, .int .i64 (many : Int), .int .i64 (u1 : Int)] ∧ VsAt Z1 NS 52 [.int .i64 (used : Int), .slice A1 64 c1, .slice A2 64 c2, .slice A3 pl c3] := ⟨hS0.1.grown (unhide HGZ1) (fun e => by injection e with e; have := unhide HNN; omega), hS0.2.grown (unhide HGZ1) (fun e => by injection e with e; have := unhide HNN; omega)⟩
      have HKZ1 := hide hz1
      have HK3Z := hide ((unhide HK3W).grown (unhide HGZ1) (fun e => by injection e with e; omega))
      have HOP3 := hide (own_past (unhide HOP2) (unhide HGZ1) (by have := unhide HNN; omega)); have HCL3 := hide (own_past (unhide HCL2) (unhide HGZ1) (by have := unhide HNN; omega)); have HPA3 := hide (own_past (unhide HPA2) (unhide HGZ1) (by have := unhide HNN; omega))
      have HBZ1 := hide ((unhide HBZ).grown (unhide HGZ1) (unhide HBZ).size (fun i e => by injection e with e; omega))
      refine ⟨hS1, ?_⟩
      clear hz1 HZ1 HGZ1 hS0 HOP2 HCL2 HPA2 HBZ HK1W HK3W
      refine wpChain_vput rfl 52 (.tmp 5) (.tmp 87) rfl (w.heap.size + 2) 0 rfl [.int .i64 (used : Int), .slice A1 64 c1, .slice A2 64 c2, .slice A3 pl c3] rfl infoSig (sigL_one _ _ _ _ _ _ _ _ _ _) _ _ (unhide HK3Z) (by simp) ?_
      intro Z2 HZ2 HGZ2
      have hz2 := unhide HZ2
      rw [spliceV_all _ _ (by simp)] at hz2
      have hS2 : VsAt Z2 NX 40 [.slice A n c, .int .i64 (many : Int), .int .i64 (u1 : Int)] ∧ VsAt Z2 NS 52 [.int .i64 (used : Int), .slice A1 64 c1, .slice A2 64 c2, .slice A3 pl c3] := ⟨hS1.1.grown (unhide HGZ2) (fun e => by injection e with e; have := unhide HNN; omega), hS1.2.grown (unhide HGZ2) (fun e => by injection e with e; have := unhide HNN; omega)⟩
      have HKZ2 := hide ((unhide HKZ1).grown (unhide HGZ2) (fun e => by injection e with e; omega))
      have HSZ2 := hide hz2
      have HOP4 := hide (own_past (unhide HOP3) (unhide HGZ2) (by have := unhide HNN; omega)); have HCL4 := hide (own_past (unhide HCL3) (unhide HGZ2) (by have := unhide HNN; omega)); have HPA4 := hide (own_past (unhide HPA3) (unhide HGZ2) (by have := unhide HNN; omega))
      have HBZ2 := hide ((unhide HBZ1).grown (unhide HGZ2) (unhide HBZ1).size (fun i e => by injection e with e; omega))
      refine ⟨hS2, ?_⟩
      clear hz2 HZ2 HGZ2 hS1 HOP3 HCL3 HPA3 HBZ1 HKZ1 HK3Z
      refine wpChain_step rfl fun K hK => ?_
      go_simp
      refine hK _ _ hS2 (wpChain_nil ?_)
      clear hK K hS2
      go_wp2_with fail
      try simp only [Exit.inBlock, Exit.then]
      refine vret3 rfl rfl (w.heap.size + 1) (w.heap.size + 2) rfl rfl _ _ _ _ (unhide HKZ2) (unhide HSZ2) _ _ Tryd.underlying40 rfl infoKey Tryd.underlying52 rfl infoSig _ rfl ?_
      obtain ⟨B1, e1, hw1, _, hd1⟩ := (unhide HOP4).ds (dg_openedS _ _ _ _)
      obtain ⟨B2, e2, hw2, _, hd2⟩ := (unhide HCL4).ds (dg_closedS _ _ _ _)
      obtain ⟨B3, e3, hw3, _, hd3⟩ := (unhide HPA4).ds (pathP_spec many (pubsS seed many) used (pubsS_length seed many) (by have := unhide HN; omega)).2.1
      injection hw1 with hw1 _ _
      injection hw2 with hw2 _ _
      injection hw3 with hw3 _ _
      subst hw1 hw2 hw3
      have hl := unhide HPLEN
      subst hl
      have hu := unhide HU1
      subst hu
      rw [unhide HBS, unhide HTT] at hd1 hd2
      exact ⟨A1, c1, A2, c2, A3, c3, rfl, ⟨openedS_length _ _ _ _, (unhide HCP).1, hd1⟩, ⟨closedS_length _ _ _ _, (unhide HCP).2, hd2⟩, (unhide HC3).1, hd3, (unhide HC3).2, unhide HBZ2⟩
    | succ g =>
      have hk64 : k < 64 := by omega
      have k1 : (k : Int) < 64 := by omega
      have k0 : (0 : Int) ≤ (k : Int) := Int.natCast_nonneg _
      obtain ⟨bt, hbt⟩ : ∃ b, b = bitAt bs k := ⟨_, rfl⟩
      have HKK : Hid (g + 1 + k = 64 ∧ k < 64 ∧ bt = bitAt bs k ∧ bt ≤ 1) := ⟨hk, hk64, hbt, hbt ▸ bitAt_le bs k⟩
      have HI := hide hinv
      obtain ⟨X, hX⟩ : ∃ D, D = secS (begS seed used) k bt := ⟨_, rfl⟩
      have hgX : Dg X := hX ▸ dg_secS _ _ _
      obtain ⟨cx, hcx⟩ : ∃ cs, cs = (X.map (Value.int .u8)).toArray := ⟨_, rfl⟩
      have hsx : cx.size = 32 := by rw [hcx]; simpa using hgX.len
      obtain ⟨Y, hY⟩ : ∃ D, D = secS (begS seed used) k (1 - bt) := ⟨_, rfl⟩
      have hgY : Dg Y := hY ▸ dg_secS _ _ _
      obtain ⟨cy, hcy⟩ : ∃ cs, cs = (Y.map (Value.int .u8)).toArray := ⟨_, rfl⟩
      obtain ⟨E, hE⟩ : ∃ D, D = opnS Y := ⟨_, rfl⟩
      have hgE : Dg E := hE ▸ dg_opnS _
      obtain ⟨ce, hce⟩ : ∃ cs, cs = (E.map (Value.int .u8)).toArray := ⟨_, rfl⟩
      have hse : ce.size = 32 := by rw [hce]; simpa using hgE.len
      have HX := hide hX; have HGX := hide hgX; have HCX := hide hcx; have HY := hide hY; have HGY := hide hgY; have HCY := hide hcy; have HE := hide hE; have HGE := hide hgE; have HCE := hide hce
      obtain ⟨z, hz⟩ : ∃ z, bs[k]? = some z := ⟨_, List.getElem?_eq_getElem (by rw [unhide HBL]; omega)⟩
      have hcb : wr.cell? ⟨b9, o9 + k, none⟩ = some (.bool z) := by
        have h0 := (unhide HBIT) k z hz
        exact GK.cell hinv.gk h0 (lt_of_cell h0) (unhide HB9)
      have hzb : bt = bN z := by rw [hbt]; unfold bitAt; rw [List.getD_eq_getElem?_getD, hz]; rfl
      have HZB := hide hzb
      clear hinv hk hk64 hbt hX hgX hcx hY hgY hcy hE hgE hce hz hzb
      go_upto_if 48 with fail
      clear hcb
      go_cut [11] (fun y11 wx => y11 = .int .i64 (bt : Int) ∧ wx = wr)
      case first =>
        cases z
        · have hb0 : bt = 0 := unhide HZB
          subst hb0
          go_wp2_with fail
          go_meet
          exact ⟨rfl, rfl⟩
        · have hb1 : bt = 1 := unhide HZB
          subst hb1
          go_wp2_with fail
          go_meet
          exact ⟨rfl, rfl⟩
      case rest =>
        obtain ⟨rfl, rfl⟩ := hcut
        go_upto_region 16 with fail
        go_cut [] (fun wx => ∃ A1 cap, SgInv V2.heap.size NS V2 used seed bs (k + 1) k (.slice A1 (k + 1) cap) vC wx)
        case first =>
          obtain ⟨W, hW⟩ : ∃ W, W = wc.drewN 1 := ⟨_, rfl⟩
          have HW : Hid (W = wc.drewN 1) := hW
          have hI0 := (unhide HI).keep (below_named HW)
          have hS0 := hI0.gk.vs (unhide HR1) (by have := unhide HLOW; omega) (by have := unhide HLOW; omega)
          clear hW
          refine held (S := fun V => VsAt V w.heap.size 40 [.slice A n c, .int .i64 (many : Int), .int .i64 (used : Int)]) W HW (by kernel_rfl) ?_
          refine wpAnyH_take (i := 0) (v := ?_) rfl (by kernel_rfl) (by kernel_rfl) (by kernel_rfl) (fun _ _ _ h => h) (Or.inl ⟨by kernel_rfl, ?_⟩) (by assumption) ?_
          rotate_left
          · intro Wt hSt
            go_simp
            try with_reducible rfl
          try simp only [List.getElem_toArray, List.getElem_cons_zero, List.getElem_cons_succ, Act.put, List.setIfInBounds_toArray, List.set_cons_zero, List.set_cons_succ]
          refine wpAnyH_take (i := 2) (v := .agg [.slice A n c, .int .i64 (many : Int), .int .i64 (used : Int)].toArray) rfl (by kernel_rfl) (by kernel_rfl) (by kernel_rfl) (fun _ _ _ h => h) (yieldsIf_load_mid (by kernel_rfl) 40 (.tmp 2) rfl w.heap.size 0 rfl [.slice A n c, .int .i64 (many : Int), .int .i64 (used : Int)] _ (fun W hS => hS.range) Tryd.underlying40 rfl infoKey) (by assumption) ?_
          try simp only [List.getElem_toArray, List.getElem_cons_zero, List.getElem_cons_succ, Act.put, List.setIfInBounds_toArray, List.set_cons_zero, List.set_cons_succ]
          refine wpAnyH_take (i := 3) (v := ?_) rfl (by kernel_rfl) (by kernel_rfl) (by kernel_rfl) (fun _ _ _ h => h) (Or.inl ⟨by kernel_rfl, ?_⟩) (by assumption) ?_
          rotate_left
          · intro Wt hSt
            go_simp
            try with_reducible rfl
          try simp only [List.getElem_toArray, List.getElem_cons_zero, List.getElem_cons_succ, Act.put, List.setIfInBounds_toArray, List.set_cons_zero, List.set_cons_succ]
          refine wpAnyH_take (i := 4) (v := ?_) rfl (by kernel_rfl) (by kernel_rfl) (by kernel_rfl) (fun _ _ _ h => h) (Or.inl ⟨by kernel_rfl, ?_⟩) (by assumption) ?_
          rotate_left
          · intro Wt hSt
            have hct := (show Wt.cell? ⟨w.heap.size, 2, none⟩ = some (.int .i64 (used : Int)) from VsAt.cell hSt rfl)
            go_simp
            try with_reducible rfl
          try simp only [List.getElem_toArray, List.getElem_cons_zero, List.getElem_cons_succ, Act.put, List.setIfInBounds_toArray, List.set_cons_zero, List.set_cons_succ]
          refine wpAnyH_take (i := 5) (v := ?_) rfl (by kernel_rfl) (by kernel_rfl) (by kernel_rfl) (fun _ _ _ h => h) (Or.inl ⟨by kernel_rfl, ?_⟩) (by assumption) ?_
          rotate_left
          · intro Wt hSt
            go_simp
            try with_reducible rfl
          try simp only [List.getElem_toArray, List.getElem_cons_zero, List.getElem_cons_succ, Act.put, List.setIfInBounds_toArray, List.set_cons_zero, List.set_cons_succ]
          refine wpAnyH_take (i := 6) (v := ?_) rfl (by kernel_rfl) (by kernel_rfl) (by kernel_rfl) (fun _ _ _ h => h) (Or.inl ⟨by kernel_rfl, ?_⟩) (by assumption) ?_
          rotate_left
          · intro Wt hSt
            go_simp
            try with_reducible rfl
          try simp only [List.getElem_toArray, List.getElem_cons_zero, List.getElem_cons_succ, Act.put, List.setIfInBounds_toArray, List.set_cons_zero, List.set_cons_succ]
          refine wpAnyH_all (show Region.ready .any _ _ = [1, 7] by kernel_rfl) (by simp) fun x hx => ?_
          rcases (by simpa using hx : x = 1 ∨ x = 7) with rfl | rfl
          · clear hx
            refine wpOp_one 1 _ rfl (by kernel_rfl) fun K hK => ?_
            have hc1 := hI0.sig.cell (j := 1) rfl
            go_simp
            refine hK _ _ ⟨hS0, ?_⟩
            clear hK K
            try simp only [List.getElem_toArray, List.getElem_cons_zero, List.getElem_cons_succ, Act.put, List.setIfInBounds_toArray, List.set_cons_zero, List.set_cons_succ]
            refine wpAnyH_all (show Region.ready .any _ _ = [7] by kernel_rfl) (by simp) fun x hx => ?_
            obtain rfl : x = 7 := by simpa using hx
            clear hx
            refine wpOp_one 7 _ rfl (by kernel_rfl) fun K hK => ?_
            go_simp
            have hcal2 := (unhide HSK) W (hI0.gk.under (unhide HBV) (by have := unhide HLOW; omega) (by have := unhide HLOW; omega)) k bt (by have := unhide HKK; omega) (by have := unhide HKK; omega)
            rw [← unhide HX, show dv X = .agg cx by rw [unhide HCX]] at hcal2
            refine hcal2.mono ?_; rintro x U2 ⟨rfl, hb2⟩
            dsimp only
            have hI2 := hI0.keep hb2
            have hS2 := hI2.gk.vs (unhide HR1) (by have := unhide HLOW; omega) (by have := unhide HLOW; omega)
            refine hK _ _ ⟨hS2, ?_⟩
            clear hK K
            try simp only [List.getElem_toArray, List.getElem_cons_zero, List.getElem_cons_succ, Act.put, List.setIfInBounds_toArray, List.set_cons_zero, List.set_cons_succ]
            refine wpAnyH_all (show Region.ready .any _ _ = [8] by kernel_rfl) (by simp) fun x hx => ?_
            obtain rfl : x = 8 := by simpa using hx
            clear hx
            refine wpOp_one 8 _ rfl (by kernel_rfl) fun K hK => ?_
            go_simp
            rw [overwritten hsx (by rfl)]
            generalize hXX3 : U2.alloc _ = U3
            have hb3 : Below U2.heap.size U2 U3 := hXX3 ▸ (Below.refl _ _).alloc (Nat.le_refl _) _
            have hM3 : ByAt U3 U2.heap.size 24 X := boxed U2 U3 X _ (by rw [← hXX3, unhide HCX]; rfl)
            clear hXX3
            have hI3 := hI2.keep hb3
            have hS3 := hI3.gk.vs (unhide HR1) (by have := unhide HLOW; omega) (by have := unhide HLOW; omega)
            refine hK _ _ ⟨hS3, ?_⟩
            clear hK K
            try simp only [List.getElem_toArray, List.getElem_cons_zero, List.getElem_cons_succ, Act.put, List.setIfInBounds_toArray, List.set_cons_zero, List.set_cons_succ]
            refine wpAnyH_chainOf [9, 10, 11] _ _ _ (by kernel_rfl) (by kernel_rfl) ?_
            simp only [List.filterMap_cons, List.filterMap_nil, List.getElem?_toArray, List.getElem?_cons_zero, List.getElem?_cons_succ]
            refine wpChain_step rfl fun K hK => ?_
            obtain ⟨AN, capN, WN, hr, hcN, hfN, hg, hIN⟩ := hI3.stepO (by have := unhide HKK; omega) (U2.heap.size) 1 X (unhide HGX) (by rw [unhide HX, (unhide HKK).2.2.1]) hM3 26
            refine wp_append (.tmp 50) (.tmp 57) 26 rfl _ _ _ WN rfl rfl hr ?_
            have hSN := hS3.grown hg (fun e => by have := (hI3.op.lt _ e).1; have := unhide HLOW; omega)
            refine hK _ _ hSN ?_
            clear hK K
            refine wpChain_step rfl fun K hK => ?_
            go_simp
            refine hK _ _ hSN ?_
            clear hK K
            refine wpChain_step rfl fun K hK => ?_
            go_simp
            refine hK _ _ (hIN.gk.vs (unhide HR1) (by have := unhide HLOW; omega) (by have := unhide HLOW; omega)) (wpChain_nil ?_)
            clear hK K
            go_wp2_with fail
            go_meet
            exact ⟨_, _, hIN⟩
          · clear hx
            refine wpOp_one 7 _ rfl (by kernel_rfl) fun K hK => ?_
            go_simp
            have hcal4 := (unhide HSK) W (hI0.gk.under (unhide HBV) (by have := unhide HLOW; omega) (by have := unhide HLOW; omega)) k bt (by have := unhide HKK; omega) (by have := unhide HKK; omega)
            rw [← unhide HX, show dv X = .agg cx by rw [unhide HCX]] at hcal4
            refine hcal4.mono ?_; rintro x U4 ⟨rfl, hb4⟩
            dsimp only
            have hI4 := hI0.keep hb4
            have hS4 := hI4.gk.vs (unhide HR1) (by have := unhide HLOW; omega) (by have := unhide HLOW; omega)
            refine hK _ _ ⟨hS4, ?_⟩
            clear hK K
            try simp only [List.getElem_toArray, List.getElem_cons_zero, List.getElem_cons_succ, Act.put, List.setIfInBounds_toArray, List.set_cons_zero, List.set_cons_succ]
            refine wpAnyH_all (show Region.ready .any _ _ = [1, 8] by kernel_rfl) (by simp) fun x hx => ?_
            rcases (by simpa using hx : x = 1 ∨ x = 8) with rfl | rfl
            · clear hx
              refine wpOp_one 1 _ rfl (by kernel_rfl) fun K hK => ?_
              have hc5 := hI4.sig.cell (j := 1) rfl
              go_simp
              refine hK _ _ ⟨hS4, ?_⟩
              clear hK K
              try simp only [List.getElem_toArray, List.getElem_cons_zero, List.getElem_cons_succ, Act.put, List.setIfInBounds_toArray, List.set_cons_zero, List.set_cons_succ]
              refine wpAnyH_all (show Region.ready .any _ _ = [8] by kernel_rfl) (by simp) fun x hx => ?_
              obtain rfl : x = 8 := by simpa using hx
              clear hx
              refine wpOp_one 8 _ rfl (by kernel_rfl) fun K hK => ?_
              go_simp
              rw [overwritten hsx (by rfl)]
              generalize hXX6 : U4.alloc _ = U6
              have hb6 : Below U4.heap.size U4 U6 := hXX6 ▸ (Below.refl _ _).alloc (Nat.le_refl _) _
              have hM6 : ByAt U6 U4.heap.size 24 X := boxed U4 U6 X _ (by rw [← hXX6, unhide HCX]; rfl)
              clear hXX6
              have hI6 := hI4.keep hb6
              have hS6 := hI6.gk.vs (unhide HR1) (by have := unhide HLOW; omega) (by have := unhide HLOW; omega)
              refine hK _ _ ⟨hS6, ?_⟩
              clear hK K
              try simp only [List.getElem_toArray, List.getElem_cons_zero, List.getElem_cons_succ, Act.put, List.setIfInBounds_toArray, List.set_cons_zero, List.set_cons_succ]
              refine wpAnyH_chainOf [9, 10, 11] _ _ _ (by kernel_rfl) (by kernel_rfl) ?_
              simp only [List.filterMap_cons, List.filterMap_nil, List.getElem?_toArray, List.getElem?_cons_zero, List.getElem?_cons_succ]
              refine wpChain_step rfl fun K hK => ?_
              obtain ⟨AN, capN, WN, hr, hcN, hfN, hg, hIN⟩ := hI6.stepO (by have := unhide HKK; omega) (U4.heap.size) 1 X (unhide HGX) (by rw [unhide HX, (unhide HKK).2.2.1]) hM6 26
              refine wp_append (.tmp 50) (.tmp 57) 26 rfl _ _ _ WN rfl rfl hr ?_
              have hSN := hS6.grown hg (fun e => by have := (hI6.op.lt _ e).1; have := unhide HLOW; omega)
              refine hK _ _ hSN ?_
              clear hK K
              refine wpChain_step rfl fun K hK => ?_
              go_simp
              refine hK _ _ hSN ?_
              clear hK K
              refine wpChain_step rfl fun K hK => ?_
              go_simp
              refine hK _ _ (hIN.gk.vs (unhide HR1) (by have := unhide HLOW; omega) (by have := unhide HLOW; omega)) (wpChain_nil ?_)
              clear hK K
              go_wp2_with fail
              go_meet
              exact ⟨_, _, hIN⟩
            · clear hx
              refine wpOp_one 8 _ rfl (by kernel_rfl) fun K hK => ?_
              go_simp
              rw [overwritten hsx (by rfl)]
              generalize hXX7 : U4.alloc _ = U7
              have hb7 : Below U4.heap.size U4 U7 := hXX7 ▸ (Below.refl _ _).alloc (Nat.le_refl _) _
              have hM7 : ByAt U7 U4.heap.size 24 X := boxed U4 U7 X _ (by rw [← hXX7, unhide HCX]; rfl)
              clear hXX7
              have hI7 := hI4.keep hb7
              have hS7 := hI7.gk.vs (unhide HR1) (by have := unhide HLOW; omega) (by have := unhide HLOW; omega)
              refine hK _ _ ⟨hS7, ?_⟩
              clear hK K
              try simp only [List.getElem_toArray, List.getElem_cons_zero, List.getElem_cons_succ, Act.put, List.setIfInBounds_toArray, List.set_cons_zero, List.set_cons_succ]
              refine wpAnyH_all (show Region.ready .any _ _ = [1] by kernel_rfl) (by simp) fun x hx => ?_
              obtain rfl : x = 1 := by simpa using hx
              clear hx
              refine wpOp_one 1 _ rfl (by kernel_rfl) fun K hK => ?_
              have hc8 := hI7.sig.cell (j := 1) rfl
              go_simp
              refine hK _ _ ⟨hS7, ?_⟩
              clear hK K
              try simp only [List.getElem_toArray, List.getElem_cons_zero, List.getElem_cons_succ, Act.put, List.setIfInBounds_toArray, List.set_cons_zero, List.set_cons_succ]
              refine wpAnyH_chainOf [9, 10, 11] _ _ _ (by kernel_rfl) (by kernel_rfl) ?_
              simp only [List.filterMap_cons, List.filterMap_nil, List.getElem?_toArray, List.getElem?_cons_zero, List.getElem?_cons_succ]
              refine wpChain_step rfl fun K hK => ?_
              obtain ⟨AN, capN, WN, hr, hcN, hfN, hg, hIN⟩ := hI7.stepO (by have := unhide HKK; omega) (U4.heap.size) 1 X (unhide HGX) (by rw [unhide HX, (unhide HKK).2.2.1]) hM7 26
              refine wp_append (.tmp 50) (.tmp 57) 26 rfl _ _ _ WN rfl rfl hr ?_
              have hSN := hS7.grown hg (fun e => by have := (hI7.op.lt _ e).1; have := unhide HLOW; omega)
              refine hK _ _ hSN ?_
              clear hK K
              refine wpChain_step rfl fun K hK => ?_
              go_simp
              refine hK _ _ hSN ?_
              clear hK K
              refine wpChain_step rfl fun K hK => ?_
              go_simp
              refine hK _ _ (hIN.gk.vs (unhide HR1) (by have := unhide HLOW; omega) (by have := unhide HLOW; omega)) (wpChain_nil ?_)
              clear hK K
              go_wp2_with fail
              go_meet
              exact ⟨_, _, hIN⟩
        case rest =>
          obtain ⟨A1, cap, hI2⟩ := hcut
          have HI2 := hide hI2
          have wb : IntKind.i64.wrap (1 - (bt : Int)) = ((1 - bt : Nat) : Int) := (IntWalk.i64_in _ (by have := unhide HKK; omega)).trans (by have := unhide HKK; omega)
          clear hI2 HI
          go_upto_region 17 with fail
          obtain ⟨W, hW⟩ : ∃ W, W = wc.drewN 1 := ⟨_, rfl⟩
          have HW : Hid (W = wc.drewN 1) := hW
          have hI0 := (unhide HI2).keep (below_named HW)
          have hS0 := hI0.gk.vs (unhide HR1) (by have := unhide HLOW; omega) (by have := unhide HLOW; omega)
          clear hW
          refine held (S := fun V => VsAt V w.heap.size 40 [.slice A n c, .int .i64 (many : Int), .int .i64 (used : Int)]) W HW (by kernel_rfl) ?_
          refine wpAnyH_take (i := 0) (v := ?_) rfl (by kernel_rfl) (by kernel_rfl) (by kernel_rfl) (fun _ _ _ h => h) (Or.inl ⟨by kernel_rfl, ?_⟩) (by assumption) ?_
          rotate_left
          · intro Wt hSt
            go_simp
            try with_reducible rfl
          try simp only [List.getElem_toArray, List.getElem_cons_zero, List.getElem_cons_succ, Act.put, List.setIfInBounds_toArray, List.set_cons_zero, List.set_cons_succ]
          refine wpAnyH_take (i := 2) (v := .agg [.slice A n c, .int .i64 (many : Int), .int .i64 (used : Int)].toArray) rfl (by kernel_rfl) (by kernel_rfl) (by kernel_rfl) (fun _ _ _ h => h) (yieldsIf_load_mid (by kernel_rfl) 40 (.tmp 2) rfl w.heap.size 0 rfl [.slice A n c, .int .i64 (many : Int), .int .i64 (used : Int)] _ (fun W hS => hS.range) Tryd.underlying40 rfl infoKey) (by assumption) ?_
          try simp only [List.getElem_toArray, List.getElem_cons_zero, List.getElem_cons_succ, Act.put, List.setIfInBounds_toArray, List.set_cons_zero, List.set_cons_succ]
          refine wpAnyH_take (i := 3) (v := ?_) rfl (by kernel_rfl) (by kernel_rfl) (by kernel_rfl) (fun _ _ _ h => h) (Or.inl ⟨by kernel_rfl, ?_⟩) (by assumption) ?_
          rotate_left
          · intro Wt hSt
            go_simp
            try with_reducible rfl
          try simp only [List.getElem_toArray, List.getElem_cons_zero, List.getElem_cons_succ, Act.put, List.setIfInBounds_toArray, List.set_cons_zero, List.set_cons_succ]
          refine wpAnyH_take (i := 4) (v := ?_) rfl (by kernel_rfl) (by kernel_rfl) (by kernel_rfl) (fun _ _ _ h => h) (Or.inl ⟨by kernel_rfl, ?_⟩) (by assumption) ?_
          rotate_left
          · intro Wt hSt
            have hct := (show Wt.cell? ⟨w.heap.size, 2, none⟩ = some (.int .i64 (used : Int)) from VsAt.cell hSt rfl)
            go_simp
            try with_reducible rfl
          try simp only [List.getElem_toArray, List.getElem_cons_zero, List.getElem_cons_succ, Act.put, List.setIfInBounds_toArray, List.set_cons_zero, List.set_cons_succ]
          refine wpAnyH_take (i := 5) (v := ?_) rfl (by kernel_rfl) (by kernel_rfl) (by kernel_rfl) (fun _ _ _ h => h) (Or.inl ⟨by kernel_rfl, ?_⟩) (by assumption) ?_
          rotate_left
          · intro Wt hSt
            go_simp
            try with_reducible rfl
          try simp only [List.getElem_toArray, List.getElem_cons_zero, List.getElem_cons_succ, Act.put, List.setIfInBounds_toArray, List.set_cons_zero, List.set_cons_succ]
          refine wpAnyH_take (i := 6) (v := ?_) rfl (by kernel_rfl) (by kernel_rfl) (by kernel_rfl) (fun _ _ _ h => h) (Or.inl ⟨by kernel_rfl, ?_⟩) (by assumption) ?_
          rotate_left
          · intro Wt hSt
            go_simp
            try with_reducible rfl
          try simp only [List.getElem_toArray, List.getElem_cons_zero, List.getElem_cons_succ, Act.put, List.setIfInBounds_toArray, List.set_cons_zero, List.set_cons_succ]
          refine wpAnyH_take (i := 7) (v := ?_) rfl (by kernel_rfl) (by kernel_rfl) (by kernel_rfl) (fun _ _ _ h => h) (Or.inl ⟨by kernel_rfl, ?_⟩) (by assumption) ?_
          rotate_left
          · intro Wt hSt
            go_simp
            try with_reducible rfl
          try simp only [List.getElem_toArray, List.getElem_cons_zero, List.getElem_cons_succ, Act.put, List.setIfInBounds_toArray, List.set_cons_zero, List.set_cons_succ]
          refine wpAnyH_all (show Region.ready .any _ _ = [1, 8] by kernel_rfl) (by simp) fun x hx => ?_
          rcases (by simpa using hx : x = 1 ∨ x = 8) with rfl | rfl
          · clear hx
            refine wpOp_one 1 _ rfl (by kernel_rfl) fun K hK => ?_
            have hc9 := hI0.sig.cell (j := 2) rfl
            go_simp
            refine hK _ _ ⟨hS0, ?_⟩
            clear hK K
            try simp only [List.getElem_toArray, List.getElem_cons_zero, List.getElem_cons_succ, Act.put, List.setIfInBounds_toArray, List.set_cons_zero, List.set_cons_succ]
            refine wpAnyH_all (show Region.ready .any _ _ = [8] by kernel_rfl) (by simp) fun x hx => ?_
            obtain rfl : x = 8 := by simpa using hx
            clear hx
            refine wpOp_one 8 _ rfl (by kernel_rfl) fun K hK => ?_
            go_simp
            have hcal10 := (unhide HSK) W (hI0.gk.under (unhide HBV) (by have := unhide HLOW; omega) (by have := unhide HLOW; omega)) k (1 - bt) (by have := unhide HKK; omega) (by have := unhide HKK; omega)
            rw [← unhide HY, show dv Y = .agg cy by rw [unhide HCY]] at hcal10
            refine hcal10.mono ?_; rintro x U10 ⟨rfl, hb10⟩
            dsimp only
            have hI10 := hI0.keep hb10
            have hS10 := hI10.gk.vs (unhide HR1) (by have := unhide HLOW; omega) (by have := unhide HLOW; omega)
            refine hK _ _ ⟨hS10, ?_⟩
            clear hK K
            try simp only [List.getElem_toArray, List.getElem_cons_zero, List.getElem_cons_succ, Act.put, List.setIfInBounds_toArray, List.set_cons_zero, List.set_cons_succ]
            refine wpAnyH_all (show Region.ready .any _ _ = [9] by kernel_rfl) (by simp) fun x hx => ?_
            obtain rfl : x = 9 := by simpa using hx
            clear hx
            refine wpOp_one 9 _ rfl (by kernel_rfl) fun K hK => ?_
            go_simp
            have hcal11 := rhash_any U10 Y (unhide HGY)
            rw [← unhide HE, show dv Y = .agg cy by rw [unhide HCY], show dv E = .agg ce by rw [unhide HCE]] at hcal11
            refine hcal11.mono ?_; rintro x U11 ⟨rfl, hb11⟩
            dsimp only
            have hI11 := hI10.keep hb11
            have hS11 := hI11.gk.vs (unhide HR1) (by have := unhide HLOW; omega) (by have := unhide HLOW; omega)
            refine hK _ _ ⟨hS11, ?_⟩
            clear hK K
            try simp only [List.getElem_toArray, List.getElem_cons_zero, List.getElem_cons_succ, Act.put, List.setIfInBounds_toArray, List.set_cons_zero, List.set_cons_succ]
            refine wpAnyH_all (show Region.ready .any _ _ = [10] by kernel_rfl) (by simp) fun x hx => ?_
            obtain rfl : x = 10 := by simpa using hx
            clear hx
            refine wpOp_one 10 _ rfl (by kernel_rfl) fun K hK => ?_
            go_simp
            rw [overwritten hse (by rfl)]
            generalize hXX12 : U11.alloc _ = U12
            have hb12 : Below U11.heap.size U11 U12 := hXX12 ▸ (Below.refl _ _).alloc (Nat.le_refl _) _
            have hM12 : ByAt U12 U11.heap.size 24 E := boxed U11 U12 E _ (by rw [← hXX12, unhide HCE]; rfl)
            clear hXX12
            have hI12 := hI11.keep hb12
            have hS12 := hI12.gk.vs (unhide HR1) (by have := unhide HLOW; omega) (by have := unhide HLOW; omega)
            refine hK _ _ ⟨hS12, ?_⟩
            clear hK K
            try simp only [List.getElem_toArray, List.getElem_cons_zero, List.getElem_cons_succ, Act.put, List.setIfInBounds_toArray, List.set_cons_zero, List.set_cons_succ]
            refine wpAnyH_chainOf [11, 12, 13] _ _ _ (by kernel_rfl) (by kernel_rfl) ?_
            simp only [List.filterMap_cons, List.filterMap_nil, List.getElem?_toArray, List.getElem?_cons_zero, List.getElem?_cons_succ]
            refine wpChain_step rfl fun K hK => ?_
            obtain ⟨AN, capN, WN, hr, hcN, hfN, hg, hIN⟩ := hI12.stepC (by have := unhide HKK; omega) (U11.heap.size) 1 E (unhide HGE) (by rw [unhide HE, unhide HY, (unhide HKK).2.2.1]) hM12 26
            refine wp_append (.tmp 61) (.tmp 70) 26 rfl _ _ _ WN rfl rfl hr ?_
            have hSN := hS12.grown hg (fun e => by have := (hI12.cl.lt _ e).1; have := unhide HLOW; omega)
            refine hK _ _ hSN ?_
            clear hK K
            refine wpChain_step rfl fun K hK => ?_
            go_simp
            refine hK _ _ hSN ?_
            clear hK K
            refine wpChain_step rfl fun K hK => ?_
            go_simp
            refine hK _ _ (hIN.gk.vs (unhide HR1) (by have := unhide HLOW; omega) (by have := unhide HLOW; omega)) (wpChain_nil ?_)
            clear hK K
            have HI3 := hide hIN
            have wk : IntKind.i64.wrap ((k : Int) + 1) = ((k + 1 : Nat) : Int) := (IntWalk.i64_in _ (by have := unhide HKK; omega)).trans (by omega)
            clear hIN hSN hr hcN hfN hg
            go_wp2_with fail
            go_roundg g
            case measure => omega
            case rel => exact ⟨k + 1, _, _, by have := unhide HKK; omega, by push_cast; rfl, unhide HI3⟩
          · clear hx
            refine wpOp_one 8 _ rfl (by kernel_rfl) fun K hK => ?_
            go_simp
            have hcal13 := (unhide HSK) W (hI0.gk.under (unhide HBV) (by have := unhide HLOW; omega) (by have := unhide HLOW; omega)) k (1 - bt) (by have := unhide HKK; omega) (by have := unhide HKK; omega)
            rw [← unhide HY, show dv Y = .agg cy by rw [unhide HCY]] at hcal13
            refine hcal13.mono ?_; rintro x U13 ⟨rfl, hb13⟩
            dsimp only
            have hI13 := hI0.keep hb13
            have hS13 := hI13.gk.vs (unhide HR1) (by have := unhide HLOW; omega) (by have := unhide HLOW; omega)
            refine hK _ _ ⟨hS13, ?_⟩
            clear hK K
            try simp only [List.getElem_toArray, List.getElem_cons_zero, List.getElem_cons_succ, Act.put, List.setIfInBounds_toArray, List.set_cons_zero, List.set_cons_succ]
            refine wpAnyH_all (show Region.ready .any _ _ = [1, 9] by kernel_rfl) (by simp) fun x hx => ?_
            rcases (by simpa using hx : x = 1 ∨ x = 9) with rfl | rfl
            · clear hx
              refine wpOp_one 1 _ rfl (by kernel_rfl) fun K hK => ?_
              have hc14 := hI13.sig.cell (j := 2) rfl
              go_simp
              refine hK _ _ ⟨hS13, ?_⟩
              clear hK K
              try simp only [List.getElem_toArray, List.getElem_cons_zero, List.getElem_cons_succ, Act.put, List.setIfInBounds_toArray, List.set_cons_zero, List.set_cons_succ]
              refine wpAnyH_all (show Region.ready .any _ _ = [9] by kernel_rfl) (by simp) fun x hx => ?_
              obtain rfl : x = 9 := by simpa using hx
              clear hx
              refine wpOp_one 9 _ rfl (by kernel_rfl) fun K hK => ?_
              go_simp
              have hcal15 := rhash_any U13 Y (unhide HGY)
              rw [← unhide HE, show dv Y = .agg cy by rw [unhide HCY], show dv E = .agg ce by rw [unhide HCE]] at hcal15
              refine hcal15.mono ?_; rintro x U15 ⟨rfl, hb15⟩
              dsimp only
              have hI15 := hI13.keep hb15
              have hS15 := hI15.gk.vs (unhide HR1) (by have := unhide HLOW; omega) (by have := unhide HLOW; omega)
              refine hK _ _ ⟨hS15, ?_⟩
              clear hK K
              try simp only [List.getElem_toArray, List.getElem_cons_zero, List.getElem_cons_succ, Act.put, List.setIfInBounds_toArray, List.set_cons_zero, List.set_cons_succ]
              refine wpAnyH_all (show Region.ready .any _ _ = [10] by kernel_rfl) (by simp) fun x hx => ?_
              obtain rfl : x = 10 := by simpa using hx
              clear hx
              refine wpOp_one 10 _ rfl (by kernel_rfl) fun K hK => ?_
              go_simp
              rw [overwritten hse (by rfl)]
              generalize hXX16 : U15.alloc _ = U16
              have hb16 : Below U15.heap.size U15 U16 := hXX16 ▸ (Below.refl _ _).alloc (Nat.le_refl _) _
              have hM16 : ByAt U16 U15.heap.size 24 E := boxed U15 U16 E _ (by rw [← hXX16, unhide HCE]; rfl)
              clear hXX16
              have hI16 := hI15.keep hb16
              have hS16 := hI16.gk.vs (unhide HR1) (by have := unhide HLOW; omega) (by have := unhide HLOW; omega)
              refine hK _ _ ⟨hS16, ?_⟩
              clear hK K
              try simp only [List.getElem_toArray, List.getElem_cons_zero, List.getElem_cons_succ, Act.put, List.setIfInBounds_toArray, List.set_cons_zero, List.set_cons_succ]
              refine wpAnyH_chainOf [11, 12, 13] _ _ _ (by kernel_rfl) (by kernel_rfl) ?_
              simp only [List.filterMap_cons, List.filterMap_nil, List.getElem?_toArray, List.getElem?_cons_zero, List.getElem?_cons_succ]
              refine wpChain_step rfl fun K hK => ?_
              obtain ⟨AN, capN, WN, hr, hcN, hfN, hg, hIN⟩ := hI16.stepC (by have := unhide HKK; omega) (U15.heap.size) 1 E (unhide HGE) (by rw [unhide HE, unhide HY, (unhide HKK).2.2.1]) hM16 26
              refine wp_append (.tmp 61) (.tmp 70) 26 rfl _ _ _ WN rfl rfl hr ?_
              have hSN := hS16.grown hg (fun e => by have := (hI16.cl.lt _ e).1; have := unhide HLOW; omega)
              refine hK _ _ hSN ?_
              clear hK K
              refine wpChain_step rfl fun K hK => ?_
              go_simp
              refine hK _ _ hSN ?_
              clear hK K
              refine wpChain_step rfl fun K hK => ?_
              go_simp
              refine hK _ _ (hIN.gk.vs (unhide HR1) (by have := unhide HLOW; omega) (by have := unhide HLOW; omega)) (wpChain_nil ?_)
              clear hK K
              have HI3 := hide hIN
              have wk : IntKind.i64.wrap ((k : Int) + 1) = ((k + 1 : Nat) : Int) := (IntWalk.i64_in _ (by have := unhide HKK; omega)).trans (by omega)
              clear hIN hSN hr hcN hfN hg
              go_wp2_with fail
              go_roundg g
              case measure => omega
              case rel => exact ⟨k + 1, _, _, by have := unhide HKK; omega, by push_cast; rfl, unhide HI3⟩
            · clear hx
              refine wpOp_one 9 _ rfl (by kernel_rfl) fun K hK => ?_
              go_simp
              have hcal17 := rhash_any U13 Y (unhide HGY)
              rw [← unhide HE, show dv Y = .agg cy by rw [unhide HCY], show dv E = .agg ce by rw [unhide HCE]] at hcal17
              refine hcal17.mono ?_; rintro x U17 ⟨rfl, hb17⟩
              dsimp only
              have hI17 := hI13.keep hb17
              have hS17 := hI17.gk.vs (unhide HR1) (by have := unhide HLOW; omega) (by have := unhide HLOW; omega)
              refine hK _ _ ⟨hS17, ?_⟩
              clear hK K
              try simp only [List.getElem_toArray, List.getElem_cons_zero, List.getElem_cons_succ, Act.put, List.setIfInBounds_toArray, List.set_cons_zero, List.set_cons_succ]
              refine wpAnyH_all (show Region.ready .any _ _ = [1, 10] by kernel_rfl) (by simp) fun x hx => ?_
              rcases (by simpa using hx : x = 1 ∨ x = 10) with rfl | rfl
              · clear hx
                refine wpOp_one 1 _ rfl (by kernel_rfl) fun K hK => ?_
                have hc18 := hI17.sig.cell (j := 2) rfl
                go_simp
                refine hK _ _ ⟨hS17, ?_⟩
                clear hK K
                try simp only [List.getElem_toArray, List.getElem_cons_zero, List.getElem_cons_succ, Act.put, List.setIfInBounds_toArray, List.set_cons_zero, List.set_cons_succ]
                refine wpAnyH_all (show Region.ready .any _ _ = [10] by kernel_rfl) (by simp) fun x hx => ?_
                obtain rfl : x = 10 := by simpa using hx
                clear hx
                refine wpOp_one 10 _ rfl (by kernel_rfl) fun K hK => ?_
                go_simp
                rw [overwritten hse (by rfl)]
                generalize hXX19 : U17.alloc _ = U19
                have hb19 : Below U17.heap.size U17 U19 := hXX19 ▸ (Below.refl _ _).alloc (Nat.le_refl _) _
                have hM19 : ByAt U19 U17.heap.size 24 E := boxed U17 U19 E _ (by rw [← hXX19, unhide HCE]; rfl)
                clear hXX19
                have hI19 := hI17.keep hb19
                have hS19 := hI19.gk.vs (unhide HR1) (by have := unhide HLOW; omega) (by have := unhide HLOW; omega)
                refine hK _ _ ⟨hS19, ?_⟩
                clear hK K
                try simp only [List.getElem_toArray, List.getElem_cons_zero, List.getElem_cons_succ, Act.put, List.setIfInBounds_toArray, List.set_cons_zero, List.set_cons_succ]
                refine wpAnyH_chainOf [11, 12, 13] _ _ _ (by kernel_rfl) (by kernel_rfl) ?_
                simp only [List.filterMap_cons, List.filterMap_nil, List.getElem?_toArray, List.getElem?_cons_zero, List.getElem?_cons_succ]
                refine wpChain_step rfl fun K hK => ?_
                obtain ⟨AN, capN, WN, hr, hcN, hfN, hg, hIN⟩ := hI19.stepC (by have := unhide HKK; omega) (U17.heap.size) 1 E (unhide HGE) (by rw [unhide HE, unhide HY, (unhide HKK).2.2.1]) hM19 26
                refine wp_append (.tmp 61) (.tmp 70) 26 rfl _ _ _ WN rfl rfl hr ?_
                have hSN := hS19.grown hg (fun e => by have := (hI19.cl.lt _ e).1; have := unhide HLOW; omega)
                refine hK _ _ hSN ?_
                clear hK K
                refine wpChain_step rfl fun K hK => ?_
                go_simp
                refine hK _ _ hSN ?_
                clear hK K
                refine wpChain_step rfl fun K hK => ?_
                go_simp
                refine hK _ _ (hIN.gk.vs (unhide HR1) (by have := unhide HLOW; omega) (by have := unhide HLOW; omega)) (wpChain_nil ?_)
                clear hK K
                have HI3 := hide hIN
                have wk : IntKind.i64.wrap ((k : Int) + 1) = ((k + 1 : Nat) : Int) := (IntWalk.i64_in _ (by have := unhide HKK; omega)).trans (by omega)
                clear hIN hSN hr hcN hfN hg
                go_wp2_with fail
                go_roundg g
                case measure => omega
                case rel => exact ⟨k + 1, _, _, by have := unhide HKK; omega, by push_cast; rfl, unhide HI3⟩
              · clear hx
                refine wpOp_one 10 _ rfl (by kernel_rfl) fun K hK => ?_
                go_simp
                rw [overwritten hse (by rfl)]
                generalize hXX20 : U17.alloc _ = U20
                have hb20 : Below U17.heap.size U17 U20 := hXX20 ▸ (Below.refl _ _).alloc (Nat.le_refl _) _
                have hM20 : ByAt U20 U17.heap.size 24 E := boxed U17 U20 E _ (by rw [← hXX20, unhide HCE]; rfl)
                clear hXX20
                have hI20 := hI17.keep hb20
                have hS20 := hI20.gk.vs (unhide HR1) (by have := unhide HLOW; omega) (by have := unhide HLOW; omega)
                refine hK _ _ ⟨hS20, ?_⟩
                clear hK K
                try simp only [List.getElem_toArray, List.getElem_cons_zero, List.getElem_cons_succ, Act.put, List.setIfInBounds_toArray, List.set_cons_zero, List.set_cons_succ]
                refine wpAnyH_all (show Region.ready .any _ _ = [1] by kernel_rfl) (by simp) fun x hx => ?_
                obtain rfl : x = 1 := by simpa using hx
                clear hx
                refine wpOp_one 1 _ rfl (by kernel_rfl) fun K hK => ?_
                have hc21 := hI20.sig.cell (j := 2) rfl
                go_simp
                refine hK _ _ ⟨hS20, ?_⟩
                clear hK K
                try simp only [List.getElem_toArray, List.getElem_cons_zero, List.getElem_cons_succ, Act.put, List.setIfInBounds_toArray, List.set_cons_zero, List.set_cons_succ]
                refine wpAnyH_chainOf [11, 12, 13] _ _ _ (by kernel_rfl) (by kernel_rfl) ?_
                simp only [List.filterMap_cons, List.filterMap_nil, List.getElem?_toArray, List.getElem?_cons_zero, List.getElem?_cons_succ]
                refine wpChain_step rfl fun K hK => ?_
                obtain ⟨AN, capN, WN, hr, hcN, hfN, hg, hIN⟩ := hI20.stepC (by have := unhide HKK; omega) (U17.heap.size) 1 E (unhide HGE) (by rw [unhide HE, unhide HY, (unhide HKK).2.2.1]) hM20 26
                refine wp_append (.tmp 61) (.tmp 70) 26 rfl _ _ _ WN rfl rfl hr ?_
                have hSN := hS20.grown hg (fun e => by have := (hI20.cl.lt _ e).1; have := unhide HLOW; omega)
                refine hK _ _ hSN ?_
                clear hK K
                refine wpChain_step rfl fun K hK => ?_
                go_simp
                refine hK _ _ hSN ?_
                clear hK K
                refine wpChain_step rfl fun K hK => ?_
                go_simp
                refine hK _ _ (hIN.gk.vs (unhide HR1) (by have := unhide HLOW; omega) (by have := unhide HLOW; omega)) (wpChain_nil ?_)
                clear hK K
                have HI3 := hide hIN
                have wk : IntKind.i64.wrap ((k : Int) + 1) = ((k + 1 : Nat) : Int) := (IntWalk.i64_in _ (by have := unhide HKK; omega)).trans (by omega)
                clear hIN hSN hr hcN hfN hg
                go_wp2_with fail
                go_roundg g
                case measure => omega
                case rel => exact ⟨k + 1, _, _, by have := unhide HKK; omega, by push_cast; rfl, unhide HI3⟩
  end Go.Proofs.YtceppmajbkmbdaaDoor
namespace Go.Proofs.YtceppmajbkmbdaaDoor
set_option linter.unusedSimpArgs false
set_option linter.unusedVariables false
open Go.RowKit Go.LawClose

/-- a load of values under a guard -/
theorem wpList_vgload5 {P : Program} {ops : Array Oper} {rest : List Oper} {o : Oper} {a : Act} {w : World} {Q : Exit → Act → World → Prop} (hw : Region.wanted o (yielded ops a.tmps) = true) (ty : TypeId) (x : Operand) (ho : o.op = .load ty x)
    (N : Nat) (hx : a.eval x = .pointer (some ⟨N, 0, none⟩)) (d : TypeDesc) (hu : P.underlying ty = some d) (hd : d.isRow = true) (T : TypeId) (cs : List Value) (hi : (P.info? ty).map (·.size) = some cs.length) (h0 : VsAt w N T cs)
    (h : wpList P ops Q rest (a.put o.dst (.agg cs.toArray)) w) : wpList P ops Q (o :: rest) a w :=
  wpList_wanted hw fun _ hK => wp_load_mid ty x ho N 0 hx cs d h0.range hu hd hi (hK _ _ h)
/-- three lists of digests behind a signature's slices -/
structure Sg3 (w : World) (p1 p2 p3 : List (List Int)) (A1 : Option Addr) (a1 : Nat) (A2 : Option Addr) (a2 : Nat) (A3 : Option Addr) (a3 : Nat) : Prop where
  c1 : p1.length ≤ a1
  d1 : Ds w A1 p1
  c2 : p2.length ≤ a2
  d2 : Ds w A2 p2
  c3 : p3.length ≤ a3
  d3 : Ds w A3 p3
theorem Sg3.keep {w w' : World} {p1 p2 p3 : List (List Int)} {A1 : Option Addr} {a1 : Nat} {A2 : Option Addr} {a2 : Nat} {A3 : Option Addr} {a3 : Nat} (h : Sg3 w p1 p2 p3 A1 a1 A2 a2 A3 a3) (hb : Below w.heap.size w w') : Sg3 w' p1 p2 p3 A1 a1 A2 a2 A3 a3 :=
  ⟨h.c1, h.d1.keep hb, h.c2, h.d2.keep hb, h.c3, h.d3.keep hb⟩
set_option maxRecDepth 100000 in
set_option maxHeartbeats 2000000 in
theorem sameSig_any (w : World) (i : Int) (p1 p2 p3 : List (List Int)) (h1 : p1.length ≤ 1000) (h2 : p2.length ≤ 1000) (h3 : p3.length ≤ 1000) (A1 : Option Addr) (a1 : Nat) (A2 : Option Addr) (a2 : Nat) (A3 : Option Addr) (a3 : Nat) (hA : Sg3 w p1 p2 p3 A1 a1 A2 a2 A3 a3)
    (B1 : Option Addr) (b1 : Nat) (B2 : Option Addr) (b2 : Nat) (B3 : Option Addr) (b3 : Nat) (hB : Sg3 w p1 p2 p3 B1 b1 B2 b2 B3 b3) :
    Calls Tryd.prog 39 #[.agg #[.int .i64 i, .slice A1 p1.length a1, .slice A2 p2.length a2, .slice A3 p3.length a3], .agg #[.int .i64 i, .slice B1 p1.length b1, .slice B2 p2.length b2, .slice B3 p3.length b3]] w fun x w' => x = .returned (.bool true) ∧ Below w.heap.size w w' := by
  have HA := hide hA; have HB := hide hB
  have HN : Hid (p1.length ≤ 1000 ∧ p2.length ≤ 1000 ∧ p3.length ≤ 1000) := ⟨h1, h2, h3⟩
  obtain ⟨n1, hn1⟩ : ∃ n, n = p1.length := ⟨_, rfl⟩
  obtain ⟨n2, hn2⟩ : ∃ n, n = p2.length := ⟨_, rfl⟩
  obtain ⟨n3, hn3⟩ : ∃ n, n = p3.length := ⟨_, rfl⟩
  rw [← hn1, ← hn2, ← hn3]
  have HL : Hid (n1 = p1.length ∧ n2 = p2.length ∧ n3 = p3.length) := ⟨hn1, hn2, hn3⟩
  clear hA hB h1 h2 h3 hn1 hn2 hn3
  go_enter Tryd.func39, Tryd.ntmps39
  go_upto_region 1 with fail
  generalize hX1 : w.alloc _ = W1
  have hB1 : Below w.heap.size w W1 := hX1 ▸ (Below.refl _ _).alloc (Nat.le_refl _) _
  have ho1 : VsAt W1 w.heap.size 52 [.int .i64 i, .slice A1 n1 a1, .slice A2 n2 a2, .slice A3 n3 a3] := boxedV w W1 _ _ (by rw [← hX1]; rfl)
  have hz1 : W1.heap.size = w.heap.size + 1 := by rw [← hX1]; show (w.heap.push _).size = _; rw [Array.size_push]
  generalize hX2 : W1.alloc _ = W2
  have hB2 : Below W1.heap.size W1 W2 := hX2 ▸ (Below.refl _ _).alloc (Nat.le_refl _) _
  have ho2 : VsAt W2 W1.heap.size 52 [.int .i64 i, .slice B1 n1 b1, .slice B2 n2 b2, .slice B3 n3 b3] := boxedV W1 W2 _ _ (by rw [← hX2]; rfl)
  rw [hz1] at ho2
  have HK1 := hide (ho1.keep hB2); have HK2 := hide ho2
  have HBB := hide (thenB hB1 hB2)
  have x0 : W2.cell? ⟨w.heap.size, 0, none⟩ = some (.int .i64 i) := (unhide HK1).cell rfl
  have y0 : W2.cell? ⟨w.heap.size + 1, 0, none⟩ = some (.int .i64 i) := (unhide HK2).cell rfl
  have x1 : W2.cell? ⟨w.heap.size, 1, none⟩ = some (.slice A1 n1 a1) := (unhide HK1).cell rfl
  have y1 : W2.cell? ⟨w.heap.size + 1, 1, none⟩ = some (.slice B1 n1 b1) := (unhide HK2).cell rfl
  clear hX1 hX2 hB1 hB2 ho1 ho2 hz1
  go_wp2_with fail
  refine (sameDs_any W2 n1 p1 (unhide HL).1 (by have := unhide HL; have := unhide HN; omega) A1 a1 (by have := (unhide HA).c1; have := unhide HL; omega) ((unhide HA).d1.keep (unhide HBB)) B1 b1 (by have := (unhide HB).c1; have := unhide HL; omega) ((unhide HB).d1.keep (unhide HBB))).mono ?_; rintro x V1 ⟨rfl, hb1⟩
  have HK1 := hide ((unhide HK1).keep hb1); have HK2 := hide ((unhide HK2).keep hb1)
  have HBB := hide (thenB (unhide HBB) hb1)
  clear hb1 x1 y1 x0 y0
  have x2 : V1.cell? ⟨w.heap.size, 2, none⟩ = some (.slice A2 n2 a2) := (unhide HK1).cell rfl
  have y2 : V1.cell? ⟨w.heap.size + 1, 2, none⟩ = some (.slice B2 n2 b2) := (unhide HK2).cell rfl
  go_wp2_with fail
  refine (sameDs_any V1 n2 p2 (unhide HL).2.1 (by have := unhide HL; have := unhide HN; omega) A2 a2 (by have := (unhide HA).c2; have := unhide HL; omega) ((unhide HA).d2.keep (unhide HBB)) B2 b2 (by have := (unhide HB).c2; have := unhide HL; omega) ((unhide HB).d2.keep (unhide HBB))).mono ?_; rintro x V2 ⟨rfl, hb2⟩
  have HK1 := hide ((unhide HK1).keep hb2); have HK2 := hide ((unhide HK2).keep hb2)
  have HBB := hide (thenB (unhide HBB) hb2)
  clear hb2 x2 y2
  have x3 : V2.cell? ⟨w.heap.size, 3, none⟩ = some (.slice A3 n3 a3) := (unhide HK1).cell rfl
  have y3 : V2.cell? ⟨w.heap.size + 1, 3, none⟩ = some (.slice B3 n3 b3) := (unhide HK2).cell rfl
  go_wp2_with fail
  refine (sameDs_any V2 n3 p3 (unhide HL).2.2 (by have := unhide HL; have := unhide HN; omega) A3 a3 (by have := (unhide HA).c3; have := unhide HL; omega) ((unhide HA).d3.keep (unhide HBB)) B3 b3 (by have := (unhide HB).c3; have := unhide HL; omega) ((unhide HB).d3.keep (unhide HBB))).mono ?_; rintro x V3 ⟨rfl, hb3⟩
  have HK1 := hide ((unhide HK1).keep hb3); have HK2 := hide ((unhide HK2).keep hb3)
  have HBB := hide (thenB (unhide HBB) hb3)
  clear hb3 x3 y3
  go_wp2_with fail
  go_ret
  exact ⟨rfl, unhide HBB⟩
/-- what Sign returns -/
def SignR (w : World) (kA : Option Addr) (kn kc : Nat) (km ku i : Int) (p1 p2 p3 : List (List Int)) (e : Int) (x : Ending) (w' : World) : Prop :=
  ∃ A1 a1 A2 a2 A3 a3, x = .returned (.tuple #[.agg #[.slice kA kn kc, .int .i64 km, .int .i64 ku], .agg #[.int .i64 i, .slice A1 p1.length a1, .slice A2 p2.length a2, .slice A3 p3.length a3], .int .i64 e]) ∧ Sg3 w' p1 p2 p3 A1 a1 A2 a2 A3 a3 ∧ Below w.heap.size w w'
theorem signIs_R {w : World} {A : Option Addr} {n c : Nat} {seed : List Int} {many used : Nat} {msg : List Int} {x : Ending} {w' : World} (h : SignIs w A n c seed many used msg x w') :
    SignR w A n c (many : Int) ((used + 1 : Nat) : Int) (used : Int) (openedS seed used (bitsS (treeP (pubsS seed many)) used msg) 64) (closedS seed used (bitsS (treeP (pubsS seed many)) used msg) 64) (pathP (pubsS seed many) used) 0 x w' := by
  obtain ⟨A1, c1, A2, c2, A3, c3, rfl, s1, s2, h3, d3, _, hb⟩ := h
  refine ⟨A1, c1, A2, c2, A3, c3, ?_, ⟨by rw [openedS_length]; exact s1.cap, s1.at_, by rw [closedS_length]; exact s2.cap, s2.at_, h3, d3⟩, hb⟩
  rw [openedS_length, closedS_length]
  rfl
theorem signNone_R {w : World} {x : Ending} {w' : World} (h : x = .returned signNone ∧ Below w.heap.size w w') : SignR w none 0 0 0 0 0 [] [] [] 40 x w' :=
  ⟨none, 0, none, 0, none, 0, h.1, ⟨Nat.le_refl _, Ds.nil, Nat.le_refl _, Ds.nil, Nat.le_refl _, Ds.nil⟩, h.2⟩
theorem signs (w : World) (A : Option Addr) (n c : Nat) (seed : List Int) (hn : n = seed.length) (hc : n ≤ c) (hA : Bt w A seed) (hA0 : A = none → c = 0) (many used : Int) (Am : Option Addr) (nm cm : Nat) (msg : List Int) (hnm : nm = msg.length) (hcm : nm ≤ cm) (hAm : Bt w Am msg) (hAm0 : Am = none → cm = 0) (hT : DTab w)
    (h : fewS n many nm = true ∨ keyOk n many used = false) :
    ∃ kA kn kc km ku i p1 p2 p3 e l, kn = List.length l ∧ (∀ V, Below w.heap.size w V → Bt V kA l) ∧ p1.length ≤ 1000 ∧ p2.length ≤ 1000 ∧ p3.length ≤ 1000 ∧
      (∀ V, Below w.heap.size w V → Calls Tryd.prog 37 #[keyV A n c many used, .slice Am nm cm] V (SignR V kA kn kc km ku i p1 p2 p3 e)) ∧
      (∀ V, Below w.heap.size w V → Calls Tryd.prog 38 #[keyV A n c many used, .slice Am nm cm] V (SignR V kA kn kc km ku i p1 p2 p3 e)) := by
  by_cases hk : keyOk n many used = true
  · have hf : fewS n many nm = true := by rcases h with h | h; exact h; rw [hk] at h; cases h
    have hf' := hf
    unfold fewS at hf'
    rw [decide_eq_true_eq] at hf'
    have hk' := hk
    unfold keyOk at hk'
    rw [decide_eq_true_eq] at hk'
    by_cases hu : used = many
    · subst hu
      exact ⟨none, 0, 0, 0, 0, 0, [], [], [], 40, [], rfl, fun V _ => Bt.nil, by simp, by simp, by simp, fun V hV => (Sign_spent V A n c used hk Am nm cm (by omega)).mono fun _ _ => signNone_R, fun V hV => (rSign_spent V A n c used hk Am nm cm (by omega)).mono fun _ _ => signNone_R⟩
    · obtain ⟨M, rfl⟩ : ∃ k : Nat, many = k := ⟨many.toNat, by omega⟩
      obtain ⟨U, rfl⟩ : ∃ k : Nat, used = k := ⟨used.toNat, by omega⟩
      refine ⟨A, n, c, (M : Int), ((U + 1 : Nat) : Int), (U : Int), openedS seed U (bitsS (treeP (pubsS seed M)) U msg) 64, closedS seed U (bitsS (treeP (pubsS seed M)) U msg) 64, pathP (pubsS seed M) U, 0, seed, hn, fun V hV => hA.keep hV, by rw [openedS_length]; omega, by rw [closedS_length]; omega, ?_, fun V hV => ?_, fun V hV => ?_⟩
      · rw [(pathP_spec M (pubsS seed M) U (pubsS_length seed M) (by omega)).1]
        have := lenP_lt M U (by omega)
        omega
      · exact (Sign_ok V A n c seed hn hc (hA.keep hV) M U hk (by omega) Am nm cm msg hnm hcm (hAm.keep hV) hAm0 (by omega) (hT.keep hV)).mono fun _ _ => signIs_R
      · exact (rSign_ok V A n c seed hn hc (hA.keep hV) hA0 M U hk (by omega) Am nm cm msg hnm hcm (hAm.keep hV) hAm0 (by omega)).mono fun _ _ => signIs_R
  · have hk : keyOk n many used = false := by cases h2 : keyOk n many used; rfl; exact absurd h2 hk
    exact ⟨none, 0, 0, 0, 0, 0, [], [], [], 40, [], rfl, fun V _ => Bt.nil, by simp, by simp, by simp, fun V hV => (Sign_bad V A n c many used hk _).mono fun _ _ => signNone_R, fun V hV => (rSign_bad V A n c many used hk _).mono fun _ _ => signNone_R⟩
set_option maxRecDepth 100000 in
set_option maxHeartbeats 4000000 in
theorem signSpec_any (w : World) (A : Option Addr) (n c : Nat) (seed : List Int) (hn : n = seed.length) (hc : n ≤ c) (hA : Bt w A seed) (hA0 : A = none → c = 0) (many used : Int) (Am : Option Addr) (nm cm : Nat) (msg : List Int) (hnm : nm = msg.length) (hcm : nm ≤ cm) (hAm : Bt w Am msg) (hAm0 : Am = none → cm = 0) (hT : DTab w) :
    Calls Tryd.prog 6 #[keyV A n c many used, .slice Am nm cm] w (LawOk w) := by
  have HT := hide hT
  have hsg := signs w A n c seed hn hc hA hA0 many used Am nm cm msg hnm hcm hAm hAm0 hT
  unfold keyV at hsg ⊢
  have HSG := hide hsg
  clear hsg hT hA hAm hA0 hAm0 hn hnm hc hcm
  go_enter Tryd.func6, Tryd.ntmps6
  go_upto_region 1 with fail
  generalize hX1 : w.alloc _ = W1
  have hB1 : Below w.heap.size w W1 := hX1 ▸ (Below.refl _ _).alloc (Nat.le_refl _) _
  have HK1 := hide (boxedV w W1 [.slice A n c, .int .i64 many, .int .i64 used] 40 (by rw [← hX1]; rfl))
  have HB1 := hide hB1
  clear hX1 hB1
  go_wp2_with fail
  refine (sane4_any W1 ((unhide HT).keep (unhide HB1))).mono ?_; rintro x W2 ⟨rfl, hB2⟩
  have HK1 := hide ((unhide HK1).keep hB2)
  have HB2 := hide (thenB (unhide HB1) hB2)
  clear hB2 HB1
  obtain ⟨z, hz⟩ : ∃ z, z = fewS n many nm := ⟨_, rfl⟩
  obtain ⟨v, hv⟩ : ∃ z, z = keyOk n many used := ⟨_, rfl⟩
  have hfw := fun V => few4_any V A n c many used Am nm cm
  have hvl := fun V => rvalid_any V A n c many used
  rw [← hz] at hfw
  rw [← hv] at hvl
  have HFW := hide hfw; have HVL := hide hvl; have HZ := hide hz; have HV := hide hv
  clear hz hv hfw hvl
  go_upto_region 3 with fail
  go_cut [20] (fun y20 wx => y20 = .bool (!z && v) ∧ Below W2.heap.size W2 wx)
  case first =>
    refine wp_region_lit ?_
    refine wpList_load_mid rfl 40 (.tmp 2) rfl w.heap.size 0 rfl [.slice A n c, .int .i64 many, .int .i64 used] _ (unhide HK1).range Tryd.underlying40 rfl infoKey ?_
    try simp only [List.getElem_toArray, List.getElem_cons_zero, List.getElem_cons_succ, Act.put, List.setIfInBounds_toArray, List.set_cons_zero, List.set_cons_succ]
    refine wpList_plain rfl fun Kt hKt => ?_
    go_simp
    refine hKt _ _ ?_
    clear hKt Kt
    refine wpList_plain rfl fun Kt hKt => ?_
    go_simp
    refine ((unhide HFW) W2).mono ?_; rintro x W3 ⟨rfl, hB3⟩
    dsimp only
    refine hKt _ _ ?_
    clear hKt Kt
    try simp only [List.getElem_toArray, List.getElem_cons_zero, List.getElem_cons_succ, Act.put, List.setIfInBounds_toArray, List.set_cons_zero, List.set_cons_succ]
    have HK1 := hide ((unhide HK1).keep hB3)
    cases z
    · skip
      refine wpList_plain rfl fun Kt hKt => ?_
      go_simp
      refine hKt _ _ ?_
      clear hKt Kt
      refine wpList_plain rfl fun Kt hKt => ?_
      go_simp
      refine hKt _ _ ?_
      clear hKt Kt
      refine wpList_vgload5 (by kernel_rfl) 40 (.tmp 2) rfl w.heap.size rfl _ Tryd.underlying40 rfl _ [.slice A n c, .int .i64 many, .int .i64 used] infoKey (unhide HK1) ?_
      try simp only [List.getElem_toArray, List.getElem_cons_zero, List.getElem_cons_succ, Act.put, List.setIfInBounds_toArray, List.set_cons_zero, List.set_cons_succ]
      refine wpList_wanted (by kernel_rfl) fun Kt hKt => ?_
      go_simp
      refine ((unhide HVL) W3).mono ?_; rintro x W4 ⟨rfl, hB4⟩
      dsimp only
      refine hKt _ _ ?_
      clear hKt Kt
      try simp only [List.getElem_toArray, List.getElem_cons_zero, List.getElem_cons_succ, Act.put, List.setIfInBounds_toArray, List.set_cons_zero, List.set_cons_succ]
      have hB34 := thenB hB3 hB4
      go_wp2_with fail
      go_meet
      exact ⟨rfl, hB34⟩
    · skip
      refine wpList_plain rfl fun Kt hKt => ?_
      go_simp
      refine hKt _ _ ?_
      clear hKt Kt
      refine wpList_plain rfl fun Kt hKt => ?_
      go_simp
      refine hKt _ _ ?_
      clear hKt Kt
      refine wpList_skip (by kernel_rfl) ?_
      try simp only [List.getElem_toArray, List.getElem_cons_zero, List.getElem_cons_succ, Act.put, List.setIfInBounds_toArray, List.set_cons_zero, List.set_cons_succ]
      refine wpList_skip (by kernel_rfl) ?_
      try simp only [List.getElem_toArray, List.getElem_cons_zero, List.getElem_cons_succ, Act.put, List.setIfInBounds_toArray, List.set_cons_zero, List.set_cons_succ]
      go_wp2_with fail
      go_meet
      exact ⟨rfl, hB3⟩
  case rest =>
    obtain ⟨rfl, hB3⟩ := hcut
    obtain ⟨w4, rfl⟩ : ∃ x, x = wc := ⟨wc, rfl⟩
    have HK1 := hide ((unhide HK1).keep hB3)
    have HB3 := hide (thenB (unhide HB2) hB3)
    clear hB3
    by_cases hzv : (!z && v) = true
    · rw [hzv]
      go_wp2_with fail
      go_ret
      exact ⟨rfl, unhide HB3⟩
    · rw [show (!z && v) = false by simpa using hzv]
      obtain ⟨kA, kn, kc, km, ku, i, p1, p2, p3, e, l, hkn, hbt, l1, l2, l3, hS1, hS2⟩ := (unhide HSG) (by
        rw [← unhide HZ, ← unhide HV]
        cases z
        · right; cases v; rfl; simp at hzv
        · left; rfl)
      obtain ⟨q1, hq1⟩ : ∃ n, n = p1.length := ⟨_, rfl⟩
      obtain ⟨q2, hq2⟩ : ∃ n, n = p2.length := ⟨_, rfl⟩
      obtain ⟨q3, hq3⟩ : ∃ n, n = p3.length := ⟨_, rfl⟩
      have HQ : Hid (q1 = p1.length ∧ q2 = p2.length ∧ q3 = p3.length) := ⟨hq1, hq2, hq3⟩
      have HKN := hide hkn; have HBT := hide hbt; have HL : Hid (p1.length ≤ 1000 ∧ p2.length ≤ 1000 ∧ p3.length ≤ 1000) := ⟨l1, l2, l3⟩
      have HS1 := hide hS1; have HS2 := hide hS2
      clear hkn hbt l1 l2 l3 hS1 hS2 hq1 hq2 hq3 hzv HSG HZ HV HFW HVL
      go_upto_region 5 with fail
      refine wp_region_lit ?_
      refine wpList_load_mid rfl 40 (.tmp 2) rfl w.heap.size 0 rfl [.slice A n c, .int .i64 many, .int .i64 used] _ (unhide HK1).range Tryd.underlying40 rfl infoKey ?_
      try simp only [List.getElem_toArray, List.getElem_cons_zero, List.getElem_cons_succ, Act.put, List.setIfInBounds_toArray, List.set_cons_zero, List.set_cons_succ]
      go_wp2_with fail
      refine ((unhide HS1) w4 (unhide HB3)).mono ?_; rintro x Ua ⟨A1, a1, A2, a2, A3, a3, rfl, hsa, hba⟩
      rw [← (unhide HQ).1, ← (unhide HQ).2.1, ← (unhide HQ).2.2]
      have HGa := hide hsa
      have HBa := hide (thenB (unhide HB3) hba)
      have HK1 := hide ((unhide HK1).keep hba)
      clear hsa hba
      dsimp only
      rename_i KK hK
      refine hK _ _ ?_
      clear hK KK
      refine wpList_plain rfl fun Kt hKt => ?_
      go_simp
      refine hKt _ _ ?_
      clear hKt Kt
      refine wpList_plain rfl fun Kt hKt => ?_
      go_simp
      refine hKt _ _ ?_
      clear hKt Kt
      refine wpList_plain rfl fun Kt hKt => ?_
      go_simp
      refine hKt _ _ ?_
      clear hKt Kt
      refine wpList_plain rfl fun Kt hKt => ?_
      go_simp
      refine hKt _ _ ?_
      clear hKt Kt
      refine wpList_plain rfl fun Kt hKt => ?_
      go_simp
      refine hKt _ _ ?_
      clear hKt Kt
      generalize hXa : World.alloc _ _ = Va
      have hca : Below Ua.heap.size Ua Va := hXa ▸ (Below.refl _ _).alloc (Nat.le_refl _) _
      have hka : VsAt Va Ua.heap.size 40 [.slice none 0 0, .int .i64 0, .int .i64 0] := boxedV Ua Va _ _ (by rw [← hXa]; rfl)
      have hzka : Va.heap.size = Ua.heap.size + 1 := by rw [← hXa]; show (Ua.heap.push _).size = _; rw [Array.size_push]
      refine wpList_plain rfl fun Kt hKt => ?_
      go_simp
      refine hKt _ _ ?_
      clear hKt Kt
      generalize hYa : World.alloc _ _ = Sa
      have hda : Below Va.heap.size Va Sa := hYa ▸ (Below.refl _ _).alloc (Nat.le_refl _) _
      have hsa : VsAt Sa Va.heap.size 52 [.int .i64 0, .slice none 0 0, .slice none 0 0, .slice none 0 0] := boxedV Va Sa _ _ (by rw [← hYa]; rfl)
      have hkka := hka.keep hda
      rw [hzka] at hsa
      have hcda := thenB hca hda
      obtain ⟨Na, hNa⟩ : ∃ N, N = Ua.heap.size := ⟨_, rfl⟩
      rw [← hNa] at hkka hsa ⊢
      refine wpList_vput rfl 40 (.tmp 5) (.tmp 25) rfl Na 0 rfl [.slice kA kn kc, .int .i64 km, .int .i64 ku] rfl infoKey (keyL_one _ _ _ _ _) _ _ hkka (by simp) ?_
      intro Ta HTa HGTa
      have hta := unhide HTa
      rw [spliceV_all _ _ (by simp)] at hta
      have hbta : Below Ua.heap.size Ua Ta := hcda.grown (unhide HGTa) hcda.size (fun i e => by injection e with e; omega)
      have hsta := hsa.grown (unhide HGTa) (fun e => by injection e with e; omega)
      refine wpList_vput rfl 52 (.tmp 6) (.tmp 26) rfl (Na + 1) 0 rfl [.int .i64 i, .slice A1 q1 a1, .slice A2 q2 a2, .slice A3 q3 a3] rfl infoSig (sigL_one _ _ _ _ _ _ _ _ _ _) _ _ hsta (by simp) ?_
      intro Ra HRa HGRa
      have hra := unhide HRa
      rw [spliceV_all _ _ (by simp)] at hra
      have hbra : Below Ua.heap.size Ua Ra := hbta.grown (unhide HGRa) hbta.size (fun i e => by injection e with e; omega)
      have HKXa := hide (hta.grown (unhide HGRa) (fun e => by injection e with e; omega))
      have HSXa := hide hra
      have HGa := hide ((unhide HGa).keep hbra)
      have HK1 := hide ((unhide HK1).keep hbra)
      have HBa := hide (thenB (unhide HBa) hbra)
      clear hXa hYa hca hka hzka hda hsa hkka hcda HTa HGTa hta hbta hsta HRa HGRa hra hbra hNa
      try simp only [List.getElem_toArray, List.getElem_cons_zero, List.getElem_cons_succ, Act.put, List.setIfInBounds_toArray, List.set_cons_zero, List.set_cons_succ]
      go_upto_region 6 with fail
      refine wp_region_lit ?_
      refine wpList_load_mid rfl 40 (.tmp 2) rfl w.heap.size 0 rfl [.slice A n c, .int .i64 many, .int .i64 used] _ (unhide HK1).range Tryd.underlying40 rfl infoKey ?_
      try simp only [List.getElem_toArray, List.getElem_cons_zero, List.getElem_cons_succ, Act.put, List.setIfInBounds_toArray, List.set_cons_zero, List.set_cons_succ]
      go_wp2_with fail
      refine ((unhide HS2) Ra (unhide HBa)).mono ?_; rintro x Ub ⟨B1, b1, B2, b2, B3, b3, rfl, hsb, hbb⟩
      rw [← (unhide HQ).1, ← (unhide HQ).2.1, ← (unhide HQ).2.2]
      have HGb := hide hsb
      have HBb := hide (thenB (unhide HBa) hbb)
      have HK1 := hide ((unhide HK1).keep hbb)
      have HKXa := hide ((unhide HKXa).keep hbb)
      have HSXa := hide ((unhide HSXa).keep hbb)
      have HGa := hide ((unhide HGa).keep hbb)
      clear hsb hbb
      dsimp only
      rename_i KK hK
      refine hK _ _ ?_
      clear hK KK
      refine wpList_plain rfl fun Kt hKt => ?_
      go_simp
      refine hKt _ _ ?_
      clear hKt Kt
      refine wpList_plain rfl fun Kt hKt => ?_
      go_simp
      refine hKt _ _ ?_
      clear hKt Kt
      refine wpList_plain rfl fun Kt hKt => ?_
      go_simp
      refine hKt _ _ ?_
      clear hKt Kt
      refine wpList_plain rfl fun Kt hKt => ?_
      go_simp
      refine hKt _ _ ?_
      clear hKt Kt
      refine wpList_plain rfl fun Kt hKt => ?_
      go_simp
      refine hKt _ _ ?_
      clear hKt Kt
      generalize hXb : World.alloc _ _ = Vb
      have hcb : Below Ub.heap.size Ub Vb := hXb ▸ (Below.refl _ _).alloc (Nat.le_refl _) _
      have hkb : VsAt Vb Ub.heap.size 40 [.slice none 0 0, .int .i64 0, .int .i64 0] := boxedV Ub Vb _ _ (by rw [← hXb]; rfl)
      have hzkb : Vb.heap.size = Ub.heap.size + 1 := by rw [← hXb]; show (Ub.heap.push _).size = _; rw [Array.size_push]
      refine wpList_plain rfl fun Kt hKt => ?_
      go_simp
      refine hKt _ _ ?_
      clear hKt Kt
      generalize hYb : World.alloc _ _ = Sb
      have hdb : Below Vb.heap.size Vb Sb := hYb ▸ (Below.refl _ _).alloc (Nat.le_refl _) _
      have hsb : VsAt Sb Vb.heap.size 52 [.int .i64 0, .slice none 0 0, .slice none 0 0, .slice none 0 0] := boxedV Vb Sb _ _ (by rw [← hYb]; rfl)
      have hkkb := hkb.keep hdb
      rw [hzkb] at hsb
      have hcdb := thenB hcb hdb
      obtain ⟨Nb, hNb⟩ : ∃ N, N = Ub.heap.size := ⟨_, rfl⟩
      rw [← hNb] at hkkb hsb ⊢
      refine wpList_vput rfl 40 (.tmp 8) (.tmp 32) rfl Nb 0 rfl [.slice kA kn kc, .int .i64 km, .int .i64 ku] rfl infoKey (keyL_one _ _ _ _ _) _ _ hkkb (by simp) ?_
      intro Tb HTb HGTb
      have htb := unhide HTb
      rw [spliceV_all _ _ (by simp)] at htb
      have hbtb : Below Ub.heap.size Ub Tb := hcdb.grown (unhide HGTb) hcdb.size (fun i e => by injection e with e; omega)
      have hstb := hsb.grown (unhide HGTb) (fun e => by injection e with e; omega)
      refine wpList_vput rfl 52 (.tmp 9) (.tmp 33) rfl (Nb + 1) 0 rfl [.int .i64 i, .slice B1 q1 b1, .slice B2 q2 b2, .slice B3 q3 b3] rfl infoSig (sigL_one _ _ _ _ _ _ _ _ _ _) _ _ hstb (by simp) ?_
      intro Rb HRb HGRb
      have hrb := unhide HRb
      rw [spliceV_all _ _ (by simp)] at hrb
      have hbrb : Below Ub.heap.size Ub Rb := hbtb.grown (unhide HGRb) hbtb.size (fun i e => by injection e with e; omega)
      have HKXb := hide (htb.grown (unhide HGRb) (fun e => by injection e with e; omega))
      have HSXb := hide hrb
      have HGb := hide ((unhide HGb).keep hbrb)
      have HK1 := hide ((unhide HK1).keep hbrb)
      have HKXa := hide ((unhide HKXa).keep hbrb)
      have HSXa := hide ((unhide HSXa).keep hbrb)
      have HGa := hide ((unhide HGa).keep hbrb)
      have HBb := hide (thenB (unhide HBb) hbrb)
      clear hXb hYb hcb hkb hzkb hdb hsb hkkb hcdb HTb HGTb htb hbtb hstb HRb HGRb hrb hbrb hNb
      try simp only [List.getElem_toArray, List.getElem_cons_zero, List.getElem_cons_succ, Act.put, List.setIfInBounds_toArray, List.set_cons_zero, List.set_cons_succ]
      go_upto_region 7 with fail
      refine wp_region_lit ?_
      refine wpList_plain rfl fun Kt hKt => ?_
      go_simp
      refine hKt _ _ ?_
      clear hKt Kt
      refine wpList_plain rfl fun Kt hKt => ?_
      go_simp
      refine hKt _ _ ?_
      clear hKt Kt
      refine wpList_plain rfl fun Kt hKt => ?_
      go_simp
      refine hKt _ _ ?_
      clear hKt Kt
      refine wpList_plain rfl fun Kt hKt => ?_
      go_simp
      refine hKt _ _ ?_
      clear hKt Kt
      refine wpList_vgload5 (by kernel_rfl) 40 (.tmp 5) rfl Na rfl _ Tryd.underlying40 rfl _ [.slice kA kn kc, .int .i64 km, .int .i64 ku] infoKey (unhide HKXa) ?_
      try simp only [List.getElem_toArray, List.getElem_cons_zero, List.getElem_cons_succ, Act.put, List.setIfInBounds_toArray, List.set_cons_zero, List.set_cons_succ]
      refine wpList_vgload5 (by kernel_rfl) 40 (.tmp 8) rfl Nb rfl _ Tryd.underlying40 rfl _ [.slice kA kn kc, .int .i64 km, .int .i64 ku] infoKey (unhide HKXb) ?_
      try simp only [List.getElem_toArray, List.getElem_cons_zero, List.getElem_cons_succ, Act.put, List.setIfInBounds_toArray, List.set_cons_zero, List.set_cons_succ]
      refine wpList_wanted (by kernel_rfl) fun Kt hKt => ?_
      go_simp
      refine (sameKey_any Rb kA kA kn kc kc l km ku (unhide HKN) ((unhide HBT) Rb (unhide HBb)) ((unhide HBT) Rb (unhide HBb))).mono ?_; rintro x Y1 ⟨rfl, hb1⟩
      dsimp only
      refine hKt _ _ ?_
      clear hKt Kt
      try simp only [List.getElem_toArray, List.getElem_cons_zero, List.getElem_cons_succ, Act.put, List.setIfInBounds_toArray, List.set_cons_zero, List.set_cons_succ]
      have HSXa := hide ((unhide HSXa).keep hb1); have HSXb := hide ((unhide HSXb).keep hb1); have HGa := hide ((unhide HGa).keep hb1); have HGb := hide ((unhide HGb).keep hb1)
      have HBb := hide (thenB (unhide HBb) hb1)
      clear hb1
      refine wpList_plain rfl fun Kt hKt => ?_
      go_simp
      refine hKt _ _ ?_
      clear hKt Kt
      refine wpList_plain rfl fun Kt hKt => ?_
      go_simp
      refine hKt _ _ ?_
      clear hKt Kt
      refine wpList_vgload5 (by kernel_rfl) 52 (.tmp 6) rfl (Na + 1) rfl _ Tryd.underlying52 rfl _ [.int .i64 i, .slice A1 q1 a1, .slice A2 q2 a2, .slice A3 q3 a3] infoSig (unhide HSXa) ?_
      try simp only [List.getElem_toArray, List.getElem_cons_zero, List.getElem_cons_succ, Act.put, List.setIfInBounds_toArray, List.set_cons_zero, List.set_cons_succ]
      refine wpList_vgload5 (by kernel_rfl) 52 (.tmp 9) rfl (Nb + 1) rfl _ Tryd.underlying52 rfl _ [.int .i64 i, .slice B1 q1 b1, .slice B2 q2 b2, .slice B3 q3 b3] infoSig (unhide HSXb) ?_
      try simp only [List.getElem_toArray, List.getElem_cons_zero, List.getElem_cons_succ, Act.put, List.setIfInBounds_toArray, List.set_cons_zero, List.set_cons_succ]
      refine wpList_wanted (by kernel_rfl) fun Kt hKt => ?_
      go_simp
      have hss := sameSig_any Y1 i p1 p2 p3 (unhide HL).1 (unhide HL).2.1 (unhide HL).2.2 A1 a1 A2 a2 A3 a3 (unhide HGa) B1 b1 B2 b2 B3 b3 (unhide HGb)
      rw [← (unhide HQ).1, ← (unhide HQ).2.1, ← (unhide HQ).2.2] at hss
      refine hss.mono ?_; rintro x Y2 ⟨rfl, hb2⟩
      dsimp only
      refine hKt _ _ ?_
      clear hKt Kt
      try simp only [List.getElem_toArray, List.getElem_cons_zero, List.getElem_cons_succ, Act.put, List.setIfInBounds_toArray, List.set_cons_zero, List.set_cons_succ]
      have HEND := hide (thenB (unhide HBb) hb2)
      clear hb2
      go_wp2_with fail
      go_ret
      exact ⟨rfl, unhide HEND⟩
end Go.Proofs.YtceppmajbkmbdaaDoor
