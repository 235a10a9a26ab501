/- The reference's tagged hash: a contract. The reference's tree: half, node, Tree. The reference's tree: Tree. The reference's paths: length and path. The reference's climb of a path. The reference's Climb. Climb with every argument: one contract each, the program's and the reference's. The reference of signing: Valid, hash, two, secret. The reference of signing: one. The reference of signing: two digests in a slice. The reference of signing: keys. The reference of signing: Public. The reference of signing: Bits. The reference of signing: Verify and Short; Verify for every argument. The law SigningVerifySpec: Verify is the reference's. How a signature is read as an argument. -/
import Derived.Test.YtceppmajbkmbdaaDoorDigRAll
import Derived.Test.YtceppmajbkmbdaaDoorDigTag
import Derived.Test.YtceppmajbkmbdaaDoorDigApp2
import Derived.Test.YtceppmajbkmbdaaDoorDigTop
import Derived.Test.YtceppmajbkmbdaaDoorDigTwo
import Derived.Test.YtceppmajbkmbdaaDoorDigClm
import Derived.Test.YtceppmajbkmbdaaDoorDigClimbA
import Derived.Test.YtceppmajbkmbdaaDoorSigSane
import Derived.Test.YtceppmajbkmbdaaDoorSigV
import Derived.Deep.DeepCutAuto
import Derived.Test.YtceppmajbkmbdaaDoorClose
import Derived.Test.YtceppmajbkmbdaaDoorSigOpen
namespace Go.Proofs.YtceppmajbkmbdaaDoor
set_option linter.unusedSimpArgs false
set_option linter.unusedVariables false
open Go.RowKit

set_option maxRecDepth 100000 in
set_option maxHeartbeats 2000000 in
theorem rtag_any (w : World) (s : ByteArray) (A : Option Addr) (c : Nat) (l : List Int) (hA : Bt w A l) (hc : l.length ≤ c) (hn : A = none → c = 0) (hl : l.length ≤ 800000000) (hs : (sb s).length ≤ 800000000) :
    Calls Tryd.prog 48 #[.string s, .slice A l.length c] w fun x w' => x = .returned (dv (tagF (sb s) l)) ∧ Below w.heap.size w w' := by
  obtain ⟨n, hnl⟩ : ∃ n, n = l.length := ⟨_, rfl⟩
  have HA := hide hA
  have HL : Hid (n = l.length ∧ l.length ≤ 800000000 ∧ l.length ≤ c ∧ (sb s).length ≤ 800000000) := ⟨hnl, hl, hc, hs⟩
  have HNn := hide hn
  rw [← hnl]
  clear hnl hl hA hn hc hs
  go_enter Tryd.func48, Tryd.ntmps48
  go_upto_region 1 with fail
  generalize hX1 : w.alloc _ = W1
  have hB1 : Below w.heap.size w W1 := hX1 ▸ (Below.refl _ _).alloc (Nat.le_refl _) _
  have HR1 := hide (newBy w W1 (by rw [← hX1]; rfl))
  have HB1 := hide hB1
  clear hX1 hB1
  obtain ⟨W2, C, hcv, hB2, hBt, hC⟩ := conv_str W1 s
  have HB2 := hide (thenB (unhide HB1) hB2)
  have HR2 := hide ((unhide HR1).keep hB2)
  have HBt := hide hBt
  have HC2 : Hid ((sb s).length ≤ C) := hC
  clear hB2 hBt hC HR1 HB1
  go_wp2_with fail
  refine (rsum_any W2 _ C (sb s) (unhide HBt) (unhide HC2) (fun h => by cases h) (by have := unhide HL; omega)).mono ?_; rintro x W3 ⟨rfl, hB3⟩
  have HB3 := hide (thenB (unhide HB2) hB3)
  have HR3 := hide ((unhide HR2).keep hB3)
  obtain ⟨D, hD⟩ : ∃ D, D = hashF (sb s) := ⟨_, rfl⟩
  have hgD : Dg D := hD ▸ dg_hash _
  rw [← hD]
  obtain ⟨cd, hcd⟩ : ∃ cs, cs = (D.map (Value.int .u8)).toArray := ⟨_, rfl⟩
  rw [show dv D = .agg cd by rw [hcd]]
  have HD := hide hD
  have HGD := hide hgD
  have HCD := hide hcd
  clear hcv hB3 hD hgD hcd HB2 HBt HC2 HR2
  dsimp only
  rename_i KK hK
  refine hK _ _ ?_
  clear hK KK
  refine wpList_plain rfl fun Kt hKt => ?_
  go_simp
  refine hKt _ _ ?_
  clear hKt Kt
  generalize hX4 : W3.alloc _ = W4
  have hB4 : Below W3.heap.size W3 W4 := hX4 ▸ (Below.refl _ _).alloc (Nat.le_refl _) _
  have HO4 := hide (newBy W3 W4 (by rw [← hX4]; rfl))
  have HB4 := hide (thenB (unhide HB3) hB4)
  have HR4 := hide ((unhide HR3).keep hB4)
  obtain ⟨M, hM⟩ : ∃ M, M = W3.heap.size := ⟨_, rfl⟩
  have HM : Hid (w.heap.size < M) := hM ▸ lt_of_block (unhide HR3)
  rw [← hM] at HO4 ⊢
  clear hX4 hB4 HB3 HR3 hM
  refine wpList_bstore rfl 24 (.tmp 5) (.tmp 8) rfl M rfl D (show Value.agg cd = _ by rw [unhide HCD]) 32 info32 (unhide HGD).len _ zeros (unhide HO4) rfl ?_
  intro W5 HW5 HG5
  have HB5 := hide ((unhide HB4).grown (unhide HG5) (unhide HB4).size (fun i e => by injection e with e; have := unhide HM; omega))
  have HR5 := hide ((unhide HR4).grown (unhide HG5) (by have := unhide HM; omega))
  clear HG5 HO4 HB4 HR4
  try simp only [List.getElem_toArray, List.getElem_cons_zero, List.getElem_cons_succ, Act.put, List.setIfInBounds_toArray, List.set_cons_zero, List.set_cons_succ]
  go_upto_region 2 with fail
  refine wp_region_lit ?_
  refine wpList_plain rfl fun Kt hKt => ?_
  go_simp
  refine hKt _ _ ?_
  clear hKt Kt
  generalize hX : W5.alloc _ = V1
  have hv1 : Below W5.heap.size W5 V1 := hX ▸ (Below.refl _ _).alloc (Nat.le_refl _) _
  have hown1 : OwnB V1 W5.heap.size (.slice (some ⟨W5.heap.size, 0, none⟩) 0 0) [] := hX ▸ World.ownsRow_lit W5 #[] 0 (Nat.le_refl _) (Nat.zero_le _) rfl
  clear hX
  refine wpList_plain rfl fun Kt hKt => ?_
  go_simp
  refine hKt _ _ ?_
  clear hKt Kt
  refine wpList_plain rfl fun Kt hKt => ?_
  obtain ⟨v2, V2, hr2, hown2, hg2⟩ := run_append_B hown1 22 (some ⟨M, 0, none⟩) 32 (((unhide HW5).keep hv1).bt (unhide HGD)) (fun h => by cases h) (by rw [(unhide HGD).len]; simp) hv1.size
  rw [(unhide HGD).len] at hr2
  have hv2 := grown_below hv1 hg2 (fun k hk => (hown1.lt k hk).1)
  refine wp_append (.tmp 9) (.tmp 10) 22 rfl _ _ v2 V2 rfl rfl hr2 ?_
  refine hKt _ _ ?_
  clear hKt Kt hr2 hown1 hg2 hv1
  try simp only [List.getElem_toArray, List.getElem_cons_zero, List.getElem_cons_succ, Act.put, List.setIfInBounds_toArray, List.set_cons_zero, List.set_cons_succ]
  refine wpList_plain rfl fun Kt hKt => ?_
  go_simp
  refine hKt _ _ ?_
  clear hKt Kt
  refine wpList_plain rfl fun Kt hKt => ?_
  obtain ⟨v3, V3, hr3, hown3, hg3⟩ := run_append_B hown2 22 A c (((unhide HA).keep (unhide HB5)).keep hv2) (unhide HNn) (by have h1 := (unhide HGD).len; have h2 := unhide HL; rw [List.nil_append]; omega) hv2.size
  rw [← (unhide HL).1] at hr3
  have hv3 := grown_below hv2 hg3 (fun k hk => (hown2.lt k hk).1)
  refine wp_append (.tmp 11) (.tmp 12) 22 rfl _ _ v3 V3 rfl rfl hr3 ?_
  refine hKt _ _ ?_
  clear hKt Kt hr3 hown2 hg3 hv2
  try simp only [List.getElem_toArray, List.getElem_cons_zero, List.getElem_cons_succ, Act.put, List.setIfInBounds_toArray, List.set_cons_zero, List.set_cons_succ]
  rw [List.nil_append] at hown3
  have hne : D ++ l ≠ [] := by
    intro h
    have h1 := congrArg List.length h
    rw [List.length_append, (unhide HGD).len] at h1
    simp at h1
  obtain ⟨g3, c3, rfl, -, -, -⟩ := hown3.opened hne
  have hbt3 : Bt V3 (some ⟨g3, 0, none⟩) (D ++ l) ∧ (D ++ l).length ≤ c3 := by
    obtain ⟨A4, c4, e, hc4, hbt4⟩ := hown3.bt (fun x hx => by
      rcases List.mem_append.1 hx with h | h
      · exact (unhide HGD).byt x h
      · exact (unhide HA).byt x h)
    injection e with e1 e2 e3
    subst e1 e3
    exact ⟨hbt4, hc4⟩
  have hsm := rsum_any V3 (some ⟨g3, 0, none⟩) c3 (D ++ l) hbt3.1 hbt3.2 (fun h => by cases h) (by have h1 := (unhide HGD).len; have h2 := unhide HL; rw [List.length_append]; omega)
  obtain ⟨T, hT⟩ : ∃ T, T = tagF (sb s) l := ⟨_, rfl⟩
  rw [show hashF (D ++ l) = T by rw [hT, unhide HD]; rfl] at hsm
  have HTT := hide hT
  obtain ⟨nl, hnl⟩ : ∃ nl, nl = (D ++ l).length := ⟨_, rfl⟩
  rw [← hnl] at hsm ⊢
  have hgT : Dg T := hT ▸ dg_hash _
  obtain ⟨ct, hct⟩ : ∃ cs, cs = (T.map (Value.int .u8)).toArray := ⟨_, rfl⟩
  rw [show dv T = .agg ct by rw [hct]] at hsm
  have HCT := hide hct
  have HGT := hide hgT
  have HV3 := hide (thenB (unhide HB5) hv3)
  have HR6 := hide ((unhide HR5).keep hv3)
  clear hct hgT hT hnl hbt3 hown3 hne hv3
  refine wpList_plain rfl fun Kt hKt => ?_
  go_simp
  refine hsm.mono ?_; rintro x V4 ⟨rfl, hb4⟩
  dsimp only
  refine hKt _ _ ?_
  clear hKt Kt hsm
  have HV4 := hide (thenB (unhide HV3) hb4)
  have HR7 := hide ((unhide HR6).keep hb4)
  clear hb4
  try simp only [List.getElem_toArray, List.getElem_cons_zero, List.getElem_cons_succ, Act.put, List.setIfInBounds_toArray, List.set_cons_zero, List.set_cons_succ]
  refine wpList_bstore rfl 24 (.tmp 4) (.tmp 14) rfl w.heap.size rfl T (show Value.agg ct = _ by rw [unhide HCT]) 32 info32 (unhide HGT).len _ zeros (unhide HR7) rfl ?_
  intro V9 HV9 HG9
  have HB9 := hide ((unhide HV4).grown (unhide HG9) (unhide HV4).size (fun i e => by injection e with e; omega))
  go_wp2_with fail
  try simp only [Exit.inBlock, Exit.then]
  exact bret rfl rfl w.heap.size rfl _ _ (unhide HV9) (unhide HGT).len ⟨by rw [unhide HTT], unhide HB9⟩

end Go.Proofs.YtceppmajbkmbdaaDoor
namespace Go.Proofs.YtceppmajbkmbdaaDoor
set_option linter.unusedSimpArgs false
set_option linter.unusedVariables false
open Go.RowKit

theorem half_is {n i K : Nat} (hK : K = 2 ^ i) (h1 : K < n) (h2 : ¬ 2 * K < n) : halfN n = K := by
  have h0 : n - 1 ≠ 0 := by
    have := Nat.pow_pos (n := i) (show 0 < 2 by omega)
    omega
  have h3 : Nat.log2 (n - 1) = i := (Nat.log2_eq_iff h0).2 ⟨by omega, by rw [Nat.pow_succ]; omega⟩
  unfold halfN
  rw [h3, hK]
set_option maxRecDepth 100000 in
set_option maxHeartbeats 2000000 in
theorem rhalf_any (n : Nat) (h2 : 2 ≤ n) (hn : n ≤ 1099511627776) (w : World) :
    Calls Tryd.prog 49 #[.int .i64 (n : Int)] w fun e w' => e = .returned (.int .i64 ((halfN n : Nat) : Int)) ∧ w' = w := by
  have HN : Hid (2 ≤ n ∧ n ≤ 1099511627776) := ⟨h2, hn⟩
  clear h2 hn
  go_enter Tryd.func49, Tryd.ntmps49
  go_wp2_with fail
  go_loopg [3] 41 (fun g y wx => ∃ (i K : Nat), g + i = 41 ∧ y = .int .i64 (K : Int) ∧ K = 2 ^ i ∧ K < n ∧ wx = w)
  case atStart => exact ⟨0, 1, rfl, rfl, rfl, by have := unhide HN; omega, rfl⟩
  case round =>
    obtain ⟨i, K, hg, rfl, hK, hKn, rfl⟩ := hrel
    have k0 : (0 : Int) ≤ (K : Int) := Int.natCast_nonneg _
    have kM : (K : Int) ≤ 1099511627776 := by have := unhide HN; omega
    by_cases hlt : 2 * K < n
    · have hl : 2 * (K : Int) < (n : Int) := by omega
      have h41 : i + 1 < 41 := by
        rcases Nat.lt_or_ge (i + 1) 41 with h | h
        · exact h
        · have h3 := Nat.pow_le_pow_right (n := 2) (by omega) h
          rw [Nat.pow_succ] at h3
          have := unhide HN
          omega
      obtain ⟨g, rfl⟩ : ∃ g, gk = g + 1 := ⟨gk - 1, by omega⟩
      have HKK : Hid (g + 1 + i = 41 ∧ K = 2 ^ i ∧ 2 * K < n) := ⟨hg, hK, hlt⟩
      clear hg hK hKn hlt h41
      go_wp2_with fail
      go_roundg g
      case measure => omega
      case rel => exact ⟨i + 1, 2 * K, by have := (unhide HKK).1; omega, by push_cast; rfl, by rw [Nat.pow_succ, (unhide HKK).2.1]; omega, (unhide HKK).2.2, rfl⟩
    · have hl : ¬ 2 * (K : Int) < (n : Int) := by omega
      have hh := half_is hK hKn hlt
      have HH := hide hh
      clear hg hK hKn hlt hh
      go_wp2_with fail
      go_ret
      exact ⟨by rw [unhide HH]; rfl, rfl⟩

set_option maxRecDepth 100000 in
set_option maxHeartbeats 4000000 in
theorem rnode_any (w : World) (d e : List Int) (hd : Dg d) (he : Dg e) :
    Calls Tryd.prog 50 #[dv d, dv e] w fun x w' => x = .returned (dv (nodeP d e)) ∧ Below w.heap.size w w' := by
  have HD := hide hd
  have hld := hd.len
  obtain ⟨cd, hcd⟩ : ∃ cs, cs = (d.map (Value.int .u8)).toArray := ⟨_, rfl⟩
  have hsd : cd.size = 32 := by rw [hcd]; simpa using hld
  rw [show dv d = .agg cd by rw [hcd]]
  have HE := hide he
  have hle := he.len
  obtain ⟨ce, hce⟩ : ∃ cs, cs = (e.map (Value.int .u8)).toArray := ⟨_, rfl⟩
  have hse : ce.size = 32 := by rw [hce]; simpa using hle
  rw [show dv e = .agg ce by rw [hce]]
  clear hd hld he hle
  go_enter Tryd.func50, Tryd.ntmps50
  go_upto_region 1 with fail
  generalize hX1 : w.alloc _ = W1
  have hB1 : Below w.heap.size w W1 := hX1 ▸ (Below.refl _ _).alloc (Nat.le_refl _) _
  have ho1 : ByAt W1 w.heap.size 24 d := boxed w W1 d _ (by rw [← hX1]; first | rfl | (rw [hcd]; rfl))
  have hz1 : W1.heap.size = w.heap.size + 1 := by rw [← hX1]; show (w.heap.push _).size = _; rw [Array.size_push]
  generalize hX2 : W1.alloc _ = W2
  have hB2 : Below W1.heap.size W1 W2 := hX2 ▸ (Below.refl _ _).alloc (Nat.le_refl _) _
  have ho2 : ByAt W2 W1.heap.size 24 e := boxed W1 W2 e _ (by rw [← hX2]; first | rfl | (rw [hce]; rfl))
  have hz2 : W2.heap.size = w.heap.size + 2 := by rw [← hX2]; show (W1.heap.push _).size = _; rw [Array.size_push]; omega
  generalize hX3 : W2.alloc _ = W3
  have hB3 : Below W2.heap.size W2 W3 := hX3 ▸ (Below.refl _ _).alloc (Nat.le_refl _) _
  have ho3 : ByAt W3 W2.heap.size 24 zeros := newBy W2 W3 (by rw [← hX3]; rfl)
  have hz3 : W3.heap.size = w.heap.size + 3 := by rw [← hX3]; show (W2.heap.push _).size = _; rw [Array.size_push]; omega
  have hB : Below w.heap.size w W3 := (thenB (thenB hB1 hB2) hB3)
  have hk1 := ((ho1.keep hB2).keep hB3)
  have hk2 := (ho2.keep hB3)
  rw [hz1] at hk2
  have hk3 := ho3
  rw [hz2] at hk3
  obtain ⟨W, hW⟩ : ∃ W, W = W3.drewN 1 := ⟨_, rfl⟩
  have HW : Hid (W = W3.drewN 1) := hW
  have HK1 := hide (hk1.keep (below_named HW))
  have HK2 := hide (hk2.keep (below_named HW))
  have HK3 := hide (hk3.keep (below_named HW))
  have HB := hide (thenB hB (below_named HW))
  have HZ : Hid (w.heap.size + 3 ≤ W.heap.size) := by have := (below_named HW).size; show _ ≤ _; omega
  have hS0 : Below W.heap.size W W := Below.refl _ _
  clear hW hB hX1 hB1 ho1 hz1 hk1 hX2 hB2 ho2 hz2 hk2 hX3 hB3 ho3 hz3 hk3 hcd hce
  refine held (S := Below w.heap.size w) W HW (by kernel_rfl) ?_
  have hSW := unhide HB
  refine wpAnyH_take (i := 1) (v := ?_) rfl (by kernel_rfl) (by kernel_rfl) (by kernel_rfl) (fun _ _ _ h => h) (Or.inl ⟨by kernel_rfl, ?_⟩) (by assumption) ?_
  rotate_left
  · intro Wt hSt
    go_simp
    try with_reducible rfl
  try simp only [List.getElem_toArray, List.getElem_cons_zero, List.getElem_cons_succ, Act.put, List.setIfInBounds_toArray, List.set_cons_zero, List.set_cons_succ]
  refine wpAnyH_take (i := 3) (v := ?_) rfl (by kernel_rfl) (by kernel_rfl) (by kernel_rfl) (fun _ _ _ h => h) (Or.inl ⟨by kernel_rfl, ?_⟩) (by assumption) ?_
  rotate_left
  · intro Wt hSt
    go_simp
    try with_reducible rfl
  try simp only [List.getElem_toArray, List.getElem_cons_zero, List.getElem_cons_succ, Act.put, List.setIfInBounds_toArray, List.set_cons_zero, List.set_cons_succ]
  refine wpAnyH_chainOf [0, 2, 4, 5, 6] _ _ _ (by kernel_rfl) (by kernel_rfl) ?_
  simp only [List.filterMap_cons, List.filterMap_nil, List.getElem?_toArray, List.getElem?_cons_zero, List.getElem?_cons_succ]
  refine wpChain_step rfl fun K hK => ?_
  go_simp
  generalize hX : W.alloc _ = V1
  have hv1 : Below W.heap.size W V1 := hX ▸ (Below.refl _ _).alloc (Nat.le_refl _) _
  have hown1 : OwnB V1 W.heap.size (.slice (some ⟨W.heap.size, 0, none⟩) 0 0) [] := hX ▸ World.ownsRow_lit W #[] 0 (Nat.le_refl _) (Nat.zero_le _) rfl
  clear hX
  refine hK _ _ (thenB hSW hv1) ?_
  clear hK K
  refine wpChain_step rfl fun K hK => ?_
  obtain ⟨v2, V2, hr2, hown2, hg2⟩ := run_append_B hown1 22 (some ⟨w.heap.size, 0, none⟩) 32 (((unhide HK1).keep hv1).bt (unhide HD)) (fun h => by cases h) (by rw [(unhide HD).len]; simp) hv1.size
  rw [(unhide HD).len] at hr2
  have hv2 := grown_below hv1 hg2 (fun k hk => (hown1.lt k hk).1)
  refine wp_append (.tmp 5) (.tmp 6) 22 rfl _ _ v2 V2 rfl rfl hr2 ?_
  refine hK _ _ (thenB hSW hv2) ?_
  clear hK K hr2 hown1 hg2 hv1
  refine wpChain_step rfl fun K hK => ?_
  obtain ⟨v3, V3, hr3, hown3, hg3⟩ := run_append_B hown2 22 (some ⟨w.heap.size + 1, 0, none⟩) 32 (((unhide HK2).keep hv2).bt (unhide HE)) (fun h => by cases h) (by rw [List.nil_append, (unhide HD).len, (unhide HE).len]; omega) hv2.size
  rw [(unhide HE).len] at hr3
  have hv3 := grown_below hv2 hg3 (fun k hk => (hown2.lt k hk).1)
  refine wp_append (.tmp 7) (.tmp 8) 22 rfl _ _ v3 V3 rfl rfl hr3 ?_
  refine hK _ _ (thenB hSW hv3) ?_
  clear hK K hr3 hown2 hg3 hv2
  rw [List.nil_append] at hown3
  have hlen : (d ++ e).length = 64 := by rw [List.length_append, (unhide HD).len, (unhide HE).len]
  have hne : d ++ e ≠ [] := by
    intro h
    rw [h] at hlen
    simp at hlen
  obtain ⟨g3, c3, rfl, -, -, -⟩ := hown3.opened hne
  have hbt3 : Bt V3 (some ⟨g3, 0, none⟩) (d ++ e) ∧ (d ++ e).length ≤ c3 := by
    obtain ⟨A4, c4, e', hc4, hbt4⟩ := hown3.bt (fun x hx => by
      rcases List.mem_append.1 hx with h | h
      · exact (unhide HD).byt x h
      · exact (unhide HE).byt x h)
    injection e' with e1 e2 e3
    subst e1 e3
    exact ⟨hbt4, hc4⟩
  have hsm := rtag_any V3 ⟨#[110, 111, 100, 101]⟩ (some ⟨g3, 0, none⟩) c3 (d ++ e) hbt3.1 hbt3.2 (fun h => by cases h) (by rw [hlen]; omega) (by decide)
  rw [show sb ⟨#[110, 111, 100, 101]⟩ = [110, 111, 100, 101] by decide] at hsm
  obtain ⟨T, hT⟩ : ∃ T, T = nodeP d e := ⟨_, rfl⟩
  rw [show tagF [110, 111, 100, 101] (d ++ e) = T from hT ▸ rfl] at hsm
  have HTT := hide hT
  have hgT : Dg T := hT ▸ dg_hash _
  obtain ⟨nl, hnl⟩ : ∃ nl, nl = (d ++ e).length := ⟨_, rfl⟩
  rw [← hnl] at hsm ⊢
  obtain ⟨ct, hct⟩ : ∃ cs, cs = (T.map (Value.int .u8)).toArray := ⟨_, rfl⟩
  rw [show dv T = .agg ct by rw [hct]] at hsm
  have HCT := hide hct
  have HGT := hide hgT
  have hSV := thenB hSW hv3
  have hO3 := (unhide HK3).keep hv3
  clear hct hgT hT hnl hbt3 hown3 hne hv3 hlen
  refine wpChain_step rfl fun K hK => ?_
  go_simp
  refine hsm.mono ?_; rintro x V4 ⟨rfl, hb4⟩
  have hS4 := thenB hSV hb4
  have hO4 := hO3.keep hb4
  dsimp only
  refine hK _ _ hS4 ?_
  clear hK K hsm
  refine wpChain_bstore rfl 24 (.tmp 4) (.tmp 10) rfl (w.heap.size + 2) rfl T (show Value.agg ct = _ by rw [unhide HCT]) 32 info32 (unhide HGT).len _ zeros hO4 rfl ?_
  intro W9 HW9 HG
  have hS9 : Below w.heap.size w W9 := hS4.grown (unhide HG) hS4.size (fun i e => by injection e with e; omega)
  refine ⟨hS9, wpChain_nil ?_⟩
  have HS9 := hide hS9
  clear hO4 hO3 hS4 hSV hSW hS9 hb4
  go_wp2_with fail
  try simp only [Exit.inBlock, Exit.then]
  exact bret rfl rfl (w.heap.size + 2) rfl _ _ (unhide HW9) (unhide HGT).len ⟨by rw [unhide HTT], unhide HS9⟩
end Go.Proofs.YtceppmajbkmbdaaDoor
namespace Go.Proofs.YtceppmajbkmbdaaDoor
set_option linter.unusedSimpArgs false
set_option linter.unusedVariables false
open Go.RowKit

theorem treeD_ne {l : List (List Int)} (h : l ≠ []) : treeD l = treeP l := if_neg h
theorem bt_of_range {w : World} {b o : Nat} {d : List Int} (hd : Dg d) (h : w.rangeAt b o (d.map (Value.int .u8))) : Bt w (some ⟨b, o, none⟩) d :=
  ⟨hd.byt, fun _ => ⟨b, o, rfl, fun i hi => h i _ (by rw [List.getElem?_map, List.getD_eq_getElem?_getD, List.getElem?_eq_getElem hi]; rfl)⟩⟩
set_option maxRecDepth 100000 in
set_option maxHeartbeats 4000000 in
theorem rtree_step (n : Nat) (IH : ∀ (l : List (List Int)), l.length < n → ∀ (w : World) (c : Nat) (A : Option Addr), Ds w A l → l.length ≤ c →
      Calls Tryd.prog 16 #[.slice A l.length c] w fun x w' => x = .returned (dv (treeD l)) ∧ Below w.heap.size w w')
    (l : List (List Int)) (hn : l.length = n) (h1000 : n ≤ 1099511627776) (w : World) (c : Nat) (A : Option Addr) (hA : Ds w A l) (hc : l.length ≤ c) :
    Calls Tryd.prog 16 #[.slice A n c] w fun x w' => x = .returned (dv (treeD l)) ∧ Below w.heap.size w w' := by
  by_cases hz : n = 0
  · subst hz
    obtain rfl := List.length_eq_zero_iff.1 hn
    clear IH hA hc hn
    go_enter Tryd.func16, Tryd.ntmps16
    go_upto_region 1 with fail
    generalize hX1 : w.alloc _ = W1
    have hB1 : Below w.heap.size w W1 := hX1 ▸ (Below.refl _ _).alloc (Nat.le_refl _) _
    have HO1 := hide (newBy w W1 (by rw [← hX1]; rfl))
    have HB1 := hide hB1
    clear hX1 hB1
    go_wp2_with fail
    refine (rtag_any W1 ⟨#[101, 109, 112, 116, 121]⟩ none 0 [] Bt.nil (Nat.le_refl _) (fun _ => rfl) (by decide) (by decide)).mono ?_; rintro x W2 ⟨rfl, hB2⟩
    rw [sb_empty]
    have HB2 := hide (thenB (unhide HB1) hB2)
    have HO2 := hide ((unhide HO1).keep hB2)
    clear hB2
    dsimp only
    rename_i KK hK
    refine hK _ _ ?_
    clear hK KK
    refine wpList_bstore rfl 24 (.tmp 2) (.tmp 7) rfl w.heap.size rfl emptyP rfl 32 info32 (dg_hash _).len _ zeros (unhide HO2) rfl ?_
    intro W9 HW9 HG
    go_wp2_with fail
    try simp only [Exit.inBlock, Exit.then]
    exact bret rfl rfl w.heap.size rfl _ _ (unhide HW9) (dg_hash _).len ⟨rfl, (unhide HB2).grown (unhide HG) (unhide HB2).size (fun i e => by injection e with e; omega)⟩
  have hne : l ≠ [] := fun e => by rw [e] at hn; exact hz hn.symm
  rw [treeD_ne hne]
  have HI := hide IH
  have HA := hide hA
  have HN := hide hn
  obtain ⟨sb', so, rfl, hrg⟩ := hA.at_ hne
  have HR := hide hrg
  have hcn : (n : Int) ≤ (c : Int) := by omega
  have HC : Hid (n ≤ c ∧ n ≤ 1099511627776) := ⟨by omega, h1000⟩
  by_cases h1 : n = 1
  · obtain ⟨d, rfl⟩ : ∃ d, l = [d] := List.length_eq_one_iff.1 (by omega)
    subst h1
    have hd0 := hA.dg d (by simp)
    have HD := hide hd0
    have hr0 := hrg 0 d rfl
    rw [Nat.zero_mul, Nat.add_zero] at hr0
    have HR0 := hide hr0
    clear IH hA hn hc hrg hd0 h1000 hcn hne hz hr0
    go_enter Tryd.func16, Tryd.ntmps16
    go_upto_region 1 with fail
    generalize hX1 : w.alloc _ = W1
    have hB1 : Below w.heap.size w W1 := hX1 ▸ (Below.refl _ _).alloc (Nat.le_refl _) _
    have HO1 := hide (newBy w W1 (by rw [← hX1]; rfl))
    have HB1 := hide hB1
    clear hX1 hB1
    have hsm := rtag_any W1 ⟨#[108, 101, 97, 102]⟩ (some ⟨sb', so, none⟩) 32 d (bt_of_range (unhide HD) (rangeAt_keep (unhide HR0) (unhide HB1))) (Nat.le_of_eq (unhide HD).len) (fun h => by cases h) (by rw [(unhide HD).len]; omega) (by decide)
    rw [show sb ⟨#[108, 101, 97, 102]⟩ = [108, 101, 97, 102] by decide, show tagF [108, 101, 97, 102] d = leafP d from rfl, (unhide HD).len] at hsm
    have HSM := hide hsm
    clear hsm
    go_wp2_with fail
    refine (unhide HSM).mono ?_; rintro x W2 ⟨rfl, hB2⟩
    have HB2 := hide (thenB (unhide HB1) hB2)
    have HO2 := hide ((unhide HO1).keep hB2)
    clear hB2 HSM
    dsimp only
    rename_i KK hK
    refine hK _ _ ?_
    clear hK KK
    refine wpList_bstore rfl 24 (.tmp 2) (.tmp 14) rfl w.heap.size rfl (leafP d) rfl 32 info32 (dg_hash _).len _ zeros (unhide HO2) rfl ?_
    intro W9 HW9 HG
    go_wp2_with fail
    try simp only [Exit.inBlock, Exit.then]
    rw [treeP_one]
    exact bret rfl rfl w.heap.size rfl _ _ (unhide HW9) (dg_hash _).len ⟨rfl, (unhide HB2).grown (unhide HG) (unhide HB2).size (fun i e => by injection e with e; omega)⟩
  · have h2 : 2 ≤ n := by have := List.length_pos_iff.2 hne; omega
    obtain ⟨k, hk⟩ : ∃ k, k = halfN n := ⟨_, rfl⟩
    have hkn := halfN_lt h2
    have hk0 := halfN_pos n
    rw [← hk] at hkn hk0
    have HK : Hid (k = halfN n ∧ 0 < k ∧ k < n ∧ 2 ≤ n) := ⟨hk, hk0, hkn, h2⟩
    have n0 : ¬ (n : Int) = 0 := by omega
    have n1 : ¬ (n : Int) = 1 := by omega
    have k0 : (0 : Int) ≤ (k : Int) := Int.natCast_nonneg _
    have k1 : (k : Int) ≤ (n : Int) := by omega
    have k2 : (k : Int) ≤ (c : Int) := by omega
    have k3 : ¬ (c = k) := by omega
    clear IH hA hn hc hrg h1000 hne hk hkn hk0 h2 hz
    go_enter Tryd.func16, Tryd.ntmps16
    go_upto_region 1 with fail
    generalize hX1 : w.alloc _ = W1
    have hB1 : Below w.heap.size w W1 := hX1 ▸ (Below.refl _ _).alloc (Nat.le_refl _) _
    have HO1 := hide (newBy w W1 (by rw [← hX1]; rfl))
    have HB1 := hide hB1
    clear hX1 hB1
    go_wp2_with fail
    refine (rhalf_any n (unhide HK).2.2.2 (unhide HC).2 W1).mono ?_; rintro x W2 ⟨rfl, rfl⟩
    rw [← (unhide HK).1]
    obtain ⟨T1, hT1⟩ : ∃ d, d = treeP (l.take k) := ⟨_, rfl⟩
    obtain ⟨T2, hT2⟩ : ∃ d, d = treeP (l.drop k) := ⟨_, rfl⟩
    have hg1 : Dg T1 := hT1 ▸ dg_tree _
    have hg2 : Dg T2 := hT2 ▸ dg_tree _
    obtain ⟨c1, hc1⟩ : ∃ cs, cs = (T1.map (Value.int .u8)).toArray := ⟨_, rfl⟩
    obtain ⟨c2, hc2⟩ : ∃ cs, cs = (T2.map (Value.int .u8)).toArray := ⟨_, rfl⟩
    have hK := unhide HK
    have hlt : (l.take k).length = k := by have := unhide HN; simp; omega
    have hld : (l.drop k).length = n - k := by have := unhide HN; simp; omega
    have HF1 : Hid (∀ W, Below w.heap.size w W → Calls Tryd.prog 16 #[.slice (some ⟨sb', so, none⟩) k c] W fun x w' => x = .returned (.agg c1) ∧ Below W.heap.size W w') := fun W hB => by
      have := (unhide HI) (l.take k) (by omega) W c (some ⟨sb', so, none⟩) (((unhide HA).keep hB).take k) (by have := (unhide HC).1; omega)
      rw [hlt, treeD_ne (fun e => by rw [e] at hlt; simp at hlt; omega)] at this
      refine this.mono ?_
      rintro x w' ⟨rfl, h'⟩
      exact ⟨by rw [hc1, hT1], h'⟩
    have HF2 : Hid (∀ W, Below w.heap.size w W → Calls Tryd.prog 16 #[.slice (some ⟨sb', so + k * 32, none⟩) (n - k) (c - k)] W fun x w' => x = .returned (.agg c2) ∧ Below W.heap.size W w') := fun W hB => by
      have := (unhide HI) (l.drop k) (by omega) W (c - k) (some ⟨sb', so + k * 32, none⟩) (((unhide HA).keep hB).drop k) (by have := (unhide HC).1; omega)
      rw [hld, treeD_ne (fun e => by rw [e] at hld; simp at hld; omega)] at this
      refine this.mono ?_
      rintro x w' ⟨rfl, h'⟩
      exact ⟨by rw [hc2, hT2], h'⟩
    have HF3 : Hid (∀ W, Below w.heap.size w W → Calls Tryd.prog 50 #[.agg c1, .agg c2] W fun x w' => x = .returned (dv (treeP l)) ∧ Below W.heap.size W w') := fun W hB => by
      rw [hc1, hc2]
      refine (rnode_any W T1 T2 hg1 hg2).mono ?_
      rintro x w' ⟨rfl, h'⟩
      exact ⟨by rw [treeP_more l (by have := unhide HN; omega), unhide HN, ← hK.1, ← hT1, ← hT2], h'⟩
    obtain ⟨W, hW⟩ : ∃ W, W = W2.drewN 1 := ⟨_, rfl⟩
    have HW : Hid (W = W2.drewN 1) := hW
    have hSW := thenB (unhide HB1) (below_named HW)
    have HOW := hide ((unhide HO1).keep (below_named HW))
    clear hT1 hT2 hg1 hg2 hc1 hc2 hK hlt hld hW
    go_wp2_with fail
    refine held (S := Below w.heap.size w) W HW (by kernel_rfl) ?_
    refine wpAnyH_take (i := 0) (v := ?_) rfl (by kernel_rfl) (by kernel_rfl) (by kernel_rfl) (fun _ _ _ h => h) (Or.inl ⟨by kernel_rfl, ?_⟩) (by assumption) ?_
    rotate_left
    · intro Wt hSt
      go_simp
      try with_reducible rfl
    try simp only [List.getElem_toArray, List.getElem_cons_zero, List.getElem_cons_succ, Act.put, List.setIfInBounds_toArray, List.set_cons_zero, List.set_cons_succ]
    refine wpAnyH_take (i := 1) (v := ?_) rfl (by kernel_rfl) (by kernel_rfl) (by kernel_rfl) (fun _ _ _ h => h) (Or.inl ⟨by kernel_rfl, ?_⟩) (by assumption) ?_
    rotate_left
    · intro Wt hSt
      go_simp
      try with_reducible rfl
    try simp only [List.getElem_toArray, List.getElem_cons_zero, List.getElem_cons_succ, Act.put, List.setIfInBounds_toArray, List.set_cons_zero, List.set_cons_succ]
    refine wpAnyH_take (i := 2) (v := ?_) rfl (by kernel_rfl) (by kernel_rfl) (by kernel_rfl) (fun _ _ _ h => h) (Or.inl ⟨by kernel_rfl, ?_⟩) (by assumption) ?_
    rotate_left
    · intro Wt hSt
      go_simp
      try with_reducible rfl
    try simp only [List.getElem_toArray, List.getElem_cons_zero, List.getElem_cons_succ, Act.put, List.setIfInBounds_toArray, List.set_cons_zero, List.set_cons_succ]
    refine wpAnyH_take (i := 4) (v := ?_) rfl (by kernel_rfl) (by kernel_rfl) (by kernel_rfl) (fun _ _ _ h => h) (Or.inl ⟨by kernel_rfl, ?_⟩) (by assumption) ?_
    rotate_left
    · intro Wt hSt
      go_simp
      try with_reducible rfl
    try simp only [List.getElem_toArray, List.getElem_cons_zero, List.getElem_cons_succ, Act.put, List.setIfInBounds_toArray, List.set_cons_zero, List.set_cons_succ]
    refine wpAnyH_take (i := 5) (v := ?_) rfl (by kernel_rfl) (by kernel_rfl) (by kernel_rfl) (fun _ _ _ h => h) (Or.inl ⟨by kernel_rfl, ?_⟩) (by assumption) ?_
    rotate_left
    · intro Wt hSt
      go_simp
      try with_reducible rfl
    try simp only [List.getElem_toArray, List.getElem_cons_zero, List.getElem_cons_succ, Act.put, List.setIfInBounds_toArray, List.set_cons_zero, List.set_cons_succ]
    refine wpAnyH_take (i := 6) (v := ?_) rfl (by kernel_rfl) (by kernel_rfl) (by kernel_rfl) (fun _ _ _ h => h) (Or.inl ⟨by kernel_rfl, ?_⟩) (by assumption) ?_
    rotate_left
    · intro Wt hSt
      go_simp
      try with_reducible rfl
    try simp only [List.getElem_toArray, List.getElem_cons_zero, List.getElem_cons_succ, Act.put, List.setIfInBounds_toArray, List.set_cons_zero, List.set_cons_succ]
    refine wpAnyH_chainOf [3, 7, 8, 9] _ _ _ (by kernel_rfl) (by kernel_rfl) ?_
    simp only [List.filterMap_cons, List.filterMap_nil, List.getElem?_toArray, List.getElem?_cons_zero, List.getElem?_cons_succ]
    refine wpChain_step rfl fun K hK => ?_
    go_simp
    refine ((unhide HF1) _ hSW).mono ?_; rintro x wA ⟨rfl, hA1⟩
    have hSA := thenB hSW hA1
    dsimp only
    refine hK _ _ hSA ?_
    clear hK K
    refine wpChain_step rfl fun K hK => ?_
    go_simp
    refine ((unhide HF2) _ hSA).mono ?_; rintro x wB ⟨rfl, hA2⟩
    have hSB := thenB hSA hA2
    dsimp only
    refine hK _ _ hSB ?_
    clear hK K
    refine wpChain_step rfl fun K hK => ?_
    go_simp
    refine ((unhide HF3) _ hSB).mono ?_; rintro x wC ⟨rfl, hA3⟩
    have hSC := thenB hSB hA3
    have hO := (((unhide HOW).keep hA1).keep hA2).keep hA3
    dsimp only
    refine hK _ _ hSC ?_
    clear hK K
    refine wpChain_bstore rfl 24 (.tmp 2) (.tmp 26) rfl w.heap.size rfl (treeP l) rfl 32 info32 (dg_tree l).len _ zeros hO rfl ?_
    intro W9 HW9 HG
    have hS9 : Below w.heap.size w W9 := hSC.grown (unhide HG) hSC.size (fun i e => by injection e with e; omega)
    refine ⟨hS9, wpChain_nil ?_⟩
    clear hO hSC hSB hSA hA1 hA2 hA3
    have HS9 := hide hS9
    clear hS9 hSW
    go_wp2_with fail
    try simp only [Exit.inBlock, Exit.then]
    exact bret rfl rfl w.heap.size rfl _ _ (unhide HW9) (dg_tree l).len ⟨rfl, unhide HS9⟩
theorem rtree_all (n : Nat) : ∀ (l : List (List Int)), l.length = n → n ≤ 1099511627776 → ∀ (w : World) (c : Nat) (A : Option Addr), Ds w A l → l.length ≤ c →
      Calls Tryd.prog 16 #[.slice A n c] w fun x w' => x = .returned (dv (treeD l)) ∧ Below w.heap.size w w' := by
  induction n using Nat.strongRecOn with
  | _ n IH =>
    intro l hn h1000 w c A hA hc
    exact rtree_step n (fun l' hl' w' c' A' hA' hc' => IH l'.length hl' l' rfl (by omega) w' c' A' hA' hc') l hn h1000 w c A hA hc
theorem rtree_any (w : World) (c : Nat) (A : Option Addr) (l : List (List Int)) (hA : Ds w A l) (hc : l.length ≤ c) (h1000 : l.length ≤ 1099511627776) :
    Calls Tryd.prog 16 #[.slice A l.length c] w fun x w' => x = .returned (dv (treeD l)) ∧ Below w.heap.size w w' :=
  rtree_all l.length l rfl h1000 w c A hA hc
end Go.Proofs.YtceppmajbkmbdaaDoor
namespace Go.Proofs.YtceppmajbkmbdaaDoor
set_option linter.unusedSimpArgs false
set_option linter.unusedVariables false
open Go.RowKit

set_option maxRecDepth 100000 in
set_option maxHeartbeats 2000000 in
theorem rlen_step (n : Nat) (IH : ∀ n', n' < n → ∀ at_ : Nat, 1 ≤ n' → at_ < n' → ∀ w, Calls Tryd.prog 56 #[.int .i64 (at_ : Int), .int .i64 (n' : Int)] w fun x w' => x = .returned (.int .i64 ((lenP n' at_ : Nat) : Int)) ∧ w' = w)
    (at_ : Nat) (h1 : 1 ≤ n) (hn : n ≤ 1099511627776) (ha : at_ < n) (w : World) :
    Calls Tryd.prog 56 #[.int .i64 (at_ : Int), .int .i64 (n : Int)] w fun x w' => x = .returned (.int .i64 ((lenP n at_ : Nat) : Int)) ∧ w' = w := by
  have HI := hide IH
  by_cases e1 : n = 1
  · subst e1
    rw [lenP_one]
    clear IH h1 hn ha
    go_enter Tryd.func56, Tryd.ntmps56
    go_wp2_with fail
    go_ret
    exact ⟨rfl, rfl⟩
  · have h2 : 2 ≤ n := by omega
    obtain ⟨k, hk⟩ : ∃ k, k = halfN n := ⟨_, rfl⟩
    have hkn := halfN_lt h2
    have hk0 := halfN_pos n
    rw [← hk] at hkn hk0
    have hlt := lenP_lt n at_ h1
    have n1 : ¬ (n : Int) = 1 := by omega
    have HK : Hid (k = halfN n ∧ 0 < k ∧ k < n ∧ 2 ≤ n ∧ n ≤ 1099511627776) := ⟨hk, hk0, hkn, h2, hn⟩
    by_cases hak : at_ < k
    · have i1 : (at_ : Int) < (k : Int) := by omega
      obtain ⟨L, hL⟩ : ∃ L, L = lenP k at_ := ⟨_, rfl⟩
      have e : lenP n at_ = 1 + L := by rw [hL, hk]; exact lenP_left h2 (hk ▸ hak)
      rw [e] at hlt ⊢
      have wl : IntKind.i64.wrap (1 + (L : Int)) = ((1 + L : Nat) : Int) := (IntWalk.i64_in _ (by omega)).trans (by omega)
      have HL : Hid (L = lenP k at_ ∧ at_ < k) := ⟨hL, hak⟩
      clear IH h1 hn ha e1 h2 hk hkn hk0 hlt hak hL e
      go_enter Tryd.func56, Tryd.ntmps56
      go_wp2_with fail
      refine (rhalf_any n (unhide HK).2.2.2.1 (unhide HK).2.2.2.2 w).mono ?_; rintro x W2 ⟨rfl, rfl⟩
      rw [← (unhide HK).1]
      go_wp2_with fail
      refine ((unhide HI) k (unhide HK).2.2.1 at_ (unhide HK).2.1 (unhide HL).2 W2).mono ?_; rintro x W3 ⟨rfl, rfl⟩
      rw [← (unhide HL).1]
      go_wp2_with fail
      go_ret
      exact ⟨rfl, rfl⟩
    · have i1 : ¬ (at_ : Int) < (k : Int) := by omega
      obtain ⟨ak, hak2⟩ : ∃ a, a = at_ - k := ⟨_, rfl⟩
      obtain ⟨nk, hnk⟩ : ∃ a, a = n - k := ⟨_, rfl⟩
      obtain ⟨L, hL⟩ : ∃ L, L = lenP nk ak := ⟨_, rfl⟩
      have e : lenP n at_ = 1 + L := by rw [hL, hnk, hak2, hk]; exact lenP_right h2 (hk ▸ hak)
      rw [e] at hlt ⊢
      have wl : IntKind.i64.wrap (1 + (L : Int)) = ((1 + L : Nat) : Int) := (IntWalk.i64_in _ (by omega)).trans (by omega)
      have wa : IntKind.i64.wrap ((at_ : Int) - (k : Int)) = (ak : Int) := (IntWalk.i64_in _ (by omega)).trans (by omega)
      have wn : IntKind.i64.wrap ((n : Int) - (k : Int)) = (nk : Int) := (IntWalk.i64_in _ (by omega)).trans (by omega)
      have HL : Hid (L = lenP nk ak ∧ nk < n ∧ 1 ≤ nk ∧ ak < nk) := ⟨hL, by omega, by omega, by omega⟩
      clear IH h1 hn ha e1 h2 hk hkn hk0 hlt hak hL e hak2 hnk
      go_enter Tryd.func56, Tryd.ntmps56
      go_wp2_with fail
      refine (rhalf_any n (unhide HK).2.2.2.1 (unhide HK).2.2.2.2 w).mono ?_; rintro x W2 ⟨rfl, rfl⟩
      rw [← (unhide HK).1]
      go_wp2_with fail
      refine ((unhide HI) nk (unhide HL).2.1 ak (unhide HL).2.2.1 (unhide HL).2.2.2 W2).mono ?_; rintro x W3 ⟨rfl, rfl⟩
      rw [← (unhide HL).1]
      go_wp2_with fail
      go_ret
      exact ⟨rfl, rfl⟩
theorem rlen_all (n : Nat) : n ≤ 1099511627776 → ∀ at_ : Nat, 1 ≤ n → at_ < n → ∀ w, Calls Tryd.prog 56 #[.int .i64 (at_ : Int), .int .i64 (n : Int)] w fun x w' => x = .returned (.int .i64 ((lenP n at_ : Nat) : Int)) ∧ w' = w := by
  induction n using Nat.strongRecOn with
  | _ n IH =>
    intro hn at_ h1 ha w
    exact rlen_step n (fun n' h' at' h1' ha' w' => IH n' h' (by omega) at' h1' ha' w') at_ h1 hn ha w
theorem rlen_any (n at_ : Nat) (h1 : 1 ≤ n) (hn : n ≤ 1099511627776) (ha : at_ < n) (w : World) : Calls Tryd.prog 56 #[.int .i64 (at_ : Int), .int .i64 (n : Int)] w fun x w' => x = .returned (.int .i64 ((lenP n at_ : Nat) : Int)) ∧ w' = w :=
  rlen_all n hn at_ h1 ha w

abbrev PathIs (w : World) (l : List (List Int)) (n at_ c : Nat) (A : Option Addr) : Prop :=
  Calls Tryd.prog 53 #[.slice A n c, .int .i64 (at_ : Int)] w fun x w' => (∃ v, x = .returned v ∧ OwnD w' w.heap.size v (pathP l at_)) ∧ Below w.heap.size w w'
theorem OwnD.le {w : World} {base base' : Nat} {v : Value} {p : List (List Int)} (h : OwnD w base v p) (hb : base' ≤ base) : OwnD w base' v p := h.down hb
set_option maxRecDepth 100000 in
set_option maxHeartbeats 4000000 in
theorem rpath_step (n : Nat) (IH : ∀ (l : List (List Int)), l.length < n → ∀ (at_ : Nat) (w : World) (c : Nat) (A : Option Addr), at_ < l.length → Ds w A l → l.length ≤ c → PathIs w l l.length at_ c A)
    (l : List (List Int)) (hl : l.length = n) (h8 : n ≤ 100000000) (at_ : Nat) (w : World) (c : Nat) (A : Option Addr) (hat : at_ < n) (hA : Ds w A l) (hc : n ≤ c) : PathIs w l n at_ c A := by
  have HI := hide IH
  obtain ⟨sb', so, rfl, hrg⟩ := hA.at_ (fun e => by rw [e] at hl; simp at hl; omega)
  by_cases e1 : n = 1
  · subst e1
    unfold PathIs
    rw [pathP_one at_ (by omega)]
    clear IH hl h8 hat hA hc hrg
    go_enter Tryd.func53, Tryd.ntmps53
    go_wp2_with fail
    go_ret
    refine ⟨⟨_, rfl, ?_⟩, ?_⟩
    · exact World.ownsRow_lit w #[] 0 (Nat.le_refl _) (Nat.zero_le _) rfl
    · exact (Below.refl _ _).alloc (Nat.le_refl _) _
  · have h2 : 2 ≤ n := by omega
    obtain ⟨k, hk⟩ : ∃ k, k = halfN n := ⟨_, rfl⟩
    have hkn := halfN_lt h2
    have hk0 := halfN_pos n
    rw [← hk] at hkn hk0
    have hpl := (pathP_spec n l at_ hl hat).1
    have hll := lenP_lt n at_ (by omega)
    have n1 : ¬ (n : Int) = 1 := by omega
    have k0 : (0 : Int) ≤ (k : Int) := Int.natCast_nonneg _
    have k1 : (k : Int) ≤ (n : Int) := by omega
    have k2 : (k : Int) ≤ (c : Int) := by omega
    have k3 : ¬ (c = k) := by omega
    have k4 : (n : Int) ≤ (c : Int) := by omega
    have HA := hide hA
    have hlt : (l.take k).length = k := by simp; omega
    have hld : (l.drop k).length = n - k := by simp; omega
    have HLL : Hid ((l.take k).length = k ∧ (l.drop k).length = n - k) := ⟨hlt, hld⟩
    have HK : Hid (k = halfN n ∧ 0 < k ∧ k < n ∧ 2 ≤ n ∧ n ≤ 100000000 ∧ n ≤ c ∧ l.length = n ∧ at_ < n) := ⟨hk, hk0, hkn, h2, h8, hc, hl, hat⟩
    by_cases hak : at_ < k
    · have i1 : (at_ : Int) < (k : Int) := by omega
      have e := pathP_left (l := l) (at_ := at_) (by omega) (by rw [hl, ← hk]; exact hak)
      rw [hl, ← hk] at e
      obtain ⟨q, hq⟩ : ∃ q, q = pathP (l.take k) at_ := ⟨_, rfl⟩
      obtain ⟨T, hTd⟩ : ∃ d, d = treeP (l.drop k) := ⟨_, rfl⟩
      rw [← hq, ← hTd] at e
      have hql : q.length ≤ 100000000 := by rw [e, List.length_append] at hpl; omega
      unfold PathIs
      rw [e]
      have hgT : Dg T := hTd ▸ dg_tree _
      obtain ⟨ct, hct⟩ : ∃ cs, cs = (T.map (Value.int .u8)).toArray := ⟨_, rfl⟩
      have hst : ct.size = 32 := by rw [hct]; simpa using hgT.len
      have HF1 : Hid (∀ W, Below w.heap.size w W → Calls Tryd.prog 53 #[.slice (some ⟨sb', so, none⟩) k c, .int .i64 (at_ : Int)] W fun x w' => (∃ v, x = .returned v ∧ OwnD w' W.heap.size v q) ∧ Below W.heap.size W w') := fun W hB => by
        have := (unhide HI) (l.take k) (by have := unhide HLL; have := unhide HK; omega) at_ W c (some ⟨sb', so, none⟩) (by rw [(unhide HLL).1]; exact hak) (((unhide HA).keep hB).take k) (by have := unhide HLL; have := unhide HK; omega)
        unfold PathIs at this
        rw [(unhide HLL).1, ← hq] at this
        exact this
      have HF2 : Hid (∀ W, Below w.heap.size w W → Calls Tryd.prog 16 #[.slice (some ⟨sb', so + k * 32, none⟩) (n - k) (c - k)] W fun x w' => x = .returned (.agg ct) ∧ Below W.heap.size W w') := fun W hB => by
        have := rtree_any W (c - k) (some ⟨sb', so + k * 32, none⟩) (l.drop k) (((unhide HA).keep hB).drop k) (by have := unhide HLL; have := unhide HK; omega) (by have := unhide HLL; have := unhide HK; omega)
        rw [(unhide HLL).2, treeD_ne (fun e => by have h := (unhide HLL).2; rw [e] at h; simp at h; have := unhide HK; omega)] at this
        refine this.mono ?_
        rintro x w' ⟨rfl, h'⟩
        exact ⟨by rw [hct, hTd], h'⟩
      have HGT := hide hgT
      have HCT := hide hct
      have HQL := hide hql
      clear IH hl h8 hat hA hc hrg e1 h2 hk hkn hk0 hpl hll hlt hld hak e hq hTd hql hgT hct
      go_enter Tryd.func53, Tryd.ntmps53
      go_wp2_with fail
      refine (rhalf_any n (unhide HK).2.2.2.1 (by have := unhide HK; omega) w).mono ?_; rintro x W2 ⟨rfl, rfl⟩
      rw [← (unhide HK).1]
      obtain ⟨W, hW⟩ : ∃ W, W = W2.drewN 1 := ⟨_, rfl⟩
      have HW : Hid (W = W2.drewN 1) := hW
      have hSW := below_named HW
      clear hW
      go_wp2_with fail
      refine held (S := Below W2.heap.size W2) W HW (by kernel_rfl) ?_
      refine wpAnyH_take (i := 0) (v := ?_) rfl (by kernel_rfl) (by kernel_rfl) (by kernel_rfl) (fun _ _ _ h => h) (Or.inl ⟨by kernel_rfl, ?_⟩) (by assumption) ?_
      rotate_left
      · intro Wt hSt
        go_simp
        try with_reducible rfl
      try simp only [List.getElem_toArray, List.getElem_cons_zero, List.getElem_cons_succ, Act.put, List.setIfInBounds_toArray, List.set_cons_zero, List.set_cons_succ]
      refine wpAnyH_take (i := 1) (v := ?_) rfl (by kernel_rfl) (by kernel_rfl) (by kernel_rfl) (fun _ _ _ h => h) (Or.inl ⟨by kernel_rfl, ?_⟩) (by assumption) ?_
      rotate_left
      · intro Wt hSt
        go_simp
        try with_reducible rfl
      try simp only [List.getElem_toArray, List.getElem_cons_zero, List.getElem_cons_succ, Act.put, List.setIfInBounds_toArray, List.set_cons_zero, List.set_cons_succ]
      refine wpAnyH_take (i := 2) (v := ?_) rfl (by kernel_rfl) (by kernel_rfl) (by kernel_rfl) (fun _ _ _ h => h) (Or.inl ⟨by kernel_rfl, ?_⟩) (by assumption) ?_
      rotate_left
      · intro Wt hSt
        go_simp
        try with_reducible rfl
      try simp only [List.getElem_toArray, List.getElem_cons_zero, List.getElem_cons_succ, Act.put, List.setIfInBounds_toArray, List.set_cons_zero, List.set_cons_succ]
      refine wpAnyH_take (i := 3) (v := ?_) rfl (by kernel_rfl) (by kernel_rfl) (by kernel_rfl) (fun _ _ _ h => h) (Or.inl ⟨by kernel_rfl, ?_⟩) (by assumption) ?_
      rotate_left
      · intro Wt hSt
        go_simp
        try with_reducible rfl
      try simp only [List.getElem_toArray, List.getElem_cons_zero, List.getElem_cons_succ, Act.put, List.setIfInBounds_toArray, List.set_cons_zero, List.set_cons_succ]
      refine wpAnyH_take (i := 5) (v := ?_) rfl (by kernel_rfl) (by kernel_rfl) (by kernel_rfl) (fun _ _ _ h => h) (Or.inl ⟨by kernel_rfl, ?_⟩) (by assumption) ?_
      rotate_left
      · intro Wt hSt
        go_simp
        try with_reducible rfl
      try simp only [List.getElem_toArray, List.getElem_cons_zero, List.getElem_cons_succ, Act.put, List.setIfInBounds_toArray, List.set_cons_zero, List.set_cons_succ]
      refine wpAnyH_take (i := 6) (v := ?_) rfl (by kernel_rfl) (by kernel_rfl) (by kernel_rfl) (fun _ _ _ h => h) (Or.inl ⟨by kernel_rfl, ?_⟩) (by assumption) ?_
      rotate_left
      · intro Wt hSt
        go_simp
        try with_reducible rfl
      try simp only [List.getElem_toArray, List.getElem_cons_zero, List.getElem_cons_succ, Act.put, List.setIfInBounds_toArray, List.set_cons_zero, List.set_cons_succ]
      refine wpAnyH_take (i := 7) (v := ?_) rfl (by kernel_rfl) (by kernel_rfl) (by kernel_rfl) (fun _ _ _ h => h) (Or.inl ⟨by kernel_rfl, ?_⟩) (by assumption) ?_
      rotate_left
      · intro Wt hSt
        go_simp
        try with_reducible rfl
      try simp only [List.getElem_toArray, List.getElem_cons_zero, List.getElem_cons_succ, Act.put, List.setIfInBounds_toArray, List.set_cons_zero, List.set_cons_succ]
      refine wpAnyH_chainOf [4, 8, 9, 10, 11] _ _ _ (by kernel_rfl) (by kernel_rfl) ?_
      simp only [List.filterMap_cons, List.filterMap_nil, List.getElem?_toArray, List.getElem?_cons_zero, List.getElem?_cons_succ]
      refine wpChain_step rfl fun K hK => ?_
      go_simp
      refine ((unhide HF1) _ hSW).mono ?_; rintro x wA ⟨⟨v1, rfl, hO1⟩, hA1⟩
      have hSA := thenB hSW hA1
      dsimp only
      refine hK _ _ hSA ?_
      clear hK K
      refine wpChain_step rfl fun K hK => ?_
      go_simp
      refine ((unhide HF2) _ hSA).mono ?_; rintro x wB ⟨rfl, hA2⟩
      have hSB := thenB hSA hA2
      have hO2 := hO1.later hA2
      dsimp only
      refine hK _ _ hSB ?_
      clear hK K
      refine wpChain_step rfl fun K hK => ?_
      go_simp
      rw [overwritten hst (by rfl)]
      generalize hY : wB.alloc _ = Y1
      have hBY : Below wB.heap.size wB Y1 := hY ▸ (Below.refl _ _).alloc (Nat.le_refl _) _
      have hoY : ByAt Y1 wB.heap.size 24 T := boxed wB Y1 T _ (by rw [← hY, unhide HCT]; rfl)
      have hSC := thenB hSB hBY
      have hO3 := hO2.later hBY
      refine hK _ _ hSC ?_
      clear hK K hY
      obtain ⟨v3, V3, hr3, hown3, hg3⟩ := run_append_D hO3 26 wB.heap.size 1 T (unhide HGT) hoY (by have := unhide HQL; omega) (Nat.le_trans hA1.size (Nat.le_trans hA2.size hBY.size))
      have hS3 := grown_below hSC hg3 (fun k hk => Nat.le_trans hSW.size (hO3.lt k hk).1)
      refine wpChain_step rfl fun K hK => ?_
      refine wp_append (.tmp 20) (.tmp 25) 26 rfl _ _ v3 V3 rfl rfl hr3 ?_
      refine hK _ _ hS3 ?_
      clear hK K
      refine wpChain_step rfl fun K hK => ?_
      go_simp
      refine hK _ _ hS3 (wpChain_nil ?_)
      clear hK K
      go_wp2_with fail
      go_ret
      exact ⟨⟨_, rfl, hown3.le hSW.size⟩, hS3⟩
    · have i1 : ¬ (at_ : Int) < (k : Int) := by omega
      have e := pathP_right (l := l) (at_ := at_) (by omega) (by rw [hl, ← hk]; exact hak)
      rw [hl, ← hk] at e
      obtain ⟨ak, hak2⟩ : ∃ a, a = at_ - k := ⟨_, rfl⟩
      have wa : IntKind.i64.wrap ((at_ : Int) - (k : Int)) = (ak : Int) := (IntWalk.i64_in _ (by omega)).trans (by omega)
      obtain ⟨q, hq⟩ : ∃ q, q = pathP (l.drop k) ak := ⟨_, rfl⟩
      obtain ⟨T, hTd⟩ : ∃ d, d = treeP (l.take k) := ⟨_, rfl⟩
      rw [← hak2, ← hq, ← hTd] at e
      have hql : q.length ≤ 100000000 := by rw [e, List.length_append] at hpl; omega
      unfold PathIs
      rw [e]
      have hgT : Dg T := hTd ▸ dg_tree _
      obtain ⟨ct, hct⟩ : ∃ cs, cs = (T.map (Value.int .u8)).toArray := ⟨_, rfl⟩
      have hst : ct.size = 32 := by rw [hct]; simpa using hgT.len
      have HF1 : Hid (∀ W, Below w.heap.size w W → Calls Tryd.prog 53 #[.slice (some ⟨sb', so + k * 32, none⟩) (n - k) (c - k), .int .i64 (ak : Int)] W fun x w' => (∃ v, x = .returned v ∧ OwnD w' W.heap.size v q) ∧ Below W.heap.size W w') := fun W hB => by
        have := (unhide HI) (l.drop k) (by have := unhide HLL; have := unhide HK; omega) ak W (c - k) (some ⟨sb', so + k * 32, none⟩) (by rw [(unhide HLL).2]; have := unhide HK; omega) (((unhide HA).keep hB).drop k) (by have := unhide HLL; have := unhide HK; omega)
        unfold PathIs at this
        rw [(unhide HLL).2, ← hq] at this
        exact this
      have HF2 : Hid (∀ W, Below w.heap.size w W → Calls Tryd.prog 16 #[.slice (some ⟨sb', so, none⟩) k c] W fun x w' => x = .returned (.agg ct) ∧ Below W.heap.size W w') := fun W hB => by
        have := rtree_any W c (some ⟨sb', so, none⟩) (l.take k) (((unhide HA).keep hB).take k) (by have := unhide HLL; have := unhide HK; omega) (by have := unhide HLL; have := unhide HK; omega)
        rw [(unhide HLL).1, treeD_ne (fun e => by have h := (unhide HLL).1; rw [e] at h; simp at h; have := unhide HK; omega)] at this
        refine this.mono ?_
        rintro x w' ⟨rfl, h'⟩
        exact ⟨by rw [hct, hTd], h'⟩
      have HGT := hide hgT
      have HCT := hide hct
      have HQL := hide hql
      clear IH hl h8 hat hA hc hrg e1 h2 hk hkn hk0 hpl hll hlt hld hak e hq hTd hql hgT hct hak2
      go_enter Tryd.func53, Tryd.ntmps53
      go_wp2_with fail
      refine (rhalf_any n (unhide HK).2.2.2.1 (by have := unhide HK; omega) w).mono ?_; rintro x W2 ⟨rfl, rfl⟩
      rw [← (unhide HK).1]
      obtain ⟨W, hW⟩ : ∃ W, W = W2.drewN 1 := ⟨_, rfl⟩
      have HW : Hid (W = W2.drewN 1) := hW
      have hSW := below_named HW
      clear hW
      go_wp2_with fail
      refine held (S := Below W2.heap.size W2) W HW (by kernel_rfl) ?_
      refine wpAnyH_take (i := 0) (v := ?_) rfl (by kernel_rfl) (by kernel_rfl) (by kernel_rfl) (fun _ _ _ h => h) (Or.inl ⟨by kernel_rfl, ?_⟩) (by assumption) ?_
      rotate_left
      · intro Wt hSt
        go_simp
        try with_reducible rfl
      try simp only [List.getElem_toArray, List.getElem_cons_zero, List.getElem_cons_succ, Act.put, List.setIfInBounds_toArray, List.set_cons_zero, List.set_cons_succ]
      refine wpAnyH_take (i := 1) (v := ?_) rfl (by kernel_rfl) (by kernel_rfl) (by kernel_rfl) (fun _ _ _ h => h) (Or.inl ⟨by kernel_rfl, ?_⟩) (by assumption) ?_
      rotate_left
      · intro Wt hSt
        go_simp
        try with_reducible rfl
      try simp only [List.getElem_toArray, List.getElem_cons_zero, List.getElem_cons_succ, Act.put, List.setIfInBounds_toArray, List.set_cons_zero, List.set_cons_succ]
      refine wpAnyH_take (i := 2) (v := ?_) rfl (by kernel_rfl) (by kernel_rfl) (by kernel_rfl) (fun _ _ _ h => h) (Or.inl ⟨by kernel_rfl, ?_⟩) (by assumption) ?_
      rotate_left
      · intro Wt hSt
        go_simp
        try with_reducible rfl
      try simp only [List.getElem_toArray, List.getElem_cons_zero, List.getElem_cons_succ, Act.put, List.setIfInBounds_toArray, List.set_cons_zero, List.set_cons_succ]
      refine wpAnyH_take (i := 3) (v := ?_) rfl (by kernel_rfl) (by kernel_rfl) (by kernel_rfl) (fun _ _ _ h => h) (Or.inl ⟨by kernel_rfl, ?_⟩) (by assumption) ?_
      rotate_left
      · intro Wt hSt
        go_simp
        try with_reducible rfl
      try simp only [List.getElem_toArray, List.getElem_cons_zero, List.getElem_cons_succ, Act.put, List.setIfInBounds_toArray, List.set_cons_zero, List.set_cons_succ]
      refine wpAnyH_take (i := 4) (v := ?_) rfl (by kernel_rfl) (by kernel_rfl) (by kernel_rfl) (fun _ _ _ h => h) (Or.inl ⟨by kernel_rfl, ?_⟩) (by assumption) ?_
      rotate_left
      · intro Wt hSt
        go_simp
        try with_reducible rfl
      try simp only [List.getElem_toArray, List.getElem_cons_zero, List.getElem_cons_succ, Act.put, List.setIfInBounds_toArray, List.set_cons_zero, List.set_cons_succ]
      refine wpAnyH_take (i := 5) (v := ?_) rfl (by kernel_rfl) (by kernel_rfl) (by kernel_rfl) (fun _ _ _ h => h) (Or.inl ⟨by kernel_rfl, ?_⟩) (by assumption) ?_
      rotate_left
      · intro Wt hSt
        go_simp
        try with_reducible rfl
      try simp only [List.getElem_toArray, List.getElem_cons_zero, List.getElem_cons_succ, Act.put, List.setIfInBounds_toArray, List.set_cons_zero, List.set_cons_succ]
      refine wpAnyH_take (i := 7) (v := ?_) rfl (by kernel_rfl) (by kernel_rfl) (by kernel_rfl) (fun _ _ _ h => h) (Or.inl ⟨by kernel_rfl, ?_⟩) (by assumption) ?_
      rotate_left
      · intro Wt hSt
        go_simp
        try with_reducible rfl
      try simp only [List.getElem_toArray, List.getElem_cons_zero, List.getElem_cons_succ, Act.put, List.setIfInBounds_toArray, List.set_cons_zero, List.set_cons_succ]
      refine wpAnyH_take (i := 8) (v := ?_) rfl (by kernel_rfl) (by kernel_rfl) (by kernel_rfl) (fun _ _ _ h => h) (Or.inl ⟨by kernel_rfl, ?_⟩) (by assumption) ?_
      rotate_left
      · intro Wt hSt
        go_simp
        try with_reducible rfl
      try simp only [List.getElem_toArray, List.getElem_cons_zero, List.getElem_cons_succ, Act.put, List.setIfInBounds_toArray, List.set_cons_zero, List.set_cons_succ]
      refine wpAnyH_take (i := 9) (v := ?_) rfl (by kernel_rfl) (by kernel_rfl) (by kernel_rfl) (fun _ _ _ h => h) (Or.inl ⟨by kernel_rfl, ?_⟩) (by assumption) ?_
      rotate_left
      · intro Wt hSt
        go_simp
        try with_reducible rfl
      try simp only [List.getElem_toArray, List.getElem_cons_zero, List.getElem_cons_succ, Act.put, List.setIfInBounds_toArray, List.set_cons_zero, List.set_cons_succ]
      refine wpAnyH_chainOf [6, 10, 11, 12, 13] _ _ _ (by kernel_rfl) (by kernel_rfl) ?_
      simp only [List.filterMap_cons, List.filterMap_nil, List.getElem?_toArray, List.getElem?_cons_zero, List.getElem?_cons_succ]
      refine wpChain_step rfl fun K hK => ?_
      go_simp
      refine ((unhide HF1) _ hSW).mono ?_; rintro x wA ⟨⟨v1, rfl, hO1⟩, hA1⟩
      have hSA := thenB hSW hA1
      dsimp only
      refine hK _ _ hSA ?_
      clear hK K
      refine wpChain_step rfl fun K hK => ?_
      go_simp
      refine ((unhide HF2) _ hSA).mono ?_; rintro x wB ⟨rfl, hA2⟩
      have hSB := thenB hSA hA2
      have hO2 := hO1.later hA2
      dsimp only
      refine hK _ _ hSB ?_
      clear hK K
      refine wpChain_step rfl fun K hK => ?_
      go_simp
      rw [overwritten hst (by rfl)]
      generalize hY : wB.alloc _ = Y1
      have hBY : Below wB.heap.size wB Y1 := hY ▸ (Below.refl _ _).alloc (Nat.le_refl _) _
      have hoY : ByAt Y1 wB.heap.size 24 T := boxed wB Y1 T _ (by rw [← hY, unhide HCT]; rfl)
      have hSC := thenB hSB hBY
      have hO3 := hO2.later hBY
      refine hK _ _ hSC ?_
      clear hK K hY
      obtain ⟨v3, V3, hr3, hown3, hg3⟩ := run_append_D hO3 26 wB.heap.size 1 T (unhide HGT) hoY (by have := unhide HQL; omega) (Nat.le_trans hA1.size (Nat.le_trans hA2.size hBY.size))
      have hS3 := grown_below hSC hg3 (fun k hk => Nat.le_trans hSW.size (hO3.lt k hk).1)
      refine wpChain_step rfl fun K hK => ?_
      refine wp_append (.tmp 33) (.tmp 38) 26 rfl _ _ v3 V3 rfl rfl hr3 ?_
      refine hK _ _ hS3 ?_
      clear hK K
      refine wpChain_step rfl fun K hK => ?_
      go_simp
      refine hK _ _ hS3 (wpChain_nil ?_)
      clear hK K
      go_wp2_with fail
      go_ret
      exact ⟨⟨_, rfl, hown3.le hSW.size⟩, hS3⟩
theorem rpath_all (n : Nat) : n ≤ 100000000 → ∀ (l : List (List Int)), l.length = n → ∀ (at_ : Nat) (w : World) (c : Nat) (A : Option Addr), at_ < n → Ds w A l → n ≤ c → PathIs w l n at_ c A := by
  induction n using Nat.strongRecOn with
  | _ n IH =>
    intro h8 l hl at_ w c A hat hA hc
    exact rpath_step n (fun l' hl' at' w' c' A' hat' hA' hc' => IH l'.length hl' (by omega) l' rfl at' w' c' A' hat' hA' hc') l hl h8 at_ w c A hat hA hc
theorem rpath_any (l : List (List Int)) (h8 : l.length ≤ 100000000) (at_ : Nat) (w : World) (c : Nat) (A : Option Addr) (hat : at_ < l.length) (hA : Ds w A l) (hc : l.length ≤ c) : PathIs w l l.length at_ c A :=
  rpath_all l.length h8 l rfl at_ w c A hat hA hc
set_option maxRecDepth 100000 in
set_option maxHeartbeats 1000000 in
theorem rPath_ok (l : List (List Int)) (h8 : l.length ≤ 100000000) (at_ : Nat) (w : World) (c : Nat) (A : Option Addr) (hat : at_ < l.length) (hA : Ds w A l) (hc : l.length ≤ c) :
    Calls Tryd.prog 18 #[.slice A l.length c, .int .i64 (at_ : Int)] w fun x w' => (∃ v, x = .returned (.tuple #[v, .int .i64 0]) ∧ OwnD w' w.heap.size v (pathP l at_)) ∧ Below w.heap.size w w' := by
  have HF := hide (rpath_any l h8 at_ w c A hat hA hc)
  obtain ⟨n, hn⟩ : ∃ n, n = l.length := ⟨_, rfl⟩
  have i1 : ¬ (at_ : Int) < 0 := by omega
  have i2 : ¬ (n : Int) ≤ (at_ : Int) := by omega
  unfold PathIs at HF
  rw [← hn] at HF ⊢
  clear h8 hat hA hc hn
  go_enter Tryd.func18, Tryd.ntmps18
  go_wp2_with fail
  refine (unhide HF).mono ?_; rintro x W2 ⟨⟨v, rfl, ho⟩, hb⟩
  have HO := hide ho
  have HB := hide hb
  clear ho hb HF
  go_wp2_with fail
  go_ret2
  exact ⟨⟨_, rfl, unhide HO⟩, unhide HB⟩
set_option maxRecDepth 100000 in
set_option maxHeartbeats 1000000 in
theorem rPath_bad (n : Nat) (at_ : Int) (w : World) (c : Nat) (A : Option Addr) (h : at_ < 0 ∨ (n : Int) ≤ at_) :
    Calls Tryd.prog 18 #[.slice A n c, .int .i64 at_] w fun x w' => x = .returned (.tuple #[.slice none 0 0, .int .i64 1]) ∧ w' = w := by
  by_cases i1 : at_ < 0
  · clear h
    go_enter Tryd.func18, Tryd.ntmps18
    go_wp2_with fail
    go_ret2
    exact ⟨rfl, rfl⟩
  · have i2 : (n : Int) ≤ at_ := by omega
    clear h
    go_enter Tryd.func18, Tryd.ntmps18
    go_wp2_with fail
    go_ret2
    exact ⟨rfl, rfl⟩
end Go.Proofs.YtceppmajbkmbdaaDoor
namespace Go.Proofs.YtceppmajbkmbdaaDoor
set_option linter.unusedSimpArgs false
set_option linter.unusedVariables false
open Go.RowKit

abbrev RClimbIs (w : World) (d : List Int) (n at_ m c : Nat) (A : Option Addr) (p : List (List Int)) : Prop :=
  Calls Tryd.prog 57 #[dv d, .int .i64 (at_ : Int), .int .i64 (n : Int), .slice A m c] w fun x w' => x = .returned (dv (climbP d n at_ p)) ∧ Below w.heap.size w w'
/-- worlds behind a box that holds a digest and another one -/
structure SB2 (w : World) (d e : List Int) (W : World) : Prop where
  lo : Below w.heap.size w W
  box : ByAt W w.heap.size 24 d
  lst : ByAt W (w.heap.size + 2) 24 e
theorem SB2.later {w W W' : World} {d e : List Int} (h : SB2 w d e W) (hb : Below W.heap.size W W') : SB2 w d e W' := ⟨thenB h.lo hb, h.box.keep hb, h.lst.keep hb⟩
theorem SB2.grown {w W W' : World} {d e : List Int} (h : SB2 w d e W) (hg : W.grownBy W' (some (w.heap.size + 1))) : SB2 w d e W' :=
  ⟨h.lo.grown hg h.lo.size (fun i e => by injection e with e; omega), h.box.grown hg (by omega), h.lst.grown hg (by omega)⟩
set_option maxRecDepth 100000 in
set_option maxHeartbeats 4000000 in
theorem rclimb_one (n : Nat) (h1n : n = 1) (at_ : Nat) (d : List Int) (p : List (List Int)) (w : World) (m c : Nat) (A : Option Addr) (hn : n ≤ 1099511627776) (h1 : 1 ≤ n) (hat : at_ < n) (hpm : p.length = m) (hm : m = lenP n at_) (hmc : m ≤ c) (hd : Dg d) (hA : Ds w A p) : RClimbIs w d n at_ m c A p := by
  have HD := hide hd
  obtain ⟨cd, hcd⟩ : ∃ cs, cs = (d.map (Value.int .u8)).toArray := ⟨_, rfl⟩
  have hsd : cd.size = 32 := by rw [hcd]; simpa using hd.len
  have HCD := hide hcd
  unfold RClimbIs
  rw [show dv d = .agg cd by rw [hcd]]
  subst h1n
  rw [climbP_one]
  clear hn h1 hat hpm hm hmc hd hA hcd
  go_enter Tryd.func57, Tryd.ntmps57
  go_upto_region 1 with fail
  generalize hX1 : w.alloc _ = W1
  have hB1 : Below w.heap.size w W1 := hX1 ▸ (Below.refl _ _).alloc (Nat.le_refl _) _
  have ho1 : ByAt W1 w.heap.size 24 d := boxed w W1 d _ (by rw [← hX1]; first | rfl | (rw [unhide HCD]; rfl))
  have hz1 : W1.heap.size = w.heap.size + 1 := by rw [← hX1]; show (w.heap.push _).size = _; rw [Array.size_push]
  generalize hX2 : W1.alloc _ = W2
  have hB2 : Below W1.heap.size W1 W2 := hX2 ▸ (Below.refl _ _).alloc (Nat.le_refl _) _
  have ho2 : ByAt W2 W1.heap.size 24 zeros := newBy W1 W2 (by rw [← hX2]; rfl)
  have hz2 : W2.heap.size = w.heap.size + 2 := by rw [← hX2]; show (W1.heap.push _).size = _; rw [Array.size_push, hz1]
  rw [hz1] at ho2
  have HB := hide (thenB hB1 hB2)
  have HO1 := hide (ho1.keep hB2)
  have HO2 := hide ho2
  have HZ2 := hide hz2
  clear hX1 hX2 hB1 hB2 ho1 ho2 hz1 hz2
  have hsm := rtag_any W2 ⟨#[108, 101, 97, 102]⟩ (some ⟨w.heap.size, 0, none⟩) 32 d ((unhide HO1).bt (unhide HD)) (Nat.le_of_eq (unhide HD).len) (fun h => by cases h) (by rw [(unhide HD).len]; omega) (by decide)
  rw [show sb ⟨#[108, 101, 97, 102]⟩ = [108, 101, 97, 102] by decide, show tagF [108, 101, 97, 102] d = leafP d from rfl, (unhide HD).len] at hsm
  have HSM := hide hsm
  clear hsm
  go_wp2_with fail
  refine (unhide HSM).mono ?_; rintro x W3 ⟨rfl, hB3⟩
  have HB3 := hide (thenB (unhide HB) hB3)
  have HO3 := hide ((unhide HO2).keep hB3)
  clear hB3 HSM
  dsimp only
  rename_i KK hK
  refine hK _ _ ?_
  clear hK KK
  refine wpList_bstore rfl 24 (.tmp 8) (.tmp 14) rfl (w.heap.size + 1) rfl (leafP d) rfl 32 info32 (dg_hash _).len _ zeros (unhide HO3) rfl ?_
  intro W9 HW9 HG
  go_wp2_with fail
  try simp only [Exit.inBlock, Exit.then]
  exact bret rfl rfl (w.heap.size + 1) rfl _ _ (unhide HW9) (dg_hash _).len ⟨rfl, (unhide HB3).grown (unhide HG) (unhide HB3).size (fun i e => by injection e with e; omega)⟩
set_option maxRecDepth 100000 in
set_option maxHeartbeats 4000000 in
theorem rclimb_left (n : Nat) (h2 : 2 ≤ n) (IH : ∀ n', n' < n → ∀ (at_ : Nat) (d : List Int) (p : List (List Int)) (w : World) (m c : Nat) (A : Option Addr), 1 ≤ n' → at_ < n' → p.length = m → m = lenP n' at_ → m ≤ c → Dg d → Ds w A p → RClimbIs w d n' at_ m c A p)
    (at_ : Nat) (d : List Int) (p : List (List Int)) (w : World) (m c : Nat) (A : Option Addr) (hn : n ≤ 1099511627776) (h1 : 1 ≤ n) (hat : at_ < n) (hpm : p.length = m) (hm : m = lenP n at_) (hmc : m ≤ c) (hd : Dg d) (hA : Ds w A p) (hak : at_ < halfN n) : RClimbIs w d n at_ m c A p := by
  have HI := hide IH
  have HA := hide hA
  have HD := hide hd
  have HN : Hid (n ≤ 1099511627776 ∧ 1 ≤ n ∧ at_ < n ∧ p.length = m ∧ m = lenP n at_ ∧ m ≤ c) := ⟨hn, h1, hat, hpm, hm, hmc⟩
  obtain ⟨cd, hcd⟩ : ∃ cs, cs = (d.map (Value.int .u8)).toArray := ⟨_, rfl⟩
  have hsd : cd.size = 32 := by rw [hcd]; simpa using hd.len
  have HCD := hide hcd
  unfold RClimbIs
  rw [show dv d = .agg cd by rw [hcd]]
  obtain ⟨k, hk⟩ : ∃ k, k = halfN n := ⟨_, rfl⟩
  have hkn := halfN_lt h2
  have hk0 := halfN_pos n
  rw [← hk] at hkn hk0
  have n1 : ¬ (n : Int) = 1 := by omega
  have hm0 : 0 < m := by
    rw [hm]
    by_cases ha : at_ < halfN n
    · rw [lenP_left h2 ha]; omega
    · rw [lenP_right h2 ha]; omega
  have hpne : p ≠ [] := fun e => by rw [e] at hpm; simp at hpm; omega
  obtain ⟨pb, po, rfl, hrg⟩ := hA.at_ hpne
  have hlg := lastP_get hpne
  have hrl := hrg _ _ hlg
  have hdl : Dg (lastP p) := hA.dg _ (List.mem_of_getElem? hlg)
  obtain ⟨la, hla⟩ : ∃ la, la = m - 1 := ⟨_, rfl⟩
  rw [hpm, ← hla] at hrl
  have HRL := hide hrl
  have HDL := hide hdl
  have hll := lenP_lt n at_ h1
  have wl : IntKind.i64.wrap ((m : Int) - 1) = (la : Int) := (IntWalk.i64_in _ (by omega)).trans (by omega)
  have l0 : (0 : Int) ≤ (la : Int) := Int.natCast_nonneg _
  have l1 : (la : Int) < (m : Int) := by omega
  have l2 : (la : Int) ≤ (m : Int) := by omega
  have l3 : (la : Int) ≤ (c : Int) := by omega
  obtain ⟨cl, hcl⟩ : ∃ cs, cs = ((lastP p).map (Value.int .u8)).toArray := ⟨_, rfl⟩
  have hsl : cl.size = 32 := by rw [hcl]; simpa using hdl.len
  have HCL := hide hcl
  have HK : Hid (k = halfN n ∧ 0 < k ∧ k < n ∧ 2 ≤ n ∧ la = m - 1 ∧ 0 < m) := ⟨hk, hk0, hkn, h2, hla, hm0⟩
  have hil : (initP p).length = la := by unfold initP; simp; omega
  have HIL : Hid ((initP p).length = la) := hil
  have i1 : (at_ : Int) < (k : Int) := by omega
  obtain ⟨T1, hT1⟩ : ∃ T, T = climbP d k at_ (initP p) := ⟨_, rfl⟩
  have hlen : la = lenP k at_ := by rw [hla, hm, hk, lenP_left h2 (hk ▸ hak)]; omega
  have e0 : climbP d n at_ p = nodeP T1 (lastP p) := by rw [hT1, hk]; exact climbP_left d p h2 (hk ▸ hak)
  obtain ⟨c1, hc1⟩ : ∃ cs, cs = (T1.map (Value.int .u8)).toArray := ⟨_, rfl⟩
  have hg1 : Dg T1 := hT1 ▸ dg_climb _ _ _ _
  have hs1 : c1.size = 32 := by rw [hc1]; simpa using hg1.len
  have HF1 : Hid (∀ W, Below w.heap.size w W → Calls Tryd.prog 57 #[.agg cd, .int .i64 (at_ : Int), .int .i64 (k : Int), .slice (some ⟨pb, po, none⟩) la c] W fun x w' => x = .returned (.agg c1) ∧ Below W.heap.size W w') := fun W hB => by
    have := (unhide HI) k (by omega) at_ d (initP p) W la c (some ⟨pb, po, none⟩) (by omega) (by omega) (unhide HIL) hlen (by omega) (unhide HD) (((unhide HA).keep hB).take _)
    unfold RClimbIs at this
    rw [show dv d = .agg cd by rw [unhide HCD]] at this
    refine this.mono ?_
    rintro x w' ⟨rfl, h'⟩
    exact ⟨by rw [hc1, hT1], h'⟩
  have HF2 : Hid (∀ W, Below w.heap.size w W → Calls Tryd.prog 50 #[.agg c1, .agg cl] W fun x w' => x = .returned (dv (climbP d n at_ p)) ∧ Below W.heap.size W w') := fun W hB => by
    rw [hc1, hcl, e0]
    exact rnode_any W T1 (lastP p) hg1 (unhide HDL)
  clear IH hn h1 hat hpm hm hmc hd hA hcd hk hkn hk0 h2 hm0 hpne hrg hlg hrl hdl hla hll hcl hil hak hT1 hlen e0 hc1 hg1
  go_enter Tryd.func57, Tryd.ntmps57
  go_upto_region 1 with fail
  generalize hX1 : w.alloc _ = W1
  have hB1 : Below w.heap.size w W1 := hX1 ▸ (Below.refl _ _).alloc (Nat.le_refl _) _
  have ho1 : ByAt W1 w.heap.size 24 d := boxed w W1 d _ (by rw [← hX1]; first | rfl | (rw [unhide HCD]; rfl))
  have hz1 : W1.heap.size = w.heap.size + 1 := by rw [← hX1]; show (w.heap.push _).size = _; rw [Array.size_push]
  generalize hX2 : W1.alloc _ = W2
  have hB2 : Below W1.heap.size W1 W2 := hX2 ▸ (Below.refl _ _).alloc (Nat.le_refl _) _
  have ho2 : ByAt W2 W1.heap.size 24 zeros := newBy W1 W2 (by rw [← hX2]; rfl)
  have hz2 : W2.heap.size = w.heap.size + 2 := by rw [← hX2]; show (W1.heap.push _).size = _; rw [Array.size_push, hz1]
  rw [hz1] at ho2
  have HB := hide (thenB hB1 hB2)
  have HO1 := hide (ho1.keep hB2)
  have HO2 := hide ho2
  have HZ2 := hide hz2
  clear hX1 hX2 hB1 hB2 ho1 ho2 hz1 hz2
  go_wp2_with fail
  refine (rhalf_any n (unhide HK).2.2.2.1 (unhide HN).1 W2).mono ?_; rintro x W3 ⟨rfl, rfl⟩
  rw [← (unhide HK).1]
  go_upto_region 4 with fail
  refine wp_region_lit ?_
  refine wpList_plain rfl fun Kt hKt => ?_
  go_simp
  refine hKt _ _ ?_
  clear hKt Kt
  refine wpList_plain rfl fun Kt hKt => ?_
  go_simp
  refine hKt _ _ ?_
  clear hKt Kt
  refine wpList_plain rfl fun Kt hKt => ?_
  go_simp
  refine hKt _ _ ?_
  clear hKt Kt
  refine wpList_plain rfl fun Kt hKt => ?_
  go_simp
  refine hKt _ _ ?_
  clear hKt Kt
  refine wpList_plain rfl fun Kt hKt => ?_
  go_simp
  refine hKt _ _ ?_
  clear hKt Kt
  refine wpList_load_mid rfl 24 (.tmp 21) rfl pb (po + la * 32) rfl ((lastP p).map (Value.int .u8)) _ (rangeAt_keep (unhide HRL) (unhide HB)) Tryd.underlying24 rfl (by rw [List.length_map, (unhide HDL).len]; exact info32) ?_
  refine wpList_plain rfl fun Kt hKt => ?_
  go_simp
  refine hKt _ _ ?_
  clear hKt Kt
  generalize hX3 : World.alloc _ _ = W4
  have hB4 : Below W3.heap.size W3 W4 := hX3 ▸ (Below.refl _ _).alloc (Nat.le_refl _) _
  have ho4 : ByAt W4 W3.heap.size 24 zeros := newBy W3 W4 (by rw [← hX3]; rfl)
  rw [unhide HZ2] at ho4 ⊢
  refine wpList_bstore rfl 24 (.tmp 10) (.tmp 22) rfl (w.heap.size + 2) rfl (lastP p) rfl 32 info32 (unhide HDL).len _ zeros ho4 rfl ?_
  intro W5 HW5 HG5
  have hg5 := unhide HG5
  have HB5 := hide ((thenB (unhide HB) hB4).grown hg5 (thenB (unhide HB) hB4).size (fun i e => by injection e with e; omega))
  have HO15 := hide (((unhide HO1).keep hB4).grown hg5 (by omega))
  have HO25 := hide (((unhide HO2).keep hB4).grown hg5 (by omega))
  clear hX3 hB4 ho4 HO1 HO2 HB HG5 hg5
  obtain ⟨W, hW⟩ : ∃ W, W = W5.drewN 1 := ⟨_, rfl⟩
  have HW : Hid (W = W5.drewN 1) := hW
  have hSW : SB2 w d (lastP p) W := ⟨thenB (unhide HB5) (below_named HW), (unhide HO15).keep (below_named HW), (unhide HW5).keep (below_named HW)⟩
  have HOW := hide ((unhide HO25).keep (below_named HW))
  clear hW
  try simp only [List.getElem_toArray, List.getElem_cons_zero, List.getElem_cons_succ, Act.put, List.setIfInBounds_toArray, List.set_cons_zero, List.set_cons_succ]
  go_wp2_with fail
  refine held (S := SB2 w d (lastP p)) W HW (by kernel_rfl) ?_
  refine wpAnyH_take (i := 0) (v := .agg cd) rfl (by kernel_rfl) (by kernel_rfl) (by kernel_rfl) (fun _ _ _ h => h) (by rw [unhide HCD]; exact yieldsIf_load_mid (by kernel_rfl) 24 (.tmp 4) rfl w.heap.size 0 rfl (d.map (Value.int .u8)) _ (fun W hS => hS.box.range) Tryd.underlying24 rfl (by rw [List.length_map, (unhide HD).len]; exact info32)) (by assumption) ?_
  try simp only [List.getElem_toArray, List.getElem_cons_zero, List.getElem_cons_succ, Act.put, List.setIfInBounds_toArray, List.set_cons_zero, List.set_cons_succ]
  refine wpAnyH_take (i := 1) (v := ?_) rfl (by kernel_rfl) (by kernel_rfl) (by kernel_rfl) (fun _ _ _ h => h) (Or.inl ⟨by kernel_rfl, ?_⟩) (by assumption) ?_
  rotate_left
  · intro Wt hSt
    go_simp
    try with_reducible rfl
  try simp only [List.getElem_toArray, List.getElem_cons_zero, List.getElem_cons_succ, Act.put, List.setIfInBounds_toArray, List.set_cons_zero, List.set_cons_succ]
  refine wpAnyH_take (i := 2) (v := ?_) rfl (by kernel_rfl) (by kernel_rfl) (by kernel_rfl) (fun _ _ _ h => h) (Or.inl ⟨by kernel_rfl, ?_⟩) (by assumption) ?_
  rotate_left
  · intro Wt hSt
    go_simp
    try with_reducible rfl
  try simp only [List.getElem_toArray, List.getElem_cons_zero, List.getElem_cons_succ, Act.put, List.setIfInBounds_toArray, List.set_cons_zero, List.set_cons_succ]
  refine wpAnyH_take (i := 3) (v := ?_) rfl (by kernel_rfl) (by kernel_rfl) (by kernel_rfl) (fun _ _ _ h => h) (Or.inl ⟨by kernel_rfl, ?_⟩) (by assumption) ?_
  rotate_left
  · intro Wt hSt
    go_simp
    try with_reducible rfl
  try simp only [List.getElem_toArray, List.getElem_cons_zero, List.getElem_cons_succ, Act.put, List.setIfInBounds_toArray, List.set_cons_zero, List.set_cons_succ]
  refine wpAnyH_take (i := 4) (v := ?_) rfl (by kernel_rfl) (by kernel_rfl) (by kernel_rfl) (fun _ _ _ h => h) (Or.inl ⟨by kernel_rfl, ?_⟩) (by assumption) ?_
  rotate_left
  · intro Wt hSt
    go_simp
    try with_reducible rfl
  try simp only [List.getElem_toArray, List.getElem_cons_zero, List.getElem_cons_succ, Act.put, List.setIfInBounds_toArray, List.set_cons_zero, List.set_cons_succ]
  refine wpAnyH_take (i := 5) (v := ?_) rfl (by kernel_rfl) (by kernel_rfl) (by kernel_rfl) (fun _ _ _ h => h) (Or.inl ⟨by kernel_rfl, ?_⟩) (by assumption) ?_
  rotate_left
  · intro Wt hSt
    go_simp
    try with_reducible rfl
  try simp only [List.getElem_toArray, List.getElem_cons_zero, List.getElem_cons_succ, Act.put, List.setIfInBounds_toArray, List.set_cons_zero, List.set_cons_succ]
  refine wpAnyH_take (i := 6) (v := ?_) rfl (by kernel_rfl) (by kernel_rfl) (by kernel_rfl) (fun _ _ _ h => h) (Or.inl ⟨by kernel_rfl, ?_⟩) (by assumption) ?_
  rotate_left
  · intro Wt hSt
    go_simp
    try with_reducible rfl
  try simp only [List.getElem_toArray, List.getElem_cons_zero, List.getElem_cons_succ, Act.put, List.setIfInBounds_toArray, List.set_cons_zero, List.set_cons_succ]
  refine wpAnyH_take (i := 7) (v := ?_) rfl (by kernel_rfl) (by kernel_rfl) (by kernel_rfl) (fun _ _ _ h => h) (Or.inl ⟨by kernel_rfl, ?_⟩) (by assumption) ?_
  rotate_left
  · intro Wt hSt
    go_simp
    try with_reducible rfl
  try simp only [List.getElem_toArray, List.getElem_cons_zero, List.getElem_cons_succ, Act.put, List.setIfInBounds_toArray, List.set_cons_zero, List.set_cons_succ]
  refine wpAnyH_take (i := 9) (v := .agg cl) rfl (by kernel_rfl) (by kernel_rfl) (by kernel_rfl) (fun _ _ _ h => h) (by rw [unhide HCL]; exact yieldsIf_load_mid (by kernel_rfl) 24 (.tmp 10) rfl (w.heap.size + 2) 0 rfl ((lastP p).map (Value.int .u8)) _ (fun W hS => hS.lst.range) Tryd.underlying24 rfl (by rw [List.length_map, (unhide HDL).len]; exact info32)) (by assumption) ?_
  try simp only [List.getElem_toArray, List.getElem_cons_zero, List.getElem_cons_succ, Act.put, List.setIfInBounds_toArray, List.set_cons_zero, List.set_cons_succ]
  refine wpAnyH_chainOf [8, 10, 11] _ _ _ (by kernel_rfl) (by kernel_rfl) ?_
  simp only [List.filterMap_cons, List.filterMap_nil, List.getElem?_toArray, List.getElem?_cons_zero, List.getElem?_cons_succ]
  refine wpChain_step rfl fun K hK => ?_
  go_simp
  refine ((unhide HF1) _ hSW.lo).mono ?_; rintro x wA ⟨rfl, hA1⟩
  have hSA : SB2 w d (lastP p) wA := hSW.later hA1
  dsimp only
  refine hK _ _ hSA ?_
  clear hK K
  refine wpChain_step rfl fun K hK => ?_
  go_simp
  refine ((unhide HF2) _ hSA.lo).mono ?_; rintro x wB ⟨rfl, hA2⟩
  have hSB : SB2 w d (lastP p) wB := hSA.later hA2
  have hO := ((unhide HOW).keep hA1).keep hA2
  dsimp only
  refine hK _ _ hSB ?_
  clear hK K
  refine wpChain_bstore rfl 24 (.tmp 8) (.tmp 36) rfl (w.heap.size + 1) rfl (climbP d n at_ p) rfl 32 info32 (dg_climb _ _ _ _).len _ zeros hO rfl ?_
  intro W9 HW9 HG
  have hS9 := hSB.grown (unhide HG)
  refine ⟨hS9, wpChain_nil ?_⟩
  clear hO hSB hSA hA1 hA2
  have HS9 := hide hS9.lo
  clear hS9 hSW
  go_wp2_with fail
  try simp only [Exit.inBlock, Exit.then]
  exact bret rfl rfl (w.heap.size + 1) rfl _ _ (unhide HW9) (dg_climb _ _ _ _).len ⟨rfl, unhide HS9⟩
set_option maxRecDepth 100000 in
set_option maxHeartbeats 4000000 in
theorem rclimb_right (n : Nat) (h2 : 2 ≤ n) (IH : ∀ n', n' < n → ∀ (at_ : Nat) (d : List Int) (p : List (List Int)) (w : World) (m c : Nat) (A : Option Addr), 1 ≤ n' → at_ < n' → p.length = m → m = lenP n' at_ → m ≤ c → Dg d → Ds w A p → RClimbIs w d n' at_ m c A p)
    (at_ : Nat) (d : List Int) (p : List (List Int)) (w : World) (m c : Nat) (A : Option Addr) (hn : n ≤ 1099511627776) (h1 : 1 ≤ n) (hat : at_ < n) (hpm : p.length = m) (hm : m = lenP n at_) (hmc : m ≤ c) (hd : Dg d) (hA : Ds w A p) (hak : ¬ at_ < halfN n) : RClimbIs w d n at_ m c A p := by
  have HI := hide IH
  have HA := hide hA
  have HD := hide hd
  have HN : Hid (n ≤ 1099511627776 ∧ 1 ≤ n ∧ at_ < n ∧ p.length = m ∧ m = lenP n at_ ∧ m ≤ c) := ⟨hn, h1, hat, hpm, hm, hmc⟩
  obtain ⟨cd, hcd⟩ : ∃ cs, cs = (d.map (Value.int .u8)).toArray := ⟨_, rfl⟩
  have hsd : cd.size = 32 := by rw [hcd]; simpa using hd.len
  have HCD := hide hcd
  unfold RClimbIs
  rw [show dv d = .agg cd by rw [hcd]]
  obtain ⟨k, hk⟩ : ∃ k, k = halfN n := ⟨_, rfl⟩
  have hkn := halfN_lt h2
  have hk0 := halfN_pos n
  rw [← hk] at hkn hk0
  have n1 : ¬ (n : Int) = 1 := by omega
  have hm0 : 0 < m := by
    rw [hm]
    by_cases ha : at_ < halfN n
    · rw [lenP_left h2 ha]; omega
    · rw [lenP_right h2 ha]; omega
  have hpne : p ≠ [] := fun e => by rw [e] at hpm; simp at hpm; omega
  obtain ⟨pb, po, rfl, hrg⟩ := hA.at_ hpne
  have hlg := lastP_get hpne
  have hrl := hrg _ _ hlg
  have hdl : Dg (lastP p) := hA.dg _ (List.mem_of_getElem? hlg)
  obtain ⟨la, hla⟩ : ∃ la, la = m - 1 := ⟨_, rfl⟩
  rw [hpm, ← hla] at hrl
  have HRL := hide hrl
  have HDL := hide hdl
  have hll := lenP_lt n at_ h1
  have wl : IntKind.i64.wrap ((m : Int) - 1) = (la : Int) := (IntWalk.i64_in _ (by omega)).trans (by omega)
  have l0 : (0 : Int) ≤ (la : Int) := Int.natCast_nonneg _
  have l1 : (la : Int) < (m : Int) := by omega
  have l2 : (la : Int) ≤ (m : Int) := by omega
  have l3 : (la : Int) ≤ (c : Int) := by omega
  obtain ⟨cl, hcl⟩ : ∃ cs, cs = ((lastP p).map (Value.int .u8)).toArray := ⟨_, rfl⟩
  have hsl : cl.size = 32 := by rw [hcl]; simpa using hdl.len
  have HCL := hide hcl
  have HK : Hid (k = halfN n ∧ 0 < k ∧ k < n ∧ 2 ≤ n ∧ la = m - 1 ∧ 0 < m) := ⟨hk, hk0, hkn, h2, hla, hm0⟩
  have hil : (initP p).length = la := by unfold initP; simp; omega
  have HIL : Hid ((initP p).length = la) := hil
  have i1 : ¬ (at_ : Int) < (k : Int) := by omega
  obtain ⟨nk, hnk⟩ : ∃ a, a = n - k := ⟨_, rfl⟩
  obtain ⟨ak, hak2⟩ : ∃ a, a = at_ - k := ⟨_, rfl⟩
  have wa : IntKind.i64.wrap ((at_ : Int) - (k : Int)) = (ak : Int) := (IntWalk.i64_in _ (by omega)).trans (by omega)
  have wn : IntKind.i64.wrap ((n : Int) - (k : Int)) = (nk : Int) := (IntWalk.i64_in _ (by omega)).trans (by omega)
  obtain ⟨T1, hT1⟩ : ∃ T, T = climbP d nk ak (initP p) := ⟨_, rfl⟩
  have hlen : la = lenP nk ak := by rw [hla, hm, hnk, hak2, hk, lenP_right h2 (hk ▸ hak)]; omega
  have e0 : climbP d n at_ p = nodeP (lastP p) T1 := by rw [hT1, hnk, hak2, hk]; exact climbP_right d p h2 (hk ▸ hak)
  obtain ⟨c1, hc1⟩ : ∃ cs, cs = (T1.map (Value.int .u8)).toArray := ⟨_, rfl⟩
  have hg1 : Dg T1 := hT1 ▸ dg_climb _ _ _ _
  have hs1 : c1.size = 32 := by rw [hc1]; simpa using hg1.len
  have HF1 : Hid (∀ W, Below w.heap.size w W → Calls Tryd.prog 57 #[.agg cd, .int .i64 (ak : Int), .int .i64 (nk : Int), .slice (some ⟨pb, po, none⟩) la c] W fun x w' => x = .returned (.agg c1) ∧ Below W.heap.size W w') := fun W hB => by
    have := (unhide HI) nk (by omega) ak d (initP p) W la c (some ⟨pb, po, none⟩) (by omega) (by omega) (unhide HIL) hlen (by omega) (unhide HD) (((unhide HA).keep hB).take _)
    unfold RClimbIs at this
    rw [show dv d = .agg cd by rw [unhide HCD]] at this
    refine this.mono ?_
    rintro x w' ⟨rfl, h'⟩
    exact ⟨by rw [hc1, hT1], h'⟩
  have HF2 : Hid (∀ W, Below w.heap.size w W → Calls Tryd.prog 50 #[.agg cl, .agg c1] W fun x w' => x = .returned (dv (climbP d n at_ p)) ∧ Below W.heap.size W w') := fun W hB => by
    rw [hc1, hcl, e0]
    exact rnode_any W (lastP p) T1 (unhide HDL) hg1
  clear IH hn h1 hat hpm hm hmc hd hA hcd hk hkn hk0 h2 hm0 hpne hrg hlg hrl hdl hla hll hcl hil hak hT1 hlen e0 hc1 hg1 hnk hak2
  go_enter Tryd.func57, Tryd.ntmps57
  go_upto_region 1 with fail
  generalize hX1 : w.alloc _ = W1
  have hB1 : Below w.heap.size w W1 := hX1 ▸ (Below.refl _ _).alloc (Nat.le_refl _) _
  have ho1 : ByAt W1 w.heap.size 24 d := boxed w W1 d _ (by rw [← hX1]; first | rfl | (rw [unhide HCD]; rfl))
  have hz1 : W1.heap.size = w.heap.size + 1 := by rw [← hX1]; show (w.heap.push _).size = _; rw [Array.size_push]
  generalize hX2 : W1.alloc _ = W2
  have hB2 : Below W1.heap.size W1 W2 := hX2 ▸ (Below.refl _ _).alloc (Nat.le_refl _) _
  have ho2 : ByAt W2 W1.heap.size 24 zeros := newBy W1 W2 (by rw [← hX2]; rfl)
  have hz2 : W2.heap.size = w.heap.size + 2 := by rw [← hX2]; show (W1.heap.push _).size = _; rw [Array.size_push, hz1]
  rw [hz1] at ho2
  have HB := hide (thenB hB1 hB2)
  have HO1 := hide (ho1.keep hB2)
  have HO2 := hide ho2
  have HZ2 := hide hz2
  clear hX1 hX2 hB1 hB2 ho1 ho2 hz1 hz2
  go_wp2_with fail
  refine (rhalf_any n (unhide HK).2.2.2.1 (unhide HN).1 W2).mono ?_; rintro x W3 ⟨rfl, rfl⟩
  rw [← (unhide HK).1]
  go_upto_region 4 with fail
  refine wp_region_lit ?_
  refine wpList_plain rfl fun Kt hKt => ?_
  go_simp
  refine hKt _ _ ?_
  clear hKt Kt
  refine wpList_plain rfl fun Kt hKt => ?_
  go_simp
  refine hKt _ _ ?_
  clear hKt Kt
  refine wpList_plain rfl fun Kt hKt => ?_
  go_simp
  refine hKt _ _ ?_
  clear hKt Kt
  refine wpList_plain rfl fun Kt hKt => ?_
  go_simp
  refine hKt _ _ ?_
  clear hKt Kt
  refine wpList_plain rfl fun Kt hKt => ?_
  go_simp
  refine hKt _ _ ?_
  clear hKt Kt
  refine wpList_load_mid rfl 24 (.tmp 21) rfl pb (po + la * 32) rfl ((lastP p).map (Value.int .u8)) _ (rangeAt_keep (unhide HRL) (unhide HB)) Tryd.underlying24 rfl (by rw [List.length_map, (unhide HDL).len]; exact info32) ?_
  refine wpList_plain rfl fun Kt hKt => ?_
  go_simp
  refine hKt _ _ ?_
  clear hKt Kt
  generalize hX3 : World.alloc _ _ = W4
  have hB4 : Below W3.heap.size W3 W4 := hX3 ▸ (Below.refl _ _).alloc (Nat.le_refl _) _
  have ho4 : ByAt W4 W3.heap.size 24 zeros := newBy W3 W4 (by rw [← hX3]; rfl)
  rw [unhide HZ2] at ho4 ⊢
  refine wpList_bstore rfl 24 (.tmp 10) (.tmp 22) rfl (w.heap.size + 2) rfl (lastP p) rfl 32 info32 (unhide HDL).len _ zeros ho4 rfl ?_
  intro W5 HW5 HG5
  have hg5 := unhide HG5
  have HB5 := hide ((thenB (unhide HB) hB4).grown hg5 (thenB (unhide HB) hB4).size (fun i e => by injection e with e; omega))
  have HO15 := hide (((unhide HO1).keep hB4).grown hg5 (by omega))
  have HO25 := hide (((unhide HO2).keep hB4).grown hg5 (by omega))
  clear hX3 hB4 ho4 HO1 HO2 HB HG5 hg5
  obtain ⟨W, hW⟩ : ∃ W, W = W5.drewN 1 := ⟨_, rfl⟩
  have HW : Hid (W = W5.drewN 1) := hW
  have hSW : SB2 w d (lastP p) W := ⟨thenB (unhide HB5) (below_named HW), (unhide HO15).keep (below_named HW), (unhide HW5).keep (below_named HW)⟩
  have HOW := hide ((unhide HO25).keep (below_named HW))
  clear hW
  try simp only [List.getElem_toArray, List.getElem_cons_zero, List.getElem_cons_succ, Act.put, List.setIfInBounds_toArray, List.set_cons_zero, List.set_cons_succ]
  go_wp2_with fail
  refine held (S := SB2 w d (lastP p)) W HW (by kernel_rfl) ?_
  refine wpAnyH_take (i := 0) (v := .agg cl) rfl (by kernel_rfl) (by kernel_rfl) (by kernel_rfl) (fun _ _ _ h => h) (by rw [unhide HCL]; exact yieldsIf_load_mid (by kernel_rfl) 24 (.tmp 10) rfl (w.heap.size + 2) 0 rfl ((lastP p).map (Value.int .u8)) _ (fun W hS => hS.lst.range) Tryd.underlying24 rfl (by rw [List.length_map, (unhide HDL).len]; exact info32)) (by assumption) ?_
  try simp only [List.getElem_toArray, List.getElem_cons_zero, List.getElem_cons_succ, Act.put, List.setIfInBounds_toArray, List.set_cons_zero, List.set_cons_succ]
  refine wpAnyH_take (i := 1) (v := .agg cd) rfl (by kernel_rfl) (by kernel_rfl) (by kernel_rfl) (fun _ _ _ h => h) (by rw [unhide HCD]; exact yieldsIf_load_mid (by kernel_rfl) 24 (.tmp 4) rfl w.heap.size 0 rfl (d.map (Value.int .u8)) _ (fun W hS => hS.box.range) Tryd.underlying24 rfl (by rw [List.length_map, (unhide HD).len]; exact info32)) (by assumption) ?_
  try simp only [List.getElem_toArray, List.getElem_cons_zero, List.getElem_cons_succ, Act.put, List.setIfInBounds_toArray, List.set_cons_zero, List.set_cons_succ]
  refine wpAnyH_take (i := 2) (v := ?_) rfl (by kernel_rfl) (by kernel_rfl) (by kernel_rfl) (fun _ _ _ h => h) (Or.inl ⟨by kernel_rfl, ?_⟩) (by assumption) ?_
  rotate_left
  · intro Wt hSt
    go_simp
    try with_reducible rfl
  try simp only [List.getElem_toArray, List.getElem_cons_zero, List.getElem_cons_succ, Act.put, List.setIfInBounds_toArray, List.set_cons_zero, List.set_cons_succ]
  refine wpAnyH_take (i := 3) (v := ?_) rfl (by kernel_rfl) (by kernel_rfl) (by kernel_rfl) (fun _ _ _ h => h) (Or.inl ⟨by kernel_rfl, ?_⟩) (by assumption) ?_
  rotate_left
  · intro Wt hSt
    go_simp
    try with_reducible rfl
  try simp only [List.getElem_toArray, List.getElem_cons_zero, List.getElem_cons_succ, Act.put, List.setIfInBounds_toArray, List.set_cons_zero, List.set_cons_succ]
  refine wpAnyH_take (i := 4) (v := ?_) rfl (by kernel_rfl) (by kernel_rfl) (by kernel_rfl) (fun _ _ _ h => h) (Or.inl ⟨by kernel_rfl, ?_⟩) (by assumption) ?_
  rotate_left
  · intro Wt hSt
    go_simp
    try with_reducible rfl
  try simp only [List.getElem_toArray, List.getElem_cons_zero, List.getElem_cons_succ, Act.put, List.setIfInBounds_toArray, List.set_cons_zero, List.set_cons_succ]
  refine wpAnyH_take (i := 5) (v := ?_) rfl (by kernel_rfl) (by kernel_rfl) (by kernel_rfl) (fun _ _ _ h => h) (Or.inl ⟨by kernel_rfl, ?_⟩) (by assumption) ?_
  rotate_left
  · intro Wt hSt
    go_simp
    try with_reducible rfl
  try simp only [List.getElem_toArray, List.getElem_cons_zero, List.getElem_cons_succ, Act.put, List.setIfInBounds_toArray, List.set_cons_zero, List.set_cons_succ]
  refine wpAnyH_take (i := 6) (v := ?_) rfl (by kernel_rfl) (by kernel_rfl) (by kernel_rfl) (fun _ _ _ h => h) (Or.inl ⟨by kernel_rfl, ?_⟩) (by assumption) ?_
  rotate_left
  · intro Wt hSt
    go_simp
    try with_reducible rfl
  try simp only [List.getElem_toArray, List.getElem_cons_zero, List.getElem_cons_succ, Act.put, List.setIfInBounds_toArray, List.set_cons_zero, List.set_cons_succ]
  refine wpAnyH_take (i := 7) (v := ?_) rfl (by kernel_rfl) (by kernel_rfl) (by kernel_rfl) (fun _ _ _ h => h) (Or.inl ⟨by kernel_rfl, ?_⟩) (by assumption) ?_
  rotate_left
  · intro Wt hSt
    go_simp
    try with_reducible rfl
  try simp only [List.getElem_toArray, List.getElem_cons_zero, List.getElem_cons_succ, Act.put, List.setIfInBounds_toArray, List.set_cons_zero, List.set_cons_succ]
  refine wpAnyH_take (i := 8) (v := ?_) rfl (by kernel_rfl) (by kernel_rfl) (by kernel_rfl) (fun _ _ _ h => h) (Or.inl ⟨by kernel_rfl, ?_⟩) (by assumption) ?_
  rotate_left
  · intro Wt hSt
    go_simp
    try with_reducible rfl
  try simp only [List.getElem_toArray, List.getElem_cons_zero, List.getElem_cons_succ, Act.put, List.setIfInBounds_toArray, List.set_cons_zero, List.set_cons_succ]
  refine wpAnyH_take (i := 9) (v := ?_) rfl (by kernel_rfl) (by kernel_rfl) (by kernel_rfl) (fun _ _ _ h => h) (Or.inl ⟨by kernel_rfl, ?_⟩) (by assumption) ?_
  rotate_left
  · intro Wt hSt
    go_simp
    try with_reducible rfl
  try simp only [List.getElem_toArray, List.getElem_cons_zero, List.getElem_cons_succ, Act.put, List.setIfInBounds_toArray, List.set_cons_zero, List.set_cons_succ]
  refine wpAnyH_take (i := 10) (v := ?_) rfl (by kernel_rfl) (by kernel_rfl) (by kernel_rfl) (fun _ _ _ h => h) (Or.inl ⟨by kernel_rfl, ?_⟩) (by assumption) ?_
  rotate_left
  · intro Wt hSt
    go_simp
    try with_reducible rfl
  try simp only [List.getElem_toArray, List.getElem_cons_zero, List.getElem_cons_succ, Act.put, List.setIfInBounds_toArray, List.set_cons_zero, List.set_cons_succ]
  refine wpAnyH_take (i := 11) (v := ?_) rfl (by kernel_rfl) (by kernel_rfl) (by kernel_rfl) (fun _ _ _ h => h) (Or.inl ⟨by kernel_rfl, ?_⟩) (by assumption) ?_
  rotate_left
  · intro Wt hSt
    go_simp
    try with_reducible rfl
  try simp only [List.getElem_toArray, List.getElem_cons_zero, List.getElem_cons_succ, Act.put, List.setIfInBounds_toArray, List.set_cons_zero, List.set_cons_succ]
  refine wpAnyH_take (i := 12) (v := ?_) rfl (by kernel_rfl) (by kernel_rfl) (by kernel_rfl) (fun _ _ _ h => h) (Or.inl ⟨by kernel_rfl, ?_⟩) (by assumption) ?_
  rotate_left
  · intro Wt hSt
    go_simp
    try with_reducible rfl
  try simp only [List.getElem_toArray, List.getElem_cons_zero, List.getElem_cons_succ, Act.put, List.setIfInBounds_toArray, List.set_cons_zero, List.set_cons_succ]
  refine wpAnyH_chainOf [13, 14, 15] _ _ _ (by kernel_rfl) (by kernel_rfl) ?_
  simp only [List.filterMap_cons, List.filterMap_nil, List.getElem?_toArray, List.getElem?_cons_zero, List.getElem?_cons_succ]
  refine wpChain_step rfl fun K hK => ?_
  go_simp
  refine ((unhide HF1) _ hSW.lo).mono ?_; rintro x wA ⟨rfl, hA1⟩
  have hSA : SB2 w d (lastP p) wA := hSW.later hA1
  dsimp only
  refine hK _ _ hSA ?_
  clear hK K
  refine wpChain_step rfl fun K hK => ?_
  go_simp
  refine ((unhide HF2) _ hSA.lo).mono ?_; rintro x wB ⟨rfl, hA2⟩
  have hSB : SB2 w d (lastP p) wB := hSA.later hA2
  have hO := ((unhide HOW).keep hA1).keep hA2
  dsimp only
  refine hK _ _ hSB ?_
  clear hK K
  refine wpChain_bstore rfl 24 (.tmp 8) (.tmp 51) rfl (w.heap.size + 1) rfl (climbP d n at_ p) rfl 32 info32 (dg_climb _ _ _ _).len _ zeros hO rfl ?_
  intro W9 HW9 HG
  have hS9 := hSB.grown (unhide HG)
  refine ⟨hS9, wpChain_nil ?_⟩
  clear hO hSB hSA hA1 hA2
  have HS9 := hide hS9.lo
  clear hS9 hSW
  go_wp2_with fail
  try simp only [Exit.inBlock, Exit.then]
  exact bret rfl rfl (w.heap.size + 1) rfl _ _ (unhide HW9) (dg_climb _ _ _ _).len ⟨rfl, unhide HS9⟩
theorem rclimb_any (n : Nat) : n ≤ 1099511627776 → ∀ (at_ : Nat) (d : List Int) (p : List (List Int)) (w : World) (m c : Nat) (A : Option Addr), 1 ≤ n → at_ < n → p.length = m → m = lenP n at_ → m ≤ c → Dg d → Ds w A p → RClimbIs w d n at_ m c A p := by
  induction n using Nat.strongRecOn with
  | _ n IH =>
    intro hn at_ d p w m c A h1 hat hpm hm hmc hd hA
    have I := fun n' (hn' : n' < n) => IH n' hn' (by omega)
    by_cases h1n : n = 1
    · exact rclimb_one n h1n at_ d p w m c A hn h1 hat hpm hm hmc hd hA
    · by_cases hak : at_ < halfN n
      · exact rclimb_left n (by omega) I at_ d p w m c A hn h1 hat hpm hm hmc hd hA hak
      · exact rclimb_right n (by omega) I at_ d p w m c A hn h1 hat hpm hm hmc hd hA hak
end Go.Proofs.YtceppmajbkmbdaaDoor
namespace Go.Proofs.YtceppmajbkmbdaaDoor
set_option linter.unusedSimpArgs false
set_option linter.unusedVariables false
open Go.RowKit

set_option maxRecDepth 100000 in
set_option maxHeartbeats 4000000 in
theorem rclm_a (at_ n : Int) (h1 : n < 1) (d : List Int) (w : World) (m c : Nat) (A : Option Addr) (hd : Dg d) :
    Calls Tryd.prog 21 #[dv d, .int .i64 at_, .int .i64 n, .slice A m c] w fun x w' => x = .returned (.tuple #[dv zeros, .int .i64 1]) ∧ Below w.heap.size w w' := by
  have HD := hide hd
  obtain ⟨cd, hcd⟩ : ∃ cs, cs = (d.map (Value.int .u8)).toArray := ⟨_, rfl⟩
  have hsd : cd.size = 32 := by rw [hcd]; simpa using hd.len
  have HCD := hide hcd
  rw [show dv d = .agg cd by rw [hcd]]
  clear hd hcd
  go_enter Tryd.func21, Tryd.ntmps21
  go_upto_region 1 with fail
  generalize hX1 : w.alloc _ = W1
  have hB1 : Below w.heap.size w W1 := hX1 ▸ (Below.refl _ _).alloc (Nat.le_refl _) _
  have ho1 : ByAt W1 w.heap.size 24 d := boxed w W1 d _ (by rw [← hX1]; first | rfl | (rw [unhide HCD]; rfl))
  have hz1 : W1.heap.size = w.heap.size + 1 := by rw [← hX1]; show (w.heap.push _).size = _; rw [Array.size_push]
  generalize hX2 : W1.alloc _ = W2
  have hB2 : Below W1.heap.size W1 W2 := hX2 ▸ (Below.refl _ _).alloc (Nat.le_refl _) _
  have ho2 : ByAt W2 W1.heap.size 24 zeros := newBy W1 W2 (by rw [← hX2]; rfl)
  rw [hz1] at ho2
  have HB := hide (thenB hB1 hB2)
  have HO1 := hide (ho1.keep hB2)
  have HO2 := hide ho2
  clear hX1 hX2 hB1 hB2 ho1 ho2 hz1
  go_upto_region 2 with fail
  refine wp_region_lit ?_
  refine wpList_build0 rfl 24 rfl (dv zeros) (build_zero _) ?_
  refine wpList_bstore rfl 24 (.tmp 8) (.tmp 33) rfl (w.heap.size + 1) rfl zeros rfl 32 info32 rfl _ zeros (unhide HO2) rfl ?_
  intro W9 HW9 HG
  go_wp2_with fail
  try simp only [Exit.inBlock, Exit.then]
  exact bret2 rfl rfl (w.heap.size + 1) rfl _ _ (unhide HW9) rfl _ rfl ⟨rfl, (unhide HB).grown (unhide HG) (unhide HB).size (fun i e => by injection e with e; omega)⟩
set_option maxRecDepth 100000 in
set_option maxHeartbeats 4000000 in
theorem rclm_b (at_ n : Int) (h1 : ¬ n < 1) (h2 : 1099511627776 < n) (d : List Int) (w : World) (m c : Nat) (A : Option Addr) (hd : Dg d) :
    Calls Tryd.prog 21 #[dv d, .int .i64 at_, .int .i64 n, .slice A m c] w fun x w' => x = .returned (.tuple #[dv zeros, .int .i64 1]) ∧ Below w.heap.size w w' := by
  have HD := hide hd
  obtain ⟨cd, hcd⟩ : ∃ cs, cs = (d.map (Value.int .u8)).toArray := ⟨_, rfl⟩
  have hsd : cd.size = 32 := by rw [hcd]; simpa using hd.len
  have HCD := hide hcd
  rw [show dv d = .agg cd by rw [hcd]]
  clear hd hcd
  go_enter Tryd.func21, Tryd.ntmps21
  go_upto_region 1 with fail
  generalize hX1 : w.alloc _ = W1
  have hB1 : Below w.heap.size w W1 := hX1 ▸ (Below.refl _ _).alloc (Nat.le_refl _) _
  have ho1 : ByAt W1 w.heap.size 24 d := boxed w W1 d _ (by rw [← hX1]; first | rfl | (rw [unhide HCD]; rfl))
  have hz1 : W1.heap.size = w.heap.size + 1 := by rw [← hX1]; show (w.heap.push _).size = _; rw [Array.size_push]
  generalize hX2 : W1.alloc _ = W2
  have hB2 : Below W1.heap.size W1 W2 := hX2 ▸ (Below.refl _ _).alloc (Nat.le_refl _) _
  have ho2 : ByAt W2 W1.heap.size 24 zeros := newBy W1 W2 (by rw [← hX2]; rfl)
  rw [hz1] at ho2
  have HB := hide (thenB hB1 hB2)
  have HO1 := hide (ho1.keep hB2)
  have HO2 := hide ho2
  clear hX1 hX2 hB1 hB2 ho1 ho2 hz1
  go_upto_region 2 with fail
  refine wp_region_lit ?_
  refine wpList_build0 rfl 24 rfl (dv zeros) (build_zero _) ?_
  refine wpList_bstore rfl 24 (.tmp 8) (.tmp 33) rfl (w.heap.size + 1) rfl zeros rfl 32 info32 rfl _ zeros (unhide HO2) rfl ?_
  intro W9 HW9 HG
  go_wp2_with fail
  try simp only [Exit.inBlock, Exit.then]
  exact bret2 rfl rfl (w.heap.size + 1) rfl _ _ (unhide HW9) rfl _ rfl ⟨rfl, (unhide HB).grown (unhide HG) (unhide HB).size (fun i e => by injection e with e; omega)⟩
set_option maxRecDepth 100000 in
set_option maxHeartbeats 4000000 in
theorem rclm_c (at_ n : Int) (h1 : ¬ n < 1) (h2 : ¬ 1099511627776 < n) (h3 : at_ < 0) (d : List Int) (w : World) (m c : Nat) (A : Option Addr) (hd : Dg d) :
    Calls Tryd.prog 21 #[dv d, .int .i64 at_, .int .i64 n, .slice A m c] w fun x w' => x = .returned (.tuple #[dv zeros, .int .i64 1]) ∧ Below w.heap.size w w' := by
  have HD := hide hd
  obtain ⟨cd, hcd⟩ : ∃ cs, cs = (d.map (Value.int .u8)).toArray := ⟨_, rfl⟩
  have hsd : cd.size = 32 := by rw [hcd]; simpa using hd.len
  have HCD := hide hcd
  rw [show dv d = .agg cd by rw [hcd]]
  clear hd hcd
  go_enter Tryd.func21, Tryd.ntmps21
  go_upto_region 1 with fail
  generalize hX1 : w.alloc _ = W1
  have hB1 : Below w.heap.size w W1 := hX1 ▸ (Below.refl _ _).alloc (Nat.le_refl _) _
  have ho1 : ByAt W1 w.heap.size 24 d := boxed w W1 d _ (by rw [← hX1]; first | rfl | (rw [unhide HCD]; rfl))
  have hz1 : W1.heap.size = w.heap.size + 1 := by rw [← hX1]; show (w.heap.push _).size = _; rw [Array.size_push]
  generalize hX2 : W1.alloc _ = W2
  have hB2 : Below W1.heap.size W1 W2 := hX2 ▸ (Below.refl _ _).alloc (Nat.le_refl _) _
  have ho2 : ByAt W2 W1.heap.size 24 zeros := newBy W1 W2 (by rw [← hX2]; rfl)
  rw [hz1] at ho2
  have HB := hide (thenB hB1 hB2)
  have HO1 := hide (ho1.keep hB2)
  have HO2 := hide ho2
  clear hX1 hX2 hB1 hB2 ho1 ho2 hz1
  go_upto_region 2 with fail
  refine wp_region_lit ?_
  refine wpList_build0 rfl 24 rfl (dv zeros) (build_zero _) ?_
  refine wpList_bstore rfl 24 (.tmp 8) (.tmp 33) rfl (w.heap.size + 1) rfl zeros rfl 32 info32 rfl _ zeros (unhide HO2) rfl ?_
  intro W9 HW9 HG
  go_wp2_with fail
  try simp only [Exit.inBlock, Exit.then]
  exact bret2 rfl rfl (w.heap.size + 1) rfl _ _ (unhide HW9) rfl _ rfl ⟨rfl, (unhide HB).grown (unhide HG) (unhide HB).size (fun i e => by injection e with e; omega)⟩
set_option maxRecDepth 100000 in
set_option maxHeartbeats 4000000 in
theorem rclm_d (at_ n : Int) (h1 : ¬ n < 1) (h2 : ¬ 1099511627776 < n) (h3 : ¬ at_ < 0) (h4 : n ≤ at_) (d : List Int) (w : World) (m c : Nat) (A : Option Addr) (hd : Dg d) :
    Calls Tryd.prog 21 #[dv d, .int .i64 at_, .int .i64 n, .slice A m c] w fun x w' => x = .returned (.tuple #[dv zeros, .int .i64 1]) ∧ Below w.heap.size w w' := by
  have HD := hide hd
  obtain ⟨cd, hcd⟩ : ∃ cs, cs = (d.map (Value.int .u8)).toArray := ⟨_, rfl⟩
  have hsd : cd.size = 32 := by rw [hcd]; simpa using hd.len
  have HCD := hide hcd
  rw [show dv d = .agg cd by rw [hcd]]
  clear hd hcd
  go_enter Tryd.func21, Tryd.ntmps21
  go_upto_region 1 with fail
  generalize hX1 : w.alloc _ = W1
  have hB1 : Below w.heap.size w W1 := hX1 ▸ (Below.refl _ _).alloc (Nat.le_refl _) _
  have ho1 : ByAt W1 w.heap.size 24 d := boxed w W1 d _ (by rw [← hX1]; first | rfl | (rw [unhide HCD]; rfl))
  have hz1 : W1.heap.size = w.heap.size + 1 := by rw [← hX1]; show (w.heap.push _).size = _; rw [Array.size_push]
  generalize hX2 : W1.alloc _ = W2
  have hB2 : Below W1.heap.size W1 W2 := hX2 ▸ (Below.refl _ _).alloc (Nat.le_refl _) _
  have ho2 : ByAt W2 W1.heap.size 24 zeros := newBy W1 W2 (by rw [← hX2]; rfl)
  rw [hz1] at ho2
  have HB := hide (thenB hB1 hB2)
  have HO1 := hide (ho1.keep hB2)
  have HO2 := hide ho2
  clear hX1 hX2 hB1 hB2 ho1 ho2 hz1
  go_upto_region 2 with fail
  refine wp_region_lit ?_
  refine wpList_build0 rfl 24 rfl (dv zeros) (build_zero _) ?_
  refine wpList_bstore rfl 24 (.tmp 8) (.tmp 33) rfl (w.heap.size + 1) rfl zeros rfl 32 info32 rfl _ zeros (unhide HO2) rfl ?_
  intro W9 HW9 HG
  go_wp2_with fail
  try simp only [Exit.inBlock, Exit.then]
  exact bret2 rfl rfl (w.heap.size + 1) rfl _ _ (unhide HW9) rfl _ rfl ⟨rfl, (unhide HB).grown (unhide HG) (unhide HB).size (fun i e => by injection e with e; omega)⟩
set_option maxRecDepth 100000 in
set_option maxHeartbeats 4000000 in
theorem rclm_e (at_ n : Nat) (hn : n ≤ 1099511627776) (h1 : 1 ≤ n) (hat : at_ < n) (d : List Int) (w : World) (m c : Nat) (A : Option Addr) (hm : m ≠ lenP n at_) (hd : Dg d) :
    Calls Tryd.prog 21 #[dv d, .int .i64 (at_ : Int), .int .i64 (n : Int), .slice A m c] w fun x w' => x = .returned (.tuple #[dv zeros, .int .i64 1]) ∧ Below w.heap.size w w' := by
  have n1 : ¬ (n : Int) < 1 := by omega
  have n2 : ¬ (1099511627776 : Int) < (n : Int) := by omega
  have n3 : ¬ (at_ : Int) < 0 := by omega
  have n4 : ¬ (n : Int) ≤ (at_ : Int) := by omega
  have HN : Hid (n ≤ 1099511627776 ∧ 1 ≤ n ∧ at_ < n) := ⟨hn, h1, hat⟩
  obtain ⟨T, hTl⟩ : ∃ T, T = lenP n at_ := ⟨_, rfl⟩
  have n5 : ¬ (m : Int) = (T : Int) := by omega
  have HTL := hide hTl
  clear hn h1 hat hTl hm
  have HD := hide hd
  obtain ⟨cd, hcd⟩ : ∃ cs, cs = (d.map (Value.int .u8)).toArray := ⟨_, rfl⟩
  have hsd : cd.size = 32 := by rw [hcd]; simpa using hd.len
  have HCD := hide hcd
  rw [show dv d = .agg cd by rw [hcd]]
  clear hd hcd
  go_enter Tryd.func21, Tryd.ntmps21
  go_upto_region 1 with fail
  generalize hX1 : w.alloc _ = W1
  have hB1 : Below w.heap.size w W1 := hX1 ▸ (Below.refl _ _).alloc (Nat.le_refl _) _
  have ho1 : ByAt W1 w.heap.size 24 d := boxed w W1 d _ (by rw [← hX1]; first | rfl | (rw [unhide HCD]; rfl))
  have hz1 : W1.heap.size = w.heap.size + 1 := by rw [← hX1]; show (w.heap.push _).size = _; rw [Array.size_push]
  generalize hX2 : W1.alloc _ = W2
  have hB2 : Below W1.heap.size W1 W2 := hX2 ▸ (Below.refl _ _).alloc (Nat.le_refl _) _
  have ho2 : ByAt W2 W1.heap.size 24 zeros := newBy W1 W2 (by rw [← hX2]; rfl)
  rw [hz1] at ho2
  have HB := hide (thenB hB1 hB2)
  have HO1 := hide (ho1.keep hB2)
  have HO2 := hide ho2
  clear hX1 hX2 hB1 hB2 ho1 ho2 hz1
  go_wp2_with fail
  refine (rlen_any n at_ (unhide HN).2.1 (unhide HN).1 (unhide HN).2.2 W2).mono ?_; rintro x W3 ⟨rfl, rfl⟩
  rw [← unhide HTL]
  go_upto_region 2 with fail
  refine wp_region_lit ?_
  refine wpList_build0 rfl 24 rfl (dv zeros) (build_zero _) ?_
  refine wpList_bstore rfl 24 (.tmp 8) (.tmp 33) rfl (w.heap.size + 1) rfl zeros rfl 32 info32 rfl _ zeros (unhide HO2) rfl ?_
  intro W9 HW9 HG
  go_wp2_with fail
  try simp only [Exit.inBlock, Exit.then]
  exact bret2 rfl rfl (w.heap.size + 1) rfl _ _ (unhide HW9) rfl _ rfl ⟨rfl, (unhide HB).grown (unhide HG) (unhide HB).size (fun i e => by injection e with e; omega)⟩
set_option maxRecDepth 100000 in
set_option maxHeartbeats 4000000 in
theorem rClimb_ok (at_ n : Nat) (hn : n ≤ 1099511627776) (h1 : 1 ≤ n) (hat : at_ < n) (p : List (List Int)) (hpm : p.length = lenP n at_) (d : List Int) (w : World) (m c : Nat) (A : Option Addr) (hm : m = p.length) (hd : Dg d) (hmc : m ≤ c) (hA : Ds w A p) :
    Calls Tryd.prog 21 #[dv d, .int .i64 (at_ : Int), .int .i64 (n : Int), .slice A m c] w fun x w' => x = .returned (.tuple #[dv (climbP d n at_ p), .int .i64 0]) ∧ Below w.heap.size w w' := by
  have n1 : ¬ (n : Int) < 1 := by omega
  have n2 : ¬ (1099511627776 : Int) < (n : Int) := by omega
  have n3 : ¬ (at_ : Int) < 0 := by omega
  have n4 : ¬ (n : Int) ≤ (at_ : Int) := by omega
  have HN : Hid (n ≤ 1099511627776 ∧ 1 ≤ n ∧ at_ < n) := ⟨hn, h1, hat⟩
  obtain ⟨T, hTl⟩ : ∃ T, T = lenP n at_ := ⟨_, rfl⟩
  have n5 : (m : Int) = (T : Int) := by omega
  have HTL := hide hTl
  have HF : Hid (∀ W, Below w.heap.size w W → RClimbIs W d n at_ m c A p) := fun W hB => rclimb_any n hn at_ d p W m c A h1 hat hm.symm (hm.trans hpm) hmc hd (hA.keep hB)
  clear hn h1 hat hTl hm hpm hmc hA
  have HD := hide hd
  obtain ⟨cd, hcd⟩ : ∃ cs, cs = (d.map (Value.int .u8)).toArray := ⟨_, rfl⟩
  have hsd : cd.size = 32 := by rw [hcd]; simpa using hd.len
  have HCD := hide hcd
  rw [show dv d = .agg cd by rw [hcd]]
  clear hd hcd
  go_enter Tryd.func21, Tryd.ntmps21
  go_upto_region 1 with fail
  generalize hX1 : w.alloc _ = W1
  have hB1 : Below w.heap.size w W1 := hX1 ▸ (Below.refl _ _).alloc (Nat.le_refl _) _
  have ho1 : ByAt W1 w.heap.size 24 d := boxed w W1 d _ (by rw [← hX1]; first | rfl | (rw [unhide HCD]; rfl))
  have hz1 : W1.heap.size = w.heap.size + 1 := by rw [← hX1]; show (w.heap.push _).size = _; rw [Array.size_push]
  generalize hX2 : W1.alloc _ = W2
  have hB2 : Below W1.heap.size W1 W2 := hX2 ▸ (Below.refl _ _).alloc (Nat.le_refl _) _
  have ho2 : ByAt W2 W1.heap.size 24 zeros := newBy W1 W2 (by rw [← hX2]; rfl)
  rw [hz1] at ho2
  have HB := hide (thenB hB1 hB2)
  have HO1 := hide (ho1.keep hB2)
  have HO2 := hide ho2
  clear hX1 hX2 hB1 hB2 ho1 ho2 hz1
  go_wp2_with fail
  refine (rlen_any n at_ (unhide HN).2.1 (unhide HN).1 (unhide HN).2.2 W2).mono ?_; rintro x W3 ⟨rfl, rfl⟩
  rw [← unhide HTL]
  go_upto_region 3 with fail
  refine wp_region_lit ?_
  refine wpList_bload rfl 24 (.tmp 4) rfl w.heap.size rfl _ Tryd.underlying24 rfl 32 info32 _ d (unhide HO1) (unhide HD).len ?_
  rw [show dv d = .agg cd by rw [unhide HCD]]
  go_wp2_with fail
  have hcl := (unhide HF) W3 (unhide HB)
  unfold RClimbIs at hcl
  rw [show dv d = .agg cd by rw [unhide HCD]] at hcl
  refine hcl.mono ?_; rintro x W7 ⟨rfl, hB7⟩
  have HB7 := hide (thenB (unhide HB) hB7)
  have HR7 := hide ((unhide HO2).keep hB7)
  clear hB7 hcl
  dsimp only
  rename_i KK hK
  refine hK _ _ ?_
  clear hK KK
  refine wpList_bstore rfl 24 (.tmp 8) (.tmp 38) rfl (w.heap.size + 1) rfl (climbP d n at_ p) rfl 32 info32 (dg_climb _ _ _ _).len _ zeros (unhide HR7) rfl ?_
  intro W9 HW9 HG
  go_wp2_with fail
  try simp only [Exit.inBlock, Exit.then]
  exact bret2 rfl rfl (w.heap.size + 1) rfl _ _ (unhide HW9) (dg_climb _ _ _ _).len _ rfl ⟨rfl, (unhide HB7).grown (unhide HG) (unhide HB7).size (fun i e => by injection e with e; omega)⟩
theorem rClimb_bad (at_ n : Int) (m : Nat) (h : ¬ (1 ≤ n ∧ n ≤ 1099511627776 ∧ 0 ≤ at_ ∧ at_ < n ∧ m = lenP n.toNat at_.toNat)) (d : List Int) (w : World) (c : Nat) (A : Option Addr) (hd : Dg d) :
    Calls Tryd.prog 21 #[dv d, .int .i64 at_, .int .i64 n, .slice A m c] w fun x w' => x = .returned (.tuple #[dv zeros, .int .i64 1]) ∧ Below w.heap.size w w' := by
  by_cases h1 : n < 1
  · exact rclm_a at_ n h1 d w m c A hd
  by_cases h2 : 1099511627776 < n
  · exact rclm_b at_ n h1 h2 d w m c A hd
  by_cases h3 : at_ < 0
  · exact rclm_c at_ n h1 h2 h3 d w m c A hd
  by_cases h4 : n ≤ at_
  · exact rclm_d at_ n h1 h2 h3 h4 d w m c A hd
  have := rclm_e at_.toNat n.toNat (by omega) (by omega) (by omega) d w m c A (fun e => h ⟨by omega, by omega, by omega, by omega, e⟩) hd
  rwa [Int.toNat_of_nonneg (by omega), Int.toNat_of_nonneg (by omega)] at this
end Go.Proofs.YtceppmajbkmbdaaDoor
namespace Go.Proofs.YtceppmajbkmbdaaDoor
set_option linter.unusedSimpArgs false
set_option linter.unusedVariables false
open Go.RowKit

def climbOk (at_ n : Int) (m : Nat) : Prop := 1 ≤ n ∧ n ≤ 1099511627776 ∧ 0 ≤ at_ ∧ at_ < n ∧ m = lenP n.toNat at_.toNat
instance (at_ n : Int) (m : Nat) : Decidable (climbOk at_ n m) := by unfold climbOk; infer_instance
def cerr (at_ n : Int) (m : Nat) : Int := if climbOk at_ n m then 0 else 1
def climbI (d : List Int) (at_ n : Int) (p : List (List Int)) : List Int := if climbOk at_ n p.length then climbP d n.toNat at_.toNat p else zeros
theorem climbI_len (d : List Int) (at_ n : Int) (p : List (List Int)) : (climbI d at_ n p).length = 32 := by
  unfold climbI
  split
  · exact (dg_climb _ _ _ _).len
  · rfl
abbrev ClimbC (F : FuncId) (d : List Int) (at_ n : Int) (p : List (List Int)) (A : Option Addr) (c : Nat) (w : World) : Prop :=
  Calls Tryd.prog F #[dv d, .int .i64 at_, .int .i64 n, .slice A p.length c] w fun x w' => x = .returned (.tuple #[dv (climbI d at_ n p), .int .i64 (cerr at_ n p.length)]) ∧ Below w.heap.size w w'
theorem Climb_all (d : List Int) (hd : Dg d) (at_ n : Int) (p : List (List Int)) (A : Option Addr) (c : Nat) (w : World) (hA : Ds w A p) (hc : p.length ≤ c) (hT : DTab w) : ClimbC 20 d at_ n p A c w := by
  unfold ClimbC cerr climbI
  by_cases h : climbOk at_ n p.length
  · rw [if_pos h, if_pos h]
    obtain ⟨h1, h2, h3, h4, h5⟩ := h
    obtain ⟨k, rfl⟩ : ∃ k : Nat, n = k := ⟨n.toNat, by omega⟩
    obtain ⟨a, rfl⟩ : ∃ a : Nat, at_ = a := ⟨at_.toNat, by omega⟩
    rw [Int.toNat_natCast, Int.toNat_natCast] at h5 ⊢
    exact Climb_ok a k (by omega) (by omega) (by omega) p h5 d w p.length c A rfl hd hT hc hA fun W hb hh ht hds => climb_any k (by omega) a d p W hb p.length c A (by omega) (by omega) rfl h5 hc hd hds hh ht
  · rw [if_neg h, if_neg h]
    exact Climb_bad at_ n p.length h d w c A hd hT
theorem rClimb_all (d : List Int) (hd : Dg d) (at_ n : Int) (p : List (List Int)) (A : Option Addr) (c : Nat) (w : World) (hA : Ds w A p) (hc : p.length ≤ c) : ClimbC 21 d at_ n p A c w := by
  unfold ClimbC cerr climbI
  by_cases h : climbOk at_ n p.length
  · rw [if_pos h, if_pos h]
    obtain ⟨h1, h2, h3, h4, h5⟩ := h
    obtain ⟨k, rfl⟩ : ∃ k : Nat, n = k := ⟨n.toNat, by omega⟩
    obtain ⟨a, rfl⟩ : ∃ a : Nat, at_ = a := ⟨at_.toNat, by omega⟩
    rw [Int.toNat_natCast, Int.toNat_natCast] at h5 ⊢
    exact rClimb_ok a k (by omega) (by omega) (by omega) p h5 d w p.length c A rfl hd hc hA
  · rw [if_neg h, if_neg h]
    exact rClimb_bad at_ n p.length h d w c A hd
end Go.Proofs.YtceppmajbkmbdaaDoor
namespace Go.Proofs.YtceppmajbkmbdaaDoor
set_option linter.unusedSimpArgs false
set_option linter.unusedVariables false
open Go.RowKit

set_option maxRecDepth 100000 in
set_option maxHeartbeats 4000000 in
theorem rvalid_any (w : World) (A : Option Addr) (n c : Nat) (m u : Int) :
    Calls Tryd.prog 34 #[.agg #[.slice A n c, .int .i64 m, .int .i64 u]] w fun x w' => x = .returned (.bool (keyOk n m u)) ∧ Below w.heap.size w w' := by
  have hb1 := fun o => Below.alloc (Below.refl w.heap.size w) (Nat.le_refl _) o
  have HB := hide hb1
  clear hb1
  by_cases h0 : 1 ≤ (n : Int)
  case neg =>
    have e : keyOk n m u = false := by unfold keyOk; simp; omega
    rw [e]; clear e
    go_enter Tryd.func34, Tryd.ntmps34
    go_wp2_with fail
    go_ret
    exact ⟨rfl, unhide HB _⟩
  by_cases h1 : (n : Int) ≤ 64
  case neg =>
    have e : keyOk n m u = false := by unfold keyOk; simp; omega
    rw [e]; clear e
    go_enter Tryd.func34, Tryd.ntmps34
    go_wp2_with fail
    go_ret
    exact ⟨rfl, unhide HB _⟩
  by_cases h2 : 1 ≤ m
  case neg =>
    have e : keyOk n m u = false := by unfold keyOk; simp; omega
    rw [e]; clear e
    go_enter Tryd.func34, Tryd.ntmps34
    go_wp2_with fail
    go_ret
    exact ⟨rfl, unhide HB _⟩
  by_cases h3 : m ≤ 4096
  case neg =>
    have e : keyOk n m u = false := by unfold keyOk; simp; omega
    rw [e]; clear e
    go_enter Tryd.func34, Tryd.ntmps34
    go_wp2_with fail
    go_ret
    exact ⟨rfl, unhide HB _⟩
  by_cases h4 : 0 ≤ u
  case neg =>
    have e : keyOk n m u = false := by unfold keyOk; simp; omega
    rw [e]; clear e
    go_enter Tryd.func34, Tryd.ntmps34
    go_wp2_with fail
    go_ret
    exact ⟨rfl, unhide HB _⟩
  by_cases h5 : u ≤ m
  case neg =>
    have e : keyOk n m u = false := by unfold keyOk; simp; omega
    rw [e]; clear e
    go_enter Tryd.func34, Tryd.ntmps34
    go_wp2_with fail
    go_ret
    exact ⟨rfl, unhide HB _⟩
  have e : keyOk n m u = true := by unfold keyOk; simp; omega
  rw [e]; clear e
  go_enter Tryd.func34, Tryd.ntmps34
  go_wp2_with fail
  go_ret
  exact ⟨rfl, unhide HB _⟩

set_option maxRecDepth 100000 in
set_option maxHeartbeats 4000000 in
theorem rhash_any (w : World) (d : List Int) (hd : Dg d) :
    Calls Tryd.prog 78 #[dv d] w fun x w' => x = .returned (dv (opnS d)) ∧ Below w.heap.size w w' := by
  have HD := hide hd
  have hld := hd.len
  obtain ⟨cd, hcd⟩ : ∃ cs, cs = (d.map (Value.int .u8)).toArray := ⟨_, rfl⟩
  have hsd : cd.size = 32 := by rw [hcd]; simpa using hld
  rw [show dv d = .agg cd by rw [hcd]]
  clear hd hld
  go_enter Tryd.func78, Tryd.ntmps78
  go_upto_region 1 with fail
  generalize hX1 : w.alloc _ = W1
  have hB1 : Below w.heap.size w W1 := hX1 ▸ (Below.refl _ _).alloc (Nat.le_refl _) _
  have ho1 : ByAt W1 w.heap.size 24 d := boxed w W1 d _ (by rw [← hX1]; first | rfl | (rw [hcd]; rfl))
  have hz1 : W1.heap.size = w.heap.size + 1 := by rw [← hX1]; show (w.heap.push _).size = _; rw [Array.size_push]
  generalize hX2 : W1.alloc _ = W2
  have hB2 : Below W1.heap.size W1 W2 := hX2 ▸ (Below.refl _ _).alloc (Nat.le_refl _) _
  have ho2 : ByAt W2 W1.heap.size 24 zeros := newBy W1 W2 (by rw [← hX2]; rfl)
  rw [hz1] at ho2
  have HB := hide (thenB hB1 hB2)
  have HK1 := hide (ho1.keep hB2)
  have HK2 := hide ho2
  clear hX1 hB1 ho1 hz1 hX2 hB2 ho2 hcd
  have hsm := rtag_any W2 ⟨#[111, 112, 101, 110]⟩ (some ⟨w.heap.size, 0, none⟩) 32 d ((unhide HK1).bt (unhide HD)) (Nat.le_of_eq (unhide HD).len) (fun h => by cases h) (by rw [(unhide HD).len]; omega) (by decide)
  rw [show sb ⟨#[111, 112, 101, 110]⟩ = OPNB by decide, show tagF OPNB d = opnS d from rfl, (unhide HD).len] at hsm
  have HSM := hide hsm
  clear hsm
  go_wp2_with fail
  refine (unhide HSM).mono ?_; rintro x W3 ⟨rfl, hB3⟩
  have HB3 := hide (thenB (unhide HB) hB3)
  have HO3 := hide ((unhide HK2).keep hB3)
  clear hB3 HSM
  dsimp only
  rename_i KK hK
  refine hK _ _ ?_
  clear hK KK
  refine wpList_bstore rfl 24 (.tmp 2) (.tmp 4) rfl (w.heap.size + 1) rfl (opnS d) rfl 32 info32 (dg_opnS _).len _ zeros (unhide HO3) rfl ?_
  intro W9 HW9 HG
  go_wp2_with fail
  try simp only [Exit.inBlock, Exit.then]
  exact bret rfl rfl (w.heap.size + 1) rfl _ _ (unhide HW9) (dg_opnS _).len ⟨rfl, (unhide HB3).grown (unhide HG) (unhide HB3).size (fun i e => by injection e with e; omega)⟩

set_option maxRecDepth 100000 in
set_option maxHeartbeats 4000000 in
theorem rtwo_any (i : Nat) (h : i < 65536) (w : World) :
    Calls Tryd.prog 69 #[.int .i64 (i : Int)] w fun x w' => (∃ A c, x = .returned (.slice A 2 c) ∧ 2 ≤ c ∧ Bt w' A (twoB i) ∧ (A = none → c = 0)) ∧ Below w.heap.size w w' := by
  have e1 := two_hi i h
  have e2 := two_lo i
  have H : Hid (i < 65536) := h
  clear h
  go_enter Tryd.func69, Tryd.ntmps69
  go_wp2_with fail
  go_ret
  exact ⟨⟨_, _, rfl, Nat.le_refl _, lit2 w _ _ _ _ _ rfl ⟨by omega, by omega⟩ ⟨by omega, by omega⟩, by simp⟩, (Below.refl _ _).alloc (Nat.le_refl _) _⟩

set_option maxRecDepth 100000 in
set_option maxHeartbeats 4000000 in
theorem rsecret_any (w : World) (A : Option Addr) (n c : Nat) (seed : List Int) (hn : n = seed.length) (h64 : n ≤ 1000) (hc : n ≤ c) (hA : Bt w A seed) (hA0 : A = none → c = 0) (m u : Int) (i : Nat) (hi : i < 65536) (j b : Nat) (hj : j < 256) (hb : b < 256) :
    Calls Tryd.prog 77 #[.agg #[.slice A n c, .int .i64 m, .int .i64 u], .int .i64 (i : Int), .int .i64 (j : Int), .int .i64 (b : Int)] w fun x w' => x = .returned (dv (secS (begS seed i) j b)) ∧ Below w.heap.size w w' := by
  have HA := hide hA
  have HN : Hid (n = seed.length ∧ n ≤ 1000 ∧ n ≤ c ∧ (A = none → c = 0) ∧ i < 65536 ∧ j < 256 ∧ b < 256) := ⟨hn, h64, hc, hA0, hi, hj, hb⟩
  have wj : IntKind.u8.wrap (j : Int) = (j : Int) := IntWalk.u8_in _ (by omega)
  have wb : IntKind.u8.wrap (b : Int) = (b : Int) := IntWalk.u8_in _ (by omega)
  clear hA hn h64 hc hA0 hi hj hb
  go_enter Tryd.func77, Tryd.ntmps77
  go_upto_region 1 with fail
  generalize hX1 : w.alloc _ = W1
  have hB1 : Below w.heap.size w W1 := hX1 ▸ (Below.refl _ _).alloc (Nat.le_refl _) _
  have ho1 : VsAt W1 w.heap.size 40 [.slice A n c, .int .i64 m, .int .i64 u] := boxedV w W1 _ _ (by rw [← hX1]; rfl)
  have hz1 : W1.heap.size = w.heap.size + 1 := by rw [← hX1]; show (w.heap.push _).size = _; rw [Array.size_push]
  generalize hX2 : W1.alloc _ = W2
  have hB2 : Below W1.heap.size W1 W2 := hX2 ▸ (Below.refl _ _).alloc (Nat.le_refl _) _
  have ho2 : ByAt W2 W1.heap.size 24 zeros := newBy W1 W2 (by rw [← hX2]; rfl)
  rw [hz1] at ho2
  have hv := ho1.keep hB2
  have HB := hide (thenB hB1 hB2)
  have HK2 := hide ho2
  have HZ : Hid (w.heap.size + 2 ≤ W2.heap.size) := by have := hB2.size; have h2 := lt_of_block ho2; show _ ≤ _; omega
  clear hX1 hB1 ho1 hz1 hX2 hB2 ho2
  refine wp_region_lit ?_
  refine wpList_plain rfl fun Kt hKt => ?_
  go_simp
  refine hKt _ _ ?_
  clear hKt Kt
  generalize hX : W2.alloc _ = V1
  have hv1 : Below W2.heap.size W2 V1 := hX ▸ (Below.refl _ _).alloc (Nat.le_refl _) _
  have hown1 : OwnB V1 W2.heap.size (.slice (some ⟨W2.heap.size, 0, none⟩) 0 0) [] := hX ▸ World.ownsRow_lit W2 #[] 0 (Nat.le_refl _) (Nat.zero_le _) rfl
  clear hX
  have hcv : V1.cell? ⟨w.heap.size, 0, none⟩ = some (.slice A n c) := (hv.keep hv1).cell rfl
  refine wpList_plain rfl fun Kt hKt => ?_
  go_simp
  refine hKt _ _ ?_
  clear hKt Kt
  refine wpList_plain rfl fun Kt hKt => ?_
  go_simp
  refine hKt _ _ ?_
  clear hKt Kt
  refine wpList_plain rfl fun Kt hKt => ?_
  obtain ⟨v2, V2, hr2, hown2, hg2⟩ := run_append_B hown1 22 A c (((unhide HA).keep (unhide HB)).keep hv1) (unhide HN).2.2.2.1 (by have := unhide HN; rw [List.length_nil]; omega) hv1.size
  rw [← (unhide HN).1] at hr2
  have hv2 := grown_below hv1 hg2 (fun k hk => (hown1.lt k hk).1)
  refine wp_append (.tmp 10) (.tmp 12) 22 rfl _ _ v2 V2 rfl rfl hr2 ?_
  refine hKt _ _ ?_
  clear hKt Kt hr2 hown1 hg2 hv1 hcv hv
  try simp only [List.getElem_toArray, List.getElem_cons_zero, List.getElem_cons_succ, Act.put, List.setIfInBounds_toArray, List.set_cons_zero, List.set_cons_succ]
  refine wpList_plain rfl fun Kt hKt => ?_
  go_simp
  refine hKt _ _ ?_
  clear hKt Kt
  refine wpList_plain rfl fun Kt hKt => ?_
  go_simp
  refine (rtwo_any i (unhide HN).2.2.2.2.1 V2).mono ?_; rintro x V3 ⟨⟨A3, c3, rfl, hc3, hbt3, hn3⟩, hb3⟩
  dsimp only
  refine hKt _ _ ?_
  clear hKt Kt
  try simp only [List.getElem_toArray, List.getElem_cons_zero, List.getElem_cons_succ, Act.put, List.setIfInBounds_toArray, List.set_cons_zero, List.set_cons_succ]
  refine wpList_plain rfl fun Kt hKt => ?_
  obtain ⟨v4, V4, hr4, hown4, hg4⟩ := run_append_B (hown2.later hb3) 22 A3 c3 hbt3 hn3 (by have := unhide HN; rw [List.nil_append, twoB_length]; omega) (Nat.le_trans hv2.size hb3.size)
  rw [twoB_length] at hr4
  have hv4 := grown_below (thenB hv2 hb3) hg4 (fun k hk => (hown2.lt k hk).1)
  refine wp_append (.tmp 13) (.tmp 15) 22 rfl _ _ v4 V4 rfl rfl hr4 ?_
  refine hKt _ _ ?_
  clear hKt Kt hr4 hown2 hg4 hv2 hb3 hbt3 hn3 hc3
  try simp only [List.getElem_toArray, List.getElem_cons_zero, List.getElem_cons_succ, Act.put, List.setIfInBounds_toArray, List.set_cons_zero, List.set_cons_succ]
  refine wpList_plain rfl fun Kt hKt => ?_
  go_simp
  refine hKt _ _ ?_
  clear hKt Kt
  rw [List.nil_append] at hown4
  obtain ⟨A4, c4, rfl, hc4, hbt4, hn4, hl4⟩ := own_formB hown4 (fun x hx => by
    rcases List.mem_append.1 hx with h | h
    · exact (unhide HA).byt x h
    · exact twoB_byt i x h)
  obtain ⟨n4, hn4l⟩ : ∃ k, k = (seed ++ twoB i).length := ⟨_, rfl⟩
  have HN4 : Hid (n4 = (seed ++ twoB i).length ∧ n4 ≤ 1002) := ⟨hn4l, by rw [hn4l, List.length_append, twoB_length]; have := unhide HN; omega⟩
  rw [← hn4l] at hc4 ⊢
  have HOW := hide hown4
  have HBV := hide hv4
  have HK4 := hide ((unhide HK2).keep hv4)
  rw [← hn4l] at HOW
  clear hbt4 hn4 hl4 hn4l hown4 hv4
  go_upto_region 2 with fail
  refine wp_region_lit ?_
  refine wpList_plain rfl fun Kt hKt => ?_
  go_simp
  refine hKt _ _ ?_
  clear hKt Kt
  refine wpList_plain rfl fun Kt hKt => ?_
  go_simp
  refine hKt _ _ ?_
  clear hKt Kt
  refine wpList_plain rfl fun Kt hKt => ?_
  go_simp
  refine hKt _ _ ?_
  clear hKt Kt
  refine wpList_plain rfl fun Kt hKt => ?_
  go_simp
  refine hKt _ _ ?_
  clear hKt Kt
  refine wpList_plain rfl fun Kt hKt => ?_
  go_simp
  refine hKt _ _ ?_
  clear hKt Kt
  refine wpList_plain rfl fun Kt hKt => ?_
  go_simp
  refine hKt _ _ ?_
  clear hKt Kt
  generalize hX : V4.alloc _ = V5
  have hv5 : Below V4.heap.size V4 V5 := hX ▸ (Below.refl _ _).alloc (Nat.le_refl _) _
  have hbt5 : Bt V5 (some ⟨V4.heap.size, 0, none⟩) [(j : Int), (b : Int)] := lit2 V4 V5 _ _ _ _ (by rw [← hX]; rfl) (byt_nat j (unhide HN).2.2.2.2.2.1) (byt_nat b (unhide HN).2.2.2.2.2.2)
  clear hX
  refine wpList_plain rfl fun Kt hKt => ?_
  have hn4 := (unhide HN4).1
  obtain ⟨v6, V6, hr6, hown6, hg6⟩ := run_append_B (base := W2.heap.size) (v := .slice A4 n4 c4) (l := seed ++ twoB i) (OwnB.later (by rw [hn4]; rw [hn4] at HOW; exact unhide HOW) hv5) 22 (some ⟨V4.heap.size, 0, none⟩) 2 hbt5 (fun h => by cases h) (by have := (unhide HN4).2; rw [← hn4]; simp; omega) (Nat.le_trans (unhide HBV).size hv5.size)
  have hv6 := grown_below (thenB (unhide HBV) hv5) hg6 (fun k hk => by
    have h1 : OwnB V4 W2.heap.size (.slice A4 n4 c4) (seed ++ twoB i) := by rw [hn4]; rw [hn4] at HOW; exact unhide HOW
    exact (h1.lt k hk).1)
  refine wp_append (.tmp 17) (.tmp 22) 22 rfl _ _ v6 V6 rfl rfl hr6 ?_
  refine hKt _ _ ?_
  clear hKt Kt hr6 hg6 hbt5 hv5 hn4
  try simp only [List.getElem_toArray, List.getElem_cons_zero, List.getElem_cons_succ, Act.put, List.setIfInBounds_toArray, List.set_cons_zero, List.set_cons_succ]
  obtain ⟨L, hL⟩ : ∃ L, L = (seed ++ twoB i) ++ [(j : Int), (b : Int)] := ⟨_, rfl⟩
  have hbL : ∀ x ∈ L, Byt x := by
    intro x hx
    rw [hL] at hx
    rcases List.mem_append.1 hx with h | h
    · rcases List.mem_append.1 h with h | h
      · exact (unhide HA).byt x h
      · exact twoB_byt i x h
    · simp only [List.mem_cons, List.not_mem_nil, or_false] at h
      rcases h with rfl | rfl
      · exact byt_nat j (unhide HN).2.2.2.2.2.1
      · exact byt_nat b (unhide HN).2.2.2.2.2.2
  have hlL : L.length ≤ 1004 := by rw [hL, List.length_append, ← (unhide HN4).1]; have := (unhide HN4).2; simp; omega
  rw [← hL] at hown6
  obtain ⟨A6, c6, rfl, hc6, hbt6, hn6, hl6⟩ := own_formB hown6 hbL
  have hsm := rtag_any V6 ⟨#[115, 101, 99, 114, 101, 116]⟩ A6 c6 L hbt6 hc6 hn6 (by omega) (by decide)
  obtain ⟨T, hT⟩ : ∃ T, T = secS (begS seed i) j b := ⟨_, rfl⟩
  rw [show sb ⟨#[115, 101, 99, 114, 101, 116]⟩ = SECB by decide, show tagF SECB L = T by rw [hT, hL]; unfold tagF secS begS; rw [List.append_assoc, List.append_assoc, List.append_assoc]] at hsm
  have HTT := hide hT
  have hgT : Dg T := hT ▸ dg_secS _ _ _
  obtain ⟨nL, hnL⟩ : ∃ k, k = L.length := ⟨_, rfl⟩
  rw [← hnL] at hsm ⊢
  obtain ⟨ct, hct⟩ : ∃ cs, cs = (T.map (Value.int .u8)).toArray := ⟨_, rfl⟩
  rw [show dv T = .agg ct by rw [hct]] at hsm
  have HCT := hide hct
  have HGT := hide hgT
  have hB6 := thenB (unhide HB) hv6
  have hO6 := (unhide HK2).keep hv6
  have HB6 := hide hB6; have HO6 := hide hO6
  clear hT hgT hct hnL hlL hbL hL hown6 hc6 hbt6 hn6 hl6 hB6 hO6 hv6
  refine wpList_plain rfl fun Kt hKt => ?_
  go_simp
  refine hsm.mono ?_; rintro x V7 ⟨rfl, hb7⟩
  dsimp only
  refine hKt _ _ ?_
  clear hKt Kt hsm
  have HB7 := hide (thenB (unhide HB6) hb7)
  have HO7 := hide ((unhide HO6).keep hb7)
  clear hb7
  try simp only [List.getElem_toArray, List.getElem_cons_zero, List.getElem_cons_succ, Act.put, List.setIfInBounds_toArray, List.set_cons_zero, List.set_cons_succ]
  refine wpList_bstore rfl 24 (.tmp 8) (.tmp 24) rfl (w.heap.size + 1) rfl T (show Value.agg ct = _ by rw [unhide HCT]) 32 info32 (unhide HGT).len _ zeros (unhide HO7) rfl ?_
  intro W9 HW9 HG9
  go_wp2_with fail
  try simp only [Exit.inBlock, Exit.then]
  exact bret rfl rfl (w.heap.size + 1) rfl _ _ (unhide HW9) (unhide HGT).len ⟨by rw [unhide HTT], (unhide HB7).grown (unhide HG9) (unhide HB7).size (fun i e => by injection e with e; omega)⟩
end Go.Proofs.YtceppmajbkmbdaaDoor
namespace Go.Proofs.YtceppmajbkmbdaaDoor
set_option linter.unusedSimpArgs false
set_option linter.unusedVariables false
open Go.RowKit

def flatD (l : List (List Int)) : List Int := l.flatMap fun d => d
theorem flatD_append (p q : List (List Int)) : flatD (p ++ q) = flatD p ++ flatD q := List.flatMap_append
theorem flatD_one (d : List Int) : flatD [d] = d := by simp [flatD]
theorem flatD_byt {l : List (List Int)} (h : ∀ d ∈ l, Dg d) : ∀ c ∈ flatD l, Byt c := fun c hc => by
  obtain ⟨d, hd, hm⟩ := List.mem_flatMap.1 hc
  exact (h d hd).byt c hm
theorem flatD_length : ∀ {l : List (List Int)}, (∀ d ∈ l, Dg d) → (flatD l).length = l.length * 32
  | [], _ => rfl
  | d :: l, h => by
    have e : flatD (d :: l) = d ++ flatD l := by simp [flatD]
    rw [e, List.length_append, flatD_length fun x hx => h x (List.mem_cons_of_mem _ hx), (h d List.mem_cons_self).len, List.length_cons]
    omega
theorem flatD_take {l : List (List Int)} {k : Nat} {d : List Int} (h : l[k]? = some d) : flatD (l.take (k + 1)) = flatD (l.take k) ++ d := by
  rw [List.take_add_one, h, flatD_append]
  show _ ++ flatD [d] = _
  rw [flatD_one]
set_option maxRecDepth 100000 in
set_option maxHeartbeats 2000000 in
theorem rone_any (w : World) (A : Option Addr) (n c : Nat) (l : List (List Int)) (hn : n = l.length) (hc : n ≤ c) (h1000 : n ≤ 1000) (hA : Ds w A l) :
    Calls Tryd.prog 81 #[.slice A n c] w fun x w' => x = .returned (dv (tagF ONEB (flatD l))) ∧ Below w.heap.size w w' := by
  have HA := hide hA
  have HN : Hid (n = l.length ∧ n ≤ c ∧ n ≤ 1000) := ⟨hn, hc, h1000⟩
  clear hA hn hc h1000
  go_enter Tryd.func81, Tryd.ntmps81
  go_upto_region 1 with fail
  generalize hX1 : w.alloc _ = W1
  have hB1 : Below w.heap.size w W1 := hX1 ▸ (Below.refl _ _).alloc (Nat.le_refl _) _
  have ho1 : ByAt W1 w.heap.size 24 zeros := newBy w W1 (by rw [← hX1]; rfl)
  have hz1 : W1.heap.size = w.heap.size + 1 := by rw [← hX1]; show (w.heap.push _).size = _; rw [Array.size_push]
  clear hX1
  refine wp_region_lit ?_
  refine wpList_plain rfl fun Kt hKt => ?_
  go_simp
  refine hKt _ _ ?_
  clear hKt Kt
  generalize hX : W1.alloc _ = V1
  have hv1 : Below W1.heap.size W1 V1 := hX ▸ (Below.refl _ _).alloc (Nat.le_refl _) _
  have hown1 : OwnB V1 W1.heap.size (.slice (some ⟨W1.heap.size, 0, none⟩) 0 0) [] := hX ▸ World.ownsRow_lit W1 #[] 0 (Nat.le_refl _) (Nat.zero_le _) rfl
  have HB1 := hide hB1
  have HV1 := hide hv1
  have HO1 := hide hown1
  have HD1 := hide ho1
  have HZ1 := hide hz1
  clear hX hv1 hown1 hB1 ho1 hz1
  go_wp2_with fail
  go_loopg [3, 4] n (fun g y3 y4 wx => ∃ (k : Nat) (v : Value), y3 = v ∧ y4 = .int .i64 (k : Int) ∧ k + g = n ∧ OwnB wx W1.heap.size v (flatD (l.take k)) ∧ Below W1.heap.size W1 wx)
  case atStart => exact ⟨0, _, rfl, rfl, by omega, by rw [← unhide HZ1]; simpa [flatD] using unhide HO1, unhide HV1⟩
  case round =>
    obtain ⟨k, v, rfl, rfl, hkg, hown, hbel⟩ := hrel
    have HOW := hide hown
    have HBE := hide hbel
    have HKG : Hid (k + gk = n) := hkg
    clear hown hbel
    cases gk with
    | zero =>
      obtain rfl : k = n := by omega
      have hown := unhide HOW
      rw [List.take_of_length_le (Nat.le_of_eq (unhide HN).1.symm)] at hown
      obtain ⟨A6, c6, rfl, hc6, hbt6, hn6, hl6⟩ := own_formB hown (flatD_byt (unhide HA).dg)
      have hsm := rtag_any wr ⟨#[111, 110, 101]⟩ A6 c6 (flatD l) hbt6 hc6 hn6 (by rw [flatD_length (unhide HA).dg]; have := unhide HN; omega) (by decide)
      obtain ⟨T, hT⟩ : ∃ T, T = tagF ONEB (flatD l) := ⟨_, rfl⟩
      rw [show sb ⟨#[111, 110, 101]⟩ = ONEB by decide, ← hT] at hsm
      have HTT := hide hT
      have hgT : Dg T := hT ▸ dg_hash _
      obtain ⟨nL, hnL⟩ : ∃ k, k = (flatD l).length := ⟨_, rfl⟩
      rw [← hnL] at hsm ⊢
      obtain ⟨ct, hct⟩ : ∃ cs, cs = (T.map (Value.int .u8)).toArray := ⟨_, rfl⟩
      rw [show dv T = .agg ct by rw [hct]] at hsm
      have HCT := hide hct
      have HGT := hide hgT
      have HSM := hide hsm
      clear hT hgT hct hnL hown hc6 hbt6 hn6 hl6 hsm hkg HOW
      go_wp2_with fail
      refine (unhide HSM).mono ?_; rintro x V7 ⟨rfl, hb7⟩
      dsimp only
      rename_i KK hK
      refine hK _ _ ?_
      clear hK KK HSM
      have HB7 := hide (thenB (unhide HB1) (thenB (unhide HBE) hb7))
      have HO7 := hide (((unhide HD1).keep (unhide HBE)).keep hb7)
      clear hb7
      refine wpList_bstore rfl 24 (.tmp 2) (.tmp 19) rfl w.heap.size rfl T (show Value.agg ct = _ by rw [unhide HCT]) 32 info32 (unhide HGT).len _ zeros (unhide HO7) rfl ?_
      intro W9 HW9 HG9
      go_wp2_with fail
      try simp only [Exit.inBlock, Exit.then]
      exact bret rfl rfl w.heap.size rfl _ _ (unhide HW9) (unhide HGT).len ⟨by rw [unhide HTT], (unhide HB7).grown (unhide HG9) (unhide HB7).size (fun i e => by injection e with e; omega)⟩
    | succ g =>
      have i1 : (k : Int) < (n : Int) := by omega
      have i0 : (0 : Int) ≤ (k : Int) := Int.natCast_nonneg _
      have iM : (k : Int) ≤ 1000 := by have := unhide HN; omega
      obtain ⟨d, hd⟩ : ∃ x, l[k]? = some x := ⟨_, List.getElem?_eq_getElem (by have := (unhide HN).1; omega)⟩
      have hne : l ≠ [] := fun e => by rw [e] at hd; simp at hd
      obtain ⟨b1, o1, rfl, hr1⟩ := (unhide HA).at_ hne
      have hg : Dg d := (unhide HA).dg d (List.mem_of_getElem? hd)
      have hbd := bt_of_range hg (rangeAt_keep (rangeAt_keep (rangeAt_keep (hr1 k d hd) (unhide HB1)) (Below.refl _ _)) (unhide HBE))
      have HD := hide hd; have HG := hide hg; have HBD := hide hbd
      have kc : (n : Int) ≤ (c : Int) := by have := unhide HN; omega
      clear hd hne hr1 hg hbd hkg
      go_upto_region 5 with fail
      refine wp_region_lit ?_
      refine wpList_plain rfl fun Kt hKt => ?_
      go_simp
      refine hKt _ _ ?_
      clear hKt Kt
      refine wpList_plain rfl fun Kt hKt => ?_
      go_simp
      refine hKt _ _ ?_
      clear hKt Kt
      refine wpList_plain rfl fun Kt hKt => ?_
      go_simp
      refine hKt _ _ ?_
      clear hKt Kt
      refine wpList_plain rfl fun Kt hKt => ?_
      go_simp
      refine hKt _ _ ?_
      clear hKt Kt
      refine wpList_plain rfl fun Kt hKt => ?_
      go_simp
      refine hKt _ _ ?_
      clear hKt Kt
      refine wpList_plain rfl fun K hK => ?_
      obtain ⟨v3, V3, hr3, hown3, hg3⟩ := run_append_B (unhide HOW) 22 (some ⟨b1, o1 + k * 32, none⟩) 32 (unhide HBD) (fun h => by cases h) (by rw [flatD_length (fun x hx => (unhide HA).dg x (List.mem_of_mem_take hx)), (unhide HG).len, List.length_take]; have := unhide HN; omega) (unhide HBE).size
      rw [(unhide HG).len] at hr3
      have hS3 := grown_below (unhide HBE) hg3 (fun k hk => ((unhide HOW).lt k hk).1)
      have HS3 := hide hS3
      have HO3 := hide hown3
      refine wp_append (.tmp 12) (.tmp 16) 22 rfl _ _ v3 V3 rfl rfl hr3 ?_
      refine hK _ _ ?_
      clear hK K hr3 hown3 hg3 hS3
      try simp only [List.getElem_toArray, List.getElem_cons_zero, List.getElem_cons_succ, Act.put, List.setIfInBounds_toArray, List.set_cons_zero, List.set_cons_succ]
      go_wp2_with fail
      go_roundg g
      case measure => omega
      case rel => exact ⟨k + 1, v3, rfl, by push_cast; rfl, by have := unhide HKG; omega, by rw [flatD_take (unhide HD)]; exact unhide HO3, unhide HS3⟩
end Go.Proofs.YtceppmajbkmbdaaDoor
namespace Go.Proofs.YtceppmajbkmbdaaDoor
set_option linter.unusedSimpArgs false
set_option linter.unusedVariables false
open Go.RowKit

def pairL (f : Nat → Nat → List Int) (k : Nat) : List (List Int) := (List.range k).flatMap fun j => [f j 0, f j 1]
theorem pairL_succ (f : Nat → Nat → List Int) (k : Nat) : pairL f (k + 1) = pairL f k ++ [f k 0, f k 1] := by simp [pairL, List.range_succ]
theorem pairL_length (f : Nat → Nat → List Int) : ∀ k, (pairL f k).length = 2 * k
  | 0 => rfl
  | k + 1 => by rw [pairL_succ, List.length_append, pairL_length f k]; simp; omega
theorem flatD_pair (f : Nat → Nat → List Int) : ∀ k, flatD (pairL f k) = halfS f k
  | 0 => rfl
  | k + 1 => by
    rw [pairL_succ, flatD_append, flatD_pair f k, halfS_succ]
    simp [flatD]
theorem dg_pairL {f : Nat → Nat → List Int} (h : ∀ j b, Dg (f j b)) (k : Nat) : ∀ d ∈ pairL f k, Dg d := fun d hd => by
  obtain ⟨j, _, hm⟩ := List.mem_flatMap.1 hd
  simp only [List.mem_cons, List.not_mem_nil, or_false] at hm
  rcases hm with rfl | rfl <;> exact h _ _
theorem run_two (w : World) (d e : List Int) (hd : d.length = 32) (he : e.length = 32) :
    (Instr.buildSlice 26 2 #[(0, dv d), (1, dv e)]).run Tryd.prog w = .ok (.slice (some ⟨w.heap.size, 0, none⟩) 2 2) (w.alloc (.cells ((d ++ e).map (Value.int .u8)).toArray 24)) := by
  obtain ⟨i0, hi, hz0, hz1, hz2⟩ := info_parts infoDig
  have hf := fill_two d e hd he
  simp [Instr.buildSlice, run_underlying Tryd.underlying26, sizeOf, typeInfo, zeroValue, hi, hz0, hz1, newRow, hf]
theorem wp_two {o : Oper} {a : Act} {w : World} {K : Act → World → Prop} {Q : Exit → Act → World → Prop} (x y : Operand) (ho : o.op = .buildSlice 26 2 #[(0, x), (1, y)]) (d e : List Int) (hd : d.length = 32) (he : e.length = 32) (hx : a.eval x = dv d) (hy : a.eval y = dv e)
    (h : K (a.put o.dst (.slice (some ⟨w.heap.size, 0, none⟩) 2 2)) (w.alloc (.cells ((d ++ e).map (Value.int .u8)).toArray 24))) : o.wp Tryd.prog a w K Q := by
  unfold Oper.wp execOp
  have e1 : (#[(0, x), (1, y)].map fun (i, x) => (i, a.eval x)) = #[(0, dv d), (1, dv e)] := by simp [hx, hy]
  simp only [ho]
  rw [e1]
  simp only [Sem.run_bind, Sem.run_pure, run_two w d e hd he, Result.andThen_ok]
  exact h
theorem ds_two {w : World} {N : Nat} {d e : List Int} {t : TypeId} (hd : Dg d) (he : Dg e) (h : VsAt w N t ((d ++ e).map (Value.int .u8))) : Ds w (some ⟨N, 0, none⟩) [d, e] := by
  refine ⟨fun x hx => ?_, fun _ => ⟨N, 0, rfl, fun j x hx => ?_⟩⟩
  · simp only [List.mem_cons, List.not_mem_nil, or_false] at hx
    rcases hx with rfl | rfl <;> assumption
  · refine h.mid (0 + j * 32) _ fun i v hv => ?_
    rw [List.map_append]
    match j, hx with
    | 0, hx =>
      injection hx with hx
      subst hx
      have hi := (List.getElem?_eq_some_iff.1 hv).1
      rw [List.getElem?_append_left (by omega)]
      simpa using hv
    | 1, hx =>
      injection hx with hx
      subst hx
      rw [List.getElem?_append_right (by rw [List.length_map, hd.len]; omega), List.length_map, hd.len, show 0 + 1 * 32 + i - 32 = i by omega]
      exact hv
end Go.Proofs.YtceppmajbkmbdaaDoor
namespace Go.Proofs.YtceppmajbkmbdaaDoor
set_option linter.unusedSimpArgs false
set_option linter.unusedVariables false
open Go.RowKit

set_option maxRecDepth 100000 in
set_option maxHeartbeats 1000000 in
theorem rkeys_any (w : World) (A : Option Addr) (n c : Nat) (seed : List Int) (hn : n = seed.length) (h64 : n ≤ 1000) (hc : n ≤ c) (hA : Bt w A seed) (hA0 : A = none → c = 0) (m : Nat) (hm : m ≤ 4096) (u : Int) :
    Calls Tryd.prog 71 #[.agg #[.slice A n c, .int .i64 (m : Int), .int .i64 u]] w fun x w' => (∃ v, x = .returned v ∧ OwnD w' w.heap.size v (pubsS seed m)) ∧ Below w.heap.size w w' := by
  have HA := hide hA
  have HN : Hid (n = seed.length ∧ n ≤ 1000 ∧ n ≤ c ∧ (A = none → c = 0) ∧ m ≤ 4096) := ⟨hn, h64, hc, hA0, hm⟩
  clear hA hn h64 hc hA0 hm
  go_enter Tryd.func71, Tryd.ntmps71
  go_upto_region 1 with fail
  generalize hX1 : w.alloc _ = W1
  have hB1 : Below w.heap.size w W1 := hX1 ▸ (Below.refl _ _).alloc (Nat.le_refl _) _
  have ho1 : VsAt W1 w.heap.size 40 [.slice A n c, .int .i64 (m : Int), .int .i64 u] := boxedV w W1 _ _ (by rw [← hX1]; rfl)
  clear hX1
  refine wp_region_lit ?_
  refine wpList_plain rfl fun Kt hKt => ?_
  go_simp
  refine hKt _ _ ?_
  clear hKt Kt
  generalize hX : W1.alloc _ = V1
  have hv1 : Below W1.heap.size W1 V1 := hX ▸ (Below.refl _ _).alloc (Nat.le_refl _) _
  have hown1 : OwnD V1 W1.heap.size (.slice (some ⟨W1.heap.size, 0, none⟩) 0 0) [] := hX ▸ World.ownsRow_lit W1 #[] 0 (Nat.le_refl _) (Nat.zero_le _) rfl
  have HV1 := hide hv1
  have HB1 := hide hB1
  have HO1 := hide hown1
  have HK := hide ho1
  clear hX hv1 hown1 hB1 ho1
  go_wp2_with fail
  go_loopg [3, 4] m (fun g y3 y4 wx => ∃ (k : Nat) (v : Value), y3 = v ∧ y4 = .int .i64 (k : Int) ∧ k + g = m ∧ OwnD wx W1.heap.size v (pubsS seed k) ∧ Below W1.heap.size W1 wx)
  case atStart => exact ⟨0, _, rfl, rfl, by omega, unhide HO1, unhide HV1⟩
  case round =>
    obtain ⟨k, v, rfl, rfl, hkg, hown, hbel⟩ := hrel
    obtain ⟨wo, hwo⟩ : ∃ x, x = wr := ⟨wr, rfl⟩
    subst hwo
    have HOW := hide hown
    have HBE := hide hbel
    have HKG : Hid (k + gk = m) := hkg
    have hcm : wo.cell? ⟨w.heap.size, 1, none⟩ = some (.int .i64 (m : Int)) := ((unhide HK).keep hbel).cell rfl
    clear hown hbel
    cases gk with
    | zero =>
      obtain rfl : k = m := by omega
      clear hkg
      go_wp2_with fail
      go_ret
      exact ⟨⟨_, rfl, own_le (unhide HOW) (unhide HB1).size⟩, thenB (unhide HB1) (unhide HBE)⟩
    | succ g =>
      have i1 : (k : Int) < (m : Int) := by omega
      have i0 : (0 : Int) ≤ (k : Int) := Int.natCast_nonneg _
      have iM : (k : Int) ≤ 4096 := by have := unhide HN; omega
      obtain ⟨f, hf⟩ : ∃ f : Nat → Nat → List Int, f = fun j b => opnS (secS (begS seed k) j b) := ⟨_, rfl⟩
      have HF : Hid (∀ j b, f j b = opnS (secS (begS seed k) j b)) := fun j b => by rw [hf]
      have HFE := hide hf
      have HGF : Hid (∀ j b, Dg (f j b)) := fun j b => by rw [hf]; exact dg_opnS _
      clear hkg hf
      go_upto_region 5 with fail
      clear hcm
      refine wp_region_lit ?_
      refine wpList_plain rfl fun Kt hKt => ?_
      go_simp
      refine hKt _ _ ?_
      clear hKt Kt
      generalize hX : wo.alloc _ = U1
      have hu1 : Below wo.heap.size wo U1 := hX ▸ (Below.refl _ _).alloc (Nat.le_refl _) _
      have hownu : OwnD U1 wo.heap.size (.slice (some ⟨wo.heap.size, 0, none⟩) 0 0) [] := hX ▸ World.ownsRow_lit wo #[] 0 (Nat.le_refl _) (Nat.zero_le _) rfl
      have HU1 := hide hu1
      have HOU := hide hownu
      clear hX hu1 hownu
      go_wp2_with fail
      go_loopg [5, 6] 64 (fun g y5 y6 wx => ∃ (j : Nat) (v : Value), y5 = v ∧ y6 = .int .i64 (j : Int) ∧ j + g = 64 ∧ OwnD wx wo.heap.size v (pairL f j) ∧ Below wo.heap.size wo wx)
      case atStart => exact ⟨0, _, rfl, rfl, by omega, unhide HOU, unhide HU1⟩
      case round =>
        obtain ⟨j, v', rfl, rfl, hjg, hown', hbel'⟩ := hrel
        have HOV := hide hown'
        have HBV := hide hbel'
        have HJG : Hid (j + gk = 64) := hjg
        clear hown' hbel'
        cases gk with
        | zero =>
          obtain rfl : j = 64 := by omega
          clear hjg
          obtain ⟨A5, c5, rfl, hc5, hd5, hn5⟩ := own_form (unhide HOV) (dg_pairL (unhide HGF) 64)
          rw [pairL_length] at hc5 ⊢
          have hro := rone_any wr A5 (2 * 64) c5 (pairL f 64) (pairL_length f 64).symm hc5 (by omega) hd5
          obtain ⟨P, hP⟩ : ∃ d, d = pubS seed k := ⟨_, rfl⟩
          rw [flatD_pair, show tagF ONEB (halfS f 64) = P by rw [hP, unhide HFE]; rfl] at hro
          have hgP : Dg P := hP ▸ dg_pubS _ _
          obtain ⟨qP, hqP⟩ : ∃ cs, cs = (P.map (Value.int .u8)).toArray := ⟨_, rfl⟩
          have hsP : qP.size = 32 := by rw [hqP]; simpa using hgP.len
          rw [show dv P = .agg qP by rw [hqP]] at hro
          have HRO := hide hro
          have HP := hide hP; have HGP := hide hgP; have HQP := hide hqP
          clear hc5 hd5 hn5 hro hP hgP hqP HOV
          go_upto_region 10 with fail
          refine wp_region_lit ?_
          refine wpList_plain rfl fun Kt hKt => ?_
          go_simp
          refine hKt _ _ ?_
          clear hKt Kt
          refine wpList_plain rfl fun Kt hKt => ?_
          go_simp
          refine hKt _ _ ?_
          clear hKt Kt
          refine wpList_plain rfl fun Kt hKt => ?_
          go_simp
          refine (unhide HRO).mono ?_; rintro x U2 ⟨rfl, hb2⟩
          dsimp only
          refine hKt _ _ ?_
          clear hKt Kt HRO
          try simp only [List.getElem_toArray, List.getElem_cons_zero, List.getElem_cons_succ, Act.put, List.setIfInBounds_toArray, List.set_cons_zero, List.set_cons_succ]
          refine wpList_plain rfl fun Kt hKt => ?_
          go_simp
          refine hKt _ _ ?_
          clear hKt Kt
          rw [overwritten hsP (by rfl)]
          generalize hY : U2.alloc _ = Y1
          have hBY : Below U2.heap.size U2 Y1 := hY ▸ (Below.refl _ _).alloc (Nat.le_refl _) _
          have hoY : ByAt Y1 U2.heap.size 24 P := boxed U2 Y1 P _ (by rw [← hY, unhide HQP]; rfl)
          clear hY
          have hB3 := thenB (thenB (unhide HBV) hb2) hBY
          have hO3 := (unhide HOW).later hB3
          obtain ⟨v3, V3, hr3, hown3, hg3⟩ := run_append_D hO3 26 U2.heap.size 1 P (unhide HGP) hoY (by rw [pubsS_length]; omega) (Nat.le_trans (unhide HBE).size hB3.size)
          have hS3 := grown_below (thenB (unhide HBE) hB3) hg3 (fun k hk => (hO3.lt k hk).1)
          have HS3 := hide hS3
          have HO3 := hide hown3
          refine wpList_plain rfl fun K hK => ?_
          refine wp_append (.tmp 32) (.tmp 35) 26 rfl _ _ v3 V3 rfl rfl hr3 ?_
          refine hK _ _ ?_
          clear hK K hB3 hO3 hr3 hown3 hg3 hS3 hBY hoY hb2
          try simp only [List.getElem_toArray, List.getElem_cons_zero, List.getElem_cons_succ, Act.put, List.setIfInBounds_toArray, List.set_cons_zero, List.set_cons_succ]
          go_wp2_with fail
          go_roundg g
          case measure => omega
          case rel => exact ⟨k + 1, v3, rfl, by push_cast; rfl, by have := unhide HKG; omega, by rw [pubsS_succ, ← unhide HP]; exact unhide HO3, unhide HS3⟩
        | succ g2 =>
          have j1 : (j : Int) < 64 := by omega
          have j0 : (0 : Int) ≤ (j : Int) := Int.natCast_nonneg _
          clear hjg
          have hSe : ∀ V, Below wo.heap.size wo V → ∀ b : Nat, b < 2 → Calls Tryd.prog 77 #[.agg #[.slice A n c, .int .i64 (m : Int), .int .i64 u], .int .i64 (k : Int), .int .i64 (j : Int), .int .i64 (b : Int)] V fun x w' => x = .returned (dv (secS (begS seed k) j b)) ∧ Below V.heap.size V w' := fun V hV b hb =>
            rsecret_any V A n c seed (unhide HN).1 (unhide HN).2.1 (unhide HN).2.2.1 ((((unhide HA).keep (unhide HB1)).keep (unhide HBE)).keep hV) (unhide HN).2.2.2.1 m u k (by omega) j b (by omega) (by omega)
          have HSE := hide hSe
          have HKV : Hid (∀ V, Below wo.heap.size wo V → V.rangeAt w.heap.size 0 [.slice A n c, .int .i64 (m : Int), .int .i64 u]) := fun V hV => (((unhide HK).keep (unhide HBE)).keep hV).range
          clear hSe
          go_wp2_with fail
          obtain ⟨W, hW⟩ : ∃ W, W = wr.drewN 1 := ⟨_, rfl⟩
          have HW : Hid (W = wr.drewN 1) := hW
          have hS : Below wo.heap.size wo W := thenB (unhide HBV) (below_named HW)
          clear hW
          refine held (S := Below wo.heap.size wo) W HW (by kernel_rfl) ?_
          refine wpAnyH_take (i := 0) (v := ?_) rfl (by kernel_rfl) (by kernel_rfl) (by kernel_rfl) (fun _ _ _ h => h) (Or.inl ⟨by kernel_rfl, ?_⟩) (by assumption) ?_
          rotate_left
          · intro Wt hSt
            go_simp
            try with_reducible rfl
          try simp only [List.getElem_toArray, List.getElem_cons_zero, List.getElem_cons_succ, Act.put, List.setIfInBounds_toArray, List.set_cons_zero, List.set_cons_succ]
          refine wpAnyH_take (i := 1) (v := .agg [.slice A n c, .int .i64 (m : Int), .int .i64 u].toArray) rfl (by kernel_rfl) (by kernel_rfl) (by kernel_rfl) (fun _ _ _ h => h) (yieldsIf_load_mid (by kernel_rfl) 40 (.tmp 1) rfl w.heap.size 0 rfl [.slice A n c, .int .i64 (m : Int), .int .i64 u] _ (fun W hS => unhide HKV W hS) Tryd.underlying40 rfl infoKey) (by assumption) ?_
          try simp only [List.getElem_toArray, List.getElem_cons_zero, List.getElem_cons_succ, Act.put, List.setIfInBounds_toArray, List.set_cons_zero, List.set_cons_succ]
          refine wpAnyH_take (i := 2) (v := ?_) rfl (by kernel_rfl) (by kernel_rfl) (by kernel_rfl) (fun _ _ _ h => h) (Or.inl ⟨by kernel_rfl, ?_⟩) (by assumption) ?_
          rotate_left
          · intro Wt hSt
            go_simp
            try with_reducible rfl
          try simp only [List.getElem_toArray, List.getElem_cons_zero, List.getElem_cons_succ, Act.put, List.setIfInBounds_toArray, List.set_cons_zero, List.set_cons_succ]
          refine wpAnyH_take (i := 3) (v := ?_) rfl (by kernel_rfl) (by kernel_rfl) (by kernel_rfl) (fun _ _ _ h => h) (Or.inl ⟨by kernel_rfl, ?_⟩) (by assumption) ?_
          rotate_left
          · intro Wt hSt
            go_simp
            try with_reducible rfl
          try simp only [List.getElem_toArray, List.getElem_cons_zero, List.getElem_cons_succ, Act.put, List.setIfInBounds_toArray, List.set_cons_zero, List.set_cons_succ]
          refine wpAnyH_take (i := 6) (v := .agg [.slice A n c, .int .i64 (m : Int), .int .i64 u].toArray) rfl (by kernel_rfl) (by kernel_rfl) (by kernel_rfl) (fun _ _ _ h => h) (yieldsIf_load_mid (by kernel_rfl) 40 (.tmp 1) rfl w.heap.size 0 rfl [.slice A n c, .int .i64 (m : Int), .int .i64 u] _ (fun W hS => unhide HKV W hS) Tryd.underlying40 rfl infoKey) (by assumption) ?_
          try simp only [List.getElem_toArray, List.getElem_cons_zero, List.getElem_cons_succ, Act.put, List.setIfInBounds_toArray, List.set_cons_zero, List.set_cons_succ]
          refine wpAnyH_take (i := 7) (v := ?_) rfl (by kernel_rfl) (by kernel_rfl) (by kernel_rfl) (fun _ _ _ h => h) (Or.inl ⟨by kernel_rfl, ?_⟩) (by assumption) ?_
          rotate_left
          · intro Wt hSt
            go_simp
            try with_reducible rfl
          try simp only [List.getElem_toArray, List.getElem_cons_zero, List.getElem_cons_succ, Act.put, List.setIfInBounds_toArray, List.set_cons_zero, List.set_cons_succ]
          refine wpAnyH_take (i := 8) (v := ?_) rfl (by kernel_rfl) (by kernel_rfl) (by kernel_rfl) (fun _ _ _ h => h) (Or.inl ⟨by kernel_rfl, ?_⟩) (by assumption) ?_
          rotate_left
          · intro Wt hSt
            go_simp
            try with_reducible rfl
          try simp only [List.getElem_toArray, List.getElem_cons_zero, List.getElem_cons_succ, Act.put, List.setIfInBounds_toArray, List.set_cons_zero, List.set_cons_succ]
          refine wpAnyH_chainOf [4, 5, 9, 10, 11, 12, 13] _ _ _ (by kernel_rfl) (by kernel_rfl) ?_
          simp only [List.filterMap_cons, List.filterMap_nil, List.getElem?_toArray, List.getElem?_cons_zero, List.getElem?_cons_succ]
          refine wpChain_step rfl fun K hK => ?_
          go_simp
          obtain ⟨s0, hs0⟩ : ∃ s, s = secS (begS seed k) j 0 := ⟨_, rfl⟩
          obtain ⟨s1, hs1⟩ : ∃ s, s = secS (begS seed k) j 1 := ⟨_, rfl⟩
          have hg0 : Dg s0 := hs0 ▸ dg_secS _ _ _
          have hg1 : Dg s1 := hs1 ▸ dg_secS _ _ _
          have HS0 := hide hs0; have HS1 := hide hs1
          clear hs0 hs1
          have hc0 := unhide HSE W hS 0 (by omega)
          rw [← unhide HS0] at hc0
          refine hc0.mono ?_; rintro x U2 ⟨rfl, hb2⟩
          have hS2 := thenB hS hb2
          dsimp only
          refine hK _ _ hS2 ?_
          clear hK K hc0
          refine wpChain_step rfl fun K hK => ?_
          go_simp
          obtain ⟨t0, ht0⟩ : ∃ s, s = opnS s0 := ⟨_, rfl⟩
          have hh0 := rhash_any U2 s0 hg0
          have hgt0 : Dg t0 := ht0 ▸ dg_opnS _
          obtain ⟨q0, hq0⟩ : ∃ cs, cs = (t0.map (Value.int .u8)).toArray := ⟨_, rfl⟩
          rw [← ht0, show dv t0 = .agg q0 by rw [hq0]] at hh0
          have z0 : q0.size = 32 := by rw [hq0]; simpa using hgt0.len
          have HT0 := hide ht0; have HQ0 := hide hq0
          clear ht0 hq0 z0
          refine hh0.mono ?_; rintro x U3 ⟨rfl, hb3⟩
          have hS3 := thenB hS2 hb3
          dsimp only
          refine hK _ _ hS3 ?_
          clear hK K hh0
          refine wpChain_step rfl fun K hK => ?_
          go_simp
          have hc1 := unhide HSE U3 hS3 1 (by omega)
          rw [← unhide HS1] at hc1
          refine hc1.mono ?_; rintro x U4 ⟨rfl, hb4⟩
          have hS4 := thenB hS3 hb4
          dsimp only
          refine hK _ _ hS4 ?_
          clear hK K hc1
          refine wpChain_step rfl fun K hK => ?_
          go_simp
          obtain ⟨t1, ht1⟩ : ∃ s, s = opnS s1 := ⟨_, rfl⟩
          have hh1 := rhash_any U4 s1 hg1
          have hgt1 : Dg t1 := ht1 ▸ dg_opnS _
          obtain ⟨q1, hq1⟩ : ∃ cs, cs = (t1.map (Value.int .u8)).toArray := ⟨_, rfl⟩
          rw [← ht1, show dv t1 = .agg q1 by rw [hq1]] at hh1
          have z1 : q1.size = 32 := by rw [hq1]; simpa using hgt1.len
          have HT1 := hide ht1; have HQ1 := hide hq1
          clear ht1 hq1 z1
          refine hh1.mono ?_; rintro x U5 ⟨rfl, hb5⟩
          have hS5 := thenB hS4 hb5
          dsimp only
          refine hK _ _ hS5 ?_
          clear hK K hh1
          refine wpChain_step rfl fun K hK => ?_
          refine wp_two (.tmp 24) (.tmp 29) rfl t0 t1 hgt0.len hgt1.len (show Value.agg q0 = _ by rw [unhide HQ0]) (show Value.agg q1 = _ by rw [unhide HQ1]) ?_
          generalize hY : U5.alloc _ = U6
          have hb6 : Below U5.heap.size U5 U6 := hY ▸ (Below.refl _ _).alloc (Nat.le_refl _) _
          have hv6 : VsAt U6 U5.heap.size 24 ((t0 ++ t1).map (Value.int .u8)) := boxedV U5 U6 _ _ (by rw [← hY]; rfl)
          have hds := ds_two hgt0 hgt1 hv6
          clear hY
          have hS6 := thenB hS5 hb6
          refine hK _ _ hS6 ?_
          clear hK K
          refine wpChain_step rfl fun K hK => ?_
          have hO6 := (((((((unhide HOV).later (below_named HW)).later hb2).later hb3).later hb4).later hb5).later hb6)
          obtain ⟨v7, U7, hr7, hown7, hg7, _⟩ := append_many hO6 26 (some ⟨U5.heap.size, 0, none⟩) 2 hds (fun h => by cases h) (by rw [pairL_length]; simp; omega) hS6.size
          have hS7 := grown_below hS6 hg7 (fun k hk => (hO6.lt k hk).1)
          refine wp_append (.tmp 19) (.tmp 30) 26 rfl _ _ v7 U7 rfl rfl hr7 ?_
          refine hK _ _ hS7 ?_
          clear hK K
          have hE : Hid (t0 = f j 0 ∧ t1 = f j 1) := ⟨by rw [unhide HF, unhide HT0, unhide HS0], by rw [unhide HF, unhide HT1, unhide HS1]⟩
          have HO7 := hide hown7
          have HS7 := hide hS7
          refine wpChain_step rfl fun K hK => ?_
          go_simp
          refine hK _ _ hS7 (wpChain_nil ?_)
          clear hK K hr7 hown7 hg7 hO6 hS6 hds hv6 hS5 hS4 hS3 hS2 hS hb2 hb3 hb4 hb5 hb6 hS7 hg0 hg1 hgt0 hgt1
          go_wp2_with fail
          go_roundg g2
          case measure => omega
          case rel => exact ⟨j + 1, v7, rfl, by push_cast; rfl, by have := unhide HJG; omega, by rw [pairL_succ, ← (unhide hE).1, ← (unhide hE).2]; exact unhide HO7, unhide HS7⟩
end Go.Proofs.YtceppmajbkmbdaaDoor
namespace Go.Proofs.YtceppmajbkmbdaaDoor
set_option linter.unusedSimpArgs false
set_option linter.unusedVariables false
open Go.RowKit

set_option maxRecDepth 100000 in
set_option maxHeartbeats 1000000 in
theorem rPublic_bad (w : World) (A : Option Addr) (n c : Nat) (many u : Int) (hk : keyOk n many u = false) :
    Calls Tryd.prog 36 #[.agg #[.slice A n c, .int .i64 many, .int .i64 u]] w fun x w' => x = .returned (.tuple #[dv zeros, .int .i64 40]) ∧ Below w.heap.size w w' := by
  have hik := fun W => rvalid_any W A n c many u
  rw [hk] at hik
  have HIK := hide hik
  clear hik hk
  go_enter Tryd.func36, Tryd.ntmps36
  go_upto_region 1 with fail
  generalize hX1 : w.alloc _ = W1
  have hB1 : Below w.heap.size w W1 := hX1 ▸ (Below.refl _ _).alloc (Nat.le_refl _) _
  have ho1 : VsAt W1 w.heap.size 40 [.slice A n c, .int .i64 many, .int .i64 u] := boxedV w W1 _ _ (by rw [← hX1]; rfl)
  have hz1 : W1.heap.size = w.heap.size + 1 := by rw [← hX1]; show (w.heap.push _).size = _; rw [Array.size_push]
  generalize hX2 : W1.alloc _ = W2
  have hB2 : Below W1.heap.size W1 W2 := hX2 ▸ (Below.refl _ _).alloc (Nat.le_refl _) _
  have ho2 : ByAt W2 W1.heap.size 24 zeros := newBy W1 W2 (by rw [← hX2]; rfl)
  rw [hz1] at ho2
  have HO1 := hide (ho1.keep hB2); have HO2 := hide ho2
  have HB2 := hide (thenB hB1 hB2)
  clear hX1 hX2 hB1 hB2 ho1 ho2 hz1
  refine wp_region_lit ?_
  refine wpList_load_mid rfl 40 (.tmp 1) rfl w.heap.size 0 rfl [.slice A n c, .int .i64 many, .int .i64 u] _ (unhide HO1).range Tryd.underlying40 rfl (by kernel_rfl) ?_
  try simp only [List.getElem_toArray, List.getElem_cons_zero, List.getElem_cons_succ, Act.put, List.setIfInBounds_toArray, List.set_cons_zero, List.set_cons_succ]
  go_wp2_with fail
  refine ((unhide HIK) W2).mono ?_; rintro x W3 ⟨rfl, hB3⟩
  have HB3 := hide (thenB (unhide HB2) hB3)
  have HO2' := hide ((unhide HO2).keep hB3)
  clear hB3 HB2 HO1 HO2
  go_upto_region 2 with fail
  refine wp_region_lit ?_
  refine wpList_build0 rfl 24 rfl (dv zeros) (build_zero _) ?_
  refine wpList_bstore rfl 24 (.tmp 2) (.tmp 7) rfl (w.heap.size + 1) rfl zeros rfl 32 info32 rfl _ zeros (unhide HO2') rfl ?_
  intro W9 HW9 HG
  go_wp2_with fail
  try simp only [Exit.inBlock, Exit.then]
  exact bret2 rfl rfl (w.heap.size + 1) rfl _ _ (unhide HW9) rfl _ rfl ⟨rfl, (unhide HB3).grown (unhide HG) (unhide HB3).size (fun i e => by injection e with e; omega)⟩

set_option maxRecDepth 100000 in
set_option maxHeartbeats 1000000 in
theorem rPublic_ok (w : World) (A : Option Addr) (n c : Nat) (seed : List Int) (hn : n = seed.length) (hc : n ≤ c) (hA : Bt w A seed) (hA0 : A = none → c = 0) (many : Nat) (u : Int) (hk : keyOk n (many : Int) u = true) :
    Calls Tryd.prog 36 #[.agg #[.slice A n c, .int .i64 (many : Int), .int .i64 u]] w fun x w' => x = .returned (.tuple #[dv (treeP (pubsS seed many)), .int .i64 0]) ∧ Below w.heap.size w w' := by
  have hik := fun W => rvalid_any W A n c many u
  rw [hk] at hik
  have HIK := hide hik
  have hkk : 1 ≤ n ∧ n ≤ 64 ∧ 1 ≤ many ∧ many ≤ 4096 := by
    unfold keyOk at hk
    rw [decide_eq_true_eq] at hk
    omega
  have HN : Hid (n = seed.length ∧ n ≤ c ∧ (A = none → c = 0) ∧ 1 ≤ n ∧ n ≤ 64 ∧ 1 ≤ many ∧ many ≤ 4096) := ⟨hn, hc, hA0, hkk⟩
  have HA := hide hA
  obtain ⟨T, hT⟩ : ∃ t, t = treeP (pubsS seed many) := ⟨_, rfl⟩
  have hgT : Dg T := hT ▸ dg_tree _
  obtain ⟨ct, hct⟩ : ∃ cs, cs = (T.map (Value.int .u8)).toArray := ⟨_, rfl⟩
  rw [← hT]
  have HTT := hide hT; have HGT := hide hgT; have HCT := hide hct
  clear hik hk hkk hn hc hA hA0 hT hgT hct
  go_enter Tryd.func36, Tryd.ntmps36
  go_upto_region 1 with fail
  generalize hX1 : w.alloc _ = W1
  have hB1 : Below w.heap.size w W1 := hX1 ▸ (Below.refl _ _).alloc (Nat.le_refl _) _
  have ho1 : VsAt W1 w.heap.size 40 [.slice A n c, .int .i64 (many : Int), .int .i64 u] := boxedV w W1 _ _ (by rw [← hX1]; rfl)
  have hz1 : W1.heap.size = w.heap.size + 1 := by rw [← hX1]; show (w.heap.push _).size = _; rw [Array.size_push]
  generalize hX2 : W1.alloc _ = W2
  have hB2 : Below W1.heap.size W1 W2 := hX2 ▸ (Below.refl _ _).alloc (Nat.le_refl _) _
  have ho2 : ByAt W2 W1.heap.size 24 zeros := newBy W1 W2 (by rw [← hX2]; rfl)
  rw [hz1] at ho2
  have HO1 := hide (ho1.keep hB2); have HO2 := hide ho2
  have HB2 := hide (thenB hB1 hB2)
  clear hX1 hX2 hB1 hB2 ho1 ho2 hz1
  refine wp_region_lit ?_
  refine wpList_load_mid rfl 40 (.tmp 1) rfl w.heap.size 0 rfl [.slice A n c, .int .i64 (many : Int), .int .i64 u] _ (unhide HO1).range Tryd.underlying40 rfl (by kernel_rfl) ?_
  try simp only [List.getElem_toArray, List.getElem_cons_zero, List.getElem_cons_succ, Act.put, List.setIfInBounds_toArray, List.set_cons_zero, List.set_cons_succ]
  go_wp2_with fail
  refine ((unhide HIK) W2).mono ?_; rintro x W3 ⟨rfl, hB3⟩
  have HB3 := hide (thenB (unhide HB2) hB3)
  have HO3 := hide ((unhide HO2).keep hB3)
  have HK3 := hide ((unhide HO1).keep hB3)
  clear hB3 HB2 HO1 HO2 HIK
  go_upto_region 3 with fail
  refine wp_region_lit ?_
  refine wpList_load_mid rfl 40 (.tmp 1) rfl w.heap.size 0 rfl [.slice A n c, .int .i64 (many : Int), .int .i64 u] _ (unhide HK3).range Tryd.underlying40 rfl (by kernel_rfl) ?_
  try simp only [List.getElem_toArray, List.getElem_cons_zero, List.getElem_cons_succ, Act.put, List.setIfInBounds_toArray, List.set_cons_zero, List.set_cons_succ]
  refine wpList_plain rfl fun Kt hKt => ?_
  go_simp
  refine (rkeys_any W3 A n c seed (unhide HN).1 (by have := unhide HN; omega) (unhide HN).2.1 ((unhide HA).keep (unhide HB3)) (unhide HN).2.2.1 many (unhide HN).2.2.2.2.2.2 u).mono ?_; rintro x W4 ⟨⟨v, rfl, hov⟩, hB4⟩
  obtain ⟨A4, c4, rfl, hc4, hd4, hn4⟩ := own_form hov (dg_pubsS seed many)
  rw [pubsS_length] at hc4 ⊢
  dsimp only
  refine hKt _ _ ?_
  clear hKt Kt hov hn4
  try simp only [List.getElem_toArray, List.getElem_cons_zero, List.getElem_cons_succ, Act.put, List.setIfInBounds_toArray, List.set_cons_zero, List.set_cons_succ]
  have htr := rtree_any W4 c4 A4 (pubsS seed many) hd4 (by rw [pubsS_length]; exact hc4) (by rw [pubsS_length]; have := unhide HN; omega)
  rw [pubsS_length, treeD_ne (pubs_ne seed many (unhide HN).2.2.2.2.2.1), ← unhide HTT, show dv T = .agg ct by rw [unhide HCT]] at htr
  have HB4 := hide (thenB (unhide HB3) hB4)
  have HO4 := hide ((unhide HO3).keep hB4)
  clear hc4 hd4 hB4 HB3 HO3 HK3
  refine wpList_plain rfl fun Kt hKt => ?_
  go_simp
  refine htr.mono ?_; rintro x W5 ⟨rfl, hB5⟩
  dsimp only
  refine hKt _ _ ?_
  clear hKt Kt htr
  try simp only [List.getElem_toArray, List.getElem_cons_zero, List.getElem_cons_succ, Act.put, List.setIfInBounds_toArray, List.set_cons_zero, List.set_cons_succ]
  have HB5 := hide (thenB (unhide HB4) hB5)
  have HO5 := hide ((unhide HO4).keep hB5)
  clear hB5
  refine wpList_bstore rfl 24 (.tmp 2) (.tmp 10) rfl (w.heap.size + 1) rfl T (show Value.agg ct = _ by rw [unhide HCT]) 32 info32 (unhide HGT).len _ zeros (unhide HO5) rfl ?_
  intro W9 HW9 HG
  go_wp2_with fail
  try simp only [Exit.inBlock, Exit.then]
  exact bret2 rfl rfl (w.heap.size + 1) rfl _ _ (unhide HW9) (unhide HGT).len _ rfl ⟨rfl, (unhide HB5).grown (unhide HG) (unhide HB5).size (fun i e => by injection e with e; omega)⟩
end Go.Proofs.YtceppmajbkmbdaaDoor
namespace Go.Proofs.YtceppmajbkmbdaaDoor
set_option linter.unusedSimpArgs false
set_option linter.unusedVariables false
open Go.RowKit

set_option maxRecDepth 100000 in
set_option maxHeartbeats 1000000 in
theorem rBits_bad (w : World) (d : List Int) (i : Int) (hi : i < 0 ∨ 4096 ≤ i) (m : Value) :
    Calls Tryd.prog 32 #[dv d, .int .i64 i, m] w fun x w' => x = .returned (.slice none 0 0) ∧ Below w.heap.size w w' := by
  have hb1 := fun o => Below.alloc (Below.refl w.heap.size w) (Nat.le_refl _) o
  have HB := hide hb1
  clear hb1
  obtain ⟨cd, hcd⟩ : ∃ cs, cs = (d.map (Value.int .u8)).toArray := ⟨_, rfl⟩
  rw [show dv d = .agg cd by rw [hcd]]
  clear hcd
  by_cases h1 : i < 0
  · clear hi
    go_enter Tryd.func32, Tryd.ntmps32
    go_wp2_with fail
    go_ret
    exact ⟨rfl, unhide HB _⟩
  · have h2 : 4096 ≤ i := by omega
    clear hi
    go_enter Tryd.func32, Tryd.ntmps32
    go_wp2_with fail
    go_ret
    exact ⟨rfl, unhide HB _⟩

set_option maxRecDepth 100000 in
set_option maxHeartbeats 2000000 in
theorem rBits_ok (w : World) (d : List Int) (hd : Dg d) (i : Nat) (hi : i < 4096) (A : Option Addr) (n c : Nat) (msg : List Int) (hn : n = msg.length) (hc : n ≤ c) (hA : Bt w A msg) (hA0 : A = none → c = 0) (h65 : n ≤ 65536) :
    Calls Tryd.prog 32 #[dv d, .int .i64 (i : Int), .slice A n c] w fun x w' => ∃ A9 c9, x = .returned (.slice A9 (bitsS d i msg).length c9) ∧ (bitsS d i msg).length ≤ c9 ∧ Bl w' A9 (bitsS d i msg) ∧ Below w.heap.size w w' := by
  have HA := hide hA
  have HN : Hid (n = msg.length ∧ n ≤ c ∧ (A = none → c = 0) ∧ n ≤ 65536 ∧ i < 4096) := ⟨hn, hc, hA0, h65, hi⟩
  have HD := hide hd
  have hld := hd.len
  obtain ⟨cd, hcd⟩ : ∃ cs, cs = (d.map (Value.int .u8)).toArray := ⟨_, rfl⟩
  have hsd : cd.size = 32 := by rw [hcd]; simpa using hld
  rw [show dv d = .agg cd by rw [hcd]]
  have i0 : ¬ (i : Int) < 0 := by omega
  have i1 : ¬ (4096 : Int) ≤ (i : Int) := by omega
  clear hd hld hA hn hc hA0 h65 hi
  go_enter Tryd.func32, Tryd.ntmps32
  go_upto_region 1 with fail
  generalize hX1 : w.alloc _ = W1
  have hB1 : Below w.heap.size w W1 := hX1 ▸ (Below.refl _ _).alloc (Nat.le_refl _) _
  have ho1 : ByAt W1 w.heap.size 24 d := boxed w W1 d _ (by rw [← hX1]; first | rfl | (rw [hcd]; rfl))
  have HB1 := hide hB1
  have HK1 := hide ho1
  clear hX1 hB1 ho1 hcd
  go_upto_region 3 with fail
  clear i0 i1
  refine wp_region_lit ?_
  refine wpList_plain rfl fun Kt hKt => ?_
  go_simp
  refine hKt _ _ ?_
  clear hKt Kt
  generalize hX : W1.alloc _ = V1
  have hv1 : Below W1.heap.size W1 V1 := hX ▸ (Below.refl _ _).alloc (Nat.le_refl _) _
  have hown1 : OwnB V1 W1.heap.size (.slice (some ⟨W1.heap.size, 0, none⟩) 0 0) [] := hX ▸ World.ownsRow_lit W1 #[] 0 (Nat.le_refl _) (Nat.zero_le _) rfl
  clear hX
  refine wpList_plain rfl fun Kt hKt => ?_
  go_simp
  refine hKt _ _ ?_
  clear hKt Kt
  refine wpList_plain rfl fun Kt hKt => ?_
  obtain ⟨v2, V2, hr2, hown2, hg2⟩ := run_append_B hown1 22 (some ⟨w.heap.size, 0, none⟩) 32 (((unhide HK1).keep hv1).bt (unhide HD)) (fun h => by cases h) (by rw [(unhide HD).len, List.length_nil]; omega) hv1.size
  rw [(unhide HD).len] at hr2
  have hv2 := grown_below hv1 hg2 (fun k hk => (hown1.lt k hk).1)
  refine wp_append (.tmp 17) (.tmp 18) 22 rfl _ _ v2 V2 rfl rfl hr2 ?_
  refine hKt _ _ ?_
  clear hKt Kt hr2 hown1 hg2 hv1
  try simp only [List.getElem_toArray, List.getElem_cons_zero, List.getElem_cons_succ, Act.put, List.setIfInBounds_toArray, List.set_cons_zero, List.set_cons_succ]
  refine wpList_plain rfl fun Kt hKt => ?_
  go_simp
  refine hKt _ _ ?_
  clear hKt Kt
  refine wpList_plain rfl fun Kt hKt => ?_
  go_simp
  refine (rtwo_any i (by have := unhide HN; omega) V2).mono ?_; rintro x V3 ⟨⟨A3, c3, rfl, hc3, hbt3, hn3⟩, hb3⟩
  dsimp only
  refine hKt _ _ ?_
  clear hKt Kt
  try simp only [List.getElem_toArray, List.getElem_cons_zero, List.getElem_cons_succ, Act.put, List.setIfInBounds_toArray, List.set_cons_zero, List.set_cons_succ]
  refine wpList_plain rfl fun Kt hKt => ?_
  obtain ⟨v4, V4, hr4, hown4, hg4⟩ := run_append_B (hown2.later hb3) 22 A3 c3 hbt3 hn3 (by rw [List.nil_append, twoB_length, (unhide HD).len]; omega) (Nat.le_trans hv2.size hb3.size)
  rw [twoB_length] at hr4
  have hv4 := grown_below (thenB hv2 hb3) hg4 (fun k hk => (hown2.lt k hk).1)
  refine wp_append (.tmp 19) (.tmp 21) 22 rfl _ _ v4 V4 rfl rfl hr4 ?_
  refine hKt _ _ ?_
  clear hKt Kt hr4 hown2 hg4 hv2 hb3 hbt3 hn3 hc3
  try simp only [List.getElem_toArray, List.getElem_cons_zero, List.getElem_cons_succ, Act.put, List.setIfInBounds_toArray, List.set_cons_zero, List.set_cons_succ]
  refine wpList_plain rfl fun Kt hKt => ?_
  go_simp
  refine hKt _ _ ?_
  clear hKt Kt
  rw [List.nil_append] at hown4
  have hb34 : ∀ x ∈ d ++ twoB i, Byt x := fun x hx => by
    rcases List.mem_append.1 hx with h | h
    · exact (unhide HD).byt x h
    · exact twoB_byt i x h
  obtain ⟨A4, c4, rfl, hc4, hbt4, hn4, hl4⟩ := own_formB hown4 hb34
  have hl34 : (d ++ twoB i).length = 34 := by rw [List.length_append, twoB_length, (unhide HD).len]
  have HL34 := hide hl34; have HB34 := hide hb34
  obtain ⟨n4, hn4l⟩ : ∃ k, k = (d ++ twoB i).length := ⟨_, rfl⟩
  rw [← hn4l] at hown4 ⊢
  have HOW := hide hown4
  have HV4 := hide hv4
  clear hbt4 hn4 hl4 hc4 hown4 hv4 hl34 hb34 hn4l
  go_upto_region 4 with fail
  refine wp_region_lit ?_
  refine wpList_plain rfl fun Kt hKt => ?_
  go_simp
  refine hKt _ _ ?_
  clear hKt Kt
  refine wpList_plain rfl fun Kt hKt => ?_
  go_simp
  refine hKt _ _ ?_
  clear hKt Kt
  refine wpList_plain rfl fun Kt hKt => ?_
  obtain ⟨v6, V6, hr6, hown6, hg6⟩ := run_append_B (unhide HOW) 22 A c (((unhide HA).keep (unhide HB1)).keep (unhide HV4)) (unhide HN).2.2.1 (by rw [unhide HL34, ← (unhide HN).1]; have := unhide HN; omega) (unhide HV4).size
  rw [← (unhide HN).1] at hr6
  have hv6 := grown_below (unhide HV4) hg6 (fun k hk => ((unhide HOW).lt k hk).1)
  refine wp_append (.tmp 23) (.tmp 24) 22 rfl _ _ v6 V6 rfl rfl hr6 ?_
  refine hKt _ _ ?_
  clear hKt Kt hr6 hg6
  try simp only [List.getElem_toArray, List.getElem_cons_zero, List.getElem_cons_succ, Act.put, List.setIfInBounds_toArray, List.set_cons_zero, List.set_cons_succ]
  obtain ⟨L, hL⟩ : ∃ L, L = (d ++ twoB i) ++ msg := ⟨_, rfl⟩
  have hbL : ∀ x ∈ L, Byt x := by
    intro x hx
    rw [hL] at hx
    rcases List.mem_append.1 hx with h | h
    · exact unhide HB34 x h
    · exact (unhide HA).byt x h
  have hlL : L.length ≤ 70000 := by rw [hL, List.length_append, unhide HL34, ← (unhide HN).1]; have := unhide HN; omega
  rw [← hL] at hown6
  obtain ⟨A6, c6, rfl, hc6, hbt6, hn6, hl6⟩ := own_formB hown6 hbL
  have hsm := rtag_any V6 ⟨#[109, 101, 115, 115, 97, 103, 101]⟩ A6 c6 L hbt6 hc6 hn6 (by omega) (by decide)
  obtain ⟨D, hD5⟩ : ∃ T, T = msgS d i msg := ⟨_, rfl⟩
  rw [show sb ⟨#[109, 101, 115, 115, 97, 103, 101]⟩ = MSGB by decide, show tagF MSGB L = D by rw [hD5, hL, List.append_assoc]; rfl] at hsm
  have HD5 := hide hD5
  have hgD : Dg D := hD5 ▸ dg_hash _
  obtain ⟨nL, hnL⟩ : ∃ k, k = L.length := ⟨_, rfl⟩
  rw [← hnL] at hsm ⊢
  obtain ⟨ct, hct⟩ : ∃ cs, cs = (D.map (Value.int .u8)).toArray := ⟨_, rfl⟩
  rw [show dv D = .agg ct by rw [hct]] at hsm
  have HCT := hide hct
  have HGD := hide hgD
  have HB6 := hide (thenB (unhide HB1) hv6)
  clear hD5 hgD hct hnL hlL hbL hL hown6 hc6 hbt6 hn6 hl6 hv6 HOW HV4
  refine wpList_plain rfl fun Kt hKt => ?_
  go_simp
  refine hsm.mono ?_; rintro x V7 ⟨rfl, hb7⟩
  dsimp only
  refine hKt _ _ ?_
  clear hKt Kt hsm
  have HB7 := hide (thenB (unhide HB6) hb7)
  clear hb7
  try simp only [List.getElem_toArray, List.getElem_cons_zero, List.getElem_cons_succ, Act.put, List.setIfInBounds_toArray, List.set_cons_zero, List.set_cons_succ]
  refine wpList_plain rfl fun Kt hKt => ?_
  go_simp
  refine hKt _ _ ?_
  clear hKt Kt
  generalize hX8 : V7.alloc _ = V8
  have hB8 : Below V7.heap.size V7 V8 := hX8 ▸ (Below.refl _ _).alloc (Nat.le_refl _) _
  have HO8 := hide (newBy V7 V8 (by rw [← hX8]; rfl))
  have HB8 := hide hB8
  obtain ⟨N, hNN⟩ : ∃ N, N = V7.heap.size := ⟨_, rfl⟩
  have HNN : Hid (N = V7.heap.size ∧ w.heap.size ≤ N) := ⟨hNN, by rw [hNN]; exact (unhide HB7).size⟩
  rw [← hNN] at HO8 ⊢
  clear hX8 hB8 hNN
  refine wpList_bstore rfl 24 (.tmp 8) (.tmp 26) rfl N rfl D (show Value.agg ct = _ by rw [unhide HCT]) 32 info32 (unhide HGD).len _ zeros (unhide HO8) rfl ?_
  intro V9 HV9 HG9
  have hB9 : Below w.heap.size w V9 := (thenB (unhide HB7) (unhide HB8)).grown (unhide HG9) (thenB (unhide HB7) (unhide HB8)).size (fun i e => by injection e with e; have := unhide HNN; omega)
  have HB9 := hide hB9
  clear hB9 HG9 HB8 HB7 HO8 HB6
  try simp only [List.getElem_toArray, List.getElem_cons_zero, List.getElem_cons_succ, Act.put, List.setIfInBounds_toArray, List.set_cons_zero, List.set_cons_succ]
  go_upto_region 5 with fail
  refine wp_region_lit ?_
  refine wpList_plain rfl fun Kt hKt => ?_
  go_simp
  refine hKt _ _ ?_
  clear hKt Kt
  generalize hX : V9.alloc _ = wc
  have hvc : Below V9.heap.size V9 wc := hX ▸ (Below.refl _ _).alloc (Nat.le_refl _) _
  have hownc : OwnL wc V9.heap.size (.slice (some ⟨V9.heap.size, 0, none⟩) 0 0) [] := hX ▸ World.ownsRow_lit V9 #[] 0 (Nat.le_refl _) (Nat.zero_le _) rfl
  have HVC := hide hvc
  have HOC := hide hownc
  clear hX hvc hownc
  go_wp2_with fail
  go_loopg [9, 10] 64 (fun g y9 y10 wx => ∃ (j : Nat), g + j = 64 ∧ y10 = .int .i64 (j : Int) ∧ OwnL wx V9.heap.size y9 ((bitsS d i msg).take j) ∧ Below V9.heap.size V9 wx)
  case atStart => exact ⟨0, rfl, rfl, unhide HOC, unhide HVC⟩
  case round =>
    obtain ⟨j, hj, rfl, hov, hbv⟩ := hrel
    cases gk with
    | zero =>
      obtain rfl : j = 64 := by omega
      rw [List.take_of_length_le (by rw [bitsS_length]; exact Nat.le_refl _)] at hov
      obtain ⟨A9, c9, hv9, hc9, hbl⟩ := own_formL hov
      have H9 : Hid ((bitsS d i msg).length ≤ c9) := hc9
      have HBL := hide hbl; have HBV := hide hbv; have HW9 := hide hv9
      clear hov hc9 hbl hbv hj hv9
      go_wp2_with fail
      go_ret
      exact ⟨A9, c9, by rw [unhide HW9]; rfl, unhide H9, unhide HBL, thenB (unhide HB9) (unhide HBV)⟩
    | succ g =>
      have hj64 : j < 64 := by omega
      have j1 : (j : Int) < 64 := by omega
      have j0 : (0 : Int) ≤ (j : Int) := Int.natCast_nonneg _
      obtain ⟨q, hq⟩ : ∃ q, q = j / 8 := ⟨_, rfl⟩
      obtain ⟨r, hr8⟩ : ∃ r, r = j % 8 := ⟨_, rfl⟩
      obtain ⟨s, hs7⟩ : ∃ s, s = 7 - r := ⟨_, rfl⟩
      have wq : IntKind.i64.wrap ((j : Int) / 8) = (q : Int) := (IntWalk.i64_in _ (by omega)).trans (by omega)
      have wr8 : IntKind.i64.wrap ((j : Int) % 8) = (r : Int) := (IntWalk.i64_in _ (by omega)).trans (by omega)
      have wr9 : (j : Int).tmod 8 = (r : Int) := (Int.tmod_eq_emod_of_nonneg (by omega)).trans (by omega)
      have ws : IntKind.i64.wrap (7 - (r : Int)) = (s : Int) := (IntWalk.i64_in _ (by omega)).trans (by omega)
      have q1 : (q : Int) < 32 := by omega
      have s0 : (0 : Int) ≤ (s : Int) := by omega
      have s8 : (s : Int) < 8 := by omega
      have d0 := ((unhide HV9).keep hbv).cell (j := q) (by rw [(unhide HGD).len]; omega)
      have HQ : Hid (q = j / 8 ∧ r = j % 8 ∧ s = 7 - r) := ⟨hq, hr8, hs7⟩
      clear hq hr8 hs7
      go_upto_region 9 with fail
      refine wp_region_lit ?_
      refine wpList_plain rfl fun Kt hKt => ?_
      go_simp
      refine hKt _ _ ?_
      clear hKt Kt
      refine wpList_plain rfl fun Kt hKt => ?_
      go_simp
      refine hKt _ _ ?_
      clear hKt Kt
      refine wpList_plain rfl fun Kt hKt => ?_
      go_simp
      refine hKt _ _ ?_
      clear hKt Kt
      refine wpList_plain rfl fun Kt hKt => ?_
      go_simp
      refine hKt _ _ ?_
      clear hKt Kt
      refine wpList_plain rfl fun Kt hKt => ?_
      go_simp
      refine hKt _ _ ?_
      clear hKt Kt
      refine wpList_plain rfl fun Kt hKt => ?_
      go_simp
      refine hKt _ _ ?_
      clear hKt Kt
      refine wpList_plain rfl fun Kt hKt => ?_
      go_simp
      refine hKt _ _ ?_
      clear hKt Kt
      refine wpList_plain rfl fun Kt hKt => ?_
      go_simp
      refine hKt _ _ ?_
      clear hKt Kt
      refine wpList_plain rfl fun Kt hKt => ?_
      go_simp
      refine hKt _ _ ?_
      clear hKt Kt
      refine wpList_plain rfl fun Kt hKt => ?_
      go_simp
      refine hKt _ _ ?_
      clear hKt Kt
      refine wpList_plain rfl fun Kt hKt => ?_
      go_simp
      refine hKt _ _ ?_
      clear hKt Kt
      obtain ⟨x, hx⟩ : ∃ x, x = bitS D j := ⟨_, rfl⟩
      have hxx : (bits .and .u8 (D[q]?.getD 0 / 2 ^ s) 1 == 1) = x := by
        rw [hx]
        unfold bitS
        obtain ⟨h1, h2, h3⟩ := unhide HQ
        rw [h3, h2, h1, List.getD_eq_getElem?_getD]
      have htk : (bitsS d i msg).take (j + 1) = (bitsS d i msg).take j ++ [x] := by
        rw [List.take_add_one, show (bitsS d i msg)[j]? = some x by unfold bitsS; rw [List.getElem?_map, List.getElem?_range hj64, hx, unhide HD5]; rfl]
        rfl
      have hlt : ((bitsS d i msg).take j).length ≤ 1000000 := by rw [List.length_take, bitsS_length]; omega
      rw [hxx]
      obtain ⟨v2, W2, hr2, ho2, hg2⟩ := append_L wr V9.heap.size u9 _ x hov hlt hbv.size 45
      rw [← htk] at ho2
      have HR2 := hide hr2; have HO2 := hide ho2
      have HB2 := hide (grown_below (hbv.alloc hbv.size (.cells #[.bool x] 4)) hg2 (fun k hk => (hov.lt k hk).1))
      have HJ : Hid (g + 1 + j = 64) := hj
      clear hxx htk hlt hr2 ho2 hg2 hov hbv hx hj hj64 d0
      refine wpList_plain rfl fun Kt hKt => ?_
      go_simp
      refine hKt _ _ ?_
      clear hKt Kt
      refine wpList_app rfl (.tmp 32) (.tmp 43) 45 45 rfl _ _ v2 W2 rfl rfl (unhide HR2) ?_
      go_wp2_with fail
      go_roundg g
      case measure => omega
      case rel => exact ⟨j + 1, by have := unhide HJ; omega, by push_cast; rfl, unhide HO2, unhide HB2⟩
end Go.Proofs.YtceppmajbkmbdaaDoor
namespace Go.Proofs.YtceppmajbkmbdaaDoor
set_option linter.unusedSimpArgs false
set_option linter.unusedVariables false
open Go.RowKit

/-- what a signature shows, also behind its end -/
def shownT (bits : List Bool) (opened closed : List (List Int)) (j b : Nat) : List Int := if b = bitAt bits j then opnS (opened.getD j []) else closed.getD j zeros
theorem shownT_eq (bits : List Bool) (opened closed : List (List Int)) (hc : closed.length = 64) (j b : Nat) (hj : j < 64) : shownT bits opened closed j b = shownS bits opened closed j b := by
  unfold shownT shownS
  split
  · rfl
  · rw [List.getD_eq_getElem?_getD, List.getD_eq_getElem?_getD, List.getElem?_eq_getElem (by omega)]
    rfl
theorem dg_shownT (bits : List Bool) (opened closed : List (List Int)) (hc : ∀ d ∈ closed, Dg d) (j b : Nat) : Dg (shownT bits opened closed j b) := by
  unfold shownT
  split
  · exact dg_opnS _
  · rw [List.getD_eq_getElem?_getD]
    by_cases hj : j < closed.length
    · rw [List.getElem?_eq_getElem hj]; exact hc _ (List.getElem_mem _)
    · rw [List.getElem?_eq_none (by omega)]; exact dg_zeros
theorem oneT_eq (bits : List Bool) (opened closed : List (List Int)) (hc : closed.length = 64) : tagF ONEB (flatD (pairL (shownT bits opened closed) 64)) = oneS (shownS bits opened closed) := by
  rw [flatD_pair]
  unfold oneS
  rw [halfS_congr _ _ 64 fun j b hj _ => shownT_eq bits opened closed hc j b hj]
theorem dg_climbI (d : List Int) (at_ n : Int) (p : List (List Int)) : Dg (climbI d at_ n p) := by
  unfold climbI
  split
  · exact dg_climb _ _ _ _
  · exact dg_zeros
theorem ver_climb (pub : List Int) (many i : Nat) (h1 : 1 ≤ many) (h2 : many ≤ 4096) (hi : i < many) (bits : List Bool) (opened closed path : List (List Int)) :
    (decide (cerr (i : Int) (many : Int) path.length = 0) && decide (climbI (oneS (shownS bits opened closed)) (i : Int) (many : Int) path = pub)) = verS pub many i bits opened closed path := by
  unfold cerr climbI verS
  by_cases h : path.length = lenP many i
  · have hk : climbOk (i : Int) (many : Int) path.length := ⟨by omega, by omega, by omega, by omega, by rw [Int.toNat_natCast, Int.toNat_natCast]; exact h⟩
    rw [if_pos hk, if_pos hk, Int.toNat_natCast, Int.toNat_natCast]
    simp [h]
  · have hk : ¬ climbOk (i : Int) (many : Int) path.length := fun hk => h (by have := hk.2.2.2.2; rwa [Int.toNat_natCast, Int.toNat_natCast] at this)
    rw [if_neg hk, if_neg hk]
    simp [h]
set_option maxRecDepth 100000 in
set_option maxHeartbeats 4000000 in
theorem rVerify_no (w : World) (pub : List Int) (hp : Dg pub) (many i : Int) (Am : Option Addr) (nm cm : Nat) (A1 : Option Addr) (n1 c1 : Nat) (A2 : Option Addr) (n2 c2 : Nat) (A3 : Option Addr) (n3 c3 : Nat)
    (h : many < 1 ∨ 4096 < many ∨ i < 0 ∨ many ≤ i ∨ n1 ≠ 64 ∨ n2 ≠ 64 ∨ 65536 < nm) :
    Calls Tryd.prog 42 #[dv pub, .int .i64 many, .slice Am nm cm, sigV i A1 n1 c1 A2 n2 c2 A3 n3 c3] w fun x w' => x = .returned (.bool false) ∧ Below w.heap.size w w' := by
  obtain ⟨cd, hcd⟩ : ∃ cs, cs = (pub.map (Value.int .u8)).toArray := ⟨_, rfl⟩
  have hsd : cd.size = 32 := by rw [hcd]; simpa using hp.len
  rw [show dv pub = .agg cd by rw [hcd]]
  unfold sigV
  have hb2 : ∀ o o' : Obj, Below w.heap.size w ((w.alloc o).alloc o') := fun o o' => ((Below.refl _ _).alloc (Nat.le_refl _) _).alloc (by simp) _
  have HB := hide hb2
  clear hcd hp hb2
  by_cases a1 : many < 1
  · clear h
    go_enter Tryd.func42, Tryd.ntmps42
    go_wp2_with fail
    go_ret
    exact ⟨rfl, unhide HB _ _⟩
  by_cases a2 : 4096 < many
  · clear h
    go_enter Tryd.func42, Tryd.ntmps42
    go_wp2_with fail
    go_ret
    exact ⟨rfl, unhide HB _ _⟩
  by_cases a3 : i < 0
  · clear h
    go_enter Tryd.func42, Tryd.ntmps42
    go_wp2_with fail
    go_ret
    exact ⟨rfl, unhide HB _ _⟩
  by_cases a4 : many ≤ i
  · clear h
    go_enter Tryd.func42, Tryd.ntmps42
    go_wp2_with fail
    go_ret
    exact ⟨rfl, unhide HB _ _⟩
  by_cases a5 : (n1 : Int) = 64
  · by_cases a6 : (n2 : Int) = 64
    · have a7 : (65536 : Int) < (nm : Int) := by omega
      clear h
      go_enter Tryd.func42, Tryd.ntmps42
      go_wp2_with fail
      go_ret
      exact ⟨rfl, unhide HB _ _⟩
    · clear h
      go_enter Tryd.func42, Tryd.ntmps42
      go_wp2_with fail
      go_ret
      exact ⟨rfl, unhide HB _ _⟩
  · clear h
    go_enter Tryd.func42, Tryd.ntmps42
    go_wp2_with fail
    go_ret
    exact ⟨rfl, unhide HB _ _⟩
set_option maxRecDepth 100000 in
set_option maxHeartbeats 4000000 in
theorem Verify_no2 (w : World) (pub : List Int) (hp : Dg pub) (many i : Int) (Am : Option Addr) (nm cm : Nat) (A1 : Option Addr) (n1 c1 : Nat) (A2 : Option Addr) (n2 c2 : Nat) (A3 : Option Addr) (n3 c3 : Nat)
    (h : many < 1 ∨ 4096 < many ∨ i < 0 ∨ many ≤ i ∨ n1 ≠ 64 ∨ n2 ≠ 64 ∨ 65536 < nm) :
    Calls Tryd.prog 41 #[dv pub, .int .i64 many, .slice Am nm cm, sigV i A1 n1 c1 A2 n2 c2 A3 n3 c3] w fun x w' => x = .returned (.bool false) ∧ Below w.heap.size w w' := by
  obtain ⟨cd, hcd⟩ : ∃ cs, cs = (pub.map (Value.int .u8)).toArray := ⟨_, rfl⟩
  have hsd : cd.size = 32 := by rw [hcd]; simpa using hp.len
  rw [show dv pub = .agg cd by rw [hcd]]
  unfold sigV
  have hb2 : ∀ o o' : Obj, Below w.heap.size w ((w.alloc o).alloc o') := fun o o' => ((Below.refl _ _).alloc (Nat.le_refl _) _).alloc (by simp) _
  have HB := hide hb2
  clear hcd hp hb2
  by_cases a1 : many < 1
  · clear h
    go_enter Tryd.func41, Tryd.ntmps41
    go_wp2_with fail
    go_ret
    exact ⟨rfl, unhide HB _ _⟩
  by_cases a2 : 4096 < many
  · clear h
    go_enter Tryd.func41, Tryd.ntmps41
    go_wp2_with fail
    go_ret
    exact ⟨rfl, unhide HB _ _⟩
  by_cases a3 : i < 0
  · clear h
    go_enter Tryd.func41, Tryd.ntmps41
    go_wp2_with fail
    go_ret
    exact ⟨rfl, unhide HB _ _⟩
  by_cases a4 : many ≤ i
  · clear h
    go_enter Tryd.func41, Tryd.ntmps41
    go_wp2_with fail
    go_ret
    exact ⟨rfl, unhide HB _ _⟩
  by_cases a5 : (n1 : Int) = 64
  · by_cases a6 : (n2 : Int) = 64
    · have a7 : (65536 : Int) < (nm : Int) := by omega
      clear h
      go_enter Tryd.func41, Tryd.ntmps41
      go_wp2_with fail
      go_ret
      exact ⟨rfl, unhide HB _ _⟩
    · clear h
      go_enter Tryd.func41, Tryd.ntmps41
      go_wp2_with fail
      go_ret
      exact ⟨rfl, unhide HB _ _⟩
  · clear h
    go_enter Tryd.func41, Tryd.ntmps41
    go_wp2_with fail
    go_ret
    exact ⟨rfl, unhide HB _ _⟩
set_option maxRecDepth 100000 in
set_option maxHeartbeats 1000000 in
theorem short_any (w : World) (i : Int) (A1 : Option Addr) (n1 c1 : Nat) (A2 : Option Addr) (n2 c2 : Nat) (A3 : Option Addr) (n3 c3 : Nat) :
    Calls Tryd.prog 40 #[sigV i A1 n1 c1 A2 n2 c2 A3 n3 c3] w fun x w' => x = .returned (.bool (decide (n1 ≤ 100 ∧ n2 ≤ 100 ∧ n3 ≤ 20))) ∧ Below w.heap.size w w' := by
  unfold sigV
  have hb2 : ∀ o : Obj, Below w.heap.size w (w.alloc o) := fun o => (Below.refl _ _).alloc (Nat.le_refl _) _
  have HB := hide hb2
  clear hb2
  by_cases a1 : (n1 : Int) ≤ 100
  · by_cases a2 : (n2 : Int) ≤ 100
    · by_cases a3 : (n3 : Int) ≤ 20
      · rw [decide_eq_true (by omega)]
        go_enter Tryd.func40, Tryd.ntmps40
        go_wp2_with fail
        go_ret
        exact ⟨rfl, unhide HB _⟩
      · rw [decide_eq_false (by omega)]
        go_enter Tryd.func40, Tryd.ntmps40
        go_wp2_with fail
        go_ret
        exact ⟨rfl, unhide HB _⟩
    · rw [decide_eq_false (by omega)]
      go_enter Tryd.func40, Tryd.ntmps40
      go_wp2_with fail
      go_ret
      exact ⟨rfl, unhide HB _⟩
  · rw [decide_eq_false (by omega)]
    go_enter Tryd.func40, Tryd.ntmps40
    go_wp2_with fail
    go_ret
    exact ⟨rfl, unhide HB _⟩
theorem shownT_bit (bits : List Bool) (opened closed : List (List Int)) (j b : Nat) : shownT bits opened closed j b = if b = bitAt bits j then opnS (opened.getD j []) else closed.getD j zeros := rfl
set_option maxRecDepth 100000 in
set_option maxHeartbeats 8000000 in
theorem rVerify_any (w : World) (pub : List Int) (hp : Dg pub) (many i : Nat) (h1 : 1 ≤ many) (h2 : many ≤ 4096) (hi : i < many) (Am : Option Addr) (nm cm : Nat) (msg : List Int) (hnm : nm = msg.length) (hcm : nm ≤ cm) (hAm : Bt w Am msg) (hAm0 : Am = none → cm = 0) (h65 : nm ≤ 65536)
    (A1 : Option Addr) (c1 : Nat) (opened : List (List Int)) (hs1 : Sg64 w A1 c1 opened) (A2 : Option Addr) (c2 : Nat) (closed : List (List Int)) (hs2 : Sg64 w A2 c2 closed) (A3 : Option Addr) (n3 c3 : Nat) (path : List (List Int)) (hn3 : n3 = path.length) (hc3 : n3 ≤ c3) (hA3 : Ds w A3 path) :
    Calls Tryd.prog 42 #[dv pub, .int .i64 (many : Int), .slice Am nm cm, sigV (i : Int) A1 64 c1 A2 64 c2 A3 n3 c3] w fun x w' => x = .returned (.bool (verS pub many i (bitsS pub i msg) opened closed path)) ∧ Below w.heap.size w w' := by
  obtain ⟨bs, hbs⟩ : ∃ b, b = bitsS pub i msg := ⟨_, rfl⟩
  rw [← hbs]
  have hbl : bs.length = 64 := by rw [hbs]; exact bitsS_length _ _ _
  rw [← ver_climb pub many i h1 h2 hi bs opened closed path]
  obtain ⟨O, hO⟩ : ∃ O, O = oneS (shownS bs opened closed) := ⟨_, rfl⟩
  obtain ⟨C, hC⟩ : ∃ C, C = climbI O (i : Int) (many : Int) path := ⟨_, rfl⟩
  obtain ⟨e, he⟩ : ∃ e, e = cerr (i : Int) (many : Int) path.length := ⟨_, rfl⟩
  rw [← hO, ← hC, ← he]
  have hgO : Dg O := hO ▸ dg_hash _
  have hgC : Dg C := hC ▸ dg_climbI _ _ _ _
  have he01 : e = 0 ∨ e = 1 := by
    rw [he]
    unfold cerr
    split
    · exact .inl rfl
    · exact .inr rfl
  obtain ⟨q1, r1, rfl, hr1⟩ := hs1.at_.at_ (fun e => by have := hs1.len; rw [e] at this; simp at this)
  obtain ⟨q2, r2, rfl, hr2⟩ := hs2.at_.at_ (fun e => by have := hs2.len; rw [e] at this; simp at this)
  have HM := hide hAm; have HP := hide hp; have HS1 := hide hs1; have HS2 := hide hs2; have HA3 := hide hA3; have HBS := hide hbs; have HBL := hide hbl; have HGC := hide hgC
  have HR1 := hide hr1; have HR2 := hide hr2
  have HN : Hid (1 ≤ many ∧ many ≤ 4096 ∧ i < many ∧ nm = msg.length ∧ nm ≤ cm ∧ (Am = none → cm = 0) ∧ nm ≤ 65536 ∧ n3 = path.length ∧ n3 ≤ c3) := ⟨h1, h2, hi, hnm, hcm, hAm0, h65, hn3, hc3⟩
  have m1 : ¬ (many : Int) < 1 := by omega
  have m2 : ¬ 4096 < (many : Int) := by omega
  have i0 : ¬ (i : Int) < 0 := by omega
  have i1 : ¬ (many : Int) ≤ (i : Int) := by omega
  have n65 : ¬ (65536 : Int) < (nm : Int) := by omega
  have k64a : (64 : Int) ≤ (c1 : Int) := by have := hs1.cap; omega
  have k64b : (64 : Int) ≤ (c2 : Int) := by have := hs2.cap; omega
  obtain ⟨cd, hcd⟩ : ∃ cs, cs = (pub.map (Value.int .u8)).toArray := ⟨_, rfl⟩
  have hsd : cd.size = 32 := by rw [hcd]; simpa using hp.len
  have HCD := hide hcd
  rw [show dv pub = .agg cd by rw [hcd]]
  obtain ⟨cO, hcO⟩ : ∃ cs, cs = (O.map (Value.int .u8)).toArray := ⟨_, rfl⟩
  have hsO : cO.size = 32 := by rw [hcO]; simpa using hgO.len
  have HCO := hide hcO
  obtain ⟨cC, hcC⟩ : ∃ cs, cs = (C.map (Value.int .u8)).toArray := ⟨_, rfl⟩
  have hsC : cC.size = 32 := by rw [hcC]; simpa using hgC.len
  have HCC := hide hcC
  have HE := hide he01
  have HCLIMB : Hid (∀ V, Below w.heap.size w V → Calls Tryd.prog 21 #[.agg cO, .int .i64 (i : Int), .int .i64 (many : Int), .slice A3 n3 c3] V fun x w' => x = .returned (.tuple #[.agg cC, .int .i64 e]) ∧ Below V.heap.size V w') := fun V hV => by
    have := rClimb_all O hgO (i : Int) (many : Int) path A3 c3 V (hA3.keep hV) (by omega)
    unfold ClimbC at this
    rw [← hC, ← he, ← hn3, show dv O = .agg cO by rw [hcO], show dv C = .agg cC by rw [hcC]] at this
    exact this
  have HBITS : Hid (∀ V, Below w.heap.size w V → Calls Tryd.prog 32 #[.agg cd, .int .i64 (i : Int), .slice Am nm cm] V fun x w' => ∃ A9 c9, x = .returned (.slice A9 64 c9) ∧ 64 ≤ c9 ∧ Bl w' A9 bs ∧ Below V.heap.size V w') := fun V hV => by
    have := rBits_ok V pub hp i (by omega) Am nm cm msg hnm hcm (hAm.keep hV) hAm0 h65
    rw [← hbs, hbl, show dv pub = .agg cd by rw [hcd]] at this
    exact this
  obtain ⟨f, hf⟩ : ∃ f : Nat → Nat → List Int, f = shownT bs opened closed := ⟨_, rfl⟩
  have hgf : ∀ j b, Dg (f j b) := fun j b => by rw [hf]; exact dg_shownT bs opened closed hs2.at_.dg j b
  have HONE : Hid (∀ (V : World) (A : Option Addr) (c : Nat), 2 * 64 ≤ c → Ds V A (pairL f 64) → Calls Tryd.prog 81 #[.slice A (2 * 64) c] V fun x w' => x = .returned (.agg cO) ∧ Below V.heap.size V w') := fun V A c hc hA => by
    have := rone_any V A (2 * 64) c (pairL f 64) (pairL_length f 64).symm hc (by omega) hA
    rw [hf, oneT_eq bs opened closed hs2.len, ← hO, show dv O = .agg cO by rw [hcO]] at this
    exact this
  have HFE := hide hf; have HGF := hide hgf
  unfold sigV
  clear hp h1 h2 hi hnm hcm hAm hAm0 h65 hs1 hs2 hn3 hc3 hA3 hbs hbl hgC he he01 hcd hO hgO hcO hC hcC hr1 hr2 hf hgf
  go_enter Tryd.func42, Tryd.ntmps42
  go_upto_region 1 with fail
  generalize hX1 : w.alloc _ = W1
  have hB1 : Below w.heap.size w W1 := hX1 ▸ (Below.refl _ _).alloc (Nat.le_refl _) _
  have ho1 : ByAt W1 w.heap.size 24 pub := boxed w W1 pub _ (by rw [← hX1, unhide HCD]; rfl)
  have hz1 : W1.heap.size = w.heap.size + 1 := by rw [← hX1]; show (w.heap.push _).size = _; rw [Array.size_push]
  generalize hX2 : W1.alloc _ = W2
  have hB2 : Below W1.heap.size W1 W2 := hX2 ▸ (Below.refl _ _).alloc (Nat.le_refl _) _
  have ho2 : VsAt W2 W1.heap.size 52 [.int .i64 (i : Int), .slice (some ⟨q1, r1, none⟩) 64 c1, .slice (some ⟨q2, r2, none⟩) 64 c2, .slice A3 n3 c3] := boxedV W1 W2 _ _ (by rw [← hX2]; rfl)
  rw [hz1] at ho2
  have d0 : W2.cell? ⟨w.heap.size + 1, 0, none⟩ = some (.int .i64 (i : Int)) := ho2.cell rfl
  have d1 : W2.cell? ⟨w.heap.size + 1, 1, none⟩ = some (.slice (some ⟨q1, r1, none⟩) 64 c1) := ho2.cell rfl
  have d2 : W2.cell? ⟨w.heap.size + 1, 2, none⟩ = some (.slice (some ⟨q2, r2, none⟩) 64 c2) := ho2.cell rfl
  have HK1 := hide (ho1.keep hB2); have HK2 := hide ho2
  have HB2 := hide (thenB hB1 hB2)
  clear hX1 hX2 hB1 hB2 ho1 ho2 hz1
  go_upto_region 3 with fail
  refine wp_region_lit ?_
  refine wpList_bload rfl 24 (.tmp 4) rfl w.heap.size rfl _ Tryd.underlying24 rfl 32 info32 _ pub (unhide HK1) (unhide HP).len ?_
  rw [show dv pub = .agg cd by rw [unhide HCD]]
  go_wp2_with fail
  refine ((unhide HBITS) W2 (unhide HB2)).mono ?_; rintro x W3 ⟨A9, c9, rfl, hc9, hL9, hB3⟩
  obtain ⟨b9, o9, rfl, hbit⟩ := hL9 (fun e => by have := unhide HBL; rw [e] at this; simp at this)
  have HB23 := hide hB3
  have HBIT := hide hbit
  have k64c : (64 : Int) ≤ (c9 : Int) := by omega
  clear hB3 hL9 hc9 hbit d0 d1 d2
  go_upto_region 4 with fail
  obtain ⟨wo, hwo⟩ : ∃ x, x = W3 := ⟨W3, rfl⟩
  subst hwo
  refine wp_region_lit ?_
  refine wpList_plain rfl fun Kt hKt => ?_
  go_simp
  refine hKt _ _ ?_
  clear hKt Kt
  generalize hX : wo.alloc _ = V1
  have hv1 : Below wo.heap.size wo V1 := hX ▸ (Below.refl _ _).alloc (Nat.le_refl _) _
  have hown1 : OwnD V1 wo.heap.size (.slice (some ⟨wo.heap.size, 0, none⟩) 0 0) [] := hX ▸ World.ownsRow_lit wo #[] 0 (Nat.le_refl _) (Nat.zero_le _) rfl
  have HV1 := hide hv1
  have HO1 := hide hown1
  clear hX hv1 hown1
  go_wp2_with fail
  go_loopg [10, 11] 64 (fun g y10 y11 wx => ∃ (j : Nat) (v : Value), y10 = v ∧ y11 = .int .i64 (j : Int) ∧ j + g = 64 ∧ OwnD wx wo.heap.size v (pairL f j) ∧ Below wo.heap.size wo wx)
  case atStart => exact ⟨0, _, rfl, rfl, by omega, unhide HO1, unhide HV1⟩
  case round =>
    obtain ⟨j, v, rfl, rfl, hjg, hown, hbel⟩ := hrel
    have HOV := hide hown
    have HBV := hide hbel
    have HBK := hide (unhide HB23)
    have HJG : Hid (j + gk = 64) := hjg
    clear hown hbel
    cases gk with
    | zero =>
      obtain rfl : j = 64 := by omega
      clear hjg
      obtain ⟨A5, c5, rfl, hc5, hd5, hn5⟩ := own_form (unhide HOV) (dg_pairL (unhide HGF) 64)
      rw [pairL_length] at hc5 ⊢
      have HD5 := hide hd5; have HC5 := hide hc5
      have HBW := hide (thenB (unhide HB2) (thenB (unhide HB23) (unhide HBV)))
      have HK1r := hide ((unhide HK1).keep (thenB (unhide HB23) (unhide HBV)))
      have HK2r := hide ((unhide HK2).keep (thenB (unhide HB23) (unhide HBV)))
      clear hc5 hd5 hn5 HOV HO1 HV1
      go_upto_region 11 with fail
      go_cut [12, 13] (fun y12 y13 wx => ∃ N, y12 = .pointer (some ⟨N, 0, none⟩) ∧ y13 = .int .i64 e ∧ ByAt wx N 24 C ∧ Below wr.heap.size wr wx)
      case first =>
        obtain ⟨W, hW⟩ : ∃ W, W = wr.drewN 1 := ⟨_, rfl⟩
        have HW : Hid (W = wr.drewN 1) := hW
        have hSW : Below wr.heap.size wr W := below_named HW
        clear hW
        refine held (S := Below wr.heap.size wr) W HW (by kernel_rfl) ?_
        refine wpAnyH_take (i := 0) (v := ?_) rfl (by kernel_rfl) (by kernel_rfl) (by kernel_rfl) (fun _ _ _ h => h) (Or.inl ⟨by kernel_rfl, ?_⟩) (by assumption) ?_
        rotate_left
        · intro Wt hSt
          go_simp
          try with_reducible rfl
        try simp only [List.getElem_toArray, List.getElem_cons_zero, List.getElem_cons_succ, Act.put, List.setIfInBounds_toArray, List.set_cons_zero, List.set_cons_succ]
        refine wpAnyH_take (i := 2) (v := ?_) rfl (by kernel_rfl) (by kernel_rfl) (by kernel_rfl) (fun _ _ _ h => h) (Or.inl ⟨by kernel_rfl, ?_⟩) (by assumption) ?_
        rotate_left
        · intro Wt hSt
          go_simp
          try with_reducible rfl
        try simp only [List.getElem_toArray, List.getElem_cons_zero, List.getElem_cons_succ, Act.put, List.setIfInBounds_toArray, List.set_cons_zero, List.set_cons_succ]
        refine wpAnyH_take (i := 3) (v := ?_) rfl (by kernel_rfl) (by kernel_rfl) (by kernel_rfl) (fun _ _ _ h => h) (Or.inl ⟨by kernel_rfl, ?_⟩) (by assumption) ?_
        rotate_left
        · intro Wt hSt
          have hct := (show Wt.cell? ⟨w.heap.size + 1, 0, none⟩ = some (.int .i64 (i : Int)) from ((unhide HK2r).keep hSt).cell rfl)
          go_simp
          try with_reducible rfl
        try simp only [List.getElem_toArray, List.getElem_cons_zero, List.getElem_cons_succ, Act.put, List.setIfInBounds_toArray, List.set_cons_zero, List.set_cons_succ]
        refine wpAnyH_take (i := 4) (v := ?_) rfl (by kernel_rfl) (by kernel_rfl) (by kernel_rfl) (fun _ _ _ h => h) (Or.inl ⟨by kernel_rfl, ?_⟩) (by assumption) ?_
        rotate_left
        · intro Wt hSt
          go_simp
          try with_reducible rfl
        try simp only [List.getElem_toArray, List.getElem_cons_zero, List.getElem_cons_succ, Act.put, List.setIfInBounds_toArray, List.set_cons_zero, List.set_cons_succ]
        refine wpAnyH_take (i := 5) (v := ?_) rfl (by kernel_rfl) (by kernel_rfl) (by kernel_rfl) (fun _ _ _ h => h) (Or.inl ⟨by kernel_rfl, ?_⟩) (by assumption) ?_
        rotate_left
        · intro Wt hSt
          go_simp
          try with_reducible rfl
        try simp only [List.getElem_toArray, List.getElem_cons_zero, List.getElem_cons_succ, Act.put, List.setIfInBounds_toArray, List.set_cons_zero, List.set_cons_succ]
        refine wpAnyH_take (i := 6) (v := ?_) rfl (by kernel_rfl) (by kernel_rfl) (by kernel_rfl) (fun _ _ _ h => h) (Or.inl ⟨by kernel_rfl, ?_⟩) (by assumption) ?_
        rotate_left
        · intro Wt hSt
          have hct := (show Wt.cell? ⟨w.heap.size + 1, 3, none⟩ = some (.slice A3 n3 c3) from ((unhide HK2r).keep hSt).cell rfl)
          go_simp
          try with_reducible rfl
        try simp only [List.getElem_toArray, List.getElem_cons_zero, List.getElem_cons_succ, Act.put, List.setIfInBounds_toArray, List.set_cons_zero, List.set_cons_succ]
        refine wpAnyH_all (show Region.ready .any _ _ = [1, 11] by kernel_rfl) (by simp) fun x hx => ?_
        rcases (by simpa using hx : x = 1 ∨ x = 11) with rfl | rfl
        · clear hx
          refine wpOp_one 1 _ rfl (by kernel_rfl) fun K hK => ?_
          go_simp
          refine ((unhide HONE) W A5 c5 (unhide HC5) ((unhide HD5).keep hSW)).mono ?_; rintro x Z1 ⟨rfl, hb1⟩
          dsimp only
          have hS1 := thenB hSW hb1
          refine hK _ _ ⟨hS1, ?_⟩
          clear hK K
          try simp only [List.getElem_toArray, List.getElem_cons_zero, List.getElem_cons_succ, Act.put, List.setIfInBounds_toArray, List.set_cons_zero, List.set_cons_succ]
          refine wpAnyH_all (show Region.ready .any _ _ = [7, 11] by kernel_rfl) (by simp) fun x hx => ?_
          rcases (by simpa using hx : x = 7 ∨ x = 11) with rfl | rfl
          · clear hx
            refine wpOp_one 7 _ rfl (by kernel_rfl) fun K hK => ?_
            go_simp
            refine ((unhide HCLIMB) Z1 (thenB (unhide HBW) hS1)).mono ?_; rintro x Z2 ⟨rfl, hb2⟩
            dsimp only
            have hS2 := thenB hS1 hb2
            refine hK _ _ ⟨hS2, ?_⟩
            clear hK K
            try simp only [List.getElem_toArray, List.getElem_cons_zero, List.getElem_cons_succ, Act.put, List.setIfInBounds_toArray, List.set_cons_zero, List.set_cons_succ]
            refine wpAnyH_take (i := 8) (v := ?_) rfl (by kernel_rfl) (by kernel_rfl) (by kernel_rfl) (fun _ _ _ h => h) (Or.inl ⟨by kernel_rfl, ?_⟩) (by assumption) ?_
            rotate_left
            · intro Wt hSt
              go_simp
              try with_reducible rfl
            try simp only [List.getElem_toArray, List.getElem_cons_zero, List.getElem_cons_succ, Act.put, List.setIfInBounds_toArray, List.set_cons_zero, List.set_cons_succ]
            refine wpAnyH_take (i := 9) (v := ?_) rfl (by kernel_rfl) (by kernel_rfl) (by kernel_rfl) (fun _ _ _ h => h) (Or.inl ⟨by kernel_rfl, ?_⟩) (by assumption) ?_
            rotate_left
            · intro Wt hSt
              go_simp
              try with_reducible rfl
            try simp only [List.getElem_toArray, List.getElem_cons_zero, List.getElem_cons_succ, Act.put, List.setIfInBounds_toArray, List.set_cons_zero, List.set_cons_succ]
            refine wpAnyH_take (i := 10) (v := ?_) rfl (by kernel_rfl) (by kernel_rfl) (by kernel_rfl) (fun _ _ _ h => h) (Or.inl ⟨by kernel_rfl, ?_⟩) (by assumption) ?_
            rotate_left
            · intro Wt hSt
              go_simp
              try with_reducible rfl
            try simp only [List.getElem_toArray, List.getElem_cons_zero, List.getElem_cons_succ, Act.put, List.setIfInBounds_toArray, List.set_cons_zero, List.set_cons_succ]
            refine wpAnyH_all (show Region.ready .any _ _ = [11] by kernel_rfl) (by simp) fun x hx => ?_
            obtain rfl : x = 11 := by simpa using hx
            clear hx
            refine wpOp_one 11 _ rfl (by kernel_rfl) fun K hK => ?_
            go_simp
            generalize hX3 : Z2.alloc _ = Z3
            have hb3 : Below Z2.heap.size Z2 Z3 := hX3 ▸ (Below.refl _ _).alloc (Nat.le_refl _) _
            have hz3 := newBy Z2 Z3 (by rw [← hX3]; rfl)
            have hS3 := thenB hS2 hb3
            have hle3 : wr.heap.size ≤ Z2.heap.size := hS2.size
            refine hK _ _ ⟨hS3, ?_⟩
            clear hK K
            try simp only [List.getElem_toArray, List.getElem_cons_zero, List.getElem_cons_succ, Act.put, List.setIfInBounds_toArray, List.set_cons_zero, List.set_cons_succ]
            refine wpAnyH_chainOf [12, 13] _ _ _ (by kernel_rfl) (by kernel_rfl) ?_
            simp only [List.filterMap_cons, List.filterMap_nil, List.getElem?_toArray, List.getElem?_cons_zero, List.getElem?_cons_succ]
            refine wpChain_bstore rfl 24 (.tmp 12) (.tmp 99) rfl Z2.heap.size rfl C (show Value.agg cC = _ by rw [unhide HCC]) 32 info32 (unhide HGC).len _ zeros hz3 rfl ?_
            intro X1 HX1 HG1
            have hSx := hS3.grown (unhide HG1) hS3.size (fun i e => by injection e with e; omega)
            refine ⟨hSx, ?_⟩
            refine wpChain_step rfl fun K hK => ?_
            go_simp
            refine hK _ _ hSx (wpChain_nil ?_)
            clear hK K
            go_wp2_with fail
            go_meet
            exact ⟨_, rfl, rfl, unhide HX1, hSx⟩
          · clear hx
            refine wpOp_one 11 _ rfl (by kernel_rfl) fun K hK => ?_
            go_simp
            generalize hX4 : Z1.alloc _ = Z4
            have hb4 : Below Z1.heap.size Z1 Z4 := hX4 ▸ (Below.refl _ _).alloc (Nat.le_refl _) _
            have hz4 := newBy Z1 Z4 (by rw [← hX4]; rfl)
            have hS4 := thenB hS1 hb4
            have hle4 : wr.heap.size ≤ Z1.heap.size := hS1.size
            refine hK _ _ ⟨hS4, ?_⟩
            clear hK K
            try simp only [List.getElem_toArray, List.getElem_cons_zero, List.getElem_cons_succ, Act.put, List.setIfInBounds_toArray, List.set_cons_zero, List.set_cons_succ]
            refine wpAnyH_all (show Region.ready .any _ _ = [7] by kernel_rfl) (by simp) fun x hx => ?_
            obtain rfl : x = 7 := by simpa using hx
            clear hx
            refine wpOp_one 7 _ rfl (by kernel_rfl) fun K hK => ?_
            go_simp
            refine ((unhide HCLIMB) Z4 (thenB (unhide HBW) hS4)).mono ?_; rintro x Z5 ⟨rfl, hb5⟩
            dsimp only
            have hS5 := thenB hS4 hb5
            have hz5 := hz4.keep hb5
            refine hK _ _ ⟨hS5, ?_⟩
            clear hK K
            try simp only [List.getElem_toArray, List.getElem_cons_zero, List.getElem_cons_succ, Act.put, List.setIfInBounds_toArray, List.set_cons_zero, List.set_cons_succ]
            refine wpAnyH_take (i := 8) (v := ?_) rfl (by kernel_rfl) (by kernel_rfl) (by kernel_rfl) (fun _ _ _ h => h) (Or.inl ⟨by kernel_rfl, ?_⟩) (by assumption) ?_
            rotate_left
            · intro Wt hSt
              go_simp
              try with_reducible rfl
            try simp only [List.getElem_toArray, List.getElem_cons_zero, List.getElem_cons_succ, Act.put, List.setIfInBounds_toArray, List.set_cons_zero, List.set_cons_succ]
            refine wpAnyH_take (i := 9) (v := ?_) rfl (by kernel_rfl) (by kernel_rfl) (by kernel_rfl) (fun _ _ _ h => h) (Or.inl ⟨by kernel_rfl, ?_⟩) (by assumption) ?_
            rotate_left
            · intro Wt hSt
              go_simp
              try with_reducible rfl
            try simp only [List.getElem_toArray, List.getElem_cons_zero, List.getElem_cons_succ, Act.put, List.setIfInBounds_toArray, List.set_cons_zero, List.set_cons_succ]
            refine wpAnyH_take (i := 10) (v := ?_) rfl (by kernel_rfl) (by kernel_rfl) (by kernel_rfl) (fun _ _ _ h => h) (Or.inl ⟨by kernel_rfl, ?_⟩) (by assumption) ?_
            rotate_left
            · intro Wt hSt
              go_simp
              try with_reducible rfl
            try simp only [List.getElem_toArray, List.getElem_cons_zero, List.getElem_cons_succ, Act.put, List.setIfInBounds_toArray, List.set_cons_zero, List.set_cons_succ]
            refine wpAnyH_chainOf [12, 13] _ _ _ (by kernel_rfl) (by kernel_rfl) ?_
            simp only [List.filterMap_cons, List.filterMap_nil, List.getElem?_toArray, List.getElem?_cons_zero, List.getElem?_cons_succ]
            refine wpChain_bstore rfl 24 (.tmp 12) (.tmp 99) rfl Z1.heap.size rfl C (show Value.agg cC = _ by rw [unhide HCC]) 32 info32 (unhide HGC).len _ zeros hz5 rfl ?_
            intro X1 HX1 HG1
            have hSx := hS5.grown (unhide HG1) hS5.size (fun i e => by injection e with e; omega)
            refine ⟨hSx, ?_⟩
            refine wpChain_step rfl fun K hK => ?_
            go_simp
            refine hK _ _ hSx (wpChain_nil ?_)
            clear hK K
            go_wp2_with fail
            go_meet
            exact ⟨_, rfl, rfl, unhide HX1, hSx⟩
        · clear hx
          refine wpOp_one 11 _ rfl (by kernel_rfl) fun K hK => ?_
          go_simp
          generalize hX6 : W.alloc _ = Z6
          have hb6 : Below W.heap.size W Z6 := hX6 ▸ (Below.refl _ _).alloc (Nat.le_refl _) _
          have hz6 := newBy W Z6 (by rw [← hX6]; rfl)
          have hS6 := thenB hSW hb6
          have hle6 : wr.heap.size ≤ W.heap.size := hSW.size
          refine hK _ _ ⟨hS6, ?_⟩
          clear hK K
          try simp only [List.getElem_toArray, List.getElem_cons_zero, List.getElem_cons_succ, Act.put, List.setIfInBounds_toArray, List.set_cons_zero, List.set_cons_succ]
          refine wpAnyH_all (show Region.ready .any _ _ = [1] by kernel_rfl) (by simp) fun x hx => ?_
          obtain rfl : x = 1 := by simpa using hx
          clear hx
          refine wpOp_one 1 _ rfl (by kernel_rfl) fun K hK => ?_
          go_simp
          refine ((unhide HONE) Z6 A5 c5 (unhide HC5) ((unhide HD5).keep hS6)).mono ?_; rintro x Z7 ⟨rfl, hb7⟩
          dsimp only
          have hS7 := thenB hS6 hb7
          have hz7 := hz6.keep hb7
          refine hK _ _ ⟨hS7, ?_⟩
          clear hK K
          try simp only [List.getElem_toArray, List.getElem_cons_zero, List.getElem_cons_succ, Act.put, List.setIfInBounds_toArray, List.set_cons_zero, List.set_cons_succ]
          refine wpAnyH_all (show Region.ready .any _ _ = [7] by kernel_rfl) (by simp) fun x hx => ?_
          obtain rfl : x = 7 := by simpa using hx
          clear hx
          refine wpOp_one 7 _ rfl (by kernel_rfl) fun K hK => ?_
          go_simp
          refine ((unhide HCLIMB) Z7 (thenB (unhide HBW) hS7)).mono ?_; rintro x Z8 ⟨rfl, hb8⟩
          dsimp only
          have hS8 := thenB hS7 hb8
          have hz8 := hz7.keep hb8
          refine hK _ _ ⟨hS8, ?_⟩
          clear hK K
          try simp only [List.getElem_toArray, List.getElem_cons_zero, List.getElem_cons_succ, Act.put, List.setIfInBounds_toArray, List.set_cons_zero, List.set_cons_succ]
          refine wpAnyH_take (i := 8) (v := ?_) rfl (by kernel_rfl) (by kernel_rfl) (by kernel_rfl) (fun _ _ _ h => h) (Or.inl ⟨by kernel_rfl, ?_⟩) (by assumption) ?_
          rotate_left
          · intro Wt hSt
            go_simp
            try with_reducible rfl
          try simp only [List.getElem_toArray, List.getElem_cons_zero, List.getElem_cons_succ, Act.put, List.setIfInBounds_toArray, List.set_cons_zero, List.set_cons_succ]
          refine wpAnyH_take (i := 9) (v := ?_) rfl (by kernel_rfl) (by kernel_rfl) (by kernel_rfl) (fun _ _ _ h => h) (Or.inl ⟨by kernel_rfl, ?_⟩) (by assumption) ?_
          rotate_left
          · intro Wt hSt
            go_simp
            try with_reducible rfl
          try simp only [List.getElem_toArray, List.getElem_cons_zero, List.getElem_cons_succ, Act.put, List.setIfInBounds_toArray, List.set_cons_zero, List.set_cons_succ]
          refine wpAnyH_take (i := 10) (v := ?_) rfl (by kernel_rfl) (by kernel_rfl) (by kernel_rfl) (fun _ _ _ h => h) (Or.inl ⟨by kernel_rfl, ?_⟩) (by assumption) ?_
          rotate_left
          · intro Wt hSt
            go_simp
            try with_reducible rfl
          try simp only [List.getElem_toArray, List.getElem_cons_zero, List.getElem_cons_succ, Act.put, List.setIfInBounds_toArray, List.set_cons_zero, List.set_cons_succ]
          refine wpAnyH_chainOf [12, 13] _ _ _ (by kernel_rfl) (by kernel_rfl) ?_
          simp only [List.filterMap_cons, List.filterMap_nil, List.getElem?_toArray, List.getElem?_cons_zero, List.getElem?_cons_succ]
          refine wpChain_bstore rfl 24 (.tmp 12) (.tmp 99) rfl W.heap.size rfl C (show Value.agg cC = _ by rw [unhide HCC]) 32 info32 (unhide HGC).len _ zeros hz8 rfl ?_
          intro X1 HX1 HG1
          have hSx := hS8.grown (unhide HG1) hS8.size (fun i e => by injection e with e; omega)
          refine ⟨hSx, ?_⟩
          refine wpChain_step rfl fun K hK => ?_
          go_simp
          refine hK _ _ hSx (wpChain_nil ?_)
          clear hK K
          go_wp2_with fail
          go_meet
          exact ⟨_, rfl, rfl, unhide HX1, hSx⟩
      case rest =>
        obtain ⟨NC, rfl, rfl, hC, hb⟩ := hcut
        have HC9 := hide hC
        have HP9 := hide ((unhide HK1r).keep hb)
        have HB9 := hide (thenB (unhide HBW) hb)
        clear hC hb
        rcases unhide HE with rfl | rfl
        · go_upto_region 12 with fail
          refine wp_region_lit ?_
          refine wpList_wanted (by kernel_rfl) fun Kt hKt => ?_
          go_simp
          refine hKt _ _ ?_
          clear hKt Kt
          refine wpList_wanted (by kernel_rfl) fun Kt hKt => ?_
          go_simp
          refine hKt _ _ ?_
          clear hKt Kt
          refine wpList_wanted (by kernel_rfl) fun Kt hKt => ?_
          go_simp
          refine hKt _ _ ?_
          clear hKt Kt
          refine wpList_gload (by kernel_rfl) 24 (.tmp 12) rfl NC rfl _ Tryd.underlying24 rfl 32 info32 _ C (unhide HC9) (unhide HGC).len ?_
          refine wpList_gload (by kernel_rfl) 24 (.tmp 4) rfl w.heap.size rfl _ Tryd.underlying24 rfl 32 info32 _ pub (unhide HP9) (unhide HP).len ?_
          refine wpList_eql (by kernel_rfl) (.tmp 104) (.tmp 105) _ rfl C pub rfl rfl (unhide HGC).len (unhide HP).len ?_
          obtain ⟨b, hb⟩ : ∃ b, b = decide (C = pub) := ⟨_, rfl⟩
          rw [← hb, show dv C = .agg cC by rw [unhide HCC], show dv pub = .agg cd by rw [unhide HCD]]
          have HB := hide hb
          clear hb
          try simp only [List.getElem_toArray, List.getElem_cons_zero, List.getElem_cons_succ, Act.put, List.setIfInBounds_toArray, List.set_cons_zero, List.set_cons_succ]
          go_wp2_with fail
          go_ret
          refine ⟨?_, unhide HB9⟩
          rw [← unhide HB]
          simp
        · go_wp2_with fail
          go_ret
          exact ⟨by simp, unhide HB9⟩
    | succ g2 =>
      have j1 : (j : Int) < 64 := by omega
      have j0 : (0 : Int) ≤ (j : Int) := Int.natCast_nonneg _
      have hj64 : j < 64 := by omega
      obtain ⟨x, hx⟩ : ∃ x, opened[j]? = some x := ⟨_, List.getElem?_eq_getElem (by rw [(unhide HS1).len]; omega)⟩
      obtain ⟨y, hy⟩ : ∃ y, closed[j]? = some y := ⟨_, List.getElem?_eq_getElem (by rw [(unhide HS2).len]; omega)⟩
      have hgx : Dg x := (unhide HS1).at_.dg x (List.mem_of_getElem? hx)
      have hgy : Dg y := (unhide HS2).at_.dg y (List.mem_of_getElem? hy)
      obtain ⟨cx, hcx⟩ : ∃ cs, cs = (x.map (Value.int .u8)).toArray := ⟨_, rfl⟩
      obtain ⟨cy, hcy⟩ : ∃ cs, cs = (y.map (Value.int .u8)).toArray := ⟨_, rfl⟩
      obtain ⟨t, ht⟩ : ∃ t, t = opnS x := ⟨_, rfl⟩
      have hgt : Dg t := ht ▸ dg_opnS _
      obtain ⟨ct, hct⟩ : ∃ cs, cs = (t.map (Value.int .u8)).toArray := ⟨_, rfl⟩
      have HHASH : Hid (∀ V, Calls Tryd.prog 78 #[.agg cx] V fun x w' => x = .returned (.agg ct) ∧ Below V.heap.size V w') := fun V => by
        have := rhash_any V x hgx
        rw [← ht, show dv x = .agg cx by rw [hcx], show dv t = .agg ct by rw [hct]] at this
        exact this
      have HGX := hide hgx; have HGY := hide hgy; have HGT := hide hgt; have HCX := hide hcx; have HCY := hide hcy; have HCT := hide hct
      have HRX := hide (rangeAt_keep ((unhide HR1) j x hx) (thenB (unhide HB2) (unhide HB23)))
      have HRY := hide (rangeAt_keep ((unhide HR2) j y hy) (thenB (unhide HB2) (unhide HB23)))
      have HTX : Hid (t = opnS (opened.getD j [])) := by show t = _; rw [ht, List.getD_eq_getElem?_getD, hx]; rfl
      have HYD : Hid (y = closed.getD j zeros) := by show y = _; rw [List.getD_eq_getElem?_getD, hy]; rfl
      obtain ⟨z, hz⟩ : ∃ z, bs[j]? = some z := ⟨_, List.getElem?_eq_getElem (by rw [unhide HBL]; omega)⟩
      have hcb : wr.cell? ⟨b9, o9 + j, none⟩ = some (.bool z) := by
        have h0 := (unhide HBIT) j z hz
        rw [cell_block ((unhide HBV).block b9 (lt_of_cell h0))]
        exact h0
      have hzb : bitAt bs j = bN z := by unfold bitAt; rw [List.getD_eq_getElem?_getD, hz]; rfl
      have HZB := hide hzb
      clear hjg hj64 hx hy hgx hgy hcx hcy ht hgt hct hz hzb
      cases z
      · have HBJ : Hid (bitAt bs j = 0) := unhide HZB
        clear HZB
        have hpair : pairL f (j + 1) = pairL f j ++ [t, y] := by
          rw [pairL_succ, unhide HFE, shownT_bit, shownT_bit, unhide HBJ, ← unhide HTX, ← unhide HYD]
          rfl
        have HPAIR := hide hpair
        clear hpair
        go_wp2_with fail
        obtain ⟨W, hW⟩ : ∃ W, W = wr.drewN 1 := ⟨_, rfl⟩
        have HW : Hid (W = wr.drewN 1) := hW
        have hS : Below wo.heap.size wo W := thenB (unhide HBV) (below_named HW)
        clear hW hcb
        refine held (S := Below wo.heap.size wo) W HW (by kernel_rfl) ?_
        refine wpAnyH_take (i := 0) (v := ?_) rfl (by kernel_rfl) (by kernel_rfl) (by kernel_rfl) (fun _ _ _ h => h) (Or.inl ⟨by kernel_rfl, ?_⟩) (by assumption) ?_
        rotate_left
        · intro Wt hSt
          go_simp
          try with_reducible rfl
        try simp only [List.getElem_toArray, List.getElem_cons_zero, List.getElem_cons_succ, Act.put, List.setIfInBounds_toArray, List.set_cons_zero, List.set_cons_succ]
        refine wpAnyH_take (i := 1) (v := ?_) rfl (by kernel_rfl) (by kernel_rfl) (by kernel_rfl) (fun _ _ _ h => h) (Or.inl ⟨by kernel_rfl, ?_⟩) (by assumption) ?_
        rotate_left
        · intro Wt hSt
          go_simp
          try with_reducible rfl
        try simp only [List.getElem_toArray, List.getElem_cons_zero, List.getElem_cons_succ, Act.put, List.setIfInBounds_toArray, List.set_cons_zero, List.set_cons_succ]
        refine wpAnyH_take (i := 2) (v := ?_) rfl (by kernel_rfl) (by kernel_rfl) (by kernel_rfl) (fun _ _ _ h => h) (Or.inl ⟨by kernel_rfl, ?_⟩) (by assumption) ?_
        rotate_left
        · intro Wt hSt
          have hct := (show Wt.cell? ⟨w.heap.size + 1, 1, none⟩ = some (.slice (some ⟨q1, r1, none⟩) 64 c1) from ((unhide HK2).keep (thenB (unhide HBK) hSt)).cell rfl)
          go_simp
          try with_reducible rfl
        try simp only [List.getElem_toArray, List.getElem_cons_zero, List.getElem_cons_succ, Act.put, List.setIfInBounds_toArray, List.set_cons_zero, List.set_cons_succ]
        refine wpAnyH_take (i := 3) (v := ?_) rfl (by kernel_rfl) (by kernel_rfl) (by kernel_rfl) (fun _ _ _ h => h) (Or.inl ⟨by kernel_rfl, ?_⟩) (by assumption) ?_
        rotate_left
        · intro Wt hSt
          go_simp
          try with_reducible rfl
        try simp only [List.getElem_toArray, List.getElem_cons_zero, List.getElem_cons_succ, Act.put, List.setIfInBounds_toArray, List.set_cons_zero, List.set_cons_succ]
        refine wpAnyH_take (i := 4) (v := ?_) rfl (by kernel_rfl) (by kernel_rfl) (by kernel_rfl) (fun _ _ _ h => h) (Or.inl ⟨by kernel_rfl, ?_⟩) (by assumption) ?_
        rotate_left
        · intro Wt hSt
          go_simp
          try with_reducible rfl
        try simp only [List.getElem_toArray, List.getElem_cons_zero, List.getElem_cons_succ, Act.put, List.setIfInBounds_toArray, List.set_cons_zero, List.set_cons_succ]
        refine wpAnyH_take (i := 5) (v := .agg cx) rfl (by kernel_rfl) (by kernel_rfl) (by kernel_rfl) (fun _ _ _ h => h) (by rw [unhide HCX]; exact yieldsIf_load_mid (by kernel_rfl) 24 (.tmp 80) rfl q1 (r1 + j * 32) rfl (x.map (Value.int .u8)) _ (fun W hS => rangeAt_keep (unhide HRX) hS) Tryd.underlying24 rfl (by rw [List.length_map, (unhide HGX).len]; exact info32)) (by assumption) ?_
        try simp only [List.getElem_toArray, List.getElem_cons_zero, List.getElem_cons_succ, Act.put, List.setIfInBounds_toArray, List.set_cons_zero, List.set_cons_succ]
        refine wpAnyH_take (i := 7) (v := ?_) rfl (by kernel_rfl) (by kernel_rfl) (by kernel_rfl) (fun _ _ _ h => h) (Or.inl ⟨by kernel_rfl, ?_⟩) (by assumption) ?_
        rotate_left
        · intro Wt hSt
          go_simp
          try with_reducible rfl
        try simp only [List.getElem_toArray, List.getElem_cons_zero, List.getElem_cons_succ, Act.put, List.setIfInBounds_toArray, List.set_cons_zero, List.set_cons_succ]
        refine wpAnyH_take (i := 8) (v := ?_) rfl (by kernel_rfl) (by kernel_rfl) (by kernel_rfl) (fun _ _ _ h => h) (Or.inl ⟨by kernel_rfl, ?_⟩) (by assumption) ?_
        rotate_left
        · intro Wt hSt
          have hct := (show Wt.cell? ⟨w.heap.size + 1, 2, none⟩ = some (.slice (some ⟨q2, r2, none⟩) 64 c2) from ((unhide HK2).keep (thenB (unhide HBK) hSt)).cell rfl)
          go_simp
          try with_reducible rfl
        try simp only [List.getElem_toArray, List.getElem_cons_zero, List.getElem_cons_succ, Act.put, List.setIfInBounds_toArray, List.set_cons_zero, List.set_cons_succ]
        refine wpAnyH_take (i := 9) (v := ?_) rfl (by kernel_rfl) (by kernel_rfl) (by kernel_rfl) (fun _ _ _ h => h) (Or.inl ⟨by kernel_rfl, ?_⟩) (by assumption) ?_
        rotate_left
        · intro Wt hSt
          go_simp
          try with_reducible rfl
        try simp only [List.getElem_toArray, List.getElem_cons_zero, List.getElem_cons_succ, Act.put, List.setIfInBounds_toArray, List.set_cons_zero, List.set_cons_succ]
        refine wpAnyH_take (i := 10) (v := ?_) rfl (by kernel_rfl) (by kernel_rfl) (by kernel_rfl) (fun _ _ _ h => h) (Or.inl ⟨by kernel_rfl, ?_⟩) (by assumption) ?_
        rotate_left
        · intro Wt hSt
          go_simp
          try with_reducible rfl
        try simp only [List.getElem_toArray, List.getElem_cons_zero, List.getElem_cons_succ, Act.put, List.setIfInBounds_toArray, List.set_cons_zero, List.set_cons_succ]
        refine wpAnyH_take (i := 11) (v := .agg cy) rfl (by kernel_rfl) (by kernel_rfl) (by kernel_rfl) (fun _ _ _ h => h) (by rw [unhide HCY]; exact yieldsIf_load_mid (by kernel_rfl) 24 (.tmp 86) rfl q2 (r2 + j * 32) rfl (y.map (Value.int .u8)) _ (fun W hS => rangeAt_keep (unhide HRY) hS) Tryd.underlying24 rfl (by rw [List.length_map, (unhide HGY).len]; exact info32)) (by assumption) ?_
        try simp only [List.getElem_toArray, List.getElem_cons_zero, List.getElem_cons_succ, Act.put, List.setIfInBounds_toArray, List.set_cons_zero, List.set_cons_succ]
        refine wpAnyH_chainOf [6, 12, 13, 14] _ _ _ (by kernel_rfl) (by kernel_rfl) ?_
        simp only [List.filterMap_cons, List.filterMap_nil, List.getElem?_toArray, List.getElem?_cons_zero, List.getElem?_cons_succ]
        refine wpChain_step rfl fun K hK => ?_
        go_simp
        refine ((unhide HHASH) W).mono ?_; rintro x U2 ⟨rfl, hb2⟩
        have hS2 := thenB hS hb2
        dsimp only
        refine hK _ _ hS2 ?_
        clear hK K
        refine wpChain_step rfl fun K hK => ?_
        refine wp_two (.tmp 82) (.tmp 87) rfl t y (unhide HGT).len (unhide HGY).len (show Value.agg ct = _ by rw [unhide HCT]) (show Value.agg cy = _ by rw [unhide HCY]) ?_
        generalize hY : U2.alloc _ = U3
        have hb3 : Below U2.heap.size U2 U3 := hY ▸ (Below.refl _ _).alloc (Nat.le_refl _) _
        have hv3 : VsAt U3 U2.heap.size 24 ((t ++ y).map (Value.int .u8)) := boxedV U2 U3 _ _ (by rw [← hY]; rfl)
        have hds := ds_two (unhide HGT) (unhide HGY) hv3
        clear hY
        have hS3 := thenB hS2 hb3
        refine hK _ _ hS3 ?_
        clear hK K
        refine wpChain_step rfl fun K hK => ?_
        have hO3 := (((unhide HOV).later (below_named HW)).later hb2).later hb3
        obtain ⟨v7, U7, hr7, hown7, hg7, _⟩ := append_many hO3 26 (some ⟨U2.heap.size, 0, none⟩) 2 hds (fun h => by cases h) (by rw [pairL_length]; simp; omega) hS3.size
        have hS7 := grown_below hS3 hg7 (fun k hk => (hO3.lt k hk).1)
        refine wp_append (.tmp 76) (.tmp 88) 26 rfl _ _ v7 U7 rfl rfl hr7 ?_
        refine hK _ _ hS7 ?_
        clear hK K
        have HO7 := hide hown7
        have HS7 := hide hS7
        refine wpChain_step rfl fun K hK => ?_
        go_simp
        refine hK _ _ hS7 (wpChain_nil ?_)
        clear hK K hr7 hown7 hg7 hO3 hS3 hds hv3 hS2 hS hb2 hb3 hS7
        go_wp2_with fail
        go_roundg g2
        case measure => omega
        case rel => exact ⟨j + 1, v7, rfl, by push_cast; rfl, by have := unhide HJG; omega, by rw [unhide HPAIR]; exact unhide HO7, unhide HS7⟩
      · have HBJ : Hid (bitAt bs j = 1) := unhide HZB
        clear HZB
        have hpair : pairL f (j + 1) = pairL f j ++ [y, t] := by
          rw [pairL_succ, unhide HFE, shownT_bit, shownT_bit, unhide HBJ, ← unhide HTX, ← unhide HYD]
          rfl
        have HPAIR := hide hpair
        clear hpair
        go_wp2_with fail
        obtain ⟨W, hW⟩ : ∃ W, W = wr.drewN 1 := ⟨_, rfl⟩
        have HW : Hid (W = wr.drewN 1) := hW
        have hS : Below wo.heap.size wo W := thenB (unhide HBV) (below_named HW)
        clear hW hcb
        refine held (S := Below wo.heap.size wo) W HW (by kernel_rfl) ?_
        refine wpAnyH_take (i := 0) (v := ?_) rfl (by kernel_rfl) (by kernel_rfl) (by kernel_rfl) (fun _ _ _ h => h) (Or.inl ⟨by kernel_rfl, ?_⟩) (by assumption) ?_
        rotate_left
        · intro Wt hSt
          go_simp
          try with_reducible rfl
        try simp only [List.getElem_toArray, List.getElem_cons_zero, List.getElem_cons_succ, Act.put, List.setIfInBounds_toArray, List.set_cons_zero, List.set_cons_succ]
        refine wpAnyH_take (i := 1) (v := ?_) rfl (by kernel_rfl) (by kernel_rfl) (by kernel_rfl) (fun _ _ _ h => h) (Or.inl ⟨by kernel_rfl, ?_⟩) (by assumption) ?_
        rotate_left
        · intro Wt hSt
          go_simp
          try with_reducible rfl
        try simp only [List.getElem_toArray, List.getElem_cons_zero, List.getElem_cons_succ, Act.put, List.setIfInBounds_toArray, List.set_cons_zero, List.set_cons_succ]
        refine wpAnyH_take (i := 2) (v := ?_) rfl (by kernel_rfl) (by kernel_rfl) (by kernel_rfl) (fun _ _ _ h => h) (Or.inl ⟨by kernel_rfl, ?_⟩) (by assumption) ?_
        rotate_left
        · intro Wt hSt
          have hct := (show Wt.cell? ⟨w.heap.size + 1, 2, none⟩ = some (.slice (some ⟨q2, r2, none⟩) 64 c2) from ((unhide HK2).keep (thenB (unhide HBK) hSt)).cell rfl)
          go_simp
          try with_reducible rfl
        try simp only [List.getElem_toArray, List.getElem_cons_zero, List.getElem_cons_succ, Act.put, List.setIfInBounds_toArray, List.set_cons_zero, List.set_cons_succ]
        refine wpAnyH_take (i := 3) (v := ?_) rfl (by kernel_rfl) (by kernel_rfl) (by kernel_rfl) (fun _ _ _ h => h) (Or.inl ⟨by kernel_rfl, ?_⟩) (by assumption) ?_
        rotate_left
        · intro Wt hSt
          go_simp
          try with_reducible rfl
        try simp only [List.getElem_toArray, List.getElem_cons_zero, List.getElem_cons_succ, Act.put, List.setIfInBounds_toArray, List.set_cons_zero, List.set_cons_succ]
        refine wpAnyH_take (i := 4) (v := ?_) rfl (by kernel_rfl) (by kernel_rfl) (by kernel_rfl) (fun _ _ _ h => h) (Or.inl ⟨by kernel_rfl, ?_⟩) (by assumption) ?_
        rotate_left
        · intro Wt hSt
          go_simp
          try with_reducible rfl
        try simp only [List.getElem_toArray, List.getElem_cons_zero, List.getElem_cons_succ, Act.put, List.setIfInBounds_toArray, List.set_cons_zero, List.set_cons_succ]
        refine wpAnyH_take (i := 5) (v := .agg cy) rfl (by kernel_rfl) (by kernel_rfl) (by kernel_rfl) (fun _ _ _ h => h) (by rw [unhide HCY]; exact yieldsIf_load_mid (by kernel_rfl) 24 (.tmp 66) rfl q2 (r2 + j * 32) rfl (y.map (Value.int .u8)) _ (fun W hS => rangeAt_keep (unhide HRY) hS) Tryd.underlying24 rfl (by rw [List.length_map, (unhide HGY).len]; exact info32)) (by assumption) ?_
        try simp only [List.getElem_toArray, List.getElem_cons_zero, List.getElem_cons_succ, Act.put, List.setIfInBounds_toArray, List.set_cons_zero, List.set_cons_succ]
        refine wpAnyH_take (i := 6) (v := ?_) rfl (by kernel_rfl) (by kernel_rfl) (by kernel_rfl) (fun _ _ _ h => h) (Or.inl ⟨by kernel_rfl, ?_⟩) (by assumption) ?_
        rotate_left
        · intro Wt hSt
          go_simp
          try with_reducible rfl
        try simp only [List.getElem_toArray, List.getElem_cons_zero, List.getElem_cons_succ, Act.put, List.setIfInBounds_toArray, List.set_cons_zero, List.set_cons_succ]
        refine wpAnyH_take (i := 7) (v := ?_) rfl (by kernel_rfl) (by kernel_rfl) (by kernel_rfl) (fun _ _ _ h => h) (Or.inl ⟨by kernel_rfl, ?_⟩) (by assumption) ?_
        rotate_left
        · intro Wt hSt
          have hct := (show Wt.cell? ⟨w.heap.size + 1, 1, none⟩ = some (.slice (some ⟨q1, r1, none⟩) 64 c1) from ((unhide HK2).keep (thenB (unhide HBK) hSt)).cell rfl)
          go_simp
          try with_reducible rfl
        try simp only [List.getElem_toArray, List.getElem_cons_zero, List.getElem_cons_succ, Act.put, List.setIfInBounds_toArray, List.set_cons_zero, List.set_cons_succ]
        refine wpAnyH_take (i := 8) (v := ?_) rfl (by kernel_rfl) (by kernel_rfl) (by kernel_rfl) (fun _ _ _ h => h) (Or.inl ⟨by kernel_rfl, ?_⟩) (by assumption) ?_
        rotate_left
        · intro Wt hSt
          go_simp
          try with_reducible rfl
        try simp only [List.getElem_toArray, List.getElem_cons_zero, List.getElem_cons_succ, Act.put, List.setIfInBounds_toArray, List.set_cons_zero, List.set_cons_succ]
        refine wpAnyH_take (i := 9) (v := ?_) rfl (by kernel_rfl) (by kernel_rfl) (by kernel_rfl) (fun _ _ _ h => h) (Or.inl ⟨by kernel_rfl, ?_⟩) (by assumption) ?_
        rotate_left
        · intro Wt hSt
          go_simp
          try with_reducible rfl
        try simp only [List.getElem_toArray, List.getElem_cons_zero, List.getElem_cons_succ, Act.put, List.setIfInBounds_toArray, List.set_cons_zero, List.set_cons_succ]
        refine wpAnyH_take (i := 10) (v := .agg cx) rfl (by kernel_rfl) (by kernel_rfl) (by kernel_rfl) (fun _ _ _ h => h) (by rw [unhide HCX]; exact yieldsIf_load_mid (by kernel_rfl) 24 (.tmp 71) rfl q1 (r1 + j * 32) rfl (x.map (Value.int .u8)) _ (fun W hS => rangeAt_keep (unhide HRX) hS) Tryd.underlying24 rfl (by rw [List.length_map, (unhide HGX).len]; exact info32)) (by assumption) ?_
        try simp only [List.getElem_toArray, List.getElem_cons_zero, List.getElem_cons_succ, Act.put, List.setIfInBounds_toArray, List.set_cons_zero, List.set_cons_succ]
        refine wpAnyH_chainOf [11, 12, 13, 14] _ _ _ (by kernel_rfl) (by kernel_rfl) ?_
        simp only [List.filterMap_cons, List.filterMap_nil, List.getElem?_toArray, List.getElem?_cons_zero, List.getElem?_cons_succ]
        refine wpChain_step rfl fun K hK => ?_
        go_simp
        refine ((unhide HHASH) W).mono ?_; rintro x U2 ⟨rfl, hb2⟩
        have hS2 := thenB hS hb2
        dsimp only
        refine hK _ _ hS2 ?_
        clear hK K
        refine wpChain_step rfl fun K hK => ?_
        refine wp_two (.tmp 67) (.tmp 73) rfl y t (unhide HGY).len (unhide HGT).len (show Value.agg cy = _ by rw [unhide HCY]) (show Value.agg ct = _ by rw [unhide HCT]) ?_
        generalize hY : U2.alloc _ = U3
        have hb3 : Below U2.heap.size U2 U3 := hY ▸ (Below.refl _ _).alloc (Nat.le_refl _) _
        have hv3 : VsAt U3 U2.heap.size 24 ((y ++ t).map (Value.int .u8)) := boxedV U2 U3 _ _ (by rw [← hY]; rfl)
        have hds := ds_two (unhide HGY) (unhide HGT) hv3
        clear hY
        have hS3 := thenB hS2 hb3
        refine hK _ _ hS3 ?_
        clear hK K
        refine wpChain_step rfl fun K hK => ?_
        have hO3 := (((unhide HOV).later (below_named HW)).later hb2).later hb3
        obtain ⟨v7, U7, hr7, hown7, hg7, _⟩ := append_many hO3 26 (some ⟨U2.heap.size, 0, none⟩) 2 hds (fun h => by cases h) (by rw [pairL_length]; simp; omega) hS3.size
        have hS7 := grown_below hS3 hg7 (fun k hk => (hO3.lt k hk).1)
        refine wp_append (.tmp 62) (.tmp 74) 26 rfl _ _ v7 U7 rfl rfl hr7 ?_
        refine hK _ _ hS7 ?_
        clear hK K
        have HO7 := hide hown7
        have HS7 := hide hS7
        refine wpChain_step rfl fun K hK => ?_
        go_simp
        refine hK _ _ hS7 (wpChain_nil ?_)
        clear hK K hr7 hown7 hg7 hO3 hS3 hds hv3 hS2 hS hb2 hb3 hS7
        go_wp2_with fail
        go_roundg g2
        case measure => omega
        case rel => exact ⟨j + 1, v7, rfl, by push_cast; rfl, by have := unhide HJG; omega, by rw [unhide HPAIR]; exact unhide HO7, unhide HS7⟩
end Go.Proofs.YtceppmajbkmbdaaDoor
namespace Go.Proofs.YtceppmajbkmbdaaDoor
set_option linter.unusedSimpArgs false
set_option linter.unusedVariables false
open Go.RowKit Go.LawClose

def verOk (many i : Int) (n1 n2 nm : Nat) : Prop := 1 ≤ many ∧ many ≤ 4096 ∧ 0 ≤ i ∧ i < many ∧ n1 = 64 ∧ n2 = 64 ∧ nm ≤ 65536
instance (many i : Int) (n1 n2 nm : Nat) : Decidable (verOk many i n1 n2 nm) := by unfold verOk; infer_instance
def verI (pub : List Int) (many i : Int) (msg : List Int) (opened closed path : List (List Int)) : Bool :=
  if verOk many i opened.length closed.length msg.length then verS pub many.toNat i.toNat (bitsS pub i.toNat msg) opened closed path else false
/-- the arguments of Verify -/
structure VArgs (w : World) (pub : List Int) (Am : Option Addr) (nm cm : Nat) (msg : List Int) (A1 : Option Addr) (n1 c1 : Nat) (opened : List (List Int)) (A2 : Option Addr) (n2 c2 : Nat) (closed : List (List Int)) (A3 : Option Addr) (n3 c3 : Nat) (path : List (List Int)) : Prop where
  p : Dg pub
  m : nm = msg.length
  mc : nm ≤ cm
  m0 : Am = none → cm = 0
  ma : Bt w Am msg
  l1 : n1 = opened.length
  c1' : n1 ≤ c1
  a1 : Ds w A1 opened
  l2 : n2 = closed.length
  c2' : n2 ≤ c2
  a2 : Ds w A2 closed
  l3 : n3 = path.length
  c3' : n3 ≤ c3
  a3 : Ds w A3 path
theorem VArgs.keep {w w' : World} {pub : List Int} {Am : Option Addr} {nm cm : Nat} {msg : List Int} {A1 : Option Addr} {n1 c1 : Nat} {opened : List (List Int)} {A2 : Option Addr} {n2 c2 : Nat} {closed : List (List Int)} {A3 : Option Addr} {n3 c3 : Nat} {path : List (List Int)}
    (h : VArgs w pub Am nm cm msg A1 n1 c1 opened A2 n2 c2 closed A3 n3 c3 path) (hb : Below w.heap.size w w') : VArgs w' pub Am nm cm msg A1 n1 c1 opened A2 n2 c2 closed A3 n3 c3 path :=
  ⟨h.p, h.m, h.mc, h.m0, h.ma.keep hb, h.l1, h.c1', h.a1.keep hb, h.l2, h.c2', h.a2.keep hb, h.l3, h.c3', h.a3.keep hb⟩
theorem Verify_all (w : World) (pub : List Int) (many i : Int) (Am : Option Addr) (nm cm : Nat) (msg : List Int) (A1 : Option Addr) (n1 c1 : Nat) (opened : List (List Int)) (A2 : Option Addr) (n2 c2 : Nat) (closed : List (List Int)) (A3 : Option Addr) (n3 c3 : Nat) (path : List (List Int))
    (h : VArgs w pub Am nm cm msg A1 n1 c1 opened A2 n2 c2 closed A3 n3 c3 path) (hT : DTab w) :
    Calls Tryd.prog 41 #[dv pub, .int .i64 many, .slice Am nm cm, sigV i A1 n1 c1 A2 n2 c2 A3 n3 c3] w fun x w' => x = .returned (.bool (verI pub many i msg opened closed path)) ∧ Below w.heap.size w w' := by
  unfold verI
  rw [← h.l1, ← h.l2, ← h.m]
  by_cases ho : verOk many i n1 n2 nm
  · rw [if_pos ho]
    obtain ⟨h1, h2, h3, h4, h5, h6, h7⟩ := ho
    subst h5 h6
    obtain ⟨k, rfl⟩ : ∃ k : Nat, many = k := ⟨many.toNat, by omega⟩
    obtain ⟨j, rfl⟩ : ∃ k : Nat, i = k := ⟨i.toNat, by omega⟩
    rw [Int.toNat_natCast, Int.toNat_natCast]
    exact Verify_any w pub h.p k j (by omega) (by omega) (by omega) Am nm cm msg h.m h.mc h.ma h.m0 h7 A1 c1 opened ⟨h.l1.symm, h.c1', h.a1⟩ A2 c2 closed ⟨h.l2.symm, h.c2', h.a2⟩ A3 n3 c3 path h.l3 h.c3' h.a3 hT
  · rw [if_neg ho]
    exact Verify_no2 w pub h.p many i Am nm cm A1 n1 c1 A2 n2 c2 A3 n3 c3 (by unfold verOk at ho; omega)
theorem rVerify_all (w : World) (pub : List Int) (many i : Int) (Am : Option Addr) (nm cm : Nat) (msg : List Int) (A1 : Option Addr) (n1 c1 : Nat) (opened : List (List Int)) (A2 : Option Addr) (n2 c2 : Nat) (closed : List (List Int)) (A3 : Option Addr) (n3 c3 : Nat) (path : List (List Int))
    (h : VArgs w pub Am nm cm msg A1 n1 c1 opened A2 n2 c2 closed A3 n3 c3 path) :
    Calls Tryd.prog 42 #[dv pub, .int .i64 many, .slice Am nm cm, sigV i A1 n1 c1 A2 n2 c2 A3 n3 c3] w fun x w' => x = .returned (.bool (verI pub many i msg opened closed path)) ∧ Below w.heap.size w w' := by
  unfold verI
  rw [← h.l1, ← h.l2, ← h.m]
  by_cases ho : verOk many i n1 n2 nm
  · rw [if_pos ho]
    obtain ⟨h1, h2, h3, h4, h5, h6, h7⟩ := ho
    subst h5 h6
    obtain ⟨k, rfl⟩ : ∃ k : Nat, many = k := ⟨many.toNat, by omega⟩
    obtain ⟨j, rfl⟩ : ∃ k : Nat, i = k := ⟨i.toNat, by omega⟩
    rw [Int.toNat_natCast, Int.toNat_natCast]
    exact rVerify_any w pub h.p k j (by omega) (by omega) (by omega) Am nm cm msg h.m h.mc h.ma h.m0 h7 A1 c1 opened ⟨h.l1.symm, h.c1', h.a1⟩ A2 c2 closed ⟨h.l2.symm, h.c2', h.a2⟩ A3 n3 c3 path h.l3 h.c3' h.a3
  · rw [if_neg ho]
    exact rVerify_no w pub h.p many i Am nm cm A1 n1 c1 A2 n2 c2 A3 n3 c3 (by unfold verOk at ho; omega)
theorem infoSg : (Tryd.prog.info? 52).map (·.size) = some 4 := by kernel_rfl
/-- a load of values under a guard -/
theorem wpList_vgload4 {P : Program} {ops : Array Oper} {rest : List Oper} {o : Oper} {a : Act} {w : World} {Q : Exit → Act → World → Prop} (hw : Region.wanted o (yielded ops a.tmps) = true) (ty : TypeId) (x : Operand) (ho : o.op = .load ty x)
    (N : Nat) (hx : a.eval x = .pointer (some ⟨N, 0, none⟩)) (d : TypeDesc) (hu : P.underlying ty = some d) (hd : d.isRow = true) (T : TypeId) (cs : List Value) (hi : (P.info? ty).map (·.size) = some cs.length) (h0 : VsAt w N T cs)
    (h : wpList P ops Q rest (a.put o.dst (.agg cs.toArray)) w) : wpList P ops Q (o :: rest) a w :=
  wpList_wanted hw fun _ hK => wp_load_mid ty x ho N 0 hx cs d h0.range hu hd hi (hK _ _ h)
/-- two boxes: a digest and values -/
structure SDV (N1 N2 : Nat) (T : TypeId) (x : List Int) (cs : List Value) (V : World) : Prop where
  a : ByAt V N1 24 x
  b : VsAt V N2 T cs
theorem SDV.keep {N1 N2 : Nat} {T : TypeId} {x : List Int} {cs : List Value} {V V' : World} (h : SDV N1 N2 T x cs V) (hb : Below V.heap.size V V') : SDV N1 N2 T x cs V' := ⟨h.a.keep hb, h.b.keep hb⟩
set_option maxRecDepth 100000 in
set_option maxHeartbeats 2000000 in
theorem verifySpec_any (w : World) (pub : List Int) (many i : Int) (Am : Option Addr) (nm cm : Nat) (msg : List Int) (A1 : Option Addr) (n1 c1 : Nat) (opened : List (List Int)) (A2 : Option Addr) (n2 c2 : Nat) (closed : List (List Int)) (A3 : Option Addr) (n3 c3 : Nat) (path : List (List Int))
    (h : VArgs w pub Am nm cm msg A1 n1 c1 opened A2 n2 c2 closed A3 n3 c3 path) (hT : DTab w) :
    Calls Tryd.prog 7 #[dv pub, .int .i64 many, .slice Am nm cm, sigV i A1 n1 c1 A2 n2 c2 A3 n3 c3] w (LawOk w) := by
  have HD := hide h.p
  have HT := hide hT
  have HV := hide h
  obtain ⟨cd, hcd⟩ : ∃ cs, cs = (pub.map (Value.int .u8)).toArray := ⟨_, rfl⟩
  have hsd : cd.size = 32 := by rw [hcd]; simpa using h.p.len
  have HCD := hide hcd
  rw [show dv pub = .agg cd by rw [hcd]]
  obtain ⟨cs, hcs⟩ : ∃ cs : List Value, cs = [.int .i64 i, .slice A1 n1 c1, .slice A2 n2 c2, .slice A3 n3 c3] := ⟨_, rfl⟩
  have HCS := hide hcs
  clear hT h hcd hcs
  have HSH := hide (short_any)
  unfold sigV
  go_enter Tryd.func7, Tryd.ntmps7
  go_upto_region 1 with fail
  generalize hX1 : w.alloc _ = W1
  have hB1 : Below w.heap.size w W1 := hX1 ▸ (Below.refl _ _).alloc (Nat.le_refl _) _
  have ho1 : ByAt W1 w.heap.size 24 pub := boxed w W1 pub _ (by rw [← hX1, unhide HCD]; rfl)
  have hz1 : W1.heap.size = w.heap.size + 1 := by rw [← hX1]; show (w.heap.push _).size = _; rw [Array.size_push]
  generalize hX2 : W1.alloc _ = W2
  have hB2 : Below W1.heap.size W1 W2 := hX2 ▸ (Below.refl _ _).alloc (Nat.le_refl _) _
  have ho2 : VsAt W2 W1.heap.size 52 cs := by rw [unhide HCS]; exact boxedV W1 W2 _ _ (by rw [← hX2]; rfl)
  rw [hz1] at ho2
  have HK1 := hide (ho1.keep hB2); have HK2 := hide ho2
  have HB2 := hide (thenB hB1 hB2)
  clear hX1 hX2 hB1 hB2 ho1 ho2 hz1
  go_wp2_with fail
  refine (sane4_any W2 ((unhide HT).keep (unhide HB2))).mono ?_; rintro x W3 ⟨rfl, hB3⟩
  have HK1 := hide ((unhide HK1).keep hB3); have HK2 := hide ((unhide HK2).keep hB3)
  have HB3 := hide (thenB (unhide HB2) hB3)
  clear hB3
  by_cases g1 : (300 : Int) < (nm : Int) ∧ (nm : Int) ≤ 65536
  · obtain ⟨g1, g2⟩ := g1
    go_wp2_with fail
    go_ret
    exact ⟨rfl, unhide HB3⟩
  · obtain ⟨z, hz⟩ : ∃ z, z = decide (n1 ≤ 100 ∧ n2 ≤ 100 ∧ n3 ≤ 20) := ⟨_, rfl⟩
    have HSC : Hid (∀ V, Calls Tryd.prog 40 #[.agg cs.toArray] V fun x w' => x = .returned (.bool z) ∧ Below V.heap.size V w') := fun V => by
      have := (unhide HSH) V i A1 n1 c1 A2 n2 c2 A3 n3 c3
      unfold sigV at this
      rw [← hz] at this
      rw [unhide HCS]
      exact this
    have HZ := hide hz
    clear hz
    have HG : Hid (¬ ((300 : Int) < (nm : Int) ∧ (nm : Int) ≤ 65536)) := g1
    go_upto_region 3 with fail
    go_cut [23] (fun y23 wx => y23 = .bool (!z) ∧ Below W3.heap.size W3 wx)
    case first =>
      refine wp_region_lit ?_
      by_cases g2 : (300 : Int) < (nm : Int)
      · have g3 : ¬ (nm : Int) ≤ 65536 := fun g3 => g1 ⟨g2, g3⟩
        refine wpList_plain rfl fun Kt hKt => ?_
        go_simp
        refine hKt _ _ ?_
        clear hKt Kt
        refine wpList_plain rfl fun Kt hKt => ?_
        go_simp
        refine hKt _ _ ?_
        clear hKt Kt
        refine wpList_plain rfl fun Kt hKt => ?_
        go_simp
        refine hKt _ _ ?_
        clear hKt Kt
        refine wpList_plain rfl fun Kt hKt => ?_
        go_simp
        refine hKt _ _ ?_
        clear hKt Kt
        refine wpList_wanted (by kernel_rfl) fun Kt hKt => ?_
        go_simp
        refine hKt _ _ ?_
        clear hKt Kt
        refine wpList_wanted (by kernel_rfl) fun Kt hKt => ?_
        go_simp
        refine hKt _ _ ?_
        clear hKt Kt
        refine wpList_wanted (by kernel_rfl) fun Kt hKt => ?_
        go_simp
        refine hKt _ _ ?_
        clear hKt Kt
        refine wpList_plain rfl fun Kt hKt => ?_
        go_simp
        refine hKt _ _ ?_
        clear hKt Kt
        refine wpList_plain rfl fun Kt hKt => ?_
        go_simp
        refine hKt _ _ ?_
        clear hKt Kt
        refine wpList_vgload4 (by kernel_rfl) 52 (.tmp 7) rfl (w.heap.size + 1) rfl _ Tryd.underlying52 rfl _ cs (by rw [unhide HCS]; exact infoSg) (unhide HK2) ?_
        try simp only [List.getElem_toArray, List.getElem_cons_zero, List.getElem_cons_succ, Act.put, List.setIfInBounds_toArray, List.set_cons_zero, List.set_cons_succ]
        refine wpList_wanted (by kernel_rfl) fun Kt hKt => ?_
        go_simp
        refine ((unhide HSC) W3).mono ?_; rintro x W4 ⟨rfl, hB4⟩
        dsimp only
        refine hKt _ _ ?_
        clear hKt Kt
        try simp only [List.getElem_toArray, List.getElem_cons_zero, List.getElem_cons_succ, Act.put, List.setIfInBounds_toArray, List.set_cons_zero, List.set_cons_succ]
        refine wpList_wanted (by kernel_rfl) fun Kt hKt => ?_
        go_simp
        refine hKt _ _ ?_
        clear hKt Kt
        refine wpList_plain rfl fun Kt hKt => ?_
        go_simp
        refine hKt _ _ ?_
        clear hKt Kt
        go_wp2_with fail
        go_meet
        exact ⟨rfl, hB4⟩
      · skip
        refine wpList_plain rfl fun Kt hKt => ?_
        go_simp
        refine hKt _ _ ?_
        clear hKt Kt
        refine wpList_plain rfl fun Kt hKt => ?_
        go_simp
        refine hKt _ _ ?_
        clear hKt Kt
        refine wpList_plain rfl fun Kt hKt => ?_
        go_simp
        refine hKt _ _ ?_
        clear hKt Kt
        refine wpList_plain rfl fun Kt hKt => ?_
        go_simp
        refine hKt _ _ ?_
        clear hKt Kt
        refine wpList_skip (by kernel_rfl) ?_
        try simp only [List.getElem_toArray, List.getElem_cons_zero, List.getElem_cons_succ, Act.put, List.setIfInBounds_toArray, List.set_cons_zero, List.set_cons_succ]
        refine wpList_skip (by kernel_rfl) ?_
        try simp only [List.getElem_toArray, List.getElem_cons_zero, List.getElem_cons_succ, Act.put, List.setIfInBounds_toArray, List.set_cons_zero, List.set_cons_succ]
        refine wpList_skip (by kernel_rfl) ?_
        try simp only [List.getElem_toArray, List.getElem_cons_zero, List.getElem_cons_succ, Act.put, List.setIfInBounds_toArray, List.set_cons_zero, List.set_cons_succ]

        refine wpList_plain rfl fun Kt hKt => ?_
        go_simp
        refine hKt _ _ ?_
        clear hKt Kt
        refine wpList_plain rfl fun Kt hKt => ?_
        go_simp
        refine hKt _ _ ?_
        clear hKt Kt
        refine wpList_vgload4 (by kernel_rfl) 52 (.tmp 7) rfl (w.heap.size + 1) rfl _ Tryd.underlying52 rfl _ cs (by rw [unhide HCS]; exact infoSg) (unhide HK2) ?_
        try simp only [List.getElem_toArray, List.getElem_cons_zero, List.getElem_cons_succ, Act.put, List.setIfInBounds_toArray, List.set_cons_zero, List.set_cons_succ]
        refine wpList_wanted (by kernel_rfl) fun Kt hKt => ?_
        go_simp
        refine ((unhide HSC) W3).mono ?_; rintro x W4 ⟨rfl, hB4⟩
        dsimp only
        refine hKt _ _ ?_
        clear hKt Kt
        try simp only [List.getElem_toArray, List.getElem_cons_zero, List.getElem_cons_succ, Act.put, List.setIfInBounds_toArray, List.set_cons_zero, List.set_cons_succ]
        refine wpList_wanted (by kernel_rfl) fun Kt hKt => ?_
        go_simp
        refine hKt _ _ ?_
        clear hKt Kt
        refine wpList_plain rfl fun Kt hKt => ?_
        go_simp
        refine hKt _ _ ?_
        clear hKt Kt
        go_wp2_with fail
        go_meet
        exact ⟨rfl, hB4⟩
    case rest =>
      obtain ⟨rfl, hb4⟩ := hcut
      obtain ⟨w4, rfl⟩ : ∃ x, x = wc := ⟨wc, rfl⟩
      have HK1 := hide ((unhide HK1).keep hb4); have HK2 := hide ((unhide HK2).keep hb4)
      have HB4 := hide (thenB (unhide HB3) hb4)
      clear hb4
      cases z
      · go_wp2_with fail
        go_ret
        exact ⟨rfl, unhide HB4⟩
      · obtain ⟨bv, hbv⟩ : ∃ b, b = verI pub many i msg opened closed path := ⟨_, rfl⟩
        have HV4 := hide ((unhide HV).keep (unhide HB4))
        have HT4 := hide ((unhide HT).keep (unhide HB4))
        have HF1 : Hid (∀ V, Below w4.heap.size w4 V → Calls Tryd.prog 41 #[.agg cd, .int .i64 many, .slice Am nm cm, .agg cs.toArray] V fun x w' => x = .returned (.bool bv) ∧ Below V.heap.size V w') := fun V hV => by
          have := Verify_all V pub many i Am nm cm msg A1 n1 c1 opened A2 n2 c2 closed A3 n3 c3 path ((unhide HV4).keep hV) ((unhide HT4).keep hV)
          unfold sigV at this
          rw [← hbv, show dv pub = .agg cd by rw [unhide HCD]] at this
          rw [unhide HCS]
          exact this
        have HF2 : Hid (∀ V, Below w4.heap.size w4 V → Calls Tryd.prog 42 #[.agg cd, .int .i64 many, .slice Am nm cm, .agg cs.toArray] V fun x w' => x = .returned (.bool bv) ∧ Below V.heap.size V w') := fun V hV => by
          have := rVerify_all V pub many i Am nm cm msg A1 n1 c1 opened A2 n2 c2 closed A3 n3 c3 path ((unhide HV4).keep hV)
          unfold sigV at this
          rw [← hbv, show dv pub = .agg cd by rw [unhide HCD]] at this
          rw [unhide HCS]
          exact this
        clear hbv
        have HI : Hid ((Tryd.prog.info? 52).map (·.size) = some cs.length) := by show _ = _; rw [unhide HCS]; exact infoSg
        obtain ⟨W, hW⟩ : ∃ W, W = w4.drewN 1 := ⟨_, rfl⟩
        have HW : Hid (W = w4.drewN 1) := hW
        have hBW := below_named HW
        have hSW : SDV w.heap.size (w.heap.size + 1) 52 pub cs W := ⟨(unhide HK1).keep hBW, (unhide HK2).keep hBW⟩
        clear hW
        go_wp2_with fail
        refine held (S := SDV w.heap.size (w.heap.size + 1) 52 pub cs) W HW (by kernel_rfl) ?_
        refine wpAnyH_take (i := 0) (v := .agg cd) rfl (by kernel_rfl) (by kernel_rfl) (by kernel_rfl) (fun _ _ _ h => h) (by rw [unhide HCD]; exact yieldsIf_load_mid (by kernel_rfl) 24 (.tmp 4) rfl w.heap.size 0 rfl (pub.map (Value.int .u8)) _ (fun W hS => hS.a.range) Tryd.underlying24 rfl (by rw [List.length_map, (unhide HD).len]; exact info32)) (by assumption) ?_
        try simp only [List.getElem_toArray, List.getElem_cons_zero, List.getElem_cons_succ, Act.put, List.setIfInBounds_toArray, List.set_cons_zero, List.set_cons_succ]
        refine wpAnyH_take (i := 1) (v := ?_) rfl (by kernel_rfl) (by kernel_rfl) (by kernel_rfl) (fun _ _ _ h => h) (Or.inl ⟨by kernel_rfl, ?_⟩) (by assumption) ?_
        rotate_left
        · intro Wt hSt
          go_simp
          try with_reducible rfl
        try simp only [List.getElem_toArray, List.getElem_cons_zero, List.getElem_cons_succ, Act.put, List.setIfInBounds_toArray, List.set_cons_zero, List.set_cons_succ]
        refine wpAnyH_take (i := 2) (v := ?_) rfl (by kernel_rfl) (by kernel_rfl) (by kernel_rfl) (fun _ _ _ h => h) (Or.inl ⟨by kernel_rfl, ?_⟩) (by assumption) ?_
        rotate_left
        · intro Wt hSt
          go_simp
          try with_reducible rfl
        try simp only [List.getElem_toArray, List.getElem_cons_zero, List.getElem_cons_succ, Act.put, List.setIfInBounds_toArray, List.set_cons_zero, List.set_cons_succ]
        refine wpAnyH_take (i := 3) (v := .agg cs.toArray) rfl (by kernel_rfl) (by kernel_rfl) (by kernel_rfl) (fun _ _ _ h => h) (yieldsIf_load_mid (by kernel_rfl) 52 (.tmp 7) rfl (w.heap.size + 1) 0 rfl cs _ (fun W hS => hS.b.range) Tryd.underlying52 rfl (unhide HI)) (by assumption) ?_
        try simp only [List.getElem_toArray, List.getElem_cons_zero, List.getElem_cons_succ, Act.put, List.setIfInBounds_toArray, List.set_cons_zero, List.set_cons_succ]
        refine wpAnyH_take (i := 5) (v := .agg cd) rfl (by kernel_rfl) (by kernel_rfl) (by kernel_rfl) (fun _ _ _ h => h) (by rw [unhide HCD]; exact yieldsIf_load_mid (by kernel_rfl) 24 (.tmp 4) rfl w.heap.size 0 rfl (pub.map (Value.int .u8)) _ (fun W hS => hS.a.range) Tryd.underlying24 rfl (by rw [List.length_map, (unhide HD).len]; exact info32)) (by assumption) ?_
        try simp only [List.getElem_toArray, List.getElem_cons_zero, List.getElem_cons_succ, Act.put, List.setIfInBounds_toArray, List.set_cons_zero, List.set_cons_succ]
        refine wpAnyH_take (i := 6) (v := ?_) rfl (by kernel_rfl) (by kernel_rfl) (by kernel_rfl) (fun _ _ _ h => h) (Or.inl ⟨by kernel_rfl, ?_⟩) (by assumption) ?_
        rotate_left
        · intro Wt hSt
          go_simp
          try with_reducible rfl
        try simp only [List.getElem_toArray, List.getElem_cons_zero, List.getElem_cons_succ, Act.put, List.setIfInBounds_toArray, List.set_cons_zero, List.set_cons_succ]
        refine wpAnyH_take (i := 7) (v := ?_) rfl (by kernel_rfl) (by kernel_rfl) (by kernel_rfl) (fun _ _ _ h => h) (Or.inl ⟨by kernel_rfl, ?_⟩) (by assumption) ?_
        rotate_left
        · intro Wt hSt
          go_simp
          try with_reducible rfl
        try simp only [List.getElem_toArray, List.getElem_cons_zero, List.getElem_cons_succ, Act.put, List.setIfInBounds_toArray, List.set_cons_zero, List.set_cons_succ]
        refine wpAnyH_take (i := 8) (v := .agg cs.toArray) rfl (by kernel_rfl) (by kernel_rfl) (by kernel_rfl) (fun _ _ _ h => h) (yieldsIf_load_mid (by kernel_rfl) 52 (.tmp 7) rfl (w.heap.size + 1) 0 rfl cs _ (fun W hS => hS.b.range) Tryd.underlying52 rfl (unhide HI)) (by assumption) ?_
        try simp only [List.getElem_toArray, List.getElem_cons_zero, List.getElem_cons_succ, Act.put, List.setIfInBounds_toArray, List.set_cons_zero, List.set_cons_succ]
        refine wpAnyH_one 4 _ rfl (by kernel_rfl) (by kernel_rfl) ?_
        intro Kt hK
        go_simp
        refine ((unhide HF1) _ hBW).mono ?_; rintro x Q1 ⟨rfl, hq1⟩
        have hS1 := hSW.keep hq1
        have hV1 := thenB hBW hq1
        dsimp only
        refine hK _ _ hS1 ?_
        clear hK Kt
        try simp only [List.getElem_toArray, List.getElem_cons_zero, List.getElem_cons_succ, Act.put, List.setIfInBounds_toArray, List.set_cons_zero, List.set_cons_succ]
        refine wpAnyH_one 9 _ rfl (by kernel_rfl) (by kernel_rfl) ?_
        intro Kt hK
        go_simp
        refine ((unhide HF2) _ hV1).mono ?_; rintro x Q2 ⟨rfl, hq2⟩
        have hS2 := hS1.keep hq2
        have hV2 := thenB hV1 hq2
        dsimp only
        refine hK _ _ hS2 ?_
        clear hK Kt
        try simp only [List.getElem_toArray, List.getElem_cons_zero, List.getElem_cons_succ, Act.put, List.setIfInBounds_toArray, List.set_cons_zero, List.set_cons_succ]
        refine wpAnyH_take (i := 10) (v := ?_) rfl (by kernel_rfl) (by kernel_rfl) (by kernel_rfl) (fun _ _ _ h => h) (Or.inl ⟨by kernel_rfl, ?_⟩) (by assumption) ?_
        rotate_left
        · intro Wt hSt
          go_simp
          try with_reducible rfl
        try simp only [List.getElem_toArray, List.getElem_cons_zero, List.getElem_cons_succ, Act.put, List.setIfInBounds_toArray, List.set_cons_zero, List.set_cons_succ]
        refine wpAnyH_chainOf [11] _ _ _ (by kernel_rfl) (by kernel_rfl) ?_
        simp only [List.filterMap_cons, List.filterMap_nil, List.getElem?_toArray, List.getElem?_cons_zero, List.getElem?_cons_succ]
        refine wpChain_step rfl fun K hK => ?_
        go_simp
        refine hK _ _ hS2 (wpChain_nil ?_)
        clear hK K
        have HEND := hide (thenB (unhide HB4) hV2)
        clear hSW hS1 hS2 hq1 hq2 hV1 hV2 hBW
        go_wp2_with fail
        go_ret
        exact ⟨rfl, unhide HEND⟩
end Go.Proofs.YtceppmajbkmbdaaDoor
namespace Go.Proofs.YtceppmajbkmbdaaDoor
set_option linter.unusedSimpArgs false
set_option linter.unusedVariables false
set_option maxRecDepth 100000
open Go.ChangeShapes Go.WideShapes Go.ChangeAt Go.RowKit Go.Joins

theorem cellsSg : Tryd.prog.cellsOf 52 = 4 := by kernel_rfl
theorem bytesDig : Tryd.prog.bytesOf 24 = 32 := by kernel_rfl
section
variable {H : Type} {enc : TypeId × Value → H} {w : World} {b0 : Nat} {spare : Nat → Bool} {held : Bool} {r : Reach}
theorem digest_cs {cs : List Value} {n base : Nat} {y : DataW H × List MemPlace} (hlen : cs.length = 32) (h : DataW.trod enc Tryd.prog w base spare held n 24 cs = some y) :
    ∃ l, cs = l.map (Value.int .u8) ∧ Dg l := by
  obtain ⟨xs, m, _, _, hl, hxl, hel⟩ := DataW.trod_array Tryd.underlying24 h
  have c1 : Tryd.prog.cellsOf 5 = 1 := by kernel_rfl
  obtain ⟨l, hll, hr⟩ := list_of (len := 32) (R := fun i (u : Int) => cs[i]? = some (.int .u8 u) ∧ Byt u) fun i hi => by
    have hE := hel i hi
    rw [c1, Nat.mul_one, List.getElem?_eq_getElem (by omega)] at hE
    obtain ⟨k, e1, _, hw⟩ := DataW.trod_int Tryd.underlying5 hE
    simp only [Lit.wf, Bool.and_eq_true, decide_eq_true_eq] at hw
    have hk : (0 : Int) ≤ k ∧ k ≤ 255 := ⟨hw.1, hw.2⟩
    have h0 : ((cs.drop i).take 1)[0]? = some (.int .u8 k) := by
      have e2 : (cs.drop i).take 1 = [.int .u8 k] := e1
      rw [e2]; rfl
    refine ⟨k, ?_, hk.1, by omega⟩
    simpa using h0
  refine ⟨l, ?_, ⟨hll, fun x hx => ?_⟩⟩
  · apply List.ext_getElem?
    intro i
    by_cases hi : i < 32
    · rw [(hr i l[i] (List.getElem?_eq_getElem (by omega))).1, List.getElem?_map, List.getElem?_eq_getElem (by omega)]
      rfl
    · rw [List.getElem?_eq_none (by omega), List.getElem?_eq_none (by simp; omega)]
  · obtain ⟨i, hi⟩ := List.getElem?_of_mem hx
    exact (hr i x hi).2
theorem digests_at {v : Value} {n : Nat} {y : DataW H × List MemPlace} (h : DataW.trod enc Tryd.prog w 0 spare held n 26 [v] = some y) (hz : ∀ m ∈ y.1.weights Tryd.prog 26, m ≤ reachBytes) :
    ∃ A c l, v = .slice A l.length c ∧ l.length ≤ c ∧ (A = none → c = 0) ∧ Ds w A l := by
  obtain ⟨A, len, cap, e, hlc, hlw, hcm, hA, b, o, n', h0, hsome, hrow⟩ := slice_rows Tryd.underlying26 cellsDig (by decide) bytesDig (by decide) h hz
  subst e
  obtain ⟨l, hll, hr⟩ := list_of (len := len) (R := fun i (d : List Int) => w.rangeAt b (o + i * 32) (d.map (Value.int .u8)) ∧ Dg d) fun i hi => by
    obtain ⟨ds, yi, hc, hdl, ht, hzi⟩ := hrow i hi
    obtain ⟨d, rfl, hg⟩ := digest_cs hdl ht
    refine ⟨d, fun j v hv => ?_, hg⟩
    rw [hc j (by rw [← hdl]; exact (List.getElem?_eq_some_iff.1 hv).1)]
    exact hv
  refine ⟨A, cap, l, by rw [hll], by omega, fun e => (hA e).2, fun x hx => ?_, fun hl => ?_⟩
  · obtain ⟨i, hi⟩ := List.getElem?_of_mem hx
    exact (hr i x hi).2
  · have h0' : 0 < len := by have := List.length_pos_iff.2 hl; omega
    exact ⟨b, o, (h0 h0').2.1, fun i d hd => (hr i d hd).1⟩
theorem sig_of {v : Value} {d : DataW H} {p : List MemPlace} (hv : Value.okWide Tryd.prog w r b0 52 v) (h : DataW.Trod enc Tryd.prog w 0 spare held 52 v d p) (hz : ∀ m ∈ d.weights Tryd.prog 52, m ≤ reachBytes) :
    ∃ i A1 c1 p1 A2 c2 p2 A3 c3 p3, v = sigV i A1 p1.length c1 A2 p2.length c2 A3 p3.length c3 ∧ (p1.length ≤ c1 ∧ Ds w A1 p1) ∧ (p2.length ≤ c2 ∧ Ds w A2 p2) ∧ (p3.length ≤ c3 ∧ Ds w A3 p3) := by
  obtain ⟨v0, v1, v2, v3, y0, y1, y2, y3, n, rfl, rfl, _, t0, t1, t2, t3⟩ := open_agg4 Tryd.underlying52 (by kernel_rfl) cellsSg hv h
  obtain ⟨i, rfl, _⟩ := int_at t0
  obtain ⟨A1, c1, p1, rfl, h1, _, d1⟩ := digests_at t1 (fun m hm => hz m (by
    simp only [DataW.weights, Tryd.underlying52]
    simp [DataW.weightsEach, hm]))
  obtain ⟨A2, c2, p2, rfl, h2, _, d2⟩ := digests_at t2 (fun m hm => hz m (by
    simp only [DataW.weights, Tryd.underlying52]
    simp [DataW.weightsEach, hm]))
  obtain ⟨A3, c3, p3, rfl, h3, _, d3⟩ := digests_at t3 (fun m hm => hz m (by
    simp only [DataW.weights, Tryd.underlying52]
    simp [DataW.weightsEach, hm]))
  exact ⟨i, A1, c1, p1, A2, c2, p2, A3, c3, p3, rfl, ⟨h1, d1⟩, ⟨h2, d2⟩, ⟨h3, d3⟩⟩
end
end Go.Proofs.YtceppmajbkmbdaaDoor
