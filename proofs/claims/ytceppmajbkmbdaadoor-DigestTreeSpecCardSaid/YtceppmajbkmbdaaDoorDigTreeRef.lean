/- How a number and a digest are read as arguments (layer 3). The reference's tagged hash: a contract. The reference's tree: half, node, Tree. The reference's tree: Tree. The reference's paths: length and path. The reference's climb of a path. The reference's Climb. The reference's growths: grown, growth and Grow. Path, Climb and Grow with every argument: one contract each, the program's and the reference's. Two lists of digests are compared: the reference's Same of layer 3. The law DigestTreeSpec: Tree, Path and Climb are the reference's. -/
import Derived.Test.YtceppmajbkmbdaaDoorDigEnv
import Derived.Test.YtceppmajbkmbdaaDoorDigRAll
import Derived.Test.YtceppmajbkmbdaaDoorDigTag
import Derived.Test.YtceppmajbkmbdaaDoorDigApp2
import Derived.Test.YtceppmajbkmbdaaDoorDigTop
import Derived.Test.YtceppmajbkmbdaaDoorDigTwo
import Derived.Test.YtceppmajbkmbdaaDoorDigClm
import Derived.Test.YtceppmajbkmbdaaDoorDigGrowP
import Derived.Test.YtceppmajbkmbdaaDoorDigClimbA
import Derived.Test.YtceppmajbkmbdaaDoorDigBad
import Derived.Test.YtceppmajbkmbdaaDoorDigGrow
import Derived.Test.YtceppmajbkmbdaaDoorClose
import Derived.Deep.DeepCutAuto
namespace Go.Proofs.YtceppmajbkmbdaaDoor
set_option linter.unusedSimpArgs false
set_option linter.unusedVariables false
set_option maxRecDepth 100000
open Go.ChangeShapes Go.WideShapes Go.ChangeAt Go.RowKit Go.Joins

theorem cellsDig3 : Tryd.prog.cellsOf 24 = 32 := by kernel_rfl
section
variable {H : Type} {enc : TypeId × Value → H} {w : World} {b0 : Nat} {spare : Nat → Bool} {held : Bool} {r : Reach}
theorem intv_of3 {v : Value} {d : DataW H} {p : List MemPlace} {base : Nat} (hv : Value.okWide Tryd.prog w r b0 3 v) (h : DataW.Trod enc Tryd.prog w base spare held 3 v d p) :
    ∃ k : Int, v = .int .i64 k ∧ -9223372036854775808 ≤ k ∧ k ≤ 9223372036854775807 := by
  obtain ⟨k, e, _, _, hw⟩ := open_int Tryd.underlying3 hv h
  simp only [Lit.wf, Bool.and_eq_true, decide_eq_true_eq] at hw
  exact ⟨k, e, hw.1, hw.2⟩
theorem digest_of3 {v : Value} {d : DataW H} {p : List MemPlace} {base : Nat} (hv : Value.okWide Tryd.prog w r b0 24 v) (h : DataW.Trod enc Tryd.prog w base spare held 24 v d p) :
    ∃ l, v = dv l ∧ Dg l := by
  obtain ⟨cs, rfl, hsz⟩ : ∃ cs, v = .agg cs ∧ cs.size = 32 := by
    have hv' := hv
    simp only [Value.okWide, Tryd.underlying24] at hv'
    obtain ⟨cs, h1, h2, _⟩ := hv'
    exact ⟨cs, h1, h2.trans cellsDig3⟩
  obtain ⟨fuel, hf⟩ := h
  obtain ⟨xs, m, _, _, hl, hxl, hel⟩ := DataW.trod_array Tryd.underlying24 hf
  have c1 : Tryd.prog.cellsOf 5 = 1 := by kernel_rfl
  obtain ⟨l, hll, hr⟩ := list_of (len := 32) (R := fun i (u : Int) => cs.toList[i]? = some (.int .u8 u) ∧ Byt u) fun i hi => by
    have hE := hel i hi
    rw [c1, Nat.mul_one, List.getElem?_eq_getElem (by omega)] at hE
    obtain ⟨k, e1, _, hw⟩ := DataW.trod_int Tryd.underlying5 hE
    simp only [Lit.wf, Bool.and_eq_true, decide_eq_true_eq] at hw
    have hk : (0 : Int) ≤ k ∧ k ≤ 255 := ⟨hw.1, hw.2⟩
    have h0 : ((cs.toList.drop i).take 1)[0]? = some (.int .u8 k) := by
      have e2 : (cs.toList.drop i).take 1 = [.int .u8 k] := e1
      rw [e2]; rfl
    refine ⟨k, ?_, hk.1, by omega⟩
    simpa using h0
  refine ⟨l, ?_, ⟨hll, fun x hx => ?_⟩⟩
  · have e : cs.toList = l.map (Value.int .u8) := by
      apply List.ext_getElem?
      intro i
      by_cases hi : i < 32
      · rw [(hr i l[i] (List.getElem?_eq_getElem (by omega))).1, List.getElem?_map, List.getElem?_eq_getElem (by omega)]
        rfl
      · rw [List.getElem?_eq_none (by simpa using (by omega : cs.size ≤ i)), List.getElem?_eq_none (by simp; omega)]
    show Value.agg cs = .agg (l.map (Value.int .u8)).toArray
    rw [← e]
  · obtain ⟨i, hi⟩ := List.getElem?_of_mem hx
    exact (hr i x hi).2
end
end Go.Proofs.YtceppmajbkmbdaaDoor
namespace Go.Proofs.YtceppmajbkmbdaaDoor
set_option linter.unusedSimpArgs false
set_option linter.unusedVariables false
open Go.RowKit

set_option maxRecDepth 100000 in
set_option maxHeartbeats 2000000 in
theorem rtag_any (w : World) (s : ByteArray) (A : Option Addr) (c : Nat) (l : List Int) (hA : Bt w A l) (hc : l.length ≤ c) (hn : A = none → c = 0) (hl : l.length ≤ 800000000) (hs : (sb s).length ≤ 800000000) :
    Calls Tryd.prog 48 #[.string s, .slice A l.length c] w fun x w' => x = .returned (dv (tagF (sb s) l)) ∧ Below w.heap.size w w' := by
  obtain ⟨n, hnl⟩ : ∃ n, n = l.length := ⟨_, rfl⟩
  have HA := hide hA
  have HL : Hid (n = l.length ∧ l.length ≤ 800000000 ∧ l.length ≤ c ∧ (sb s).length ≤ 800000000) := ⟨hnl, hl, hc, hs⟩
  have HNn := hide hn
  rw [← hnl]
  clear hnl hl hA hn hc hs
  go_enter Tryd.func48, Tryd.ntmps48
  go_upto_region 1 with fail
  generalize hX1 : w.alloc _ = W1
  have hB1 : Below w.heap.size w W1 := hX1 ▸ (Below.refl _ _).alloc (Nat.le_refl _) _
  have HR1 := hide (newBy w W1 (by rw [← hX1]; rfl))
  have HB1 := hide hB1
  clear hX1 hB1
  obtain ⟨W2, C, hcv, hB2, hBt, hC⟩ := conv_str W1 s
  have HB2 := hide (thenB (unhide HB1) hB2)
  have HR2 := hide ((unhide HR1).keep hB2)
  have HBt := hide hBt
  have HC2 : Hid ((sb s).length ≤ C) := hC
  clear hB2 hBt hC HR1 HB1
  go_wp2_with fail
  refine (rsum_any W2 _ C (sb s) (unhide HBt) (unhide HC2) (fun h => by cases h) (by have := unhide HL; omega)).mono ?_; rintro x W3 ⟨rfl, hB3⟩
  have HB3 := hide (thenB (unhide HB2) hB3)
  have HR3 := hide ((unhide HR2).keep hB3)
  obtain ⟨D, hD⟩ : ∃ D, D = hashF (sb s) := ⟨_, rfl⟩
  have hgD : Dg D := hD ▸ dg_hash _
  rw [← hD]
  obtain ⟨cd, hcd⟩ : ∃ cs, cs = (D.map (Value.int .u8)).toArray := ⟨_, rfl⟩
  rw [show dv D = .agg cd by rw [hcd]]
  have HD := hide hD
  have HGD := hide hgD
  have HCD := hide hcd
  clear hcv hB3 hD hgD hcd HB2 HBt HC2 HR2
  dsimp only
  rename_i KK hK
  refine hK _ _ ?_
  clear hK KK
  refine wpList_plain rfl fun Kt hKt => ?_
  go_simp
  refine hKt _ _ ?_
  clear hKt Kt
  generalize hX4 : W3.alloc _ = W4
  have hB4 : Below W3.heap.size W3 W4 := hX4 ▸ (Below.refl _ _).alloc (Nat.le_refl _) _
  have HO4 := hide (newBy W3 W4 (by rw [← hX4]; rfl))
  have HB4 := hide (thenB (unhide HB3) hB4)
  have HR4 := hide ((unhide HR3).keep hB4)
  obtain ⟨M, hM⟩ : ∃ M, M = W3.heap.size := ⟨_, rfl⟩
  have HM : Hid (w.heap.size < M) := hM ▸ lt_of_block (unhide HR3)
  rw [← hM] at HO4 ⊢
  clear hX4 hB4 HB3 HR3 hM
  refine wpList_bstore rfl 24 (.tmp 5) (.tmp 8) rfl M rfl D (show Value.agg cd = _ by rw [unhide HCD]) 32 info32 (unhide HGD).len _ zeros (unhide HO4) rfl ?_
  intro W5 HW5 HG5
  have HB5 := hide ((unhide HB4).grown (unhide HG5) (unhide HB4).size (fun i e => by injection e with e; have := unhide HM; omega))
  have HR5 := hide ((unhide HR4).grown (unhide HG5) (by have := unhide HM; omega))
  clear HG5 HO4 HB4 HR4
  try simp only [List.getElem_toArray, List.getElem_cons_zero, List.getElem_cons_succ, Act.put, List.setIfInBounds_toArray, List.set_cons_zero, List.set_cons_succ]
  go_upto_region 2 with fail
  refine wp_region_lit ?_
  refine wpList_plain rfl fun Kt hKt => ?_
  go_simp
  refine hKt _ _ ?_
  clear hKt Kt
  generalize hX : W5.alloc _ = V1
  have hv1 : Below W5.heap.size W5 V1 := hX ▸ (Below.refl _ _).alloc (Nat.le_refl _) _
  have hown1 : OwnB V1 W5.heap.size (.slice (some ⟨W5.heap.size, 0, none⟩) 0 0) [] := hX ▸ World.ownsRow_lit W5 #[] 0 (Nat.le_refl _) (Nat.zero_le _) rfl
  clear hX
  refine wpList_plain rfl fun Kt hKt => ?_
  go_simp
  refine hKt _ _ ?_
  clear hKt Kt
  refine wpList_plain rfl fun Kt hKt => ?_
  obtain ⟨v2, V2, hr2, hown2, hg2⟩ := run_append_B hown1 22 (some ⟨M, 0, none⟩) 32 (((unhide HW5).keep hv1).bt (unhide HGD)) (fun h => by cases h) (by rw [(unhide HGD).len]; simp) hv1.size
  rw [(unhide HGD).len] at hr2
  have hv2 := grown_below hv1 hg2 (fun k hk => (hown1.lt k hk).1)
  refine wp_append (.tmp 9) (.tmp 10) 22 rfl _ _ v2 V2 rfl rfl hr2 ?_
  refine hKt _ _ ?_
  clear hKt Kt hr2 hown1 hg2 hv1
  try simp only [List.getElem_toArray, List.getElem_cons_zero, List.getElem_cons_succ, Act.put, List.setIfInBounds_toArray, List.set_cons_zero, List.set_cons_succ]
  refine wpList_plain rfl fun Kt hKt => ?_
  go_simp
  refine hKt _ _ ?_
  clear hKt Kt
  refine wpList_plain rfl fun Kt hKt => ?_
  obtain ⟨v3, V3, hr3, hown3, hg3⟩ := run_append_B hown2 22 A c (((unhide HA).keep (unhide HB5)).keep hv2) (unhide HNn) (by have h1 := (unhide HGD).len; have h2 := unhide HL; rw [List.nil_append]; omega) hv2.size
  rw [← (unhide HL).1] at hr3
  have hv3 := grown_below hv2 hg3 (fun k hk => (hown2.lt k hk).1)
  refine wp_append (.tmp 11) (.tmp 12) 22 rfl _ _ v3 V3 rfl rfl hr3 ?_
  refine hKt _ _ ?_
  clear hKt Kt hr3 hown2 hg3 hv2
  try simp only [List.getElem_toArray, List.getElem_cons_zero, List.getElem_cons_succ, Act.put, List.setIfInBounds_toArray, List.set_cons_zero, List.set_cons_succ]
  rw [List.nil_append] at hown3
  have hne : D ++ l ≠ [] := by
    intro h
    have h1 := congrArg List.length h
    rw [List.length_append, (unhide HGD).len] at h1
    simp at h1
  obtain ⟨g3, c3, rfl, -, -, -⟩ := hown3.opened hne
  have hbt3 : Bt V3 (some ⟨g3, 0, none⟩) (D ++ l) ∧ (D ++ l).length ≤ c3 := by
    obtain ⟨A4, c4, e, hc4, hbt4⟩ := hown3.bt (fun x hx => by
      rcases List.mem_append.1 hx with h | h
      · exact (unhide HGD).byt x h
      · exact (unhide HA).byt x h)
    injection e with e1 e2 e3
    subst e1 e3
    exact ⟨hbt4, hc4⟩
  have hsm := rsum_any V3 (some ⟨g3, 0, none⟩) c3 (D ++ l) hbt3.1 hbt3.2 (fun h => by cases h) (by have h1 := (unhide HGD).len; have h2 := unhide HL; rw [List.length_append]; omega)
  obtain ⟨T, hT⟩ : ∃ T, T = tagF (sb s) l := ⟨_, rfl⟩
  rw [show hashF (D ++ l) = T by rw [hT, unhide HD]; rfl] at hsm
  have HTT := hide hT
  obtain ⟨nl, hnl⟩ : ∃ nl, nl = (D ++ l).length := ⟨_, rfl⟩
  rw [← hnl] at hsm ⊢
  have hgT : Dg T := hT ▸ dg_hash _
  obtain ⟨ct, hct⟩ : ∃ cs, cs = (T.map (Value.int .u8)).toArray := ⟨_, rfl⟩
  rw [show dv T = .agg ct by rw [hct]] at hsm
  have HCT := hide hct
  have HGT := hide hgT
  have HV3 := hide (thenB (unhide HB5) hv3)
  have HR6 := hide ((unhide HR5).keep hv3)
  clear hct hgT hT hnl hbt3 hown3 hne hv3
  refine wpList_plain rfl fun Kt hKt => ?_
  go_simp
  refine hsm.mono ?_; rintro x V4 ⟨rfl, hb4⟩
  dsimp only
  refine hKt _ _ ?_
  clear hKt Kt hsm
  have HV4 := hide (thenB (unhide HV3) hb4)
  have HR7 := hide ((unhide HR6).keep hb4)
  clear hb4
  try simp only [List.getElem_toArray, List.getElem_cons_zero, List.getElem_cons_succ, Act.put, List.setIfInBounds_toArray, List.set_cons_zero, List.set_cons_succ]
  refine wpList_bstore rfl 24 (.tmp 4) (.tmp 14) rfl w.heap.size rfl T (show Value.agg ct = _ by rw [unhide HCT]) 32 info32 (unhide HGT).len _ zeros (unhide HR7) rfl ?_
  intro V9 HV9 HG9
  have HB9 := hide ((unhide HV4).grown (unhide HG9) (unhide HV4).size (fun i e => by injection e with e; omega))
  go_wp2_with fail
  try simp only [Exit.inBlock, Exit.then]
  exact bret rfl rfl w.heap.size rfl _ _ (unhide HV9) (unhide HGT).len ⟨by rw [unhide HTT], unhide HB9⟩

end Go.Proofs.YtceppmajbkmbdaaDoor
namespace Go.Proofs.YtceppmajbkmbdaaDoor
set_option linter.unusedSimpArgs false
set_option linter.unusedVariables false
open Go.RowKit

theorem half_is {n i K : Nat} (hK : K = 2 ^ i) (h1 : K < n) (h2 : ¬ 2 * K < n) : halfN n = K := by
  have h0 : n - 1 ≠ 0 := by
    have := Nat.pow_pos (n := i) (show 0 < 2 by omega)
    omega
  have h3 : Nat.log2 (n - 1) = i := (Nat.log2_eq_iff h0).2 ⟨by omega, by rw [Nat.pow_succ]; omega⟩
  unfold halfN
  rw [h3, hK]
set_option maxRecDepth 100000 in
set_option maxHeartbeats 2000000 in
theorem rhalf_any (n : Nat) (h2 : 2 ≤ n) (hn : n ≤ 1099511627776) (w : World) :
    Calls Tryd.prog 49 #[.int .i64 (n : Int)] w fun e w' => e = .returned (.int .i64 ((halfN n : Nat) : Int)) ∧ w' = w := by
  have HN : Hid (2 ≤ n ∧ n ≤ 1099511627776) := ⟨h2, hn⟩
  clear h2 hn
  go_enter Tryd.func49, Tryd.ntmps49
  go_wp2_with fail
  go_loopg [3] 41 (fun g y wx => ∃ (i K : Nat), g + i = 41 ∧ y = .int .i64 (K : Int) ∧ K = 2 ^ i ∧ K < n ∧ wx = w)
  case atStart => exact ⟨0, 1, rfl, rfl, rfl, by have := unhide HN; omega, rfl⟩
  case round =>
    obtain ⟨i, K, hg, rfl, hK, hKn, rfl⟩ := hrel
    have k0 : (0 : Int) ≤ (K : Int) := Int.natCast_nonneg _
    have kM : (K : Int) ≤ 1099511627776 := by have := unhide HN; omega
    by_cases hlt : 2 * K < n
    · have hl : 2 * (K : Int) < (n : Int) := by omega
      have h41 : i + 1 < 41 := by
        rcases Nat.lt_or_ge (i + 1) 41 with h | h
        · exact h
        · have h3 := Nat.pow_le_pow_right (n := 2) (by omega) h
          rw [Nat.pow_succ] at h3
          have := unhide HN
          omega
      obtain ⟨g, rfl⟩ : ∃ g, gk = g + 1 := ⟨gk - 1, by omega⟩
      have HKK : Hid (g + 1 + i = 41 ∧ K = 2 ^ i ∧ 2 * K < n) := ⟨hg, hK, hlt⟩
      clear hg hK hKn hlt h41
      go_wp2_with fail
      go_roundg g
      case measure => omega
      case rel => exact ⟨i + 1, 2 * K, by have := (unhide HKK).1; omega, by push_cast; rfl, by rw [Nat.pow_succ, (unhide HKK).2.1]; omega, (unhide HKK).2.2, rfl⟩
    · have hl : ¬ 2 * (K : Int) < (n : Int) := by omega
      have hh := half_is hK hKn hlt
      have HH := hide hh
      clear hg hK hKn hlt hh
      go_wp2_with fail
      go_ret
      exact ⟨by rw [unhide HH]; rfl, rfl⟩

set_option maxRecDepth 100000 in
set_option maxHeartbeats 4000000 in
theorem rnode_any (w : World) (d e : List Int) (hd : Dg d) (he : Dg e) :
    Calls Tryd.prog 50 #[dv d, dv e] w fun x w' => x = .returned (dv (nodeP d e)) ∧ Below w.heap.size w w' := by
  have HD := hide hd
  have hld := hd.len
  obtain ⟨cd, hcd⟩ : ∃ cs, cs = (d.map (Value.int .u8)).toArray := ⟨_, rfl⟩
  have hsd : cd.size = 32 := by rw [hcd]; simpa using hld
  rw [show dv d = .agg cd by rw [hcd]]
  have HE := hide he
  have hle := he.len
  obtain ⟨ce, hce⟩ : ∃ cs, cs = (e.map (Value.int .u8)).toArray := ⟨_, rfl⟩
  have hse : ce.size = 32 := by rw [hce]; simpa using hle
  rw [show dv e = .agg ce by rw [hce]]
  clear hd hld he hle
  go_enter Tryd.func50, Tryd.ntmps50
  go_upto_region 1 with fail
  generalize hX1 : w.alloc _ = W1
  have hB1 : Below w.heap.size w W1 := hX1 ▸ (Below.refl _ _).alloc (Nat.le_refl _) _
  have ho1 : ByAt W1 w.heap.size 24 d := boxed w W1 d _ (by rw [← hX1]; first | rfl | (rw [hcd]; rfl))
  have hz1 : W1.heap.size = w.heap.size + 1 := by rw [← hX1]; show (w.heap.push _).size = _; rw [Array.size_push]
  generalize hX2 : W1.alloc _ = W2
  have hB2 : Below W1.heap.size W1 W2 := hX2 ▸ (Below.refl _ _).alloc (Nat.le_refl _) _
  have ho2 : ByAt W2 W1.heap.size 24 e := boxed W1 W2 e _ (by rw [← hX2]; first | rfl | (rw [hce]; rfl))
  have hz2 : W2.heap.size = w.heap.size + 2 := by rw [← hX2]; show (W1.heap.push _).size = _; rw [Array.size_push]; omega
  generalize hX3 : W2.alloc _ = W3
  have hB3 : Below W2.heap.size W2 W3 := hX3 ▸ (Below.refl _ _).alloc (Nat.le_refl _) _
  have ho3 : ByAt W3 W2.heap.size 24 zeros := newBy W2 W3 (by rw [← hX3]; rfl)
  have hz3 : W3.heap.size = w.heap.size + 3 := by rw [← hX3]; show (W2.heap.push _).size = _; rw [Array.size_push]; omega
  have hB : Below w.heap.size w W3 := (thenB (thenB hB1 hB2) hB3)
  have hk1 := ((ho1.keep hB2).keep hB3)
  have hk2 := (ho2.keep hB3)
  rw [hz1] at hk2
  have hk3 := ho3
  rw [hz2] at hk3
  obtain ⟨W, hW⟩ : ∃ W, W = W3.drewN 1 := ⟨_, rfl⟩
  have HW : Hid (W = W3.drewN 1) := hW
  have HK1 := hide (hk1.keep (below_named HW))
  have HK2 := hide (hk2.keep (below_named HW))
  have HK3 := hide (hk3.keep (below_named HW))
  have HB := hide (thenB hB (below_named HW))
  have HZ : Hid (w.heap.size + 3 ≤ W.heap.size) := by have := (below_named HW).size; show _ ≤ _; omega
  have hS0 : Below W.heap.size W W := Below.refl _ _
  clear hW hB hX1 hB1 ho1 hz1 hk1 hX2 hB2 ho2 hz2 hk2 hX3 hB3 ho3 hz3 hk3 hcd hce
  refine held (S := Below w.heap.size w) W HW (by kernel_rfl) ?_
  have hSW := unhide HB
  refine wpAnyH_take (i := 1) (v := ?_) rfl (by kernel_rfl) (by kernel_rfl) (by kernel_rfl) (fun _ _ _ h => h) (Or.inl ⟨by kernel_rfl, ?_⟩) (by assumption) ?_
  rotate_left
  · intro Wt hSt
    go_simp
    try with_reducible rfl
  try simp only [List.getElem_toArray, List.getElem_cons_zero, List.getElem_cons_succ, Act.put, List.setIfInBounds_toArray, List.set_cons_zero, List.set_cons_succ]
  refine wpAnyH_take (i := 3) (v := ?_) rfl (by kernel_rfl) (by kernel_rfl) (by kernel_rfl) (fun _ _ _ h => h) (Or.inl ⟨by kernel_rfl, ?_⟩) (by assumption) ?_
  rotate_left
  · intro Wt hSt
    go_simp
    try with_reducible rfl
  try simp only [List.getElem_toArray, List.getElem_cons_zero, List.getElem_cons_succ, Act.put, List.setIfInBounds_toArray, List.set_cons_zero, List.set_cons_succ]
  refine wpAnyH_chainOf [0, 2, 4, 5, 6] _ _ _ (by kernel_rfl) (by kernel_rfl) ?_
  simp only [List.filterMap_cons, List.filterMap_nil, List.getElem?_toArray, List.getElem?_cons_zero, List.getElem?_cons_succ]
  refine wpChain_step rfl fun K hK => ?_
  go_simp
  generalize hX : W.alloc _ = V1
  have hv1 : Below W.heap.size W V1 := hX ▸ (Below.refl _ _).alloc (Nat.le_refl _) _
  have hown1 : OwnB V1 W.heap.size (.slice (some ⟨W.heap.size, 0, none⟩) 0 0) [] := hX ▸ World.ownsRow_lit W #[] 0 (Nat.le_refl _) (Nat.zero_le _) rfl
  clear hX
  refine hK _ _ (thenB hSW hv1) ?_
  clear hK K
  refine wpChain_step rfl fun K hK => ?_
  obtain ⟨v2, V2, hr2, hown2, hg2⟩ := run_append_B hown1 22 (some ⟨w.heap.size, 0, none⟩) 32 (((unhide HK1).keep hv1).bt (unhide HD)) (fun h => by cases h) (by rw [(unhide HD).len]; simp) hv1.size
  rw [(unhide HD).len] at hr2
  have hv2 := grown_below hv1 hg2 (fun k hk => (hown1.lt k hk).1)
  refine wp_append (.tmp 5) (.tmp 6) 22 rfl _ _ v2 V2 rfl rfl hr2 ?_
  refine hK _ _ (thenB hSW hv2) ?_
  clear hK K hr2 hown1 hg2 hv1
  refine wpChain_step rfl fun K hK => ?_
  obtain ⟨v3, V3, hr3, hown3, hg3⟩ := run_append_B hown2 22 (some ⟨w.heap.size + 1, 0, none⟩) 32 (((unhide HK2).keep hv2).bt (unhide HE)) (fun h => by cases h) (by rw [List.nil_append, (unhide HD).len, (unhide HE).len]; omega) hv2.size
  rw [(unhide HE).len] at hr3
  have hv3 := grown_below hv2 hg3 (fun k hk => (hown2.lt k hk).1)
  refine wp_append (.tmp 7) (.tmp 8) 22 rfl _ _ v3 V3 rfl rfl hr3 ?_
  refine hK _ _ (thenB hSW hv3) ?_
  clear hK K hr3 hown2 hg3 hv2
  rw [List.nil_append] at hown3
  have hlen : (d ++ e).length = 64 := by rw [List.length_append, (unhide HD).len, (unhide HE).len]
  have hne : d ++ e ≠ [] := by
    intro h
    rw [h] at hlen
    simp at hlen
  obtain ⟨g3, c3, rfl, -, -, -⟩ := hown3.opened hne
  have hbt3 : Bt V3 (some ⟨g3, 0, none⟩) (d ++ e) ∧ (d ++ e).length ≤ c3 := by
    obtain ⟨A4, c4, e', hc4, hbt4⟩ := hown3.bt (fun x hx => by
      rcases List.mem_append.1 hx with h | h
      · exact (unhide HD).byt x h
      · exact (unhide HE).byt x h)
    injection e' with e1 e2 e3
    subst e1 e3
    exact ⟨hbt4, hc4⟩
  have hsm := rtag_any V3 ⟨#[110, 111, 100, 101]⟩ (some ⟨g3, 0, none⟩) c3 (d ++ e) hbt3.1 hbt3.2 (fun h => by cases h) (by rw [hlen]; omega) (by decide)
  rw [show sb ⟨#[110, 111, 100, 101]⟩ = [110, 111, 100, 101] by decide] at hsm
  obtain ⟨T, hT⟩ : ∃ T, T = nodeP d e := ⟨_, rfl⟩
  rw [show tagF [110, 111, 100, 101] (d ++ e) = T from hT ▸ rfl] at hsm
  have HTT := hide hT
  have hgT : Dg T := hT ▸ dg_hash _
  obtain ⟨nl, hnl⟩ : ∃ nl, nl = (d ++ e).length := ⟨_, rfl⟩
  rw [← hnl] at hsm ⊢
  obtain ⟨ct, hct⟩ : ∃ cs, cs = (T.map (Value.int .u8)).toArray := ⟨_, rfl⟩
  rw [show dv T = .agg ct by rw [hct]] at hsm
  have HCT := hide hct
  have HGT := hide hgT
  have hSV := thenB hSW hv3
  have hO3 := (unhide HK3).keep hv3
  clear hct hgT hT hnl hbt3 hown3 hne hv3 hlen
  refine wpChain_step rfl fun K hK => ?_
  go_simp
  refine hsm.mono ?_; rintro x V4 ⟨rfl, hb4⟩
  have hS4 := thenB hSV hb4
  have hO4 := hO3.keep hb4
  dsimp only
  refine hK _ _ hS4 ?_
  clear hK K hsm
  refine wpChain_bstore rfl 24 (.tmp 4) (.tmp 10) rfl (w.heap.size + 2) rfl T (show Value.agg ct = _ by rw [unhide HCT]) 32 info32 (unhide HGT).len _ zeros hO4 rfl ?_
  intro W9 HW9 HG
  have hS9 : Below w.heap.size w W9 := hS4.grown (unhide HG) hS4.size (fun i e => by injection e with e; omega)
  refine ⟨hS9, wpChain_nil ?_⟩
  have HS9 := hide hS9
  clear hO4 hO3 hS4 hSV hSW hS9 hb4
  go_wp2_with fail
  try simp only [Exit.inBlock, Exit.then]
  exact bret rfl rfl (w.heap.size + 2) rfl _ _ (unhide HW9) (unhide HGT).len ⟨by rw [unhide HTT], unhide HS9⟩
end Go.Proofs.YtceppmajbkmbdaaDoor
namespace Go.Proofs.YtceppmajbkmbdaaDoor
set_option linter.unusedSimpArgs false
set_option linter.unusedVariables false
open Go.RowKit

theorem treeD_ne {l : List (List Int)} (h : l ≠ []) : treeD l = treeP l := if_neg h
theorem bt_of_range {w : World} {b o : Nat} {d : List Int} (hd : Dg d) (h : w.rangeAt b o (d.map (Value.int .u8))) : Bt w (some ⟨b, o, none⟩) d :=
  ⟨hd.byt, fun _ => ⟨b, o, rfl, fun i hi => h i _ (by rw [List.getElem?_map, List.getD_eq_getElem?_getD, List.getElem?_eq_getElem hi]; rfl)⟩⟩
set_option maxRecDepth 100000 in
set_option maxHeartbeats 4000000 in
theorem rtree_step (n : Nat) (IH : ∀ (l : List (List Int)), l.length < n → ∀ (w : World) (c : Nat) (A : Option Addr), Ds w A l → l.length ≤ c →
      Calls Tryd.prog 16 #[.slice A l.length c] w fun x w' => x = .returned (dv (treeD l)) ∧ Below w.heap.size w w')
    (l : List (List Int)) (hn : l.length = n) (h1000 : n ≤ 1099511627776) (w : World) (c : Nat) (A : Option Addr) (hA : Ds w A l) (hc : l.length ≤ c) :
    Calls Tryd.prog 16 #[.slice A n c] w fun x w' => x = .returned (dv (treeD l)) ∧ Below w.heap.size w w' := by
  by_cases hz : n = 0
  · subst hz
    obtain rfl := List.length_eq_zero_iff.1 hn
    clear IH hA hc hn
    go_enter Tryd.func16, Tryd.ntmps16
    go_upto_region 1 with fail
    generalize hX1 : w.alloc _ = W1
    have hB1 : Below w.heap.size w W1 := hX1 ▸ (Below.refl _ _).alloc (Nat.le_refl _) _
    have HO1 := hide (newBy w W1 (by rw [← hX1]; rfl))
    have HB1 := hide hB1
    clear hX1 hB1
    go_wp2_with fail
    refine (rtag_any W1 ⟨#[101, 109, 112, 116, 121]⟩ none 0 [] Bt.nil (Nat.le_refl _) (fun _ => rfl) (by decide) (by decide)).mono ?_; rintro x W2 ⟨rfl, hB2⟩
    rw [sb_empty]
    have HB2 := hide (thenB (unhide HB1) hB2)
    have HO2 := hide ((unhide HO1).keep hB2)
    clear hB2
    dsimp only
    rename_i KK hK
    refine hK _ _ ?_
    clear hK KK
    refine wpList_bstore rfl 24 (.tmp 2) (.tmp 7) rfl w.heap.size rfl emptyP rfl 32 info32 (dg_hash _).len _ zeros (unhide HO2) rfl ?_
    intro W9 HW9 HG
    go_wp2_with fail
    try simp only [Exit.inBlock, Exit.then]
    exact bret rfl rfl w.heap.size rfl _ _ (unhide HW9) (dg_hash _).len ⟨rfl, (unhide HB2).grown (unhide HG) (unhide HB2).size (fun i e => by injection e with e; omega)⟩
  have hne : l ≠ [] := fun e => by rw [e] at hn; exact hz hn.symm
  rw [treeD_ne hne]
  have HI := hide IH
  have HA := hide hA
  have HN := hide hn
  obtain ⟨sb', so, rfl, hrg⟩ := hA.at_ hne
  have HR := hide hrg
  have hcn : (n : Int) ≤ (c : Int) := by omega
  have HC : Hid (n ≤ c ∧ n ≤ 1099511627776) := ⟨by omega, h1000⟩
  by_cases h1 : n = 1
  · obtain ⟨d, rfl⟩ : ∃ d, l = [d] := List.length_eq_one_iff.1 (by omega)
    subst h1
    have hd0 := hA.dg d (by simp)
    have HD := hide hd0
    have hr0 := hrg 0 d rfl
    rw [Nat.zero_mul, Nat.add_zero] at hr0
    have HR0 := hide hr0
    clear IH hA hn hc hrg hd0 h1000 hcn hne hz hr0
    go_enter Tryd.func16, Tryd.ntmps16
    go_upto_region 1 with fail
    generalize hX1 : w.alloc _ = W1
    have hB1 : Below w.heap.size w W1 := hX1 ▸ (Below.refl _ _).alloc (Nat.le_refl _) _
    have HO1 := hide (newBy w W1 (by rw [← hX1]; rfl))
    have HB1 := hide hB1
    clear hX1 hB1
    have hsm := rtag_any W1 ⟨#[108, 101, 97, 102]⟩ (some ⟨sb', so, none⟩) 32 d (bt_of_range (unhide HD) (rangeAt_keep (unhide HR0) (unhide HB1))) (Nat.le_of_eq (unhide HD).len) (fun h => by cases h) (by rw [(unhide HD).len]; omega) (by decide)
    rw [show sb ⟨#[108, 101, 97, 102]⟩ = [108, 101, 97, 102] by decide, show tagF [108, 101, 97, 102] d = leafP d from rfl, (unhide HD).len] at hsm
    have HSM := hide hsm
    clear hsm
    go_wp2_with fail
    refine (unhide HSM).mono ?_; rintro x W2 ⟨rfl, hB2⟩
    have HB2 := hide (thenB (unhide HB1) hB2)
    have HO2 := hide ((unhide HO1).keep hB2)
    clear hB2 HSM
    dsimp only
    rename_i KK hK
    refine hK _ _ ?_
    clear hK KK
    refine wpList_bstore rfl 24 (.tmp 2) (.tmp 14) rfl w.heap.size rfl (leafP d) rfl 32 info32 (dg_hash _).len _ zeros (unhide HO2) rfl ?_
    intro W9 HW9 HG
    go_wp2_with fail
    try simp only [Exit.inBlock, Exit.then]
    rw [treeP_one]
    exact bret rfl rfl w.heap.size rfl _ _ (unhide HW9) (dg_hash _).len ⟨rfl, (unhide HB2).grown (unhide HG) (unhide HB2).size (fun i e => by injection e with e; omega)⟩
  · have h2 : 2 ≤ n := by have := List.length_pos_iff.2 hne; omega
    obtain ⟨k, hk⟩ : ∃ k, k = halfN n := ⟨_, rfl⟩
    have hkn := halfN_lt h2
    have hk0 := halfN_pos n
    rw [← hk] at hkn hk0
    have HK : Hid (k = halfN n ∧ 0 < k ∧ k < n ∧ 2 ≤ n) := ⟨hk, hk0, hkn, h2⟩
    have n0 : ¬ (n : Int) = 0 := by omega
    have n1 : ¬ (n : Int) = 1 := by omega
    have k0 : (0 : Int) ≤ (k : Int) := Int.natCast_nonneg _
    have k1 : (k : Int) ≤ (n : Int) := by omega
    have k2 : (k : Int) ≤ (c : Int) := by omega
    have k3 : ¬ (c = k) := by omega
    clear IH hA hn hc hrg h1000 hne hk hkn hk0 h2 hz
    go_enter Tryd.func16, Tryd.ntmps16
    go_upto_region 1 with fail
    generalize hX1 : w.alloc _ = W1
    have hB1 : Below w.heap.size w W1 := hX1 ▸ (Below.refl _ _).alloc (Nat.le_refl _) _
    have HO1 := hide (newBy w W1 (by rw [← hX1]; rfl))
    have HB1 := hide hB1
    clear hX1 hB1
    go_wp2_with fail
    refine (rhalf_any n (unhide HK).2.2.2 (unhide HC).2 W1).mono ?_; rintro x W2 ⟨rfl, rfl⟩
    rw [← (unhide HK).1]
    obtain ⟨T1, hT1⟩ : ∃ d, d = treeP (l.take k) := ⟨_, rfl⟩
    obtain ⟨T2, hT2⟩ : ∃ d, d = treeP (l.drop k) := ⟨_, rfl⟩
    have hg1 : Dg T1 := hT1 ▸ dg_tree _
    have hg2 : Dg T2 := hT2 ▸ dg_tree _
    obtain ⟨c1, hc1⟩ : ∃ cs, cs = (T1.map (Value.int .u8)).toArray := ⟨_, rfl⟩
    obtain ⟨c2, hc2⟩ : ∃ cs, cs = (T2.map (Value.int .u8)).toArray := ⟨_, rfl⟩
    have hK := unhide HK
    have hlt : (l.take k).length = k := by have := unhide HN; simp; omega
    have hld : (l.drop k).length = n - k := by have := unhide HN; simp; omega
    have HF1 : Hid (∀ W, Below w.heap.size w W → Calls Tryd.prog 16 #[.slice (some ⟨sb', so, none⟩) k c] W fun x w' => x = .returned (.agg c1) ∧ Below W.heap.size W w') := fun W hB => by
      have := (unhide HI) (l.take k) (by omega) W c (some ⟨sb', so, none⟩) (((unhide HA).keep hB).take k) (by have := (unhide HC).1; omega)
      rw [hlt, treeD_ne (fun e => by rw [e] at hlt; simp at hlt; omega)] at this
      refine this.mono ?_
      rintro x w' ⟨rfl, h'⟩
      exact ⟨by rw [hc1, hT1], h'⟩
    have HF2 : Hid (∀ W, Below w.heap.size w W → Calls Tryd.prog 16 #[.slice (some ⟨sb', so + k * 32, none⟩) (n - k) (c - k)] W fun x w' => x = .returned (.agg c2) ∧ Below W.heap.size W w') := fun W hB => by
      have := (unhide HI) (l.drop k) (by omega) W (c - k) (some ⟨sb', so + k * 32, none⟩) (((unhide HA).keep hB).drop k) (by have := (unhide HC).1; omega)
      rw [hld, treeD_ne (fun e => by rw [e] at hld; simp at hld; omega)] at this
      refine this.mono ?_
      rintro x w' ⟨rfl, h'⟩
      exact ⟨by rw [hc2, hT2], h'⟩
    have HF3 : Hid (∀ W, Below w.heap.size w W → Calls Tryd.prog 50 #[.agg c1, .agg c2] W fun x w' => x = .returned (dv (treeP l)) ∧ Below W.heap.size W w') := fun W hB => by
      rw [hc1, hc2]
      refine (rnode_any W T1 T2 hg1 hg2).mono ?_
      rintro x w' ⟨rfl, h'⟩
      exact ⟨by rw [treeP_more l (by have := unhide HN; omega), unhide HN, ← hK.1, ← hT1, ← hT2], h'⟩
    obtain ⟨W, hW⟩ : ∃ W, W = W2.drewN 1 := ⟨_, rfl⟩
    have HW : Hid (W = W2.drewN 1) := hW
    have hSW := thenB (unhide HB1) (below_named HW)
    have HOW := hide ((unhide HO1).keep (below_named HW))
    clear hT1 hT2 hg1 hg2 hc1 hc2 hK hlt hld hW
    go_wp2_with fail
    refine held (S := Below w.heap.size w) W HW (by kernel_rfl) ?_
    refine wpAnyH_take (i := 0) (v := ?_) rfl (by kernel_rfl) (by kernel_rfl) (by kernel_rfl) (fun _ _ _ h => h) (Or.inl ⟨by kernel_rfl, ?_⟩) (by assumption) ?_
    rotate_left
    · intro Wt hSt
      go_simp
      try with_reducible rfl
    try simp only [List.getElem_toArray, List.getElem_cons_zero, List.getElem_cons_succ, Act.put, List.setIfInBounds_toArray, List.set_cons_zero, List.set_cons_succ]
    refine wpAnyH_take (i := 1) (v := ?_) rfl (by kernel_rfl) (by kernel_rfl) (by kernel_rfl) (fun _ _ _ h => h) (Or.inl ⟨by kernel_rfl, ?_⟩) (by assumption) ?_
    rotate_left
    · intro Wt hSt
      go_simp
      try with_reducible rfl
    try simp only [List.getElem_toArray, List.getElem_cons_zero, List.getElem_cons_succ, Act.put, List.setIfInBounds_toArray, List.set_cons_zero, List.set_cons_succ]
    refine wpAnyH_take (i := 2) (v := ?_) rfl (by kernel_rfl) (by kernel_rfl) (by kernel_rfl) (fun _ _ _ h => h) (Or.inl ⟨by kernel_rfl, ?_⟩) (by assumption) ?_
    rotate_left
    · intro Wt hSt
      go_simp
      try with_reducible rfl
    try simp only [List.getElem_toArray, List.getElem_cons_zero, List.getElem_cons_succ, Act.put, List.setIfInBounds_toArray, List.set_cons_zero, List.set_cons_succ]
    refine wpAnyH_take (i := 4) (v := ?_) rfl (by kernel_rfl) (by kernel_rfl) (by kernel_rfl) (fun _ _ _ h => h) (Or.inl ⟨by kernel_rfl, ?_⟩) (by assumption) ?_
    rotate_left
    · intro Wt hSt
      go_simp
      try with_reducible rfl
    try simp only [List.getElem_toArray, List.getElem_cons_zero, List.getElem_cons_succ, Act.put, List.setIfInBounds_toArray, List.set_cons_zero, List.set_cons_succ]
    refine wpAnyH_take (i := 5) (v := ?_) rfl (by kernel_rfl) (by kernel_rfl) (by kernel_rfl) (fun _ _ _ h => h) (Or.inl ⟨by kernel_rfl, ?_⟩) (by assumption) ?_
    rotate_left
    · intro Wt hSt
      go_simp
      try with_reducible rfl
    try simp only [List.getElem_toArray, List.getElem_cons_zero, List.getElem_cons_succ, Act.put, List.setIfInBounds_toArray, List.set_cons_zero, List.set_cons_succ]
    refine wpAnyH_take (i := 6) (v := ?_) rfl (by kernel_rfl) (by kernel_rfl) (by kernel_rfl) (fun _ _ _ h => h) (Or.inl ⟨by kernel_rfl, ?_⟩) (by assumption) ?_
    rotate_left
    · intro Wt hSt
      go_simp
      try with_reducible rfl
    try simp only [List.getElem_toArray, List.getElem_cons_zero, List.getElem_cons_succ, Act.put, List.setIfInBounds_toArray, List.set_cons_zero, List.set_cons_succ]
    refine wpAnyH_chainOf [3, 7, 8, 9] _ _ _ (by kernel_rfl) (by kernel_rfl) ?_
    simp only [List.filterMap_cons, List.filterMap_nil, List.getElem?_toArray, List.getElem?_cons_zero, List.getElem?_cons_succ]
    refine wpChain_step rfl fun K hK => ?_
    go_simp
    refine ((unhide HF1) _ hSW).mono ?_; rintro x wA ⟨rfl, hA1⟩
    have hSA := thenB hSW hA1
    dsimp only
    refine hK _ _ hSA ?_
    clear hK K
    refine wpChain_step rfl fun K hK => ?_
    go_simp
    refine ((unhide HF2) _ hSA).mono ?_; rintro x wB ⟨rfl, hA2⟩
    have hSB := thenB hSA hA2
    dsimp only
    refine hK _ _ hSB ?_
    clear hK K
    refine wpChain_step rfl fun K hK => ?_
    go_simp
    refine ((unhide HF3) _ hSB).mono ?_; rintro x wC ⟨rfl, hA3⟩
    have hSC := thenB hSB hA3
    have hO := (((unhide HOW).keep hA1).keep hA2).keep hA3
    dsimp only
    refine hK _ _ hSC ?_
    clear hK K
    refine wpChain_bstore rfl 24 (.tmp 2) (.tmp 26) rfl w.heap.size rfl (treeP l) rfl 32 info32 (dg_tree l).len _ zeros hO rfl ?_
    intro W9 HW9 HG
    have hS9 : Below w.heap.size w W9 := hSC.grown (unhide HG) hSC.size (fun i e => by injection e with e; omega)
    refine ⟨hS9, wpChain_nil ?_⟩
    clear hO hSC hSB hSA hA1 hA2 hA3
    have HS9 := hide hS9
    clear hS9 hSW
    go_wp2_with fail
    try simp only [Exit.inBlock, Exit.then]
    exact bret rfl rfl w.heap.size rfl _ _ (unhide HW9) (dg_tree l).len ⟨rfl, unhide HS9⟩
theorem rtree_all (n : Nat) : ∀ (l : List (List Int)), l.length = n → n ≤ 1099511627776 → ∀ (w : World) (c : Nat) (A : Option Addr), Ds w A l → l.length ≤ c →
      Calls Tryd.prog 16 #[.slice A n c] w fun x w' => x = .returned (dv (treeD l)) ∧ Below w.heap.size w w' := by
  induction n using Nat.strongRecOn with
  | _ n IH =>
    intro l hn h1000 w c A hA hc
    exact rtree_step n (fun l' hl' w' c' A' hA' hc' => IH l'.length hl' l' rfl (by omega) w' c' A' hA' hc') l hn h1000 w c A hA hc
theorem rtree_any (w : World) (c : Nat) (A : Option Addr) (l : List (List Int)) (hA : Ds w A l) (hc : l.length ≤ c) (h1000 : l.length ≤ 1099511627776) :
    Calls Tryd.prog 16 #[.slice A l.length c] w fun x w' => x = .returned (dv (treeD l)) ∧ Below w.heap.size w w' :=
  rtree_all l.length l rfl h1000 w c A hA hc
end Go.Proofs.YtceppmajbkmbdaaDoor
namespace Go.Proofs.YtceppmajbkmbdaaDoor
set_option linter.unusedSimpArgs false
set_option linter.unusedVariables false
open Go.RowKit

set_option maxRecDepth 100000 in
set_option maxHeartbeats 2000000 in
theorem rlen_step (n : Nat) (IH : ∀ n', n' < n → ∀ at_ : Nat, 1 ≤ n' → at_ < n' → ∀ w, Calls Tryd.prog 56 #[.int .i64 (at_ : Int), .int .i64 (n' : Int)] w fun x w' => x = .returned (.int .i64 ((lenP n' at_ : Nat) : Int)) ∧ w' = w)
    (at_ : Nat) (h1 : 1 ≤ n) (hn : n ≤ 1099511627776) (ha : at_ < n) (w : World) :
    Calls Tryd.prog 56 #[.int .i64 (at_ : Int), .int .i64 (n : Int)] w fun x w' => x = .returned (.int .i64 ((lenP n at_ : Nat) : Int)) ∧ w' = w := by
  have HI := hide IH
  by_cases e1 : n = 1
  · subst e1
    rw [lenP_one]
    clear IH h1 hn ha
    go_enter Tryd.func56, Tryd.ntmps56
    go_wp2_with fail
    go_ret
    exact ⟨rfl, rfl⟩
  · have h2 : 2 ≤ n := by omega
    obtain ⟨k, hk⟩ : ∃ k, k = halfN n := ⟨_, rfl⟩
    have hkn := halfN_lt h2
    have hk0 := halfN_pos n
    rw [← hk] at hkn hk0
    have hlt := lenP_lt n at_ h1
    have n1 : ¬ (n : Int) = 1 := by omega
    have HK : Hid (k = halfN n ∧ 0 < k ∧ k < n ∧ 2 ≤ n ∧ n ≤ 1099511627776) := ⟨hk, hk0, hkn, h2, hn⟩
    by_cases hak : at_ < k
    · have i1 : (at_ : Int) < (k : Int) := by omega
      obtain ⟨L, hL⟩ : ∃ L, L = lenP k at_ := ⟨_, rfl⟩
      have e : lenP n at_ = 1 + L := by rw [hL, hk]; exact lenP_left h2 (hk ▸ hak)
      rw [e] at hlt ⊢
      have wl : IntKind.i64.wrap (1 + (L : Int)) = ((1 + L : Nat) : Int) := (IntWalk.i64_in _ (by omega)).trans (by omega)
      have HL : Hid (L = lenP k at_ ∧ at_ < k) := ⟨hL, hak⟩
      clear IH h1 hn ha e1 h2 hk hkn hk0 hlt hak hL e
      go_enter Tryd.func56, Tryd.ntmps56
      go_wp2_with fail
      refine (rhalf_any n (unhide HK).2.2.2.1 (unhide HK).2.2.2.2 w).mono ?_; rintro x W2 ⟨rfl, rfl⟩
      rw [← (unhide HK).1]
      go_wp2_with fail
      refine ((unhide HI) k (unhide HK).2.2.1 at_ (unhide HK).2.1 (unhide HL).2 W2).mono ?_; rintro x W3 ⟨rfl, rfl⟩
      rw [← (unhide HL).1]
      go_wp2_with fail
      go_ret
      exact ⟨rfl, rfl⟩
    · have i1 : ¬ (at_ : Int) < (k : Int) := by omega
      obtain ⟨ak, hak2⟩ : ∃ a, a = at_ - k := ⟨_, rfl⟩
      obtain ⟨nk, hnk⟩ : ∃ a, a = n - k := ⟨_, rfl⟩
      obtain ⟨L, hL⟩ : ∃ L, L = lenP nk ak := ⟨_, rfl⟩
      have e : lenP n at_ = 1 + L := by rw [hL, hnk, hak2, hk]; exact lenP_right h2 (hk ▸ hak)
      rw [e] at hlt ⊢
      have wl : IntKind.i64.wrap (1 + (L : Int)) = ((1 + L : Nat) : Int) := (IntWalk.i64_in _ (by omega)).trans (by omega)
      have wa : IntKind.i64.wrap ((at_ : Int) - (k : Int)) = (ak : Int) := (IntWalk.i64_in _ (by omega)).trans (by omega)
      have wn : IntKind.i64.wrap ((n : Int) - (k : Int)) = (nk : Int) := (IntWalk.i64_in _ (by omega)).trans (by omega)
      have HL : Hid (L = lenP nk ak ∧ nk < n ∧ 1 ≤ nk ∧ ak < nk) := ⟨hL, by omega, by omega, by omega⟩
      clear IH h1 hn ha e1 h2 hk hkn hk0 hlt hak hL e hak2 hnk
      go_enter Tryd.func56, Tryd.ntmps56
      go_wp2_with fail
      refine (rhalf_any n (unhide HK).2.2.2.1 (unhide HK).2.2.2.2 w).mono ?_; rintro x W2 ⟨rfl, rfl⟩
      rw [← (unhide HK).1]
      go_wp2_with fail
      refine ((unhide HI) nk (unhide HL).2.1 ak (unhide HL).2.2.1 (unhide HL).2.2.2 W2).mono ?_; rintro x W3 ⟨rfl, rfl⟩
      rw [← (unhide HL).1]
      go_wp2_with fail
      go_ret
      exact ⟨rfl, rfl⟩
theorem rlen_all (n : Nat) : n ≤ 1099511627776 → ∀ at_ : Nat, 1 ≤ n → at_ < n → ∀ w, Calls Tryd.prog 56 #[.int .i64 (at_ : Int), .int .i64 (n : Int)] w fun x w' => x = .returned (.int .i64 ((lenP n at_ : Nat) : Int)) ∧ w' = w := by
  induction n using Nat.strongRecOn with
  | _ n IH =>
    intro hn at_ h1 ha w
    exact rlen_step n (fun n' h' at' h1' ha' w' => IH n' h' (by omega) at' h1' ha' w') at_ h1 hn ha w
theorem rlen_any (n at_ : Nat) (h1 : 1 ≤ n) (hn : n ≤ 1099511627776) (ha : at_ < n) (w : World) : Calls Tryd.prog 56 #[.int .i64 (at_ : Int), .int .i64 (n : Int)] w fun x w' => x = .returned (.int .i64 ((lenP n at_ : Nat) : Int)) ∧ w' = w :=
  rlen_all n hn at_ h1 ha w

abbrev PathIs (w : World) (l : List (List Int)) (n at_ c : Nat) (A : Option Addr) : Prop :=
  Calls Tryd.prog 53 #[.slice A n c, .int .i64 (at_ : Int)] w fun x w' => (∃ v, x = .returned v ∧ OwnD w' w.heap.size v (pathP l at_)) ∧ Below w.heap.size w w'
theorem OwnD.le {w : World} {base base' : Nat} {v : Value} {p : List (List Int)} (h : OwnD w base v p) (hb : base' ≤ base) : OwnD w base' v p := h.down hb
set_option maxRecDepth 100000 in
set_option maxHeartbeats 4000000 in
theorem rpath_step (n : Nat) (IH : ∀ (l : List (List Int)), l.length < n → ∀ (at_ : Nat) (w : World) (c : Nat) (A : Option Addr), at_ < l.length → Ds w A l → l.length ≤ c → PathIs w l l.length at_ c A)
    (l : List (List Int)) (hl : l.length = n) (h8 : n ≤ 100000000) (at_ : Nat) (w : World) (c : Nat) (A : Option Addr) (hat : at_ < n) (hA : Ds w A l) (hc : n ≤ c) : PathIs w l n at_ c A := by
  have HI := hide IH
  obtain ⟨sb', so, rfl, hrg⟩ := hA.at_ (fun e => by rw [e] at hl; simp at hl; omega)
  by_cases e1 : n = 1
  · subst e1
    unfold PathIs
    rw [pathP_one at_ (by omega)]
    clear IH hl h8 hat hA hc hrg
    go_enter Tryd.func53, Tryd.ntmps53
    go_wp2_with fail
    go_ret
    refine ⟨⟨_, rfl, ?_⟩, ?_⟩
    · exact World.ownsRow_lit w #[] 0 (Nat.le_refl _) (Nat.zero_le _) rfl
    · exact (Below.refl _ _).alloc (Nat.le_refl _) _
  · have h2 : 2 ≤ n := by omega
    obtain ⟨k, hk⟩ : ∃ k, k = halfN n := ⟨_, rfl⟩
    have hkn := halfN_lt h2
    have hk0 := halfN_pos n
    rw [← hk] at hkn hk0
    have hpl := (pathP_spec n l at_ hl hat).1
    have hll := lenP_lt n at_ (by omega)
    have n1 : ¬ (n : Int) = 1 := by omega
    have k0 : (0 : Int) ≤ (k : Int) := Int.natCast_nonneg _
    have k1 : (k : Int) ≤ (n : Int) := by omega
    have k2 : (k : Int) ≤ (c : Int) := by omega
    have k3 : ¬ (c = k) := by omega
    have k4 : (n : Int) ≤ (c : Int) := by omega
    have HA := hide hA
    have hlt : (l.take k).length = k := by simp; omega
    have hld : (l.drop k).length = n - k := by simp; omega
    have HLL : Hid ((l.take k).length = k ∧ (l.drop k).length = n - k) := ⟨hlt, hld⟩
    have HK : Hid (k = halfN n ∧ 0 < k ∧ k < n ∧ 2 ≤ n ∧ n ≤ 100000000 ∧ n ≤ c ∧ l.length = n ∧ at_ < n) := ⟨hk, hk0, hkn, h2, h8, hc, hl, hat⟩
    by_cases hak : at_ < k
    · have i1 : (at_ : Int) < (k : Int) := by omega
      have e := pathP_left (l := l) (at_ := at_) (by omega) (by rw [hl, ← hk]; exact hak)
      rw [hl, ← hk] at e
      obtain ⟨q, hq⟩ : ∃ q, q = pathP (l.take k) at_ := ⟨_, rfl⟩
      obtain ⟨T, hTd⟩ : ∃ d, d = treeP (l.drop k) := ⟨_, rfl⟩
      rw [← hq, ← hTd] at e
      have hql : q.length ≤ 100000000 := by rw [e, List.length_append] at hpl; omega
      unfold PathIs
      rw [e]
      have hgT : Dg T := hTd ▸ dg_tree _
      obtain ⟨ct, hct⟩ : ∃ cs, cs = (T.map (Value.int .u8)).toArray := ⟨_, rfl⟩
      have hst : ct.size = 32 := by rw [hct]; simpa using hgT.len
      have HF1 : Hid (∀ W, Below w.heap.size w W → Calls Tryd.prog 53 #[.slice (some ⟨sb', so, none⟩) k c, .int .i64 (at_ : Int)] W fun x w' => (∃ v, x = .returned v ∧ OwnD w' W.heap.size v q) ∧ Below W.heap.size W w') := fun W hB => by
        have := (unhide HI) (l.take k) (by have := unhide HLL; have := unhide HK; omega) at_ W c (some ⟨sb', so, none⟩) (by rw [(unhide HLL).1]; exact hak) (((unhide HA).keep hB).take k) (by have := unhide HLL; have := unhide HK; omega)
        unfold PathIs at this
        rw [(unhide HLL).1, ← hq] at this
        exact this
      have HF2 : Hid (∀ W, Below w.heap.size w W → Calls Tryd.prog 16 #[.slice (some ⟨sb', so + k * 32, none⟩) (n - k) (c - k)] W fun x w' => x = .returned (.agg ct) ∧ Below W.heap.size W w') := fun W hB => by
        have := rtree_any W (c - k) (some ⟨sb', so + k * 32, none⟩) (l.drop k) (((unhide HA).keep hB).drop k) (by have := unhide HLL; have := unhide HK; omega) (by have := unhide HLL; have := unhide HK; omega)
        rw [(unhide HLL).2, treeD_ne (fun e => by have h := (unhide HLL).2; rw [e] at h; simp at h; have := unhide HK; omega)] at this
        refine this.mono ?_
        rintro x w' ⟨rfl, h'⟩
        exact ⟨by rw [hct, hTd], h'⟩
      have HGT := hide hgT
      have HCT := hide hct
      have HQL := hide hql
      clear IH hl h8 hat hA hc hrg e1 h2 hk hkn hk0 hpl hll hlt hld hak e hq hTd hql hgT hct
      go_enter Tryd.func53, Tryd.ntmps53
      go_wp2_with fail
      refine (rhalf_any n (unhide HK).2.2.2.1 (by have := unhide HK; omega) w).mono ?_; rintro x W2 ⟨rfl, rfl⟩
      rw [← (unhide HK).1]
      obtain ⟨W, hW⟩ : ∃ W, W = W2.drewN 1 := ⟨_, rfl⟩
      have HW : Hid (W = W2.drewN 1) := hW
      have hSW := below_named HW
      clear hW
      go_wp2_with fail
      refine held (S := Below W2.heap.size W2) W HW (by kernel_rfl) ?_
      refine wpAnyH_take (i := 0) (v := ?_) rfl (by kernel_rfl) (by kernel_rfl) (by kernel_rfl) (fun _ _ _ h => h) (Or.inl ⟨by kernel_rfl, ?_⟩) (by assumption) ?_
      rotate_left
      · intro Wt hSt
        go_simp
        try with_reducible rfl
      try simp only [List.getElem_toArray, List.getElem_cons_zero, List.getElem_cons_succ, Act.put, List.setIfInBounds_toArray, List.set_cons_zero, List.set_cons_succ]
      refine wpAnyH_take (i := 1) (v := ?_) rfl (by kernel_rfl) (by kernel_rfl) (by kernel_rfl) (fun _ _ _ h => h) (Or.inl ⟨by kernel_rfl, ?_⟩) (by assumption) ?_
      rotate_left
      · intro Wt hSt
        go_simp
        try with_reducible rfl
      try simp only [List.getElem_toArray, List.getElem_cons_zero, List.getElem_cons_succ, Act.put, List.setIfInBounds_toArray, List.set_cons_zero, List.set_cons_succ]
      refine wpAnyH_take (i := 2) (v := ?_) rfl (by kernel_rfl) (by kernel_rfl) (by kernel_rfl) (fun _ _ _ h => h) (Or.inl ⟨by kernel_rfl, ?_⟩) (by assumption) ?_
      rotate_left
      · intro Wt hSt
        go_simp
        try with_reducible rfl
      try simp only [List.getElem_toArray, List.getElem_cons_zero, List.getElem_cons_succ, Act.put, List.setIfInBounds_toArray, List.set_cons_zero, List.set_cons_succ]
      refine wpAnyH_take (i := 3) (v := ?_) rfl (by kernel_rfl) (by kernel_rfl) (by kernel_rfl) (fun _ _ _ h => h) (Or.inl ⟨by kernel_rfl, ?_⟩) (by assumption) ?_
      rotate_left
      · intro Wt hSt
        go_simp
        try with_reducible rfl
      try simp only [List.getElem_toArray, List.getElem_cons_zero, List.getElem_cons_succ, Act.put, List.setIfInBounds_toArray, List.set_cons_zero, List.set_cons_succ]
      refine wpAnyH_take (i := 5) (v := ?_) rfl (by kernel_rfl) (by kernel_rfl) (by kernel_rfl) (fun _ _ _ h => h) (Or.inl ⟨by kernel_rfl, ?_⟩) (by assumption) ?_
      rotate_left
      · intro Wt hSt
        go_simp
        try with_reducible rfl
      try simp only [List.getElem_toArray, List.getElem_cons_zero, List.getElem_cons_succ, Act.put, List.setIfInBounds_toArray, List.set_cons_zero, List.set_cons_succ]
      refine wpAnyH_take (i := 6) (v := ?_) rfl (by kernel_rfl) (by kernel_rfl) (by kernel_rfl) (fun _ _ _ h => h) (Or.inl ⟨by kernel_rfl, ?_⟩) (by assumption) ?_
      rotate_left
      · intro Wt hSt
        go_simp
        try with_reducible rfl
      try simp only [List.getElem_toArray, List.getElem_cons_zero, List.getElem_cons_succ, Act.put, List.setIfInBounds_toArray, List.set_cons_zero, List.set_cons_succ]
      refine wpAnyH_take (i := 7) (v := ?_) rfl (by kernel_rfl) (by kernel_rfl) (by kernel_rfl) (fun _ _ _ h => h) (Or.inl ⟨by kernel_rfl, ?_⟩) (by assumption) ?_
      rotate_left
      · intro Wt hSt
        go_simp
        try with_reducible rfl
      try simp only [List.getElem_toArray, List.getElem_cons_zero, List.getElem_cons_succ, Act.put, List.setIfInBounds_toArray, List.set_cons_zero, List.set_cons_succ]
      refine wpAnyH_chainOf [4, 8, 9, 10, 11] _ _ _ (by kernel_rfl) (by kernel_rfl) ?_
      simp only [List.filterMap_cons, List.filterMap_nil, List.getElem?_toArray, List.getElem?_cons_zero, List.getElem?_cons_succ]
      refine wpChain_step rfl fun K hK => ?_
      go_simp
      refine ((unhide HF1) _ hSW).mono ?_; rintro x wA ⟨⟨v1, rfl, hO1⟩, hA1⟩
      have hSA := thenB hSW hA1
      dsimp only
      refine hK _ _ hSA ?_
      clear hK K
      refine wpChain_step rfl fun K hK => ?_
      go_simp
      refine ((unhide HF2) _ hSA).mono ?_; rintro x wB ⟨rfl, hA2⟩
      have hSB := thenB hSA hA2
      have hO2 := hO1.later hA2
      dsimp only
      refine hK _ _ hSB ?_
      clear hK K
      refine wpChain_step rfl fun K hK => ?_
      go_simp
      rw [overwritten hst (by rfl)]
      generalize hY : wB.alloc _ = Y1
      have hBY : Below wB.heap.size wB Y1 := hY ▸ (Below.refl _ _).alloc (Nat.le_refl _) _
      have hoY : ByAt Y1 wB.heap.size 24 T := boxed wB Y1 T _ (by rw [← hY, unhide HCT]; rfl)
      have hSC := thenB hSB hBY
      have hO3 := hO2.later hBY
      refine hK _ _ hSC ?_
      clear hK K hY
      obtain ⟨v3, V3, hr3, hown3, hg3⟩ := run_append_D hO3 26 wB.heap.size 1 T (unhide HGT) hoY (by have := unhide HQL; omega) (Nat.le_trans hA1.size (Nat.le_trans hA2.size hBY.size))
      have hS3 := grown_below hSC hg3 (fun k hk => Nat.le_trans hSW.size (hO3.lt k hk).1)
      refine wpChain_step rfl fun K hK => ?_
      refine wp_append (.tmp 20) (.tmp 25) 26 rfl _ _ v3 V3 rfl rfl hr3 ?_
      refine hK _ _ hS3 ?_
      clear hK K
      refine wpChain_step rfl fun K hK => ?_
      go_simp
      refine hK _ _ hS3 (wpChain_nil ?_)
      clear hK K
      go_wp2_with fail
      go_ret
      exact ⟨⟨_, rfl, hown3.le hSW.size⟩, hS3⟩
    · have i1 : ¬ (at_ : Int) < (k : Int) := by omega
      have e := pathP_right (l := l) (at_ := at_) (by omega) (by rw [hl, ← hk]; exact hak)
      rw [hl, ← hk] at e
      obtain ⟨ak, hak2⟩ : ∃ a, a = at_ - k := ⟨_, rfl⟩
      have wa : IntKind.i64.wrap ((at_ : Int) - (k : Int)) = (ak : Int) := (IntWalk.i64_in _ (by omega)).trans (by omega)
      obtain ⟨q, hq⟩ : ∃ q, q = pathP (l.drop k) ak := ⟨_, rfl⟩
      obtain ⟨T, hTd⟩ : ∃ d, d = treeP (l.take k) := ⟨_, rfl⟩
      rw [← hak2, ← hq, ← hTd] at e
      have hql : q.length ≤ 100000000 := by rw [e, List.length_append] at hpl; omega
      unfold PathIs
      rw [e]
      have hgT : Dg T := hTd ▸ dg_tree _
      obtain ⟨ct, hct⟩ : ∃ cs, cs = (T.map (Value.int .u8)).toArray := ⟨_, rfl⟩
      have hst : ct.size = 32 := by rw [hct]; simpa using hgT.len
      have HF1 : Hid (∀ W, Below w.heap.size w W → Calls Tryd.prog 53 #[.slice (some ⟨sb', so + k * 32, none⟩) (n - k) (c - k), .int .i64 (ak : Int)] W fun x w' => (∃ v, x = .returned v ∧ OwnD w' W.heap.size v q) ∧ Below W.heap.size W w') := fun W hB => by
        have := (unhide HI) (l.drop k) (by have := unhide HLL; have := unhide HK; omega) ak W (c - k) (some ⟨sb', so + k * 32, none⟩) (by rw [(unhide HLL).2]; have := unhide HK; omega) (((unhide HA).keep hB).drop k) (by have := unhide HLL; have := unhide HK; omega)
        unfold PathIs at this
        rw [(unhide HLL).2, ← hq] at this
        exact this
      have HF2 : Hid (∀ W, Below w.heap.size w W → Calls Tryd.prog 16 #[.slice (some ⟨sb', so, none⟩) k c] W fun x w' => x = .returned (.agg ct) ∧ Below W.heap.size W w') := fun W hB => by
        have := rtree_any W c (some ⟨sb', so, none⟩) (l.take k) (((unhide HA).keep hB).take k) (by have := unhide HLL; have := unhide HK; omega) (by have := unhide HLL; have := unhide HK; omega)
        rw [(unhide HLL).1, treeD_ne (fun e => by have h := (unhide HLL).1; rw [e] at h; simp at h; have := unhide HK; omega)] at this
        refine this.mono ?_
        rintro x w' ⟨rfl, h'⟩
        exact ⟨by rw [hct, hTd], h'⟩
      have HGT := hide hgT
      have HCT := hide hct
      have HQL := hide hql
      clear IH hl h8 hat hA hc hrg e1 h2 hk hkn hk0 hpl hll hlt hld hak e hq hTd hql hgT hct hak2
      go_enter Tryd.func53, Tryd.ntmps53
      go_wp2_with fail
      refine (rhalf_any n (unhide HK).2.2.2.1 (by have := unhide HK; omega) w).mono ?_; rintro x W2 ⟨rfl, rfl⟩
      rw [← (unhide HK).1]
      obtain ⟨W, hW⟩ : ∃ W, W = W2.drewN 1 := ⟨_, rfl⟩
      have HW : Hid (W = W2.drewN 1) := hW
      have hSW := below_named HW
      clear hW
      go_wp2_with fail
      refine held (S := Below W2.heap.size W2) W HW (by kernel_rfl) ?_
      refine wpAnyH_take (i := 0) (v := ?_) rfl (by kernel_rfl) (by kernel_rfl) (by kernel_rfl) (fun _ _ _ h => h) (Or.inl ⟨by kernel_rfl, ?_⟩) (by assumption) ?_
      rotate_left
      · intro Wt hSt
        go_simp
        try with_reducible rfl
      try simp only [List.getElem_toArray, List.getElem_cons_zero, List.getElem_cons_succ, Act.put, List.setIfInBounds_toArray, List.set_cons_zero, List.set_cons_succ]
      refine wpAnyH_take (i := 1) (v := ?_) rfl (by kernel_rfl) (by kernel_rfl) (by kernel_rfl) (fun _ _ _ h => h) (Or.inl ⟨by kernel_rfl, ?_⟩) (by assumption) ?_
      rotate_left
      · intro Wt hSt
        go_simp
        try with_reducible rfl
      try simp only [List.getElem_toArray, List.getElem_cons_zero, List.getElem_cons_succ, Act.put, List.setIfInBounds_toArray, List.set_cons_zero, List.set_cons_succ]
      refine wpAnyH_take (i := 2) (v := ?_) rfl (by kernel_rfl) (by kernel_rfl) (by kernel_rfl) (fun _ _ _ h => h) (Or.inl ⟨by kernel_rfl, ?_⟩) (by assumption) ?_
      rotate_left
      · intro Wt hSt
        go_simp
        try with_reducible rfl
      try simp only [List.getElem_toArray, List.getElem_cons_zero, List.getElem_cons_succ, Act.put, List.setIfInBounds_toArray, List.set_cons_zero, List.set_cons_succ]
      refine wpAnyH_take (i := 3) (v := ?_) rfl (by kernel_rfl) (by kernel_rfl) (by kernel_rfl) (fun _ _ _ h => h) (Or.inl ⟨by kernel_rfl, ?_⟩) (by assumption) ?_
      rotate_left
      · intro Wt hSt
        go_simp
        try with_reducible rfl
      try simp only [List.getElem_toArray, List.getElem_cons_zero, List.getElem_cons_succ, Act.put, List.setIfInBounds_toArray, List.set_cons_zero, List.set_cons_succ]
      refine wpAnyH_take (i := 4) (v := ?_) rfl (by kernel_rfl) (by kernel_rfl) (by kernel_rfl) (fun _ _ _ h => h) (Or.inl ⟨by kernel_rfl, ?_⟩) (by assumption) ?_
      rotate_left
      · intro Wt hSt
        go_simp
        try with_reducible rfl
      try simp only [List.getElem_toArray, List.getElem_cons_zero, List.getElem_cons_succ, Act.put, List.setIfInBounds_toArray, List.set_cons_zero, List.set_cons_succ]
      refine wpAnyH_take (i := 5) (v := ?_) rfl (by kernel_rfl) (by kernel_rfl) (by kernel_rfl) (fun _ _ _ h => h) (Or.inl ⟨by kernel_rfl, ?_⟩) (by assumption) ?_
      rotate_left
      · intro Wt hSt
        go_simp
        try with_reducible rfl
      try simp only [List.getElem_toArray, List.getElem_cons_zero, List.getElem_cons_succ, Act.put, List.setIfInBounds_toArray, List.set_cons_zero, List.set_cons_succ]
      refine wpAnyH_take (i := 7) (v := ?_) rfl (by kernel_rfl) (by kernel_rfl) (by kernel_rfl) (fun _ _ _ h => h) (Or.inl ⟨by kernel_rfl, ?_⟩) (by assumption) ?_
      rotate_left
      · intro Wt hSt
        go_simp
        try with_reducible rfl
      try simp only [List.getElem_toArray, List.getElem_cons_zero, List.getElem_cons_succ, Act.put, List.setIfInBounds_toArray, List.set_cons_zero, List.set_cons_succ]
      refine wpAnyH_take (i := 8) (v := ?_) rfl (by kernel_rfl) (by kernel_rfl) (by kernel_rfl) (fun _ _ _ h => h) (Or.inl ⟨by kernel_rfl, ?_⟩) (by assumption) ?_
      rotate_left
      · intro Wt hSt
        go_simp
        try with_reducible rfl
      try simp only [List.getElem_toArray, List.getElem_cons_zero, List.getElem_cons_succ, Act.put, List.setIfInBounds_toArray, List.set_cons_zero, List.set_cons_succ]
      refine wpAnyH_take (i := 9) (v := ?_) rfl (by kernel_rfl) (by kernel_rfl) (by kernel_rfl) (fun _ _ _ h => h) (Or.inl ⟨by kernel_rfl, ?_⟩) (by assumption) ?_
      rotate_left
      · intro Wt hSt
        go_simp
        try with_reducible rfl
      try simp only [List.getElem_toArray, List.getElem_cons_zero, List.getElem_cons_succ, Act.put, List.setIfInBounds_toArray, List.set_cons_zero, List.set_cons_succ]
      refine wpAnyH_chainOf [6, 10, 11, 12, 13] _ _ _ (by kernel_rfl) (by kernel_rfl) ?_
      simp only [List.filterMap_cons, List.filterMap_nil, List.getElem?_toArray, List.getElem?_cons_zero, List.getElem?_cons_succ]
      refine wpChain_step rfl fun K hK => ?_
      go_simp
      refine ((unhide HF1) _ hSW).mono ?_; rintro x wA ⟨⟨v1, rfl, hO1⟩, hA1⟩
      have hSA := thenB hSW hA1
      dsimp only
      refine hK _ _ hSA ?_
      clear hK K
      refine wpChain_step rfl fun K hK => ?_
      go_simp
      refine ((unhide HF2) _ hSA).mono ?_; rintro x wB ⟨rfl, hA2⟩
      have hSB := thenB hSA hA2
      have hO2 := hO1.later hA2
      dsimp only
      refine hK _ _ hSB ?_
      clear hK K
      refine wpChain_step rfl fun K hK => ?_
      go_simp
      rw [overwritten hst (by rfl)]
      generalize hY : wB.alloc _ = Y1
      have hBY : Below wB.heap.size wB Y1 := hY ▸ (Below.refl _ _).alloc (Nat.le_refl _) _
      have hoY : ByAt Y1 wB.heap.size 24 T := boxed wB Y1 T _ (by rw [← hY, unhide HCT]; rfl)
      have hSC := thenB hSB hBY
      have hO3 := hO2.later hBY
      refine hK _ _ hSC ?_
      clear hK K hY
      obtain ⟨v3, V3, hr3, hown3, hg3⟩ := run_append_D hO3 26 wB.heap.size 1 T (unhide HGT) hoY (by have := unhide HQL; omega) (Nat.le_trans hA1.size (Nat.le_trans hA2.size hBY.size))
      have hS3 := grown_below hSC hg3 (fun k hk => Nat.le_trans hSW.size (hO3.lt k hk).1)
      refine wpChain_step rfl fun K hK => ?_
      refine wp_append (.tmp 33) (.tmp 38) 26 rfl _ _ v3 V3 rfl rfl hr3 ?_
      refine hK _ _ hS3 ?_
      clear hK K
      refine wpChain_step rfl fun K hK => ?_
      go_simp
      refine hK _ _ hS3 (wpChain_nil ?_)
      clear hK K
      go_wp2_with fail
      go_ret
      exact ⟨⟨_, rfl, hown3.le hSW.size⟩, hS3⟩
theorem rpath_all (n : Nat) : n ≤ 100000000 → ∀ (l : List (List Int)), l.length = n → ∀ (at_ : Nat) (w : World) (c : Nat) (A : Option Addr), at_ < n → Ds w A l → n ≤ c → PathIs w l n at_ c A := by
  induction n using Nat.strongRecOn with
  | _ n IH =>
    intro h8 l hl at_ w c A hat hA hc
    exact rpath_step n (fun l' hl' at' w' c' A' hat' hA' hc' => IH l'.length hl' (by omega) l' rfl at' w' c' A' hat' hA' hc') l hl h8 at_ w c A hat hA hc
theorem rpath_any (l : List (List Int)) (h8 : l.length ≤ 100000000) (at_ : Nat) (w : World) (c : Nat) (A : Option Addr) (hat : at_ < l.length) (hA : Ds w A l) (hc : l.length ≤ c) : PathIs w l l.length at_ c A :=
  rpath_all l.length h8 l rfl at_ w c A hat hA hc
set_option maxRecDepth 100000 in
set_option maxHeartbeats 1000000 in
theorem rPath_ok (l : List (List Int)) (h8 : l.length ≤ 100000000) (at_ : Nat) (w : World) (c : Nat) (A : Option Addr) (hat : at_ < l.length) (hA : Ds w A l) (hc : l.length ≤ c) :
    Calls Tryd.prog 18 #[.slice A l.length c, .int .i64 (at_ : Int)] w fun x w' => (∃ v, x = .returned (.tuple #[v, .int .i64 0]) ∧ OwnD w' w.heap.size v (pathP l at_)) ∧ Below w.heap.size w w' := by
  have HF := hide (rpath_any l h8 at_ w c A hat hA hc)
  obtain ⟨n, hn⟩ : ∃ n, n = l.length := ⟨_, rfl⟩
  have i1 : ¬ (at_ : Int) < 0 := by omega
  have i2 : ¬ (n : Int) ≤ (at_ : Int) := by omega
  unfold PathIs at HF
  rw [← hn] at HF ⊢
  clear h8 hat hA hc hn
  go_enter Tryd.func18, Tryd.ntmps18
  go_wp2_with fail
  refine (unhide HF).mono ?_; rintro x W2 ⟨⟨v, rfl, ho⟩, hb⟩
  have HO := hide ho
  have HB := hide hb
  clear ho hb HF
  go_wp2_with fail
  go_ret2
  exact ⟨⟨_, rfl, unhide HO⟩, unhide HB⟩
set_option maxRecDepth 100000 in
set_option maxHeartbeats 1000000 in
theorem rPath_bad (n : Nat) (at_ : Int) (w : World) (c : Nat) (A : Option Addr) (h : at_ < 0 ∨ (n : Int) ≤ at_) :
    Calls Tryd.prog 18 #[.slice A n c, .int .i64 at_] w fun x w' => x = .returned (.tuple #[.slice none 0 0, .int .i64 1]) ∧ w' = w := by
  by_cases i1 : at_ < 0
  · clear h
    go_enter Tryd.func18, Tryd.ntmps18
    go_wp2_with fail
    go_ret2
    exact ⟨rfl, rfl⟩
  · have i2 : (n : Int) ≤ at_ := by omega
    clear h
    go_enter Tryd.func18, Tryd.ntmps18
    go_wp2_with fail
    go_ret2
    exact ⟨rfl, rfl⟩
end Go.Proofs.YtceppmajbkmbdaaDoor
namespace Go.Proofs.YtceppmajbkmbdaaDoor
set_option linter.unusedSimpArgs false
set_option linter.unusedVariables false
open Go.RowKit

abbrev RClimbIs (w : World) (d : List Int) (n at_ m c : Nat) (A : Option Addr) (p : List (List Int)) : Prop :=
  Calls Tryd.prog 57 #[dv d, .int .i64 (at_ : Int), .int .i64 (n : Int), .slice A m c] w fun x w' => x = .returned (dv (climbP d n at_ p)) ∧ Below w.heap.size w w'
/-- worlds behind a box that holds a digest and another one -/
structure SB2 (w : World) (d e : List Int) (W : World) : Prop where
  lo : Below w.heap.size w W
  box : ByAt W w.heap.size 24 d
  lst : ByAt W (w.heap.size + 2) 24 e
theorem SB2.later {w W W' : World} {d e : List Int} (h : SB2 w d e W) (hb : Below W.heap.size W W') : SB2 w d e W' := ⟨thenB h.lo hb, h.box.keep hb, h.lst.keep hb⟩
theorem SB2.grown {w W W' : World} {d e : List Int} (h : SB2 w d e W) (hg : W.grownBy W' (some (w.heap.size + 1))) : SB2 w d e W' :=
  ⟨h.lo.grown hg h.lo.size (fun i e => by injection e with e; omega), h.box.grown hg (by omega), h.lst.grown hg (by omega)⟩
set_option maxRecDepth 100000 in
set_option maxHeartbeats 4000000 in
theorem rclimb_one (n : Nat) (h1n : n = 1) (at_ : Nat) (d : List Int) (p : List (List Int)) (w : World) (m c : Nat) (A : Option Addr) (hn : n ≤ 1099511627776) (h1 : 1 ≤ n) (hat : at_ < n) (hpm : p.length = m) (hm : m = lenP n at_) (hmc : m ≤ c) (hd : Dg d) (hA : Ds w A p) : RClimbIs w d n at_ m c A p := by
  have HD := hide hd
  obtain ⟨cd, hcd⟩ : ∃ cs, cs = (d.map (Value.int .u8)).toArray := ⟨_, rfl⟩
  have hsd : cd.size = 32 := by rw [hcd]; simpa using hd.len
  have HCD := hide hcd
  unfold RClimbIs
  rw [show dv d = .agg cd by rw [hcd]]
  subst h1n
  rw [climbP_one]
  clear hn h1 hat hpm hm hmc hd hA hcd
  go_enter Tryd.func57, Tryd.ntmps57
  go_upto_region 1 with fail
  generalize hX1 : w.alloc _ = W1
  have hB1 : Below w.heap.size w W1 := hX1 ▸ (Below.refl _ _).alloc (Nat.le_refl _) _
  have ho1 : ByAt W1 w.heap.size 24 d := boxed w W1 d _ (by rw [← hX1]; first | rfl | (rw [unhide HCD]; rfl))
  have hz1 : W1.heap.size = w.heap.size + 1 := by rw [← hX1]; show (w.heap.push _).size = _; rw [Array.size_push]
  generalize hX2 : W1.alloc _ = W2
  have hB2 : Below W1.heap.size W1 W2 := hX2 ▸ (Below.refl _ _).alloc (Nat.le_refl _) _
  have ho2 : ByAt W2 W1.heap.size 24 zeros := newBy W1 W2 (by rw [← hX2]; rfl)
  have hz2 : W2.heap.size = w.heap.size + 2 := by rw [← hX2]; show (W1.heap.push _).size = _; rw [Array.size_push, hz1]
  rw [hz1] at ho2
  have HB := hide (thenB hB1 hB2)
  have HO1 := hide (ho1.keep hB2)
  have HO2 := hide ho2
  have HZ2 := hide hz2
  clear hX1 hX2 hB1 hB2 ho1 ho2 hz1 hz2
  have hsm := rtag_any W2 ⟨#[108, 101, 97, 102]⟩ (some ⟨w.heap.size, 0, none⟩) 32 d ((unhide HO1).bt (unhide HD)) (Nat.le_of_eq (unhide HD).len) (fun h => by cases h) (by rw [(unhide HD).len]; omega) (by decide)
  rw [show sb ⟨#[108, 101, 97, 102]⟩ = [108, 101, 97, 102] by decide, show tagF [108, 101, 97, 102] d = leafP d from rfl, (unhide HD).len] at hsm
  have HSM := hide hsm
  clear hsm
  go_wp2_with fail
  refine (unhide HSM).mono ?_; rintro x W3 ⟨rfl, hB3⟩
  have HB3 := hide (thenB (unhide HB) hB3)
  have HO3 := hide ((unhide HO2).keep hB3)
  clear hB3 HSM
  dsimp only
  rename_i KK hK
  refine hK _ _ ?_
  clear hK KK
  refine wpList_bstore rfl 24 (.tmp 8) (.tmp 14) rfl (w.heap.size + 1) rfl (leafP d) rfl 32 info32 (dg_hash _).len _ zeros (unhide HO3) rfl ?_
  intro W9 HW9 HG
  go_wp2_with fail
  try simp only [Exit.inBlock, Exit.then]
  exact bret rfl rfl (w.heap.size + 1) rfl _ _ (unhide HW9) (dg_hash _).len ⟨rfl, (unhide HB3).grown (unhide HG) (unhide HB3).size (fun i e => by injection e with e; omega)⟩
set_option maxRecDepth 100000 in
set_option maxHeartbeats 4000000 in
theorem rclimb_left (n : Nat) (h2 : 2 ≤ n) (IH : ∀ n', n' < n → ∀ (at_ : Nat) (d : List Int) (p : List (List Int)) (w : World) (m c : Nat) (A : Option Addr), 1 ≤ n' → at_ < n' → p.length = m → m = lenP n' at_ → m ≤ c → Dg d → Ds w A p → RClimbIs w d n' at_ m c A p)
    (at_ : Nat) (d : List Int) (p : List (List Int)) (w : World) (m c : Nat) (A : Option Addr) (hn : n ≤ 1099511627776) (h1 : 1 ≤ n) (hat : at_ < n) (hpm : p.length = m) (hm : m = lenP n at_) (hmc : m ≤ c) (hd : Dg d) (hA : Ds w A p) (hak : at_ < halfN n) : RClimbIs w d n at_ m c A p := by
  have HI := hide IH
  have HA := hide hA
  have HD := hide hd
  have HN : Hid (n ≤ 1099511627776 ∧ 1 ≤ n ∧ at_ < n ∧ p.length = m ∧ m = lenP n at_ ∧ m ≤ c) := ⟨hn, h1, hat, hpm, hm, hmc⟩
  obtain ⟨cd, hcd⟩ : ∃ cs, cs = (d.map (Value.int .u8)).toArray := ⟨_, rfl⟩
  have hsd : cd.size = 32 := by rw [hcd]; simpa using hd.len
  have HCD := hide hcd
  unfold RClimbIs
  rw [show dv d = .agg cd by rw [hcd]]
  obtain ⟨k, hk⟩ : ∃ k, k = halfN n := ⟨_, rfl⟩
  have hkn := halfN_lt h2
  have hk0 := halfN_pos n
  rw [← hk] at hkn hk0
  have n1 : ¬ (n : Int) = 1 := by omega
  have hm0 : 0 < m := by
    rw [hm]
    by_cases ha : at_ < halfN n
    · rw [lenP_left h2 ha]; omega
    · rw [lenP_right h2 ha]; omega
  have hpne : p ≠ [] := fun e => by rw [e] at hpm; simp at hpm; omega
  obtain ⟨pb, po, rfl, hrg⟩ := hA.at_ hpne
  have hlg := lastP_get hpne
  have hrl := hrg _ _ hlg
  have hdl : Dg (lastP p) := hA.dg _ (List.mem_of_getElem? hlg)
  obtain ⟨la, hla⟩ : ∃ la, la = m - 1 := ⟨_, rfl⟩
  rw [hpm, ← hla] at hrl
  have HRL := hide hrl
  have HDL := hide hdl
  have hll := lenP_lt n at_ h1
  have wl : IntKind.i64.wrap ((m : Int) - 1) = (la : Int) := (IntWalk.i64_in _ (by omega)).trans (by omega)
  have l0 : (0 : Int) ≤ (la : Int) := Int.natCast_nonneg _
  have l1 : (la : Int) < (m : Int) := by omega
  have l2 : (la : Int) ≤ (m : Int) := by omega
  have l3 : (la : Int) ≤ (c : Int) := by omega
  obtain ⟨cl, hcl⟩ : ∃ cs, cs = ((lastP p).map (Value.int .u8)).toArray := ⟨_, rfl⟩
  have hsl : cl.size = 32 := by rw [hcl]; simpa using hdl.len
  have HCL := hide hcl
  have HK : Hid (k = halfN n ∧ 0 < k ∧ k < n ∧ 2 ≤ n ∧ la = m - 1 ∧ 0 < m) := ⟨hk, hk0, hkn, h2, hla, hm0⟩
  have hil : (initP p).length = la := by unfold initP; simp; omega
  have HIL : Hid ((initP p).length = la) := hil
  have i1 : (at_ : Int) < (k : Int) := by omega
  obtain ⟨T1, hT1⟩ : ∃ T, T = climbP d k at_ (initP p) := ⟨_, rfl⟩
  have hlen : la = lenP k at_ := by rw [hla, hm, hk, lenP_left h2 (hk ▸ hak)]; omega
  have e0 : climbP d n at_ p = nodeP T1 (lastP p) := by rw [hT1, hk]; exact climbP_left d p h2 (hk ▸ hak)
  obtain ⟨c1, hc1⟩ : ∃ cs, cs = (T1.map (Value.int .u8)).toArray := ⟨_, rfl⟩
  have hg1 : Dg T1 := hT1 ▸ dg_climb _ _ _ _
  have hs1 : c1.size = 32 := by rw [hc1]; simpa using hg1.len
  have HF1 : Hid (∀ W, Below w.heap.size w W → Calls Tryd.prog 57 #[.agg cd, .int .i64 (at_ : Int), .int .i64 (k : Int), .slice (some ⟨pb, po, none⟩) la c] W fun x w' => x = .returned (.agg c1) ∧ Below W.heap.size W w') := fun W hB => by
    have := (unhide HI) k (by omega) at_ d (initP p) W la c (some ⟨pb, po, none⟩) (by omega) (by omega) (unhide HIL) hlen (by omega) (unhide HD) (((unhide HA).keep hB).take _)
    unfold RClimbIs at this
    rw [show dv d = .agg cd by rw [unhide HCD]] at this
    refine this.mono ?_
    rintro x w' ⟨rfl, h'⟩
    exact ⟨by rw [hc1, hT1], h'⟩
  have HF2 : Hid (∀ W, Below w.heap.size w W → Calls Tryd.prog 50 #[.agg c1, .agg cl] W fun x w' => x = .returned (dv (climbP d n at_ p)) ∧ Below W.heap.size W w') := fun W hB => by
    rw [hc1, hcl, e0]
    exact rnode_any W T1 (lastP p) hg1 (unhide HDL)
  clear IH hn h1 hat hpm hm hmc hd hA hcd hk hkn hk0 h2 hm0 hpne hrg hlg hrl hdl hla hll hcl hil hak hT1 hlen e0 hc1 hg1
  go_enter Tryd.func57, Tryd.ntmps57
  go_upto_region 1 with fail
  generalize hX1 : w.alloc _ = W1
  have hB1 : Below w.heap.size w W1 := hX1 ▸ (Below.refl _ _).alloc (Nat.le_refl _) _
  have ho1 : ByAt W1 w.heap.size 24 d := boxed w W1 d _ (by rw [← hX1]; first | rfl | (rw [unhide HCD]; rfl))
  have hz1 : W1.heap.size = w.heap.size + 1 := by rw [← hX1]; show (w.heap.push _).size = _; rw [Array.size_push]
  generalize hX2 : W1.alloc _ = W2
  have hB2 : Below W1.heap.size W1 W2 := hX2 ▸ (Below.refl _ _).alloc (Nat.le_refl _) _
  have ho2 : ByAt W2 W1.heap.size 24 zeros := newBy W1 W2 (by rw [← hX2]; rfl)
  have hz2 : W2.heap.size = w.heap.size + 2 := by rw [← hX2]; show (W1.heap.push _).size = _; rw [Array.size_push, hz1]
  rw [hz1] at ho2
  have HB := hide (thenB hB1 hB2)
  have HO1 := hide (ho1.keep hB2)
  have HO2 := hide ho2
  have HZ2 := hide hz2
  clear hX1 hX2 hB1 hB2 ho1 ho2 hz1 hz2
  go_wp2_with fail
  refine (rhalf_any n (unhide HK).2.2.2.1 (unhide HN).1 W2).mono ?_; rintro x W3 ⟨rfl, rfl⟩
  rw [← (unhide HK).1]
  go_upto_region 4 with fail
  refine wp_region_lit ?_
  refine wpList_plain rfl fun Kt hKt => ?_
  go_simp
  refine hKt _ _ ?_
  clear hKt Kt
  refine wpList_plain rfl fun Kt hKt => ?_
  go_simp
  refine hKt _ _ ?_
  clear hKt Kt
  refine wpList_plain rfl fun Kt hKt => ?_
  go_simp
  refine hKt _ _ ?_
  clear hKt Kt
  refine wpList_plain rfl fun Kt hKt => ?_
  go_simp
  refine hKt _ _ ?_
  clear hKt Kt
  refine wpList_plain rfl fun Kt hKt => ?_
  go_simp
  refine hKt _ _ ?_
  clear hKt Kt
  refine wpList_load_mid rfl 24 (.tmp 21) rfl pb (po + la * 32) rfl ((lastP p).map (Value.int .u8)) _ (rangeAt_keep (unhide HRL) (unhide HB)) Tryd.underlying24 rfl (by rw [List.length_map, (unhide HDL).len]; exact info32) ?_
  refine wpList_plain rfl fun Kt hKt => ?_
  go_simp
  refine hKt _ _ ?_
  clear hKt Kt
  generalize hX3 : World.alloc _ _ = W4
  have hB4 : Below W3.heap.size W3 W4 := hX3 ▸ (Below.refl _ _).alloc (Nat.le_refl _) _
  have ho4 : ByAt W4 W3.heap.size 24 zeros := newBy W3 W4 (by rw [← hX3]; rfl)
  rw [unhide HZ2] at ho4 ⊢
  refine wpList_bstore rfl 24 (.tmp 10) (.tmp 22) rfl (w.heap.size + 2) rfl (lastP p) rfl 32 info32 (unhide HDL).len _ zeros ho4 rfl ?_
  intro W5 HW5 HG5
  have hg5 := unhide HG5
  have HB5 := hide ((thenB (unhide HB) hB4).grown hg5 (thenB (unhide HB) hB4).size (fun i e => by injection e with e; omega))
  have HO15 := hide (((unhide HO1).keep hB4).grown hg5 (by omega))
  have HO25 := hide (((unhide HO2).keep hB4).grown hg5 (by omega))
  clear hX3 hB4 ho4 HO1 HO2 HB HG5 hg5
  obtain ⟨W, hW⟩ : ∃ W, W = W5.drewN 1 := ⟨_, rfl⟩
  have HW : Hid (W = W5.drewN 1) := hW
  have hSW : SB2 w d (lastP p) W := ⟨thenB (unhide HB5) (below_named HW), (unhide HO15).keep (below_named HW), (unhide HW5).keep (below_named HW)⟩
  have HOW := hide ((unhide HO25).keep (below_named HW))
  clear hW
  try simp only [List.getElem_toArray, List.getElem_cons_zero, List.getElem_cons_succ, Act.put, List.setIfInBounds_toArray, List.set_cons_zero, List.set_cons_succ]
  go_wp2_with fail
  refine held (S := SB2 w d (lastP p)) W HW (by kernel_rfl) ?_
  refine wpAnyH_take (i := 0) (v := .agg cd) rfl (by kernel_rfl) (by kernel_rfl) (by kernel_rfl) (fun _ _ _ h => h) (by rw [unhide HCD]; exact yieldsIf_load_mid (by kernel_rfl) 24 (.tmp 4) rfl w.heap.size 0 rfl (d.map (Value.int .u8)) _ (fun W hS => hS.box.range) Tryd.underlying24 rfl (by rw [List.length_map, (unhide HD).len]; exact info32)) (by assumption) ?_
  try simp only [List.getElem_toArray, List.getElem_cons_zero, List.getElem_cons_succ, Act.put, List.setIfInBounds_toArray, List.set_cons_zero, List.set_cons_succ]
  refine wpAnyH_take (i := 1) (v := ?_) rfl (by kernel_rfl) (by kernel_rfl) (by kernel_rfl) (fun _ _ _ h => h) (Or.inl ⟨by kernel_rfl, ?_⟩) (by assumption) ?_
  rotate_left
  · intro Wt hSt
    go_simp
    try with_reducible rfl
  try simp only [List.getElem_toArray, List.getElem_cons_zero, List.getElem_cons_succ, Act.put, List.setIfInBounds_toArray, List.set_cons_zero, List.set_cons_succ]
  refine wpAnyH_take (i := 2) (v := ?_) rfl (by kernel_rfl) (by kernel_rfl) (by kernel_rfl) (fun _ _ _ h => h) (Or.inl ⟨by kernel_rfl, ?_⟩) (by assumption) ?_
  rotate_left
  · intro Wt hSt
    go_simp
    try with_reducible rfl
  try simp only [List.getElem_toArray, List.getElem_cons_zero, List.getElem_cons_succ, Act.put, List.setIfInBounds_toArray, List.set_cons_zero, List.set_cons_succ]
  refine wpAnyH_take (i := 3) (v := ?_) rfl (by kernel_rfl) (by kernel_rfl) (by kernel_rfl) (fun _ _ _ h => h) (Or.inl ⟨by kernel_rfl, ?_⟩) (by assumption) ?_
  rotate_left
  · intro Wt hSt
    go_simp
    try with_reducible rfl
  try simp only [List.getElem_toArray, List.getElem_cons_zero, List.getElem_cons_succ, Act.put, List.setIfInBounds_toArray, List.set_cons_zero, List.set_cons_succ]
  refine wpAnyH_take (i := 4) (v := ?_) rfl (by kernel_rfl) (by kernel_rfl) (by kernel_rfl) (fun _ _ _ h => h) (Or.inl ⟨by kernel_rfl, ?_⟩) (by assumption) ?_
  rotate_left
  · intro Wt hSt
    go_simp
    try with_reducible rfl
  try simp only [List.getElem_toArray, List.getElem_cons_zero, List.getElem_cons_succ, Act.put, List.setIfInBounds_toArray, List.set_cons_zero, List.set_cons_succ]
  refine wpAnyH_take (i := 5) (v := ?_) rfl (by kernel_rfl) (by kernel_rfl) (by kernel_rfl) (fun _ _ _ h => h) (Or.inl ⟨by kernel_rfl, ?_⟩) (by assumption) ?_
  rotate_left
  · intro Wt hSt
    go_simp
    try with_reducible rfl
  try simp only [List.getElem_toArray, List.getElem_cons_zero, List.getElem_cons_succ, Act.put, List.setIfInBounds_toArray, List.set_cons_zero, List.set_cons_succ]
  refine wpAnyH_take (i := 6) (v := ?_) rfl (by kernel_rfl) (by kernel_rfl) (by kernel_rfl) (fun _ _ _ h => h) (Or.inl ⟨by kernel_rfl, ?_⟩) (by assumption) ?_
  rotate_left
  · intro Wt hSt
    go_simp
    try with_reducible rfl
  try simp only [List.getElem_toArray, List.getElem_cons_zero, List.getElem_cons_succ, Act.put, List.setIfInBounds_toArray, List.set_cons_zero, List.set_cons_succ]
  refine wpAnyH_take (i := 7) (v := ?_) rfl (by kernel_rfl) (by kernel_rfl) (by kernel_rfl) (fun _ _ _ h => h) (Or.inl ⟨by kernel_rfl, ?_⟩) (by assumption) ?_
  rotate_left
  · intro Wt hSt
    go_simp
    try with_reducible rfl
  try simp only [List.getElem_toArray, List.getElem_cons_zero, List.getElem_cons_succ, Act.put, List.setIfInBounds_toArray, List.set_cons_zero, List.set_cons_succ]
  refine wpAnyH_take (i := 9) (v := .agg cl) rfl (by kernel_rfl) (by kernel_rfl) (by kernel_rfl) (fun _ _ _ h => h) (by rw [unhide HCL]; exact yieldsIf_load_mid (by kernel_rfl) 24 (.tmp 10) rfl (w.heap.size + 2) 0 rfl ((lastP p).map (Value.int .u8)) _ (fun W hS => hS.lst.range) Tryd.underlying24 rfl (by rw [List.length_map, (unhide HDL).len]; exact info32)) (by assumption) ?_
  try simp only [List.getElem_toArray, List.getElem_cons_zero, List.getElem_cons_succ, Act.put, List.setIfInBounds_toArray, List.set_cons_zero, List.set_cons_succ]
  refine wpAnyH_chainOf [8, 10, 11] _ _ _ (by kernel_rfl) (by kernel_rfl) ?_
  simp only [List.filterMap_cons, List.filterMap_nil, List.getElem?_toArray, List.getElem?_cons_zero, List.getElem?_cons_succ]
  refine wpChain_step rfl fun K hK => ?_
  go_simp
  refine ((unhide HF1) _ hSW.lo).mono ?_; rintro x wA ⟨rfl, hA1⟩
  have hSA : SB2 w d (lastP p) wA := hSW.later hA1
  dsimp only
  refine hK _ _ hSA ?_
  clear hK K
  refine wpChain_step rfl fun K hK => ?_
  go_simp
  refine ((unhide HF2) _ hSA.lo).mono ?_; rintro x wB ⟨rfl, hA2⟩
  have hSB : SB2 w d (lastP p) wB := hSA.later hA2
  have hO := ((unhide HOW).keep hA1).keep hA2
  dsimp only
  refine hK _ _ hSB ?_
  clear hK K
  refine wpChain_bstore rfl 24 (.tmp 8) (.tmp 36) rfl (w.heap.size + 1) rfl (climbP d n at_ p) rfl 32 info32 (dg_climb _ _ _ _).len _ zeros hO rfl ?_
  intro W9 HW9 HG
  have hS9 := hSB.grown (unhide HG)
  refine ⟨hS9, wpChain_nil ?_⟩
  clear hO hSB hSA hA1 hA2
  have HS9 := hide hS9.lo
  clear hS9 hSW
  go_wp2_with fail
  try simp only [Exit.inBlock, Exit.then]
  exact bret rfl rfl (w.heap.size + 1) rfl _ _ (unhide HW9) (dg_climb _ _ _ _).len ⟨rfl, unhide HS9⟩
set_option maxRecDepth 100000 in
set_option maxHeartbeats 4000000 in
theorem rclimb_right (n : Nat) (h2 : 2 ≤ n) (IH : ∀ n', n' < n → ∀ (at_ : Nat) (d : List Int) (p : List (List Int)) (w : World) (m c : Nat) (A : Option Addr), 1 ≤ n' → at_ < n' → p.length = m → m = lenP n' at_ → m ≤ c → Dg d → Ds w A p → RClimbIs w d n' at_ m c A p)
    (at_ : Nat) (d : List Int) (p : List (List Int)) (w : World) (m c : Nat) (A : Option Addr) (hn : n ≤ 1099511627776) (h1 : 1 ≤ n) (hat : at_ < n) (hpm : p.length = m) (hm : m = lenP n at_) (hmc : m ≤ c) (hd : Dg d) (hA : Ds w A p) (hak : ¬ at_ < halfN n) : RClimbIs w d n at_ m c A p := by
  have HI := hide IH
  have HA := hide hA
  have HD := hide hd
  have HN : Hid (n ≤ 1099511627776 ∧ 1 ≤ n ∧ at_ < n ∧ p.length = m ∧ m = lenP n at_ ∧ m ≤ c) := ⟨hn, h1, hat, hpm, hm, hmc⟩
  obtain ⟨cd, hcd⟩ : ∃ cs, cs = (d.map (Value.int .u8)).toArray := ⟨_, rfl⟩
  have hsd : cd.size = 32 := by rw [hcd]; simpa using hd.len
  have HCD := hide hcd
  unfold RClimbIs
  rw [show dv d = .agg cd by rw [hcd]]
  obtain ⟨k, hk⟩ : ∃ k, k = halfN n := ⟨_, rfl⟩
  have hkn := halfN_lt h2
  have hk0 := halfN_pos n
  rw [← hk] at hkn hk0
  have n1 : ¬ (n : Int) = 1 := by omega
  have hm0 : 0 < m := by
    rw [hm]
    by_cases ha : at_ < halfN n
    · rw [lenP_left h2 ha]; omega
    · rw [lenP_right h2 ha]; omega
  have hpne : p ≠ [] := fun e => by rw [e] at hpm; simp at hpm; omega
  obtain ⟨pb, po, rfl, hrg⟩ := hA.at_ hpne
  have hlg := lastP_get hpne
  have hrl := hrg _ _ hlg
  have hdl : Dg (lastP p) := hA.dg _ (List.mem_of_getElem? hlg)
  obtain ⟨la, hla⟩ : ∃ la, la = m - 1 := ⟨_, rfl⟩
  rw [hpm, ← hla] at hrl
  have HRL := hide hrl
  have HDL := hide hdl
  have hll := lenP_lt n at_ h1
  have wl : IntKind.i64.wrap ((m : Int) - 1) = (la : Int) := (IntWalk.i64_in _ (by omega)).trans (by omega)
  have l0 : (0 : Int) ≤ (la : Int) := Int.natCast_nonneg _
  have l1 : (la : Int) < (m : Int) := by omega
  have l2 : (la : Int) ≤ (m : Int) := by omega
  have l3 : (la : Int) ≤ (c : Int) := by omega
  obtain ⟨cl, hcl⟩ : ∃ cs, cs = ((lastP p).map (Value.int .u8)).toArray := ⟨_, rfl⟩
  have hsl : cl.size = 32 := by rw [hcl]; simpa using hdl.len
  have HCL := hide hcl
  have HK : Hid (k = halfN n ∧ 0 < k ∧ k < n ∧ 2 ≤ n ∧ la = m - 1 ∧ 0 < m) := ⟨hk, hk0, hkn, h2, hla, hm0⟩
  have hil : (initP p).length = la := by unfold initP; simp; omega
  have HIL : Hid ((initP p).length = la) := hil
  have i1 : ¬ (at_ : Int) < (k : Int) := by omega
  obtain ⟨nk, hnk⟩ : ∃ a, a = n - k := ⟨_, rfl⟩
  obtain ⟨ak, hak2⟩ : ∃ a, a = at_ - k := ⟨_, rfl⟩
  have wa : IntKind.i64.wrap ((at_ : Int) - (k : Int)) = (ak : Int) := (IntWalk.i64_in _ (by omega)).trans (by omega)
  have wn : IntKind.i64.wrap ((n : Int) - (k : Int)) = (nk : Int) := (IntWalk.i64_in _ (by omega)).trans (by omega)
  obtain ⟨T1, hT1⟩ : ∃ T, T = climbP d nk ak (initP p) := ⟨_, rfl⟩
  have hlen : la = lenP nk ak := by rw [hla, hm, hnk, hak2, hk, lenP_right h2 (hk ▸ hak)]; omega
  have e0 : climbP d n at_ p = nodeP (lastP p) T1 := by rw [hT1, hnk, hak2, hk]; exact climbP_right d p h2 (hk ▸ hak)
  obtain ⟨c1, hc1⟩ : ∃ cs, cs = (T1.map (Value.int .u8)).toArray := ⟨_, rfl⟩
  have hg1 : Dg T1 := hT1 ▸ dg_climb _ _ _ _
  have hs1 : c1.size = 32 := by rw [hc1]; simpa using hg1.len
  have HF1 : Hid (∀ W, Below w.heap.size w W → Calls Tryd.prog 57 #[.agg cd, .int .i64 (ak : Int), .int .i64 (nk : Int), .slice (some ⟨pb, po, none⟩) la c] W fun x w' => x = .returned (.agg c1) ∧ Below W.heap.size W w') := fun W hB => by
    have := (unhide HI) nk (by omega) ak d (initP p) W la c (some ⟨pb, po, none⟩) (by omega) (by omega) (unhide HIL) hlen (by omega) (unhide HD) (((unhide HA).keep hB).take _)
    unfold RClimbIs at this
    rw [show dv d = .agg cd by rw [unhide HCD]] at this
    refine this.mono ?_
    rintro x w' ⟨rfl, h'⟩
    exact ⟨by rw [hc1, hT1], h'⟩
  have HF2 : Hid (∀ W, Below w.heap.size w W → Calls Tryd.prog 50 #[.agg cl, .agg c1] W fun x w' => x = .returned (dv (climbP d n at_ p)) ∧ Below W.heap.size W w') := fun W hB => by
    rw [hc1, hcl, e0]
    exact rnode_any W (lastP p) T1 (unhide HDL) hg1
  clear IH hn h1 hat hpm hm hmc hd hA hcd hk hkn hk0 h2 hm0 hpne hrg hlg hrl hdl hla hll hcl hil hak hT1 hlen e0 hc1 hg1 hnk hak2
  go_enter Tryd.func57, Tryd.ntmps57
  go_upto_region 1 with fail
  generalize hX1 : w.alloc _ = W1
  have hB1 : Below w.heap.size w W1 := hX1 ▸ (Below.refl _ _).alloc (Nat.le_refl _) _
  have ho1 : ByAt W1 w.heap.size 24 d := boxed w W1 d _ (by rw [← hX1]; first | rfl | (rw [unhide HCD]; rfl))
  have hz1 : W1.heap.size = w.heap.size + 1 := by rw [← hX1]; show (w.heap.push _).size = _; rw [Array.size_push]
  generalize hX2 : W1.alloc _ = W2
  have hB2 : Below W1.heap.size W1 W2 := hX2 ▸ (Below.refl _ _).alloc (Nat.le_refl _) _
  have ho2 : ByAt W2 W1.heap.size 24 zeros := newBy W1 W2 (by rw [← hX2]; rfl)
  have hz2 : W2.heap.size = w.heap.size + 2 := by rw [← hX2]; show (W1.heap.push _).size = _; rw [Array.size_push, hz1]
  rw [hz1] at ho2
  have HB := hide (thenB hB1 hB2)
  have HO1 := hide (ho1.keep hB2)
  have HO2 := hide ho2
  have HZ2 := hide hz2
  clear hX1 hX2 hB1 hB2 ho1 ho2 hz1 hz2
  go_wp2_with fail
  refine (rhalf_any n (unhide HK).2.2.2.1 (unhide HN).1 W2).mono ?_; rintro x W3 ⟨rfl, rfl⟩
  rw [← (unhide HK).1]
  go_upto_region 4 with fail
  refine wp_region_lit ?_
  refine wpList_plain rfl fun Kt hKt => ?_
  go_simp
  refine hKt _ _ ?_
  clear hKt Kt
  refine wpList_plain rfl fun Kt hKt => ?_
  go_simp
  refine hKt _ _ ?_
  clear hKt Kt
  refine wpList_plain rfl fun Kt hKt => ?_
  go_simp
  refine hKt _ _ ?_
  clear hKt Kt
  refine wpList_plain rfl fun Kt hKt => ?_
  go_simp
  refine hKt _ _ ?_
  clear hKt Kt
  refine wpList_plain rfl fun Kt hKt => ?_
  go_simp
  refine hKt _ _ ?_
  clear hKt Kt
  refine wpList_load_mid rfl 24 (.tmp 21) rfl pb (po + la * 32) rfl ((lastP p).map (Value.int .u8)) _ (rangeAt_keep (unhide HRL) (unhide HB)) Tryd.underlying24 rfl (by rw [List.length_map, (unhide HDL).len]; exact info32) ?_
  refine wpList_plain rfl fun Kt hKt => ?_
  go_simp
  refine hKt _ _ ?_
  clear hKt Kt
  generalize hX3 : World.alloc _ _ = W4
  have hB4 : Below W3.heap.size W3 W4 := hX3 ▸ (Below.refl _ _).alloc (Nat.le_refl _) _
  have ho4 : ByAt W4 W3.heap.size 24 zeros := newBy W3 W4 (by rw [← hX3]; rfl)
  rw [unhide HZ2] at ho4 ⊢
  refine wpList_bstore rfl 24 (.tmp 10) (.tmp 22) rfl (w.heap.size + 2) rfl (lastP p) rfl 32 info32 (unhide HDL).len _ zeros ho4 rfl ?_
  intro W5 HW5 HG5
  have hg5 := unhide HG5
  have HB5 := hide ((thenB (unhide HB) hB4).grown hg5 (thenB (unhide HB) hB4).size (fun i e => by injection e with e; omega))
  have HO15 := hide (((unhide HO1).keep hB4).grown hg5 (by omega))
  have HO25 := hide (((unhide HO2).keep hB4).grown hg5 (by omega))
  clear hX3 hB4 ho4 HO1 HO2 HB HG5 hg5
  obtain ⟨W, hW⟩ : ∃ W, W = W5.drewN 1 := ⟨_, rfl⟩
  have HW : Hid (W = W5.drewN 1) := hW
  have hSW : SB2 w d (lastP p) W := ⟨thenB (unhide HB5) (below_named HW), (unhide HO15).keep (below_named HW), (unhide HW5).keep (below_named HW)⟩
  have HOW := hide ((unhide HO25).keep (below_named HW))
  clear hW
  try simp only [List.getElem_toArray, List.getElem_cons_zero, List.getElem_cons_succ, Act.put, List.setIfInBounds_toArray, List.set_cons_zero, List.set_cons_succ]
  go_wp2_with fail
  refine held (S := SB2 w d (lastP p)) W HW (by kernel_rfl) ?_
  refine wpAnyH_take (i := 0) (v := .agg cl) rfl (by kernel_rfl) (by kernel_rfl) (by kernel_rfl) (fun _ _ _ h => h) (by rw [unhide HCL]; exact yieldsIf_load_mid (by kernel_rfl) 24 (.tmp 10) rfl (w.heap.size + 2) 0 rfl ((lastP p).map (Value.int .u8)) _ (fun W hS => hS.lst.range) Tryd.underlying24 rfl (by rw [List.length_map, (unhide HDL).len]; exact info32)) (by assumption) ?_
  try simp only [List.getElem_toArray, List.getElem_cons_zero, List.getElem_cons_succ, Act.put, List.setIfInBounds_toArray, List.set_cons_zero, List.set_cons_succ]
  refine wpAnyH_take (i := 1) (v := .agg cd) rfl (by kernel_rfl) (by kernel_rfl) (by kernel_rfl) (fun _ _ _ h => h) (by rw [unhide HCD]; exact yieldsIf_load_mid (by kernel_rfl) 24 (.tmp 4) rfl w.heap.size 0 rfl (d.map (Value.int .u8)) _ (fun W hS => hS.box.range) Tryd.underlying24 rfl (by rw [List.length_map, (unhide HD).len]; exact info32)) (by assumption) ?_
  try simp only [List.getElem_toArray, List.getElem_cons_zero, List.getElem_cons_succ, Act.put, List.setIfInBounds_toArray, List.set_cons_zero, List.set_cons_succ]
  refine wpAnyH_take (i := 2) (v := ?_) rfl (by kernel_rfl) (by kernel_rfl) (by kernel_rfl) (fun _ _ _ h => h) (Or.inl ⟨by kernel_rfl, ?_⟩) (by assumption) ?_
  rotate_left
  · intro Wt hSt
    go_simp
    try with_reducible rfl
  try simp only [List.getElem_toArray, List.getElem_cons_zero, List.getElem_cons_succ, Act.put, List.setIfInBounds_toArray, List.set_cons_zero, List.set_cons_succ]
  refine wpAnyH_take (i := 3) (v := ?_) rfl (by kernel_rfl) (by kernel_rfl) (by kernel_rfl) (fun _ _ _ h => h) (Or.inl ⟨by kernel_rfl, ?_⟩) (by assumption) ?_
  rotate_left
  · intro Wt hSt
    go_simp
    try with_reducible rfl
  try simp only [List.getElem_toArray, List.getElem_cons_zero, List.getElem_cons_succ, Act.put, List.setIfInBounds_toArray, List.set_cons_zero, List.set_cons_succ]
  refine wpAnyH_take (i := 4) (v := ?_) rfl (by kernel_rfl) (by kernel_rfl) (by kernel_rfl) (fun _ _ _ h => h) (Or.inl ⟨by kernel_rfl, ?_⟩) (by assumption) ?_
  rotate_left
  · intro Wt hSt
    go_simp
    try with_reducible rfl
  try simp only [List.getElem_toArray, List.getElem_cons_zero, List.getElem_cons_succ, Act.put, List.setIfInBounds_toArray, List.set_cons_zero, List.set_cons_succ]
  refine wpAnyH_take (i := 5) (v := ?_) rfl (by kernel_rfl) (by kernel_rfl) (by kernel_rfl) (fun _ _ _ h => h) (Or.inl ⟨by kernel_rfl, ?_⟩) (by assumption) ?_
  rotate_left
  · intro Wt hSt
    go_simp
    try with_reducible rfl
  try simp only [List.getElem_toArray, List.getElem_cons_zero, List.getElem_cons_succ, Act.put, List.setIfInBounds_toArray, List.set_cons_zero, List.set_cons_succ]
  refine wpAnyH_take (i := 6) (v := ?_) rfl (by kernel_rfl) (by kernel_rfl) (by kernel_rfl) (fun _ _ _ h => h) (Or.inl ⟨by kernel_rfl, ?_⟩) (by assumption) ?_
  rotate_left
  · intro Wt hSt
    go_simp
    try with_reducible rfl
  try simp only [List.getElem_toArray, List.getElem_cons_zero, List.getElem_cons_succ, Act.put, List.setIfInBounds_toArray, List.set_cons_zero, List.set_cons_succ]
  refine wpAnyH_take (i := 7) (v := ?_) rfl (by kernel_rfl) (by kernel_rfl) (by kernel_rfl) (fun _ _ _ h => h) (Or.inl ⟨by kernel_rfl, ?_⟩) (by assumption) ?_
  rotate_left
  · intro Wt hSt
    go_simp
    try with_reducible rfl
  try simp only [List.getElem_toArray, List.getElem_cons_zero, List.getElem_cons_succ, Act.put, List.setIfInBounds_toArray, List.set_cons_zero, List.set_cons_succ]
  refine wpAnyH_take (i := 8) (v := ?_) rfl (by kernel_rfl) (by kernel_rfl) (by kernel_rfl) (fun _ _ _ h => h) (Or.inl ⟨by kernel_rfl, ?_⟩) (by assumption) ?_
  rotate_left
  · intro Wt hSt
    go_simp
    try with_reducible rfl
  try simp only [List.getElem_toArray, List.getElem_cons_zero, List.getElem_cons_succ, Act.put, List.setIfInBounds_toArray, List.set_cons_zero, List.set_cons_succ]
  refine wpAnyH_take (i := 9) (v := ?_) rfl (by kernel_rfl) (by kernel_rfl) (by kernel_rfl) (fun _ _ _ h => h) (Or.inl ⟨by kernel_rfl, ?_⟩) (by assumption) ?_
  rotate_left
  · intro Wt hSt
    go_simp
    try with_reducible rfl
  try simp only [List.getElem_toArray, List.getElem_cons_zero, List.getElem_cons_succ, Act.put, List.setIfInBounds_toArray, List.set_cons_zero, List.set_cons_succ]
  refine wpAnyH_take (i := 10) (v := ?_) rfl (by kernel_rfl) (by kernel_rfl) (by kernel_rfl) (fun _ _ _ h => h) (Or.inl ⟨by kernel_rfl, ?_⟩) (by assumption) ?_
  rotate_left
  · intro Wt hSt
    go_simp
    try with_reducible rfl
  try simp only [List.getElem_toArray, List.getElem_cons_zero, List.getElem_cons_succ, Act.put, List.setIfInBounds_toArray, List.set_cons_zero, List.set_cons_succ]
  refine wpAnyH_take (i := 11) (v := ?_) rfl (by kernel_rfl) (by kernel_rfl) (by kernel_rfl) (fun _ _ _ h => h) (Or.inl ⟨by kernel_rfl, ?_⟩) (by assumption) ?_
  rotate_left
  · intro Wt hSt
    go_simp
    try with_reducible rfl
  try simp only [List.getElem_toArray, List.getElem_cons_zero, List.getElem_cons_succ, Act.put, List.setIfInBounds_toArray, List.set_cons_zero, List.set_cons_succ]
  refine wpAnyH_take (i := 12) (v := ?_) rfl (by kernel_rfl) (by kernel_rfl) (by kernel_rfl) (fun _ _ _ h => h) (Or.inl ⟨by kernel_rfl, ?_⟩) (by assumption) ?_
  rotate_left
  · intro Wt hSt
    go_simp
    try with_reducible rfl
  try simp only [List.getElem_toArray, List.getElem_cons_zero, List.getElem_cons_succ, Act.put, List.setIfInBounds_toArray, List.set_cons_zero, List.set_cons_succ]
  refine wpAnyH_chainOf [13, 14, 15] _ _ _ (by kernel_rfl) (by kernel_rfl) ?_
  simp only [List.filterMap_cons, List.filterMap_nil, List.getElem?_toArray, List.getElem?_cons_zero, List.getElem?_cons_succ]
  refine wpChain_step rfl fun K hK => ?_
  go_simp
  refine ((unhide HF1) _ hSW.lo).mono ?_; rintro x wA ⟨rfl, hA1⟩
  have hSA : SB2 w d (lastP p) wA := hSW.later hA1
  dsimp only
  refine hK _ _ hSA ?_
  clear hK K
  refine wpChain_step rfl fun K hK => ?_
  go_simp
  refine ((unhide HF2) _ hSA.lo).mono ?_; rintro x wB ⟨rfl, hA2⟩
  have hSB : SB2 w d (lastP p) wB := hSA.later hA2
  have hO := ((unhide HOW).keep hA1).keep hA2
  dsimp only
  refine hK _ _ hSB ?_
  clear hK K
  refine wpChain_bstore rfl 24 (.tmp 8) (.tmp 51) rfl (w.heap.size + 1) rfl (climbP d n at_ p) rfl 32 info32 (dg_climb _ _ _ _).len _ zeros hO rfl ?_
  intro W9 HW9 HG
  have hS9 := hSB.grown (unhide HG)
  refine ⟨hS9, wpChain_nil ?_⟩
  clear hO hSB hSA hA1 hA2
  have HS9 := hide hS9.lo
  clear hS9 hSW
  go_wp2_with fail
  try simp only [Exit.inBlock, Exit.then]
  exact bret rfl rfl (w.heap.size + 1) rfl _ _ (unhide HW9) (dg_climb _ _ _ _).len ⟨rfl, unhide HS9⟩
theorem rclimb_any (n : Nat) : n ≤ 1099511627776 → ∀ (at_ : Nat) (d : List Int) (p : List (List Int)) (w : World) (m c : Nat) (A : Option Addr), 1 ≤ n → at_ < n → p.length = m → m = lenP n at_ → m ≤ c → Dg d → Ds w A p → RClimbIs w d n at_ m c A p := by
  induction n using Nat.strongRecOn with
  | _ n IH =>
    intro hn at_ d p w m c A h1 hat hpm hm hmc hd hA
    have I := fun n' (hn' : n' < n) => IH n' hn' (by omega)
    by_cases h1n : n = 1
    · exact rclimb_one n h1n at_ d p w m c A hn h1 hat hpm hm hmc hd hA
    · by_cases hak : at_ < halfN n
      · exact rclimb_left n (by omega) I at_ d p w m c A hn h1 hat hpm hm hmc hd hA hak
      · exact rclimb_right n (by omega) I at_ d p w m c A hn h1 hat hpm hm hmc hd hA hak
end Go.Proofs.YtceppmajbkmbdaaDoor
namespace Go.Proofs.YtceppmajbkmbdaaDoor
set_option linter.unusedSimpArgs false
set_option linter.unusedVariables false
open Go.RowKit

set_option maxRecDepth 100000 in
set_option maxHeartbeats 4000000 in
theorem rclm_a (at_ n : Int) (h1 : n < 1) (d : List Int) (w : World) (m c : Nat) (A : Option Addr) (hd : Dg d) :
    Calls Tryd.prog 21 #[dv d, .int .i64 at_, .int .i64 n, .slice A m c] w fun x w' => x = .returned (.tuple #[dv zeros, .int .i64 1]) ∧ Below w.heap.size w w' := by
  have HD := hide hd
  obtain ⟨cd, hcd⟩ : ∃ cs, cs = (d.map (Value.int .u8)).toArray := ⟨_, rfl⟩
  have hsd : cd.size = 32 := by rw [hcd]; simpa using hd.len
  have HCD := hide hcd
  rw [show dv d = .agg cd by rw [hcd]]
  clear hd hcd
  go_enter Tryd.func21, Tryd.ntmps21
  go_upto_region 1 with fail
  generalize hX1 : w.alloc _ = W1
  have hB1 : Below w.heap.size w W1 := hX1 ▸ (Below.refl _ _).alloc (Nat.le_refl _) _
  have ho1 : ByAt W1 w.heap.size 24 d := boxed w W1 d _ (by rw [← hX1]; first | rfl | (rw [unhide HCD]; rfl))
  have hz1 : W1.heap.size = w.heap.size + 1 := by rw [← hX1]; show (w.heap.push _).size = _; rw [Array.size_push]
  generalize hX2 : W1.alloc _ = W2
  have hB2 : Below W1.heap.size W1 W2 := hX2 ▸ (Below.refl _ _).alloc (Nat.le_refl _) _
  have ho2 : ByAt W2 W1.heap.size 24 zeros := newBy W1 W2 (by rw [← hX2]; rfl)
  rw [hz1] at ho2
  have HB := hide (thenB hB1 hB2)
  have HO1 := hide (ho1.keep hB2)
  have HO2 := hide ho2
  clear hX1 hX2 hB1 hB2 ho1 ho2 hz1
  go_upto_region 2 with fail
  refine wp_region_lit ?_
  refine wpList_build0 rfl 24 rfl (dv zeros) (build_zero _) ?_
  refine wpList_bstore rfl 24 (.tmp 8) (.tmp 33) rfl (w.heap.size + 1) rfl zeros rfl 32 info32 rfl _ zeros (unhide HO2) rfl ?_
  intro W9 HW9 HG
  go_wp2_with fail
  try simp only [Exit.inBlock, Exit.then]
  exact bret2 rfl rfl (w.heap.size + 1) rfl _ _ (unhide HW9) rfl _ rfl ⟨rfl, (unhide HB).grown (unhide HG) (unhide HB).size (fun i e => by injection e with e; omega)⟩
set_option maxRecDepth 100000 in
set_option maxHeartbeats 4000000 in
theorem rclm_b (at_ n : Int) (h1 : ¬ n < 1) (h2 : 1099511627776 < n) (d : List Int) (w : World) (m c : Nat) (A : Option Addr) (hd : Dg d) :
    Calls Tryd.prog 21 #[dv d, .int .i64 at_, .int .i64 n, .slice A m c] w fun x w' => x = .returned (.tuple #[dv zeros, .int .i64 1]) ∧ Below w.heap.size w w' := by
  have HD := hide hd
  obtain ⟨cd, hcd⟩ : ∃ cs, cs = (d.map (Value.int .u8)).toArray := ⟨_, rfl⟩
  have hsd : cd.size = 32 := by rw [hcd]; simpa using hd.len
  have HCD := hide hcd
  rw [show dv d = .agg cd by rw [hcd]]
  clear hd hcd
  go_enter Tryd.func21, Tryd.ntmps21
  go_upto_region 1 with fail
  generalize hX1 : w.alloc _ = W1
  have hB1 : Below w.heap.size w W1 := hX1 ▸ (Below.refl _ _).alloc (Nat.le_refl _) _
  have ho1 : ByAt W1 w.heap.size 24 d := boxed w W1 d _ (by rw [← hX1]; first | rfl | (rw [unhide HCD]; rfl))
  have hz1 : W1.heap.size = w.heap.size + 1 := by rw [← hX1]; show (w.heap.push _).size = _; rw [Array.size_push]
  generalize hX2 : W1.alloc _ = W2
  have hB2 : Below W1.heap.size W1 W2 := hX2 ▸ (Below.refl _ _).alloc (Nat.le_refl _) _
  have ho2 : ByAt W2 W1.heap.size 24 zeros := newBy W1 W2 (by rw [← hX2]; rfl)
  rw [hz1] at ho2
  have HB := hide (thenB hB1 hB2)
  have HO1 := hide (ho1.keep hB2)
  have HO2 := hide ho2
  clear hX1 hX2 hB1 hB2 ho1 ho2 hz1
  go_upto_region 2 with fail
  refine wp_region_lit ?_
  refine wpList_build0 rfl 24 rfl (dv zeros) (build_zero _) ?_
  refine wpList_bstore rfl 24 (.tmp 8) (.tmp 33) rfl (w.heap.size + 1) rfl zeros rfl 32 info32 rfl _ zeros (unhide HO2) rfl ?_
  intro W9 HW9 HG
  go_wp2_with fail
  try simp only [Exit.inBlock, Exit.then]
  exact bret2 rfl rfl (w.heap.size + 1) rfl _ _ (unhide HW9) rfl _ rfl ⟨rfl, (unhide HB).grown (unhide HG) (unhide HB).size (fun i e => by injection e with e; omega)⟩
set_option maxRecDepth 100000 in
set_option maxHeartbeats 4000000 in
theorem rclm_c (at_ n : Int) (h1 : ¬ n < 1) (h2 : ¬ 1099511627776 < n) (h3 : at_ < 0) (d : List Int) (w : World) (m c : Nat) (A : Option Addr) (hd : Dg d) :
    Calls Tryd.prog 21 #[dv d, .int .i64 at_, .int .i64 n, .slice A m c] w fun x w' => x = .returned (.tuple #[dv zeros, .int .i64 1]) ∧ Below w.heap.size w w' := by
  have HD := hide hd
  obtain ⟨cd, hcd⟩ : ∃ cs, cs = (d.map (Value.int .u8)).toArray := ⟨_, rfl⟩
  have hsd : cd.size = 32 := by rw [hcd]; simpa using hd.len
  have HCD := hide hcd
  rw [show dv d = .agg cd by rw [hcd]]
  clear hd hcd
  go_enter Tryd.func21, Tryd.ntmps21
  go_upto_region 1 with fail
  generalize hX1 : w.alloc _ = W1
  have hB1 : Below w.heap.size w W1 := hX1 ▸ (Below.refl _ _).alloc (Nat.le_refl _) _
  have ho1 : ByAt W1 w.heap.size 24 d := boxed w W1 d _ (by rw [← hX1]; first | rfl | (rw [unhide HCD]; rfl))
  have hz1 : W1.heap.size = w.heap.size + 1 := by rw [← hX1]; show (w.heap.push _).size = _; rw [Array.size_push]
  generalize hX2 : W1.alloc _ = W2
  have hB2 : Below W1.heap.size W1 W2 := hX2 ▸ (Below.refl _ _).alloc (Nat.le_refl _) _
  have ho2 : ByAt W2 W1.heap.size 24 zeros := newBy W1 W2 (by rw [← hX2]; rfl)
  rw [hz1] at ho2
  have HB := hide (thenB hB1 hB2)
  have HO1 := hide (ho1.keep hB2)
  have HO2 := hide ho2
  clear hX1 hX2 hB1 hB2 ho1 ho2 hz1
  go_upto_region 2 with fail
  refine wp_region_lit ?_
  refine wpList_build0 rfl 24 rfl (dv zeros) (build_zero _) ?_
  refine wpList_bstore rfl 24 (.tmp 8) (.tmp 33) rfl (w.heap.size + 1) rfl zeros rfl 32 info32 rfl _ zeros (unhide HO2) rfl ?_
  intro W9 HW9 HG
  go_wp2_with fail
  try simp only [Exit.inBlock, Exit.then]
  exact bret2 rfl rfl (w.heap.size + 1) rfl _ _ (unhide HW9) rfl _ rfl ⟨rfl, (unhide HB).grown (unhide HG) (unhide HB).size (fun i e => by injection e with e; omega)⟩
set_option maxRecDepth 100000 in
set_option maxHeartbeats 4000000 in
theorem rclm_d (at_ n : Int) (h1 : ¬ n < 1) (h2 : ¬ 1099511627776 < n) (h3 : ¬ at_ < 0) (h4 : n ≤ at_) (d : List Int) (w : World) (m c : Nat) (A : Option Addr) (hd : Dg d) :
    Calls Tryd.prog 21 #[dv d, .int .i64 at_, .int .i64 n, .slice A m c] w fun x w' => x = .returned (.tuple #[dv zeros, .int .i64 1]) ∧ Below w.heap.size w w' := by
  have HD := hide hd
  obtain ⟨cd, hcd⟩ : ∃ cs, cs = (d.map (Value.int .u8)).toArray := ⟨_, rfl⟩
  have hsd : cd.size = 32 := by rw [hcd]; simpa using hd.len
  have HCD := hide hcd
  rw [show dv d = .agg cd by rw [hcd]]
  clear hd hcd
  go_enter Tryd.func21, Tryd.ntmps21
  go_upto_region 1 with fail
  generalize hX1 : w.alloc _ = W1
  have hB1 : Below w.heap.size w W1 := hX1 ▸ (Below.refl _ _).alloc (Nat.le_refl _) _
  have ho1 : ByAt W1 w.heap.size 24 d := boxed w W1 d _ (by rw [← hX1]; first | rfl | (rw [unhide HCD]; rfl))
  have hz1 : W1.heap.size = w.heap.size + 1 := by rw [← hX1]; show (w.heap.push _).size = _; rw [Array.size_push]
  generalize hX2 : W1.alloc _ = W2
  have hB2 : Below W1.heap.size W1 W2 := hX2 ▸ (Below.refl _ _).alloc (Nat.le_refl _) _
  have ho2 : ByAt W2 W1.heap.size 24 zeros := newBy W1 W2 (by rw [← hX2]; rfl)
  rw [hz1] at ho2
  have HB := hide (thenB hB1 hB2)
  have HO1 := hide (ho1.keep hB2)
  have HO2 := hide ho2
  clear hX1 hX2 hB1 hB2 ho1 ho2 hz1
  go_upto_region 2 with fail
  refine wp_region_lit ?_
  refine wpList_build0 rfl 24 rfl (dv zeros) (build_zero _) ?_
  refine wpList_bstore rfl 24 (.tmp 8) (.tmp 33) rfl (w.heap.size + 1) rfl zeros rfl 32 info32 rfl _ zeros (unhide HO2) rfl ?_
  intro W9 HW9 HG
  go_wp2_with fail
  try simp only [Exit.inBlock, Exit.then]
  exact bret2 rfl rfl (w.heap.size + 1) rfl _ _ (unhide HW9) rfl _ rfl ⟨rfl, (unhide HB).grown (unhide HG) (unhide HB).size (fun i e => by injection e with e; omega)⟩
set_option maxRecDepth 100000 in
set_option maxHeartbeats 4000000 in
theorem rclm_e (at_ n : Nat) (hn : n ≤ 1099511627776) (h1 : 1 ≤ n) (hat : at_ < n) (d : List Int) (w : World) (m c : Nat) (A : Option Addr) (hm : m ≠ lenP n at_) (hd : Dg d) :
    Calls Tryd.prog 21 #[dv d, .int .i64 (at_ : Int), .int .i64 (n : Int), .slice A m c] w fun x w' => x = .returned (.tuple #[dv zeros, .int .i64 1]) ∧ Below w.heap.size w w' := by
  have n1 : ¬ (n : Int) < 1 := by omega
  have n2 : ¬ (1099511627776 : Int) < (n : Int) := by omega
  have n3 : ¬ (at_ : Int) < 0 := by omega
  have n4 : ¬ (n : Int) ≤ (at_ : Int) := by omega
  have HN : Hid (n ≤ 1099511627776 ∧ 1 ≤ n ∧ at_ < n) := ⟨hn, h1, hat⟩
  obtain ⟨T, hTl⟩ : ∃ T, T = lenP n at_ := ⟨_, rfl⟩
  have n5 : ¬ (m : Int) = (T : Int) := by omega
  have HTL := hide hTl
  clear hn h1 hat hTl hm
  have HD := hide hd
  obtain ⟨cd, hcd⟩ : ∃ cs, cs = (d.map (Value.int .u8)).toArray := ⟨_, rfl⟩
  have hsd : cd.size = 32 := by rw [hcd]; simpa using hd.len
  have HCD := hide hcd
  rw [show dv d = .agg cd by rw [hcd]]
  clear hd hcd
  go_enter Tryd.func21, Tryd.ntmps21
  go_upto_region 1 with fail
  generalize hX1 : w.alloc _ = W1
  have hB1 : Below w.heap.size w W1 := hX1 ▸ (Below.refl _ _).alloc (Nat.le_refl _) _
  have ho1 : ByAt W1 w.heap.size 24 d := boxed w W1 d _ (by rw [← hX1]; first | rfl | (rw [unhide HCD]; rfl))
  have hz1 : W1.heap.size = w.heap.size + 1 := by rw [← hX1]; show (w.heap.push _).size = _; rw [Array.size_push]
  generalize hX2 : W1.alloc _ = W2
  have hB2 : Below W1.heap.size W1 W2 := hX2 ▸ (Below.refl _ _).alloc (Nat.le_refl _) _
  have ho2 : ByAt W2 W1.heap.size 24 zeros := newBy W1 W2 (by rw [← hX2]; rfl)
  rw [hz1] at ho2
  have HB := hide (thenB hB1 hB2)
  have HO1 := hide (ho1.keep hB2)
  have HO2 := hide ho2
  clear hX1 hX2 hB1 hB2 ho1 ho2 hz1
  go_wp2_with fail
  refine (rlen_any n at_ (unhide HN).2.1 (unhide HN).1 (unhide HN).2.2 W2).mono ?_; rintro x W3 ⟨rfl, rfl⟩
  rw [← unhide HTL]
  go_upto_region 2 with fail
  refine wp_region_lit ?_
  refine wpList_build0 rfl 24 rfl (dv zeros) (build_zero _) ?_
  refine wpList_bstore rfl 24 (.tmp 8) (.tmp 33) rfl (w.heap.size + 1) rfl zeros rfl 32 info32 rfl _ zeros (unhide HO2) rfl ?_
  intro W9 HW9 HG
  go_wp2_with fail
  try simp only [Exit.inBlock, Exit.then]
  exact bret2 rfl rfl (w.heap.size + 1) rfl _ _ (unhide HW9) rfl _ rfl ⟨rfl, (unhide HB).grown (unhide HG) (unhide HB).size (fun i e => by injection e with e; omega)⟩
set_option maxRecDepth 100000 in
set_option maxHeartbeats 4000000 in
theorem rClimb_ok (at_ n : Nat) (hn : n ≤ 1099511627776) (h1 : 1 ≤ n) (hat : at_ < n) (p : List (List Int)) (hpm : p.length = lenP n at_) (d : List Int) (w : World) (m c : Nat) (A : Option Addr) (hm : m = p.length) (hd : Dg d) (hmc : m ≤ c) (hA : Ds w A p) :
    Calls Tryd.prog 21 #[dv d, .int .i64 (at_ : Int), .int .i64 (n : Int), .slice A m c] w fun x w' => x = .returned (.tuple #[dv (climbP d n at_ p), .int .i64 0]) ∧ Below w.heap.size w w' := by
  have n1 : ¬ (n : Int) < 1 := by omega
  have n2 : ¬ (1099511627776 : Int) < (n : Int) := by omega
  have n3 : ¬ (at_ : Int) < 0 := by omega
  have n4 : ¬ (n : Int) ≤ (at_ : Int) := by omega
  have HN : Hid (n ≤ 1099511627776 ∧ 1 ≤ n ∧ at_ < n) := ⟨hn, h1, hat⟩
  obtain ⟨T, hTl⟩ : ∃ T, T = lenP n at_ := ⟨_, rfl⟩
  have n5 : (m : Int) = (T : Int) := by omega
  have HTL := hide hTl
  have HF : Hid (∀ W, Below w.heap.size w W → RClimbIs W d n at_ m c A p) := fun W hB => rclimb_any n hn at_ d p W m c A h1 hat hm.symm (hm.trans hpm) hmc hd (hA.keep hB)
  clear hn h1 hat hTl hm hpm hmc hA
  have HD := hide hd
  obtain ⟨cd, hcd⟩ : ∃ cs, cs = (d.map (Value.int .u8)).toArray := ⟨_, rfl⟩
  have hsd : cd.size = 32 := by rw [hcd]; simpa using hd.len
  have HCD := hide hcd
  rw [show dv d = .agg cd by rw [hcd]]
  clear hd hcd
  go_enter Tryd.func21, Tryd.ntmps21
  go_upto_region 1 with fail
  generalize hX1 : w.alloc _ = W1
  have hB1 : Below w.heap.size w W1 := hX1 ▸ (Below.refl _ _).alloc (Nat.le_refl _) _
  have ho1 : ByAt W1 w.heap.size 24 d := boxed w W1 d _ (by rw [← hX1]; first | rfl | (rw [unhide HCD]; rfl))
  have hz1 : W1.heap.size = w.heap.size + 1 := by rw [← hX1]; show (w.heap.push _).size = _; rw [Array.size_push]
  generalize hX2 : W1.alloc _ = W2
  have hB2 : Below W1.heap.size W1 W2 := hX2 ▸ (Below.refl _ _).alloc (Nat.le_refl _) _
  have ho2 : ByAt W2 W1.heap.size 24 zeros := newBy W1 W2 (by rw [← hX2]; rfl)
  rw [hz1] at ho2
  have HB := hide (thenB hB1 hB2)
  have HO1 := hide (ho1.keep hB2)
  have HO2 := hide ho2
  clear hX1 hX2 hB1 hB2 ho1 ho2 hz1
  go_wp2_with fail
  refine (rlen_any n at_ (unhide HN).2.1 (unhide HN).1 (unhide HN).2.2 W2).mono ?_; rintro x W3 ⟨rfl, rfl⟩
  rw [← unhide HTL]
  go_upto_region 3 with fail
  refine wp_region_lit ?_
  refine wpList_bload rfl 24 (.tmp 4) rfl w.heap.size rfl _ Tryd.underlying24 rfl 32 info32 _ d (unhide HO1) (unhide HD).len ?_
  rw [show dv d = .agg cd by rw [unhide HCD]]
  go_wp2_with fail
  have hcl := (unhide HF) W3 (unhide HB)
  unfold RClimbIs at hcl
  rw [show dv d = .agg cd by rw [unhide HCD]] at hcl
  refine hcl.mono ?_; rintro x W7 ⟨rfl, hB7⟩
  have HB7 := hide (thenB (unhide HB) hB7)
  have HR7 := hide ((unhide HO2).keep hB7)
  clear hB7 hcl
  dsimp only
  rename_i KK hK
  refine hK _ _ ?_
  clear hK KK
  refine wpList_bstore rfl 24 (.tmp 8) (.tmp 38) rfl (w.heap.size + 1) rfl (climbP d n at_ p) rfl 32 info32 (dg_climb _ _ _ _).len _ zeros (unhide HR7) rfl ?_
  intro W9 HW9 HG
  go_wp2_with fail
  try simp only [Exit.inBlock, Exit.then]
  exact bret2 rfl rfl (w.heap.size + 1) rfl _ _ (unhide HW9) (dg_climb _ _ _ _).len _ rfl ⟨rfl, (unhide HB7).grown (unhide HG) (unhide HB7).size (fun i e => by injection e with e; omega)⟩
theorem rClimb_bad (at_ n : Int) (m : Nat) (h : ¬ (1 ≤ n ∧ n ≤ 1099511627776 ∧ 0 ≤ at_ ∧ at_ < n ∧ m = lenP n.toNat at_.toNat)) (d : List Int) (w : World) (c : Nat) (A : Option Addr) (hd : Dg d) :
    Calls Tryd.prog 21 #[dv d, .int .i64 at_, .int .i64 n, .slice A m c] w fun x w' => x = .returned (.tuple #[dv zeros, .int .i64 1]) ∧ Below w.heap.size w w' := by
  by_cases h1 : n < 1
  · exact rclm_a at_ n h1 d w m c A hd
  by_cases h2 : 1099511627776 < n
  · exact rclm_b at_ n h1 h2 d w m c A hd
  by_cases h3 : at_ < 0
  · exact rclm_c at_ n h1 h2 h3 d w m c A hd
  by_cases h4 : n ≤ at_
  · exact rclm_d at_ n h1 h2 h3 h4 d w m c A hd
  have := rclm_e at_.toNat n.toNat (by omega) (by omega) (by omega) d w m c A (fun e => h ⟨by omega, by omega, by omega, by omega, e⟩) hd
  rwa [Int.toNat_of_nonneg (by omega), Int.toNat_of_nonneg (by omega)] at this
end Go.Proofs.YtceppmajbkmbdaaDoor
namespace Go.Proofs.YtceppmajbkmbdaaDoor
set_option linter.unusedSimpArgs false
set_option linter.unusedVariables false
open Go.RowKit

set_option maxRecDepth 100000 in
set_option maxHeartbeats 2000000 in
theorem rgrown_step (m : Nat) (IH : ∀ m', m' < m → ∀ (n : Nat) (whole : Bool), 1 ≤ n → n ≤ m' → ∀ w, Calls Tryd.prog 64 #[.int .i64 (n : Int), .int .i64 (m' : Int), .bool whole] w fun x w' => x = .returned (.int .i64 ((gLen n m' whole : Nat) : Int)) ∧ w' = w)
    (n : Nat) (whole : Bool) (h1 : 1 ≤ n) (hnm : n ≤ m) (hm : m ≤ 1099511627776) (w : World) :
    Calls Tryd.prog 64 #[.int .i64 (n : Int), .int .i64 (m : Int), .bool whole] w fun x w' => x = .returned (.int .i64 ((gLen n m whole : Nat) : Int)) ∧ w' = w := by
  have HI := hide IH
  by_cases e1 : n = m
  · subst e1
    rw [gLen_end]
    clear IH h1 hnm hm
    cases whole
    · go_enter Tryd.func64, Tryd.ntmps64
      go_wp2_with fail
      go_ret
      exact ⟨rfl, rfl⟩
    · go_enter Tryd.func64, Tryd.ntmps64
      go_wp2_with fail
      go_ret
      exact ⟨rfl, rfl⟩
  · have h2 : 2 ≤ m := by omega
    obtain ⟨k, hk⟩ : ∃ k, k = halfN m := ⟨_, rfl⟩
    have hkn := halfN_lt h2
    have hk0 := halfN_pos m
    rw [← hk] at hkn hk0
    have hlt := gLen_le m n whole h1 hnm
    have n1 : ¬ (n : Int) = (m : Int) := by omega
    have HK : Hid (k = halfN m ∧ 0 < k ∧ k < m ∧ 2 ≤ m ∧ m ≤ 1099511627776) := ⟨hk, hk0, hkn, h2, hm⟩
    by_cases hak : n ≤ k
    · have i1 : (n : Int) ≤ (k : Int) := by omega
      obtain ⟨L, hL⟩ : ∃ L, L = gLen n k whole := ⟨_, rfl⟩
      have e : gLen n m whole = 1 + L := by rw [hL, hk]; exact gLen_left whole h1 (by omega) (hk ▸ hak)
      rw [e] at hlt ⊢
      have wl : IntKind.i64.wrap (1 + (L : Int)) = ((1 + L : Nat) : Int) := (IntWalk.i64_in _ (by omega)).trans (by omega)
      have HL : Hid (L = gLen n k whole ∧ n ≤ k ∧ 1 ≤ n) := ⟨hL, hak, h1⟩
      clear IH h1 hnm hm e1 h2 hk hkn hk0 hlt hak hL e
      go_enter Tryd.func64, Tryd.ntmps64
      go_wp2_with fail
      refine (rhalf_any m (unhide HK).2.2.2.1 (unhide HK).2.2.2.2 w).mono ?_; rintro x W2 ⟨rfl, rfl⟩
      rw [← (unhide HK).1]
      go_wp2_with fail
      refine ((unhide HI) k (unhide HK).2.2.1 n whole (unhide HL).2.2 (unhide HL).2.1 W2).mono ?_; rintro x W3 ⟨rfl, rfl⟩
      rw [← (unhide HL).1]
      go_wp2_with fail
      go_ret
      exact ⟨rfl, rfl⟩
    · have i1 : ¬ (n : Int) ≤ (k : Int) := by omega
      obtain ⟨nk, hnk⟩ : ∃ a, a = n - k := ⟨_, rfl⟩
      obtain ⟨mk, hmk⟩ : ∃ a, a = m - k := ⟨_, rfl⟩
      obtain ⟨L, hL⟩ : ∃ L, L = gLen nk mk false := ⟨_, rfl⟩
      have e : gLen n m whole = 1 + L := by rw [hL, hnk, hmk, hk]; exact gLen_right whole h1 (by omega) (hk ▸ hak)
      rw [e] at hlt ⊢
      have wl : IntKind.i64.wrap (1 + (L : Int)) = ((1 + L : Nat) : Int) := (IntWalk.i64_in _ (by omega)).trans (by omega)
      have wa : IntKind.i64.wrap ((n : Int) - (k : Int)) = (nk : Int) := (IntWalk.i64_in _ (by omega)).trans (by omega)
      have wn : IntKind.i64.wrap ((m : Int) - (k : Int)) = (mk : Int) := (IntWalk.i64_in _ (by omega)).trans (by omega)
      have HL : Hid (L = gLen nk mk false ∧ mk < m ∧ 1 ≤ nk ∧ nk ≤ mk) := ⟨hL, by omega, by omega, by omega⟩
      clear IH h1 hnm hm e1 h2 hk hkn hk0 hlt hak hL e hnk hmk
      go_enter Tryd.func64, Tryd.ntmps64
      go_wp2_with fail
      refine (rhalf_any m (unhide HK).2.2.2.1 (unhide HK).2.2.2.2 w).mono ?_; rintro x W2 ⟨rfl, rfl⟩
      rw [← (unhide HK).1]
      go_wp2_with fail
      refine ((unhide HI) mk (unhide HL).2.1 nk false (unhide HL).2.2.1 (unhide HL).2.2.2 W2).mono ?_; rintro x W3 ⟨rfl, rfl⟩
      rw [← (unhide HL).1]
      go_wp2_with fail
      go_ret
      exact ⟨rfl, rfl⟩
theorem rgrown_all (m : Nat) : m ≤ 1099511627776 → ∀ (n : Nat) (whole : Bool), 1 ≤ n → n ≤ m → ∀ w, Calls Tryd.prog 64 #[.int .i64 (n : Int), .int .i64 (m : Int), .bool whole] w fun x w' => x = .returned (.int .i64 ((gLen n m whole : Nat) : Int)) ∧ w' = w := by
  induction m using Nat.strongRecOn with
  | _ m IH =>
    intro hm n whole h1 hnm w
    exact rgrown_step m (fun m' h' n' wh' h1' hn' w' => IH m' h' (by omega) n' wh' h1' hn' w') n whole h1 hnm hm w
theorem rgrown_any (n m : Nat) (h1 : 1 ≤ n) (hnm : n ≤ m) (hm : m ≤ 1099511627776) (whole : Bool) (w : World) : Calls Tryd.prog 64 #[.int .i64 (n : Int), .int .i64 (m : Int), .bool whole] w fun x w' => x = .returned (.int .i64 ((gLen n m whole : Nat) : Int)) ∧ w' = w := rgrown_all m hm n whole h1 hnm w

abbrev GrowthIs (w : World) (l : List (List Int)) (m n : Nat) (whole : Bool) (c : Nat) (A : Option Addr) : Prop :=
  Calls Tryd.prog 59 #[.slice A m c, .int .i64 (n : Int), .bool whole] w fun x w' => (∃ v, x = .returned v ∧ OwnD w' w.heap.size v (growP l n whole)) ∧ Below w.heap.size w w'
theorem OwnD.one {w W : World} {d : List Int} (hd : Dg d) (h : W = w.alloc (.cells (d.map (Value.int .u8)).toArray 24 (0, 0))) : OwnD W w.heap.size (.slice (some ⟨w.heap.size, 0, none⟩) 1 1) [d] := by
  rw [h]
  unfold OwnD
  rw [dcells_one]
  have h1 : (w.alloc (.cells (d.map (Value.int .u8)).toArray 24 (0, 0))).ownsRow w.heap.size 24 32 (.slice (some ⟨w.heap.size, 0, none⟩) 1 1) 1 (d.map (Value.int .u8)).toArray.toList := World.ownsRow_lit w (d.map (Value.int .u8)).toArray 1 (Nat.le_refl _) (by decide) (by simpa using hd.len)
  exact h1
set_option maxRecDepth 100000 in
set_option maxHeartbeats 4000000 in
theorem rgrowth_end (l : List (List Int)) (m : Nat) (hl : l.length = m) (h1 : 1 ≤ m) (h8 : m ≤ 100000000) (whole : Bool) (w : World) (c : Nat) (A : Option Addr) (hA : Ds w A l) (hc : m ≤ c) : GrowthIs w l m m whole c A := by
  have e0 := growP_end (l := l) whole
  rw [hl] at e0
  unfold GrowthIs
  rw [e0]
  cases whole
  · obtain ⟨T, hTd⟩ : ∃ d, d = treeP l := ⟨_, rfl⟩
    have hgT : Dg T := hTd ▸ dg_tree _
    obtain ⟨ct, hct⟩ : ∃ cs, cs = (T.map (Value.int .u8)).toArray := ⟨_, rfl⟩
    have hst : ct.size = 32 := by rw [hct]; simpa using hgT.len
    have HF2 : Hid (Calls Tryd.prog 16 #[.slice A m c] w fun x w' => x = .returned (.agg ct) ∧ Below w.heap.size w w') := by
      have := rtree_any w c A l hA (by omega) (by omega)
      rw [hl, treeD_ne (fun e => by rw [e] at hl; simp at hl; omega)] at this
      refine this.mono ?_
      rintro x w' ⟨rfl, h'⟩
      exact ⟨by rw [hct, hTd], h'⟩
    have HGT := hide hgT
    have HCT := hide hct
    rw [if_neg (by decide), ← hTd]
    clear e0 hl h1 h8 hA hc hTd hgT hct
    go_enter Tryd.func59, Tryd.ntmps59
    go_wp2_with fail
    refine (unhide HF2).mono ?_; rintro x W2 ⟨rfl, hB2⟩
    have HB2 := hide hB2
    clear hB2 HF2
    dsimp only
    rename_i KK hK
    refine hK _ _ ?_
    clear hK KK
    refine wpList_plain rfl fun Kt hKt => ?_
    go_simp
    refine hKt _ _ ?_
    clear hKt Kt
    rw [overwritten hst (by rfl)]
    generalize hY : W2.alloc _ = Y1
    have hBY : Below W2.heap.size W2 Y1 := hY ▸ (Below.refl _ _).alloc (Nat.le_refl _) _
    have ho : OwnD Y1 W2.heap.size (.slice (some ⟨W2.heap.size, 0, none⟩) 1 1) [T] := OwnD.one (unhide HGT) (by rw [← hY, unhide HCT])
    have HO := hide (ho.le (unhide HB2).size)
    have HB := hide (thenB (unhide HB2) hBY)
    clear ho hBY hY HB2
    try simp only [List.getElem_toArray, List.getElem_cons_zero, List.getElem_cons_succ, Act.put, List.setIfInBounds_toArray, List.set_cons_zero, List.set_cons_succ]
    go_wp2_with fail
    go_ret
    exact ⟨⟨_, rfl, unhide HO⟩, unhide HB⟩
  · rw [if_pos rfl]
    clear e0 hl h1 h8 hA hc
    go_enter Tryd.func59, Tryd.ntmps59
    go_wp2_with fail
    go_ret
    refine ⟨⟨_, rfl, ?_⟩, ?_⟩
    · exact World.ownsRow_lit w #[] 0 (Nat.le_refl _) (Nat.zero_le _) rfl
    · exact (Below.refl _ _).alloc (Nat.le_refl _) _
set_option maxRecDepth 100000 in
set_option maxHeartbeats 4000000 in
theorem rgrowth_step (m : Nat) (IH : ∀ (l : List (List Int)), l.length < m → ∀ (n : Nat) (whole : Bool) (w : World) (c : Nat) (A : Option Addr), 1 ≤ n → n ≤ l.length → Ds w A l → l.length ≤ c → GrowthIs w l l.length n whole c A)
    (l : List (List Int)) (hl : l.length = m) (h8 : m ≤ 100000000) (n : Nat) (whole : Bool) (w : World) (c : Nat) (A : Option Addr) (h1 : 1 ≤ n) (hnm : n ≤ m) (hA : Ds w A l) (hc : m ≤ c) : GrowthIs w l m n whole c A := by
  by_cases e1 : n = m
  · subst e1
    exact rgrowth_end l n hl h1 h8 whole w c A hA hc
  · have HI := hide IH
    obtain ⟨sb', so, rfl, hrg⟩ := hA.at_ (fun e => by rw [e] at hl; simp at hl; omega)
    have h2 : 2 ≤ m := by omega
    obtain ⟨k, hk⟩ : ∃ k, k = halfN m := ⟨_, rfl⟩
    have hkn := halfN_lt h2
    have hk0 := halfN_pos m
    rw [← hk] at hkn hk0
    have hpl := (growP_spec m l n whole hl h1 hnm).1
    have hll := gLen_le m n whole h1 hnm
    have n1 : ¬ (n : Int) = (m : Int) := by omega
    have k0 : (0 : Int) ≤ (k : Int) := Int.natCast_nonneg _
    have k1 : (k : Int) ≤ (m : Int) := by omega
    have k2 : (k : Int) ≤ (c : Int) := by omega
    have k3 : ¬ (c = k) := by omega
    have k4 : (m : Int) ≤ (c : Int) := by omega
    have HA := hide hA
    have hlt : (l.take k).length = k := by simp; omega
    have hld : (l.drop k).length = m - k := by simp; omega
    have HLL : Hid ((l.take k).length = k ∧ (l.drop k).length = m - k) := ⟨hlt, hld⟩
    have HK : Hid (k = halfN m ∧ 0 < k ∧ k < m ∧ 2 ≤ m ∧ m ≤ 100000000 ∧ m ≤ c ∧ l.length = m ∧ n ≤ m ∧ 1 ≤ n) := ⟨hk, hk0, hkn, h2, h8, hc, hl, hnm, h1⟩
    by_cases hak : n ≤ k
    · have i1 : (n : Int) ≤ (k : Int) := by omega
      have e := growP_left (l := l) (n := n) whole h1 (by omega) (by rw [hl, ← hk]; exact hak)
      rw [hl, ← hk] at e
      obtain ⟨q, hq⟩ : ∃ q, q = growP (l.take k) n whole := ⟨_, rfl⟩
      obtain ⟨T, hTd⟩ : ∃ d, d = treeP (l.drop k) := ⟨_, rfl⟩
      rw [← hq, ← hTd] at e
      have hql : q.length ≤ 100000000 := by rw [e, List.length_append] at hpl; omega
      unfold GrowthIs
      rw [e]
      have hgT : Dg T := hTd ▸ dg_tree _
      obtain ⟨ct, hct⟩ : ∃ cs, cs = (T.map (Value.int .u8)).toArray := ⟨_, rfl⟩
      have hst : ct.size = 32 := by rw [hct]; simpa using hgT.len
      have HF1 : Hid (∀ W, Below w.heap.size w W → Calls Tryd.prog 59 #[.slice (some ⟨sb', so, none⟩) k c, .int .i64 (n : Int), .bool whole] W fun x w' => (∃ v, x = .returned v ∧ OwnD w' W.heap.size v q) ∧ Below W.heap.size W w') := fun W hB => by
        have := (unhide HI) (l.take k) (by have := unhide HLL; have := unhide HK; omega) n whole W c (some ⟨sb', so, none⟩) (unhide HK).2.2.2.2.2.2.2.2 (by rw [(unhide HLL).1]; exact hak) (((unhide HA).keep hB).take k) (by have := unhide HLL; have := unhide HK; omega)
        unfold GrowthIs at this
        rw [(unhide HLL).1, ← hq] at this
        exact this
      have HF2 : Hid (∀ W, Below w.heap.size w W → Calls Tryd.prog 16 #[.slice (some ⟨sb', so + k * 32, none⟩) (m - k) (c - k)] W fun x w' => x = .returned (.agg ct) ∧ Below W.heap.size W w') := fun W hB => by
        have := rtree_any W (c - k) (some ⟨sb', so + k * 32, none⟩) (l.drop k) (((unhide HA).keep hB).drop k) (by have := unhide HLL; have := unhide HK; omega) (by have := unhide HLL; have := unhide HK; omega)
        rw [(unhide HLL).2, treeD_ne (fun e => by have h := (unhide HLL).2; rw [e] at h; simp at h; have := unhide HK; omega)] at this
        refine this.mono ?_
        rintro x w' ⟨rfl, h'⟩
        exact ⟨by rw [hct, hTd], h'⟩
      have HGT := hide hgT
      have HCT := hide hct
      have HQL := hide hql
      clear IH hl h8 h1 hnm hA hc hrg e1 h2 hk hkn hk0 hpl hll hlt hld hak e hq hTd hql hgT hct
      go_enter Tryd.func59, Tryd.ntmps59
      go_wp2_with fail
      refine (rhalf_any m (unhide HK).2.2.2.1 (by have := unhide HK; omega) w).mono ?_; rintro x W2 ⟨rfl, rfl⟩
      rw [← (unhide HK).1]
      obtain ⟨W, hW⟩ : ∃ W, W = W2.drewN 1 := ⟨_, rfl⟩
      have HW : Hid (W = W2.drewN 1) := hW
      have hSW := below_named HW
      clear hW
      go_wp2_with fail
      refine held (S := Below W2.heap.size W2) W HW (by kernel_rfl) ?_
      refine wpAnyH_take (i := 0) (v := ?_) rfl (by kernel_rfl) (by kernel_rfl) (by kernel_rfl) (fun _ _ _ h => h) (Or.inl ⟨by kernel_rfl, ?_⟩) (by assumption) ?_
      rotate_left
      · intro Wt hSt
        go_simp
        try with_reducible rfl
      try simp only [List.getElem_toArray, List.getElem_cons_zero, List.getElem_cons_succ, Act.put, List.setIfInBounds_toArray, List.set_cons_zero, List.set_cons_succ]
      refine wpAnyH_take (i := 1) (v := ?_) rfl (by kernel_rfl) (by kernel_rfl) (by kernel_rfl) (fun _ _ _ h => h) (Or.inl ⟨by kernel_rfl, ?_⟩) (by assumption) ?_
      rotate_left
      · intro Wt hSt
        go_simp
        try with_reducible rfl
      try simp only [List.getElem_toArray, List.getElem_cons_zero, List.getElem_cons_succ, Act.put, List.setIfInBounds_toArray, List.set_cons_zero, List.set_cons_succ]
      refine wpAnyH_take (i := 2) (v := ?_) rfl (by kernel_rfl) (by kernel_rfl) (by kernel_rfl) (fun _ _ _ h => h) (Or.inl ⟨by kernel_rfl, ?_⟩) (by assumption) ?_
      rotate_left
      · intro Wt hSt
        go_simp
        try with_reducible rfl
      try simp only [List.getElem_toArray, List.getElem_cons_zero, List.getElem_cons_succ, Act.put, List.setIfInBounds_toArray, List.set_cons_zero, List.set_cons_succ]
      refine wpAnyH_take (i := 3) (v := ?_) rfl (by kernel_rfl) (by kernel_rfl) (by kernel_rfl) (fun _ _ _ h => h) (Or.inl ⟨by kernel_rfl, ?_⟩) (by assumption) ?_
      rotate_left
      · intro Wt hSt
        go_simp
        try with_reducible rfl
      try simp only [List.getElem_toArray, List.getElem_cons_zero, List.getElem_cons_succ, Act.put, List.setIfInBounds_toArray, List.set_cons_zero, List.set_cons_succ]
      refine wpAnyH_take (i := 4) (v := ?_) rfl (by kernel_rfl) (by kernel_rfl) (by kernel_rfl) (fun _ _ _ h => h) (Or.inl ⟨by kernel_rfl, ?_⟩) (by assumption) ?_
      rotate_left
      · intro Wt hSt
        go_simp
        try with_reducible rfl
      try simp only [List.getElem_toArray, List.getElem_cons_zero, List.getElem_cons_succ, Act.put, List.setIfInBounds_toArray, List.set_cons_zero, List.set_cons_succ]
      refine wpAnyH_take (i := 6) (v := ?_) rfl (by kernel_rfl) (by kernel_rfl) (by kernel_rfl) (fun _ _ _ h => h) (Or.inl ⟨by kernel_rfl, ?_⟩) (by assumption) ?_
      rotate_left
      · intro Wt hSt
        go_simp
        try with_reducible rfl
      try simp only [List.getElem_toArray, List.getElem_cons_zero, List.getElem_cons_succ, Act.put, List.setIfInBounds_toArray, List.set_cons_zero, List.set_cons_succ]
      refine wpAnyH_take (i := 7) (v := ?_) rfl (by kernel_rfl) (by kernel_rfl) (by kernel_rfl) (fun _ _ _ h => h) (Or.inl ⟨by kernel_rfl, ?_⟩) (by assumption) ?_
      rotate_left
      · intro Wt hSt
        go_simp
        try with_reducible rfl
      try simp only [List.getElem_toArray, List.getElem_cons_zero, List.getElem_cons_succ, Act.put, List.setIfInBounds_toArray, List.set_cons_zero, List.set_cons_succ]
      refine wpAnyH_take (i := 8) (v := ?_) rfl (by kernel_rfl) (by kernel_rfl) (by kernel_rfl) (fun _ _ _ h => h) (Or.inl ⟨by kernel_rfl, ?_⟩) (by assumption) ?_
      rotate_left
      · intro Wt hSt
        go_simp
        try with_reducible rfl
      try simp only [List.getElem_toArray, List.getElem_cons_zero, List.getElem_cons_succ, Act.put, List.setIfInBounds_toArray, List.set_cons_zero, List.set_cons_succ]
      refine wpAnyH_chainOf [5, 9, 10, 11, 12] _ _ _ (by kernel_rfl) (by kernel_rfl) ?_
      simp only [List.filterMap_cons, List.filterMap_nil, List.getElem?_toArray, List.getElem?_cons_zero, List.getElem?_cons_succ]
      refine wpChain_step rfl fun K hK => ?_
      go_simp
      refine ((unhide HF1) _ hSW).mono ?_; rintro x wA ⟨⟨v1, rfl, hO1⟩, hA1⟩
      have hSA := thenB hSW hA1
      dsimp only
      refine hK _ _ hSA ?_
      clear hK K
      refine wpChain_step rfl fun K hK => ?_
      go_simp
      refine ((unhide HF2) _ hSA).mono ?_; rintro x wB ⟨rfl, hA2⟩
      have hSB := thenB hSA hA2
      have hO2 := hO1.later hA2
      dsimp only
      refine hK _ _ hSB ?_
      clear hK K
      refine wpChain_step rfl fun K hK => ?_
      go_simp
      rw [overwritten hst (by rfl)]
      generalize hY : wB.alloc _ = Y1
      have hBY : Below wB.heap.size wB Y1 := hY ▸ (Below.refl _ _).alloc (Nat.le_refl _) _
      have hoY : ByAt Y1 wB.heap.size 24 T := boxed wB Y1 T _ (by rw [← hY, unhide HCT]; rfl)
      have hSC := thenB hSB hBY
      have hO3 := hO2.later hBY
      refine hK _ _ hSC ?_
      clear hK K hY
      obtain ⟨v3, V3, hr3, hown3, hg3⟩ := run_append_D hO3 26 wB.heap.size 1 T (unhide HGT) hoY (by have := unhide HQL; omega) (Nat.le_trans hA1.size (Nat.le_trans hA2.size hBY.size))
      have hS3 := grown_below hSC hg3 (fun k hk => Nat.le_trans hSW.size (hO3.lt k hk).1)
      refine wpChain_step rfl fun K hK => ?_
      refine wp_append (.tmp 34) (.tmp 39) 26 rfl _ _ v3 V3 rfl rfl hr3 ?_
      refine hK _ _ hS3 ?_
      clear hK K
      refine wpChain_step rfl fun K hK => ?_
      go_simp
      refine hK _ _ hS3 (wpChain_nil ?_)
      clear hK K
      go_wp2_with fail
      go_ret
      exact ⟨⟨_, rfl, hown3.le hSW.size⟩, hS3⟩
    · have i1 : ¬ (n : Int) ≤ (k : Int) := by omega
      have e := growP_right (l := l) (n := n) whole h1 (by omega) (by rw [hl, ← hk]; exact hak)
      rw [hl, ← hk] at e
      obtain ⟨nk, hnk⟩ : ∃ a, a = n - k := ⟨_, rfl⟩
      have wa : IntKind.i64.wrap ((n : Int) - (k : Int)) = (nk : Int) := (IntWalk.i64_in _ (by omega)).trans (by omega)
      obtain ⟨q, hq⟩ : ∃ q, q = growP (l.drop k) nk false := ⟨_, rfl⟩
      obtain ⟨T, hTd⟩ : ∃ d, d = treeP (l.take k) := ⟨_, rfl⟩
      rw [← hnk, ← hq, ← hTd] at e
      have hql : q.length ≤ 100000000 := by rw [e, List.length_append] at hpl; omega
      unfold GrowthIs
      rw [e]
      have hgT : Dg T := hTd ▸ dg_tree _
      obtain ⟨ct, hct⟩ : ∃ cs, cs = (T.map (Value.int .u8)).toArray := ⟨_, rfl⟩
      have hst : ct.size = 32 := by rw [hct]; simpa using hgT.len
      have HF1 : Hid (∀ W, Below w.heap.size w W → Calls Tryd.prog 59 #[.slice (some ⟨sb', so + k * 32, none⟩) (m - k) (c - k), .int .i64 (nk : Int), .bool false] W fun x w' => (∃ v, x = .returned v ∧ OwnD w' W.heap.size v q) ∧ Below W.heap.size W w') := fun W hB => by
        have := (unhide HI) (l.drop k) (by have := unhide HLL; have := unhide HK; omega) nk false W (c - k) (some ⟨sb', so + k * 32, none⟩) (by omega) (by rw [(unhide HLL).2]; have := unhide HK; omega) (((unhide HA).keep hB).drop k) (by have := unhide HLL; have := unhide HK; omega)
        unfold GrowthIs at this
        rw [(unhide HLL).2, ← hq] at this
        exact this
      have HF2 : Hid (∀ W, Below w.heap.size w W → Calls Tryd.prog 16 #[.slice (some ⟨sb', so, none⟩) k c] W fun x w' => x = .returned (.agg ct) ∧ Below W.heap.size W w') := fun W hB => by
        have := rtree_any W c (some ⟨sb', so, none⟩) (l.take k) (((unhide HA).keep hB).take k) (by have := unhide HLL; have := unhide HK; omega) (by have := unhide HLL; have := unhide HK; omega)
        rw [(unhide HLL).1, treeD_ne (fun e => by have h := (unhide HLL).1; rw [e] at h; simp at h; have := unhide HK; omega)] at this
        refine this.mono ?_
        rintro x w' ⟨rfl, h'⟩
        exact ⟨by rw [hct, hTd], h'⟩
      have HGT := hide hgT
      have HCT := hide hct
      have HQL := hide hql
      clear IH hl h8 h1 hnm hA hc hrg e1 h2 hk hkn hk0 hpl hll hlt hld hak e hq hTd hql hgT hct hnk
      go_enter Tryd.func59, Tryd.ntmps59
      go_wp2_with fail
      refine (rhalf_any m (unhide HK).2.2.2.1 (by have := unhide HK; omega) w).mono ?_; rintro x W2 ⟨rfl, rfl⟩
      rw [← (unhide HK).1]
      obtain ⟨W, hW⟩ : ∃ W, W = W2.drewN 1 := ⟨_, rfl⟩
      have HW : Hid (W = W2.drewN 1) := hW
      have hSW := below_named HW
      clear hW
      go_wp2_with fail
      refine held (S := Below W2.heap.size W2) W HW (by kernel_rfl) ?_
      refine wpAnyH_take (i := 0) (v := ?_) rfl (by kernel_rfl) (by kernel_rfl) (by kernel_rfl) (fun _ _ _ h => h) (Or.inl ⟨by kernel_rfl, ?_⟩) (by assumption) ?_
      rotate_left
      · intro Wt hSt
        go_simp
        try with_reducible rfl
      try simp only [List.getElem_toArray, List.getElem_cons_zero, List.getElem_cons_succ, Act.put, List.setIfInBounds_toArray, List.set_cons_zero, List.set_cons_succ]
      refine wpAnyH_take (i := 1) (v := ?_) rfl (by kernel_rfl) (by kernel_rfl) (by kernel_rfl) (fun _ _ _ h => h) (Or.inl ⟨by kernel_rfl, ?_⟩) (by assumption) ?_
      rotate_left
      · intro Wt hSt
        go_simp
        try with_reducible rfl
      try simp only [List.getElem_toArray, List.getElem_cons_zero, List.getElem_cons_succ, Act.put, List.setIfInBounds_toArray, List.set_cons_zero, List.set_cons_succ]
      refine wpAnyH_take (i := 2) (v := ?_) rfl (by kernel_rfl) (by kernel_rfl) (by kernel_rfl) (fun _ _ _ h => h) (Or.inl ⟨by kernel_rfl, ?_⟩) (by assumption) ?_
      rotate_left
      · intro Wt hSt
        go_simp
        try with_reducible rfl
      try simp only [List.getElem_toArray, List.getElem_cons_zero, List.getElem_cons_succ, Act.put, List.setIfInBounds_toArray, List.set_cons_zero, List.set_cons_succ]
      refine wpAnyH_take (i := 3) (v := ?_) rfl (by kernel_rfl) (by kernel_rfl) (by kernel_rfl) (fun _ _ _ h => h) (Or.inl ⟨by kernel_rfl, ?_⟩) (by assumption) ?_
      rotate_left
      · intro Wt hSt
        go_simp
        try with_reducible rfl
      try simp only [List.getElem_toArray, List.getElem_cons_zero, List.getElem_cons_succ, Act.put, List.setIfInBounds_toArray, List.set_cons_zero, List.set_cons_succ]
      refine wpAnyH_take (i := 4) (v := ?_) rfl (by kernel_rfl) (by kernel_rfl) (by kernel_rfl) (fun _ _ _ h => h) (Or.inl ⟨by kernel_rfl, ?_⟩) (by assumption) ?_
      rotate_left
      · intro Wt hSt
        go_simp
        try with_reducible rfl
      try simp only [List.getElem_toArray, List.getElem_cons_zero, List.getElem_cons_succ, Act.put, List.setIfInBounds_toArray, List.set_cons_zero, List.set_cons_succ]
      refine wpAnyH_take (i := 5) (v := ?_) rfl (by kernel_rfl) (by kernel_rfl) (by kernel_rfl) (fun _ _ _ h => h) (Or.inl ⟨by kernel_rfl, ?_⟩) (by assumption) ?_
      rotate_left
      · intro Wt hSt
        go_simp
        try with_reducible rfl
      try simp only [List.getElem_toArray, List.getElem_cons_zero, List.getElem_cons_succ, Act.put, List.setIfInBounds_toArray, List.set_cons_zero, List.set_cons_succ]
      refine wpAnyH_take (i := 7) (v := ?_) rfl (by kernel_rfl) (by kernel_rfl) (by kernel_rfl) (fun _ _ _ h => h) (Or.inl ⟨by kernel_rfl, ?_⟩) (by assumption) ?_
      rotate_left
      · intro Wt hSt
        go_simp
        try with_reducible rfl
      try simp only [List.getElem_toArray, List.getElem_cons_zero, List.getElem_cons_succ, Act.put, List.setIfInBounds_toArray, List.set_cons_zero, List.set_cons_succ]
      refine wpAnyH_take (i := 8) (v := ?_) rfl (by kernel_rfl) (by kernel_rfl) (by kernel_rfl) (fun _ _ _ h => h) (Or.inl ⟨by kernel_rfl, ?_⟩) (by assumption) ?_
      rotate_left
      · intro Wt hSt
        go_simp
        try with_reducible rfl
      try simp only [List.getElem_toArray, List.getElem_cons_zero, List.getElem_cons_succ, Act.put, List.setIfInBounds_toArray, List.set_cons_zero, List.set_cons_succ]
      refine wpAnyH_take (i := 9) (v := ?_) rfl (by kernel_rfl) (by kernel_rfl) (by kernel_rfl) (fun _ _ _ h => h) (Or.inl ⟨by kernel_rfl, ?_⟩) (by assumption) ?_
      rotate_left
      · intro Wt hSt
        go_simp
        try with_reducible rfl
      try simp only [List.getElem_toArray, List.getElem_cons_zero, List.getElem_cons_succ, Act.put, List.setIfInBounds_toArray, List.set_cons_zero, List.set_cons_succ]
      refine wpAnyH_chainOf [6, 10, 11, 12, 13] _ _ _ (by kernel_rfl) (by kernel_rfl) ?_
      simp only [List.filterMap_cons, List.filterMap_nil, List.getElem?_toArray, List.getElem?_cons_zero, List.getElem?_cons_succ]
      refine wpChain_step rfl fun K hK => ?_
      go_simp
      refine ((unhide HF1) _ hSW).mono ?_; rintro x wA ⟨⟨v1, rfl, hO1⟩, hA1⟩
      have hSA := thenB hSW hA1
      dsimp only
      refine hK _ _ hSA ?_
      clear hK K
      refine wpChain_step rfl fun K hK => ?_
      go_simp
      refine ((unhide HF2) _ hSA).mono ?_; rintro x wB ⟨rfl, hA2⟩
      have hSB := thenB hSA hA2
      have hO2 := hO1.later hA2
      dsimp only
      refine hK _ _ hSB ?_
      clear hK K
      refine wpChain_step rfl fun K hK => ?_
      go_simp
      rw [overwritten hst (by rfl)]
      generalize hY : wB.alloc _ = Y1
      have hBY : Below wB.heap.size wB Y1 := hY ▸ (Below.refl _ _).alloc (Nat.le_refl _) _
      have hoY : ByAt Y1 wB.heap.size 24 T := boxed wB Y1 T _ (by rw [← hY, unhide HCT]; rfl)
      have hSC := thenB hSB hBY
      have hO3 := hO2.later hBY
      refine hK _ _ hSC ?_
      clear hK K hY
      obtain ⟨v3, V3, hr3, hown3, hg3⟩ := run_append_D hO3 26 wB.heap.size 1 T (unhide HGT) hoY (by have := unhide HQL; omega) (Nat.le_trans hA1.size (Nat.le_trans hA2.size hBY.size))
      have hS3 := grown_below hSC hg3 (fun k hk => Nat.le_trans hSW.size (hO3.lt k hk).1)
      refine wpChain_step rfl fun K hK => ?_
      refine wp_append (.tmp 47) (.tmp 52) 26 rfl _ _ v3 V3 rfl rfl hr3 ?_
      refine hK _ _ hS3 ?_
      clear hK K
      refine wpChain_step rfl fun K hK => ?_
      go_simp
      refine hK _ _ hS3 (wpChain_nil ?_)
      clear hK K
      go_wp2_with fail
      go_ret
      exact ⟨⟨_, rfl, hown3.le hSW.size⟩, hS3⟩
theorem rgrowth_all (m : Nat) : m ≤ 100000000 → ∀ (l : List (List Int)), l.length = m → ∀ (n : Nat) (whole : Bool) (w : World) (c : Nat) (A : Option Addr), 1 ≤ n → n ≤ m → Ds w A l → m ≤ c → GrowthIs w l m n whole c A := by
  induction m using Nat.strongRecOn with
  | _ m IH =>
    intro h8 l hl n whole w c A h1 hnm hA hc
    exact rgrowth_step m (fun l' hl' n' wh' w' c' A' h1' hn' hA' hc' => IH l'.length hl' (by omega) l' rfl n' wh' w' c' A' h1' hn' hA' hc') l hl h8 n whole w c A h1 hnm hA hc
set_option maxRecDepth 100000 in
set_option maxHeartbeats 1000000 in
theorem rGrow_ok (l : List (List Int)) (h8 : l.length ≤ 100000000) (n : Nat) (w : World) (c : Nat) (A : Option Addr) (h1 : 1 ≤ n) (hnm : n ≤ l.length) (hA : Ds w A l) (hc : l.length ≤ c) :
    Calls Tryd.prog 23 #[.slice A l.length c, .int .i64 (n : Int)] w fun x w' => (∃ v, x = .returned (.tuple #[v, .int .i64 0]) ∧ OwnD w' w.heap.size v (growP l n true)) ∧ Below w.heap.size w w' := by
  have HF := hide (rgrowth_all l.length h8 l rfl n true w c A h1 hnm hA hc)
  obtain ⟨m, hm⟩ : ∃ n, n = l.length := ⟨_, rfl⟩
  have i1 : ¬ (n : Int) < 1 := by omega
  have i2 : ¬ (m : Int) < (n : Int) := by omega
  unfold GrowthIs at HF
  rw [← hm] at HF ⊢
  clear h8 h1 hnm hA hc hm
  go_enter Tryd.func23, Tryd.ntmps23
  go_wp2_with fail
  refine (unhide HF).mono ?_; rintro x W2 ⟨⟨v, rfl, ho⟩, hb⟩
  have HO := hide ho
  have HB := hide hb
  clear ho hb HF
  go_wp2_with fail
  go_ret2
  exact ⟨⟨_, rfl, unhide HO⟩, unhide HB⟩
set_option maxRecDepth 100000 in
set_option maxHeartbeats 1000000 in
theorem rGrow_bad (m : Nat) (n : Int) (w : World) (c : Nat) (A : Option Addr) (h : n < 1 ∨ (m : Int) < n) :
    Calls Tryd.prog 23 #[.slice A m c, .int .i64 n] w fun x w' => x = .returned (.tuple #[.slice none 0 0, .int .i64 1]) ∧ w' = w := by
  by_cases i1 : n < 1
  · clear h
    go_enter Tryd.func23, Tryd.ntmps23
    go_wp2_with fail
    go_ret2
    exact ⟨rfl, rfl⟩
  · have i2 : (m : Int) < n := by omega
    clear h
    go_enter Tryd.func23, Tryd.ntmps23
    go_wp2_with fail
    go_ret2
    exact ⟨rfl, rfl⟩
end Go.Proofs.YtceppmajbkmbdaaDoor
namespace Go.Proofs.YtceppmajbkmbdaaDoor
set_option linter.unusedSimpArgs false
set_option linter.unusedVariables false
open Go.RowKit

def perr (n : Nat) (i : Int) : Int := if 0 ≤ i ∧ i < n then 0 else 1
def pathI (l : List (List Int)) (i : Int) : List (List Int) := if 0 ≤ i ∧ i < l.length then pathP l i.toNat else []
theorem dg_pathI (l : List (List Int)) (i : Int) : ∀ d ∈ pathI l i, Dg d := by
  unfold pathI
  split
  · rename_i h
    exact (pathP_spec l.length l i.toNat rfl (by omega)).2.1
  · intro d hd; cases hd
theorem pathI_len (l : List (List Int)) (i : Int) : (pathI l i).length ≤ l.length := by
  unfold pathI
  split
  · rename_i h
    rw [(pathP_spec l.length l i.toNat rfl (by omega)).1]
    have := lenP_lt l.length i.toNat (by omega)
    omega
  · exact Nat.zero_le _
abbrev PathC (F : FuncId) (l : List (List Int)) (i : Int) (A : Option Addr) (c : Nat) (w : World) : Prop :=
  Calls Tryd.prog F #[.slice A l.length c, .int .i64 i] w fun x w' => (∃ v, x = .returned (.tuple #[v, .int .i64 (perr l.length i)]) ∧ OwnD w' w.heap.size v (pathI l i)) ∧ Below w.heap.size w w'
theorem Path_all (l : List (List Int)) (i : Int) (A : Option Addr) (c : Nat) (w : World) (hA : Ds w A l) (hc : l.length ≤ c) (h8 : l.length ≤ 100000000) (hT : DTab w) : PathC 17 l i A c w := by
  unfold PathC perr pathI
  by_cases h : 0 ≤ i ∧ i < l.length
  · obtain ⟨k, rfl⟩ : ∃ k : Nat, i = k := ⟨i.toNat, by omega⟩
    rw [if_pos h, if_pos h, Int.toNat_natCast]
    exact Path_ok l k A c w hA hc h8 (by omega) hT
  · rw [if_neg h, if_neg h]
    refine (Path_bad i l.length c A (by omega) w).mono ?_
    rintro x w' ⟨rfl, rfl⟩
    exact ⟨⟨_, rfl, World.ownsRow_nil _ _ _ _⟩, Below.refl _ _⟩
theorem rPath_all (l : List (List Int)) (i : Int) (A : Option Addr) (c : Nat) (w : World) (hA : Ds w A l) (hc : l.length ≤ c) (h8 : l.length ≤ 100000000) : PathC 18 l i A c w := by
  unfold PathC perr pathI
  by_cases h : 0 ≤ i ∧ i < l.length
  · obtain ⟨k, rfl⟩ : ∃ k : Nat, i = k := ⟨i.toNat, by omega⟩
    rw [if_pos h, if_pos h, Int.toNat_natCast]
    exact rPath_ok l h8 k w c A (by omega) hA hc
  · rw [if_neg h, if_neg h]
    refine (rPath_bad l.length i w c A (by omega)).mono ?_
    rintro x w' ⟨rfl, rfl⟩
    exact ⟨⟨_, rfl, World.ownsRow_nil _ _ _ _⟩, Below.refl _ _⟩

def climbOk (at_ n : Int) (m : Nat) : Prop := 1 ≤ n ∧ n ≤ 1099511627776 ∧ 0 ≤ at_ ∧ at_ < n ∧ m = lenP n.toNat at_.toNat
instance (at_ n : Int) (m : Nat) : Decidable (climbOk at_ n m) := by unfold climbOk; infer_instance
def cerr (at_ n : Int) (m : Nat) : Int := if climbOk at_ n m then 0 else 1
def climbI (d : List Int) (at_ n : Int) (p : List (List Int)) : List Int := if climbOk at_ n p.length then climbP d n.toNat at_.toNat p else zeros
theorem climbI_len (d : List Int) (at_ n : Int) (p : List (List Int)) : (climbI d at_ n p).length = 32 := by
  unfold climbI
  split
  · exact (dg_climb _ _ _ _).len
  · rfl
abbrev ClimbC (F : FuncId) (d : List Int) (at_ n : Int) (p : List (List Int)) (A : Option Addr) (c : Nat) (w : World) : Prop :=
  Calls Tryd.prog F #[dv d, .int .i64 at_, .int .i64 n, .slice A p.length c] w fun x w' => x = .returned (.tuple #[dv (climbI d at_ n p), .int .i64 (cerr at_ n p.length)]) ∧ Below w.heap.size w w'
theorem Climb_all (d : List Int) (hd : Dg d) (at_ n : Int) (p : List (List Int)) (A : Option Addr) (c : Nat) (w : World) (hA : Ds w A p) (hc : p.length ≤ c) (hT : DTab w) : ClimbC 20 d at_ n p A c w := by
  unfold ClimbC cerr climbI
  by_cases h : climbOk at_ n p.length
  · rw [if_pos h, if_pos h]
    obtain ⟨h1, h2, h3, h4, h5⟩ := h
    obtain ⟨k, rfl⟩ : ∃ k : Nat, n = k := ⟨n.toNat, by omega⟩
    obtain ⟨a, rfl⟩ : ∃ a : Nat, at_ = a := ⟨at_.toNat, by omega⟩
    rw [Int.toNat_natCast, Int.toNat_natCast] at h5 ⊢
    exact Climb_ok a k (by omega) (by omega) (by omega) p h5 d w p.length c A rfl hd hT hc hA fun W hb hh ht hds => climb_any k (by omega) a d p W hb p.length c A (by omega) (by omega) rfl h5 hc hd hds hh ht
  · rw [if_neg h, if_neg h]
    exact Climb_bad at_ n p.length h d w c A hd hT
theorem rClimb_all (d : List Int) (hd : Dg d) (at_ n : Int) (p : List (List Int)) (A : Option Addr) (c : Nat) (w : World) (hA : Ds w A p) (hc : p.length ≤ c) : ClimbC 21 d at_ n p A c w := by
  unfold ClimbC cerr climbI
  by_cases h : climbOk at_ n p.length
  · rw [if_pos h, if_pos h]
    obtain ⟨h1, h2, h3, h4, h5⟩ := h
    obtain ⟨k, rfl⟩ : ∃ k : Nat, n = k := ⟨n.toNat, by omega⟩
    obtain ⟨a, rfl⟩ : ∃ a : Nat, at_ = a := ⟨at_.toNat, by omega⟩
    rw [Int.toNat_natCast, Int.toNat_natCast] at h5 ⊢
    exact rClimb_ok a k (by omega) (by omega) (by omega) p h5 d w p.length c A rfl hd hc hA
  · rw [if_neg h, if_neg h]
    exact rClimb_bad at_ n p.length h d w c A hd

def gerr (m : Nat) (n : Int) : Int := if 1 ≤ n ∧ n ≤ m then 0 else 1
def growI (l : List (List Int)) (n : Int) : List (List Int) := if 1 ≤ n ∧ n ≤ l.length then growP l n.toNat true else []
theorem dg_growI (l : List (List Int)) (n : Int) : ∀ d ∈ growI l n, Dg d := by
  unfold growI
  split
  · rename_i h
    exact (growP_spec l.length l n.toNat true rfl (by omega) (by omega)).2
  · intro d hd; cases hd
theorem growI_len (l : List (List Int)) (n : Int) : (growI l n).length ≤ l.length := by
  unfold growI
  split
  · rename_i h
    rw [(growP_spec l.length l n.toNat true rfl (by omega) (by omega)).1]
    exact gLen_le l.length n.toNat true (by omega) (by omega)
  · exact Nat.zero_le _
abbrev GrowC (F : FuncId) (l : List (List Int)) (n : Int) (A : Option Addr) (c : Nat) (w : World) : Prop :=
  Calls Tryd.prog F #[.slice A l.length c, .int .i64 n] w fun x w' => (∃ v, x = .returned (.tuple #[v, .int .i64 (gerr l.length n)]) ∧ OwnD w' w.heap.size v (growI l n)) ∧ Below w.heap.size w w'
theorem Grow_all (l : List (List Int)) (n : Int) (A : Option Addr) (c : Nat) (w : World) (hA : Ds w A l) (hc : l.length ≤ c) (h8 : l.length ≤ 100000000) (hT : DTab w) : GrowC 22 l n A c w := by
  unfold GrowC gerr growI
  by_cases h : 1 ≤ n ∧ n ≤ l.length
  · obtain ⟨k, rfl⟩ : ∃ k : Nat, n = k := ⟨n.toNat, by omega⟩
    rw [if_pos h, if_pos h, Int.toNat_natCast]
    exact Grow_ok l k A c w hA hc h8 (by omega) (by omega) hT
  · rw [if_neg h, if_neg h]
    refine (Grow_bad n l.length c A (by omega) w).mono ?_
    rintro x w' ⟨rfl, hb⟩
    exact ⟨⟨_, rfl, World.ownsRow_nil _ _ _ _⟩, hb⟩
theorem rGrow_all (l : List (List Int)) (n : Int) (A : Option Addr) (c : Nat) (w : World) (hA : Ds w A l) (hc : l.length ≤ c) (h8 : l.length ≤ 100000000) : GrowC 23 l n A c w := by
  unfold GrowC gerr growI
  by_cases h : 1 ≤ n ∧ n ≤ l.length
  · obtain ⟨k, rfl⟩ : ∃ k : Nat, n = k := ⟨n.toNat, by omega⟩
    rw [if_pos h, if_pos h, Int.toNat_natCast]
    exact rGrow_ok l h8 k w c A (by omega) (by omega) hA hc
  · rw [if_neg h, if_neg h]
    refine (rGrow_bad l.length n w c A (by omega)).mono ?_
    rintro x w' ⟨rfl, rfl⟩
    exact ⟨⟨_, rfl, World.ownsRow_nil _ _ _ _⟩, Below.refl _ _⟩
end Go.Proofs.YtceppmajbkmbdaaDoor
namespace Go.Proofs.YtceppmajbkmbdaaDoor
set_option linter.unusedSimpArgs false
set_option linter.unusedVariables false
open Go.RowKit

/-- two digests are compared in a region that draws its order -/
theorem yieldsIf_neq3 {ops : Array Oper} {S : World → Prop} {o : Oper} {a : Act} (hw : Region.wanted o (yielded ops a.tmps) = true) (x y : Operand) (t : TypeId) (ho : o.op = .binOp .neq 24 x y t) (l k : List Int) (hx : a.eval x = dv l) (hy : a.eval y = dv k) (hl : l.length = 32) (hk : k.length = 32) (b : Bool) (hb : b = !decide (l = k)) :
    YieldsIf Tryd.prog ops S o (.bool b) a := by
  subst hb
  refine .inl ⟨hw, fun w _ => ?_⟩
  unfold execOp
  simp only [ho, hx, hy, Sem.run_bind, run_eqGuard_agg w _ _ _ _ _ _ guard_dg, run_neq_struct, eq_dg l k hl hk w, Result.andThen_ok, Sem.run_pure]
theorem neq_same3 (l : List Int) : false = !decide (l = l) := by simp
set_option maxRecDepth 100000 in
set_option maxHeartbeats 4000000 in
theorem rsame_any (w : World) (n : Nat) (l : List (List Int)) (hl : n = l.length) (hn : n ≤ 1000) (A1 : Option Addr) (c1 : Nat) (hc1 : n ≤ c1) (h1 : Ds w A1 l) (A2 : Option Addr) (c2 : Nat) (hc2 : n ≤ c2) (h2 : Ds w A2 l) :
    Calls Tryd.prog 19 #[.slice A1 n c1, .slice A2 n c2] w fun x w' => x = .returned (.bool true) ∧ Below w.heap.size w w' := by
  have H1 := hide h1; have H2 := hide h2
  have HN : Hid (n = l.length ∧ n ≤ 1000) := ⟨hl, hn⟩
  have k1 : (n : Int) ≤ (c1 : Int) := by omega
  have k2 : (n : Int) ≤ (c2 : Int) := by omega
  clear h1 h2 hl hn hc1 hc2
  go_enter Tryd.func19, Tryd.ntmps19
  go_wp2_with fail
  go_loopg [5] n (fun g y5 wx => ∃ j : Nat, g + j = n ∧ y5 = .int .i64 (j : Int) ∧ Below w.heap.size w wx)
  case atStart => exact ⟨0, rfl, rfl, Below.refl _ _⟩
  case round =>
    obtain ⟨j, hj, rfl, hb⟩ := hrel
    cases gk with
    | zero =>
      obtain rfl : j = n := by omega
      have HB := hide hb
      clear hb hj
      go_wp2_with fail
      go_ret
      exact ⟨rfl, unhide HB⟩
    | succ g =>
      obtain ⟨d, hd⟩ : ∃ x, l[j]? = some x := ⟨_, List.getElem?_eq_getElem (by have := (unhide HN).1; omega)⟩
      have hne : l ≠ [] := fun e => by rw [e] at hd; simp at hd
      obtain ⟨b1, o1, rfl, hr1⟩ := (unhide H1).at_ hne
      obtain ⟨b2, o2, rfl, hr2⟩ := (unhide H2).at_ hne
      have hg : Dg d := (unhide H1).dg d (List.mem_of_getElem? hd)
      have HG := hide hg
      have HR1 := hide (hr1 j d hd); have HR2 := hide (hr2 j d hd)
      have j1 : (j : Int) < (n : Int) := by omega
      have j0 : (0 : Int) ≤ (j : Int) := Int.natCast_nonneg _
      have jM : (j : Int) ≤ 1000 := by have := unhide HN; omega
      have HB := hide hb; have HJ := hide hj
      obtain ⟨cd, hcd⟩ : ∃ cs, cs = (d.map (Value.int .u8)).toArray := ⟨_, rfl⟩
      have HCD := hide hcd
      clear hd hne hr1 hr2 hg hb hj hcd
      go_wp2_with fail
      obtain ⟨W, hW⟩ : ∃ W, W = wr.drewN 1 := ⟨_, rfl⟩
      have HW : Hid (W = wr.drewN 1) := hW
      have hS : Below w.heap.size w W := thenB (unhide HB) (below_named HW)
      clear hW
      refine held (S := Below w.heap.size w) W HW (by kernel_rfl) ?_
      refine wpAnyH_take (i := 0) (v := ?_) rfl (by kernel_rfl) (by kernel_rfl) (by kernel_rfl) (fun _ _ _ h => h) (Or.inl ⟨by kernel_rfl, ?_⟩) (by assumption) ?_
      rotate_left
      · intro Wt hSt
        go_simp
        try with_reducible rfl
      try simp only [List.getElem_toArray, List.getElem_cons_zero, List.getElem_cons_succ, Act.put, List.setIfInBounds_toArray, List.set_cons_zero, List.set_cons_succ]
      refine wpAnyH_take (i := 1) (v := ?_) rfl (by kernel_rfl) (by kernel_rfl) (by kernel_rfl) (fun _ _ _ h => h) (Or.inl ⟨by kernel_rfl, ?_⟩) (by assumption) ?_
      rotate_left
      · intro Wt hSt
        go_simp
        try with_reducible rfl
      try simp only [List.getElem_toArray, List.getElem_cons_zero, List.getElem_cons_succ, Act.put, List.setIfInBounds_toArray, List.set_cons_zero, List.set_cons_succ]
      refine wpAnyH_take (i := 2) (v := ?_) rfl (by kernel_rfl) (by kernel_rfl) (by kernel_rfl) (fun _ _ _ h => h) (Or.inl ⟨by kernel_rfl, ?_⟩) (by assumption) ?_
      rotate_left
      · intro Wt hSt
        go_simp
        try with_reducible rfl
      try simp only [List.getElem_toArray, List.getElem_cons_zero, List.getElem_cons_succ, Act.put, List.setIfInBounds_toArray, List.set_cons_zero, List.set_cons_succ]
      refine wpAnyH_take (i := 3) (v := .agg cd) rfl (by kernel_rfl) (by kernel_rfl) (by kernel_rfl) (fun _ _ _ h => h) (by rw [unhide HCD]; exact yieldsIf_load_mid (by kernel_rfl) 24 (.tmp 19) rfl b1 (o1 + j * 32) rfl (d.map (Value.int .u8)) _ (fun W hS => rangeAt_keep (unhide HR1) hS) Tryd.underlying24 rfl (by rw [List.length_map, (unhide HG).len]; exact info32)) (by assumption) ?_
      try simp only [List.getElem_toArray, List.getElem_cons_zero, List.getElem_cons_succ, Act.put, List.setIfInBounds_toArray, List.set_cons_zero, List.set_cons_succ]
      refine wpAnyH_take (i := 4) (v := ?_) rfl (by kernel_rfl) (by kernel_rfl) (by kernel_rfl) (fun _ _ _ h => h) (Or.inl ⟨by kernel_rfl, ?_⟩) (by assumption) ?_
      rotate_left
      · intro Wt hSt
        go_simp
        try with_reducible rfl
      try simp only [List.getElem_toArray, List.getElem_cons_zero, List.getElem_cons_succ, Act.put, List.setIfInBounds_toArray, List.set_cons_zero, List.set_cons_succ]
      refine wpAnyH_take (i := 5) (v := ?_) rfl (by kernel_rfl) (by kernel_rfl) (by kernel_rfl) (fun _ _ _ h => h) (Or.inl ⟨by kernel_rfl, ?_⟩) (by assumption) ?_
      rotate_left
      · intro Wt hSt
        go_simp
        try with_reducible rfl
      try simp only [List.getElem_toArray, List.getElem_cons_zero, List.getElem_cons_succ, Act.put, List.setIfInBounds_toArray, List.set_cons_zero, List.set_cons_succ]
      refine wpAnyH_take (i := 6) (v := ?_) rfl (by kernel_rfl) (by kernel_rfl) (by kernel_rfl) (fun _ _ _ h => h) (Or.inl ⟨by kernel_rfl, ?_⟩) (by assumption) ?_
      rotate_left
      · intro Wt hSt
        go_simp
        try with_reducible rfl
      try simp only [List.getElem_toArray, List.getElem_cons_zero, List.getElem_cons_succ, Act.put, List.setIfInBounds_toArray, List.set_cons_zero, List.set_cons_succ]
      refine wpAnyH_take (i := 7) (v := .agg cd) rfl (by kernel_rfl) (by kernel_rfl) (by kernel_rfl) (fun _ _ _ h => h) (by rw [unhide HCD]; exact yieldsIf_load_mid (by kernel_rfl) 24 (.tmp 23) rfl b2 (o2 + j * 32) rfl (d.map (Value.int .u8)) _ (fun W hS => rangeAt_keep (unhide HR2) hS) Tryd.underlying24 rfl (by rw [List.length_map, (unhide HG).len]; exact info32)) (by assumption) ?_
      try simp only [List.getElem_toArray, List.getElem_cons_zero, List.getElem_cons_succ, Act.put, List.setIfInBounds_toArray, List.set_cons_zero, List.set_cons_succ]
      refine wpAnyH_take (i := 8) (v := .bool false) rfl (by kernel_rfl) (by kernel_rfl) (by kernel_rfl) (fun _ _ _ h => h) (by refine yieldsIf_neq3 ?_ (.tmp 20) (.tmp 24) 24 ?_ d d ?_ ?_ (unhide HG).len (unhide HG).len false (neq_same3 d); (· kernel_rfl); (· rfl); (· show Value.agg cd = _; rw [unhide HCD]); (· show Value.agg cd = _; rw [unhide HCD])) (by assumption) ?_
      try simp only [List.getElem_toArray, List.getElem_cons_zero, List.getElem_cons_succ, Act.put, List.setIfInBounds_toArray, List.set_cons_zero, List.set_cons_succ]
      refine wpAnyH_chainOf [] _ _ _ (by kernel_rfl) (by kernel_rfl) ?_
      refine wpChain_nil ?_
      have HS := hide hS
      clear hS
      go_wp2_with fail
      go_roundg g
      case measure => omega
      case rel => exact ⟨j + 1, by have := unhide HJ; omega, by push_cast; rfl, unhide HS⟩
end Go.Proofs.YtceppmajbkmbdaaDoor
namespace Go.Proofs.YtceppmajbkmbdaaDoor
set_option linter.unusedSimpArgs false
set_option linter.unusedVariables false
open Go.RowKit Go.LawClose

theorem le_63 {n c : Nat} (h : n ≤ c) : (n : Int) ≤ (c : Int) := by omega
set_option maxRecDepth 100000 in
set_option maxHeartbeats 8000000 in
theorem treeSpec_any (A : Option Addr) (c : Nat) (l : List Int) (at_ nn : Int) (d : List Int) (hd : Dg d) (w : World) (hA : Bt w A l) (hc : l.length ≤ c) (h63 : l.length ≤ 140737488351232) (hT : DTab w) :
    Calls Tryd.prog 3 #[.slice A l.length c, .int .i64 at_, .int .i64 nn, dv d] w (LawOk w) := by
  have HT := hide hT
  have HA := hide hA
  have HD := hide hd
  have HC : Hid (l.length ≤ c ∧ l.length ≤ 140737488351232) := ⟨hc, h63⟩
  obtain ⟨cd, hcd⟩ : ∃ cs, cs = (d.map (Value.int .u8)).toArray := ⟨_, rfl⟩
  have hsd : cd.size = 32 := by rw [hcd]; simpa using hd.len
  have HCD := hide hcd
  rw [show dv d = .agg cd by rw [hcd]]
  clear hT hA hc h63 hd hcd
  go_enter Tryd.func3, Tryd.ntmps3
  go_upto_region 1 with fail
  generalize hX1 : w.alloc _ = W1
  have hB1 : Below w.heap.size w W1 := hX1 ▸ (Below.refl _ _).alloc (Nat.le_refl _) _
  have ho1 : ByAt W1 w.heap.size 24 d := boxed w W1 d _ (by rw [← hX1]; first | rfl | (rw [unhide HCD]; rfl))
  have HB1 := hide hB1
  have HO1 := hide ho1
  clear hX1 hB1 ho1
  go_wp2_with fail
  refine (sane_any W1 ((unhide HT).keep (unhide HB1))).mono ?_; rintro x W2 ⟨rfl, hB2⟩
  have HB2 := hide (thenB (unhide HB1) hB2)
  have HO2 := hide ((unhide HO1).keep hB2)
  clear hB2 HB1 HO1
  go_wp2_with fail
  refine (of_any A c l W2 ((unhide HA).keep (unhide HB2)) (unhide HC).1 (unhide HC).2).mono ?_; rintro x W3 ⟨⟨v, rfl, hown⟩, hB3⟩
  obtain ⟨AL, cL, rfl, hcL, hds⟩ := hown.ds (dg_dsP l)
  have h24 : (dsP l).length ≤ 24 := by rw [dsP_length]; exact Nat.min_le_right _ _
  obtain ⟨L, hL⟩ : ∃ L, L = dsP l := ⟨_, rfl⟩
  rw [← hL] at hds hcL h24 ⊢
  obtain ⟨n, hn⟩ : ∃ n, n = L.length := ⟨_, rfl⟩
  rw [← hn]
  have HB3 := hide (thenB (unhide HB2) hB3)
  have HO3 := hide ((unhide HO2).keep hB3)
  have HDS := hide hds
  have HN : Hid (n = L.length ∧ n ≤ cL ∧ n ≤ 24) := ⟨hn, by omega, by omega⟩
  have HT3 := hide ((unhide HT).keep (unhide HB3))
  clear hown hL hcL hds h24 hB3 HB2 HA HC hn HT HO2
  obtain ⟨T, hTd⟩ : ∃ T, T = treeD L := ⟨_, rfl⟩
  have hgT : Dg T := hTd ▸ dg_treeD _
  obtain ⟨ct, hct⟩ : ∃ cs, cs = (T.map (Value.int .u8)).toArray := ⟨_, rfl⟩
  have hst : ct.size = 32 := by rw [hct]; simpa using hgT.len
  have htr := Tree_any W3 cL AL L (unhide HDS) (by have := unhide HN; omega) (by have := unhide HN; omega) (unhide HT3)
  rw [← (unhide HN).1, ← hTd, show dv T = .agg ct by rw [hct]] at htr
  have HTR1 := hide htr
  have HTR2 : Hid (∀ V, Below W3.heap.size W3 V → Calls Tryd.prog 16 #[.slice AL n cL] V fun x w' => x = .returned (.agg ct) ∧ Below V.heap.size V w') := fun V hV => by
    have := rtree_any V cL AL L ((unhide HDS).keep hV) (by have := unhide HN; omega) (by have := unhide HN; omega)
    rw [← (unhide HN).1, ← hTd, show dv T = .agg ct by rw [hct]] at this
    exact this
  have HGT := hide hgT; have HCT := hide hct
  clear hTd hgT hct htr
  go_upto_region 4 with fail
  refine wp_region_lit ?_
  refine wpList_plain rfl fun Kt hKt => ?_
  go_simp
  refine hKt _ _ ?_
  clear hKt Kt
  refine wpList_plain rfl fun Kt hKt => ?_
  go_simp
  refine (unhide HTR1).mono ?_; rintro x V1 ⟨rfl, hb1⟩
  dsimp only
  refine hKt _ _ ?_
  clear hKt Kt
  have HV1 := hide hb1
  clear hb1
  try simp only [List.getElem_toArray, List.getElem_cons_zero, List.getElem_cons_succ, Act.put, List.setIfInBounds_toArray, List.set_cons_zero, List.set_cons_succ]
  refine wpList_plain rfl fun Kt hKt => ?_
  go_simp
  refine hKt _ _ ?_
  clear hKt Kt
  refine wpList_plain rfl fun Kt hKt => ?_
  go_simp
  refine ((unhide HTR2) V1 (unhide HV1)).mono ?_; rintro x V2 ⟨rfl, hb2⟩
  dsimp only
  refine hKt _ _ ?_
  clear hKt Kt
  have HV2 := hide (thenB (unhide HV1) hb2)
  clear hb2
  try simp only [List.getElem_toArray, List.getElem_cons_zero, List.getElem_cons_succ, Act.put, List.setIfInBounds_toArray, List.set_cons_zero, List.set_cons_succ]
  refine wpList_neq (by kernel_rfl) (.tmp 29) (.tmp 31) _ rfl T T (show Value.agg ct = _ by rw [unhide HCT]) (show Value.agg ct = _ by rw [unhide HCT]) (unhide HGT).len (unhide HGT).len ?_
  rw [show (!decide (T = T)) = false by rw [decide_eq_true rfl]; rfl]
  try simp only [List.getElem_toArray, List.getElem_cons_zero, List.getElem_cons_succ, Act.put, List.setIfInBounds_toArray, List.set_cons_zero, List.set_cons_succ]
  have HB4 := hide (thenB (unhide HB3) (unhide HV2))
  have HO4 := hide ((unhide HO3).keep (unhide HV2))
  have HDS4 := hide ((unhide HDS).keep (unhide HV2))
  have HT4 := hide ((unhide HT3).keep (unhide HV2))
  clear HV1 HV2 HTR1 HTR2 HGT HCT HDS HO3 HB3 HT3
  go_upto_region 6 with fail
  refine wp_region_lit ?_
  refine wpList_plain rfl fun Kt hKt => ?_
  go_simp
  refine hKt _ _ ?_
  clear hKt Kt
  refine wpList_plain rfl fun Kt hKt => ?_
  go_simp
  refine hKt _ _ ?_
  clear hKt Kt
  refine wpList_plain rfl fun Kt hKt => ?_
  go_simp
  refine hKt _ _ ?_
  clear hKt Kt
  obtain ⟨b, hb⟩ : ∃ b, b = bits BinOp.and IntKind.i64 at_ 15 := ⟨_, rfl⟩
  rw [← hb]
  clear hb
  refine wpList_plain rfl fun Kt hKt => ?_
  go_simp
  refine hKt _ _ ?_
  clear hKt Kt
  generalize hX : V2.alloc _ = V0
  have hv0 : Below V2.heap.size V2 V0 := hX ▸ (Below.refl _ _).alloc (Nat.le_refl _) _
  have HB0 := hide (thenB (unhide HB4) hv0)
  have HO0 := hide ((unhide HO4).keep hv0)
  have HDS0 := hide ((unhide HDS4).keep hv0)
  have HT0 := hide ((unhide HT4).keep hv0)
  obtain ⟨TA, hTA⟩ : ∃ T, T = V2.heap.size := ⟨_, rfl⟩
  have HTA : Hid (V0.heap[TA]? = some (.cells #[.int .i64 at_, .int .i64 b] 3 (0, 0))) := by
    show V0.heap[TA]? = _
    rw [← hX, hTA]
    show (V2.heap.push _)[V2.heap.size]? = _
    rw [Array.getElem?_push_size]
  rw [← hTA]
  clear hX hv0 HB4 HO4 HDS4 HT4 hTA
  go_wp2_with fail
  go_loopg [38] 2 (fun g y38 wx => ∃ j : Nat, y38 = .int .i64 (j : Int) ∧ j + g = 2 ∧ Below V0.heap.size V0 wx)
  case atStart => exact ⟨0, rfl, by omega, Below.refl _ _⟩
  case round =>
    obtain ⟨j, rfl, hjg, hbj⟩ := hrel
    have HBJ := hide (thenB (unhide HB0) hbj)
    by_cases hj : j < 2
    · obtain ⟨g2, rfl⟩ : ∃ g, gk = g + 1 := ⟨gk - 1, by omega⟩
      have j1 : (j : Int) < 2 := by omega
      have j0 : (0 : Int) ≤ (j : Int) := Int.natCast_nonneg _
      have wj : IntKind.i64.wrap ((j : Int) + 1) = ((j + 1 : Nat) : Int) := (IntWalk.i64_in _ (by omega)).trans (by omega)
      obtain ⟨i, hci⟩ : ∃ i : Int, wr.cell? ⟨TA, j, none⟩ = some (.int .i64 i) := by
        have hblk : wr.heap[TA]? = some (.cells #[.int .i64 at_, .int .i64 b] 3 (0, 0)) := (hbj.block TA (lt_of_block (unhide HTA))).trans (unhide HTA)
        obtain rfl | rfl : j = 0 ∨ j = 1 := by omega
        · exact ⟨at_, by simp [World.cell?, hblk]⟩
        · exact ⟨b, by simp [World.cell?, hblk]⟩
      have HJ : Hid (j + (g2 + 1) = 2 ∧ j < 2) := ⟨hjg, hj⟩
      have HV := hide hbj
      have HDJ := hide ((unhide HDS0).keep hbj)
      have HTJ := hide ((unhide HT0).keep hbj)
      have HOJ := hide ((unhide HO0).keep hbj)
      clear hbj hjg hj
      have hp1 := Path_all L i AL cL wr (unhide HDJ) (by have := unhide HN; omega) (by have := unhide HN; omega) (unhide HTJ)
      have hp2 : ∀ V, Below wr.heap.size wr V → PathC 18 L i AL cL V := fun V hV => rPath_all L i AL cL V ((unhide HDJ).keep hV) (by have := unhide HN; omega) (by have := unhide HN; omega)
      unfold PathC at hp1 hp2
      rw [← (unhide HN).1] at hp1 hp2
      obtain ⟨E, hE⟩ : ∃ E, E = perr n i := ⟨_, rfl⟩
      obtain ⟨q, hq⟩ : ∃ q, q = pathI L i := ⟨_, rfl⟩
      have hgq : ∀ d ∈ q, Dg d := hq ▸ dg_pathI L i
      have hql : q.length ≤ 24 := by rw [hq]; have := pathI_len L i; have := unhide HN; omega
      rw [← hE, ← hq] at hp1 hp2
      obtain ⟨m, hm⟩ : ∃ m, m = q.length := ⟨_, rfl⟩
      have HP1 := hide hp1
      have HP2 := hide hp2
      have HQ : Hid (m = q.length ∧ m ≤ 24 ∧ ∀ d ∈ q, Dg d) := ⟨hm, by omega, hgq⟩
      clear hp1 hp2 hE hq hgq hql hm
      go_wp2_with fail
      refine (unhide HP1).mono ?_; rintro x V1 ⟨⟨v1, rfl, ho1⟩, hb1⟩
      obtain ⟨A1, c1, rfl, hc1, hds1, _⟩ := own_form ho1 (unhide HQ).2.2
      rw [← (unhide HQ).1] at hc1 ⊢
      have HD1 := hide hds1
      have HC1 := hide hc1
      have HBK1 := hide hb1
      clear hb1 ho1 hds1 hc1 HP1
      go_wp2_with fail
      refine ((unhide HP2) V1 (unhide HBK1)).mono ?_; rintro x V2_ ⟨⟨v2, rfl, ho2⟩, hb2⟩
      obtain ⟨A2, c2, rfl, hc2, hds2, hn2⟩ := own_form ho2 (unhide HQ).2.2
      rw [← (unhide HQ).1] at hc2 ⊢
      have HD2 := hide hds2
      have HC2 : Hid (m ≤ c2 ∧ (A2 = none → c2 = 0)) := ⟨hc2, hn2⟩
      have HBK2 := hide (thenB (unhide HBK1) hb2)
      have HD1' := hide ((unhide HD1).keep hb2)
      clear hb2 ho2 hds2 hc2 hn2 HP2 HD1 HBK1
      go_wp2_with fail
      refine (rsame_any V2_ m q (unhide HQ).1 (by have := unhide HQ; omega) A1 c1 (unhide HC1) (unhide HD1') A2 c2 (unhide HC2).1 (unhide HD2)).mono ?_; rintro x V3 ⟨rfl, hb3⟩
      have HBK3 := hide (thenB (unhide HBK2) hb3)
      have HD3 := hide ((unhide HD2).keep hb3)
      clear hb3 HD1' HD2 HBK2 HC1
      go_upto_region 13 with fail
      refine wp_region_lit ?_
      refine wpList_plain rfl fun Kt hKt => ?_
      go_simp
      refine hKt _ _ ?_
      clear hKt Kt
      refine wpList_plain rfl fun Kt hKt => ?_
      go_simp
      refine hKt _ _ ?_
      clear hKt Kt
      refine wpList_plain rfl fun Kt hKt => ?_
      go_simp
      refine hKt _ _ ?_
      clear hKt Kt
      refine wpList_plain rfl fun Kt hKt => ?_
      go_simp
      refine hKt _ _ ?_
      clear hKt Kt
      generalize hX : V3.alloc _ = U0
      have hu0 : Below V3.heap.size V3 U0 := hX ▸ (Below.refl _ _).alloc (Nat.le_refl _) _
      have HBU := hide (thenB (unhide HBK3) hu0)
      have HDU := hide ((unhide HD3).keep hu0)
      obtain ⟨TB, hTB⟩ : ∃ T, T = V3.heap.size := ⟨_, rfl⟩
      have HTB : Hid (U0.heap[TB]? = some (.cells #[.int .i64 nn, .int .i64 (n : Int)] 3 (0, 0))) := by
        show U0.heap[TB]? = _
        rw [← hX, hTB]
        show (V3.heap.push _)[V3.heap.size]? = _
        rw [Array.getElem?_push_size]
      rw [← hTB]
      have HOU := hide ((unhide HOJ).keep (unhide HBU))
      have HTU := hide ((unhide HTJ).keep (unhide HBU))
      have HVU := hide (thenB (unhide HV) (unhide HBU))
      have HBWU := hide (thenB (unhide HBJ) (unhide HBU))
      clear hX hu0 hTB HBK3 HD3 HOJ HTJ HBJ HV HDJ hci
      go_wp2_with fail
      go_loopg [68] 2 (fun g y68 wx => ∃ k : Nat, y68 = .int .i64 (k : Int) ∧ k + g = 2 ∧ Below U0.heap.size U0 wx)
      case atStart => exact ⟨0, rfl, by omega, Below.refl _ _⟩
      case round =>
        obtain ⟨k, rfl, hkg, hbk⟩ := hrel
        by_cases hk : k < 2
        · obtain ⟨g3, rfl⟩ : ∃ g, gk = g + 1 := ⟨gk - 1, by omega⟩
          have k1 : (k : Int) < 2 := by omega
          have k0 : (0 : Int) ≤ (k : Int) := Int.natCast_nonneg _
          have wk : IntKind.i64.wrap ((k : Int) + 1) = ((k + 1 : Nat) : Int) := (IntWalk.i64_in _ (by omega)).trans (by omega)
          obtain ⟨ms, hcm⟩ : ∃ i : Int, wr.cell? ⟨TB, k, none⟩ = some (.int .i64 i) := by
            have hblk : wr.heap[TB]? = some (.cells #[.int .i64 nn, .int .i64 (n : Int)] 3 (0, 0)) := (hbk.block TB (lt_of_block (unhide HTB))).trans (unhide HTB)
            obtain rfl | rfl : k = 0 ∨ k = 1 := by omega
            · exact ⟨nn, by simp [World.cell?, hblk]⟩
            · exact ⟨(n : Int), by simp [World.cell?, hblk]⟩
          have HK2 : Hid (k + (g3 + 1) = 2 ∧ k < 2) := ⟨hkg, hk⟩
          have HVK := hide hbk
          have HDK := hide ((unhide HDU).keep hbk)
          have HTK := hide ((unhide HTU).keep hbk)
          have HOK := hide ((unhide HOU).keep hbk)
          obtain ⟨h2, hh2⟩ : ∃ h, h = m / 2 := ⟨_, rfl⟩
          have wq : IntKind.i64.wrap ((m : Int) / 2) = (h2 : Int) := (IntWalk.i64_in _ (by have := unhide HQ; omega)).trans (by omega)
          have q0 : (0 : Int) ≤ (h2 : Int) := Int.natCast_nonneg _
          have q1 : (h2 : Int) ≤ (c2 : Int) := by have := (unhide HC2).1; omega
          have q2 : (m : Int) ≤ (c2 : Int) := by have := (unhide HC2).1; omega
          have HH2 : Hid (h2 = m / 2) := hh2
          clear hbk hkg hk hh2
          go_wp2_with fail
          go_cut [84, 85, 86] (fun y84 y85 y86 wx => y85 = .int .i64 3 ∧ y86 = .int .i64 0 ∧ Below wr.heap.size wr wx ∧ ∃ (T3 : Nat) (A3 : Option Addr) (c3 : Nat), y84 = .slice (some ⟨T3, 0, none⟩) 3 3 ∧ m + 1 ≤ c3 ∧ Ds wx A3 (q ++ [d]) ∧ wx.heap[T3]? = some (.cells #[.slice A2 m c2, .slice A3 (m + 1) c3, .slice A2 h2 c2] 26 (0, 0)))
          case first =>
            obtain ⟨W, hW⟩ : ∃ W, W = wr.drewN 1 := ⟨_, rfl⟩
            have HW : Hid (W = wr.drewN 1) := hW
            have HW2 := hide (below_named HW)
            have HDW := hide ((unhide HOK).keep (below_named HW))
            have HQW := hide ((unhide HDK).keep (below_named HW))
            have hSW : Below W.heap.size W W := Below.refl _ _
            clear hW
            refine held (S := Below W.heap.size W) W HW (by kernel_rfl) ?_
            refine wpAnyH_take (i := 0) (v := ?_) rfl (by kernel_rfl) (by kernel_rfl) (by kernel_rfl) (fun _ _ _ h => h) (Or.inl ⟨by kernel_rfl, ?_⟩) (by assumption) ?_
            rotate_left
            · intro Wt hSt
              go_simp
              try with_reducible rfl
            try simp only [List.getElem_toArray, List.getElem_cons_zero, List.getElem_cons_succ, Act.put, List.setIfInBounds_toArray, List.set_cons_zero, List.set_cons_succ]
            refine wpAnyH_take (i := 2) (v := ?_) rfl (by kernel_rfl) (by kernel_rfl) (by kernel_rfl) (fun _ _ _ h => h) (Or.inl ⟨by kernel_rfl, ?_⟩) (by assumption) ?_
            rotate_left
            · intro Wt hSt
              go_simp
              try with_reducible rfl
            try simp only [List.getElem_toArray, List.getElem_cons_zero, List.getElem_cons_succ, Act.put, List.setIfInBounds_toArray, List.set_cons_zero, List.set_cons_succ]
            refine wpAnyH_take (i := 4) (v := .agg cd) rfl (by kernel_rfl) (by kernel_rfl) (by kernel_rfl) (fun _ _ _ h => h) (by rw [unhide HCD]; exact yieldsIf_load_mid (by kernel_rfl) 24 (.tmp 7) rfl w.heap.size 0 rfl (d.map (Value.int .u8)) _ (fun W hS => ((unhide HDW).keep hS).range) Tryd.underlying24 rfl (by rw [List.length_map, (unhide HD).len]; exact info32)) (by assumption) ?_
            try simp only [List.getElem_toArray, List.getElem_cons_zero, List.getElem_cons_succ, Act.put, List.setIfInBounds_toArray, List.set_cons_zero, List.set_cons_succ]
            refine wpAnyH_take (i := 7) (v := ?_) rfl (by kernel_rfl) (by kernel_rfl) (by kernel_rfl) (fun _ _ _ h => h) (Or.inl ⟨by kernel_rfl, ?_⟩) (by assumption) ?_
            rotate_left
            · intro Wt hSt
              go_simp
              try with_reducible rfl
            try simp only [List.getElem_toArray, List.getElem_cons_zero, List.getElem_cons_succ, Act.put, List.setIfInBounds_toArray, List.set_cons_zero, List.set_cons_succ]
            refine wpAnyH_take (i := 8) (v := ?_) rfl (by kernel_rfl) (by kernel_rfl) (by kernel_rfl) (fun _ _ _ h => h) (Or.inl ⟨by kernel_rfl, ?_⟩) (by assumption) ?_
            rotate_left
            · intro Wt hSt
              go_simp
              try with_reducible rfl
            try simp only [List.getElem_toArray, List.getElem_cons_zero, List.getElem_cons_succ, Act.put, List.setIfInBounds_toArray, List.set_cons_zero, List.set_cons_succ]
            refine wpAnyH_take (i := 9) (v := ?_) rfl (by kernel_rfl) (by kernel_rfl) (by kernel_rfl) (fun _ _ _ h => h) (Or.inl ⟨by kernel_rfl, ?_⟩) (by assumption) ?_
            rotate_left
            · intro Wt hSt
              go_simp
              try with_reducible rfl
            try simp only [List.getElem_toArray, List.getElem_cons_zero, List.getElem_cons_succ, Act.put, List.setIfInBounds_toArray, List.set_cons_zero, List.set_cons_succ]
            refine wpAnyH_take (i := 10) (v := ?_) rfl (by kernel_rfl) (by kernel_rfl) (by kernel_rfl) (fun _ _ _ h => h) (Or.inl ⟨by kernel_rfl, ?_⟩) (by assumption) ?_
            rotate_left
            · intro Wt hSt
              go_simp
              try with_reducible rfl
            try simp only [List.getElem_toArray, List.getElem_cons_zero, List.getElem_cons_succ, Act.put, List.setIfInBounds_toArray, List.set_cons_zero, List.set_cons_succ]
            refine wpAnyH_take (i := 11) (v := ?_) rfl (by kernel_rfl) (by kernel_rfl) (by kernel_rfl) (fun _ _ _ h => h) (Or.inl ⟨by kernel_rfl, ?_⟩) (by assumption) ?_
            rotate_left
            · intro Wt hSt
              go_simp
              try with_reducible rfl
            try simp only [List.getElem_toArray, List.getElem_cons_zero, List.getElem_cons_succ, Act.put, List.setIfInBounds_toArray, List.set_cons_zero, List.set_cons_succ]
            refine wpAnyH_take (i := 14) (v := ?_) rfl (by kernel_rfl) (by kernel_rfl) (by kernel_rfl) (fun _ _ _ h => h) (Or.inl ⟨by kernel_rfl, ?_⟩) (by assumption) ?_
            rotate_left
            · intro Wt hSt
              go_simp
              try with_reducible rfl
            try simp only [List.getElem_toArray, List.getElem_cons_zero, List.getElem_cons_succ, Act.put, List.setIfInBounds_toArray, List.set_cons_zero, List.set_cons_succ]
            refine wpAnyH_all (show Region.ready .any _ _ = [1, 5] by kernel_rfl) (by simp) fun x hx => ?_
            rcases (by simpa using hx : x = 1 ∨ x = 5) with rfl | rfl
            · clear hx
              refine wpOp_one 1 _ rfl (by kernel_rfl) fun K hK => ?_
              go_simp
              generalize hX1 : W.alloc _ = Y1
              have hb1 : Below W.heap.size W Y1 := hX1 ▸ (Below.refl _ _).alloc (Nat.le_refl _) _
              have ho1 : OwnD Y1 W.heap.size (.slice (some ⟨W.heap.size, 0, none⟩) 0 0) [] := hX1 ▸ World.ownsRow_lit W #[] 0 hSW.size (Nat.zero_le _) rfl
              have hS1 := thenB hSW hb1
              refine hK _ _ ⟨hS1, ?_⟩
              clear hK K
              try simp only [List.getElem_toArray, List.getElem_cons_zero, List.getElem_cons_succ, Act.put, List.setIfInBounds_toArray, List.set_cons_zero, List.set_cons_succ]
              refine wpAnyH_all (show Region.ready .any _ _ = [3, 5] by kernel_rfl) (by simp) fun x hx => ?_
              rcases (by simpa using hx : x = 3 ∨ x = 5) with rfl | rfl
              · clear hx
                refine wpOp_one 3 _ rfl (by kernel_rfl) fun K hK => ?_
                obtain ⟨v2, Y2, hr2, ho2, hg2, hob2⟩ := append_many ho1 26 A2 c2 ((unhide HQW).keep hS1) (unhide HC2).2 (by have := unhide HQ; simp; omega) hS1.size
                rw [← (unhide HQ).1] at hr2
                have hS2 := grown_below hS1 hg2 (fun k hk => (ho1.lt k hk).1)
                refine wp_append (.tmp 73) (.tmp 74) 26 rfl _ _ v2 Y2 rfl rfl hr2 ?_
                refine hK _ _ ⟨hS2, ?_⟩
                clear hK K
                try simp only [List.getElem_toArray, List.getElem_cons_zero, List.getElem_cons_succ, Act.put, List.setIfInBounds_toArray, List.set_cons_zero, List.set_cons_succ]
                refine wpAnyH_all (show Region.ready .any _ _ = [5] by kernel_rfl) (by simp) fun x hx => ?_
                obtain rfl : x = 5 := by simpa using hx
                clear hx
                refine wpOp_one 5 _ rfl (by kernel_rfl) fun K hK => ?_
                go_simp
                rw [overwritten hsd (by rfl)]
                generalize hX3 : Y2.alloc _ = Y3
                have hb3 : Below Y2.heap.size Y2 Y3 := hX3 ▸ (Below.refl _ _).alloc (Nat.le_refl _) _
                have hE3 : ByAt Y3 Y2.heap.size 24 d := boxed Y2 Y3 d _ (by rw [← hX3, unhide HCD]; rfl)
                have hS3 := thenB hS2 hb3
                have ho3 := ho2.later hb3
                have hne3 : ∀ k, Value.ownBlock _ = some k → k ≠ Y2.heap.size := fun k hk => by have := (ho2.lt k hk).2; omega
                refine hK _ _ ⟨hS3, ?_⟩
                clear hK K
                try simp only [List.getElem_toArray, List.getElem_cons_zero, List.getElem_cons_succ, Act.put, List.setIfInBounds_toArray, List.set_cons_zero, List.set_cons_succ]
                refine wpAnyH_all (show Region.ready .any _ _ = [6] by kernel_rfl) (by simp) fun x hx => ?_
                obtain rfl : x = 6 := by simpa using hx
                clear hx
                refine wpOp_one 6 _ rfl (by kernel_rfl) fun K hK => ?_
                obtain ⟨v4, V4_, hr4, ho4, hg4, hob4⟩ := append_one ho3 26 (Y2.heap.size) 1 d (unhide HD) hE3 (by have := unhide HQ; simp; omega) hS3.size
                have hS4 := grown_below hS3 hg4 (fun k hk => (ho3.lt k hk).1)
                refine wp_append (.tmp 75) (.tmp 77) 26 rfl _ _ v4 V4_ rfl rfl hr4 ?_
                refine hK _ _ ⟨hS4, ?_⟩
                clear hK K
                try simp only [List.getElem_toArray, List.getElem_cons_zero, List.getElem_cons_succ, Act.put, List.setIfInBounds_toArray, List.set_cons_zero, List.set_cons_succ]
                obtain ⟨A3, c3, hvq, hc3, hd3, _⟩ := own_form ho4 (fun x hx => by
                  rcases List.mem_append.1 hx with h | h
                  · exact (unhide HQ).2.2 x (by simpa using h)
                  · rw [List.mem_singleton.1 h]; exact unhide HD)
                rw [show (([] : List (List Int)) ++ q ++ [d]).length = m + 1 by have := unhide HQ; simp; omega] at hvq hc3
                rw [List.nil_append] at hd3
                subst hvq
                refine wpAnyH_chainOf [12, 13] _ _ _ (by kernel_rfl) (by kernel_rfl) ?_
                simp only [List.filterMap_cons, List.filterMap_nil, List.getElem?_toArray, List.getElem?_cons_zero, List.getElem?_cons_succ]
                refine wpChain_step rfl fun K hK => ?_
                go_simp
                generalize hX9 : V4_.alloc _ = V9_
                have hb9 : Below V4_.heap.size V4_ V9_ := hX9 ▸ (Below.refl _ _).alloc (Nat.le_refl _) _
                have hS9 := thenB hS4 hb9
                have hT9 : V9_.heap[V4_.heap.size]? = some (.cells #[.slice A2 m c2, .slice A3 (m + 1) c3, .slice A2 h2 c2] 26 (0, 0)) := by
                  rw [← hX9]
                  show (V4_.heap.push _)[V4_.heap.size]? = _
                  rw [Array.getElem?_push_size]
                refine hK _ _ hS9 ?_
                clear hK K
                refine wpChain_step rfl fun K hK => ?_
                go_simp
                refine hK _ _ hS9 (wpChain_nil ?_)
                clear hK K
                go_wp2_with fail
                go_meet
                exact ⟨rfl, rfl, thenB (unhide HW2) hS9, _, A3, c3, rfl, hc3, hd3.keep hb9, hT9⟩
              · clear hx
                refine wpOp_one 5 _ rfl (by kernel_rfl) fun K hK => ?_
                go_simp
                rw [overwritten hsd (by rfl)]
                generalize hX4 : Y1.alloc _ = Y4
                have hb4 : Below Y1.heap.size Y1 Y4 := hX4 ▸ (Below.refl _ _).alloc (Nat.le_refl _) _
                have hE4 : ByAt Y4 Y1.heap.size 24 d := boxed Y1 Y4 d _ (by rw [← hX4, unhide HCD]; rfl)
                have hS4 := thenB hS1 hb4
                have ho4 := ho1.later hb4
                have hne4 : ∀ k, Value.ownBlock _ = some k → k ≠ Y1.heap.size := fun k hk => by have := (ho1.lt k hk).2; omega
                refine hK _ _ ⟨hS4, ?_⟩
                clear hK K
                try simp only [List.getElem_toArray, List.getElem_cons_zero, List.getElem_cons_succ, Act.put, List.setIfInBounds_toArray, List.set_cons_zero, List.set_cons_succ]
                refine wpAnyH_all (show Region.ready .any _ _ = [3] by kernel_rfl) (by simp) fun x hx => ?_
                obtain rfl : x = 3 := by simpa using hx
                clear hx
                refine wpOp_one 3 _ rfl (by kernel_rfl) fun K hK => ?_
                obtain ⟨v5, Y5, hr5, ho5, hg5, hob5⟩ := append_many ho4 26 A2 c2 ((unhide HQW).keep hS4) (unhide HC2).2 (by have := unhide HQ; simp; omega) hS4.size
                rw [← (unhide HQ).1] at hr5
                have hS5 := grown_below hS4 hg5 (fun k hk => (ho4.lt k hk).1)
                refine wp_append (.tmp 73) (.tmp 74) 26 rfl _ _ v5 Y5 rfl rfl hr5 ?_
                have hE5 := own_kept hE4 hg5 hne4
                refine hK _ _ ⟨hS5, ?_⟩
                clear hK K
                try simp only [List.getElem_toArray, List.getElem_cons_zero, List.getElem_cons_succ, Act.put, List.setIfInBounds_toArray, List.set_cons_zero, List.set_cons_succ]
                refine wpAnyH_all (show Region.ready .any _ _ = [6] by kernel_rfl) (by simp) fun x hx => ?_
                obtain rfl : x = 6 := by simpa using hx
                clear hx
                refine wpOp_one 6 _ rfl (by kernel_rfl) fun K hK => ?_
                obtain ⟨v4, V4_, hr4, ho4, hg4, hob4⟩ := append_one ho5 26 (Y1.heap.size) 1 d (unhide HD) hE5 (by have := unhide HQ; simp; omega) hS5.size
                have hS4 := grown_below hS5 hg4 (fun k hk => (ho5.lt k hk).1)
                refine wp_append (.tmp 75) (.tmp 77) 26 rfl _ _ v4 V4_ rfl rfl hr4 ?_
                refine hK _ _ ⟨hS4, ?_⟩
                clear hK K
                try simp only [List.getElem_toArray, List.getElem_cons_zero, List.getElem_cons_succ, Act.put, List.setIfInBounds_toArray, List.set_cons_zero, List.set_cons_succ]
                obtain ⟨A3, c3, hvq, hc3, hd3, _⟩ := own_form ho4 (fun x hx => by
                  rcases List.mem_append.1 hx with h | h
                  · exact (unhide HQ).2.2 x (by simpa using h)
                  · rw [List.mem_singleton.1 h]; exact unhide HD)
                rw [show (([] : List (List Int)) ++ q ++ [d]).length = m + 1 by have := unhide HQ; simp; omega] at hvq hc3
                rw [List.nil_append] at hd3
                subst hvq
                refine wpAnyH_chainOf [12, 13] _ _ _ (by kernel_rfl) (by kernel_rfl) ?_
                simp only [List.filterMap_cons, List.filterMap_nil, List.getElem?_toArray, List.getElem?_cons_zero, List.getElem?_cons_succ]
                refine wpChain_step rfl fun K hK => ?_
                go_simp
                generalize hX9 : V4_.alloc _ = V9_
                have hb9 : Below V4_.heap.size V4_ V9_ := hX9 ▸ (Below.refl _ _).alloc (Nat.le_refl _) _
                have hS9 := thenB hS4 hb9
                have hT9 : V9_.heap[V4_.heap.size]? = some (.cells #[.slice A2 m c2, .slice A3 (m + 1) c3, .slice A2 h2 c2] 26 (0, 0)) := by
                  rw [← hX9]
                  show (V4_.heap.push _)[V4_.heap.size]? = _
                  rw [Array.getElem?_push_size]
                refine hK _ _ hS9 ?_
                clear hK K
                refine wpChain_step rfl fun K hK => ?_
                go_simp
                refine hK _ _ hS9 (wpChain_nil ?_)
                clear hK K
                go_wp2_with fail
                go_meet
                exact ⟨rfl, rfl, thenB (unhide HW2) hS9, _, A3, c3, rfl, hc3, hd3.keep hb9, hT9⟩
            · clear hx
              refine wpOp_one 5 _ rfl (by kernel_rfl) fun K hK => ?_
              go_simp
              rw [overwritten hsd (by rfl)]
              generalize hX6 : W.alloc _ = Y6
              have hb6 : Below W.heap.size W Y6 := hX6 ▸ (Below.refl _ _).alloc (Nat.le_refl _) _
              have hE6 : ByAt Y6 W.heap.size 24 d := boxed W Y6 d _ (by rw [← hX6, unhide HCD]; rfl)
              have hS6 := thenB hSW hb6
              refine hK _ _ ⟨hS6, ?_⟩
              clear hK K
              try simp only [List.getElem_toArray, List.getElem_cons_zero, List.getElem_cons_succ, Act.put, List.setIfInBounds_toArray, List.set_cons_zero, List.set_cons_succ]
              refine wpAnyH_all (show Region.ready .any _ _ = [1] by kernel_rfl) (by simp) fun x hx => ?_
              obtain rfl : x = 1 := by simpa using hx
              clear hx
              refine wpOp_one 1 _ rfl (by kernel_rfl) fun K hK => ?_
              go_simp
              generalize hX7 : Y6.alloc _ = Y7
              have hb7 : Below Y6.heap.size Y6 Y7 := hX7 ▸ (Below.refl _ _).alloc (Nat.le_refl _) _
              have ho7 : OwnD Y7 W.heap.size (.slice (some ⟨Y6.heap.size, 0, none⟩) 0 0) [] := hX7 ▸ World.ownsRow_lit Y6 #[] 0 hS6.size (Nat.zero_le _) rfl
              have hS7 := thenB hS6 hb7
              have hE7 := hE6.keep hb7
              have hne7 : ∀ k, (Value.slice (some ⟨Y6.heap.size, 0, none⟩) 0 0).ownBlock = some k → k ≠ W.heap.size := fun k hk => by have hk' : some Y6.heap.size = some k := hk; injection hk' with hk'; have := lt_of_block hE6; omega
              refine hK _ _ ⟨hS7, ?_⟩
              clear hK K
              try simp only [List.getElem_toArray, List.getElem_cons_zero, List.getElem_cons_succ, Act.put, List.setIfInBounds_toArray, List.set_cons_zero, List.set_cons_succ]
              refine wpAnyH_all (show Region.ready .any _ _ = [3] by kernel_rfl) (by simp) fun x hx => ?_
              obtain rfl : x = 3 := by simpa using hx
              clear hx
              refine wpOp_one 3 _ rfl (by kernel_rfl) fun K hK => ?_
              obtain ⟨v8, Y8, hr8, ho8, hg8, hob8⟩ := append_many ho7 26 A2 c2 ((unhide HQW).keep hS7) (unhide HC2).2 (by have := unhide HQ; simp; omega) hS7.size
              rw [← (unhide HQ).1] at hr8
              have hS8 := grown_below hS7 hg8 (fun k hk => (ho7.lt k hk).1)
              refine wp_append (.tmp 73) (.tmp 74) 26 rfl _ _ v8 Y8 rfl rfl hr8 ?_
              have hE8 := own_kept hE7 hg8 hne7
              refine hK _ _ ⟨hS8, ?_⟩
              clear hK K
              try simp only [List.getElem_toArray, List.getElem_cons_zero, List.getElem_cons_succ, Act.put, List.setIfInBounds_toArray, List.set_cons_zero, List.set_cons_succ]
              refine wpAnyH_all (show Region.ready .any _ _ = [6] by kernel_rfl) (by simp) fun x hx => ?_
              obtain rfl : x = 6 := by simpa using hx
              clear hx
              refine wpOp_one 6 _ rfl (by kernel_rfl) fun K hK => ?_
              obtain ⟨v4, V4_, hr4, ho4, hg4, hob4⟩ := append_one ho8 26 (W.heap.size) 1 d (unhide HD) hE8 (by have := unhide HQ; simp; omega) hS8.size
              have hS4 := grown_below hS8 hg4 (fun k hk => (ho8.lt k hk).1)
              refine wp_append (.tmp 75) (.tmp 77) 26 rfl _ _ v4 V4_ rfl rfl hr4 ?_
              refine hK _ _ ⟨hS4, ?_⟩
              clear hK K
              try simp only [List.getElem_toArray, List.getElem_cons_zero, List.getElem_cons_succ, Act.put, List.setIfInBounds_toArray, List.set_cons_zero, List.set_cons_succ]
              obtain ⟨A3, c3, hvq, hc3, hd3, _⟩ := own_form ho4 (fun x hx => by
                rcases List.mem_append.1 hx with h | h
                · exact (unhide HQ).2.2 x (by simpa using h)
                · rw [List.mem_singleton.1 h]; exact unhide HD)
              rw [show (([] : List (List Int)) ++ q ++ [d]).length = m + 1 by have := unhide HQ; simp; omega] at hvq hc3
              rw [List.nil_append] at hd3
              subst hvq
              refine wpAnyH_chainOf [12, 13] _ _ _ (by kernel_rfl) (by kernel_rfl) ?_
              simp only [List.filterMap_cons, List.filterMap_nil, List.getElem?_toArray, List.getElem?_cons_zero, List.getElem?_cons_succ]
              refine wpChain_step rfl fun K hK => ?_
              go_simp
              generalize hX9 : V4_.alloc _ = V9_
              have hb9 : Below V4_.heap.size V4_ V9_ := hX9 ▸ (Below.refl _ _).alloc (Nat.le_refl _) _
              have hS9 := thenB hS4 hb9
              have hT9 : V9_.heap[V4_.heap.size]? = some (.cells #[.slice A2 m c2, .slice A3 (m + 1) c3, .slice A2 h2 c2] 26 (0, 0)) := by
                rw [← hX9]
                show (V4_.heap.push _)[V4_.heap.size]? = _
                rw [Array.getElem?_push_size]
              refine hK _ _ hS9 ?_
              clear hK K
              refine wpChain_step rfl fun K hK => ?_
              go_simp
              refine hK _ _ hS9 (wpChain_nil ?_)
              clear hK K
              go_wp2_with fail
              go_meet
              exact ⟨rfl, rfl, thenB (unhide HW2) hS9, _, A3, c3, rfl, hc3, hd3.keep hb9, hT9⟩
          case rest =>
            obtain ⟨rfl, rfl, hbR, T3, A3, c3, rfl, hc3, hd3, hT3⟩ := hcut
            have HBC := hide (thenB (unhide HVK) hbR)
            have HOC := hide ((unhide HOK).keep hbR)
            have HQC := hide ((unhide HDK).keep hbR)
            have HTC := hide ((unhide HTK).keep hbR)
            have HD3 := hide hd3
            have HC3 := hide hc3
            have HT3 := hide hT3
            clear hbR hc3 hd3 hT3 HOK HDK HTK
            go_wp2_with fail
            go_loopg [86] 3 (fun g y86 wx => ∃ t : Nat, y86 = .int .i64 (t : Int) ∧ t + g = 3 ∧ Below wc.heap.size wc wx)
            case atStart => exact ⟨0, rfl, by omega, Below.refl _ _⟩
            case round =>
              obtain ⟨t, rfl, htg, hbt⟩ := hrel
              by_cases ht : t < 3
              · obtain ⟨g4, rfl⟩ : ∃ g, gk = g + 1 := ⟨gk - 1, by omega⟩
                have t1 : (t : Int) < 3 := by omega
                have t0 : (0 : Int) ≤ (t : Int) := Int.natCast_nonneg _
                have wt : IntKind.i64.wrap ((t : Int) + 1) = ((t + 1 : Nat) : Int) := (IntWalk.i64_in _ (by omega)).trans (by omega)
                obtain ⟨Ap, mp, cp, p, hcp, hdp, hlp, hcc⟩ : ∃ (Ap : Option Addr) (mp cp : Nat) (p : List (List Int)), wr.cell? ⟨T3, t, none⟩ = some (.slice Ap mp cp) ∧ Ds wr Ap p ∧ mp = p.length ∧ mp ≤ cp := by
                  have hblk : wr.heap[T3]? = some (.cells #[.slice A2 m c2, .slice A3 (m + 1) c3, .slice A2 h2 c2] 26 (0, 0)) := (hbt.block T3 (lt_of_block (unhide HT3))).trans (unhide HT3)
                  obtain rfl | rfl | rfl : t = 0 ∨ t = 1 ∨ t = 2 := by omega
                  · exact ⟨A2, m, c2, q, by simp [World.cell?, hblk], (unhide HQC).keep hbt, (unhide HQ).1, (unhide HC2).1⟩
                  · exact ⟨A3, m + 1, c3, q ++ [d], by simp [World.cell?, hblk], (unhide HD3).keep hbt, by have := (unhide HQ).1; simp; omega, unhide HC3⟩
                  · exact ⟨A2, h2, c2, q.take h2, by simp [World.cell?, hblk], ((unhide HQC).keep hbt).take h2, by have := (unhide HQ).1; have := unhide HH2; simp; omega, by have := (unhide HC2).1; have := unhide HH2; omega⟩
                have HTT : Hid (t + (g4 + 1) = 3) := htg
                have HVT := hide hbt
                have HOT := hide ((unhide HOC).keep hbt)
                have hcl1 : ∀ V, Below wr.heap.size wr V → ClimbC 20 d i ms p Ap cp V := fun V hV => Climb_all d (unhide HD) i ms p Ap cp V (hdp.keep hV) (by omega) (((unhide HTC).keep hbt).keep hV)
                have hcl2 : ∀ V, Below wr.heap.size wr V → ClimbC 21 d i ms p Ap cp V := fun V hV => rClimb_all d (unhide HD) i ms p Ap cp V (hdp.keep hV) (by omega)
                unfold ClimbC at hcl1 hcl2
                obtain ⟨X, hX⟩ : ∃ X, X = climbI d i ms p := ⟨_, rfl⟩
                obtain ⟨F, hF⟩ : ∃ F, F = cerr i ms p.length := ⟨_, rfl⟩
                have hlx : X.length = 32 := by rw [hX]; exact climbI_len _ _ _ _
                obtain ⟨cx, hcx⟩ : ∃ cs, cs = (X.map (Value.int .u8)).toArray := ⟨_, rfl⟩
                have hsx : cx.size = 32 := by rw [hcx]; simpa using hlx
                rw [← hX, ← hF, ← hlp, show dv d = .agg cd by rw [unhide HCD], show dv X = .agg cx by rw [hcx]] at hcl1 hcl2
                have HCL1 := hide hcl1; have HCL2 := hide hcl2; have HLX := hide hlx; have HCX := hide hcx
                have HBR : Hid (Below wr.heap.size wr wr) := Below.refl _ _
                clear htg ht hbt hdp hlp hcc hcl1 hcl2 hX hF hlx hcx
                go_upto_region 19 with fail
                refine wp_region_lit ?_
                refine wpList_bload rfl 24 (.tmp 7) rfl w.heap.size rfl _ Tryd.underlying24 rfl 32 info32 _ d (unhide HOT) (unhide HD).len ?_
                rw [show dv d = .agg cd by rw [unhide HCD]]
                go_wp2_with fail
                refine ((unhide HCL1) wr (unhide HBR)).mono ?_; rintro x P1 ⟨rfl, hba⟩
                have HP1 := hide (thenB (unhide HBR) hba)
                have HPO1 := hide ((unhide HOT).keep hba)
                clear hba
                dsimp only
                rename_i KK hK
                refine hK _ _ ?_
                clear hK KK
                refine wpList_plain rfl fun Kt hKt => ?_
                go_simp
                refine hKt _ _ ?_
                clear hKt Kt
                refine wpList_plain rfl fun Kt hKt => ?_
                go_simp
                refine hKt _ _ ?_
                clear hKt Kt
                refine wpList_plain rfl fun Kt hKt => ?_
                go_simp
                refine hKt _ _ ?_
                clear hKt Kt
                refine wpList_plain rfl fun Kt hKt => ?_
                go_simp
                refine hKt _ _ ?_
                clear hKt Kt
                generalize hX5 : World.alloc _ _ = Q1
                have hB5 : Below P1.heap.size P1 Q1 := hX5 ▸ (Below.refl _ _).alloc (Nat.le_refl _) _
                have HZ5 := hide (newBy P1 Q1 (by rw [← hX5]; rfl))
                have hb5 := thenB (unhide HP1) hB5
                have hle5 := (unhide HP1).size
                refine wpList_bstore rfl 24 (.tmp 20) (.tmp 96) rfl P1.heap.size rfl X (show Value.agg cx = _ by rw [unhide HCX]) 32 info32 (unhide HLX) _ zeros (unhide HZ5) rfl ?_
                intro S1 HS1 HG5
                have HBS1 := hide (hb5.grown (unhide HG5) hb5.size (fun i e => by injection e with e; omega))
                have HOS1 := hide (((unhide HPO1).keep hB5).grown (unhide HG5) (by have := lt_of_block (unhide HPO1); omega))
                obtain ⟨N1, hN1⟩ : ∃ N, N = P1.heap.size := ⟨_, rfl⟩
                rw [← hN1] at HS1 ⊢
                clear hX5 hB5 HZ5 hb5 hle5 HG5 hN1 HP1 HPO1
                try simp only [List.getElem_toArray, List.getElem_cons_zero, List.getElem_cons_succ, Act.put, List.setIfInBounds_toArray, List.set_cons_zero, List.set_cons_succ]
                go_upto_region 20 with fail
                refine wp_region_lit ?_
                refine wpList_bload rfl 24 (.tmp 7) rfl w.heap.size rfl _ Tryd.underlying24 rfl 32 info32 _ d (unhide HOS1) (unhide HD).len ?_
                rw [show dv d = .agg cd by rw [unhide HCD]]
                go_wp2_with fail
                refine ((unhide HCL2) S1 (unhide HBS1)).mono ?_; rintro x P2 ⟨rfl, hba⟩
                have HP2 := hide (thenB (unhide HBS1) hba)
                have HPO2 := hide ((unhide HOS1).keep hba)
                have HK1a := hide ((unhide HS1).keep hba)
                clear hba
                dsimp only
                rename_i KK hK
                refine hK _ _ ?_
                clear hK KK
                refine wpList_plain rfl fun Kt hKt => ?_
                go_simp
                refine hKt _ _ ?_
                clear hKt Kt
                refine wpList_plain rfl fun Kt hKt => ?_
                go_simp
                refine hKt _ _ ?_
                clear hKt Kt
                refine wpList_plain rfl fun Kt hKt => ?_
                go_simp
                refine hKt _ _ ?_
                clear hKt Kt
                refine wpList_plain rfl fun Kt hKt => ?_
                go_simp
                refine hKt _ _ ?_
                clear hKt Kt
                generalize hX5 : World.alloc _ _ = Q2
                have hB5 : Below P2.heap.size P2 Q2 := hX5 ▸ (Below.refl _ _).alloc (Nat.le_refl _) _
                have HZ5 := hide (newBy P2 Q2 (by rw [← hX5]; rfl))
                have hb5 := thenB (unhide HP2) hB5
                have hle5 := (unhide HP2).size
                refine wpList_bstore rfl 24 (.tmp 22) (.tmp 104) rfl P2.heap.size rfl X (show Value.agg cx = _ by rw [unhide HCX]) 32 info32 (unhide HLX) _ zeros (unhide HZ5) rfl ?_
                intro S2 HS2 HG5
                have HBS2 := hide (hb5.grown (unhide HG5) hb5.size (fun i e => by injection e with e; omega))
                have HOS2 := hide (((unhide HPO2).keep hB5).grown (unhide HG5) (by have := lt_of_block (unhide HPO2); omega))
                have HK1b := hide (((unhide HK1a).keep hB5).grown (unhide HG5) (by have := lt_of_block (unhide HK1a); omega))
                obtain ⟨N2, hN2⟩ : ∃ N, N = P2.heap.size := ⟨_, rfl⟩
                rw [← hN2] at HS2 ⊢
                clear hX5 hB5 HZ5 hb5 hle5 HG5 hN2 HP2 HPO2
                try simp only [List.getElem_toArray, List.getElem_cons_zero, List.getElem_cons_succ, Act.put, List.setIfInBounds_toArray, List.set_cons_zero, List.set_cons_succ]
                go_upto_region 21 with fail
                refine wp_region_lit ?_
                refine wpList_bload rfl 24 (.tmp 20) rfl N1 rfl _ Tryd.underlying24 rfl 32 info32 _ X (unhide HK1b) (unhide HLX) ?_
                try simp only [List.getElem_toArray, List.getElem_cons_zero, List.getElem_cons_succ, Act.put, List.setIfInBounds_toArray, List.set_cons_zero, List.set_cons_succ]
                refine wpList_bload rfl 24 (.tmp 22) rfl N2 rfl _ Tryd.underlying24 rfl 32 info32 _ X (unhide HS2) (unhide HLX) ?_
                try simp only [List.getElem_toArray, List.getElem_cons_zero, List.getElem_cons_succ, Act.put, List.setIfInBounds_toArray, List.set_cons_zero, List.set_cons_succ]
                refine wpList_neq (by kernel_rfl) (.tmp 106) (.tmp 107) _ rfl X X rfl rfl (unhide HLX) (unhide HLX) ?_
                rw [show (!decide (X = X)) = false by rw [decide_eq_true rfl]; rfl, show dv X = .agg cx by rw [unhide HCX]]
                try simp only [List.getElem_toArray, List.getElem_cons_zero, List.getElem_cons_succ, Act.put, List.setIfInBounds_toArray, List.set_cons_zero, List.set_cons_succ]
                refine wpList_plain rfl fun Kt hKt => ?_
                go_simp
                refine hKt _ _ ?_
                clear hKt Kt
                refine wpList_wanted (by kernel_rfl) fun Kt hKt => ?_
                go_simp
                refine hKt _ _ ?_
                clear hKt Kt
                refine wpList_wanted (by kernel_rfl) fun Kt hKt => ?_
                go_simp
                refine hKt _ _ ?_
                clear hKt Kt
                refine wpList_wanted (by kernel_rfl) fun Kt hKt => ?_
                go_simp
                refine hKt _ _ ?_
                clear hKt Kt
                refine wpList_plain rfl fun Kt hKt => ?_
                go_simp
                refine hKt _ _ ?_
                clear hKt Kt
                go_wp2_with fail
                go_roundg g4
                case measure => omega
                case rel => exact ⟨t + 1, rfl, by have := unhide HTT; omega, thenB (unhide HVT) (unhide HBS2)⟩
              · have t1 : ¬ (t : Int) < 3 := by omega
                have HE := hide (thenB (unhide HBC) hbt)
                clear htg ht hbt
                go_wp2_with fail
                go_roundg g3
                case measure => omega
                case rel => exact ⟨k + 1, rfl, by have := unhide HK2; omega, unhide HE⟩
        · have k1 : ¬ (k : Int) < 2 := by omega
          have HE := hide (thenB (unhide HVU) hbk)
          clear hkg hk hbk
          go_wp2_with fail
          go_roundg g2
          case measure => omega
          case rel => exact ⟨j + 1, rfl, by have := unhide HJ; omega, unhide HE⟩
    · have j1 : ¬ (j : Int) < 2 := by omega
      have HE := hide (unhide HBJ)
      clear hbj hjg hj
      go_wp2_with fail
      go_ret
      exact ⟨rfl, unhide HE⟩
end Go.Proofs.YtceppmajbkmbdaaDoor
