/- How a number and a digest are read as arguments (layer 3). The reference's tagged hash: a contract. The reference's tree: half, node, Tree. The reference's tree: Tree. The reference's paths: length and path. The reference's climb of a path. The reference's Climb. The reference's growths: grown, growth and Grow. Path, Climb and Grow with every argument: one contract each, the program's and the reference's. Two lists of digests are compared: the reference's Same of layer 3. The reference's both: the two digests that a growth leads to. The reference's Grew; Grew for every argument, the program's and the reference's. -/
import Derived.Test.YtceppmajbkmbdaaDoorDigEnv
import Derived.Test.YtceppmajbkmbdaaDoorDigRAll
import Derived.Test.YtceppmajbkmbdaaDoorDigTag
import Derived.Test.YtceppmajbkmbdaaDoorDigApp2
import Derived.Test.YtceppmajbkmbdaaDoorDigTop
import Derived.Test.YtceppmajbkmbdaaDoorDigTwo
import Derived.Test.YtceppmajbkmbdaaDoorDigClm
import Derived.Test.YtceppmajbkmbdaaDoorDigGrowP
import Derived.Test.YtceppmajbkmbdaaDoorDigClimbA
import Derived.Test.YtceppmajbkmbdaaDoorDigBad
import Derived.Test.YtceppmajbkmbdaaDoorDigGrow
import Derived.Test.YtceppmajbkmbdaaDoorDigVer
import Derived.Test.YtceppmajbkmbdaaDoorDigGrew
namespace Go.Proofs.YtceppmajbkmbdaaDoor
set_option linter.unusedSimpArgs false
set_option linter.unusedVariables false
set_option maxRecDepth 100000
open Go.ChangeShapes Go.WideShapes Go.ChangeAt Go.RowKit Go.Joins

theorem cellsDig3 : Tryd.prog.cellsOf 24 = 32 := by kernel_rfl
section
variable {H : Type} {enc : TypeId × Value → H} {w : World} {b0 : Nat} {spare : Nat → Bool} {held : Bool} {r : Reach}
theorem intv_of3 {v : Value} {d : DataW H} {p : List MemPlace} {base : Nat} (hv : Value.okWide Tryd.prog w r b0 3 v) (h : DataW.Trod enc Tryd.prog w base spare held 3 v d p) :
    ∃ k : Int, v = .int .i64 k ∧ -9223372036854775808 ≤ k ∧ k ≤ 9223372036854775807 := by
  obtain ⟨k, e, _, _, hw⟩ := open_int Tryd.underlying3 hv h
  simp only [Lit.wf, Bool.and_eq_true, decide_eq_true_eq] at hw
  exact ⟨k, e, hw.1, hw.2⟩
theorem digest_of3 {v : Value} {d : DataW H} {p : List MemPlace} {base : Nat} (hv : Value.okWide Tryd.prog w r b0 24 v) (h : DataW.Trod enc Tryd.prog w base spare held 24 v d p) :
    ∃ l, v = dv l ∧ Dg l := by
  obtain ⟨cs, rfl, hsz⟩ : ∃ cs, v = .agg cs ∧ cs.size = 32 := by
    have hv' := hv
    simp only [Value.okWide, Tryd.underlying24] at hv'
    obtain ⟨cs, h1, h2, _⟩ := hv'
    exact ⟨cs, h1, h2.trans cellsDig3⟩
  obtain ⟨fuel, hf⟩ := h
  obtain ⟨xs, m, _, _, hl, hxl, hel⟩ := DataW.trod_array Tryd.underlying24 hf
  have c1 : Tryd.prog.cellsOf 5 = 1 := by kernel_rfl
  obtain ⟨l, hll, hr⟩ := list_of (len := 32) (R := fun i (u : Int) => cs.toList[i]? = some (.int .u8 u) ∧ Byt u) fun i hi => by
    have hE := hel i hi
    rw [c1, Nat.mul_one, List.getElem?_eq_getElem (by omega)] at hE
    obtain ⟨k, e1, _, hw⟩ := DataW.trod_int Tryd.underlying5 hE
    simp only [Lit.wf, Bool.and_eq_true, decide_eq_true_eq] at hw
    have hk : (0 : Int) ≤ k ∧ k ≤ 255 := ⟨hw.1, hw.2⟩
    have h0 : ((cs.toList.drop i).take 1)[0]? = some (.int .u8 k) := by
      have e2 : (cs.toList.drop i).take 1 = [.int .u8 k] := e1
      rw [e2]; rfl
    refine ⟨k, ?_, hk.1, by omega⟩
    simpa using h0
  refine ⟨l, ?_, ⟨hll, fun x hx => ?_⟩⟩
  · have e : cs.toList = l.map (Value.int .u8) := by
      apply List.ext_getElem?
      intro i
      by_cases hi : i < 32
      · rw [(hr i l[i] (List.getElem?_eq_getElem (by omega))).1, List.getElem?_map, List.getElem?_eq_getElem (by omega)]
        rfl
      · rw [List.getElem?_eq_none (by simpa using (by omega : cs.size ≤ i)), List.getElem?_eq_none (by simp; omega)]
    show Value.agg cs = .agg (l.map (Value.int .u8)).toArray
    rw [← e]
  · obtain ⟨i, hi⟩ := List.getElem?_of_mem hx
    exact (hr i x hi).2
end
end Go.Proofs.YtceppmajbkmbdaaDoor
namespace Go.Proofs.YtceppmajbkmbdaaDoor
set_option linter.unusedSimpArgs false
set_option linter.unusedVariables false
open Go.RowKit

set_option maxRecDepth 100000 in
set_option maxHeartbeats 2000000 in
theorem rtag_any (w : World) (s : ByteArray) (A : Option Addr) (c : Nat) (l : List Int) (hA : Bt w A l) (hc : l.length ≤ c) (hn : A = none → c = 0) (hl : l.length ≤ 800000000) (hs : (sb s).length ≤ 800000000) :
    Calls Tryd.prog 48 #[.string s, .slice A l.length c] w fun x w' => x = .returned (dv (tagF (sb s) l)) ∧ Below w.heap.size w w' := by
  obtain ⟨n, hnl⟩ : ∃ n, n = l.length := ⟨_, rfl⟩
  have HA := hide hA
  have HL : Hid (n = l.length ∧ l.length ≤ 800000000 ∧ l.length ≤ c ∧ (sb s).length ≤ 800000000) := ⟨hnl, hl, hc, hs⟩
  have HNn := hide hn
  rw [← hnl]
  clear hnl hl hA hn hc hs
  go_enter Tryd.func48, Tryd.ntmps48
  go_upto_region 1 with fail
  generalize hX1 : w.alloc _ = W1
  have hB1 : Below w.heap.size w W1 := hX1 ▸ (Below.refl _ _).alloc (Nat.le_refl _) _
  have HR1 := hide (newBy w W1 (by rw [← hX1]; rfl))
  have HB1 := hide hB1
  clear hX1 hB1
  obtain ⟨W2, C, hcv, hB2, hBt, hC⟩ := conv_str W1 s
  have HB2 := hide (thenB (unhide HB1) hB2)
  have HR2 := hide ((unhide HR1).keep hB2)
  have HBt := hide hBt
  have HC2 : Hid ((sb s).length ≤ C) := hC
  clear hB2 hBt hC HR1 HB1
  go_wp2_with fail
  refine (rsum_any W2 _ C (sb s) (unhide HBt) (unhide HC2) (fun h => by cases h) (by have := unhide HL; omega)).mono ?_; rintro x W3 ⟨rfl, hB3⟩
  have HB3 := hide (thenB (unhide HB2) hB3)
  have HR3 := hide ((unhide HR2).keep hB3)
  obtain ⟨D, hD⟩ : ∃ D, D = hashF (sb s) := ⟨_, rfl⟩
  have hgD : Dg D := hD ▸ dg_hash _
  rw [← hD]
  obtain ⟨cd, hcd⟩ : ∃ cs, cs = (D.map (Value.int .u8)).toArray := ⟨_, rfl⟩
  rw [show dv D = .agg cd by rw [hcd]]
  have HD := hide hD
  have HGD := hide hgD
  have HCD := hide hcd
  clear hcv hB3 hD hgD hcd HB2 HBt HC2 HR2
  dsimp only
  rename_i KK hK
  refine hK _ _ ?_
  clear hK KK
  refine wpList_plain rfl fun Kt hKt => ?_
  go_simp
  refine hKt _ _ ?_
  clear hKt Kt
  generalize hX4 : W3.alloc _ = W4
  have hB4 : Below W3.heap.size W3 W4 := hX4 ▸ (Below.refl _ _).alloc (Nat.le_refl _) _
  have HO4 := hide (newBy W3 W4 (by rw [← hX4]; rfl))
  have HB4 := hide (thenB (unhide HB3) hB4)
  have HR4 := hide ((unhide HR3).keep hB4)
  obtain ⟨M, hM⟩ : ∃ M, M = W3.heap.size := ⟨_, rfl⟩
  have HM : Hid (w.heap.size < M) := hM ▸ lt_of_block (unhide HR3)
  rw [← hM] at HO4 ⊢
  clear hX4 hB4 HB3 HR3 hM
  refine wpList_bstore rfl 24 (.tmp 5) (.tmp 8) rfl M rfl D (show Value.agg cd = _ by rw [unhide HCD]) 32 info32 (unhide HGD).len _ zeros (unhide HO4) rfl ?_
  intro W5 HW5 HG5
  have HB5 := hide ((unhide HB4).grown (unhide HG5) (unhide HB4).size (fun i e => by injection e with e; have := unhide HM; omega))
  have HR5 := hide ((unhide HR4).grown (unhide HG5) (by have := unhide HM; omega))
  clear HG5 HO4 HB4 HR4
  try simp only [List.getElem_toArray, List.getElem_cons_zero, List.getElem_cons_succ, Act.put, List.setIfInBounds_toArray, List.set_cons_zero, List.set_cons_succ]
  go_upto_region 2 with fail
  refine wp_region_lit ?_
  refine wpList_plain rfl fun Kt hKt => ?_
  go_simp
  refine hKt _ _ ?_
  clear hKt Kt
  generalize hX : W5.alloc _ = V1
  have hv1 : Below W5.heap.size W5 V1 := hX ▸ (Below.refl _ _).alloc (Nat.le_refl _) _
  have hown1 : OwnB V1 W5.heap.size (.slice (some ⟨W5.heap.size, 0, none⟩) 0 0) [] := hX ▸ World.ownsRow_lit W5 #[] 0 (Nat.le_refl _) (Nat.zero_le _) rfl
  clear hX
  refine wpList_plain rfl fun Kt hKt => ?_
  go_simp
  refine hKt _ _ ?_
  clear hKt Kt
  refine wpList_plain rfl fun Kt hKt => ?_
  obtain ⟨v2, V2, hr2, hown2, hg2⟩ := run_append_B hown1 22 (some ⟨M, 0, none⟩) 32 (((unhide HW5).keep hv1).bt (unhide HGD)) (fun h => by cases h) (by rw [(unhide HGD).len]; simp) hv1.size
  rw [(unhide HGD).len] at hr2
  have hv2 := grown_below hv1 hg2 (fun k hk => (hown1.lt k hk).1)
  refine wp_append (.tmp 9) (.tmp 10) 22 rfl _ _ v2 V2 rfl rfl hr2 ?_
  refine hKt _ _ ?_
  clear hKt Kt hr2 hown1 hg2 hv1
  try simp only [List.getElem_toArray, List.getElem_cons_zero, List.getElem_cons_succ, Act.put, List.setIfInBounds_toArray, List.set_cons_zero, List.set_cons_succ]
  refine wpList_plain rfl fun Kt hKt => ?_
  go_simp
  refine hKt _ _ ?_
  clear hKt Kt
  refine wpList_plain rfl fun Kt hKt => ?_
  obtain ⟨v3, V3, hr3, hown3, hg3⟩ := run_append_B hown2 22 A c (((unhide HA).keep (unhide HB5)).keep hv2) (unhide HNn) (by have h1 := (unhide HGD).len; have h2 := unhide HL; rw [List.nil_append]; omega) hv2.size
  rw [← (unhide HL).1] at hr3
  have hv3 := grown_below hv2 hg3 (fun k hk => (hown2.lt k hk).1)
  refine wp_append (.tmp 11) (.tmp 12) 22 rfl _ _ v3 V3 rfl rfl hr3 ?_
  refine hKt _ _ ?_
  clear hKt Kt hr3 hown2 hg3 hv2
  try simp only [List.getElem_toArray, List.getElem_cons_zero, List.getElem_cons_succ, Act.put, List.setIfInBounds_toArray, List.set_cons_zero, List.set_cons_succ]
  rw [List.nil_append] at hown3
  have hne : D ++ l ≠ [] := by
    intro h
    have h1 := congrArg List.length h
    rw [List.length_append, (unhide HGD).len] at h1
    simp at h1
  obtain ⟨g3, c3, rfl, -, -, -⟩ := hown3.opened hne
  have hbt3 : Bt V3 (some ⟨g3, 0, none⟩) (D ++ l) ∧ (D ++ l).length ≤ c3 := by
    obtain ⟨A4, c4, e, hc4, hbt4⟩ := hown3.bt (fun x hx => by
      rcases List.mem_append.1 hx with h | h
      · exact (unhide HGD).byt x h
      · exact (unhide HA).byt x h)
    injection e with e1 e2 e3
    subst e1 e3
    exact ⟨hbt4, hc4⟩
  have hsm := rsum_any V3 (some ⟨g3, 0, none⟩) c3 (D ++ l) hbt3.1 hbt3.2 (fun h => by cases h) (by have h1 := (unhide HGD).len; have h2 := unhide HL; rw [List.length_append]; omega)
  obtain ⟨T, hT⟩ : ∃ T, T = tagF (sb s) l := ⟨_, rfl⟩
  rw [show hashF (D ++ l) = T by rw [hT, unhide HD]; rfl] at hsm
  have HTT := hide hT
  obtain ⟨nl, hnl⟩ : ∃ nl, nl = (D ++ l).length := ⟨_, rfl⟩
  rw [← hnl] at hsm ⊢
  have hgT : Dg T := hT ▸ dg_hash _
  obtain ⟨ct, hct⟩ : ∃ cs, cs = (T.map (Value.int .u8)).toArray := ⟨_, rfl⟩
  rw [show dv T = .agg ct by rw [hct]] at hsm
  have HCT := hide hct
  have HGT := hide hgT
  have HV3 := hide (thenB (unhide HB5) hv3)
  have HR6 := hide ((unhide HR5).keep hv3)
  clear hct hgT hT hnl hbt3 hown3 hne hv3
  refine wpList_plain rfl fun Kt hKt => ?_
  go_simp
  refine hsm.mono ?_; rintro x V4 ⟨rfl, hb4⟩
  dsimp only
  refine hKt _ _ ?_
  clear hKt Kt hsm
  have HV4 := hide (thenB (unhide HV3) hb4)
  have HR7 := hide ((unhide HR6).keep hb4)
  clear hb4
  try simp only [List.getElem_toArray, List.getElem_cons_zero, List.getElem_cons_succ, Act.put, List.setIfInBounds_toArray, List.set_cons_zero, List.set_cons_succ]
  refine wpList_bstore rfl 24 (.tmp 4) (.tmp 14) rfl w.heap.size rfl T (show Value.agg ct = _ by rw [unhide HCT]) 32 info32 (unhide HGT).len _ zeros (unhide HR7) rfl ?_
  intro V9 HV9 HG9
  have HB9 := hide ((unhide HV4).grown (unhide HG9) (unhide HV4).size (fun i e => by injection e with e; omega))
  go_wp2_with fail
  try simp only [Exit.inBlock, Exit.then]
  exact bret rfl rfl w.heap.size rfl _ _ (unhide HV9) (unhide HGT).len ⟨by rw [unhide HTT], unhide HB9⟩

end Go.Proofs.YtceppmajbkmbdaaDoor
namespace Go.Proofs.YtceppmajbkmbdaaDoor
set_option linter.unusedSimpArgs false
set_option linter.unusedVariables false
open Go.RowKit

theorem half_is {n i K : Nat} (hK : K = 2 ^ i) (h1 : K < n) (h2 : ¬ 2 * K < n) : halfN n = K := by
  have h0 : n - 1 ≠ 0 := by
    have := Nat.pow_pos (n := i) (show 0 < 2 by omega)
    omega
  have h3 : Nat.log2 (n - 1) = i := (Nat.log2_eq_iff h0).2 ⟨by omega, by rw [Nat.pow_succ]; omega⟩
  unfold halfN
  rw [h3, hK]
set_option maxRecDepth 100000 in
set_option maxHeartbeats 2000000 in
theorem rhalf_any (n : Nat) (h2 : 2 ≤ n) (hn : n ≤ 1099511627776) (w : World) :
    Calls Tryd.prog 49 #[.int .i64 (n : Int)] w fun e w' => e = .returned (.int .i64 ((halfN n : Nat) : Int)) ∧ w' = w := by
  have HN : Hid (2 ≤ n ∧ n ≤ 1099511627776) := ⟨h2, hn⟩
  clear h2 hn
  go_enter Tryd.func49, Tryd.ntmps49
  go_wp2_with fail
  go_loopg [3] 41 (fun g y wx => ∃ (i K : Nat), g + i = 41 ∧ y = .int .i64 (K : Int) ∧ K = 2 ^ i ∧ K < n ∧ wx = w)
  case atStart => exact ⟨0, 1, rfl, rfl, rfl, by have := unhide HN; omega, rfl⟩
  case round =>
    obtain ⟨i, K, hg, rfl, hK, hKn, rfl⟩ := hrel
    have k0 : (0 : Int) ≤ (K : Int) := Int.natCast_nonneg _
    have kM : (K : Int) ≤ 1099511627776 := by have := unhide HN; omega
    by_cases hlt : 2 * K < n
    · have hl : 2 * (K : Int) < (n : Int) := by omega
      have h41 : i + 1 < 41 := by
        rcases Nat.lt_or_ge (i + 1) 41 with h | h
        · exact h
        · have h3 := Nat.pow_le_pow_right (n := 2) (by omega) h
          rw [Nat.pow_succ] at h3
          have := unhide HN
          omega
      obtain ⟨g, rfl⟩ : ∃ g, gk = g + 1 := ⟨gk - 1, by omega⟩
      have HKK : Hid (g + 1 + i = 41 ∧ K = 2 ^ i ∧ 2 * K < n) := ⟨hg, hK, hlt⟩
      clear hg hK hKn hlt h41
      go_wp2_with fail
      go_roundg g
      case measure => omega
      case rel => exact ⟨i + 1, 2 * K, by have := (unhide HKK).1; omega, by push_cast; rfl, by rw [Nat.pow_succ, (unhide HKK).2.1]; omega, (unhide HKK).2.2, rfl⟩
    · have hl : ¬ 2 * (K : Int) < (n : Int) := by omega
      have hh := half_is hK hKn hlt
      have HH := hide hh
      clear hg hK hKn hlt hh
      go_wp2_with fail
      go_ret
      exact ⟨by rw [unhide HH]; rfl, rfl⟩

set_option maxRecDepth 100000 in
set_option maxHeartbeats 4000000 in
theorem rnode_any (w : World) (d e : List Int) (hd : Dg d) (he : Dg e) :
    Calls Tryd.prog 50 #[dv d, dv e] w fun x w' => x = .returned (dv (nodeP d e)) ∧ Below w.heap.size w w' := by
  have HD := hide hd
  have hld := hd.len
  obtain ⟨cd, hcd⟩ : ∃ cs, cs = (d.map (Value.int .u8)).toArray := ⟨_, rfl⟩
  have hsd : cd.size = 32 := by rw [hcd]; simpa using hld
  rw [show dv d = .agg cd by rw [hcd]]
  have HE := hide he
  have hle := he.len
  obtain ⟨ce, hce⟩ : ∃ cs, cs = (e.map (Value.int .u8)).toArray := ⟨_, rfl⟩
  have hse : ce.size = 32 := by rw [hce]; simpa using hle
  rw [show dv e = .agg ce by rw [hce]]
  clear hd hld he hle
  go_enter Tryd.func50, Tryd.ntmps50
  go_upto_region 1 with fail
  generalize hX1 : w.alloc _ = W1
  have hB1 : Below w.heap.size w W1 := hX1 ▸ (Below.refl _ _).alloc (Nat.le_refl _) _
  have ho1 : ByAt W1 w.heap.size 24 d := boxed w W1 d _ (by rw [← hX1]; first | rfl | (rw [hcd]; rfl))
  have hz1 : W1.heap.size = w.heap.size + 1 := by rw [← hX1]; show (w.heap.push _).size = _; rw [Array.size_push]
  generalize hX2 : W1.alloc _ = W2
  have hB2 : Below W1.heap.size W1 W2 := hX2 ▸ (Below.refl _ _).alloc (Nat.le_refl _) _
  have ho2 : ByAt W2 W1.heap.size 24 e := boxed W1 W2 e _ (by rw [← hX2]; first | rfl | (rw [hce]; rfl))
  have hz2 : W2.heap.size = w.heap.size + 2 := by rw [← hX2]; show (W1.heap.push _).size = _; rw [Array.size_push]; omega
  generalize hX3 : W2.alloc _ = W3
  have hB3 : Below W2.heap.size W2 W3 := hX3 ▸ (Below.refl _ _).alloc (Nat.le_refl _) _
  have ho3 : ByAt W3 W2.heap.size 24 zeros := newBy W2 W3 (by rw [← hX3]; rfl)
  have hz3 : W3.heap.size = w.heap.size + 3 := by rw [← hX3]; show (W2.heap.push _).size = _; rw [Array.size_push]; omega
  have hB : Below w.heap.size w W3 := (thenB (thenB hB1 hB2) hB3)
  have hk1 := ((ho1.keep hB2).keep hB3)
  have hk2 := (ho2.keep hB3)
  rw [hz1] at hk2
  have hk3 := ho3
  rw [hz2] at hk3
  obtain ⟨W, hW⟩ : ∃ W, W = W3.drewN 1 := ⟨_, rfl⟩
  have HW : Hid (W = W3.drewN 1) := hW
  have HK1 := hide (hk1.keep (below_named HW))
  have HK2 := hide (hk2.keep (below_named HW))
  have HK3 := hide (hk3.keep (below_named HW))
  have HB := hide (thenB hB (below_named HW))
  have HZ : Hid (w.heap.size + 3 ≤ W.heap.size) := by have := (below_named HW).size; show _ ≤ _; omega
  have hS0 : Below W.heap.size W W := Below.refl _ _
  clear hW hB hX1 hB1 ho1 hz1 hk1 hX2 hB2 ho2 hz2 hk2 hX3 hB3 ho3 hz3 hk3 hcd hce
  refine held (S := Below w.heap.size w) W HW (by kernel_rfl) ?_
  have hSW := unhide HB
  refine wpAnyH_take (i := 1) (v := ?_) rfl (by kernel_rfl) (by kernel_rfl) (by kernel_rfl) (fun _ _ _ h => h) (Or.inl ⟨by kernel_rfl, ?_⟩) (by assumption) ?_
  rotate_left
  · intro Wt hSt
    go_simp
    try with_reducible rfl
  try simp only [List.getElem_toArray, List.getElem_cons_zero, List.getElem_cons_succ, Act.put, List.setIfInBounds_toArray, List.set_cons_zero, List.set_cons_succ]
  refine wpAnyH_take (i := 3) (v := ?_) rfl (by kernel_rfl) (by kernel_rfl) (by kernel_rfl) (fun _ _ _ h => h) (Or.inl ⟨by kernel_rfl, ?_⟩) (by assumption) ?_
  rotate_left
  · intro Wt hSt
    go_simp
    try with_reducible rfl
  try simp only [List.getElem_toArray, List.getElem_cons_zero, List.getElem_cons_succ, Act.put, List.setIfInBounds_toArray, List.set_cons_zero, List.set_cons_succ]
  refine wpAnyH_chainOf [0, 2, 4, 5, 6] _ _ _ (by kernel_rfl) (by kernel_rfl) ?_
  simp only [List.filterMap_cons, List.filterMap_nil, List.getElem?_toArray, List.getElem?_cons_zero, List.getElem?_cons_succ]
  refine wpChain_step rfl fun K hK => ?_
  go_simp
  generalize hX : W.alloc _ = V1
  have hv1 : Below W.heap.size W V1 := hX ▸ (Below.refl _ _).alloc (Nat.le_refl _) _
  have hown1 : OwnB V1 W.heap.size (.slice (some ⟨W.heap.size, 0, none⟩) 0 0) [] := hX ▸ World.ownsRow_lit W #[] 0 (Nat.le_refl _) (Nat.zero_le _) rfl
  clear hX
  refine hK _ _ (thenB hSW hv1) ?_
  clear hK K
  refine wpChain_step rfl fun K hK => ?_
  obtain ⟨v2, V2, hr2, hown2, hg2⟩ := run_append_B hown1 22 (some ⟨w.heap.size, 0, none⟩) 32 (((unhide HK1).keep hv1).bt (unhide HD)) (fun h => by cases h) (by rw [(unhide HD).len]; simp) hv1.size
  rw [(unhide HD).len] at hr2
  have hv2 := grown_below hv1 hg2 (fun k hk => (hown1.lt k hk).1)
  refine wp_append (.tmp 5) (.tmp 6) 22 rfl _ _ v2 V2 rfl rfl hr2 ?_
  refine hK _ _ (thenB hSW hv2) ?_
  clear hK K hr2 hown1 hg2 hv1
  refine wpChain_step rfl fun K hK => ?_
  obtain ⟨v3, V3, hr3, hown3, hg3⟩ := run_append_B hown2 22 (some ⟨w.heap.size + 1, 0, none⟩) 32 (((unhide HK2).keep hv2).bt (unhide HE)) (fun h => by cases h) (by rw [List.nil_append, (unhide HD).len, (unhide HE).len]; omega) hv2.size
  rw [(unhide HE).len] at hr3
  have hv3 := grown_below hv2 hg3 (fun k hk => (hown2.lt k hk).1)
  refine wp_append (.tmp 7) (.tmp 8) 22 rfl _ _ v3 V3 rfl rfl hr3 ?_
  refine hK _ _ (thenB hSW hv3) ?_
  clear hK K hr3 hown2 hg3 hv2
  rw [List.nil_append] at hown3
  have hlen : (d ++ e).length = 64 := by rw [List.length_append, (unhide HD).len, (unhide HE).len]
  have hne : d ++ e ≠ [] := by
    intro h
    rw [h] at hlen
    simp at hlen
  obtain ⟨g3, c3, rfl, -, -, -⟩ := hown3.opened hne
  have hbt3 : Bt V3 (some ⟨g3, 0, none⟩) (d ++ e) ∧ (d ++ e).length ≤ c3 := by
    obtain ⟨A4, c4, e', hc4, hbt4⟩ := hown3.bt (fun x hx => by
      rcases List.mem_append.1 hx with h | h
      · exact (unhide HD).byt x h
      · exact (unhide HE).byt x h)
    injection e' with e1 e2 e3
    subst e1 e3
    exact ⟨hbt4, hc4⟩
  have hsm := rtag_any V3 ⟨#[110, 111, 100, 101]⟩ (some ⟨g3, 0, none⟩) c3 (d ++ e) hbt3.1 hbt3.2 (fun h => by cases h) (by rw [hlen]; omega) (by decide)
  rw [show sb ⟨#[110, 111, 100, 101]⟩ = [110, 111, 100, 101] by decide] at hsm
  obtain ⟨T, hT⟩ : ∃ T, T = nodeP d e := ⟨_, rfl⟩
  rw [show tagF [110, 111, 100, 101] (d ++ e) = T from hT ▸ rfl] at hsm
  have HTT := hide hT
  have hgT : Dg T := hT ▸ dg_hash _
  obtain ⟨nl, hnl⟩ : ∃ nl, nl = (d ++ e).length := ⟨_, rfl⟩
  rw [← hnl] at hsm ⊢
  obtain ⟨ct, hct⟩ : ∃ cs, cs = (T.map (Value.int .u8)).toArray := ⟨_, rfl⟩
  rw [show dv T = .agg ct by rw [hct]] at hsm
  have HCT := hide hct
  have HGT := hide hgT
  have hSV := thenB hSW hv3
  have hO3 := (unhide HK3).keep hv3
  clear hct hgT hT hnl hbt3 hown3 hne hv3 hlen
  refine wpChain_step rfl fun K hK => ?_
  go_simp
  refine hsm.mono ?_; rintro x V4 ⟨rfl, hb4⟩
  have hS4 := thenB hSV hb4
  have hO4 := hO3.keep hb4
  dsimp only
  refine hK _ _ hS4 ?_
  clear hK K hsm
  refine wpChain_bstore rfl 24 (.tmp 4) (.tmp 10) rfl (w.heap.size + 2) rfl T (show Value.agg ct = _ by rw [unhide HCT]) 32 info32 (unhide HGT).len _ zeros hO4 rfl ?_
  intro W9 HW9 HG
  have hS9 : Below w.heap.size w W9 := hS4.grown (unhide HG) hS4.size (fun i e => by injection e with e; omega)
  refine ⟨hS9, wpChain_nil ?_⟩
  have HS9 := hide hS9
  clear hO4 hO3 hS4 hSV hSW hS9 hb4
  go_wp2_with fail
  try simp only [Exit.inBlock, Exit.then]
  exact bret rfl rfl (w.heap.size + 2) rfl _ _ (unhide HW9) (unhide HGT).len ⟨by rw [unhide HTT], unhide HS9⟩
end Go.Proofs.YtceppmajbkmbdaaDoor
namespace Go.Proofs.YtceppmajbkmbdaaDoor
set_option linter.unusedSimpArgs false
set_option linter.unusedVariables false
open Go.RowKit

theorem treeD_ne {l : List (List Int)} (h : l ≠ []) : treeD l = treeP l := if_neg h
theorem bt_of_range {w : World} {b o : Nat} {d : List Int} (hd : Dg d) (h : w.rangeAt b o (d.map (Value.int .u8))) : Bt w (some ⟨b, o, none⟩) d :=
  ⟨hd.byt, fun _ => ⟨b, o, rfl, fun i hi => h i _ (by rw [List.getElem?_map, List.getD_eq_getElem?_getD, List.getElem?_eq_getElem hi]; rfl)⟩⟩
set_option maxRecDepth 100000 in
set_option maxHeartbeats 4000000 in
theorem rtree_step (n : Nat) (IH : ∀ (l : List (List Int)), l.length < n → ∀ (w : World) (c : Nat) (A : Option Addr), Ds w A l → l.length ≤ c →
      Calls Tryd.prog 16 #[.slice A l.length c] w fun x w' => x = .returned (dv (treeD l)) ∧ Below w.heap.size w w')
    (l : List (List Int)) (hn : l.length = n) (h1000 : n ≤ 1099511627776) (w : World) (c : Nat) (A : Option Addr) (hA : Ds w A l) (hc : l.length ≤ c) :
    Calls Tryd.prog 16 #[.slice A n c] w fun x w' => x = .returned (dv (treeD l)) ∧ Below w.heap.size w w' := by
  by_cases hz : n = 0
  · subst hz
    obtain rfl := List.length_eq_zero_iff.1 hn
    clear IH hA hc hn
    go_enter Tryd.func16, Tryd.ntmps16
    go_upto_region 1 with fail
    generalize hX1 : w.alloc _ = W1
    have hB1 : Below w.heap.size w W1 := hX1 ▸ (Below.refl _ _).alloc (Nat.le_refl _) _
    have HO1 := hide (newBy w W1 (by rw [← hX1]; rfl))
    have HB1 := hide hB1
    clear hX1 hB1
    go_wp2_with fail
    refine (rtag_any W1 ⟨#[101, 109, 112, 116, 121]⟩ none 0 [] Bt.nil (Nat.le_refl _) (fun _ => rfl) (by decide) (by decide)).mono ?_; rintro x W2 ⟨rfl, hB2⟩
    rw [sb_empty]
    have HB2 := hide (thenB (unhide HB1) hB2)
    have HO2 := hide ((unhide HO1).keep hB2)
    clear hB2
    dsimp only
    rename_i KK hK
    refine hK _ _ ?_
    clear hK KK
    refine wpList_bstore rfl 24 (.tmp 2) (.tmp 7) rfl w.heap.size rfl emptyP rfl 32 info32 (dg_hash _).len _ zeros (unhide HO2) rfl ?_
    intro W9 HW9 HG
    go_wp2_with fail
    try simp only [Exit.inBlock, Exit.then]
    exact bret rfl rfl w.heap.size rfl _ _ (unhide HW9) (dg_hash _).len ⟨rfl, (unhide HB2).grown (unhide HG) (unhide HB2).size (fun i e => by injection e with e; omega)⟩
  have hne : l ≠ [] := fun e => by rw [e] at hn; exact hz hn.symm
  rw [treeD_ne hne]
  have HI := hide IH
  have HA := hide hA
  have HN := hide hn
  obtain ⟨sb', so, rfl, hrg⟩ := hA.at_ hne
  have HR := hide hrg
  have hcn : (n : Int) ≤ (c : Int) := by omega
  have HC : Hid (n ≤ c ∧ n ≤ 1099511627776) := ⟨by omega, h1000⟩
  by_cases h1 : n = 1
  · obtain ⟨d, rfl⟩ : ∃ d, l = [d] := List.length_eq_one_iff.1 (by omega)
    subst h1
    have hd0 := hA.dg d (by simp)
    have HD := hide hd0
    have hr0 := hrg 0 d rfl
    rw [Nat.zero_mul, Nat.add_zero] at hr0
    have HR0 := hide hr0
    clear IH hA hn hc hrg hd0 h1000 hcn hne hz hr0
    go_enter Tryd.func16, Tryd.ntmps16
    go_upto_region 1 with fail
    generalize hX1 : w.alloc _ = W1
    have hB1 : Below w.heap.size w W1 := hX1 ▸ (Below.refl _ _).alloc (Nat.le_refl _) _
    have HO1 := hide (newBy w W1 (by rw [← hX1]; rfl))
    have HB1 := hide hB1
    clear hX1 hB1
    have hsm := rtag_any W1 ⟨#[108, 101, 97, 102]⟩ (some ⟨sb', so, none⟩) 32 d (bt_of_range (unhide HD) (rangeAt_keep (unhide HR0) (unhide HB1))) (Nat.le_of_eq (unhide HD).len) (fun h => by cases h) (by rw [(unhide HD).len]; omega) (by decide)
    rw [show sb ⟨#[108, 101, 97, 102]⟩ = [108, 101, 97, 102] by decide, show tagF [108, 101, 97, 102] d = leafP d from rfl, (unhide HD).len] at hsm
    have HSM := hide hsm
    clear hsm
    go_wp2_with fail
    refine (unhide HSM).mono ?_; rintro x W2 ⟨rfl, hB2⟩
    have HB2 := hide (thenB (unhide HB1) hB2)
    have HO2 := hide ((unhide HO1).keep hB2)
    clear hB2 HSM
    dsimp only
    rename_i KK hK
    refine hK _ _ ?_
    clear hK KK
    refine wpList_bstore rfl 24 (.tmp 2) (.tmp 14) rfl w.heap.size rfl (leafP d) rfl 32 info32 (dg_hash _).len _ zeros (unhide HO2) rfl ?_
    intro W9 HW9 HG
    go_wp2_with fail
    try simp only [Exit.inBlock, Exit.then]
    rw [treeP_one]
    exact bret rfl rfl w.heap.size rfl _ _ (unhide HW9) (dg_hash _).len ⟨rfl, (unhide HB2).grown (unhide HG) (unhide HB2).size (fun i e => by injection e with e; omega)⟩
  · have h2 : 2 ≤ n := by have := List.length_pos_iff.2 hne; omega
    obtain ⟨k, hk⟩ : ∃ k, k = halfN n := ⟨_, rfl⟩
    have hkn := halfN_lt h2
    have hk0 := halfN_pos n
    rw [← hk] at hkn hk0
    have HK : Hid (k = halfN n ∧ 0 < k ∧ k < n ∧ 2 ≤ n) := ⟨hk, hk0, hkn, h2⟩
    have n0 : ¬ (n : Int) = 0 := by omega
    have n1 : ¬ (n : Int) = 1 := by omega
    have k0 : (0 : Int) ≤ (k : Int) := Int.natCast_nonneg _
    have k1 : (k : Int) ≤ (n : Int) := by omega
    have k2 : (k : Int) ≤ (c : Int) := by omega
    have k3 : ¬ (c = k) := by omega
    clear IH hA hn hc hrg h1000 hne hk hkn hk0 h2 hz
    go_enter Tryd.func16, Tryd.ntmps16
    go_upto_region 1 with fail
    generalize hX1 : w.alloc _ = W1
    have hB1 : Below w.heap.size w W1 := hX1 ▸ (Below.refl _ _).alloc (Nat.le_refl _) _
    have HO1 := hide (newBy w W1 (by rw [← hX1]; rfl))
    have HB1 := hide hB1
    clear hX1 hB1
    go_wp2_with fail
    refine (rhalf_any n (unhide HK).2.2.2 (unhide HC).2 W1).mono ?_; rintro x W2 ⟨rfl, rfl⟩
    rw [← (unhide HK).1]
    obtain ⟨T1, hT1⟩ : ∃ d, d = treeP (l.take k) := ⟨_, rfl⟩
    obtain ⟨T2, hT2⟩ : ∃ d, d = treeP (l.drop k) := ⟨_, rfl⟩
    have hg1 : Dg T1 := hT1 ▸ dg_tree _
    have hg2 : Dg T2 := hT2 ▸ dg_tree _
    obtain ⟨c1, hc1⟩ : ∃ cs, cs = (T1.map (Value.int .u8)).toArray := ⟨_, rfl⟩
    obtain ⟨c2, hc2⟩ : ∃ cs, cs = (T2.map (Value.int .u8)).toArray := ⟨_, rfl⟩
    have hK := unhide HK
    have hlt : (l.take k).length = k := by have := unhide HN; simp; omega
    have hld : (l.drop k).length = n - k := by have := unhide HN; simp; omega
    have HF1 : Hid (∀ W, Below w.heap.size w W → Calls Tryd.prog 16 #[.slice (some ⟨sb', so, none⟩) k c] W fun x w' => x = .returned (.agg c1) ∧ Below W.heap.size W w') := fun W hB => by
      have := (unhide HI) (l.take k) (by omega) W c (some ⟨sb', so, none⟩) (((unhide HA).keep hB).take k) (by have := (unhide HC).1; omega)
      rw [hlt, treeD_ne (fun e => by rw [e] at hlt; simp at hlt; omega)] at this
      refine this.mono ?_
      rintro x w' ⟨rfl, h'⟩
      exact ⟨by rw [hc1, hT1], h'⟩
    have HF2 : Hid (∀ W, Below w.heap.size w W → Calls Tryd.prog 16 #[.slice (some ⟨sb', so + k * 32, none⟩) (n - k) (c - k)] W fun x w' => x = .returned (.agg c2) ∧ Below W.heap.size W w') := fun W hB => by
      have := (unhide HI) (l.drop k) (by omega) W (c - k) (some ⟨sb', so + k * 32, none⟩) (((unhide HA).keep hB).drop k) (by have := (unhide HC).1; omega)
      rw [hld, treeD_ne (fun e => by rw [e] at hld; simp at hld; omega)] at this
      refine this.mono ?_
      rintro x w' ⟨rfl, h'⟩
      exact ⟨by rw [hc2, hT2], h'⟩
    have HF3 : Hid (∀ W, Below w.heap.size w W → Calls Tryd.prog 50 #[.agg c1, .agg c2] W fun x w' => x = .returned (dv (treeP l)) ∧ Below W.heap.size W w') := fun W hB => by
      rw [hc1, hc2]
      refine (rnode_any W T1 T2 hg1 hg2).mono ?_
      rintro x w' ⟨rfl, h'⟩
      exact ⟨by rw [treeP_more l (by have := unhide HN; omega), unhide HN, ← hK.1, ← hT1, ← hT2], h'⟩
    obtain ⟨W, hW⟩ : ∃ W, W = W2.drewN 1 := ⟨_, rfl⟩
    have HW : Hid (W = W2.drewN 1) := hW
    have hSW := thenB (unhide HB1) (below_named HW)
    have HOW := hide ((unhide HO1).keep (below_named HW))
    clear hT1 hT2 hg1 hg2 hc1 hc2 hK hlt hld hW
    go_wp2_with fail
    refine held (S := Below w.heap.size w) W HW (by kernel_rfl) ?_
    refine wpAnyH_take (i := 0) (v := ?_) rfl (by kernel_rfl) (by kernel_rfl) (by kernel_rfl) (fun _ _ _ h => h) (Or.inl ⟨by kernel_rfl, ?_⟩) (by assumption) ?_
    rotate_left
    · intro Wt hSt
      go_simp
      try with_reducible rfl
    try simp only [List.getElem_toArray, List.getElem_cons_zero, List.getElem_cons_succ, Act.put, List.setIfInBounds_toArray, List.set_cons_zero, List.set_cons_succ]
    refine wpAnyH_take (i := 1) (v := ?_) rfl (by kernel_rfl) (by kernel_rfl) (by kernel_rfl) (fun _ _ _ h => h) (Or.inl ⟨by kernel_rfl, ?_⟩) (by assumption) ?_
    rotate_left
    · intro Wt hSt
      go_simp
      try with_reducible rfl
    try simp only [List.getElem_toArray, List.getElem_cons_zero, List.getElem_cons_succ, Act.put, List.setIfInBounds_toArray, List.set_cons_zero, List.set_cons_succ]
    refine wpAnyH_take (i := 2) (v := ?_) rfl (by kernel_rfl) (by kernel_rfl) (by kernel_rfl) (fun _ _ _ h => h) (Or.inl ⟨by kernel_rfl, ?_⟩) (by assumption) ?_
    rotate_left
    · intro Wt hSt
      go_simp
      try with_reducible rfl
    try simp only [List.getElem_toArray, List.getElem_cons_zero, List.getElem_cons_succ, Act.put, List.setIfInBounds_toArray, List.set_cons_zero, List.set_cons_succ]
    refine wpAnyH_take (i := 4) (v := ?_) rfl (by kernel_rfl) (by kernel_rfl) (by kernel_rfl) (fun _ _ _ h => h) (Or.inl ⟨by kernel_rfl, ?_⟩) (by assumption) ?_
    rotate_left
    · intro Wt hSt
      go_simp
      try with_reducible rfl
    try simp only [List.getElem_toArray, List.getElem_cons_zero, List.getElem_cons_succ, Act.put, List.setIfInBounds_toArray, List.set_cons_zero, List.set_cons_succ]
    refine wpAnyH_take (i := 5) (v := ?_) rfl (by kernel_rfl) (by kernel_rfl) (by kernel_rfl) (fun _ _ _ h => h) (Or.inl ⟨by kernel_rfl, ?_⟩) (by assumption) ?_
    rotate_left
    · intro Wt hSt
      go_simp
      try with_reducible rfl
    try simp only [List.getElem_toArray, List.getElem_cons_zero, List.getElem_cons_succ, Act.put, List.setIfInBounds_toArray, List.set_cons_zero, List.set_cons_succ]
    refine wpAnyH_take (i := 6) (v := ?_) rfl (by kernel_rfl) (by kernel_rfl) (by kernel_rfl) (fun _ _ _ h => h) (Or.inl ⟨by kernel_rfl, ?_⟩) (by assumption) ?_
    rotate_left
    · intro Wt hSt
      go_simp
      try with_reducible rfl
    try simp only [List.getElem_toArray, List.getElem_cons_zero, List.getElem_cons_succ, Act.put, List.setIfInBounds_toArray, List.set_cons_zero, List.set_cons_succ]
    refine wpAnyH_chainOf [3, 7, 8, 9] _ _ _ (by kernel_rfl) (by kernel_rfl) ?_
    simp only [List.filterMap_cons, List.filterMap_nil, List.getElem?_toArray, List.getElem?_cons_zero, List.getElem?_cons_succ]
    refine wpChain_step rfl fun K hK => ?_
    go_simp
    refine ((unhide HF1) _ hSW).mono ?_; rintro x wA ⟨rfl, hA1⟩
    have hSA := thenB hSW hA1
    dsimp only
    refine hK _ _ hSA ?_
    clear hK K
    refine wpChain_step rfl fun K hK => ?_
    go_simp
    refine ((unhide HF2) _ hSA).mono ?_; rintro x wB ⟨rfl, hA2⟩
    have hSB := thenB hSA hA2
    dsimp only
    refine hK _ _ hSB ?_
    clear hK K
    refine wpChain_step rfl fun K hK => ?_
    go_simp
    refine ((unhide HF3) _ hSB).mono ?_; rintro x wC ⟨rfl, hA3⟩
    have hSC := thenB hSB hA3
    have hO := (((unhide HOW).keep hA1).keep hA2).keep hA3
    dsimp only
    refine hK _ _ hSC ?_
    clear hK K
    refine wpChain_bstore rfl 24 (.tmp 2) (.tmp 26) rfl w.heap.size rfl (treeP l) rfl 32 info32 (dg_tree l).len _ zeros hO rfl ?_
    intro W9 HW9 HG
    have hS9 : Below w.heap.size w W9 := hSC.grown (unhide HG) hSC.size (fun i e => by injection e with e; omega)
    refine ⟨hS9, wpChain_nil ?_⟩
    clear hO hSC hSB hSA hA1 hA2 hA3
    have HS9 := hide hS9
    clear hS9 hSW
    go_wp2_with fail
    try simp only [Exit.inBlock, Exit.then]
    exact bret rfl rfl w.heap.size rfl _ _ (unhide HW9) (dg_tree l).len ⟨rfl, unhide HS9⟩
theorem rtree_all (n : Nat) : ∀ (l : List (List Int)), l.length = n → n ≤ 1099511627776 → ∀ (w : World) (c : Nat) (A : Option Addr), Ds w A l → l.length ≤ c →
      Calls Tryd.prog 16 #[.slice A n c] w fun x w' => x = .returned (dv (treeD l)) ∧ Below w.heap.size w w' := by
  induction n using Nat.strongRecOn with
  | _ n IH =>
    intro l hn h1000 w c A hA hc
    exact rtree_step n (fun l' hl' w' c' A' hA' hc' => IH l'.length hl' l' rfl (by omega) w' c' A' hA' hc') l hn h1000 w c A hA hc
theorem rtree_any (w : World) (c : Nat) (A : Option Addr) (l : List (List Int)) (hA : Ds w A l) (hc : l.length ≤ c) (h1000 : l.length ≤ 1099511627776) :
    Calls Tryd.prog 16 #[.slice A l.length c] w fun x w' => x = .returned (dv (treeD l)) ∧ Below w.heap.size w w' :=
  rtree_all l.length l rfl h1000 w c A hA hc
end Go.Proofs.YtceppmajbkmbdaaDoor
namespace Go.Proofs.YtceppmajbkmbdaaDoor
set_option linter.unusedSimpArgs false
set_option linter.unusedVariables false
open Go.RowKit

set_option maxRecDepth 100000 in
set_option maxHeartbeats 2000000 in
theorem rlen_step (n : Nat) (IH : ∀ n', n' < n → ∀ at_ : Nat, 1 ≤ n' → at_ < n' → ∀ w, Calls Tryd.prog 56 #[.int .i64 (at_ : Int), .int .i64 (n' : Int)] w fun x w' => x = .returned (.int .i64 ((lenP n' at_ : Nat) : Int)) ∧ w' = w)
    (at_ : Nat) (h1 : 1 ≤ n) (hn : n ≤ 1099511627776) (ha : at_ < n) (w : World) :
    Calls Tryd.prog 56 #[.int .i64 (at_ : Int), .int .i64 (n : Int)] w fun x w' => x = .returned (.int .i64 ((lenP n at_ : Nat) : Int)) ∧ w' = w := by
  have HI := hide IH
  by_cases e1 : n = 1
  · subst e1
    rw [lenP_one]
    clear IH h1 hn ha
    go_enter Tryd.func56, Tryd.ntmps56
    go_wp2_with fail
    go_ret
    exact ⟨rfl, rfl⟩
  · have h2 : 2 ≤ n := by omega
    obtain ⟨k, hk⟩ : ∃ k, k = halfN n := ⟨_, rfl⟩
    have hkn := halfN_lt h2
    have hk0 := halfN_pos n
    rw [← hk] at hkn hk0
    have hlt := lenP_lt n at_ h1
    have n1 : ¬ (n : Int) = 1 := by omega
    have HK : Hid (k = halfN n ∧ 0 < k ∧ k < n ∧ 2 ≤ n ∧ n ≤ 1099511627776) := ⟨hk, hk0, hkn, h2, hn⟩
    by_cases hak : at_ < k
    · have i1 : (at_ : Int) < (k : Int) := by omega
      obtain ⟨L, hL⟩ : ∃ L, L = lenP k at_ := ⟨_, rfl⟩
      have e : lenP n at_ = 1 + L := by rw [hL, hk]; exact lenP_left h2 (hk ▸ hak)
      rw [e] at hlt ⊢
      have wl : IntKind.i64.wrap (1 + (L : Int)) = ((1 + L : Nat) : Int) := (IntWalk.i64_in _ (by omega)).trans (by omega)
      have HL : Hid (L = lenP k at_ ∧ at_ < k) := ⟨hL, hak⟩
      clear IH h1 hn ha e1 h2 hk hkn hk0 hlt hak hL e
      go_enter Tryd.func56, Tryd.ntmps56
      go_wp2_with fail
      refine (rhalf_any n (unhide HK).2.2.2.1 (unhide HK).2.2.2.2 w).mono ?_; rintro x W2 ⟨rfl, rfl⟩
      rw [← (unhide HK).1]
      go_wp2_with fail
      refine ((unhide HI) k (unhide HK).2.2.1 at_ (unhide HK).2.1 (unhide HL).2 W2).mono ?_; rintro x W3 ⟨rfl, rfl⟩
      rw [← (unhide HL).1]
      go_wp2_with fail
      go_ret
      exact ⟨rfl, rfl⟩
    · have i1 : ¬ (at_ : Int) < (k : Int) := by omega
      obtain ⟨ak, hak2⟩ : ∃ a, a = at_ - k := ⟨_, rfl⟩
      obtain ⟨nk, hnk⟩ : ∃ a, a = n - k := ⟨_, rfl⟩
      obtain ⟨L, hL⟩ : ∃ L, L = lenP nk ak := ⟨_, rfl⟩
      have e : lenP n at_ = 1 + L := by rw [hL, hnk, hak2, hk]; exact lenP_right h2 (hk ▸ hak)
      rw [e] at hlt ⊢
      have wl : IntKind.i64.wrap (1 + (L : Int)) = ((1 + L : Nat) : Int) := (IntWalk.i64_in _ (by omega)).trans (by omega)
      have wa : IntKind.i64.wrap ((at_ : Int) - (k : Int)) = (ak : Int) := (IntWalk.i64_in _ (by omega)).trans (by omega)
      have wn : IntKind.i64.wrap ((n : Int) - (k : Int)) = (nk : Int) := (IntWalk.i64_in _ (by omega)).trans (by omega)
      have HL : Hid (L = lenP nk ak ∧ nk < n ∧ 1 ≤ nk ∧ ak < nk) := ⟨hL, by omega, by omega, by omega⟩
      clear IH h1 hn ha e1 h2 hk hkn hk0 hlt hak hL e hak2 hnk
      go_enter Tryd.func56, Tryd.ntmps56
      go_wp2_with fail
      refine (rhalf_any n (unhide HK).2.2.2.1 (unhide HK).2.2.2.2 w).mono ?_; rintro x W2 ⟨rfl, rfl⟩
      rw [← (unhide HK).1]
      go_wp2_with fail
      refine ((unhide HI) nk (unhide HL).2.1 ak (unhide HL).2.2.1 (unhide HL).2.2.2 W2).mono ?_; rintro x W3 ⟨rfl, rfl⟩
      rw [← (unhide HL).1]
      go_wp2_with fail
      go_ret
      exact ⟨rfl, rfl⟩
theorem rlen_all (n : Nat) : n ≤ 1099511627776 → ∀ at_ : Nat, 1 ≤ n → at_ < n → ∀ w, Calls Tryd.prog 56 #[.int .i64 (at_ : Int), .int .i64 (n : Int)] w fun x w' => x = .returned (.int .i64 ((lenP n at_ : Nat) : Int)) ∧ w' = w := by
  induction n using Nat.strongRecOn with
  | _ n IH =>
    intro hn at_ h1 ha w
    exact rlen_step n (fun n' h' at' h1' ha' w' => IH n' h' (by omega) at' h1' ha' w') at_ h1 hn ha w
theorem rlen_any (n at_ : Nat) (h1 : 1 ≤ n) (hn : n ≤ 1099511627776) (ha : at_ < n) (w : World) : Calls Tryd.prog 56 #[.int .i64 (at_ : Int), .int .i64 (n : Int)] w fun x w' => x = .returned (.int .i64 ((lenP n at_ : Nat) : Int)) ∧ w' = w :=
  rlen_all n hn at_ h1 ha w

abbrev PathIs (w : World) (l : List (List Int)) (n at_ c : Nat) (A : Option Addr) : Prop :=
  Calls Tryd.prog 53 #[.slice A n c, .int .i64 (at_ : Int)] w fun x w' => (∃ v, x = .returned v ∧ OwnD w' w.heap.size v (pathP l at_)) ∧ Below w.heap.size w w'
theorem OwnD.le {w : World} {base base' : Nat} {v : Value} {p : List (List Int)} (h : OwnD w base v p) (hb : base' ≤ base) : OwnD w base' v p := h.down hb
set_option maxRecDepth 100000 in
set_option maxHeartbeats 4000000 in
theorem rpath_step (n : Nat) (IH : ∀ (l : List (List Int)), l.length < n → ∀ (at_ : Nat) (w : World) (c : Nat) (A : Option Addr), at_ < l.length → Ds w A l → l.length ≤ c → PathIs w l l.length at_ c A)
    (l : List (List Int)) (hl : l.length = n) (h8 : n ≤ 100000000) (at_ : Nat) (w : World) (c : Nat) (A : Option Addr) (hat : at_ < n) (hA : Ds w A l) (hc : n ≤ c) : PathIs w l n at_ c A := by
  have HI := hide IH
  obtain ⟨sb', so, rfl, hrg⟩ := hA.at_ (fun e => by rw [e] at hl; simp at hl; omega)
  by_cases e1 : n = 1
  · subst e1
    unfold PathIs
    rw [pathP_one at_ (by omega)]
    clear IH hl h8 hat hA hc hrg
    go_enter Tryd.func53, Tryd.ntmps53
    go_wp2_with fail
    go_ret
    refine ⟨⟨_, rfl, ?_⟩, ?_⟩
    · exact World.ownsRow_lit w #[] 0 (Nat.le_refl _) (Nat.zero_le _) rfl
    · exact (Below.refl _ _).alloc (Nat.le_refl _) _
  · have h2 : 2 ≤ n := by omega
    obtain ⟨k, hk⟩ : ∃ k, k = halfN n := ⟨_, rfl⟩
    have hkn := halfN_lt h2
    have hk0 := halfN_pos n
    rw [← hk] at hkn hk0
    have hpl := (pathP_spec n l at_ hl hat).1
    have hll := lenP_lt n at_ (by omega)
    have n1 : ¬ (n : Int) = 1 := by omega
    have k0 : (0 : Int) ≤ (k : Int) := Int.natCast_nonneg _
    have k1 : (k : Int) ≤ (n : Int) := by omega
    have k2 : (k : Int) ≤ (c : Int) := by omega
    have k3 : ¬ (c = k) := by omega
    have k4 : (n : Int) ≤ (c : Int) := by omega
    have HA := hide hA
    have hlt : (l.take k).length = k := by simp; omega
    have hld : (l.drop k).length = n - k := by simp; omega
    have HLL : Hid ((l.take k).length = k ∧ (l.drop k).length = n - k) := ⟨hlt, hld⟩
    have HK : Hid (k = halfN n ∧ 0 < k ∧ k < n ∧ 2 ≤ n ∧ n ≤ 100000000 ∧ n ≤ c ∧ l.length = n ∧ at_ < n) := ⟨hk, hk0, hkn, h2, h8, hc, hl, hat⟩
    by_cases hak : at_ < k
    · have i1 : (at_ : Int) < (k : Int) := by omega
      have e := pathP_left (l := l) (at_ := at_) (by omega) (by rw [hl, ← hk]; exact hak)
      rw [hl, ← hk] at e
      obtain ⟨q, hq⟩ : ∃ q, q = pathP (l.take k) at_ := ⟨_, rfl⟩
      obtain ⟨T, hTd⟩ : ∃ d, d = treeP (l.drop k) := ⟨_, rfl⟩
      rw [← hq, ← hTd] at e
      have hql : q.length ≤ 100000000 := by rw [e, List.length_append] at hpl; omega
      unfold PathIs
      rw [e]
      have hgT : Dg T := hTd ▸ dg_tree _
      obtain ⟨ct, hct⟩ : ∃ cs, cs = (T.map (Value.int .u8)).toArray := ⟨_, rfl⟩
      have hst : ct.size = 32 := by rw [hct]; simpa using hgT.len
      have HF1 : Hid (∀ W, Below w.heap.size w W → Calls Tryd.prog 53 #[.slice (some ⟨sb', so, none⟩) k c, .int .i64 (at_ : Int)] W fun x w' => (∃ v, x = .returned v ∧ OwnD w' W.heap.size v q) ∧ Below W.heap.size W w') := fun W hB => by
        have := (unhide HI) (l.take k) (by have := unhide HLL; have := unhide HK; omega) at_ W c (some ⟨sb', so, none⟩) (by rw [(unhide HLL).1]; exact hak) (((unhide HA).keep hB).take k) (by have := unhide HLL; have := unhide HK; omega)
        unfold PathIs at this
        rw [(unhide HLL).1, ← hq] at this
        exact this
      have HF2 : Hid (∀ W, Below w.heap.size w W → Calls Tryd.prog 16 #[.slice (some ⟨sb', so + k * 32, none⟩) (n - k) (c - k)] W fun x w' => x = .returned (.agg ct) ∧ Below W.heap.size W w') := fun W hB => by
        have := rtree_any W (c - k) (some ⟨sb', so + k * 32, none⟩) (l.drop k) (((unhide HA).keep hB).drop k) (by have := unhide HLL; have := unhide HK; omega) (by have := unhide HLL; have := unhide HK; omega)
        rw [(unhide HLL).2, treeD_ne (fun e => by have h := (unhide HLL).2; rw [e] at h; simp at h; have := unhide HK; omega)] at this
        refine this.mono ?_
        rintro x w' ⟨rfl, h'⟩
        exact ⟨by rw [hct, hTd], h'⟩
      have HGT := hide hgT
      have HCT := hide hct
      have HQL := hide hql
      clear IH hl h8 hat hA hc hrg e1 h2 hk hkn hk0 hpl hll hlt hld hak e hq hTd hql hgT hct
      go_enter Tryd.func53, Tryd.ntmps53
      go_wp2_with fail
      refine (rhalf_any n (unhide HK).2.2.2.1 (by have := unhide HK; omega) w).mono ?_; rintro x W2 ⟨rfl, rfl⟩
      rw [← (unhide HK).1]
      obtain ⟨W, hW⟩ : ∃ W, W = W2.drewN 1 := ⟨_, rfl⟩
      have HW : Hid (W = W2.drewN 1) := hW
      have hSW := below_named HW
      clear hW
      go_wp2_with fail
      refine held (S := Below W2.heap.size W2) W HW (by kernel_rfl) ?_
      refine wpAnyH_take (i := 0) (v := ?_) rfl (by kernel_rfl) (by kernel_rfl) (by kernel_rfl) (fun _ _ _ h => h) (Or.inl ⟨by kernel_rfl, ?_⟩) (by assumption) ?_
      rotate_left
      · intro Wt hSt
        go_simp
        try with_reducible rfl
      try simp only [List.getElem_toArray, List.getElem_cons_zero, List.getElem_cons_succ, Act.put, List.setIfInBounds_toArray, List.set_cons_zero, List.set_cons_succ]
      refine wpAnyH_take (i := 1) (v := ?_) rfl (by kernel_rfl) (by kernel_rfl) (by kernel_rfl) (fun _ _ _ h => h) (Or.inl ⟨by kernel_rfl, ?_⟩) (by assumption) ?_
      rotate_left
      · intro Wt hSt
        go_simp
        try with_reducible rfl
      try simp only [List.getElem_toArray, List.getElem_cons_zero, List.getElem_cons_succ, Act.put, List.setIfInBounds_toArray, List.set_cons_zero, List.set_cons_succ]
      refine wpAnyH_take (i := 2) (v := ?_) rfl (by kernel_rfl) (by kernel_rfl) (by kernel_rfl) (fun _ _ _ h => h) (Or.inl ⟨by kernel_rfl, ?_⟩) (by assumption) ?_
      rotate_left
      · intro Wt hSt
        go_simp
        try with_reducible rfl
      try simp only [List.getElem_toArray, List.getElem_cons_zero, List.getElem_cons_succ, Act.put, List.setIfInBounds_toArray, List.set_cons_zero, List.set_cons_succ]
      refine wpAnyH_take (i := 3) (v := ?_) rfl (by kernel_rfl) (by kernel_rfl) (by kernel_rfl) (fun _ _ _ h => h) (Or.inl ⟨by kernel_rfl, ?_⟩) (by assumption) ?_
      rotate_left
      · intro Wt hSt
        go_simp
        try with_reducible rfl
      try simp only [List.getElem_toArray, List.getElem_cons_zero, List.getElem_cons_succ, Act.put, List.setIfInBounds_toArray, List.set_cons_zero, List.set_cons_succ]
      refine wpAnyH_take (i := 5) (v := ?_) rfl (by kernel_rfl) (by kernel_rfl) (by kernel_rfl) (fun _ _ _ h => h) (Or.inl ⟨by kernel_rfl, ?_⟩) (by assumption) ?_
      rotate_left
      · intro Wt hSt
        go_simp
        try with_reducible rfl
      try simp only [List.getElem_toArray, List.getElem_cons_zero, List.getElem_cons_succ, Act.put, List.setIfInBounds_toArray, List.set_cons_zero, List.set_cons_succ]
      refine wpAnyH_take (i := 6) (v := ?_) rfl (by kernel_rfl) (by kernel_rfl) (by kernel_rfl) (fun _ _ _ h => h) (Or.inl ⟨by kernel_rfl, ?_⟩) (by assumption) ?_
      rotate_left
      · intro Wt hSt
        go_simp
        try with_reducible rfl
      try simp only [List.getElem_toArray, List.getElem_cons_zero, List.getElem_cons_succ, Act.put, List.setIfInBounds_toArray, List.set_cons_zero, List.set_cons_succ]
      refine wpAnyH_take (i := 7) (v := ?_) rfl (by kernel_rfl) (by kernel_rfl) (by kernel_rfl) (fun _ _ _ h => h) (Or.inl ⟨by kernel_rfl, ?_⟩) (by assumption) ?_
      rotate_left
      · intro Wt hSt
        go_simp
        try with_reducible rfl
      try simp only [List.getElem_toArray, List.getElem_cons_zero, List.getElem_cons_succ, Act.put, List.setIfInBounds_toArray, List.set_cons_zero, List.set_cons_succ]
      refine wpAnyH_chainOf [4, 8, 9, 10, 11] _ _ _ (by kernel_rfl) (by kernel_rfl) ?_
      simp only [List.filterMap_cons, List.filterMap_nil, List.getElem?_toArray, List.getElem?_cons_zero, List.getElem?_cons_succ]
      refine wpChain_step rfl fun K hK => ?_
      go_simp
      refine ((unhide HF1) _ hSW).mono ?_; rintro x wA ⟨⟨v1, rfl, hO1⟩, hA1⟩
      have hSA := thenB hSW hA1
      dsimp only
      refine hK _ _ hSA ?_
      clear hK K
      refine wpChain_step rfl fun K hK => ?_
      go_simp
      refine ((unhide HF2) _ hSA).mono ?_; rintro x wB ⟨rfl, hA2⟩
      have hSB := thenB hSA hA2
      have hO2 := hO1.later hA2
      dsimp only
      refine hK _ _ hSB ?_
      clear hK K
      refine wpChain_step rfl fun K hK => ?_
      go_simp
      rw [overwritten hst (by rfl)]
      generalize hY : wB.alloc _ = Y1
      have hBY : Below wB.heap.size wB Y1 := hY ▸ (Below.refl _ _).alloc (Nat.le_refl _) _
      have hoY : ByAt Y1 wB.heap.size 24 T := boxed wB Y1 T _ (by rw [← hY, unhide HCT]; rfl)
      have hSC := thenB hSB hBY
      have hO3 := hO2.later hBY
      refine hK _ _ hSC ?_
      clear hK K hY
      obtain ⟨v3, V3, hr3, hown3, hg3⟩ := run_append_D hO3 26 wB.heap.size 1 T (unhide HGT) hoY (by have := unhide HQL; omega) (Nat.le_trans hA1.size (Nat.le_trans hA2.size hBY.size))
      have hS3 := grown_below hSC hg3 (fun k hk => Nat.le_trans hSW.size (hO3.lt k hk).1)
      refine wpChain_step rfl fun K hK => ?_
      refine wp_append (.tmp 20) (.tmp 25) 26 rfl _ _ v3 V3 rfl rfl hr3 ?_
      refine hK _ _ hS3 ?_
      clear hK K
      refine wpChain_step rfl fun K hK => ?_
      go_simp
      refine hK _ _ hS3 (wpChain_nil ?_)
      clear hK K
      go_wp2_with fail
      go_ret
      exact ⟨⟨_, rfl, hown3.le hSW.size⟩, hS3⟩
    · have i1 : ¬ (at_ : Int) < (k : Int) := by omega
      have e := pathP_right (l := l) (at_ := at_) (by omega) (by rw [hl, ← hk]; exact hak)
      rw [hl, ← hk] at e
      obtain ⟨ak, hak2⟩ : ∃ a, a = at_ - k := ⟨_, rfl⟩
      have wa : IntKind.i64.wrap ((at_ : Int) - (k : Int)) = (ak : Int) := (IntWalk.i64_in _ (by omega)).trans (by omega)
      obtain ⟨q, hq⟩ : ∃ q, q = pathP (l.drop k) ak := ⟨_, rfl⟩
      obtain ⟨T, hTd⟩ : ∃ d, d = treeP (l.take k) := ⟨_, rfl⟩
      rw [← hak2, ← hq, ← hTd] at e
      have hql : q.length ≤ 100000000 := by rw [e, List.length_append] at hpl; omega
      unfold PathIs
      rw [e]
      have hgT : Dg T := hTd ▸ dg_tree _
      obtain ⟨ct, hct⟩ : ∃ cs, cs = (T.map (Value.int .u8)).toArray := ⟨_, rfl⟩
      have hst : ct.size = 32 := by rw [hct]; simpa using hgT.len
      have HF1 : Hid (∀ W, Below w.heap.size w W → Calls Tryd.prog 53 #[.slice (some ⟨sb', so + k * 32, none⟩) (n - k) (c - k), .int .i64 (ak : Int)] W fun x w' => (∃ v, x = .returned v ∧ OwnD w' W.heap.size v q) ∧ Below W.heap.size W w') := fun W hB => by
        have := (unhide HI) (l.drop k) (by have := unhide HLL; have := unhide HK; omega) ak W (c - k) (some ⟨sb', so + k * 32, none⟩) (by rw [(unhide HLL).2]; have := unhide HK; omega) (((unhide HA).keep hB).drop k) (by have := unhide HLL; have := unhide HK; omega)
        unfold PathIs at this
        rw [(unhide HLL).2, ← hq] at this
        exact this
      have HF2 : Hid (∀ W, Below w.heap.size w W → Calls Tryd.prog 16 #[.slice (some ⟨sb', so, none⟩) k c] W fun x w' => x = .returned (.agg ct) ∧ Below W.heap.size W w') := fun W hB => by
        have := rtree_any W c (some ⟨sb', so, none⟩) (l.take k) (((unhide HA).keep hB).take k) (by have := unhide HLL; have := unhide HK; omega) (by have := unhide HLL; have := unhide HK; omega)
        rw [(unhide HLL).1, treeD_ne (fun e => by have h := (unhide HLL).1; rw [e] at h; simp at h; have := unhide HK; omega)] at this
        refine this.mono ?_
        rintro x w' ⟨rfl, h'⟩
        exact ⟨by rw [hct, hTd], h'⟩
      have HGT := hide hgT
      have HCT := hide hct
      have HQL := hide hql
      clear IH hl h8 hat hA hc hrg e1 h2 hk hkn hk0 hpl hll hlt hld hak e hq hTd hql hgT hct hak2
      go_enter Tryd.func53, Tryd.ntmps53
      go_wp2_with fail
      refine (rhalf_any n (unhide HK).2.2.2.1 (by have := unhide HK; omega) w).mono ?_; rintro x W2 ⟨rfl, rfl⟩
      rw [← (unhide HK).1]
      obtain ⟨W, hW⟩ : ∃ W, W = W2.drewN 1 := ⟨_, rfl⟩
      have HW : Hid (W = W2.drewN 1) := hW
      have hSW := below_named HW
      clear hW
      go_wp2_with fail
      refine held (S := Below W2.heap.size W2) W HW (by kernel_rfl) ?_
      refine wpAnyH_take (i := 0) (v := ?_) rfl (by kernel_rfl) (by kernel_rfl) (by kernel_rfl) (fun _ _ _ h => h) (Or.inl ⟨by kernel_rfl, ?_⟩) (by assumption) ?_
      rotate_left
      · intro Wt hSt
        go_simp
        try with_reducible rfl
      try simp only [List.getElem_toArray, List.getElem_cons_zero, List.getElem_cons_succ, Act.put, List.setIfInBounds_toArray, List.set_cons_zero, List.set_cons_succ]
      refine wpAnyH_take (i := 1) (v := ?_) rfl (by kernel_rfl) (by kernel_rfl) (by kernel_rfl) (fun _ _ _ h => h) (Or.inl ⟨by kernel_rfl, ?_⟩) (by assumption) ?_
      rotate_left
      · intro Wt hSt
        go_simp
        try with_reducible rfl
      try simp only [List.getElem_toArray, List.getElem_cons_zero, List.getElem_cons_succ, Act.put, List.setIfInBounds_toArray, List.set_cons_zero, List.set_cons_succ]
      refine wpAnyH_take (i := 2) (v := ?_) rfl (by kernel_rfl) (by kernel_rfl) (by kernel_rfl) (fun _ _ _ h => h) (Or.inl ⟨by kernel_rfl, ?_⟩) (by assumption) ?_
      rotate_left
      · intro Wt hSt
        go_simp
        try with_reducible rfl
      try simp only [List.getElem_toArray, List.getElem_cons_zero, List.getElem_cons_succ, Act.put, List.setIfInBounds_toArray, List.set_cons_zero, List.set_cons_succ]
      refine wpAnyH_take (i := 3) (v := ?_) rfl (by kernel_rfl) (by kernel_rfl) (by kernel_rfl) (fun _ _ _ h => h) (Or.inl ⟨by kernel_rfl, ?_⟩) (by assumption) ?_
      rotate_left
      · intro Wt hSt
        go_simp
        try with_reducible rfl
      try simp only [List.getElem_toArray, List.getElem_cons_zero, List.getElem_cons_succ, Act.put, List.setIfInBounds_toArray, List.set_cons_zero, List.set_cons_succ]
      refine wpAnyH_take (i := 4) (v := ?_) rfl (by kernel_rfl) (by kernel_rfl) (by kernel_rfl) (fun _ _ _ h => h) (Or.inl ⟨by kernel_rfl, ?_⟩) (by assumption) ?_
      rotate_left
      · intro Wt hSt
        go_simp
        try with_reducible rfl
      try simp only [List.getElem_toArray, List.getElem_cons_zero, List.getElem_cons_succ, Act.put, List.setIfInBounds_toArray, List.set_cons_zero, List.set_cons_succ]
      refine wpAnyH_take (i := 5) (v := ?_) rfl (by kernel_rfl) (by kernel_rfl) (by kernel_rfl) (fun _ _ _ h => h) (Or.inl ⟨by kernel_rfl, ?_⟩) (by assumption) ?_
      rotate_left
      · intro Wt hSt
        go_simp
        try with_reducible rfl
      try simp only [List.getElem_toArray, List.getElem_cons_zero, List.getElem_cons_succ, Act.put, List.setIfInBounds_toArray, List.set_cons_zero, List.set_cons_succ]
      refine wpAnyH_take (i := 7) (v := ?_) rfl (by kernel_rfl) (by kernel_rfl) (by kernel_rfl) (fun _ _ _ h => h) (Or.inl ⟨by kernel_rfl, ?_⟩) (by assumption) ?_
      rotate_left
      · intro Wt hSt
        go_simp
        try with_reducible rfl
      try simp only [List.getElem_toArray, List.getElem_cons_zero, List.getElem_cons_succ, Act.put, List.setIfInBounds_toArray, List.set_cons_zero, List.set_cons_succ]
      refine wpAnyH_take (i := 8) (v := ?_) rfl (by kernel_rfl) (by kernel_rfl) (by kernel_rfl) (fun _ _ _ h => h) (Or.inl ⟨by kernel_rfl, ?_⟩) (by assumption) ?_
      rotate_left
      · intro Wt hSt
        go_simp
        try with_reducible rfl
      try simp only [List.getElem_toArray, List.getElem_cons_zero, List.getElem_cons_succ, Act.put, List.setIfInBounds_toArray, List.set_cons_zero, List.set_cons_succ]
      refine wpAnyH_take (i := 9) (v := ?_) rfl (by kernel_rfl) (by kernel_rfl) (by kernel_rfl) (fun _ _ _ h => h) (Or.inl ⟨by kernel_rfl, ?_⟩) (by assumption) ?_
      rotate_left
      · intro Wt hSt
        go_simp
        try with_reducible rfl
      try simp only [List.getElem_toArray, List.getElem_cons_zero, List.getElem_cons_succ, Act.put, List.setIfInBounds_toArray, List.set_cons_zero, List.set_cons_succ]
      refine wpAnyH_chainOf [6, 10, 11, 12, 13] _ _ _ (by kernel_rfl) (by kernel_rfl) ?_
      simp only [List.filterMap_cons, List.filterMap_nil, List.getElem?_toArray, List.getElem?_cons_zero, List.getElem?_cons_succ]
      refine wpChain_step rfl fun K hK => ?_
      go_simp
      refine ((unhide HF1) _ hSW).mono ?_; rintro x wA ⟨⟨v1, rfl, hO1⟩, hA1⟩
      have hSA := thenB hSW hA1
      dsimp only
      refine hK _ _ hSA ?_
      clear hK K
      refine wpChain_step rfl fun K hK => ?_
      go_simp
      refine ((unhide HF2) _ hSA).mono ?_; rintro x wB ⟨rfl, hA2⟩
      have hSB := thenB hSA hA2
      have hO2 := hO1.later hA2
      dsimp only
      refine hK _ _ hSB ?_
      clear hK K
      refine wpChain_step rfl fun K hK => ?_
      go_simp
      rw [overwritten hst (by rfl)]
      generalize hY : wB.alloc _ = Y1
      have hBY : Below wB.heap.size wB Y1 := hY ▸ (Below.refl _ _).alloc (Nat.le_refl _) _
      have hoY : ByAt Y1 wB.heap.size 24 T := boxed wB Y1 T _ (by rw [← hY, unhide HCT]; rfl)
      have hSC := thenB hSB hBY
      have hO3 := hO2.later hBY
      refine hK _ _ hSC ?_
      clear hK K hY
      obtain ⟨v3, V3, hr3, hown3, hg3⟩ := run_append_D hO3 26 wB.heap.size 1 T (unhide HGT) hoY (by have := unhide HQL; omega) (Nat.le_trans hA1.size (Nat.le_trans hA2.size hBY.size))
      have hS3 := grown_below hSC hg3 (fun k hk => Nat.le_trans hSW.size (hO3.lt k hk).1)
      refine wpChain_step rfl fun K hK => ?_
      refine wp_append (.tmp 33) (.tmp 38) 26 rfl _ _ v3 V3 rfl rfl hr3 ?_
      refine hK _ _ hS3 ?_
      clear hK K
      refine wpChain_step rfl fun K hK => ?_
      go_simp
      refine hK _ _ hS3 (wpChain_nil ?_)
      clear hK K
      go_wp2_with fail
      go_ret
      exact ⟨⟨_, rfl, hown3.le hSW.size⟩, hS3⟩
theorem rpath_all (n : Nat) : n ≤ 100000000 → ∀ (l : List (List Int)), l.length = n → ∀ (at_ : Nat) (w : World) (c : Nat) (A : Option Addr), at_ < n → Ds w A l → n ≤ c → PathIs w l n at_ c A := by
  induction n using Nat.strongRecOn with
  | _ n IH =>
    intro h8 l hl at_ w c A hat hA hc
    exact rpath_step n (fun l' hl' at' w' c' A' hat' hA' hc' => IH l'.length hl' (by omega) l' rfl at' w' c' A' hat' hA' hc') l hl h8 at_ w c A hat hA hc
theorem rpath_any (l : List (List Int)) (h8 : l.length ≤ 100000000) (at_ : Nat) (w : World) (c : Nat) (A : Option Addr) (hat : at_ < l.length) (hA : Ds w A l) (hc : l.length ≤ c) : PathIs w l l.length at_ c A :=
  rpath_all l.length h8 l rfl at_ w c A hat hA hc
set_option maxRecDepth 100000 in
set_option maxHeartbeats 1000000 in
theorem rPath_ok (l : List (List Int)) (h8 : l.length ≤ 100000000) (at_ : Nat) (w : World) (c : Nat) (A : Option Addr) (hat : at_ < l.length) (hA : Ds w A l) (hc : l.length ≤ c) :
    Calls Tryd.prog 18 #[.slice A l.length c, .int .i64 (at_ : Int)] w fun x w' => (∃ v, x = .returned (.tuple #[v, .int .i64 0]) ∧ OwnD w' w.heap.size v (pathP l at_)) ∧ Below w.heap.size w w' := by
  have HF := hide (rpath_any l h8 at_ w c A hat hA hc)
  obtain ⟨n, hn⟩ : ∃ n, n = l.length := ⟨_, rfl⟩
  have i1 : ¬ (at_ : Int) < 0 := by omega
  have i2 : ¬ (n : Int) ≤ (at_ : Int) := by omega
  unfold PathIs at HF
  rw [← hn] at HF ⊢
  clear h8 hat hA hc hn
  go_enter Tryd.func18, Tryd.ntmps18
  go_wp2_with fail
  refine (unhide HF).mono ?_; rintro x W2 ⟨⟨v, rfl, ho⟩, hb⟩
  have HO := hide ho
  have HB := hide hb
  clear ho hb HF
  go_wp2_with fail
  go_ret2
  exact ⟨⟨_, rfl, unhide HO⟩, unhide HB⟩
set_option maxRecDepth 100000 in
set_option maxHeartbeats 1000000 in
theorem rPath_bad (n : Nat) (at_ : Int) (w : World) (c : Nat) (A : Option Addr) (h : at_ < 0 ∨ (n : Int) ≤ at_) :
    Calls Tryd.prog 18 #[.slice A n c, .int .i64 at_] w fun x w' => x = .returned (.tuple #[.slice none 0 0, .int .i64 1]) ∧ w' = w := by
  by_cases i1 : at_ < 0
  · clear h
    go_enter Tryd.func18, Tryd.ntmps18
    go_wp2_with fail
    go_ret2
    exact ⟨rfl, rfl⟩
  · have i2 : (n : Int) ≤ at_ := by omega
    clear h
    go_enter Tryd.func18, Tryd.ntmps18
    go_wp2_with fail
    go_ret2
    exact ⟨rfl, rfl⟩
end Go.Proofs.YtceppmajbkmbdaaDoor
namespace Go.Proofs.YtceppmajbkmbdaaDoor
set_option linter.unusedSimpArgs false
set_option linter.unusedVariables false
open Go.RowKit

abbrev RClimbIs (w : World) (d : List Int) (n at_ m c : Nat) (A : Option Addr) (p : List (List Int)) : Prop :=
  Calls Tryd.prog 57 #[dv d, .int .i64 (at_ : Int), .int .i64 (n : Int), .slice A m c] w fun x w' => x = .returned (dv (climbP d n at_ p)) ∧ Below w.heap.size w w'
/-- worlds behind a box that holds a digest and another one -/
structure SB2 (w : World) (d e : List Int) (W : World) : Prop where
  lo : Below w.heap.size w W
  box : ByAt W w.heap.size 24 d
  lst : ByAt W (w.heap.size + 2) 24 e
theorem SB2.later {w W W' : World} {d e : List Int} (h : SB2 w d e W) (hb : Below W.heap.size W W') : SB2 w d e W' := ⟨thenB h.lo hb, h.box.keep hb, h.lst.keep hb⟩
theorem SB2.grown {w W W' : World} {d e : List Int} (h : SB2 w d e W) (hg : W.grownBy W' (some (w.heap.size + 1))) : SB2 w d e W' :=
  ⟨h.lo.grown hg h.lo.size (fun i e => by injection e with e; omega), h.box.grown hg (by omega), h.lst.grown hg (by omega)⟩
set_option maxRecDepth 100000 in
set_option maxHeartbeats 4000000 in
theorem rclimb_one (n : Nat) (h1n : n = 1) (at_ : Nat) (d : List Int) (p : List (List Int)) (w : World) (m c : Nat) (A : Option Addr) (hn : n ≤ 1099511627776) (h1 : 1 ≤ n) (hat : at_ < n) (hpm : p.length = m) (hm : m = lenP n at_) (hmc : m ≤ c) (hd : Dg d) (hA : Ds w A p) : RClimbIs w d n at_ m c A p := by
  have HD := hide hd
  obtain ⟨cd, hcd⟩ : ∃ cs, cs = (d.map (Value.int .u8)).toArray := ⟨_, rfl⟩
  have hsd : cd.size = 32 := by rw [hcd]; simpa using hd.len
  have HCD := hide hcd
  unfold RClimbIs
  rw [show dv d = .agg cd by rw [hcd]]
  subst h1n
  rw [climbP_one]
  clear hn h1 hat hpm hm hmc hd hA hcd
  go_enter Tryd.func57, Tryd.ntmps57
  go_upto_region 1 with fail
  generalize hX1 : w.alloc _ = W1
  have hB1 : Below w.heap.size w W1 := hX1 ▸ (Below.refl _ _).alloc (Nat.le_refl _) _
  have ho1 : ByAt W1 w.heap.size 24 d := boxed w W1 d _ (by rw [← hX1]; first | rfl | (rw [unhide HCD]; rfl))
  have hz1 : W1.heap.size = w.heap.size + 1 := by rw [← hX1]; show (w.heap.push _).size = _; rw [Array.size_push]
  generalize hX2 : W1.alloc _ = W2
  have hB2 : Below W1.heap.size W1 W2 := hX2 ▸ (Below.refl _ _).alloc (Nat.le_refl _) _
  have ho2 : ByAt W2 W1.heap.size 24 zeros := newBy W1 W2 (by rw [← hX2]; rfl)
  have hz2 : W2.heap.size = w.heap.size + 2 := by rw [← hX2]; show (W1.heap.push _).size = _; rw [Array.size_push, hz1]
  rw [hz1] at ho2
  have HB := hide (thenB hB1 hB2)
  have HO1 := hide (ho1.keep hB2)
  have HO2 := hide ho2
  have HZ2 := hide hz2
  clear hX1 hX2 hB1 hB2 ho1 ho2 hz1 hz2
  have hsm := rtag_any W2 ⟨#[108, 101, 97, 102]⟩ (some ⟨w.heap.size, 0, none⟩) 32 d ((unhide HO1).bt (unhide HD)) (Nat.le_of_eq (unhide HD).len) (fun h => by cases h) (by rw [(unhide HD).len]; omega) (by decide)
  rw [show sb ⟨#[108, 101, 97, 102]⟩ = [108, 101, 97, 102] by decide, show tagF [108, 101, 97, 102] d = leafP d from rfl, (unhide HD).len] at hsm
  have HSM := hide hsm
  clear hsm
  go_wp2_with fail
  refine (unhide HSM).mono ?_; rintro x W3 ⟨rfl, hB3⟩
  have HB3 := hide (thenB (unhide HB) hB3)
  have HO3 := hide ((unhide HO2).keep hB3)
  clear hB3 HSM
  dsimp only
  rename_i KK hK
  refine hK _ _ ?_
  clear hK KK
  refine wpList_bstore rfl 24 (.tmp 8) (.tmp 14) rfl (w.heap.size + 1) rfl (leafP d) rfl 32 info32 (dg_hash _).len _ zeros (unhide HO3) rfl ?_
  intro W9 HW9 HG
  go_wp2_with fail
  try simp only [Exit.inBlock, Exit.then]
  exact bret rfl rfl (w.heap.size + 1) rfl _ _ (unhide HW9) (dg_hash _).len ⟨rfl, (unhide HB3).grown (unhide HG) (unhide HB3).size (fun i e => by injection e with e; omega)⟩
set_option maxRecDepth 100000 in
set_option maxHeartbeats 4000000 in
theorem rclimb_left (n : Nat) (h2 : 2 ≤ n) (IH : ∀ n', n' < n → ∀ (at_ : Nat) (d : List Int) (p : List (List Int)) (w : World) (m c : Nat) (A : Option Addr), 1 ≤ n' → at_ < n' → p.length = m → m = lenP n' at_ → m ≤ c → Dg d → Ds w A p → RClimbIs w d n' at_ m c A p)
    (at_ : Nat) (d : List Int) (p : List (List Int)) (w : World) (m c : Nat) (A : Option Addr) (hn : n ≤ 1099511627776) (h1 : 1 ≤ n) (hat : at_ < n) (hpm : p.length = m) (hm : m = lenP n at_) (hmc : m ≤ c) (hd : Dg d) (hA : Ds w A p) (hak : at_ < halfN n) : RClimbIs w d n at_ m c A p := by
  have HI := hide IH
  have HA := hide hA
  have HD := hide hd
  have HN : Hid (n ≤ 1099511627776 ∧ 1 ≤ n ∧ at_ < n ∧ p.length = m ∧ m = lenP n at_ ∧ m ≤ c) := ⟨hn, h1, hat, hpm, hm, hmc⟩
  obtain ⟨cd, hcd⟩ : ∃ cs, cs = (d.map (Value.int .u8)).toArray := ⟨_, rfl⟩
  have hsd : cd.size = 32 := by rw [hcd]; simpa using hd.len
  have HCD := hide hcd
  unfold RClimbIs
  rw [show dv d = .agg cd by rw [hcd]]
  obtain ⟨k, hk⟩ : ∃ k, k = halfN n := ⟨_, rfl⟩
  have hkn := halfN_lt h2
  have hk0 := halfN_pos n
  rw [← hk] at hkn hk0
  have n1 : ¬ (n : Int) = 1 := by omega
  have hm0 : 0 < m := by
    rw [hm]
    by_cases ha : at_ < halfN n
    · rw [lenP_left h2 ha]; omega
    · rw [lenP_right h2 ha]; omega
  have hpne : p ≠ [] := fun e => by rw [e] at hpm; simp at hpm; omega
  obtain ⟨pb, po, rfl, hrg⟩ := hA.at_ hpne
  have hlg := lastP_get hpne
  have hrl := hrg _ _ hlg
  have hdl : Dg (lastP p) := hA.dg _ (List.mem_of_getElem? hlg)
  obtain ⟨la, hla⟩ : ∃ la, la = m - 1 := ⟨_, rfl⟩
  rw [hpm, ← hla] at hrl
  have HRL := hide hrl
  have HDL := hide hdl
  have hll := lenP_lt n at_ h1
  have wl : IntKind.i64.wrap ((m : Int) - 1) = (la : Int) := (IntWalk.i64_in _ (by omega)).trans (by omega)
  have l0 : (0 : Int) ≤ (la : Int) := Int.natCast_nonneg _
  have l1 : (la : Int) < (m : Int) := by omega
  have l2 : (la : Int) ≤ (m : Int) := by omega
  have l3 : (la : Int) ≤ (c : Int) := by omega
  obtain ⟨cl, hcl⟩ : ∃ cs, cs = ((lastP p).map (Value.int .u8)).toArray := ⟨_, rfl⟩
  have hsl : cl.size = 32 := by rw [hcl]; simpa using hdl.len
  have HCL := hide hcl
  have HK : Hid (k = halfN n ∧ 0 < k ∧ k < n ∧ 2 ≤ n ∧ la = m - 1 ∧ 0 < m) := ⟨hk, hk0, hkn, h2, hla, hm0⟩
  have hil : (initP p).length = la := by unfold initP; simp; omega
  have HIL : Hid ((initP p).length = la) := hil
  have i1 : (at_ : Int) < (k : Int) := by omega
  obtain ⟨T1, hT1⟩ : ∃ T, T = climbP d k at_ (initP p) := ⟨_, rfl⟩
  have hlen : la = lenP k at_ := by rw [hla, hm, hk, lenP_left h2 (hk ▸ hak)]; omega
  have e0 : climbP d n at_ p = nodeP T1 (lastP p) := by rw [hT1, hk]; exact climbP_left d p h2 (hk ▸ hak)
  obtain ⟨c1, hc1⟩ : ∃ cs, cs = (T1.map (Value.int .u8)).toArray := ⟨_, rfl⟩
  have hg1 : Dg T1 := hT1 ▸ dg_climb _ _ _ _
  have hs1 : c1.size = 32 := by rw [hc1]; simpa using hg1.len
  have HF1 : Hid (∀ W, Below w.heap.size w W → Calls Tryd.prog 57 #[.agg cd, .int .i64 (at_ : Int), .int .i64 (k : Int), .slice (some ⟨pb, po, none⟩) la c] W fun x w' => x = .returned (.agg c1) ∧ Below W.heap.size W w') := fun W hB => by
    have := (unhide HI) k (by omega) at_ d (initP p) W la c (some ⟨pb, po, none⟩) (by omega) (by omega) (unhide HIL) hlen (by omega) (unhide HD) (((unhide HA).keep hB).take _)
    unfold RClimbIs at this
    rw [show dv d = .agg cd by rw [unhide HCD]] at this
    refine this.mono ?_
    rintro x w' ⟨rfl, h'⟩
    exact ⟨by rw [hc1, hT1], h'⟩
  have HF2 : Hid (∀ W, Below w.heap.size w W → Calls Tryd.prog 50 #[.agg c1, .agg cl] W fun x w' => x = .returned (dv (climbP d n at_ p)) ∧ Below W.heap.size W w') := fun W hB => by
    rw [hc1, hcl, e0]
    exact rnode_any W T1 (lastP p) hg1 (unhide HDL)
  clear IH hn h1 hat hpm hm hmc hd hA hcd hk hkn hk0 h2 hm0 hpne hrg hlg hrl hdl hla hll hcl hil hak hT1 hlen e0 hc1 hg1
  go_enter Tryd.func57, Tryd.ntmps57
  go_upto_region 1 with fail
  generalize hX1 : w.alloc _ = W1
  have hB1 : Below w.heap.size w W1 := hX1 ▸ (Below.refl _ _).alloc (Nat.le_refl _) _
  have ho1 : ByAt W1 w.heap.size 24 d := boxed w W1 d _ (by rw [← hX1]; first | rfl | (rw [unhide HCD]; rfl))
  have hz1 : W1.heap.size = w.heap.size + 1 := by rw [← hX1]; show (w.heap.push _).size = _; rw [Array.size_push]
  generalize hX2 : W1.alloc _ = W2
  have hB2 : Below W1.heap.size W1 W2 := hX2 ▸ (Below.refl _ _).alloc (Nat.le_refl _) _
  have ho2 : ByAt W2 W1.heap.size 24 zeros := newBy W1 W2 (by rw [← hX2]; rfl)
  have hz2 : W2.heap.size = w.heap.size + 2 := by rw [← hX2]; show (W1.heap.push _).size = _; rw [Array.size_push, hz1]
  rw [hz1] at ho2
  have HB := hide (thenB hB1 hB2)
  have HO1 := hide (ho1.keep hB2)
  have HO2 := hide ho2
  have HZ2 := hide hz2
  clear hX1 hX2 hB1 hB2 ho1 ho2 hz1 hz2
  go_wp2_with fail
  refine (rhalf_any n (unhide HK).2.2.2.1 (unhide HN).1 W2).mono ?_; rintro x W3 ⟨rfl, rfl⟩
  rw [← (unhide HK).1]
  go_upto_region 4 with fail
  refine wp_region_lit ?_
  refine wpList_plain rfl fun Kt hKt => ?_
  go_simp
  refine hKt _ _ ?_
  clear hKt Kt
  refine wpList_plain rfl fun Kt hKt => ?_
  go_simp
  refine hKt _ _ ?_
  clear hKt Kt
  refine wpList_plain rfl fun Kt hKt => ?_
  go_simp
  refine hKt _ _ ?_
  clear hKt Kt
  refine wpList_plain rfl fun Kt hKt => ?_
  go_simp
  refine hKt _ _ ?_
  clear hKt Kt
  refine wpList_plain rfl fun Kt hKt => ?_
  go_simp
  refine hKt _ _ ?_
  clear hKt Kt
  refine wpList_load_mid rfl 24 (.tmp 21) rfl pb (po + la * 32) rfl ((lastP p).map (Value.int .u8)) _ (rangeAt_keep (unhide HRL) (unhide HB)) Tryd.underlying24 rfl (by rw [List.length_map, (unhide HDL).len]; exact info32) ?_
  refine wpList_plain rfl fun Kt hKt => ?_
  go_simp
  refine hKt _ _ ?_
  clear hKt Kt
  generalize hX3 : World.alloc _ _ = W4
  have hB4 : Below W3.heap.size W3 W4 := hX3 ▸ (Below.refl _ _).alloc (Nat.le_refl _) _
  have ho4 : ByAt W4 W3.heap.size 24 zeros := newBy W3 W4 (by rw [← hX3]; rfl)
  rw [unhide HZ2] at ho4 ⊢
  refine wpList_bstore rfl 24 (.tmp 10) (.tmp 22) rfl (w.heap.size + 2) rfl (lastP p) rfl 32 info32 (unhide HDL).len _ zeros ho4 rfl ?_
  intro W5 HW5 HG5
  have hg5 := unhide HG5
  have HB5 := hide ((thenB (unhide HB) hB4).grown hg5 (thenB (unhide HB) hB4).size (fun i e => by injection e with e; omega))
  have HO15 := hide (((unhide HO1).keep hB4).grown hg5 (by omega))
  have HO25 := hide (((unhide HO2).keep hB4).grown hg5 (by omega))
  clear hX3 hB4 ho4 HO1 HO2 HB HG5 hg5
  obtain ⟨W, hW⟩ : ∃ W, W = W5.drewN 1 := ⟨_, rfl⟩
  have HW : Hid (W = W5.drewN 1) := hW
  have hSW : SB2 w d (lastP p) W := ⟨thenB (unhide HB5) (below_named HW), (unhide HO15).keep (below_named HW), (unhide HW5).keep (below_named HW)⟩
  have HOW := hide ((unhide HO25).keep (below_named HW))
  clear hW
  try simp only [List.getElem_toArray, List.getElem_cons_zero, List.getElem_cons_succ, Act.put, List.setIfInBounds_toArray, List.set_cons_zero, List.set_cons_succ]
  go_wp2_with fail
  refine held (S := SB2 w d (lastP p)) W HW (by kernel_rfl) ?_
  refine wpAnyH_take (i := 0) (v := .agg cd) rfl (by kernel_rfl) (by kernel_rfl) (by kernel_rfl) (fun _ _ _ h => h) (by rw [unhide HCD]; exact yieldsIf_load_mid (by kernel_rfl) 24 (.tmp 4) rfl w.heap.size 0 rfl (d.map (Value.int .u8)) _ (fun W hS => hS.box.range) Tryd.underlying24 rfl (by rw [List.length_map, (unhide HD).len]; exact info32)) (by assumption) ?_
  try simp only [List.getElem_toArray, List.getElem_cons_zero, List.getElem_cons_succ, Act.put, List.setIfInBounds_toArray, List.set_cons_zero, List.set_cons_succ]
  refine wpAnyH_take (i := 1) (v := ?_) rfl (by kernel_rfl) (by kernel_rfl) (by kernel_rfl) (fun _ _ _ h => h) (Or.inl ⟨by kernel_rfl, ?_⟩) (by assumption) ?_
  rotate_left
  · intro Wt hSt
    go_simp
    try with_reducible rfl
  try simp only [List.getElem_toArray, List.getElem_cons_zero, List.getElem_cons_succ, Act.put, List.setIfInBounds_toArray, List.set_cons_zero, List.set_cons_succ]
  refine wpAnyH_take (i := 2) (v := ?_) rfl (by kernel_rfl) (by kernel_rfl) (by kernel_rfl) (fun _ _ _ h => h) (Or.inl ⟨by kernel_rfl, ?_⟩) (by assumption) ?_
  rotate_left
  · intro Wt hSt
    go_simp
    try with_reducible rfl
  try simp only [List.getElem_toArray, List.getElem_cons_zero, List.getElem_cons_succ, Act.put, List.setIfInBounds_toArray, List.set_cons_zero, List.set_cons_succ]
  refine wpAnyH_take (i := 3) (v := ?_) rfl (by kernel_rfl) (by kernel_rfl) (by kernel_rfl) (fun _ _ _ h => h) (Or.inl ⟨by kernel_rfl, ?_⟩) (by assumption) ?_
  rotate_left
  · intro Wt hSt
    go_simp
    try with_reducible rfl
  try simp only [List.getElem_toArray, List.getElem_cons_zero, List.getElem_cons_succ, Act.put, List.setIfInBounds_toArray, List.set_cons_zero, List.set_cons_succ]
  refine wpAnyH_take (i := 4) (v := ?_) rfl (by kernel_rfl) (by kernel_rfl) (by kernel_rfl) (fun _ _ _ h => h) (Or.inl ⟨by kernel_rfl, ?_⟩) (by assumption) ?_
  rotate_left
  · intro Wt hSt
    go_simp
    try with_reducible rfl
  try simp only [List.getElem_toArray, List.getElem_cons_zero, List.getElem_cons_succ, Act.put, List.setIfInBounds_toArray, List.set_cons_zero, List.set_cons_succ]
  refine wpAnyH_take (i := 5) (v := ?_) rfl (by kernel_rfl) (by kernel_rfl) (by kernel_rfl) (fun _ _ _ h => h) (Or.inl ⟨by kernel_rfl, ?_⟩) (by assumption) ?_
  rotate_left
  · intro Wt hSt
    go_simp
    try with_reducible rfl
  try simp only [List.getElem_toArray, List.getElem_cons_zero, List.getElem_cons_succ, Act.put, List.setIfInBounds_toArray, List.set_cons_zero, List.set_cons_succ]
  refine wpAnyH_take (i := 6) (v := ?_) rfl (by kernel_rfl) (by kernel_rfl) (by kernel_rfl) (fun _ _ _ h => h) (Or.inl ⟨by kernel_rfl, ?_⟩) (by assumption) ?_
  rotate_left
  · intro Wt hSt
    go_simp
    try with_reducible rfl
  try simp only [List.getElem_toArray, List.getElem_cons_zero, List.getElem_cons_succ, Act.put, List.setIfInBounds_toArray, List.set_cons_zero, List.set_cons_succ]
  refine wpAnyH_take (i := 7) (v := ?_) rfl (by kernel_rfl) (by kernel_rfl) (by kernel_rfl) (fun _ _ _ h => h) (Or.inl ⟨by kernel_rfl, ?_⟩) (by assumption) ?_
  rotate_left
  · intro Wt hSt
    go_simp
    try with_reducible rfl
  try simp only [List.getElem_toArray, List.getElem_cons_zero, List.getElem_cons_succ, Act.put, List.setIfInBounds_toArray, List.set_cons_zero, List.set_cons_succ]
  refine wpAnyH_take (i := 9) (v := .agg cl) rfl (by kernel_rfl) (by kernel_rfl) (by kernel_rfl) (fun _ _ _ h => h) (by rw [unhide HCL]; exact yieldsIf_load_mid (by kernel_rfl) 24 (.tmp 10) rfl (w.heap.size + 2) 0 rfl ((lastP p).map (Value.int .u8)) _ (fun W hS => hS.lst.range) Tryd.underlying24 rfl (by rw [List.length_map, (unhide HDL).len]; exact info32)) (by assumption) ?_
  try simp only [List.getElem_toArray, List.getElem_cons_zero, List.getElem_cons_succ, Act.put, List.setIfInBounds_toArray, List.set_cons_zero, List.set_cons_succ]
  refine wpAnyH_chainOf [8, 10, 11] _ _ _ (by kernel_rfl) (by kernel_rfl) ?_
  simp only [List.filterMap_cons, List.filterMap_nil, List.getElem?_toArray, List.getElem?_cons_zero, List.getElem?_cons_succ]
  refine wpChain_step rfl fun K hK => ?_
  go_simp
  refine ((unhide HF1) _ hSW.lo).mono ?_; rintro x wA ⟨rfl, hA1⟩
  have hSA : SB2 w d (lastP p) wA := hSW.later hA1
  dsimp only
  refine hK _ _ hSA ?_
  clear hK K
  refine wpChain_step rfl fun K hK => ?_
  go_simp
  refine ((unhide HF2) _ hSA.lo).mono ?_; rintro x wB ⟨rfl, hA2⟩
  have hSB : SB2 w d (lastP p) wB := hSA.later hA2
  have hO := ((unhide HOW).keep hA1).keep hA2
  dsimp only
  refine hK _ _ hSB ?_
  clear hK K
  refine wpChain_bstore rfl 24 (.tmp 8) (.tmp 36) rfl (w.heap.size + 1) rfl (climbP d n at_ p) rfl 32 info32 (dg_climb _ _ _ _).len _ zeros hO rfl ?_
  intro W9 HW9 HG
  have hS9 := hSB.grown (unhide HG)
  refine ⟨hS9, wpChain_nil ?_⟩
  clear hO hSB hSA hA1 hA2
  have HS9 := hide hS9.lo
  clear hS9 hSW
  go_wp2_with fail
  try simp only [Exit.inBlock, Exit.then]
  exact bret rfl rfl (w.heap.size + 1) rfl _ _ (unhide HW9) (dg_climb _ _ _ _).len ⟨rfl, unhide HS9⟩
set_option maxRecDepth 100000 in
set_option maxHeartbeats 4000000 in
theorem rclimb_right (n : Nat) (h2 : 2 ≤ n) (IH : ∀ n', n' < n → ∀ (at_ : Nat) (d : List Int) (p : List (List Int)) (w : World) (m c : Nat) (A : Option Addr), 1 ≤ n' → at_ < n' → p.length = m → m = lenP n' at_ → m ≤ c → Dg d → Ds w A p → RClimbIs w d n' at_ m c A p)
    (at_ : Nat) (d : List Int) (p : List (List Int)) (w : World) (m c : Nat) (A : Option Addr) (hn : n ≤ 1099511627776) (h1 : 1 ≤ n) (hat : at_ < n) (hpm : p.length = m) (hm : m = lenP n at_) (hmc : m ≤ c) (hd : Dg d) (hA : Ds w A p) (hak : ¬ at_ < halfN n) : RClimbIs w d n at_ m c A p := by
  have HI := hide IH
  have HA := hide hA
  have HD := hide hd
  have HN : Hid (n ≤ 1099511627776 ∧ 1 ≤ n ∧ at_ < n ∧ p.length = m ∧ m = lenP n at_ ∧ m ≤ c) := ⟨hn, h1, hat, hpm, hm, hmc⟩
  obtain ⟨cd, hcd⟩ : ∃ cs, cs = (d.map (Value.int .u8)).toArray := ⟨_, rfl⟩
  have hsd : cd.size = 32 := by rw [hcd]; simpa using hd.len
  have HCD := hide hcd
  unfold RClimbIs
  rw [show dv d = .agg cd by rw [hcd]]
  obtain ⟨k, hk⟩ : ∃ k, k = halfN n := ⟨_, rfl⟩
  have hkn := halfN_lt h2
  have hk0 := halfN_pos n
  rw [← hk] at hkn hk0
  have n1 : ¬ (n : Int) = 1 := by omega
  have hm0 : 0 < m := by
    rw [hm]
    by_cases ha : at_ < halfN n
    · rw [lenP_left h2 ha]; omega
    · rw [lenP_right h2 ha]; omega
  have hpne : p ≠ [] := fun e => by rw [e] at hpm; simp at hpm; omega
  obtain ⟨pb, po, rfl, hrg⟩ := hA.at_ hpne
  have hlg := lastP_get hpne
  have hrl := hrg _ _ hlg
  have hdl : Dg (lastP p) := hA.dg _ (List.mem_of_getElem? hlg)
  obtain ⟨la, hla⟩ : ∃ la, la = m - 1 := ⟨_, rfl⟩
  rw [hpm, ← hla] at hrl
  have HRL := hide hrl
  have HDL := hide hdl
  have hll := lenP_lt n at_ h1
  have wl : IntKind.i64.wrap ((m : Int) - 1) = (la : Int) := (IntWalk.i64_in _ (by omega)).trans (by omega)
  have l0 : (0 : Int) ≤ (la : Int) := Int.natCast_nonneg _
  have l1 : (la : Int) < (m : Int) := by omega
  have l2 : (la : Int) ≤ (m : Int) := by omega
  have l3 : (la : Int) ≤ (c : Int) := by omega
  obtain ⟨cl, hcl⟩ : ∃ cs, cs = ((lastP p).map (Value.int .u8)).toArray := ⟨_, rfl⟩
  have hsl : cl.size = 32 := by rw [hcl]; simpa using hdl.len
  have HCL := hide hcl
  have HK : Hid (k = halfN n ∧ 0 < k ∧ k < n ∧ 2 ≤ n ∧ la = m - 1 ∧ 0 < m) := ⟨hk, hk0, hkn, h2, hla, hm0⟩
  have hil : (initP p).length = la := by unfold initP; simp; omega
  have HIL : Hid ((initP p).length = la) := hil
  have i1 : ¬ (at_ : Int) < (k : Int) := by omega
  obtain ⟨nk, hnk⟩ : ∃ a, a = n - k := ⟨_, rfl⟩
  obtain ⟨ak, hak2⟩ : ∃ a, a = at_ - k := ⟨_, rfl⟩
  have wa : IntKind.i64.wrap ((at_ : Int) - (k : Int)) = (ak : Int) := (IntWalk.i64_in _ (by omega)).trans (by omega)
  have wn : IntKind.i64.wrap ((n : Int) - (k : Int)) = (nk : Int) := (IntWalk.i64_in _ (by omega)).trans (by omega)
  obtain ⟨T1, hT1⟩ : ∃ T, T = climbP d nk ak (initP p) := ⟨_, rfl⟩
  have hlen : la = lenP nk ak := by rw [hla, hm, hnk, hak2, hk, lenP_right h2 (hk ▸ hak)]; omega
  have e0 : climbP d n at_ p = nodeP (lastP p) T1 := by rw [hT1, hnk, hak2, hk]; exact climbP_right d p h2 (hk ▸ hak)
  obtain ⟨c1, hc1⟩ : ∃ cs, cs = (T1.map (Value.int .u8)).toArray := ⟨_, rfl⟩
  have hg1 : Dg T1 := hT1 ▸ dg_climb _ _ _ _
  have hs1 : c1.size = 32 := by rw [hc1]; simpa using hg1.len
  have HF1 : Hid (∀ W, Below w.heap.size w W → Calls Tryd.prog 57 #[.agg cd, .int .i64 (ak : Int), .int .i64 (nk : Int), .slice (some ⟨pb, po, none⟩) la c] W fun x w' => x = .returned (.agg c1) ∧ Below W.heap.size W w') := fun W hB => by
    have := (unhide HI) nk (by omega) ak d (initP p) W la c (some ⟨pb, po, none⟩) (by omega) (by omega) (unhide HIL) hlen (by omega) (unhide HD) (((unhide HA).keep hB).take _)
    unfold RClimbIs at this
    rw [show dv d = .agg cd by rw [unhide HCD]] at this
    refine this.mono ?_
    rintro x w' ⟨rfl, h'⟩
    exact ⟨by rw [hc1, hT1], h'⟩
  have HF2 : Hid (∀ W, Below w.heap.size w W → Calls Tryd.prog 50 #[.agg cl, .agg c1] W fun x w' => x = .returned (dv (climbP d n at_ p)) ∧ Below W.heap.size W w') := fun W hB => by
    rw [hc1, hcl, e0]
    exact rnode_any W (lastP p) T1 (unhide HDL) hg1
  clear IH hn h1 hat hpm hm hmc hd hA hcd hk hkn hk0 h2 hm0 hpne hrg hlg hrl hdl hla hll hcl hil hak hT1 hlen e0 hc1 hg1 hnk hak2
  go_enter Tryd.func57, Tryd.ntmps57
  go_upto_region 1 with fail
  generalize hX1 : w.alloc _ = W1
  have hB1 : Below w.heap.size w W1 := hX1 ▸ (Below.refl _ _).alloc (Nat.le_refl _) _
  have ho1 : ByAt W1 w.heap.size 24 d := boxed w W1 d _ (by rw [← hX1]; first | rfl | (rw [unhide HCD]; rfl))
  have hz1 : W1.heap.size = w.heap.size + 1 := by rw [← hX1]; show (w.heap.push _).size = _; rw [Array.size_push]
  generalize hX2 : W1.alloc _ = W2
  have hB2 : Below W1.heap.size W1 W2 := hX2 ▸ (Below.refl _ _).alloc (Nat.le_refl _) _
  have ho2 : ByAt W2 W1.heap.size 24 zeros := newBy W1 W2 (by rw [← hX2]; rfl)
  have hz2 : W2.heap.size = w.heap.size + 2 := by rw [← hX2]; show (W1.heap.push _).size = _; rw [Array.size_push, hz1]
  rw [hz1] at ho2
  have HB := hide (thenB hB1 hB2)
  have HO1 := hide (ho1.keep hB2)
  have HO2 := hide ho2
  have HZ2 := hide hz2
  clear hX1 hX2 hB1 hB2 ho1 ho2 hz1 hz2
  go_wp2_with fail
  refine (rhalf_any n (unhide HK).2.2.2.1 (unhide HN).1 W2).mono ?_; rintro x W3 ⟨rfl, rfl⟩
  rw [← (unhide HK).1]
  go_upto_region 4 with fail
  refine wp_region_lit ?_
  refine wpList_plain rfl fun Kt hKt => ?_
  go_simp
  refine hKt _ _ ?_
  clear hKt Kt
  refine wpList_plain rfl fun Kt hKt => ?_
  go_simp
  refine hKt _ _ ?_
  clear hKt Kt
  refine wpList_plain rfl fun Kt hKt => ?_
  go_simp
  refine hKt _ _ ?_
  clear hKt Kt
  refine wpList_plain rfl fun Kt hKt => ?_
  go_simp
  refine hKt _ _ ?_
  clear hKt Kt
  refine wpList_plain rfl fun Kt hKt => ?_
  go_simp
  refine hKt _ _ ?_
  clear hKt Kt
  refine wpList_load_mid rfl 24 (.tmp 21) rfl pb (po + la * 32) rfl ((lastP p).map (Value.int .u8)) _ (rangeAt_keep (unhide HRL) (unhide HB)) Tryd.underlying24 rfl (by rw [List.length_map, (unhide HDL).len]; exact info32) ?_
  refine wpList_plain rfl fun Kt hKt => ?_
  go_simp
  refine hKt _ _ ?_
  clear hKt Kt
  generalize hX3 : World.alloc _ _ = W4
  have hB4 : Below W3.heap.size W3 W4 := hX3 ▸ (Below.refl _ _).alloc (Nat.le_refl _) _
  have ho4 : ByAt W4 W3.heap.size 24 zeros := newBy W3 W4 (by rw [← hX3]; rfl)
  rw [unhide HZ2] at ho4 ⊢
  refine wpList_bstore rfl 24 (.tmp 10) (.tmp 22) rfl (w.heap.size + 2) rfl (lastP p) rfl 32 info32 (unhide HDL).len _ zeros ho4 rfl ?_
  intro W5 HW5 HG5
  have hg5 := unhide HG5
  have HB5 := hide ((thenB (unhide HB) hB4).grown hg5 (thenB (unhide HB) hB4).size (fun i e => by injection e with e; omega))
  have HO15 := hide (((unhide HO1).keep hB4).grown hg5 (by omega))
  have HO25 := hide (((unhide HO2).keep hB4).grown hg5 (by omega))
  clear hX3 hB4 ho4 HO1 HO2 HB HG5 hg5
  obtain ⟨W, hW⟩ : ∃ W, W = W5.drewN 1 := ⟨_, rfl⟩
  have HW : Hid (W = W5.drewN 1) := hW
  have hSW : SB2 w d (lastP p) W := ⟨thenB (unhide HB5) (below_named HW), (unhide HO15).keep (below_named HW), (unhide HW5).keep (below_named HW)⟩
  have HOW := hide ((unhide HO25).keep (below_named HW))
  clear hW
  try simp only [List.getElem_toArray, List.getElem_cons_zero, List.getElem_cons_succ, Act.put, List.setIfInBounds_toArray, List.set_cons_zero, List.set_cons_succ]
  go_wp2_with fail
  refine held (S := SB2 w d (lastP p)) W HW (by kernel_rfl) ?_
  refine wpAnyH_take (i := 0) (v := .agg cl) rfl (by kernel_rfl) (by kernel_rfl) (by kernel_rfl) (fun _ _ _ h => h) (by rw [unhide HCL]; exact yieldsIf_load_mid (by kernel_rfl) 24 (.tmp 10) rfl (w.heap.size + 2) 0 rfl ((lastP p).map (Value.int .u8)) _ (fun W hS => hS.lst.range) Tryd.underlying24 rfl (by rw [List.length_map, (unhide HDL).len]; exact info32)) (by assumption) ?_
  try simp only [List.getElem_toArray, List.getElem_cons_zero, List.getElem_cons_succ, Act.put, List.setIfInBounds_toArray, List.set_cons_zero, List.set_cons_succ]
  refine wpAnyH_take (i := 1) (v := .agg cd) rfl (by kernel_rfl) (by kernel_rfl) (by kernel_rfl) (fun _ _ _ h => h) (by rw [unhide HCD]; exact yieldsIf_load_mid (by kernel_rfl) 24 (.tmp 4) rfl w.heap.size 0 rfl (d.map (Value.int .u8)) _ (fun W hS => hS.box.range) Tryd.underlying24 rfl (by rw [List.length_map, (unhide HD).len]; exact info32)) (by assumption) ?_
  try simp only [List.getElem_toArray, List.getElem_cons_zero, List.getElem_cons_succ, Act.put, List.setIfInBounds_toArray, List.set_cons_zero, List.set_cons_succ]
  refine wpAnyH_take (i := 2) (v := ?_) rfl (by kernel_rfl) (by kernel_rfl) (by kernel_rfl) (fun _ _ _ h => h) (Or.inl ⟨by kernel_rfl, ?_⟩) (by assumption) ?_
  rotate_left
  · intro Wt hSt
    go_simp
    try with_reducible rfl
  try simp only [List.getElem_toArray, List.getElem_cons_zero, List.getElem_cons_succ, Act.put, List.setIfInBounds_toArray, List.set_cons_zero, List.set_cons_succ]
  refine wpAnyH_take (i := 3) (v := ?_) rfl (by kernel_rfl) (by kernel_rfl) (by kernel_rfl) (fun _ _ _ h => h) (Or.inl ⟨by kernel_rfl, ?_⟩) (by assumption) ?_
  rotate_left
  · intro Wt hSt
    go_simp
    try with_reducible rfl
  try simp only [List.getElem_toArray, List.getElem_cons_zero, List.getElem_cons_succ, Act.put, List.setIfInBounds_toArray, List.set_cons_zero, List.set_cons_succ]
  refine wpAnyH_take (i := 4) (v := ?_) rfl (by kernel_rfl) (by kernel_rfl) (by kernel_rfl) (fun _ _ _ h => h) (Or.inl ⟨by kernel_rfl, ?_⟩) (by assumption) ?_
  rotate_left
  · intro Wt hSt
    go_simp
    try with_reducible rfl
  try simp only [List.getElem_toArray, List.getElem_cons_zero, List.getElem_cons_succ, Act.put, List.setIfInBounds_toArray, List.set_cons_zero, List.set_cons_succ]
  refine wpAnyH_take (i := 5) (v := ?_) rfl (by kernel_rfl) (by kernel_rfl) (by kernel_rfl) (fun _ _ _ h => h) (Or.inl ⟨by kernel_rfl, ?_⟩) (by assumption) ?_
  rotate_left
  · intro Wt hSt
    go_simp
    try with_reducible rfl
  try simp only [List.getElem_toArray, List.getElem_cons_zero, List.getElem_cons_succ, Act.put, List.setIfInBounds_toArray, List.set_cons_zero, List.set_cons_succ]
  refine wpAnyH_take (i := 6) (v := ?_) rfl (by kernel_rfl) (by kernel_rfl) (by kernel_rfl) (fun _ _ _ h => h) (Or.inl ⟨by kernel_rfl, ?_⟩) (by assumption) ?_
  rotate_left
  · intro Wt hSt
    go_simp
    try with_reducible rfl
  try simp only [List.getElem_toArray, List.getElem_cons_zero, List.getElem_cons_succ, Act.put, List.setIfInBounds_toArray, List.set_cons_zero, List.set_cons_succ]
  refine wpAnyH_take (i := 7) (v := ?_) rfl (by kernel_rfl) (by kernel_rfl) (by kernel_rfl) (fun _ _ _ h => h) (Or.inl ⟨by kernel_rfl, ?_⟩) (by assumption) ?_
  rotate_left
  · intro Wt hSt
    go_simp
    try with_reducible rfl
  try simp only [List.getElem_toArray, List.getElem_cons_zero, List.getElem_cons_succ, Act.put, List.setIfInBounds_toArray, List.set_cons_zero, List.set_cons_succ]
  refine wpAnyH_take (i := 8) (v := ?_) rfl (by kernel_rfl) (by kernel_rfl) (by kernel_rfl) (fun _ _ _ h => h) (Or.inl ⟨by kernel_rfl, ?_⟩) (by assumption) ?_
  rotate_left
  · intro Wt hSt
    go_simp
    try with_reducible rfl
  try simp only [List.getElem_toArray, List.getElem_cons_zero, List.getElem_cons_succ, Act.put, List.setIfInBounds_toArray, List.set_cons_zero, List.set_cons_succ]
  refine wpAnyH_take (i := 9) (v := ?_) rfl (by kernel_rfl) (by kernel_rfl) (by kernel_rfl) (fun _ _ _ h => h) (Or.inl ⟨by kernel_rfl, ?_⟩) (by assumption) ?_
  rotate_left
  · intro Wt hSt
    go_simp
    try with_reducible rfl
  try simp only [List.getElem_toArray, List.getElem_cons_zero, List.getElem_cons_succ, Act.put, List.setIfInBounds_toArray, List.set_cons_zero, List.set_cons_succ]
  refine wpAnyH_take (i := 10) (v := ?_) rfl (by kernel_rfl) (by kernel_rfl) (by kernel_rfl) (fun _ _ _ h => h) (Or.inl ⟨by kernel_rfl, ?_⟩) (by assumption) ?_
  rotate_left
  · intro Wt hSt
    go_simp
    try with_reducible rfl
  try simp only [List.getElem_toArray, List.getElem_cons_zero, List.getElem_cons_succ, Act.put, List.setIfInBounds_toArray, List.set_cons_zero, List.set_cons_succ]
  refine wpAnyH_take (i := 11) (v := ?_) rfl (by kernel_rfl) (by kernel_rfl) (by kernel_rfl) (fun _ _ _ h => h) (Or.inl ⟨by kernel_rfl, ?_⟩) (by assumption) ?_
  rotate_left
  · intro Wt hSt
    go_simp
    try with_reducible rfl
  try simp only [List.getElem_toArray, List.getElem_cons_zero, List.getElem_cons_succ, Act.put, List.setIfInBounds_toArray, List.set_cons_zero, List.set_cons_succ]
  refine wpAnyH_take (i := 12) (v := ?_) rfl (by kernel_rfl) (by kernel_rfl) (by kernel_rfl) (fun _ _ _ h => h) (Or.inl ⟨by kernel_rfl, ?_⟩) (by assumption) ?_
  rotate_left
  · intro Wt hSt
    go_simp
    try with_reducible rfl
  try simp only [List.getElem_toArray, List.getElem_cons_zero, List.getElem_cons_succ, Act.put, List.setIfInBounds_toArray, List.set_cons_zero, List.set_cons_succ]
  refine wpAnyH_chainOf [13, 14, 15] _ _ _ (by kernel_rfl) (by kernel_rfl) ?_
  simp only [List.filterMap_cons, List.filterMap_nil, List.getElem?_toArray, List.getElem?_cons_zero, List.getElem?_cons_succ]
  refine wpChain_step rfl fun K hK => ?_
  go_simp
  refine ((unhide HF1) _ hSW.lo).mono ?_; rintro x wA ⟨rfl, hA1⟩
  have hSA : SB2 w d (lastP p) wA := hSW.later hA1
  dsimp only
  refine hK _ _ hSA ?_
  clear hK K
  refine wpChain_step rfl fun K hK => ?_
  go_simp
  refine ((unhide HF2) _ hSA.lo).mono ?_; rintro x wB ⟨rfl, hA2⟩
  have hSB : SB2 w d (lastP p) wB := hSA.later hA2
  have hO := ((unhide HOW).keep hA1).keep hA2
  dsimp only
  refine hK _ _ hSB ?_
  clear hK K
  refine wpChain_bstore rfl 24 (.tmp 8) (.tmp 51) rfl (w.heap.size + 1) rfl (climbP d n at_ p) rfl 32 info32 (dg_climb _ _ _ _).len _ zeros hO rfl ?_
  intro W9 HW9 HG
  have hS9 := hSB.grown (unhide HG)
  refine ⟨hS9, wpChain_nil ?_⟩
  clear hO hSB hSA hA1 hA2
  have HS9 := hide hS9.lo
  clear hS9 hSW
  go_wp2_with fail
  try simp only [Exit.inBlock, Exit.then]
  exact bret rfl rfl (w.heap.size + 1) rfl _ _ (unhide HW9) (dg_climb _ _ _ _).len ⟨rfl, unhide HS9⟩
theorem rclimb_any (n : Nat) : n ≤ 1099511627776 → ∀ (at_ : Nat) (d : List Int) (p : List (List Int)) (w : World) (m c : Nat) (A : Option Addr), 1 ≤ n → at_ < n → p.length = m → m = lenP n at_ → m ≤ c → Dg d → Ds w A p → RClimbIs w d n at_ m c A p := by
  induction n using Nat.strongRecOn with
  | _ n IH =>
    intro hn at_ d p w m c A h1 hat hpm hm hmc hd hA
    have I := fun n' (hn' : n' < n) => IH n' hn' (by omega)
    by_cases h1n : n = 1
    · exact rclimb_one n h1n at_ d p w m c A hn h1 hat hpm hm hmc hd hA
    · by_cases hak : at_ < halfN n
      · exact rclimb_left n (by omega) I at_ d p w m c A hn h1 hat hpm hm hmc hd hA hak
      · exact rclimb_right n (by omega) I at_ d p w m c A hn h1 hat hpm hm hmc hd hA hak
end Go.Proofs.YtceppmajbkmbdaaDoor
namespace Go.Proofs.YtceppmajbkmbdaaDoor
set_option linter.unusedSimpArgs false
set_option linter.unusedVariables false
open Go.RowKit

set_option maxRecDepth 100000 in
set_option maxHeartbeats 4000000 in
theorem rclm_a (at_ n : Int) (h1 : n < 1) (d : List Int) (w : World) (m c : Nat) (A : Option Addr) (hd : Dg d) :
    Calls Tryd.prog 21 #[dv d, .int .i64 at_, .int .i64 n, .slice A m c] w fun x w' => x = .returned (.tuple #[dv zeros, .int .i64 1]) ∧ Below w.heap.size w w' := by
  have HD := hide hd
  obtain ⟨cd, hcd⟩ : ∃ cs, cs = (d.map (Value.int .u8)).toArray := ⟨_, rfl⟩
  have hsd : cd.size = 32 := by rw [hcd]; simpa using hd.len
  have HCD := hide hcd
  rw [show dv d = .agg cd by rw [hcd]]
  clear hd hcd
  go_enter Tryd.func21, Tryd.ntmps21
  go_upto_region 1 with fail
  generalize hX1 : w.alloc _ = W1
  have hB1 : Below w.heap.size w W1 := hX1 ▸ (Below.refl _ _).alloc (Nat.le_refl _) _
  have ho1 : ByAt W1 w.heap.size 24 d := boxed w W1 d _ (by rw [← hX1]; first | rfl | (rw [unhide HCD]; rfl))
  have hz1 : W1.heap.size = w.heap.size + 1 := by rw [← hX1]; show (w.heap.push _).size = _; rw [Array.size_push]
  generalize hX2 : W1.alloc _ = W2
  have hB2 : Below W1.heap.size W1 W2 := hX2 ▸ (Below.refl _ _).alloc (Nat.le_refl _) _
  have ho2 : ByAt W2 W1.heap.size 24 zeros := newBy W1 W2 (by rw [← hX2]; rfl)
  rw [hz1] at ho2
  have HB := hide (thenB hB1 hB2)
  have HO1 := hide (ho1.keep hB2)
  have HO2 := hide ho2
  clear hX1 hX2 hB1 hB2 ho1 ho2 hz1
  go_upto_region 2 with fail
  refine wp_region_lit ?_
  refine wpList_build0 rfl 24 rfl (dv zeros) (build_zero _) ?_
  refine wpList_bstore rfl 24 (.tmp 8) (.tmp 33) rfl (w.heap.size + 1) rfl zeros rfl 32 info32 rfl _ zeros (unhide HO2) rfl ?_
  intro W9 HW9 HG
  go_wp2_with fail
  try simp only [Exit.inBlock, Exit.then]
  exact bret2 rfl rfl (w.heap.size + 1) rfl _ _ (unhide HW9) rfl _ rfl ⟨rfl, (unhide HB).grown (unhide HG) (unhide HB).size (fun i e => by injection e with e; omega)⟩
set_option maxRecDepth 100000 in
set_option maxHeartbeats 4000000 in
theorem rclm_b (at_ n : Int) (h1 : ¬ n < 1) (h2 : 1099511627776 < n) (d : List Int) (w : World) (m c : Nat) (A : Option Addr) (hd : Dg d) :
    Calls Tryd.prog 21 #[dv d, .int .i64 at_, .int .i64 n, .slice A m c] w fun x w' => x = .returned (.tuple #[dv zeros, .int .i64 1]) ∧ Below w.heap.size w w' := by
  have HD := hide hd
  obtain ⟨cd, hcd⟩ : ∃ cs, cs = (d.map (Value.int .u8)).toArray := ⟨_, rfl⟩
  have hsd : cd.size = 32 := by rw [hcd]; simpa using hd.len
  have HCD := hide hcd
  rw [show dv d = .agg cd by rw [hcd]]
  clear hd hcd
  go_enter Tryd.func21, Tryd.ntmps21
  go_upto_region 1 with fail
  generalize hX1 : w.alloc _ = W1
  have hB1 : Below w.heap.size w W1 := hX1 ▸ (Below.refl _ _).alloc (Nat.le_refl _) _
  have ho1 : ByAt W1 w.heap.size 24 d := boxed w W1 d _ (by rw [← hX1]; first | rfl | (rw [unhide HCD]; rfl))
  have hz1 : W1.heap.size = w.heap.size + 1 := by rw [← hX1]; show (w.heap.push _).size = _; rw [Array.size_push]
  generalize hX2 : W1.alloc _ = W2
  have hB2 : Below W1.heap.size W1 W2 := hX2 ▸ (Below.refl _ _).alloc (Nat.le_refl _) _
  have ho2 : ByAt W2 W1.heap.size 24 zeros := newBy W1 W2 (by rw [← hX2]; rfl)
  rw [hz1] at ho2
  have HB := hide (thenB hB1 hB2)
  have HO1 := hide (ho1.keep hB2)
  have HO2 := hide ho2
  clear hX1 hX2 hB1 hB2 ho1 ho2 hz1
  go_upto_region 2 with fail
  refine wp_region_lit ?_
  refine wpList_build0 rfl 24 rfl (dv zeros) (build_zero _) ?_
  refine wpList_bstore rfl 24 (.tmp 8) (.tmp 33) rfl (w.heap.size + 1) rfl zeros rfl 32 info32 rfl _ zeros (unhide HO2) rfl ?_
  intro W9 HW9 HG
  go_wp2_with fail
  try simp only [Exit.inBlock, Exit.then]
  exact bret2 rfl rfl (w.heap.size + 1) rfl _ _ (unhide HW9) rfl _ rfl ⟨rfl, (unhide HB).grown (unhide HG) (unhide HB).size (fun i e => by injection e with e; omega)⟩
set_option maxRecDepth 100000 in
set_option maxHeartbeats 4000000 in
theorem rclm_c (at_ n : Int) (h1 : ¬ n < 1) (h2 : ¬ 1099511627776 < n) (h3 : at_ < 0) (d : List Int) (w : World) (m c : Nat) (A : Option Addr) (hd : Dg d) :
    Calls Tryd.prog 21 #[dv d, .int .i64 at_, .int .i64 n, .slice A m c] w fun x w' => x = .returned (.tuple #[dv zeros, .int .i64 1]) ∧ Below w.heap.size w w' := by
  have HD := hide hd
  obtain ⟨cd, hcd⟩ : ∃ cs, cs = (d.map (Value.int .u8)).toArray := ⟨_, rfl⟩
  have hsd : cd.size = 32 := by rw [hcd]; simpa using hd.len
  have HCD := hide hcd
  rw [show dv d = .agg cd by rw [hcd]]
  clear hd hcd
  go_enter Tryd.func21, Tryd.ntmps21
  go_upto_region 1 with fail
  generalize hX1 : w.alloc _ = W1
  have hB1 : Below w.heap.size w W1 := hX1 ▸ (Below.refl _ _).alloc (Nat.le_refl _) _
  have ho1 : ByAt W1 w.heap.size 24 d := boxed w W1 d _ (by rw [← hX1]; first | rfl | (rw [unhide HCD]; rfl))
  have hz1 : W1.heap.size = w.heap.size + 1 := by rw [← hX1]; show (w.heap.push _).size = _; rw [Array.size_push]
  generalize hX2 : W1.alloc _ = W2
  have hB2 : Below W1.heap.size W1 W2 := hX2 ▸ (Below.refl _ _).alloc (Nat.le_refl _) _
  have ho2 : ByAt W2 W1.heap.size 24 zeros := newBy W1 W2 (by rw [← hX2]; rfl)
  rw [hz1] at ho2
  have HB := hide (thenB hB1 hB2)
  have HO1 := hide (ho1.keep hB2)
  have HO2 := hide ho2
  clear hX1 hX2 hB1 hB2 ho1 ho2 hz1
  go_upto_region 2 with fail
  refine wp_region_lit ?_
  refine wpList_build0 rfl 24 rfl (dv zeros) (build_zero _) ?_
  refine wpList_bstore rfl 24 (.tmp 8) (.tmp 33) rfl (w.heap.size + 1) rfl zeros rfl 32 info32 rfl _ zeros (unhide HO2) rfl ?_
  intro W9 HW9 HG
  go_wp2_with fail
  try simp only [Exit.inBlock, Exit.then]
  exact bret2 rfl rfl (w.heap.size + 1) rfl _ _ (unhide HW9) rfl _ rfl ⟨rfl, (unhide HB).grown (unhide HG) (unhide HB).size (fun i e => by injection e with e; omega)⟩
set_option maxRecDepth 100000 in
set_option maxHeartbeats 4000000 in
theorem rclm_d (at_ n : Int) (h1 : ¬ n < 1) (h2 : ¬ 1099511627776 < n) (h3 : ¬ at_ < 0) (h4 : n ≤ at_) (d : List Int) (w : World) (m c : Nat) (A : Option Addr) (hd : Dg d) :
    Calls Tryd.prog 21 #[dv d, .int .i64 at_, .int .i64 n, .slice A m c] w fun x w' => x = .returned (.tuple #[dv zeros, .int .i64 1]) ∧ Below w.heap.size w w' := by
  have HD := hide hd
  obtain ⟨cd, hcd⟩ : ∃ cs, cs = (d.map (Value.int .u8)).toArray := ⟨_, rfl⟩
  have hsd : cd.size = 32 := by rw [hcd]; simpa using hd.len
  have HCD := hide hcd
  rw [show dv d = .agg cd by rw [hcd]]
  clear hd hcd
  go_enter Tryd.func21, Tryd.ntmps21
  go_upto_region 1 with fail
  generalize hX1 : w.alloc _ = W1
  have hB1 : Below w.heap.size w W1 := hX1 ▸ (Below.refl _ _).alloc (Nat.le_refl _) _
  have ho1 : ByAt W1 w.heap.size 24 d := boxed w W1 d _ (by rw [← hX1]; first | rfl | (rw [unhide HCD]; rfl))
  have hz1 : W1.heap.size = w.heap.size + 1 := by rw [← hX1]; show (w.heap.push _).size = _; rw [Array.size_push]
  generalize hX2 : W1.alloc _ = W2
  have hB2 : Below W1.heap.size W1 W2 := hX2 ▸ (Below.refl _ _).alloc (Nat.le_refl _) _
  have ho2 : ByAt W2 W1.heap.size 24 zeros := newBy W1 W2 (by rw [← hX2]; rfl)
  rw [hz1] at ho2
  have HB := hide (thenB hB1 hB2)
  have HO1 := hide (ho1.keep hB2)
  have HO2 := hide ho2
  clear hX1 hX2 hB1 hB2 ho1 ho2 hz1
  go_upto_region 2 with fail
  refine wp_region_lit ?_
  refine wpList_build0 rfl 24 rfl (dv zeros) (build_zero _) ?_
  refine wpList_bstore rfl 24 (.tmp 8) (.tmp 33) rfl (w.heap.size + 1) rfl zeros rfl 32 info32 rfl _ zeros (unhide HO2) rfl ?_
  intro W9 HW9 HG
  go_wp2_with fail
  try simp only [Exit.inBlock, Exit.then]
  exact bret2 rfl rfl (w.heap.size + 1) rfl _ _ (unhide HW9) rfl _ rfl ⟨rfl, (unhide HB).grown (unhide HG) (unhide HB).size (fun i e => by injection e with e; omega)⟩
set_option maxRecDepth 100000 in
set_option maxHeartbeats 4000000 in
theorem rclm_e (at_ n : Nat) (hn : n ≤ 1099511627776) (h1 : 1 ≤ n) (hat : at_ < n) (d : List Int) (w : World) (m c : Nat) (A : Option Addr) (hm : m ≠ lenP n at_) (hd : Dg d) :
    Calls Tryd.prog 21 #[dv d, .int .i64 (at_ : Int), .int .i64 (n : Int), .slice A m c] w fun x w' => x = .returned (.tuple #[dv zeros, .int .i64 1]) ∧ Below w.heap.size w w' := by
  have n1 : ¬ (n : Int) < 1 := by omega
  have n2 : ¬ (1099511627776 : Int) < (n : Int) := by omega
  have n3 : ¬ (at_ : Int) < 0 := by omega
  have n4 : ¬ (n : Int) ≤ (at_ : Int) := by omega
  have HN : Hid (n ≤ 1099511627776 ∧ 1 ≤ n ∧ at_ < n) := ⟨hn, h1, hat⟩
  obtain ⟨T, hTl⟩ : ∃ T, T = lenP n at_ := ⟨_, rfl⟩
  have n5 : ¬ (m : Int) = (T : Int) := by omega
  have HTL := hide hTl
  clear hn h1 hat hTl hm
  have HD := hide hd
  obtain ⟨cd, hcd⟩ : ∃ cs, cs = (d.map (Value.int .u8)).toArray := ⟨_, rfl⟩
  have hsd : cd.size = 32 := by rw [hcd]; simpa using hd.len
  have HCD := hide hcd
  rw [show dv d = .agg cd by rw [hcd]]
  clear hd hcd
  go_enter Tryd.func21, Tryd.ntmps21
  go_upto_region 1 with fail
  generalize hX1 : w.alloc _ = W1
  have hB1 : Below w.heap.size w W1 := hX1 ▸ (Below.refl _ _).alloc (Nat.le_refl _) _
  have ho1 : ByAt W1 w.heap.size 24 d := boxed w W1 d _ (by rw [← hX1]; first | rfl | (rw [unhide HCD]; rfl))
  have hz1 : W1.heap.size = w.heap.size + 1 := by rw [← hX1]; show (w.heap.push _).size = _; rw [Array.size_push]
  generalize hX2 : W1.alloc _ = W2
  have hB2 : Below W1.heap.size W1 W2 := hX2 ▸ (Below.refl _ _).alloc (Nat.le_refl _) _
  have ho2 : ByAt W2 W1.heap.size 24 zeros := newBy W1 W2 (by rw [← hX2]; rfl)
  rw [hz1] at ho2
  have HB := hide (thenB hB1 hB2)
  have HO1 := hide (ho1.keep hB2)
  have HO2 := hide ho2
  clear hX1 hX2 hB1 hB2 ho1 ho2 hz1
  go_wp2_with fail
  refine (rlen_any n at_ (unhide HN).2.1 (unhide HN).1 (unhide HN).2.2 W2).mono ?_; rintro x W3 ⟨rfl, rfl⟩
  rw [← unhide HTL]
  go_upto_region 2 with fail
  refine wp_region_lit ?_
  refine wpList_build0 rfl 24 rfl (dv zeros) (build_zero _) ?_
  refine wpList_bstore rfl 24 (.tmp 8) (.tmp 33) rfl (w.heap.size + 1) rfl zeros rfl 32 info32 rfl _ zeros (unhide HO2) rfl ?_
  intro W9 HW9 HG
  go_wp2_with fail
  try simp only [Exit.inBlock, Exit.then]
  exact bret2 rfl rfl (w.heap.size + 1) rfl _ _ (unhide HW9) rfl _ rfl ⟨rfl, (unhide HB).grown (unhide HG) (unhide HB).size (fun i e => by injection e with e; omega)⟩
set_option maxRecDepth 100000 in
set_option maxHeartbeats 4000000 in
theorem rClimb_ok (at_ n : Nat) (hn : n ≤ 1099511627776) (h1 : 1 ≤ n) (hat : at_ < n) (p : List (List Int)) (hpm : p.length = lenP n at_) (d : List Int) (w : World) (m c : Nat) (A : Option Addr) (hm : m = p.length) (hd : Dg d) (hmc : m ≤ c) (hA : Ds w A p) :
    Calls Tryd.prog 21 #[dv d, .int .i64 (at_ : Int), .int .i64 (n : Int), .slice A m c] w fun x w' => x = .returned (.tuple #[dv (climbP d n at_ p), .int .i64 0]) ∧ Below w.heap.size w w' := by
  have n1 : ¬ (n : Int) < 1 := by omega
  have n2 : ¬ (1099511627776 : Int) < (n : Int) := by omega
  have n3 : ¬ (at_ : Int) < 0 := by omega
  have n4 : ¬ (n : Int) ≤ (at_ : Int) := by omega
  have HN : Hid (n ≤ 1099511627776 ∧ 1 ≤ n ∧ at_ < n) := ⟨hn, h1, hat⟩
  obtain ⟨T, hTl⟩ : ∃ T, T = lenP n at_ := ⟨_, rfl⟩
  have n5 : (m : Int) = (T : Int) := by omega
  have HTL := hide hTl
  have HF : Hid (∀ W, Below w.heap.size w W → RClimbIs W d n at_ m c A p) := fun W hB => rclimb_any n hn at_ d p W m c A h1 hat hm.symm (hm.trans hpm) hmc hd (hA.keep hB)
  clear hn h1 hat hTl hm hpm hmc hA
  have HD := hide hd
  obtain ⟨cd, hcd⟩ : ∃ cs, cs = (d.map (Value.int .u8)).toArray := ⟨_, rfl⟩
  have hsd : cd.size = 32 := by rw [hcd]; simpa using hd.len
  have HCD := hide hcd
  rw [show dv d = .agg cd by rw [hcd]]
  clear hd hcd
  go_enter Tryd.func21, Tryd.ntmps21
  go_upto_region 1 with fail
  generalize hX1 : w.alloc _ = W1
  have hB1 : Below w.heap.size w W1 := hX1 ▸ (Below.refl _ _).alloc (Nat.le_refl _) _
  have ho1 : ByAt W1 w.heap.size 24 d := boxed w W1 d _ (by rw [← hX1]; first | rfl | (rw [unhide HCD]; rfl))
  have hz1 : W1.heap.size = w.heap.size + 1 := by rw [← hX1]; show (w.heap.push _).size = _; rw [Array.size_push]
  generalize hX2 : W1.alloc _ = W2
  have hB2 : Below W1.heap.size W1 W2 := hX2 ▸ (Below.refl _ _).alloc (Nat.le_refl _) _
  have ho2 : ByAt W2 W1.heap.size 24 zeros := newBy W1 W2 (by rw [← hX2]; rfl)
  rw [hz1] at ho2
  have HB := hide (thenB hB1 hB2)
  have HO1 := hide (ho1.keep hB2)
  have HO2 := hide ho2
  clear hX1 hX2 hB1 hB2 ho1 ho2 hz1
  go_wp2_with fail
  refine (rlen_any n at_ (unhide HN).2.1 (unhide HN).1 (unhide HN).2.2 W2).mono ?_; rintro x W3 ⟨rfl, rfl⟩
  rw [← unhide HTL]
  go_upto_region 3 with fail
  refine wp_region_lit ?_
  refine wpList_bload rfl 24 (.tmp 4) rfl w.heap.size rfl _ Tryd.underlying24 rfl 32 info32 _ d (unhide HO1) (unhide HD).len ?_
  rw [show dv d = .agg cd by rw [unhide HCD]]
  go_wp2_with fail
  have hcl := (unhide HF) W3 (unhide HB)
  unfold RClimbIs at hcl
  rw [show dv d = .agg cd by rw [unhide HCD]] at hcl
  refine hcl.mono ?_; rintro x W7 ⟨rfl, hB7⟩
  have HB7 := hide (thenB (unhide HB) hB7)
  have HR7 := hide ((unhide HO2).keep hB7)
  clear hB7 hcl
  dsimp only
  rename_i KK hK
  refine hK _ _ ?_
  clear hK KK
  refine wpList_bstore rfl 24 (.tmp 8) (.tmp 38) rfl (w.heap.size + 1) rfl (climbP d n at_ p) rfl 32 info32 (dg_climb _ _ _ _).len _ zeros (unhide HR7) rfl ?_
  intro W9 HW9 HG
  go_wp2_with fail
  try simp only [Exit.inBlock, Exit.then]
  exact bret2 rfl rfl (w.heap.size + 1) rfl _ _ (unhide HW9) (dg_climb _ _ _ _).len _ rfl ⟨rfl, (unhide HB7).grown (unhide HG) (unhide HB7).size (fun i e => by injection e with e; omega)⟩
theorem rClimb_bad (at_ n : Int) (m : Nat) (h : ¬ (1 ≤ n ∧ n ≤ 1099511627776 ∧ 0 ≤ at_ ∧ at_ < n ∧ m = lenP n.toNat at_.toNat)) (d : List Int) (w : World) (c : Nat) (A : Option Addr) (hd : Dg d) :
    Calls Tryd.prog 21 #[dv d, .int .i64 at_, .int .i64 n, .slice A m c] w fun x w' => x = .returned (.tuple #[dv zeros, .int .i64 1]) ∧ Below w.heap.size w w' := by
  by_cases h1 : n < 1
  · exact rclm_a at_ n h1 d w m c A hd
  by_cases h2 : 1099511627776 < n
  · exact rclm_b at_ n h1 h2 d w m c A hd
  by_cases h3 : at_ < 0
  · exact rclm_c at_ n h1 h2 h3 d w m c A hd
  by_cases h4 : n ≤ at_
  · exact rclm_d at_ n h1 h2 h3 h4 d w m c A hd
  have := rclm_e at_.toNat n.toNat (by omega) (by omega) (by omega) d w m c A (fun e => h ⟨by omega, by omega, by omega, by omega, e⟩) hd
  rwa [Int.toNat_of_nonneg (by omega), Int.toNat_of_nonneg (by omega)] at this
end Go.Proofs.YtceppmajbkmbdaaDoor
namespace Go.Proofs.YtceppmajbkmbdaaDoor
set_option linter.unusedSimpArgs false
set_option linter.unusedVariables false
open Go.RowKit

set_option maxRecDepth 100000 in
set_option maxHeartbeats 2000000 in
theorem rgrown_step (m : Nat) (IH : ∀ m', m' < m → ∀ (n : Nat) (whole : Bool), 1 ≤ n → n ≤ m' → ∀ w, Calls Tryd.prog 64 #[.int .i64 (n : Int), .int .i64 (m' : Int), .bool whole] w fun x w' => x = .returned (.int .i64 ((gLen n m' whole : Nat) : Int)) ∧ w' = w)
    (n : Nat) (whole : Bool) (h1 : 1 ≤ n) (hnm : n ≤ m) (hm : m ≤ 1099511627776) (w : World) :
    Calls Tryd.prog 64 #[.int .i64 (n : Int), .int .i64 (m : Int), .bool whole] w fun x w' => x = .returned (.int .i64 ((gLen n m whole : Nat) : Int)) ∧ w' = w := by
  have HI := hide IH
  by_cases e1 : n = m
  · subst e1
    rw [gLen_end]
    clear IH h1 hnm hm
    cases whole
    · go_enter Tryd.func64, Tryd.ntmps64
      go_wp2_with fail
      go_ret
      exact ⟨rfl, rfl⟩
    · go_enter Tryd.func64, Tryd.ntmps64
      go_wp2_with fail
      go_ret
      exact ⟨rfl, rfl⟩
  · have h2 : 2 ≤ m := by omega
    obtain ⟨k, hk⟩ : ∃ k, k = halfN m := ⟨_, rfl⟩
    have hkn := halfN_lt h2
    have hk0 := halfN_pos m
    rw [← hk] at hkn hk0
    have hlt := gLen_le m n whole h1 hnm
    have n1 : ¬ (n : Int) = (m : Int) := by omega
    have HK : Hid (k = halfN m ∧ 0 < k ∧ k < m ∧ 2 ≤ m ∧ m ≤ 1099511627776) := ⟨hk, hk0, hkn, h2, hm⟩
    by_cases hak : n ≤ k
    · have i1 : (n : Int) ≤ (k : Int) := by omega
      obtain ⟨L, hL⟩ : ∃ L, L = gLen n k whole := ⟨_, rfl⟩
      have e : gLen n m whole = 1 + L := by rw [hL, hk]; exact gLen_left whole h1 (by omega) (hk ▸ hak)
      rw [e] at hlt ⊢
      have wl : IntKind.i64.wrap (1 + (L : Int)) = ((1 + L : Nat) : Int) := (IntWalk.i64_in _ (by omega)).trans (by omega)
      have HL : Hid (L = gLen n k whole ∧ n ≤ k ∧ 1 ≤ n) := ⟨hL, hak, h1⟩
      clear IH h1 hnm hm e1 h2 hk hkn hk0 hlt hak hL e
      go_enter Tryd.func64, Tryd.ntmps64
      go_wp2_with fail
      refine (rhalf_any m (unhide HK).2.2.2.1 (unhide HK).2.2.2.2 w).mono ?_; rintro x W2 ⟨rfl, rfl⟩
      rw [← (unhide HK).1]
      go_wp2_with fail
      refine ((unhide HI) k (unhide HK).2.2.1 n whole (unhide HL).2.2 (unhide HL).2.1 W2).mono ?_; rintro x W3 ⟨rfl, rfl⟩
      rw [← (unhide HL).1]
      go_wp2_with fail
      go_ret
      exact ⟨rfl, rfl⟩
    · have i1 : ¬ (n : Int) ≤ (k : Int) := by omega
      obtain ⟨nk, hnk⟩ : ∃ a, a = n - k := ⟨_, rfl⟩
      obtain ⟨mk, hmk⟩ : ∃ a, a = m - k := ⟨_, rfl⟩
      obtain ⟨L, hL⟩ : ∃ L, L = gLen nk mk false := ⟨_, rfl⟩
      have e : gLen n m whole = 1 + L := by rw [hL, hnk, hmk, hk]; exact gLen_right whole h1 (by omega) (hk ▸ hak)
      rw [e] at hlt ⊢
      have wl : IntKind.i64.wrap (1 + (L : Int)) = ((1 + L : Nat) : Int) := (IntWalk.i64_in _ (by omega)).trans (by omega)
      have wa : IntKind.i64.wrap ((n : Int) - (k : Int)) = (nk : Int) := (IntWalk.i64_in _ (by omega)).trans (by omega)
      have wn : IntKind.i64.wrap ((m : Int) - (k : Int)) = (mk : Int) := (IntWalk.i64_in _ (by omega)).trans (by omega)
      have HL : Hid (L = gLen nk mk false ∧ mk < m ∧ 1 ≤ nk ∧ nk ≤ mk) := ⟨hL, by omega, by omega, by omega⟩
      clear IH h1 hnm hm e1 h2 hk hkn hk0 hlt hak hL e hnk hmk
      go_enter Tryd.func64, Tryd.ntmps64
      go_wp2_with fail
      refine (rhalf_any m (unhide HK).2.2.2.1 (unhide HK).2.2.2.2 w).mono ?_; rintro x W2 ⟨rfl, rfl⟩
      rw [← (unhide HK).1]
      go_wp2_with fail
      refine ((unhide HI) mk (unhide HL).2.1 nk false (unhide HL).2.2.1 (unhide HL).2.2.2 W2).mono ?_; rintro x W3 ⟨rfl, rfl⟩
      rw [← (unhide HL).1]
      go_wp2_with fail
      go_ret
      exact ⟨rfl, rfl⟩
theorem rgrown_all (m : Nat) : m ≤ 1099511627776 → ∀ (n : Nat) (whole : Bool), 1 ≤ n → n ≤ m → ∀ w, Calls Tryd.prog 64 #[.int .i64 (n : Int), .int .i64 (m : Int), .bool whole] w fun x w' => x = .returned (.int .i64 ((gLen n m whole : Nat) : Int)) ∧ w' = w := by
  induction m using Nat.strongRecOn with
  | _ m IH =>
    intro hm n whole h1 hnm w
    exact rgrown_step m (fun m' h' n' wh' h1' hn' w' => IH m' h' (by omega) n' wh' h1' hn' w') n whole h1 hnm hm w
theorem rgrown_any (n m : Nat) (h1 : 1 ≤ n) (hnm : n ≤ m) (hm : m ≤ 1099511627776) (whole : Bool) (w : World) : Calls Tryd.prog 64 #[.int .i64 (n : Int), .int .i64 (m : Int), .bool whole] w fun x w' => x = .returned (.int .i64 ((gLen n m whole : Nat) : Int)) ∧ w' = w := rgrown_all m hm n whole h1 hnm w

abbrev GrowthIs (w : World) (l : List (List Int)) (m n : Nat) (whole : Bool) (c : Nat) (A : Option Addr) : Prop :=
  Calls Tryd.prog 59 #[.slice A m c, .int .i64 (n : Int), .bool whole] w fun x w' => (∃ v, x = .returned v ∧ OwnD w' w.heap.size v (growP l n whole)) ∧ Below w.heap.size w w'
theorem OwnD.one {w W : World} {d : List Int} (hd : Dg d) (h : W = w.alloc (.cells (d.map (Value.int .u8)).toArray 24 (0, 0))) : OwnD W w.heap.size (.slice (some ⟨w.heap.size, 0, none⟩) 1 1) [d] := by
  rw [h]
  unfold OwnD
  rw [dcells_one]
  have h1 : (w.alloc (.cells (d.map (Value.int .u8)).toArray 24 (0, 0))).ownsRow w.heap.size 24 32 (.slice (some ⟨w.heap.size, 0, none⟩) 1 1) 1 (d.map (Value.int .u8)).toArray.toList := World.ownsRow_lit w (d.map (Value.int .u8)).toArray 1 (Nat.le_refl _) (by decide) (by simpa using hd.len)
  exact h1
set_option maxRecDepth 100000 in
set_option maxHeartbeats 4000000 in
theorem rgrowth_end (l : List (List Int)) (m : Nat) (hl : l.length = m) (h1 : 1 ≤ m) (h8 : m ≤ 100000000) (whole : Bool) (w : World) (c : Nat) (A : Option Addr) (hA : Ds w A l) (hc : m ≤ c) : GrowthIs w l m m whole c A := by
  have e0 := growP_end (l := l) whole
  rw [hl] at e0
  unfold GrowthIs
  rw [e0]
  cases whole
  · obtain ⟨T, hTd⟩ : ∃ d, d = treeP l := ⟨_, rfl⟩
    have hgT : Dg T := hTd ▸ dg_tree _
    obtain ⟨ct, hct⟩ : ∃ cs, cs = (T.map (Value.int .u8)).toArray := ⟨_, rfl⟩
    have hst : ct.size = 32 := by rw [hct]; simpa using hgT.len
    have HF2 : Hid (Calls Tryd.prog 16 #[.slice A m c] w fun x w' => x = .returned (.agg ct) ∧ Below w.heap.size w w') := by
      have := rtree_any w c A l hA (by omega) (by omega)
      rw [hl, treeD_ne (fun e => by rw [e] at hl; simp at hl; omega)] at this
      refine this.mono ?_
      rintro x w' ⟨rfl, h'⟩
      exact ⟨by rw [hct, hTd], h'⟩
    have HGT := hide hgT
    have HCT := hide hct
    rw [if_neg (by decide), ← hTd]
    clear e0 hl h1 h8 hA hc hTd hgT hct
    go_enter Tryd.func59, Tryd.ntmps59
    go_wp2_with fail
    refine (unhide HF2).mono ?_; rintro x W2 ⟨rfl, hB2⟩
    have HB2 := hide hB2
    clear hB2 HF2
    dsimp only
    rename_i KK hK
    refine hK _ _ ?_
    clear hK KK
    refine wpList_plain rfl fun Kt hKt => ?_
    go_simp
    refine hKt _ _ ?_
    clear hKt Kt
    rw [overwritten hst (by rfl)]
    generalize hY : W2.alloc _ = Y1
    have hBY : Below W2.heap.size W2 Y1 := hY ▸ (Below.refl _ _).alloc (Nat.le_refl _) _
    have ho : OwnD Y1 W2.heap.size (.slice (some ⟨W2.heap.size, 0, none⟩) 1 1) [T] := OwnD.one (unhide HGT) (by rw [← hY, unhide HCT])
    have HO := hide (ho.le (unhide HB2).size)
    have HB := hide (thenB (unhide HB2) hBY)
    clear ho hBY hY HB2
    try simp only [List.getElem_toArray, List.getElem_cons_zero, List.getElem_cons_succ, Act.put, List.setIfInBounds_toArray, List.set_cons_zero, List.set_cons_succ]
    go_wp2_with fail
    go_ret
    exact ⟨⟨_, rfl, unhide HO⟩, unhide HB⟩
  · rw [if_pos rfl]
    clear e0 hl h1 h8 hA hc
    go_enter Tryd.func59, Tryd.ntmps59
    go_wp2_with fail
    go_ret
    refine ⟨⟨_, rfl, ?_⟩, ?_⟩
    · exact World.ownsRow_lit w #[] 0 (Nat.le_refl _) (Nat.zero_le _) rfl
    · exact (Below.refl _ _).alloc (Nat.le_refl _) _
set_option maxRecDepth 100000 in
set_option maxHeartbeats 4000000 in
theorem rgrowth_step (m : Nat) (IH : ∀ (l : List (List Int)), l.length < m → ∀ (n : Nat) (whole : Bool) (w : World) (c : Nat) (A : Option Addr), 1 ≤ n → n ≤ l.length → Ds w A l → l.length ≤ c → GrowthIs w l l.length n whole c A)
    (l : List (List Int)) (hl : l.length = m) (h8 : m ≤ 100000000) (n : Nat) (whole : Bool) (w : World) (c : Nat) (A : Option Addr) (h1 : 1 ≤ n) (hnm : n ≤ m) (hA : Ds w A l) (hc : m ≤ c) : GrowthIs w l m n whole c A := by
  by_cases e1 : n = m
  · subst e1
    exact rgrowth_end l n hl h1 h8 whole w c A hA hc
  · have HI := hide IH
    obtain ⟨sb', so, rfl, hrg⟩ := hA.at_ (fun e => by rw [e] at hl; simp at hl; omega)
    have h2 : 2 ≤ m := by omega
    obtain ⟨k, hk⟩ : ∃ k, k = halfN m := ⟨_, rfl⟩
    have hkn := halfN_lt h2
    have hk0 := halfN_pos m
    rw [← hk] at hkn hk0
    have hpl := (growP_spec m l n whole hl h1 hnm).1
    have hll := gLen_le m n whole h1 hnm
    have n1 : ¬ (n : Int) = (m : Int) := by omega
    have k0 : (0 : Int) ≤ (k : Int) := Int.natCast_nonneg _
    have k1 : (k : Int) ≤ (m : Int) := by omega
    have k2 : (k : Int) ≤ (c : Int) := by omega
    have k3 : ¬ (c = k) := by omega
    have k4 : (m : Int) ≤ (c : Int) := by omega
    have HA := hide hA
    have hlt : (l.take k).length = k := by simp; omega
    have hld : (l.drop k).length = m - k := by simp; omega
    have HLL : Hid ((l.take k).length = k ∧ (l.drop k).length = m - k) := ⟨hlt, hld⟩
    have HK : Hid (k = halfN m ∧ 0 < k ∧ k < m ∧ 2 ≤ m ∧ m ≤ 100000000 ∧ m ≤ c ∧ l.length = m ∧ n ≤ m ∧ 1 ≤ n) := ⟨hk, hk0, hkn, h2, h8, hc, hl, hnm, h1⟩
    by_cases hak : n ≤ k
    · have i1 : (n : Int) ≤ (k : Int) := by omega
      have e := growP_left (l := l) (n := n) whole h1 (by omega) (by rw [hl, ← hk]; exact hak)
      rw [hl, ← hk] at e
      obtain ⟨q, hq⟩ : ∃ q, q = growP (l.take k) n whole := ⟨_, rfl⟩
      obtain ⟨T, hTd⟩ : ∃ d, d = treeP (l.drop k) := ⟨_, rfl⟩
      rw [← hq, ← hTd] at e
      have hql : q.length ≤ 100000000 := by rw [e, List.length_append] at hpl; omega
      unfold GrowthIs
      rw [e]
      have hgT : Dg T := hTd ▸ dg_tree _
      obtain ⟨ct, hct⟩ : ∃ cs, cs = (T.map (Value.int .u8)).toArray := ⟨_, rfl⟩
      have hst : ct.size = 32 := by rw [hct]; simpa using hgT.len
      have HF1 : Hid (∀ W, Below w.heap.size w W → Calls Tryd.prog 59 #[.slice (some ⟨sb', so, none⟩) k c, .int .i64 (n : Int), .bool whole] W fun x w' => (∃ v, x = .returned v ∧ OwnD w' W.heap.size v q) ∧ Below W.heap.size W w') := fun W hB => by
        have := (unhide HI) (l.take k) (by have := unhide HLL; have := unhide HK; omega) n whole W c (some ⟨sb', so, none⟩) (unhide HK).2.2.2.2.2.2.2.2 (by rw [(unhide HLL).1]; exact hak) (((unhide HA).keep hB).take k) (by have := unhide HLL; have := unhide HK; omega)
        unfold GrowthIs at this
        rw [(unhide HLL).1, ← hq] at this
        exact this
      have HF2 : Hid (∀ W, Below w.heap.size w W → Calls Tryd.prog 16 #[.slice (some ⟨sb', so + k * 32, none⟩) (m - k) (c - k)] W fun x w' => x = .returned (.agg ct) ∧ Below W.heap.size W w') := fun W hB => by
        have := rtree_any W (c - k) (some ⟨sb', so + k * 32, none⟩) (l.drop k) (((unhide HA).keep hB).drop k) (by have := unhide HLL; have := unhide HK; omega) (by have := unhide HLL; have := unhide HK; omega)
        rw [(unhide HLL).2, treeD_ne (fun e => by have h := (unhide HLL).2; rw [e] at h; simp at h; have := unhide HK; omega)] at this
        refine this.mono ?_
        rintro x w' ⟨rfl, h'⟩
        exact ⟨by rw [hct, hTd], h'⟩
      have HGT := hide hgT
      have HCT := hide hct
      have HQL := hide hql
      clear IH hl h8 h1 hnm hA hc hrg e1 h2 hk hkn hk0 hpl hll hlt hld hak e hq hTd hql hgT hct
      go_enter Tryd.func59, Tryd.ntmps59
      go_wp2_with fail
      refine (rhalf_any m (unhide HK).2.2.2.1 (by have := unhide HK; omega) w).mono ?_; rintro x W2 ⟨rfl, rfl⟩
      rw [← (unhide HK).1]
      obtain ⟨W, hW⟩ : ∃ W, W = W2.drewN 1 := ⟨_, rfl⟩
      have HW : Hid (W = W2.drewN 1) := hW
      have hSW := below_named HW
      clear hW
      go_wp2_with fail
      refine held (S := Below W2.heap.size W2) W HW (by kernel_rfl) ?_
      refine wpAnyH_take (i := 0) (v := ?_) rfl (by kernel_rfl) (by kernel_rfl) (by kernel_rfl) (fun _ _ _ h => h) (Or.inl ⟨by kernel_rfl, ?_⟩) (by assumption) ?_
      rotate_left
      · intro Wt hSt
        go_simp
        try with_reducible rfl
      try simp only [List.getElem_toArray, List.getElem_cons_zero, List.getElem_cons_succ, Act.put, List.setIfInBounds_toArray, List.set_cons_zero, List.set_cons_succ]
      refine wpAnyH_take (i := 1) (v := ?_) rfl (by kernel_rfl) (by kernel_rfl) (by kernel_rfl) (fun _ _ _ h => h) (Or.inl ⟨by kernel_rfl, ?_⟩) (by assumption) ?_
      rotate_left
      · intro Wt hSt
        go_simp
        try with_reducible rfl
      try simp only [List.getElem_toArray, List.getElem_cons_zero, List.getElem_cons_succ, Act.put, List.setIfInBounds_toArray, List.set_cons_zero, List.set_cons_succ]
      refine wpAnyH_take (i := 2) (v := ?_) rfl (by kernel_rfl) (by kernel_rfl) (by kernel_rfl) (fun _ _ _ h => h) (Or.inl ⟨by kernel_rfl, ?_⟩) (by assumption) ?_
      rotate_left
      · intro Wt hSt
        go_simp
        try with_reducible rfl
      try simp only [List.getElem_toArray, List.getElem_cons_zero, List.getElem_cons_succ, Act.put, List.setIfInBounds_toArray, List.set_cons_zero, List.set_cons_succ]
      refine wpAnyH_take (i := 3) (v := ?_) rfl (by kernel_rfl) (by kernel_rfl) (by kernel_rfl) (fun _ _ _ h => h) (Or.inl ⟨by kernel_rfl, ?_⟩) (by assumption) ?_
      rotate_left
      · intro Wt hSt
        go_simp
        try with_reducible rfl
      try simp only [List.getElem_toArray, List.getElem_cons_zero, List.getElem_cons_succ, Act.put, List.setIfInBounds_toArray, List.set_cons_zero, List.set_cons_succ]
      refine wpAnyH_take (i := 4) (v := ?_) rfl (by kernel_rfl) (by kernel_rfl) (by kernel_rfl) (fun _ _ _ h => h) (Or.inl ⟨by kernel_rfl, ?_⟩) (by assumption) ?_
      rotate_left
      · intro Wt hSt
        go_simp
        try with_reducible rfl
      try simp only [List.getElem_toArray, List.getElem_cons_zero, List.getElem_cons_succ, Act.put, List.setIfInBounds_toArray, List.set_cons_zero, List.set_cons_succ]
      refine wpAnyH_take (i := 6) (v := ?_) rfl (by kernel_rfl) (by kernel_rfl) (by kernel_rfl) (fun _ _ _ h => h) (Or.inl ⟨by kernel_rfl, ?_⟩) (by assumption) ?_
      rotate_left
      · intro Wt hSt
        go_simp
        try with_reducible rfl
      try simp only [List.getElem_toArray, List.getElem_cons_zero, List.getElem_cons_succ, Act.put, List.setIfInBounds_toArray, List.set_cons_zero, List.set_cons_succ]
      refine wpAnyH_take (i := 7) (v := ?_) rfl (by kernel_rfl) (by kernel_rfl) (by kernel_rfl) (fun _ _ _ h => h) (Or.inl ⟨by kernel_rfl, ?_⟩) (by assumption) ?_
      rotate_left
      · intro Wt hSt
        go_simp
        try with_reducible rfl
      try simp only [List.getElem_toArray, List.getElem_cons_zero, List.getElem_cons_succ, Act.put, List.setIfInBounds_toArray, List.set_cons_zero, List.set_cons_succ]
      refine wpAnyH_take (i := 8) (v := ?_) rfl (by kernel_rfl) (by kernel_rfl) (by kernel_rfl) (fun _ _ _ h => h) (Or.inl ⟨by kernel_rfl, ?_⟩) (by assumption) ?_
      rotate_left
      · intro Wt hSt
        go_simp
        try with_reducible rfl
      try simp only [List.getElem_toArray, List.getElem_cons_zero, List.getElem_cons_succ, Act.put, List.setIfInBounds_toArray, List.set_cons_zero, List.set_cons_succ]
      refine wpAnyH_chainOf [5, 9, 10, 11, 12] _ _ _ (by kernel_rfl) (by kernel_rfl) ?_
      simp only [List.filterMap_cons, List.filterMap_nil, List.getElem?_toArray, List.getElem?_cons_zero, List.getElem?_cons_succ]
      refine wpChain_step rfl fun K hK => ?_
      go_simp
      refine ((unhide HF1) _ hSW).mono ?_; rintro x wA ⟨⟨v1, rfl, hO1⟩, hA1⟩
      have hSA := thenB hSW hA1
      dsimp only
      refine hK _ _ hSA ?_
      clear hK K
      refine wpChain_step rfl fun K hK => ?_
      go_simp
      refine ((unhide HF2) _ hSA).mono ?_; rintro x wB ⟨rfl, hA2⟩
      have hSB := thenB hSA hA2
      have hO2 := hO1.later hA2
      dsimp only
      refine hK _ _ hSB ?_
      clear hK K
      refine wpChain_step rfl fun K hK => ?_
      go_simp
      rw [overwritten hst (by rfl)]
      generalize hY : wB.alloc _ = Y1
      have hBY : Below wB.heap.size wB Y1 := hY ▸ (Below.refl _ _).alloc (Nat.le_refl _) _
      have hoY : ByAt Y1 wB.heap.size 24 T := boxed wB Y1 T _ (by rw [← hY, unhide HCT]; rfl)
      have hSC := thenB hSB hBY
      have hO3 := hO2.later hBY
      refine hK _ _ hSC ?_
      clear hK K hY
      obtain ⟨v3, V3, hr3, hown3, hg3⟩ := run_append_D hO3 26 wB.heap.size 1 T (unhide HGT) hoY (by have := unhide HQL; omega) (Nat.le_trans hA1.size (Nat.le_trans hA2.size hBY.size))
      have hS3 := grown_below hSC hg3 (fun k hk => Nat.le_trans hSW.size (hO3.lt k hk).1)
      refine wpChain_step rfl fun K hK => ?_
      refine wp_append (.tmp 34) (.tmp 39) 26 rfl _ _ v3 V3 rfl rfl hr3 ?_
      refine hK _ _ hS3 ?_
      clear hK K
      refine wpChain_step rfl fun K hK => ?_
      go_simp
      refine hK _ _ hS3 (wpChain_nil ?_)
      clear hK K
      go_wp2_with fail
      go_ret
      exact ⟨⟨_, rfl, hown3.le hSW.size⟩, hS3⟩
    · have i1 : ¬ (n : Int) ≤ (k : Int) := by omega
      have e := growP_right (l := l) (n := n) whole h1 (by omega) (by rw [hl, ← hk]; exact hak)
      rw [hl, ← hk] at e
      obtain ⟨nk, hnk⟩ : ∃ a, a = n - k := ⟨_, rfl⟩
      have wa : IntKind.i64.wrap ((n : Int) - (k : Int)) = (nk : Int) := (IntWalk.i64_in _ (by omega)).trans (by omega)
      obtain ⟨q, hq⟩ : ∃ q, q = growP (l.drop k) nk false := ⟨_, rfl⟩
      obtain ⟨T, hTd⟩ : ∃ d, d = treeP (l.take k) := ⟨_, rfl⟩
      rw [← hnk, ← hq, ← hTd] at e
      have hql : q.length ≤ 100000000 := by rw [e, List.length_append] at hpl; omega
      unfold GrowthIs
      rw [e]
      have hgT : Dg T := hTd ▸ dg_tree _
      obtain ⟨ct, hct⟩ : ∃ cs, cs = (T.map (Value.int .u8)).toArray := ⟨_, rfl⟩
      have hst : ct.size = 32 := by rw [hct]; simpa using hgT.len
      have HF1 : Hid (∀ W, Below w.heap.size w W → Calls Tryd.prog 59 #[.slice (some ⟨sb', so + k * 32, none⟩) (m - k) (c - k), .int .i64 (nk : Int), .bool false] W fun x w' => (∃ v, x = .returned v ∧ OwnD w' W.heap.size v q) ∧ Below W.heap.size W w') := fun W hB => by
        have := (unhide HI) (l.drop k) (by have := unhide HLL; have := unhide HK; omega) nk false W (c - k) (some ⟨sb', so + k * 32, none⟩) (by omega) (by rw [(unhide HLL).2]; have := unhide HK; omega) (((unhide HA).keep hB).drop k) (by have := unhide HLL; have := unhide HK; omega)
        unfold GrowthIs at this
        rw [(unhide HLL).2, ← hq] at this
        exact this
      have HF2 : Hid (∀ W, Below w.heap.size w W → Calls Tryd.prog 16 #[.slice (some ⟨sb', so, none⟩) k c] W fun x w' => x = .returned (.agg ct) ∧ Below W.heap.size W w') := fun W hB => by
        have := rtree_any W c (some ⟨sb', so, none⟩) (l.take k) (((unhide HA).keep hB).take k) (by have := unhide HLL; have := unhide HK; omega) (by have := unhide HLL; have := unhide HK; omega)
        rw [(unhide HLL).1, treeD_ne (fun e => by have h := (unhide HLL).1; rw [e] at h; simp at h; have := unhide HK; omega)] at this
        refine this.mono ?_
        rintro x w' ⟨rfl, h'⟩
        exact ⟨by rw [hct, hTd], h'⟩
      have HGT := hide hgT
      have HCT := hide hct
      have HQL := hide hql
      clear IH hl h8 h1 hnm hA hc hrg e1 h2 hk hkn hk0 hpl hll hlt hld hak e hq hTd hql hgT hct hnk
      go_enter Tryd.func59, Tryd.ntmps59
      go_wp2_with fail
      refine (rhalf_any m (unhide HK).2.2.2.1 (by have := unhide HK; omega) w).mono ?_; rintro x W2 ⟨rfl, rfl⟩
      rw [← (unhide HK).1]
      obtain ⟨W, hW⟩ : ∃ W, W = W2.drewN 1 := ⟨_, rfl⟩
      have HW : Hid (W = W2.drewN 1) := hW
      have hSW := below_named HW
      clear hW
      go_wp2_with fail
      refine held (S := Below W2.heap.size W2) W HW (by kernel_rfl) ?_
      refine wpAnyH_take (i := 0) (v := ?_) rfl (by kernel_rfl) (by kernel_rfl) (by kernel_rfl) (fun _ _ _ h => h) (Or.inl ⟨by kernel_rfl, ?_⟩) (by assumption) ?_
      rotate_left
      · intro Wt hSt
        go_simp
        try with_reducible rfl
      try simp only [List.getElem_toArray, List.getElem_cons_zero, List.getElem_cons_succ, Act.put, List.setIfInBounds_toArray, List.set_cons_zero, List.set_cons_succ]
      refine wpAnyH_take (i := 1) (v := ?_) rfl (by kernel_rfl) (by kernel_rfl) (by kernel_rfl) (fun _ _ _ h => h) (Or.inl ⟨by kernel_rfl, ?_⟩) (by assumption) ?_
      rotate_left
      · intro Wt hSt
        go_simp
        try with_reducible rfl
      try simp only [List.getElem_toArray, List.getElem_cons_zero, List.getElem_cons_succ, Act.put, List.setIfInBounds_toArray, List.set_cons_zero, List.set_cons_succ]
      refine wpAnyH_take (i := 2) (v := ?_) rfl (by kernel_rfl) (by kernel_rfl) (by kernel_rfl) (fun _ _ _ h => h) (Or.inl ⟨by kernel_rfl, ?_⟩) (by assumption) ?_
      rotate_left
      · intro Wt hSt
        go_simp
        try with_reducible rfl
      try simp only [List.getElem_toArray, List.getElem_cons_zero, List.getElem_cons_succ, Act.put, List.setIfInBounds_toArray, List.set_cons_zero, List.set_cons_succ]
      refine wpAnyH_take (i := 3) (v := ?_) rfl (by kernel_rfl) (by kernel_rfl) (by kernel_rfl) (fun _ _ _ h => h) (Or.inl ⟨by kernel_rfl, ?_⟩) (by assumption) ?_
      rotate_left
      · intro Wt hSt
        go_simp
        try with_reducible rfl
      try simp only [List.getElem_toArray, List.getElem_cons_zero, List.getElem_cons_succ, Act.put, List.setIfInBounds_toArray, List.set_cons_zero, List.set_cons_succ]
      refine wpAnyH_take (i := 4) (v := ?_) rfl (by kernel_rfl) (by kernel_rfl) (by kernel_rfl) (fun _ _ _ h => h) (Or.inl ⟨by kernel_rfl, ?_⟩) (by assumption) ?_
      rotate_left
      · intro Wt hSt
        go_simp
        try with_reducible rfl
      try simp only [List.getElem_toArray, List.getElem_cons_zero, List.getElem_cons_succ, Act.put, List.setIfInBounds_toArray, List.set_cons_zero, List.set_cons_succ]
      refine wpAnyH_take (i := 5) (v := ?_) rfl (by kernel_rfl) (by kernel_rfl) (by kernel_rfl) (fun _ _ _ h => h) (Or.inl ⟨by kernel_rfl, ?_⟩) (by assumption) ?_
      rotate_left
      · intro Wt hSt
        go_simp
        try with_reducible rfl
      try simp only [List.getElem_toArray, List.getElem_cons_zero, List.getElem_cons_succ, Act.put, List.setIfInBounds_toArray, List.set_cons_zero, List.set_cons_succ]
      refine wpAnyH_take (i := 7) (v := ?_) rfl (by kernel_rfl) (by kernel_rfl) (by kernel_rfl) (fun _ _ _ h => h) (Or.inl ⟨by kernel_rfl, ?_⟩) (by assumption) ?_
      rotate_left
      · intro Wt hSt
        go_simp
        try with_reducible rfl
      try simp only [List.getElem_toArray, List.getElem_cons_zero, List.getElem_cons_succ, Act.put, List.setIfInBounds_toArray, List.set_cons_zero, List.set_cons_succ]
      refine wpAnyH_take (i := 8) (v := ?_) rfl (by kernel_rfl) (by kernel_rfl) (by kernel_rfl) (fun _ _ _ h => h) (Or.inl ⟨by kernel_rfl, ?_⟩) (by assumption) ?_
      rotate_left
      · intro Wt hSt
        go_simp
        try with_reducible rfl
      try simp only [List.getElem_toArray, List.getElem_cons_zero, List.getElem_cons_succ, Act.put, List.setIfInBounds_toArray, List.set_cons_zero, List.set_cons_succ]
      refine wpAnyH_take (i := 9) (v := ?_) rfl (by kernel_rfl) (by kernel_rfl) (by kernel_rfl) (fun _ _ _ h => h) (Or.inl ⟨by kernel_rfl, ?_⟩) (by assumption) ?_
      rotate_left
      · intro Wt hSt
        go_simp
        try with_reducible rfl
      try simp only [List.getElem_toArray, List.getElem_cons_zero, List.getElem_cons_succ, Act.put, List.setIfInBounds_toArray, List.set_cons_zero, List.set_cons_succ]
      refine wpAnyH_chainOf [6, 10, 11, 12, 13] _ _ _ (by kernel_rfl) (by kernel_rfl) ?_
      simp only [List.filterMap_cons, List.filterMap_nil, List.getElem?_toArray, List.getElem?_cons_zero, List.getElem?_cons_succ]
      refine wpChain_step rfl fun K hK => ?_
      go_simp
      refine ((unhide HF1) _ hSW).mono ?_; rintro x wA ⟨⟨v1, rfl, hO1⟩, hA1⟩
      have hSA := thenB hSW hA1
      dsimp only
      refine hK _ _ hSA ?_
      clear hK K
      refine wpChain_step rfl fun K hK => ?_
      go_simp
      refine ((unhide HF2) _ hSA).mono ?_; rintro x wB ⟨rfl, hA2⟩
      have hSB := thenB hSA hA2
      have hO2 := hO1.later hA2
      dsimp only
      refine hK _ _ hSB ?_
      clear hK K
      refine wpChain_step rfl fun K hK => ?_
      go_simp
      rw [overwritten hst (by rfl)]
      generalize hY : wB.alloc _ = Y1
      have hBY : Below wB.heap.size wB Y1 := hY ▸ (Below.refl _ _).alloc (Nat.le_refl _) _
      have hoY : ByAt Y1 wB.heap.size 24 T := boxed wB Y1 T _ (by rw [← hY, unhide HCT]; rfl)
      have hSC := thenB hSB hBY
      have hO3 := hO2.later hBY
      refine hK _ _ hSC ?_
      clear hK K hY
      obtain ⟨v3, V3, hr3, hown3, hg3⟩ := run_append_D hO3 26 wB.heap.size 1 T (unhide HGT) hoY (by have := unhide HQL; omega) (Nat.le_trans hA1.size (Nat.le_trans hA2.size hBY.size))
      have hS3 := grown_below hSC hg3 (fun k hk => Nat.le_trans hSW.size (hO3.lt k hk).1)
      refine wpChain_step rfl fun K hK => ?_
      refine wp_append (.tmp 47) (.tmp 52) 26 rfl _ _ v3 V3 rfl rfl hr3 ?_
      refine hK _ _ hS3 ?_
      clear hK K
      refine wpChain_step rfl fun K hK => ?_
      go_simp
      refine hK _ _ hS3 (wpChain_nil ?_)
      clear hK K
      go_wp2_with fail
      go_ret
      exact ⟨⟨_, rfl, hown3.le hSW.size⟩, hS3⟩
theorem rgrowth_all (m : Nat) : m ≤ 100000000 → ∀ (l : List (List Int)), l.length = m → ∀ (n : Nat) (whole : Bool) (w : World) (c : Nat) (A : Option Addr), 1 ≤ n → n ≤ m → Ds w A l → m ≤ c → GrowthIs w l m n whole c A := by
  induction m using Nat.strongRecOn with
  | _ m IH =>
    intro h8 l hl n whole w c A h1 hnm hA hc
    exact rgrowth_step m (fun l' hl' n' wh' w' c' A' h1' hn' hA' hc' => IH l'.length hl' (by omega) l' rfl n' wh' w' c' A' h1' hn' hA' hc') l hl h8 n whole w c A h1 hnm hA hc
set_option maxRecDepth 100000 in
set_option maxHeartbeats 1000000 in
theorem rGrow_ok (l : List (List Int)) (h8 : l.length ≤ 100000000) (n : Nat) (w : World) (c : Nat) (A : Option Addr) (h1 : 1 ≤ n) (hnm : n ≤ l.length) (hA : Ds w A l) (hc : l.length ≤ c) :
    Calls Tryd.prog 23 #[.slice A l.length c, .int .i64 (n : Int)] w fun x w' => (∃ v, x = .returned (.tuple #[v, .int .i64 0]) ∧ OwnD w' w.heap.size v (growP l n true)) ∧ Below w.heap.size w w' := by
  have HF := hide (rgrowth_all l.length h8 l rfl n true w c A h1 hnm hA hc)
  obtain ⟨m, hm⟩ : ∃ n, n = l.length := ⟨_, rfl⟩
  have i1 : ¬ (n : Int) < 1 := by omega
  have i2 : ¬ (m : Int) < (n : Int) := by omega
  unfold GrowthIs at HF
  rw [← hm] at HF ⊢
  clear h8 h1 hnm hA hc hm
  go_enter Tryd.func23, Tryd.ntmps23
  go_wp2_with fail
  refine (unhide HF).mono ?_; rintro x W2 ⟨⟨v, rfl, ho⟩, hb⟩
  have HO := hide ho
  have HB := hide hb
  clear ho hb HF
  go_wp2_with fail
  go_ret2
  exact ⟨⟨_, rfl, unhide HO⟩, unhide HB⟩
set_option maxRecDepth 100000 in
set_option maxHeartbeats 1000000 in
theorem rGrow_bad (m : Nat) (n : Int) (w : World) (c : Nat) (A : Option Addr) (h : n < 1 ∨ (m : Int) < n) :
    Calls Tryd.prog 23 #[.slice A m c, .int .i64 n] w fun x w' => x = .returned (.tuple #[.slice none 0 0, .int .i64 1]) ∧ w' = w := by
  by_cases i1 : n < 1
  · clear h
    go_enter Tryd.func23, Tryd.ntmps23
    go_wp2_with fail
    go_ret2
    exact ⟨rfl, rfl⟩
  · have i2 : (m : Int) < n := by omega
    clear h
    go_enter Tryd.func23, Tryd.ntmps23
    go_wp2_with fail
    go_ret2
    exact ⟨rfl, rfl⟩
end Go.Proofs.YtceppmajbkmbdaaDoor
namespace Go.Proofs.YtceppmajbkmbdaaDoor
set_option linter.unusedSimpArgs false
set_option linter.unusedVariables false
open Go.RowKit

def perr (n : Nat) (i : Int) : Int := if 0 ≤ i ∧ i < n then 0 else 1
def pathI (l : List (List Int)) (i : Int) : List (List Int) := if 0 ≤ i ∧ i < l.length then pathP l i.toNat else []
theorem dg_pathI (l : List (List Int)) (i : Int) : ∀ d ∈ pathI l i, Dg d := by
  unfold pathI
  split
  · rename_i h
    exact (pathP_spec l.length l i.toNat rfl (by omega)).2.1
  · intro d hd; cases hd
theorem pathI_len (l : List (List Int)) (i : Int) : (pathI l i).length ≤ l.length := by
  unfold pathI
  split
  · rename_i h
    rw [(pathP_spec l.length l i.toNat rfl (by omega)).1]
    have := lenP_lt l.length i.toNat (by omega)
    omega
  · exact Nat.zero_le _
abbrev PathC (F : FuncId) (l : List (List Int)) (i : Int) (A : Option Addr) (c : Nat) (w : World) : Prop :=
  Calls Tryd.prog F #[.slice A l.length c, .int .i64 i] w fun x w' => (∃ v, x = .returned (.tuple #[v, .int .i64 (perr l.length i)]) ∧ OwnD w' w.heap.size v (pathI l i)) ∧ Below w.heap.size w w'
theorem Path_all (l : List (List Int)) (i : Int) (A : Option Addr) (c : Nat) (w : World) (hA : Ds w A l) (hc : l.length ≤ c) (h8 : l.length ≤ 100000000) (hT : DTab w) : PathC 17 l i A c w := by
  unfold PathC perr pathI
  by_cases h : 0 ≤ i ∧ i < l.length
  · obtain ⟨k, rfl⟩ : ∃ k : Nat, i = k := ⟨i.toNat, by omega⟩
    rw [if_pos h, if_pos h, Int.toNat_natCast]
    exact Path_ok l k A c w hA hc h8 (by omega) hT
  · rw [if_neg h, if_neg h]
    refine (Path_bad i l.length c A (by omega) w).mono ?_
    rintro x w' ⟨rfl, rfl⟩
    exact ⟨⟨_, rfl, World.ownsRow_nil _ _ _ _⟩, Below.refl _ _⟩
theorem rPath_all (l : List (List Int)) (i : Int) (A : Option Addr) (c : Nat) (w : World) (hA : Ds w A l) (hc : l.length ≤ c) (h8 : l.length ≤ 100000000) : PathC 18 l i A c w := by
  unfold PathC perr pathI
  by_cases h : 0 ≤ i ∧ i < l.length
  · obtain ⟨k, rfl⟩ : ∃ k : Nat, i = k := ⟨i.toNat, by omega⟩
    rw [if_pos h, if_pos h, Int.toNat_natCast]
    exact rPath_ok l h8 k w c A (by omega) hA hc
  · rw [if_neg h, if_neg h]
    refine (rPath_bad l.length i w c A (by omega)).mono ?_
    rintro x w' ⟨rfl, rfl⟩
    exact ⟨⟨_, rfl, World.ownsRow_nil _ _ _ _⟩, Below.refl _ _⟩

def climbOk (at_ n : Int) (m : Nat) : Prop := 1 ≤ n ∧ n ≤ 1099511627776 ∧ 0 ≤ at_ ∧ at_ < n ∧ m = lenP n.toNat at_.toNat
instance (at_ n : Int) (m : Nat) : Decidable (climbOk at_ n m) := by unfold climbOk; infer_instance
def cerr (at_ n : Int) (m : Nat) : Int := if climbOk at_ n m then 0 else 1
def climbI (d : List Int) (at_ n : Int) (p : List (List Int)) : List Int := if climbOk at_ n p.length then climbP d n.toNat at_.toNat p else zeros
theorem climbI_len (d : List Int) (at_ n : Int) (p : List (List Int)) : (climbI d at_ n p).length = 32 := by
  unfold climbI
  split
  · exact (dg_climb _ _ _ _).len
  · rfl
abbrev ClimbC (F : FuncId) (d : List Int) (at_ n : Int) (p : List (List Int)) (A : Option Addr) (c : Nat) (w : World) : Prop :=
  Calls Tryd.prog F #[dv d, .int .i64 at_, .int .i64 n, .slice A p.length c] w fun x w' => x = .returned (.tuple #[dv (climbI d at_ n p), .int .i64 (cerr at_ n p.length)]) ∧ Below w.heap.size w w'
theorem Climb_all (d : List Int) (hd : Dg d) (at_ n : Int) (p : List (List Int)) (A : Option Addr) (c : Nat) (w : World) (hA : Ds w A p) (hc : p.length ≤ c) (hT : DTab w) : ClimbC 20 d at_ n p A c w := by
  unfold ClimbC cerr climbI
  by_cases h : climbOk at_ n p.length
  · rw [if_pos h, if_pos h]
    obtain ⟨h1, h2, h3, h4, h5⟩ := h
    obtain ⟨k, rfl⟩ : ∃ k : Nat, n = k := ⟨n.toNat, by omega⟩
    obtain ⟨a, rfl⟩ : ∃ a : Nat, at_ = a := ⟨at_.toNat, by omega⟩
    rw [Int.toNat_natCast, Int.toNat_natCast] at h5 ⊢
    exact Climb_ok a k (by omega) (by omega) (by omega) p h5 d w p.length c A rfl hd hT hc hA fun W hb hh ht hds => climb_any k (by omega) a d p W hb p.length c A (by omega) (by omega) rfl h5 hc hd hds hh ht
  · rw [if_neg h, if_neg h]
    exact Climb_bad at_ n p.length h d w c A hd hT
theorem rClimb_all (d : List Int) (hd : Dg d) (at_ n : Int) (p : List (List Int)) (A : Option Addr) (c : Nat) (w : World) (hA : Ds w A p) (hc : p.length ≤ c) : ClimbC 21 d at_ n p A c w := by
  unfold ClimbC cerr climbI
  by_cases h : climbOk at_ n p.length
  · rw [if_pos h, if_pos h]
    obtain ⟨h1, h2, h3, h4, h5⟩ := h
    obtain ⟨k, rfl⟩ : ∃ k : Nat, n = k := ⟨n.toNat, by omega⟩
    obtain ⟨a, rfl⟩ : ∃ a : Nat, at_ = a := ⟨at_.toNat, by omega⟩
    rw [Int.toNat_natCast, Int.toNat_natCast] at h5 ⊢
    exact rClimb_ok a k (by omega) (by omega) (by omega) p h5 d w p.length c A rfl hd hc hA
  · rw [if_neg h, if_neg h]
    exact rClimb_bad at_ n p.length h d w c A hd

def gerr (m : Nat) (n : Int) : Int := if 1 ≤ n ∧ n ≤ m then 0 else 1
def growI (l : List (List Int)) (n : Int) : List (List Int) := if 1 ≤ n ∧ n ≤ l.length then growP l n.toNat true else []
theorem dg_growI (l : List (List Int)) (n : Int) : ∀ d ∈ growI l n, Dg d := by
  unfold growI
  split
  · rename_i h
    exact (growP_spec l.length l n.toNat true rfl (by omega) (by omega)).2
  · intro d hd; cases hd
theorem growI_len (l : List (List Int)) (n : Int) : (growI l n).length ≤ l.length := by
  unfold growI
  split
  · rename_i h
    rw [(growP_spec l.length l n.toNat true rfl (by omega) (by omega)).1]
    exact gLen_le l.length n.toNat true (by omega) (by omega)
  · exact Nat.zero_le _
abbrev GrowC (F : FuncId) (l : List (List Int)) (n : Int) (A : Option Addr) (c : Nat) (w : World) : Prop :=
  Calls Tryd.prog F #[.slice A l.length c, .int .i64 n] w fun x w' => (∃ v, x = .returned (.tuple #[v, .int .i64 (gerr l.length n)]) ∧ OwnD w' w.heap.size v (growI l n)) ∧ Below w.heap.size w w'
theorem Grow_all (l : List (List Int)) (n : Int) (A : Option Addr) (c : Nat) (w : World) (hA : Ds w A l) (hc : l.length ≤ c) (h8 : l.length ≤ 100000000) (hT : DTab w) : GrowC 22 l n A c w := by
  unfold GrowC gerr growI
  by_cases h : 1 ≤ n ∧ n ≤ l.length
  · obtain ⟨k, rfl⟩ : ∃ k : Nat, n = k := ⟨n.toNat, by omega⟩
    rw [if_pos h, if_pos h, Int.toNat_natCast]
    exact Grow_ok l k A c w hA hc h8 (by omega) (by omega) hT
  · rw [if_neg h, if_neg h]
    refine (Grow_bad n l.length c A (by omega) w).mono ?_
    rintro x w' ⟨rfl, hb⟩
    exact ⟨⟨_, rfl, World.ownsRow_nil _ _ _ _⟩, hb⟩
theorem rGrow_all (l : List (List Int)) (n : Int) (A : Option Addr) (c : Nat) (w : World) (hA : Ds w A l) (hc : l.length ≤ c) (h8 : l.length ≤ 100000000) : GrowC 23 l n A c w := by
  unfold GrowC gerr growI
  by_cases h : 1 ≤ n ∧ n ≤ l.length
  · obtain ⟨k, rfl⟩ : ∃ k : Nat, n = k := ⟨n.toNat, by omega⟩
    rw [if_pos h, if_pos h, Int.toNat_natCast]
    exact rGrow_ok l h8 k w c A (by omega) (by omega) hA hc
  · rw [if_neg h, if_neg h]
    refine (rGrow_bad l.length n w c A (by omega)).mono ?_
    rintro x w' ⟨rfl, rfl⟩
    exact ⟨⟨_, rfl, World.ownsRow_nil _ _ _ _⟩, Below.refl _ _⟩
end Go.Proofs.YtceppmajbkmbdaaDoor
namespace Go.Proofs.YtceppmajbkmbdaaDoor
set_option linter.unusedSimpArgs false
set_option linter.unusedVariables false
open Go.RowKit

/-- two digests are compared in a region that draws its order -/
theorem yieldsIf_neq3 {ops : Array Oper} {S : World → Prop} {o : Oper} {a : Act} (hw : Region.wanted o (yielded ops a.tmps) = true) (x y : Operand) (t : TypeId) (ho : o.op = .binOp .neq 24 x y t) (l k : List Int) (hx : a.eval x = dv l) (hy : a.eval y = dv k) (hl : l.length = 32) (hk : k.length = 32) (b : Bool) (hb : b = !decide (l = k)) :
    YieldsIf Tryd.prog ops S o (.bool b) a := by
  subst hb
  refine .inl ⟨hw, fun w _ => ?_⟩
  unfold execOp
  simp only [ho, hx, hy, Sem.run_bind, run_eqGuard_agg w _ _ _ _ _ _ guard_dg, run_neq_struct, eq_dg l k hl hk w, Result.andThen_ok, Sem.run_pure]
theorem neq_same3 (l : List Int) : false = !decide (l = l) := by simp
set_option maxRecDepth 100000 in
set_option maxHeartbeats 4000000 in
theorem rsame_any (w : World) (n : Nat) (l : List (List Int)) (hl : n = l.length) (hn : n ≤ 1000) (A1 : Option Addr) (c1 : Nat) (hc1 : n ≤ c1) (h1 : Ds w A1 l) (A2 : Option Addr) (c2 : Nat) (hc2 : n ≤ c2) (h2 : Ds w A2 l) :
    Calls Tryd.prog 19 #[.slice A1 n c1, .slice A2 n c2] w fun x w' => x = .returned (.bool true) ∧ Below w.heap.size w w' := by
  have H1 := hide h1; have H2 := hide h2
  have HN : Hid (n = l.length ∧ n ≤ 1000) := ⟨hl, hn⟩
  have k1 : (n : Int) ≤ (c1 : Int) := by omega
  have k2 : (n : Int) ≤ (c2 : Int) := by omega
  clear h1 h2 hl hn hc1 hc2
  go_enter Tryd.func19, Tryd.ntmps19
  go_wp2_with fail
  go_loopg [5] n (fun g y5 wx => ∃ j : Nat, g + j = n ∧ y5 = .int .i64 (j : Int) ∧ Below w.heap.size w wx)
  case atStart => exact ⟨0, rfl, rfl, Below.refl _ _⟩
  case round =>
    obtain ⟨j, hj, rfl, hb⟩ := hrel
    cases gk with
    | zero =>
      obtain rfl : j = n := by omega
      have HB := hide hb
      clear hb hj
      go_wp2_with fail
      go_ret
      exact ⟨rfl, unhide HB⟩
    | succ g =>
      obtain ⟨d, hd⟩ : ∃ x, l[j]? = some x := ⟨_, List.getElem?_eq_getElem (by have := (unhide HN).1; omega)⟩
      have hne : l ≠ [] := fun e => by rw [e] at hd; simp at hd
      obtain ⟨b1, o1, rfl, hr1⟩ := (unhide H1).at_ hne
      obtain ⟨b2, o2, rfl, hr2⟩ := (unhide H2).at_ hne
      have hg : Dg d := (unhide H1).dg d (List.mem_of_getElem? hd)
      have HG := hide hg
      have HR1 := hide (hr1 j d hd); have HR2 := hide (hr2 j d hd)
      have j1 : (j : Int) < (n : Int) := by omega
      have j0 : (0 : Int) ≤ (j : Int) := Int.natCast_nonneg _
      have jM : (j : Int) ≤ 1000 := by have := unhide HN; omega
      have HB := hide hb; have HJ := hide hj
      obtain ⟨cd, hcd⟩ : ∃ cs, cs = (d.map (Value.int .u8)).toArray := ⟨_, rfl⟩
      have HCD := hide hcd
      clear hd hne hr1 hr2 hg hb hj hcd
      go_wp2_with fail
      obtain ⟨W, hW⟩ : ∃ W, W = wr.drewN 1 := ⟨_, rfl⟩
      have HW : Hid (W = wr.drewN 1) := hW
      have hS : Below w.heap.size w W := thenB (unhide HB) (below_named HW)
      clear hW
      refine held (S := Below w.heap.size w) W HW (by kernel_rfl) ?_
      refine wpAnyH_take (i := 0) (v := ?_) rfl (by kernel_rfl) (by kernel_rfl) (by kernel_rfl) (fun _ _ _ h => h) (Or.inl ⟨by kernel_rfl, ?_⟩) (by assumption) ?_
      rotate_left
      · intro Wt hSt
        go_simp
        try with_reducible rfl
      try simp only [List.getElem_toArray, List.getElem_cons_zero, List.getElem_cons_succ, Act.put, List.setIfInBounds_toArray, List.set_cons_zero, List.set_cons_succ]
      refine wpAnyH_take (i := 1) (v := ?_) rfl (by kernel_rfl) (by kernel_rfl) (by kernel_rfl) (fun _ _ _ h => h) (Or.inl ⟨by kernel_rfl, ?_⟩) (by assumption) ?_
      rotate_left
      · intro Wt hSt
        go_simp
        try with_reducible rfl
      try simp only [List.getElem_toArray, List.getElem_cons_zero, List.getElem_cons_succ, Act.put, List.setIfInBounds_toArray, List.set_cons_zero, List.set_cons_succ]
      refine wpAnyH_take (i := 2) (v := ?_) rfl (by kernel_rfl) (by kernel_rfl) (by kernel_rfl) (fun _ _ _ h => h) (Or.inl ⟨by kernel_rfl, ?_⟩) (by assumption) ?_
      rotate_left
      · intro Wt hSt
        go_simp
        try with_reducible rfl
      try simp only [List.getElem_toArray, List.getElem_cons_zero, List.getElem_cons_succ, Act.put, List.setIfInBounds_toArray, List.set_cons_zero, List.set_cons_succ]
      refine wpAnyH_take (i := 3) (v := .agg cd) rfl (by kernel_rfl) (by kernel_rfl) (by kernel_rfl) (fun _ _ _ h => h) (by rw [unhide HCD]; exact yieldsIf_load_mid (by kernel_rfl) 24 (.tmp 19) rfl b1 (o1 + j * 32) rfl (d.map (Value.int .u8)) _ (fun W hS => rangeAt_keep (unhide HR1) hS) Tryd.underlying24 rfl (by rw [List.length_map, (unhide HG).len]; exact info32)) (by assumption) ?_
      try simp only [List.getElem_toArray, List.getElem_cons_zero, List.getElem_cons_succ, Act.put, List.setIfInBounds_toArray, List.set_cons_zero, List.set_cons_succ]
      refine wpAnyH_take (i := 4) (v := ?_) rfl (by kernel_rfl) (by kernel_rfl) (by kernel_rfl) (fun _ _ _ h => h) (Or.inl ⟨by kernel_rfl, ?_⟩) (by assumption) ?_
      rotate_left
      · intro Wt hSt
        go_simp
        try with_reducible rfl
      try simp only [List.getElem_toArray, List.getElem_cons_zero, List.getElem_cons_succ, Act.put, List.setIfInBounds_toArray, List.set_cons_zero, List.set_cons_succ]
      refine wpAnyH_take (i := 5) (v := ?_) rfl (by kernel_rfl) (by kernel_rfl) (by kernel_rfl) (fun _ _ _ h => h) (Or.inl ⟨by kernel_rfl, ?_⟩) (by assumption) ?_
      rotate_left
      · intro Wt hSt
        go_simp
        try with_reducible rfl
      try simp only [List.getElem_toArray, List.getElem_cons_zero, List.getElem_cons_succ, Act.put, List.setIfInBounds_toArray, List.set_cons_zero, List.set_cons_succ]
      refine wpAnyH_take (i := 6) (v := ?_) rfl (by kernel_rfl) (by kernel_rfl) (by kernel_rfl) (fun _ _ _ h => h) (Or.inl ⟨by kernel_rfl, ?_⟩) (by assumption) ?_
      rotate_left
      · intro Wt hSt
        go_simp
        try with_reducible rfl
      try simp only [List.getElem_toArray, List.getElem_cons_zero, List.getElem_cons_succ, Act.put, List.setIfInBounds_toArray, List.set_cons_zero, List.set_cons_succ]
      refine wpAnyH_take (i := 7) (v := .agg cd) rfl (by kernel_rfl) (by kernel_rfl) (by kernel_rfl) (fun _ _ _ h => h) (by rw [unhide HCD]; exact yieldsIf_load_mid (by kernel_rfl) 24 (.tmp 23) rfl b2 (o2 + j * 32) rfl (d.map (Value.int .u8)) _ (fun W hS => rangeAt_keep (unhide HR2) hS) Tryd.underlying24 rfl (by rw [List.length_map, (unhide HG).len]; exact info32)) (by assumption) ?_
      try simp only [List.getElem_toArray, List.getElem_cons_zero, List.getElem_cons_succ, Act.put, List.setIfInBounds_toArray, List.set_cons_zero, List.set_cons_succ]
      refine wpAnyH_take (i := 8) (v := .bool false) rfl (by kernel_rfl) (by kernel_rfl) (by kernel_rfl) (fun _ _ _ h => h) (by refine yieldsIf_neq3 ?_ (.tmp 20) (.tmp 24) 24 ?_ d d ?_ ?_ (unhide HG).len (unhide HG).len false (neq_same3 d); (· kernel_rfl); (· rfl); (· show Value.agg cd = _; rw [unhide HCD]); (· show Value.agg cd = _; rw [unhide HCD])) (by assumption) ?_
      try simp only [List.getElem_toArray, List.getElem_cons_zero, List.getElem_cons_succ, Act.put, List.setIfInBounds_toArray, List.set_cons_zero, List.set_cons_succ]
      refine wpAnyH_chainOf [] _ _ _ (by kernel_rfl) (by kernel_rfl) ?_
      refine wpChain_nil ?_
      have HS := hide hS
      clear hS
      go_wp2_with fail
      go_roundg g
      case measure => omega
      case rel => exact ⟨j + 1, by have := unhide HJ; omega, by push_cast; rfl, unhide HS⟩
end Go.Proofs.YtceppmajbkmbdaaDoor
namespace Go.Proofs.YtceppmajbkmbdaaDoor
set_option linter.unusedSimpArgs false
set_option linter.unusedVariables false
open Go.RowKit

def bothP (bf : List Int) (n m : Nat) (whole : Bool) (p : List (List Int)) : List Int × List Int :=
  if h : m ≤ n ∨ m ≤ 1 then (if whole then (bf, bf) else (lastP p, lastP p))
  else if n ≤ halfN m then ((bothP bf n (halfN m) whole (initP p)).1, nodeP (bothP bf n (halfN m) whole (initP p)).2 (lastP p))
  else (nodeP (lastP p) (bothP bf (n - halfN m) (m - halfN m) false (initP p)).1, nodeP (lastP p) (bothP bf (n - halfN m) (m - halfN m) false (initP p)).2)
termination_by m
decreasing_by
  all_goals first | exact halfN_lt (by omega) | (have := halfN_pos m; omega)
theorem bothP_end (bf : List Int) (n : Nat) (whole : Bool) (p : List (List Int)) : bothP bf n n whole p = if whole then (bf, bf) else (lastP p, lastP p) := by rw [bothP, dif_pos (Or.inl (Nat.le_refl _))]
theorem bothP_left (bf : List Int) {n m : Nat} (whole : Bool) (p : List (List Int)) (h1 : 1 ≤ n) (h : n < m) (ha : n ≤ halfN m) : bothP bf n m whole p = ((bothP bf n (halfN m) whole (initP p)).1, nodeP (bothP bf n (halfN m) whole (initP p)).2 (lastP p)) := by
  rw [bothP, dif_neg (by omega), if_pos ha]
theorem bothP_right (bf : List Int) {n m : Nat} (whole : Bool) (p : List (List Int)) (h1 : 1 ≤ n) (h : n < m) (ha : ¬ n ≤ halfN m) : bothP bf n m whole p = (nodeP (lastP p) (bothP bf (n - halfN m) (m - halfN m) false (initP p)).1, nodeP (lastP p) (bothP bf (n - halfN m) (m - halfN m) false (initP p)).2) := by
  rw [bothP, dif_neg (by omega), if_neg ha]
theorem init_last {p : List (List Int)} (h : p ≠ []) : p = initP p ++ [lastP p] := by
  have hp := List.length_pos_iff.2 h
  have e := lastP_get h
  have e2 : p.drop (p.length - 1) = [lastP p] := by
    rw [List.drop_eq_getElem_cons (by omega), List.drop_eq_nil_of_le (by omega)]
    congr 1
    rw [List.getElem?_eq_getElem (by omega)] at e
    injection e
  unfold initP
  conv => lhs; rw [← List.take_append_drop (p.length - 1) p, e2]
theorem initP_len (p : List (List Int)) : (initP p).length = p.length - 1 := by unfold initP; simp
theorem dg_init {p : List (List Int)} (h : ∀ d ∈ p, Dg d) : ∀ d ∈ initP p, Dg d := fun d hd => h d (List.mem_of_mem_take hd)
theorem dg_last {p : List (List Int)} (h : ∀ d ∈ p, Dg d) (hp : p ≠ []) : Dg (lastP p) := h _ (List.mem_of_getElem? (lastP_get hp))
theorem both_ver (bf : List Int) (m : Nat) : ∀ (n : Nat) (whole : Bool) (p e : List (List Int)), 1 ≤ n → n ≤ m → p.length = gLen n m whole → verP bf n m whole (p ++ e) = ((bothP bf n m whole p).1, (bothP bf n m whole p).2, e) := by
  induction m using Nat.strongRecOn with
  | _ m IH =>
    intro n whole p e h1 hn hl
    by_cases h : n = m
    · subst h
      rw [gLen_end] at hl
      rw [bothP_end]
      cases whole
      · rw [if_neg (by decide)] at hl
        obtain ⟨d, rfl⟩ : ∃ d, p = [d] := List.length_eq_one_iff.1 hl
        exact verP_leaf bf n d e
      · rw [if_pos rfl] at hl
        obtain rfl := List.length_eq_zero_iff.1 hl
        exact verP_whole bf n e
    · have hk := halfN_lt (n := m) (by omega)
      have hk0 := halfN_pos m
      by_cases ha : n ≤ halfN m
      · rw [gLen_left whole h1 (by omega) ha] at hl
        have hp : p ≠ [] := fun e => by rw [e] at hl; simp at hl; omega
        have hi := IH (halfN m) hk n whole (initP p) (lastP p :: e) h1 ha (by rw [initP_len]; omega)
        have ep : p ++ e = initP p ++ (lastP p :: e) := by
          conv => lhs; rw [init_last hp]
          simp
        rw [ep, verP_left bf whole h1 (by omega) ha hi, bothP_left bf whole p h1 (by omega) ha]
      · rw [gLen_right whole h1 (by omega) ha] at hl
        have hp : p ≠ [] := fun e => by rw [e] at hl; simp at hl; omega
        have hi := IH (m - halfN m) (by omega) (n - halfN m) false (initP p) (lastP p :: e) (by omega) (by omega) (by rw [initP_len]; omega)
        have ep : p ++ e = initP p ++ (lastP p :: e) := by
          conv => lhs; rw [init_last hp]
          simp
        rw [ep, verP_right bf whole h1 (by omega) ha hi, bothP_right bf whole p h1 (by omega) ha]
theorem dg_both (bf : List Int) (hbf : Dg bf) (m n : Nat) (whole : Bool) (p : List (List Int)) (h1 : 1 ≤ n) (hn : n ≤ m) (hl : p.length = gLen n m whole) (hp : ∀ d ∈ p, Dg d) : Dg (bothP bf n m whole p).1 ∧ Dg (bothP bf n m whole p).2 := by
  obtain ⟨x, y, r, e, hx, hy, _⟩ := verP_len bf hbf m n whole p h1 hn (Nat.le_of_eq hl.symm) hp
  have e2 := both_ver bf m n whole p [] h1 hn hl
  rw [List.append_nil, e] at e2
  injection e2 with ex e2
  injection e2 with ey e3
  rw [← ex, ← ey]
  exact ⟨hx, hy⟩

abbrev BothIs (w : World) (bf : List Int) (n m : Nat) (whole : Bool) (len c : Nat) (A : Option Addr) (p : List (List Int)) : Prop :=
  Calls Tryd.prog 65 #[dv bf, .int .i64 (n : Int), .int .i64 (m : Int), .bool whole, .slice A len c] w fun x w' => x = .returned (.tuple #[dv (bothP bf n m whole p).1, dv (bothP bf n m whole p).2]) ∧ Below w.heap.size w w'
/-- three blocks of digests -/
structure S3 (N1 N2 N3 : Nat) (x y z : List Int) (V : World) : Prop where
  a : ByAt V N1 24 x
  b : ByAt V N2 24 y
  c : ByAt V N3 24 z
theorem S3.keep {N1 N2 N3 : Nat} {x y z : List Int} {V V' : World} (h : S3 N1 N2 N3 x y z V) (hb : Below V.heap.size V V') : S3 N1 N2 N3 x y z V' := ⟨h.a.keep hb, h.b.keep hb, h.c.keep hb⟩
theorem S3.grown {N1 N2 N3 N : Nat} {x y z : List Int} {V V' : World} (h : S3 N1 N2 N3 x y z V) (hg : V.grownBy V' (some N)) (h1 : N1 ≠ N) (h2 : N2 ≠ N) (h3 : N3 ≠ N) : S3 N1 N2 N3 x y z V' := ⟨h.a.grown hg h1, h.b.grown hg h2, h.c.grown hg h3⟩
set_option maxRecDepth 100000 in
set_option maxHeartbeats 2000000 in
theorem rboth_whole (n : Nat) (bf : List Int) (w : World) (len c : Nat) (A : Option Addr) (p : List (List Int)) (hd : Dg bf) : BothIs w bf n n true len c A p := by
  unfold BothIs
  rw [bothP_end, if_pos rfl]
  have HD := hide hd
  obtain ⟨cd, hcd⟩ : ∃ cs, cs = (bf.map (Value.int .u8)).toArray := ⟨_, rfl⟩
  have hsd : cd.size = 32 := by rw [hcd]; simpa using hd.len
  have HCD := hide hcd
  rw [show dv bf = .agg cd by rw [hcd]]
  clear hd hcd
  go_enter Tryd.func65, Tryd.ntmps65
  go_upto_region 1 with fail
  generalize hX1 : w.alloc _ = W1
  have hB1 : Below w.heap.size w W1 := hX1 ▸ (Below.refl _ _).alloc (Nat.le_refl _) _
  have ho1 : ByAt W1 w.heap.size 24 bf := boxed w W1 bf _ (by rw [← hX1]; first | rfl | (rw [unhide HCD]; rfl))
  have hz1 : W1.heap.size = w.heap.size + 1 := by rw [← hX1]; show (w.heap.push _).size = _; rw [Array.size_push]
  generalize hX2 : W1.alloc _ = W2
  have hB2 : Below W1.heap.size W1 W2 := hX2 ▸ (Below.refl _ _).alloc (Nat.le_refl _) _
  have ho2 : ByAt W2 W1.heap.size 24 zeros := newBy W1 W2 (by rw [← hX2]; rfl)
  have hz2 : W2.heap.size = w.heap.size + 2 := by rw [← hX2]; show (W1.heap.push _).size = _; rw [Array.size_push, hz1]
  generalize hX3 : W2.alloc _ = W3
  have hB3 : Below W2.heap.size W2 W3 := hX3 ▸ (Below.refl _ _).alloc (Nat.le_refl _) _
  have ho3 : ByAt W3 W2.heap.size 24 zeros := newBy W2 W3 (by rw [← hX3]; rfl)
  have hz3 : W3.heap.size = w.heap.size + 3 := by rw [← hX3]; show (W2.heap.push _).size = _; rw [Array.size_push, hz2]
  rw [hz1] at ho2
  rw [hz2] at ho3

  have HB := hide (thenB (thenB hB1 hB2) hB3)
  have HO1 := hide ((ho1.keep hB2).keep hB3)
  have HO2 := hide (ho2.keep hB3)
  have HO3 := hide ho3
  have HZ3 := hide hz3
  clear hX1 hX2 hX3 hB1 hB2 hB3 ho1 ho2 ho3 hz1 hz2 hz3
  obtain ⟨W, hW⟩ : ∃ W, W = W3.drewN 1 := ⟨_, rfl⟩
  have HW : Hid (W = W3.drewN 1) := hW
  have hBW := below_named HW
  have HBW := hide (thenB (unhide HB) hBW)
  have hSW : ByAt W (w.heap.size) 24 bf := (unhide HO1).keep hBW
  have HQ2 := hide ((unhide HO2).keep hBW)
  have HQ3 := hide ((unhide HO3).keep hBW)
  clear hW hBW
  go_wp2_with fail
  refine held (S := fun W => ByAt W (w.heap.size) 24 bf) W HW (by kernel_rfl) ?_
  refine wpAnyH_take (i := 0) (v := .agg cd) rfl (by kernel_rfl) (by kernel_rfl) (by kernel_rfl) (fun _ _ _ h => h) (by rw [unhide HCD]; exact yieldsIf_load_mid (by kernel_rfl) 24 (.tmp 5) rfl (w.heap.size) 0 rfl (bf.map (Value.int .u8)) _ (fun W hS => ByAt.range hS) Tryd.underlying24 rfl (by rw [List.length_map, (unhide HD).len]; exact info32)) (by assumption) ?_
  try simp only [List.getElem_toArray, List.getElem_cons_zero, List.getElem_cons_succ, Act.put, List.setIfInBounds_toArray, List.set_cons_zero, List.set_cons_succ]
  refine wpAnyH_take (i := 1) (v := .agg cd) rfl (by kernel_rfl) (by kernel_rfl) (by kernel_rfl) (fun _ _ _ h => h) (by rw [unhide HCD]; exact yieldsIf_load_mid (by kernel_rfl) 24 (.tmp 5) rfl (w.heap.size) 0 rfl (bf.map (Value.int .u8)) _ (fun W hS => ByAt.range hS) Tryd.underlying24 rfl (by rw [List.length_map, (unhide HD).len]; exact info32)) (by assumption) ?_
  try simp only [List.getElem_toArray, List.getElem_cons_zero, List.getElem_cons_succ, Act.put, List.setIfInBounds_toArray, List.set_cons_zero, List.set_cons_succ]
  refine wpAnyH_chainOf [2, 3] _ _ _ (by kernel_rfl) (by kernel_rfl) ?_
  simp only [List.filterMap_cons, List.filterMap_nil, List.getElem?_toArray, List.getElem?_cons_zero, List.getElem?_cons_succ]
  refine wpChain_bstore rfl 24 (.tmp 10) (.tmp 25) rfl (w.heap.size + 1) rfl bf (show Value.agg cd = _ by rw [unhide HCD]) 32 info32 (unhide HD).len _ zeros (unhide HQ2) rfl ?_
  intro W8 HW8 HG8
  have hS8 := hSW.grown (unhide HG8) (by omega)
  have hO8 := (unhide HQ3).grown (unhide HG8) (by omega)
  have hB8 := (unhide HBW).grown (unhide HG8) (unhide HBW).size (fun i e => by injection e with e; omega)
  refine ⟨hS8, ?_⟩
  refine wpChain_bstore rfl 24 (.tmp 11) (.tmp 26) rfl (w.heap.size + 2) rfl bf (show Value.agg cd = _ by rw [unhide HCD]) 32 info32 (unhide HD).len _ zeros hO8 rfl ?_
  intro W9 HW9 HG9
  have hS9 := hS8.grown (unhide HG9) (by omega)
  refine ⟨hS9, wpChain_nil ?_⟩
  have H1 := hide ((unhide HW8).grown (unhide HG9) (by omega))
  have HB9 := hide (hB8.grown (unhide HG9) hB8.size (fun i e => by injection e with e; omega))
  clear hSW hS8 hO8 hB8 hS9
  go_wp2_with fail
  try simp only [Exit.inBlock, Exit.then]
  exact bret22 rfl rfl (w.heap.size + 1) (w.heap.size + 2) rfl rfl _ _ _ _ (unhide H1) (unhide HW9) (unhide HD).len (unhide HD).len ⟨by rw [unhide HCD], unhide HB9⟩
set_option maxRecDepth 100000 in
set_option maxHeartbeats 2000000 in
theorem rboth_leaf (n : Nat) (bf : List Int) (w : World) (len c : Nat) (A : Option Addr) (p : List (List Int)) (hd : Dg bf) (hA : Ds w A p) (hpl : p.length = len) (hlen : len = 1) (hc : len ≤ c) : BothIs w bf n n false len c A p := by
  unfold BothIs
  rw [bothP_end, if_neg (by decide)]
  rw [← hpl] at hlen
  have HD := hide hd
  obtain ⟨cd, hcd⟩ : ∃ cs, cs = (bf.map (Value.int .u8)).toArray := ⟨_, rfl⟩
  have hsd : cd.size = 32 := by rw [hcd]; simpa using hd.len
  have HCD := hide hcd
  rw [show dv bf = .agg cd by rw [hcd]]
  have hpne : p ≠ [] := fun e => by rw [e] at hlen; simp at hlen
  obtain ⟨pb, po, rfl, hrg⟩ := hA.at_ hpne
  have hlg := lastP_get hpne
  have hrl := hrg _ _ hlg
  have hdl : Dg (lastP p) := hA.dg _ (List.mem_of_getElem? hlg)
  obtain ⟨la, hla⟩ : ∃ la, la = len - 1 := ⟨_, rfl⟩
  rw [hpl, ← hla] at hrl
  have HRL := hide hrl
  have HDL := hide hdl
  have wl : IntKind.i64.wrap ((len : Int) - 1) = (la : Int) := (IntWalk.i64_in _ (by omega)).trans (by omega)
  have l0 : (0 : Int) ≤ (la : Int) := Int.natCast_nonneg _
  have l1 : (la : Int) < (len : Int) := by omega
  have l2 : (la : Int) ≤ (len : Int) := by omega
  have l3 : (la : Int) ≤ (c : Int) := by omega
  obtain ⟨cl, hcl⟩ : ∃ cs, cs = ((lastP p).map (Value.int .u8)).toArray := ⟨_, rfl⟩
  have hsl : cl.size = 32 := by rw [hcl]; simpa using hdl.len
  have HCL := hide hcl
  clear hd hcd hA hpl hlen hc hpne hrg hlg hrl hdl hla hcl
  go_enter Tryd.func65, Tryd.ntmps65
  go_upto_region 1 with fail
  generalize hX1 : w.alloc _ = W1
  have hB1 : Below w.heap.size w W1 := hX1 ▸ (Below.refl _ _).alloc (Nat.le_refl _) _
  have ho1 : ByAt W1 w.heap.size 24 bf := boxed w W1 bf _ (by rw [← hX1]; first | rfl | (rw [unhide HCD]; rfl))
  have hz1 : W1.heap.size = w.heap.size + 1 := by rw [← hX1]; show (w.heap.push _).size = _; rw [Array.size_push]
  generalize hX2 : W1.alloc _ = W2
  have hB2 : Below W1.heap.size W1 W2 := hX2 ▸ (Below.refl _ _).alloc (Nat.le_refl _) _
  have ho2 : ByAt W2 W1.heap.size 24 zeros := newBy W1 W2 (by rw [← hX2]; rfl)
  have hz2 : W2.heap.size = w.heap.size + 2 := by rw [← hX2]; show (W1.heap.push _).size = _; rw [Array.size_push, hz1]
  generalize hX3 : W2.alloc _ = W3
  have hB3 : Below W2.heap.size W2 W3 := hX3 ▸ (Below.refl _ _).alloc (Nat.le_refl _) _
  have ho3 : ByAt W3 W2.heap.size 24 zeros := newBy W2 W3 (by rw [← hX3]; rfl)
  have hz3 : W3.heap.size = w.heap.size + 3 := by rw [← hX3]; show (W2.heap.push _).size = _; rw [Array.size_push, hz2]
  rw [hz1] at ho2
  rw [hz2] at ho3

  have HB := hide (thenB (thenB hB1 hB2) hB3)
  have HO1 := hide ((ho1.keep hB2).keep hB3)
  have HO2 := hide (ho2.keep hB3)
  have HO3 := hide ho3
  have HZ3 := hide hz3
  clear hX1 hX2 hX3 hB1 hB2 hB3 ho1 ho2 ho3 hz1 hz2 hz3
  go_upto_region 3 with fail
  refine wp_region_lit ?_
  refine wpList_plain rfl fun Kt hKt => ?_
  go_simp
  refine hKt _ _ ?_
  clear hKt Kt
  refine wpList_plain rfl fun Kt hKt => ?_
  go_simp
  refine hKt _ _ ?_
  clear hKt Kt
  refine wpList_plain rfl fun Kt hKt => ?_
  go_simp
  refine hKt _ _ ?_
  clear hKt Kt
  refine wpList_plain rfl fun Kt hKt => ?_
  go_simp
  refine hKt _ _ ?_
  clear hKt Kt
  refine wpList_plain rfl fun Kt hKt => ?_
  go_simp
  refine hKt _ _ ?_
  clear hKt Kt
  refine wpList_load_mid rfl 24 (.tmp 31) rfl pb (po + la * 32) rfl ((lastP p).map (Value.int .u8)) _ (rangeAt_keep (unhide HRL) (unhide HB)) Tryd.underlying24 rfl (by rw [List.length_map, (unhide HDL).len]; exact info32) ?_
  refine wpList_plain rfl fun Kt hKt => ?_
  go_simp
  refine hKt _ _ ?_
  clear hKt Kt
  generalize hX4 : World.alloc _ _ = W4
  have hB4 : Below W3.heap.size W3 W4 := hX4 ▸ (Below.refl _ _).alloc (Nat.le_refl _) _
  have ho4 : ByAt W4 W3.heap.size 24 zeros := newBy W3 W4 (by rw [← hX4]; rfl)
  rw [unhide HZ3] at ho4 ⊢
  refine wpList_bstore rfl 24 (.tmp 12) (.tmp 32) rfl (w.heap.size + 3) rfl (lastP p) rfl 32 info32 (unhide HDL).len _ zeros ho4 rfl ?_
  intro W5 HW5 HG5
  have hg5 := unhide HG5
  have HB5 := hide ((thenB (unhide HB) hB4).grown hg5 (thenB (unhide HB) hB4).size (fun i e => by injection e with e; omega))
  have HP1 := hide (((unhide HO1).keep hB4).grown hg5 (by omega))
  have HP2 := hide (((unhide HO2).keep hB4).grown hg5 (by omega))
  have HP3 := hide (((unhide HO3).keep hB4).grown hg5 (by omega))
  clear hX4 hB4 ho4 HO1 HO2 HO3 HB HG5 hg5
  rw [show Value.agg ((lastP p).map (Value.int .u8)).toArray = .agg cl by rw [unhide HCL]]
  try simp only [List.getElem_toArray, List.getElem_cons_zero, List.getElem_cons_succ, Act.put, List.setIfInBounds_toArray, List.set_cons_zero, List.set_cons_succ]
  obtain ⟨W, hW⟩ : ∃ W, W = W5.drewN 1 := ⟨_, rfl⟩
  have HW : Hid (W = W5.drewN 1) := hW
  have hBW := below_named HW
  have HBW := hide (thenB (unhide HB5) hBW)
  have hSW : ByAt W (w.heap.size + 3) 24 (lastP p) := (unhide HW5).keep hBW
  have HQ2 := hide ((unhide HP2).keep hBW)
  have HQ3 := hide ((unhide HP3).keep hBW)
  clear hW hBW
  go_wp2_with fail
  refine held (S := fun W => ByAt W (w.heap.size + 3) 24 (lastP p)) W HW (by kernel_rfl) ?_
  refine wpAnyH_take (i := 0) (v := .agg cl) rfl (by kernel_rfl) (by kernel_rfl) (by kernel_rfl) (fun _ _ _ h => h) (by rw [unhide HCL]; exact yieldsIf_load_mid (by kernel_rfl) 24 (.tmp 12) rfl (w.heap.size + 3) 0 rfl ((lastP p).map (Value.int .u8)) _ (fun W hS => ByAt.range hS) Tryd.underlying24 rfl (by rw [List.length_map, (unhide HDL).len]; exact info32)) (by assumption) ?_
  try simp only [List.getElem_toArray, List.getElem_cons_zero, List.getElem_cons_succ, Act.put, List.setIfInBounds_toArray, List.set_cons_zero, List.set_cons_succ]
  refine wpAnyH_take (i := 1) (v := .agg cl) rfl (by kernel_rfl) (by kernel_rfl) (by kernel_rfl) (fun _ _ _ h => h) (by rw [unhide HCL]; exact yieldsIf_load_mid (by kernel_rfl) 24 (.tmp 12) rfl (w.heap.size + 3) 0 rfl ((lastP p).map (Value.int .u8)) _ (fun W hS => ByAt.range hS) Tryd.underlying24 rfl (by rw [List.length_map, (unhide HDL).len]; exact info32)) (by assumption) ?_
  try simp only [List.getElem_toArray, List.getElem_cons_zero, List.getElem_cons_succ, Act.put, List.setIfInBounds_toArray, List.set_cons_zero, List.set_cons_succ]
  refine wpAnyH_chainOf [2, 3] _ _ _ (by kernel_rfl) (by kernel_rfl) ?_
  simp only [List.filterMap_cons, List.filterMap_nil, List.getElem?_toArray, List.getElem?_cons_zero, List.getElem?_cons_succ]
  refine wpChain_bstore rfl 24 (.tmp 10) (.tmp 41) rfl (w.heap.size + 1) rfl (lastP p) (show Value.agg cl = _ by rw [unhide HCL]) 32 info32 (unhide HDL).len _ zeros (unhide HQ2) rfl ?_
  intro W8 HW8 HG8
  have hS8 := hSW.grown (unhide HG8) (by omega)
  have hO8 := (unhide HQ3).grown (unhide HG8) (by omega)
  have hB8 := (unhide HBW).grown (unhide HG8) (unhide HBW).size (fun i e => by injection e with e; omega)
  refine ⟨hS8, ?_⟩
  refine wpChain_bstore rfl 24 (.tmp 11) (.tmp 42) rfl (w.heap.size + 2) rfl (lastP p) (show Value.agg cl = _ by rw [unhide HCL]) 32 info32 (unhide HDL).len _ zeros hO8 rfl ?_
  intro W9 HW9 HG9
  have hS9 := hS8.grown (unhide HG9) (by omega)
  refine ⟨hS9, wpChain_nil ?_⟩
  have H1 := hide ((unhide HW8).grown (unhide HG9) (by omega))
  have HB9 := hide (hB8.grown (unhide HG9) hB8.size (fun i e => by injection e with e; omega))
  clear hSW hS8 hO8 hB8 hS9
  go_wp2_with fail
  try simp only [Exit.inBlock, Exit.then]
  exact bret22 rfl rfl (w.heap.size + 1) (w.heap.size + 2) rfl rfl _ _ _ _ (unhide H1) (unhide HW9) (unhide HDL).len (unhide HDL).len ⟨rfl, unhide HB9⟩
set_option maxRecDepth 100000 in
set_option maxHeartbeats 4000000 in
theorem rboth_left (m : Nat) (I : ∀ m', m' < m → ∀ (n : Nat) (whole : Bool) (bf : List Int) (w : World) (len c : Nat) (A : Option Addr) (p : List (List Int)), 1 ≤ n → n ≤ m' → Dg bf → Ds w A p → p.length = len → len = gLen n m' whole → len ≤ c → BothIs w bf n m' whole len c A p)
    (n : Nat) (whole : Bool) (bf : List Int) (w : World) (len c : Nat) (A : Option Addr) (p : List (List Int)) (h1 : 1 ≤ n) (hn : n < m) (h40 : m ≤ 1099511627776) (hd : Dg bf) (hA : Ds w A p) (hpl : p.length = len) (hg : len = gLen n m whole) (hc : len ≤ c) (ha : n ≤ halfN m) : BothIs w bf n m whole len c A p := by
  unfold BothIs
  obtain ⟨k, hk⟩ : ∃ k, k = halfN m := ⟨_, rfl⟩
  have hkn := halfN_lt (n := m) (by omega)
  have hk0 := halfN_pos m
  have hl63 := gLen_le m n whole h1 (by omega)
  rw [← hk] at hkn hk0
  have n0 : ¬ (n : Int) = (m : Int) := by omega
  have HK : Hid (k = halfN m ∧ 2 ≤ m ∧ m ≤ 1099511627776) := ⟨hk, by omega, h40⟩
  have hgl := hg
  rw [gLen_left whole h1 hn ha, ← hk] at hgl
  rw [bothP_left bf whole p h1 hn ha, ← hk]
  have a1 : (n : Int) ≤ (k : Int) := by omega
  have hlen : 0 < p.length := by omega
  have hpne : p ≠ [] := fun e => by rw [e] at hlen; simp at hlen
  obtain ⟨pb, po, rfl, hrg⟩ := hA.at_ hpne
  have hlg := lastP_get hpne
  have hrl := hrg _ _ hlg
  have hdl : Dg (lastP p) := hA.dg _ (List.mem_of_getElem? hlg)
  obtain ⟨la, hla⟩ : ∃ la, la = len - 1 := ⟨_, rfl⟩
  rw [hpl, ← hla] at hrl
  have HRL := hide hrl
  have HDL := hide hdl
  have wl : IntKind.i64.wrap ((len : Int) - 1) = (la : Int) := (IntWalk.i64_in _ (by omega)).trans (by omega)
  have l0 : (0 : Int) ≤ (la : Int) := Int.natCast_nonneg _
  have l1 : (la : Int) < (len : Int) := by omega
  have l2 : (la : Int) ≤ (len : Int) := by omega
  have l3 : (la : Int) ≤ (c : Int) := by omega
  obtain ⟨cl, hcl⟩ : ∃ cs, cs = ((lastP p).map (Value.int .u8)).toArray := ⟨_, rfl⟩
  have hsl : cl.size = 32 := by rw [hcl]; simpa using hdl.len
  have HCL := hide hcl
  have hil : (initP p).length = la := by rw [initP_len]; omega
  have hgi := dg_init hA.dg
  have hbx := dg_both bf hd k n whole (initP p) (by omega) (by omega) (by omega) hgi
  obtain ⟨x, hx⟩ : ∃ x, x = (bothP bf n k whole (initP p)).1 := ⟨_, rfl⟩
  obtain ⟨y, hy⟩ : ∃ y, y = (bothP bf n k whole (initP p)).2 := ⟨_, rfl⟩
  rw [← hx, ← hy] at hbx ⊢
  obtain ⟨hgx, hgy⟩ := hbx
  obtain ⟨cx, hcx⟩ : ∃ cs, cs = (x.map (Value.int .u8)).toArray := ⟨_, rfl⟩
  have hsx : cx.size = 32 := by rw [hcx]; simpa using hgx.len
  have HCX := hide hcx
  obtain ⟨cy, hcy⟩ : ∃ cs, cs = (y.map (Value.int .u8)).toArray := ⟨_, rfl⟩
  have hsy : cy.size = 32 := by rw [hcy]; simpa using hgy.len
  have HCY := hide hcy
  have HGX := hide hgx; have HGY := hide hgy
  have HD := hide hd
  obtain ⟨cd, hcd⟩ : ∃ cs, cs = (bf.map (Value.int .u8)).toArray := ⟨_, rfl⟩
  have hsd : cd.size = 32 := by rw [hcd]; simpa using hd.len
  have HCD := hide hcd
  rw [show dv bf = .agg cd by rw [hcd]]
  have HREC : Hid (∀ V, Below w.heap.size w V → Calls Tryd.prog 65 #[.agg cd, .int .i64 (n : Int), .int .i64 (k : Int), .bool whole, .slice (some ⟨pb, po, none⟩) la c] V fun x w' => x = .returned (.tuple #[.agg cx, .agg cy]) ∧ Below V.heap.size V w') := fun V hV => by
    have := I k (by omega) n whole bf V la c (some ⟨pb, po, none⟩) (initP p) (by omega) (by omega) hd ((hA.keep hV).take _) hil (by omega) (by omega)
    unfold BothIs at this
    rw [← hx, ← hy, show dv bf = .agg cd by rw [unhide HCD], show dv x = .agg cx by rw [hcx], show dv y = .agg cy by rw [hcy]] at this
    exact this
  obtain ⟨u, hu⟩ : ∃ u, u = nodeP y (lastP p) := ⟨_, rfl⟩
  have hgu : Dg u := hu ▸ dg_hash _
  have HGU := hide hgu
  have HN2 : Hid (∀ V, Calls Tryd.prog 50 #[.agg cy, .agg cl] V fun x w' => x = .returned (dv u) ∧ Below V.heap.size V w') := fun V => by
    rw [hcy, hcl, hu]
    exact rnode_any V y (lastP p) hgy hdl
  rw [← hu]
  clear I h1 hn h40 hd hcd hA hpl hg hgl hc ha hk hkn hk0 hl63 hlen hpne hrg hlg hrl hdl hla hcl hil hgi hgx hgy hx hy hcx hcy hgu hu
  go_enter Tryd.func65, Tryd.ntmps65
  go_upto_region 1 with fail
  generalize hX1 : w.alloc _ = W1
  have hB1 : Below w.heap.size w W1 := hX1 ▸ (Below.refl _ _).alloc (Nat.le_refl _) _
  have ho1 : ByAt W1 w.heap.size 24 bf := boxed w W1 bf _ (by rw [← hX1]; first | rfl | (rw [unhide HCD]; rfl))
  have hz1 : W1.heap.size = w.heap.size + 1 := by rw [← hX1]; show (w.heap.push _).size = _; rw [Array.size_push]
  generalize hX2 : W1.alloc _ = W2
  have hB2 : Below W1.heap.size W1 W2 := hX2 ▸ (Below.refl _ _).alloc (Nat.le_refl _) _
  have ho2 : ByAt W2 W1.heap.size 24 zeros := newBy W1 W2 (by rw [← hX2]; rfl)
  have hz2 : W2.heap.size = w.heap.size + 2 := by rw [← hX2]; show (W1.heap.push _).size = _; rw [Array.size_push, hz1]
  generalize hX3 : W2.alloc _ = W3
  have hB3 : Below W2.heap.size W2 W3 := hX3 ▸ (Below.refl _ _).alloc (Nat.le_refl _) _
  have ho3 : ByAt W3 W2.heap.size 24 zeros := newBy W2 W3 (by rw [← hX3]; rfl)
  have hz3 : W3.heap.size = w.heap.size + 3 := by rw [← hX3]; show (W2.heap.push _).size = _; rw [Array.size_push, hz2]
  rw [hz1] at ho2
  rw [hz2] at ho3

  have HB := hide (thenB (thenB hB1 hB2) hB3)
  have HO1 := hide ((ho1.keep hB2).keep hB3)
  have HO2 := hide (ho2.keep hB3)
  have HO3 := hide ho3
  have HZ3 := hide hz3
  clear hX1 hX2 hX3 hB1 hB2 hB3 ho1 ho2 ho3 hz1 hz2 hz3
  go_upto_region 3 with fail
  refine wp_region_lit ?_
  refine wpList_plain rfl fun Kt hKt => ?_
  go_simp
  refine hKt _ _ ?_
  clear hKt Kt
  refine wpList_plain rfl fun Kt hKt => ?_
  go_simp
  refine hKt _ _ ?_
  clear hKt Kt
  refine wpList_plain rfl fun Kt hKt => ?_
  go_simp
  refine hKt _ _ ?_
  clear hKt Kt
  refine wpList_plain rfl fun Kt hKt => ?_
  go_simp
  refine hKt _ _ ?_
  clear hKt Kt
  refine wpList_plain rfl fun Kt hKt => ?_
  go_simp
  refine hKt _ _ ?_
  clear hKt Kt
  refine wpList_load_mid rfl 24 (.tmp 31) rfl pb (po + la * 32) rfl ((lastP p).map (Value.int .u8)) _ (rangeAt_keep (unhide HRL) (unhide HB)) Tryd.underlying24 rfl (by rw [List.length_map, (unhide HDL).len]; exact info32) ?_
  refine wpList_plain rfl fun Kt hKt => ?_
  go_simp
  refine hKt _ _ ?_
  clear hKt Kt
  generalize hX4 : World.alloc _ _ = W4
  have hB4 : Below W3.heap.size W3 W4 := hX4 ▸ (Below.refl _ _).alloc (Nat.le_refl _) _
  have ho4 : ByAt W4 W3.heap.size 24 zeros := newBy W3 W4 (by rw [← hX4]; rfl)
  rw [unhide HZ3] at ho4 ⊢
  refine wpList_bstore rfl 24 (.tmp 12) (.tmp 32) rfl (w.heap.size + 3) rfl (lastP p) rfl 32 info32 (unhide HDL).len _ zeros ho4 rfl ?_
  intro W5 HW5 HG5
  have hg5 := unhide HG5
  have HB5 := hide ((thenB (unhide HB) hB4).grown hg5 (thenB (unhide HB) hB4).size (fun i e => by injection e with e; omega))
  have HP1 := hide (((unhide HO1).keep hB4).grown hg5 (by omega))
  have HP2 := hide (((unhide HO2).keep hB4).grown hg5 (by omega))
  have HP3 := hide (((unhide HO3).keep hB4).grown hg5 (by omega))
  clear hX4 hB4 ho4 HO1 HO2 HO3 HB HG5 hg5
  rw [show Value.agg ((lastP p).map (Value.int .u8)).toArray = .agg cl by rw [unhide HCL]]
  try simp only [List.getElem_toArray, List.getElem_cons_zero, List.getElem_cons_succ, Act.put, List.setIfInBounds_toArray, List.set_cons_zero, List.set_cons_succ]
  go_wp2_with fail
  refine (rhalf_any m (unhide HK).2.1 (unhide HK).2.2 W5).mono ?_; rintro x0 W6 ⟨rfl, rfl⟩
  rw [← (unhide HK).1]
  go_upto_region 9 with fail
  refine wp_region_lit ?_
  refine wpList_bload rfl 24 (.tmp 5) rfl w.heap.size rfl _ Tryd.underlying24 rfl 32 info32 _ bf (unhide HP1) (unhide HD).len ?_
  rw [show dv bf = .agg cd by rw [unhide HCD]]
  go_wp2_with fail
  refine ((unhide HREC) W6 (unhide HB5)).mono ?_; rintro x0 W7 ⟨rfl, hB7⟩
  have HB7 := hide (thenB (unhide HB5) hB7)
  have HQ2 := hide ((unhide HP2).keep hB7)
  have HQ3 := hide ((unhide HP3).keep hB7)
  have HQL := hide ((unhide HW5).keep hB7)
  have HZ7 : Hid (w.heap.size + 3 < W7.heap.size) := lt_of_block (unhide HQL)
  clear hB7 HP1 HP2 HP3 HW5 HB5 HREC
  dsimp only
  rename_i KK hK
  refine hK _ _ ?_
  clear hK KK
  refine wpList_plain rfl fun Kt hKt => ?_
  go_simp
  refine hKt _ _ ?_
  clear hKt Kt
  refine wpList_plain rfl fun Kt hKt => ?_
  go_simp
  refine hKt _ _ ?_
  clear hKt Kt
  refine wpList_plain rfl fun Kt hKt => ?_
  go_simp
  refine hKt _ _ ?_
  clear hKt Kt
  refine wpList_plain rfl fun Kt hKt => ?_
  go_simp
  refine hKt _ _ ?_
  clear hKt Kt
  generalize hX8 : World.alloc _ _ = W8
  have hB8 : Below W7.heap.size W7 W8 := hX8 ▸ (Below.refl _ _).alloc (Nat.le_refl _) _
  have hx8 : ByAt W8 W7.heap.size 24 zeros := newBy W7 W8 (by rw [← hX8]; rfl)
  have hz8 : W8.heap.size = W7.heap.size + 1 := by rw [← hX8]; show (W7.heap.push _).size = _; rw [Array.size_push]
  refine wpList_plain rfl fun Kt hKt => ?_
  go_simp
  refine hKt _ _ ?_
  clear hKt Kt
  generalize hX9 : World.alloc _ _ = W9
  have hB9 : Below W8.heap.size W8 W9 := hX9 ▸ (Below.refl _ _).alloc (Nat.le_refl _) _
  have hy9 : ByAt W9 W8.heap.size 24 zeros := newBy W8 W9 (by rw [← hX9]; rfl)
  rw [hz8] at hy9
  have hx9 := hx8.keep hB9
  have hB79 := thenB hB8 hB9
  obtain ⟨Nx, hNx⟩ : ∃ N, N = W7.heap.size := ⟨_, rfl⟩
  have HNX : Hid (w.heap.size + 3 < Nx ∧ Nx = W7.heap.size) := ⟨by have := unhide HZ7; omega, hNx⟩
  rw [← hNx] at hx9 hy9 ⊢
  have HX9 := hide hx9
  have HY9 := hide hy9
  have HB9 := hide (thenB (unhide HB7) hB79)
  have HR2 := hide ((unhide HQ2).keep hB79)
  have HR3 := hide ((unhide HQ3).keep hB79)
  have HRL9 := hide ((unhide HQL).keep hB79)
  clear hX8 hX9 hB8 hB9 hx8 hz8 hx9 hy9 hB79 hNx HB7 HQ2 HQ3 HQL HZ7
  refine wpList_bstore rfl 24 (.tmp 15) (.tmp 55) rfl Nx rfl x (show Value.agg cx = _ by rw [unhide HCX]) 32 info32 (unhide HGX).len _ zeros (unhide HX9) rfl ?_
  intro WA HXA HGA
  have HBA := hide ((unhide HB9).grown (unhide HGA) (unhide HB9).size (fun i e => by injection e with e; have := unhide HNX; omega))
  have HYA := hide ((unhide HY9).grown (unhide HGA) (by omega))
  have HRA2 := hide ((unhide HR2).grown (unhide HGA) (by have := unhide HNX; omega))
  have HRA3 := hide ((unhide HR3).grown (unhide HGA) (by have := unhide HNX; omega))
  have HRAL := hide ((unhide HRL9).grown (unhide HGA) (by have := unhide HNX; omega))
  clear HX9 HY9 HB9 HR2 HR3 HRL9 HGA
  refine wpList_bstore rfl 24 (.tmp 16) (.tmp 56) rfl (Nx + 1) rfl y (show Value.agg cy = _ by rw [unhide HCY]) 32 info32 (unhide HGY).len _ zeros (unhide HYA) rfl ?_
  intro WB HYB HGB
  have HBB := hide ((unhide HBA).grown (unhide HGB) (unhide HBA).size (fun i e => by injection e with e; have := unhide HNX; omega))
  have HXB := hide ((unhide HXA).grown (unhide HGB) (by omega))
  have HRB2 := hide ((unhide HRA2).grown (unhide HGB) (by have := unhide HNX; omega))
  have HRB3 := hide ((unhide HRA3).grown (unhide HGB) (by have := unhide HNX; omega))
  have HRBL := hide ((unhide HRAL).grown (unhide HGB) (by have := unhide HNX; omega))
  clear HXA HYA HBA HRA2 HRA3 HRAL HGB
  try simp only [List.getElem_toArray, List.getElem_cons_zero, List.getElem_cons_succ, Act.put, List.setIfInBounds_toArray, List.set_cons_zero, List.set_cons_succ]
  obtain ⟨W, hW⟩ : ∃ W, W = WB.drewN 1 := ⟨_, rfl⟩
  have HW : Hid (W = WB.drewN 1) := hW
  have hBW := below_named HW
  have HBW := hide (thenB (unhide HBB) hBW)
  have hSW : S3 Nx (Nx + 1) (w.heap.size + 3) x y (lastP p) W := ⟨(unhide HXB).keep hBW, (unhide HYB).keep hBW, (unhide HRBL).keep hBW⟩
  have HS2 := hide ((unhide HRB2).keep hBW)
  have HS3 := hide ((unhide HRB3).keep hBW)
  clear hW hBW
  go_wp2_with fail
  refine held (S := S3 Nx (Nx + 1) (w.heap.size + 3) x y (lastP p)) W HW (by kernel_rfl) ?_
  refine wpAnyH_take (i := 0) (v := .agg cx) rfl (by kernel_rfl) (by kernel_rfl) (by kernel_rfl) (fun _ _ _ h => h) (by rw [unhide HCX]; exact yieldsIf_load_mid (by kernel_rfl) 24 (.tmp 15) rfl Nx 0 rfl (x.map (Value.int .u8)) _ (fun W hS => ByAt.range hS.a) Tryd.underlying24 rfl (by rw [List.length_map, (unhide HGX).len]; exact info32)) (by assumption) ?_
  try simp only [List.getElem_toArray, List.getElem_cons_zero, List.getElem_cons_succ, Act.put, List.setIfInBounds_toArray, List.set_cons_zero, List.set_cons_succ]
  refine wpAnyH_take (i := 1) (v := .agg cy) rfl (by kernel_rfl) (by kernel_rfl) (by kernel_rfl) (fun _ _ _ h => h) (by rw [unhide HCY]; exact yieldsIf_load_mid (by kernel_rfl) 24 (.tmp 16) rfl (Nx + 1) 0 rfl (y.map (Value.int .u8)) _ (fun W hS => ByAt.range hS.b) Tryd.underlying24 rfl (by rw [List.length_map, (unhide HGY).len]; exact info32)) (by assumption) ?_
  try simp only [List.getElem_toArray, List.getElem_cons_zero, List.getElem_cons_succ, Act.put, List.setIfInBounds_toArray, List.set_cons_zero, List.set_cons_succ]
  refine wpAnyH_take (i := 2) (v := .agg cl) rfl (by kernel_rfl) (by kernel_rfl) (by kernel_rfl) (fun _ _ _ h => h) (by rw [unhide HCL]; exact yieldsIf_load_mid (by kernel_rfl) 24 (.tmp 12) rfl (w.heap.size + 3) 0 rfl ((lastP p).map (Value.int .u8)) _ (fun W hS => ByAt.range hS.c) Tryd.underlying24 rfl (by rw [List.length_map, (unhide HDL).len]; exact info32)) (by assumption) ?_
  try simp only [List.getElem_toArray, List.getElem_cons_zero, List.getElem_cons_succ, Act.put, List.setIfInBounds_toArray, List.set_cons_zero, List.set_cons_succ]
  refine wpAnyH_chainOf [3, 4, 5] _ _ _ (by kernel_rfl) (by kernel_rfl) ?_
  simp only [List.filterMap_cons, List.filterMap_nil, List.getElem?_toArray, List.getElem?_cons_zero, List.getElem?_cons_succ]
  refine wpChain_step rfl fun K hK => ?_
  go_simp
  refine ((unhide HN2) _).mono ?_; rintro x0 wA ⟨rfl, hA1⟩
  have hSA := hSW.keep hA1
  have hBA := thenB (unhide HBW) hA1
  have h2A := (unhide HS2).keep hA1
  have h3A := (unhide HS3).keep hA1
  dsimp only
  refine hK _ _ hSA ?_
  clear hK K
  refine wpChain_bstore rfl 24 (.tmp 10) (.tmp 57) rfl (w.heap.size + 1) rfl x (show Value.agg cx = _ by rw [unhide HCX]) 32 info32 (unhide HGX).len _ zeros h2A rfl ?_
  intro wC HWC HGC
  have hSC := hSA.grown (unhide HGC) (by have := unhide HNX; omega) (by have := unhide HNX; omega) (by omega)
  have hBC := hBA.grown (unhide HGC) hBA.size (fun i e => by injection e with e; omega)
  have h3C := h3A.grown (unhide HGC) (by omega)
  refine ⟨hSC, ?_⟩
  refine wpChain_bstore rfl 24 (.tmp 11) (.tmp 60) rfl (w.heap.size + 2) rfl u rfl 32 info32 (unhide HGU).len _ zeros h3C rfl ?_
  intro wD HWD HGD
  have hSD := hSC.grown (unhide HGD) (by have := unhide HNX; omega) (by have := unhide HNX; omega) (by omega)
  refine ⟨hSD, wpChain_nil ?_⟩
  have H1 := hide ((unhide HWC).grown (unhide HGD) (by omega))
  have HBD := hide (hBC.grown (unhide HGD) hBC.size (fun i e => by injection e with e; omega))
  clear hSW hSA hBA h2A h3A hSC hBC h3C hSD hA1
  go_wp2_with fail
  try simp only [Exit.inBlock, Exit.then]
  exact bret22 rfl rfl (w.heap.size + 1) (w.heap.size + 2) rfl rfl _ _ _ _ (unhide H1) (unhide HWD) (unhide HGX).len (unhide HGU).len ⟨rfl, unhide HBD⟩
set_option maxRecDepth 100000 in
set_option maxHeartbeats 4000000 in
theorem rboth_right (m : Nat) (I : ∀ m', m' < m → ∀ (n : Nat) (whole : Bool) (bf : List Int) (w : World) (len c : Nat) (A : Option Addr) (p : List (List Int)), 1 ≤ n → n ≤ m' → Dg bf → Ds w A p → p.length = len → len = gLen n m' whole → len ≤ c → BothIs w bf n m' whole len c A p)
    (n : Nat) (whole : Bool) (bf : List Int) (w : World) (len c : Nat) (A : Option Addr) (p : List (List Int)) (h1 : 1 ≤ n) (hn : n < m) (h40 : m ≤ 1099511627776) (hd : Dg bf) (hA : Ds w A p) (hpl : p.length = len) (hg : len = gLen n m whole) (hc : len ≤ c) (ha : ¬ n ≤ halfN m) : BothIs w bf n m whole len c A p := by
  unfold BothIs
  obtain ⟨k, hk⟩ : ∃ k, k = halfN m := ⟨_, rfl⟩
  have hkn := halfN_lt (n := m) (by omega)
  have hk0 := halfN_pos m
  have hl63 := gLen_le m n whole h1 (by omega)
  rw [← hk] at hkn hk0
  have n0 : ¬ (n : Int) = (m : Int) := by omega
  have HK : Hid (k = halfN m ∧ 2 ≤ m ∧ m ≤ 1099511627776) := ⟨hk, by omega, h40⟩
  have hgl := hg
  rw [gLen_right whole h1 hn ha, ← hk] at hgl
  rw [bothP_right bf whole p h1 hn ha, ← hk]
  have a1 : ¬ (n : Int) ≤ (k : Int) := by omega
  obtain ⟨nk, hnk⟩ : ∃ a, a = n - k := ⟨_, rfl⟩
  obtain ⟨mk, hmk⟩ : ∃ a, a = m - k := ⟨_, rfl⟩
  have wa : IntKind.i64.wrap ((n : Int) - (k : Int)) = (nk : Int) := (IntWalk.i64_in _ (by omega)).trans (by omega)
  have wm : IntKind.i64.wrap ((m : Int) - (k : Int)) = (mk : Int) := (IntWalk.i64_in _ (by omega)).trans (by omega)
  rw [← hnk, ← hmk] at hgl ⊢
  have hlen : 0 < p.length := by omega
  have hpne : p ≠ [] := fun e => by rw [e] at hlen; simp at hlen
  obtain ⟨pb, po, rfl, hrg⟩ := hA.at_ hpne
  have hlg := lastP_get hpne
  have hrl := hrg _ _ hlg
  have hdl : Dg (lastP p) := hA.dg _ (List.mem_of_getElem? hlg)
  obtain ⟨la, hla⟩ : ∃ la, la = len - 1 := ⟨_, rfl⟩
  rw [hpl, ← hla] at hrl
  have HRL := hide hrl
  have HDL := hide hdl
  have wl : IntKind.i64.wrap ((len : Int) - 1) = (la : Int) := (IntWalk.i64_in _ (by omega)).trans (by omega)
  have l0 : (0 : Int) ≤ (la : Int) := Int.natCast_nonneg _
  have l1 : (la : Int) < (len : Int) := by omega
  have l2 : (la : Int) ≤ (len : Int) := by omega
  have l3 : (la : Int) ≤ (c : Int) := by omega
  obtain ⟨cl, hcl⟩ : ∃ cs, cs = ((lastP p).map (Value.int .u8)).toArray := ⟨_, rfl⟩
  have hsl : cl.size = 32 := by rw [hcl]; simpa using hdl.len
  have HCL := hide hcl
  have hil : (initP p).length = la := by rw [initP_len]; omega
  have hgi := dg_init hA.dg
  have hbx := dg_both bf hd mk nk false (initP p) (by omega) (by omega) (by omega) hgi
  obtain ⟨x, hx⟩ : ∃ x, x = (bothP bf nk mk false (initP p)).1 := ⟨_, rfl⟩
  obtain ⟨y, hy⟩ : ∃ y, y = (bothP bf nk mk false (initP p)).2 := ⟨_, rfl⟩
  rw [← hx, ← hy] at hbx ⊢
  obtain ⟨hgx, hgy⟩ := hbx
  obtain ⟨cx, hcx⟩ : ∃ cs, cs = (x.map (Value.int .u8)).toArray := ⟨_, rfl⟩
  have hsx : cx.size = 32 := by rw [hcx]; simpa using hgx.len
  have HCX := hide hcx
  obtain ⟨cy, hcy⟩ : ∃ cs, cs = (y.map (Value.int .u8)).toArray := ⟨_, rfl⟩
  have hsy : cy.size = 32 := by rw [hcy]; simpa using hgy.len
  have HCY := hide hcy
  have HGX := hide hgx; have HGY := hide hgy
  have HD := hide hd
  obtain ⟨cd, hcd⟩ : ∃ cs, cs = (bf.map (Value.int .u8)).toArray := ⟨_, rfl⟩
  have hsd : cd.size = 32 := by rw [hcd]; simpa using hd.len
  have HCD := hide hcd
  rw [show dv bf = .agg cd by rw [hcd]]
  have HREC : Hid (∀ V, Below w.heap.size w V → Calls Tryd.prog 65 #[.agg cd, .int .i64 (nk : Int), .int .i64 (mk : Int), .bool false, .slice (some ⟨pb, po, none⟩) la c] V fun x w' => x = .returned (.tuple #[.agg cx, .agg cy]) ∧ Below V.heap.size V w') := fun V hV => by
    have := I mk (by omega) nk false bf V la c (some ⟨pb, po, none⟩) (initP p) (by omega) (by omega) hd ((hA.keep hV).take _) hil (by omega) (by omega)
    unfold BothIs at this
    rw [← hx, ← hy, show dv bf = .agg cd by rw [unhide HCD], show dv x = .agg cx by rw [hcx], show dv y = .agg cy by rw [hcy]] at this
    exact this
  obtain ⟨t, ht⟩ : ∃ u, u = nodeP (lastP p) x := ⟨_, rfl⟩
  obtain ⟨u, hu⟩ : ∃ u, u = nodeP (lastP p) y := ⟨_, rfl⟩
  have hgt : Dg t := ht ▸ dg_hash _
  have hgu : Dg u := hu ▸ dg_hash _
  have HGT := hide hgt; have HGU := hide hgu
  have HN1 : Hid (∀ V, Calls Tryd.prog 50 #[.agg cl, .agg cx] V fun x w' => x = .returned (dv t) ∧ Below V.heap.size V w') := fun V => by
    rw [hcl, hcx, ht]
    exact rnode_any V (lastP p) x hdl hgx
  have HN2 : Hid (∀ V, Calls Tryd.prog 50 #[.agg cl, .agg cy] V fun x w' => x = .returned (dv u) ∧ Below V.heap.size V w') := fun V => by
    rw [hcl, hcy, hu]
    exact rnode_any V (lastP p) y hdl hgy
  rw [← ht, ← hu]
  clear I h1 hn h40 hd hcd hA hpl hg hgl hc ha hk hkn hk0 hl63 hlen hpne hrg hlg hrl hdl hla hcl hil hgi hgx hgy hx hy hcx hcy hgu hu hgt ht hnk hmk
  go_enter Tryd.func65, Tryd.ntmps65
  go_upto_region 1 with fail
  generalize hX1 : w.alloc _ = W1
  have hB1 : Below w.heap.size w W1 := hX1 ▸ (Below.refl _ _).alloc (Nat.le_refl _) _
  have ho1 : ByAt W1 w.heap.size 24 bf := boxed w W1 bf _ (by rw [← hX1]; first | rfl | (rw [unhide HCD]; rfl))
  have hz1 : W1.heap.size = w.heap.size + 1 := by rw [← hX1]; show (w.heap.push _).size = _; rw [Array.size_push]
  generalize hX2 : W1.alloc _ = W2
  have hB2 : Below W1.heap.size W1 W2 := hX2 ▸ (Below.refl _ _).alloc (Nat.le_refl _) _
  have ho2 : ByAt W2 W1.heap.size 24 zeros := newBy W1 W2 (by rw [← hX2]; rfl)
  have hz2 : W2.heap.size = w.heap.size + 2 := by rw [← hX2]; show (W1.heap.push _).size = _; rw [Array.size_push, hz1]
  generalize hX3 : W2.alloc _ = W3
  have hB3 : Below W2.heap.size W2 W3 := hX3 ▸ (Below.refl _ _).alloc (Nat.le_refl _) _
  have ho3 : ByAt W3 W2.heap.size 24 zeros := newBy W2 W3 (by rw [← hX3]; rfl)
  have hz3 : W3.heap.size = w.heap.size + 3 := by rw [← hX3]; show (W2.heap.push _).size = _; rw [Array.size_push, hz2]
  rw [hz1] at ho2
  rw [hz2] at ho3

  have HB := hide (thenB (thenB hB1 hB2) hB3)
  have HO1 := hide ((ho1.keep hB2).keep hB3)
  have HO2 := hide (ho2.keep hB3)
  have HO3 := hide ho3
  have HZ3 := hide hz3
  clear hX1 hX2 hX3 hB1 hB2 hB3 ho1 ho2 ho3 hz1 hz2 hz3
  go_upto_region 3 with fail
  refine wp_region_lit ?_
  refine wpList_plain rfl fun Kt hKt => ?_
  go_simp
  refine hKt _ _ ?_
  clear hKt Kt
  refine wpList_plain rfl fun Kt hKt => ?_
  go_simp
  refine hKt _ _ ?_
  clear hKt Kt
  refine wpList_plain rfl fun Kt hKt => ?_
  go_simp
  refine hKt _ _ ?_
  clear hKt Kt
  refine wpList_plain rfl fun Kt hKt => ?_
  go_simp
  refine hKt _ _ ?_
  clear hKt Kt
  refine wpList_plain rfl fun Kt hKt => ?_
  go_simp
  refine hKt _ _ ?_
  clear hKt Kt
  refine wpList_load_mid rfl 24 (.tmp 31) rfl pb (po + la * 32) rfl ((lastP p).map (Value.int .u8)) _ (rangeAt_keep (unhide HRL) (unhide HB)) Tryd.underlying24 rfl (by rw [List.length_map, (unhide HDL).len]; exact info32) ?_
  refine wpList_plain rfl fun Kt hKt => ?_
  go_simp
  refine hKt _ _ ?_
  clear hKt Kt
  generalize hX4 : World.alloc _ _ = W4
  have hB4 : Below W3.heap.size W3 W4 := hX4 ▸ (Below.refl _ _).alloc (Nat.le_refl _) _
  have ho4 : ByAt W4 W3.heap.size 24 zeros := newBy W3 W4 (by rw [← hX4]; rfl)
  rw [unhide HZ3] at ho4 ⊢
  refine wpList_bstore rfl 24 (.tmp 12) (.tmp 32) rfl (w.heap.size + 3) rfl (lastP p) rfl 32 info32 (unhide HDL).len _ zeros ho4 rfl ?_
  intro W5 HW5 HG5
  have hg5 := unhide HG5
  have HB5 := hide ((thenB (unhide HB) hB4).grown hg5 (thenB (unhide HB) hB4).size (fun i e => by injection e with e; omega))
  have HP1 := hide (((unhide HO1).keep hB4).grown hg5 (by omega))
  have HP2 := hide (((unhide HO2).keep hB4).grown hg5 (by omega))
  have HP3 := hide (((unhide HO3).keep hB4).grown hg5 (by omega))
  clear hX4 hB4 ho4 HO1 HO2 HO3 HB HG5 hg5
  rw [show Value.agg ((lastP p).map (Value.int .u8)).toArray = .agg cl by rw [unhide HCL]]
  try simp only [List.getElem_toArray, List.getElem_cons_zero, List.getElem_cons_succ, Act.put, List.setIfInBounds_toArray, List.set_cons_zero, List.set_cons_succ]
  go_wp2_with fail
  refine (rhalf_any m (unhide HK).2.1 (unhide HK).2.2 W5).mono ?_; rintro x0 W6 ⟨rfl, rfl⟩
  rw [← (unhide HK).1]
  go_upto_region 11 with fail
  refine wp_region_lit ?_
  refine wpList_bload rfl 24 (.tmp 5) rfl w.heap.size rfl _ Tryd.underlying24 rfl 32 info32 _ bf (unhide HP1) (unhide HD).len ?_
  rw [show dv bf = .agg cd by rw [unhide HCD]]
  go_wp2_with fail
  refine ((unhide HREC) W6 (unhide HB5)).mono ?_; rintro x0 W7 ⟨rfl, hB7⟩
  have HB7 := hide (thenB (unhide HB5) hB7)
  have HQ2 := hide ((unhide HP2).keep hB7)
  have HQ3 := hide ((unhide HP3).keep hB7)
  have HQL := hide ((unhide HW5).keep hB7)
  have HZ7 : Hid (w.heap.size + 3 < W7.heap.size) := lt_of_block (unhide HQL)
  clear hB7 HP1 HP2 HP3 HW5 HB5 HREC
  dsimp only
  rename_i KK hK
  refine hK _ _ ?_
  clear hK KK
  refine wpList_plain rfl fun Kt hKt => ?_
  go_simp
  refine hKt _ _ ?_
  clear hKt Kt
  refine wpList_plain rfl fun Kt hKt => ?_
  go_simp
  refine hKt _ _ ?_
  clear hKt Kt
  refine wpList_plain rfl fun Kt hKt => ?_
  go_simp
  refine hKt _ _ ?_
  clear hKt Kt
  refine wpList_plain rfl fun Kt hKt => ?_
  go_simp
  refine hKt _ _ ?_
  clear hKt Kt
  generalize hX8 : World.alloc _ _ = W8
  have hB8 : Below W7.heap.size W7 W8 := hX8 ▸ (Below.refl _ _).alloc (Nat.le_refl _) _
  have hx8 : ByAt W8 W7.heap.size 24 zeros := newBy W7 W8 (by rw [← hX8]; rfl)
  have hz8 : W8.heap.size = W7.heap.size + 1 := by rw [← hX8]; show (W7.heap.push _).size = _; rw [Array.size_push]
  refine wpList_plain rfl fun Kt hKt => ?_
  go_simp
  refine hKt _ _ ?_
  clear hKt Kt
  generalize hX9 : World.alloc _ _ = W9
  have hB9 : Below W8.heap.size W8 W9 := hX9 ▸ (Below.refl _ _).alloc (Nat.le_refl _) _
  have hy9 : ByAt W9 W8.heap.size 24 zeros := newBy W8 W9 (by rw [← hX9]; rfl)
  rw [hz8] at hy9
  have hx9 := hx8.keep hB9
  have hB79 := thenB hB8 hB9
  obtain ⟨Nx, hNx⟩ : ∃ N, N = W7.heap.size := ⟨_, rfl⟩
  have HNX : Hid (w.heap.size + 3 < Nx ∧ Nx = W7.heap.size) := ⟨by have := unhide HZ7; omega, hNx⟩
  rw [← hNx] at hx9 hy9 ⊢
  have HX9 := hide hx9
  have HY9 := hide hy9
  have HB9 := hide (thenB (unhide HB7) hB79)
  have HR2 := hide ((unhide HQ2).keep hB79)
  have HR3 := hide ((unhide HQ3).keep hB79)
  have HRL9 := hide ((unhide HQL).keep hB79)
  clear hX8 hX9 hB8 hB9 hx8 hz8 hx9 hy9 hB79 hNx HB7 HQ2 HQ3 HQL HZ7
  refine wpList_bstore rfl 24 (.tmp 17) (.tmp 71) rfl Nx rfl x (show Value.agg cx = _ by rw [unhide HCX]) 32 info32 (unhide HGX).len _ zeros (unhide HX9) rfl ?_
  intro WA HXA HGA
  have HBA := hide ((unhide HB9).grown (unhide HGA) (unhide HB9).size (fun i e => by injection e with e; have := unhide HNX; omega))
  have HYA := hide ((unhide HY9).grown (unhide HGA) (by omega))
  have HRA2 := hide ((unhide HR2).grown (unhide HGA) (by have := unhide HNX; omega))
  have HRA3 := hide ((unhide HR3).grown (unhide HGA) (by have := unhide HNX; omega))
  have HRAL := hide ((unhide HRL9).grown (unhide HGA) (by have := unhide HNX; omega))
  clear HX9 HY9 HB9 HR2 HR3 HRL9 HGA
  refine wpList_bstore rfl 24 (.tmp 18) (.tmp 72) rfl (Nx + 1) rfl y (show Value.agg cy = _ by rw [unhide HCY]) 32 info32 (unhide HGY).len _ zeros (unhide HYA) rfl ?_
  intro WB HYB HGB
  have HBB := hide ((unhide HBA).grown (unhide HGB) (unhide HBA).size (fun i e => by injection e with e; have := unhide HNX; omega))
  have HXB := hide ((unhide HXA).grown (unhide HGB) (by omega))
  have HRB2 := hide ((unhide HRA2).grown (unhide HGB) (by have := unhide HNX; omega))
  have HRB3 := hide ((unhide HRA3).grown (unhide HGB) (by have := unhide HNX; omega))
  have HRBL := hide ((unhide HRAL).grown (unhide HGB) (by have := unhide HNX; omega))
  clear HXA HYA HBA HRA2 HRA3 HRAL HGB
  try simp only [List.getElem_toArray, List.getElem_cons_zero, List.getElem_cons_succ, Act.put, List.setIfInBounds_toArray, List.set_cons_zero, List.set_cons_succ]
  obtain ⟨W, hW⟩ : ∃ W, W = WB.drewN 1 := ⟨_, rfl⟩
  have HW : Hid (W = WB.drewN 1) := hW
  have hBW := below_named HW
  have HBW := hide (thenB (unhide HBB) hBW)
  have hSW : S3 Nx (Nx + 1) (w.heap.size + 3) x y (lastP p) W := ⟨(unhide HXB).keep hBW, (unhide HYB).keep hBW, (unhide HRBL).keep hBW⟩
  have HS2 := hide ((unhide HRB2).keep hBW)
  have HS3 := hide ((unhide HRB3).keep hBW)
  clear hW hBW
  go_wp2_with fail
  refine held (S := S3 Nx (Nx + 1) (w.heap.size + 3) x y (lastP p)) W HW (by kernel_rfl) ?_
  refine wpAnyH_take (i := 0) (v := .agg cl) rfl (by kernel_rfl) (by kernel_rfl) (by kernel_rfl) (fun _ _ _ h => h) (by rw [unhide HCL]; exact yieldsIf_load_mid (by kernel_rfl) 24 (.tmp 12) rfl (w.heap.size + 3) 0 rfl ((lastP p).map (Value.int .u8)) _ (fun W hS => ByAt.range hS.c) Tryd.underlying24 rfl (by rw [List.length_map, (unhide HDL).len]; exact info32)) (by assumption) ?_
  try simp only [List.getElem_toArray, List.getElem_cons_zero, List.getElem_cons_succ, Act.put, List.setIfInBounds_toArray, List.set_cons_zero, List.set_cons_succ]
  refine wpAnyH_take (i := 1) (v := .agg cx) rfl (by kernel_rfl) (by kernel_rfl) (by kernel_rfl) (fun _ _ _ h => h) (by rw [unhide HCX]; exact yieldsIf_load_mid (by kernel_rfl) 24 (.tmp 17) rfl Nx 0 rfl (x.map (Value.int .u8)) _ (fun W hS => ByAt.range hS.a) Tryd.underlying24 rfl (by rw [List.length_map, (unhide HGX).len]; exact info32)) (by assumption) ?_
  try simp only [List.getElem_toArray, List.getElem_cons_zero, List.getElem_cons_succ, Act.put, List.setIfInBounds_toArray, List.set_cons_zero, List.set_cons_succ]
  refine wpAnyH_take (i := 3) (v := .agg cl) rfl (by kernel_rfl) (by kernel_rfl) (by kernel_rfl) (fun _ _ _ h => h) (by rw [unhide HCL]; exact yieldsIf_load_mid (by kernel_rfl) 24 (.tmp 12) rfl (w.heap.size + 3) 0 rfl ((lastP p).map (Value.int .u8)) _ (fun W hS => ByAt.range hS.c) Tryd.underlying24 rfl (by rw [List.length_map, (unhide HDL).len]; exact info32)) (by assumption) ?_
  try simp only [List.getElem_toArray, List.getElem_cons_zero, List.getElem_cons_succ, Act.put, List.setIfInBounds_toArray, List.set_cons_zero, List.set_cons_succ]
  refine wpAnyH_take (i := 4) (v := .agg cy) rfl (by kernel_rfl) (by kernel_rfl) (by kernel_rfl) (fun _ _ _ h => h) (by rw [unhide HCY]; exact yieldsIf_load_mid (by kernel_rfl) 24 (.tmp 18) rfl (Nx + 1) 0 rfl (y.map (Value.int .u8)) _ (fun W hS => ByAt.range hS.b) Tryd.underlying24 rfl (by rw [List.length_map, (unhide HGY).len]; exact info32)) (by assumption) ?_
  try simp only [List.getElem_toArray, List.getElem_cons_zero, List.getElem_cons_succ, Act.put, List.setIfInBounds_toArray, List.set_cons_zero, List.set_cons_succ]
  refine wpAnyH_chainOf [2, 5, 6, 7] _ _ _ (by kernel_rfl) (by kernel_rfl) ?_
  simp only [List.filterMap_cons, List.filterMap_nil, List.getElem?_toArray, List.getElem?_cons_zero, List.getElem?_cons_succ]
  refine wpChain_step rfl fun K hK => ?_
  go_simp
  refine ((unhide HN1) _).mono ?_; rintro x0 wZ ⟨rfl, hA0⟩
  have hSZ := hSW.keep hA0
  have hBZ := thenB (unhide HBW) hA0
  have h2Z := (unhide HS2).keep hA0
  have h3Z := (unhide HS3).keep hA0
  dsimp only
  refine hK _ _ hSZ ?_
  clear hK K
  refine wpChain_step rfl fun K hK => ?_
  go_simp
  refine ((unhide HN2) _).mono ?_; rintro x0 wA ⟨rfl, hA1⟩
  have hSA := hSZ.keep hA1
  have hBA := thenB hBZ hA1
  have h2A := h2Z.keep hA1
  have h3A := h3Z.keep hA1
  dsimp only
  refine hK _ _ hSA ?_
  clear hK K
  refine wpChain_bstore rfl 24 (.tmp 10) (.tmp 75) rfl (w.heap.size + 1) rfl t rfl 32 info32 (unhide HGT).len _ zeros h2A rfl ?_
  intro wC HWC HGC
  have hSC := hSA.grown (unhide HGC) (by have := unhide HNX; omega) (by have := unhide HNX; omega) (by omega)
  have hBC := hBA.grown (unhide HGC) hBA.size (fun i e => by injection e with e; omega)
  have h3C := h3A.grown (unhide HGC) (by omega)
  refine ⟨hSC, ?_⟩
  refine wpChain_bstore rfl 24 (.tmp 11) (.tmp 78) rfl (w.heap.size + 2) rfl u rfl 32 info32 (unhide HGU).len _ zeros h3C rfl ?_
  intro wD HWD HGD
  have hSD := hSC.grown (unhide HGD) (by have := unhide HNX; omega) (by have := unhide HNX; omega) (by omega)
  refine ⟨hSD, wpChain_nil ?_⟩
  have H1 := hide ((unhide HWC).grown (unhide HGD) (by omega))
  have HBD := hide (hBC.grown (unhide HGD) hBC.size (fun i e => by injection e with e; omega))
  clear hSW hSA hBA h2A h3A hSC hBC h3C hSD hA1
  go_wp2_with fail
  try simp only [Exit.inBlock, Exit.then]
  exact bret22 rfl rfl (w.heap.size + 1) (w.heap.size + 2) rfl rfl _ _ _ _ (unhide H1) (unhide HWD) (unhide HGT).len (unhide HGU).len ⟨rfl, unhide HBD⟩
theorem rboth_any (m : Nat) : m ≤ 1099511627776 → ∀ (n : Nat) (whole : Bool) (bf : List Int) (w : World) (len c : Nat) (A : Option Addr) (p : List (List Int)), 1 ≤ n → n ≤ m → Dg bf → Ds w A p → p.length = len → len = gLen n m whole → len ≤ c → BothIs w bf n m whole len c A p := by
  induction m using Nat.strongRecOn with
  | _ m IH =>
    intro h40 n whole bf w len c A p h1 hn hd hA hpl hg hc
    have I := fun m' (h : m' < m) => IH m' h (by omega)
    by_cases h : n = m
    · subst h
      cases whole
      · exact rboth_leaf n bf w len c A p hd hA hpl (by rw [hg, gLen_end]; rfl) hc
      · exact rboth_whole n bf w len c A p hd
    · by_cases ha : n ≤ halfN m
      · exact rboth_left m I n whole bf w len c A p h1 (by omega) h40 hd hA hpl hg hc ha
      · exact rboth_right m I n whole bf w len c A p h1 (by omega) h40 hd hA hpl hg hc ha
end Go.Proofs.YtceppmajbkmbdaaDoor
namespace Go.Proofs.YtceppmajbkmbdaaDoor
set_option linter.unusedSimpArgs false
set_option linter.unusedVariables false
open Go.RowKit

set_option maxRecDepth 100000 in
set_option maxHeartbeats 1000000 in
theorem rGrew_a (a b : List Int) (n m : Int) (h1 : n < 1) (len c : Nat) (A : Option Addr) (w : World) (ha : Dg a) (hb : Dg b) :
    Calls Tryd.prog 25 #[dv a, dv b, .int .i64 n, .int .i64 m, .slice A len c] w fun x w' => x = .returned (.bool false) ∧ Below w.heap.size w w' := by
  have HGA := hide ha
  have HGB := hide hb
  obtain ⟨ca, hca⟩ : ∃ cs, cs = (a.map (Value.int .u8)).toArray := ⟨_, rfl⟩
  have hsa : ca.size = 32 := by rw [hca]; simpa using ha.len
  have HCA := hide hca
  obtain ⟨cb, hcb⟩ : ∃ cs, cs = (b.map (Value.int .u8)).toArray := ⟨_, rfl⟩
  have hsb : cb.size = 32 := by rw [hcb]; simpa using hb.len
  have HCB := hide hcb
  rw [show dv a = .agg ca by rw [hca], show dv b = .agg cb by rw [hcb]]
  clear ha hb hca hcb
  go_enter Tryd.func25, Tryd.ntmps25
  go_upto_region 1 with fail
  generalize hX1 : w.alloc _ = W1
  have hB1 : Below w.heap.size w W1 := hX1 ▸ (Below.refl _ _).alloc (Nat.le_refl _) _
  have ho1 : ByAt W1 w.heap.size 24 a := boxed w W1 a _ (by rw [← hX1]; first | rfl | (rw [unhide HCA]; rfl))
  have hz1 : W1.heap.size = w.heap.size + 1 := by rw [← hX1]; show (w.heap.push _).size = _; rw [Array.size_push]
  generalize hX2 : W1.alloc _ = W2
  have hB2 : Below W1.heap.size W1 W2 := hX2 ▸ (Below.refl _ _).alloc (Nat.le_refl _) _
  have ho2 : ByAt W2 W1.heap.size 24 b := boxed W1 W2 b _ (by rw [← hX2]; first | rfl | (rw [unhide HCB]; rfl))
  rw [hz1] at ho2
  have HB := hide (thenB hB1 hB2)
  have HO1 := hide (ho1.keep hB2)
  have HO2 := hide ho2
  clear hX1 hX2 hB1 hB2 ho1 ho2 hz1
  go_wp2_with fail
  go_ret
  exact ⟨rfl, unhide HB⟩
set_option maxRecDepth 100000 in
set_option maxHeartbeats 1000000 in
theorem rGrew_b (a b : List Int) (n m : Int) (h1 : ¬ n < 1) (h2 : m < n) (len c : Nat) (A : Option Addr) (w : World) (ha : Dg a) (hb : Dg b) :
    Calls Tryd.prog 25 #[dv a, dv b, .int .i64 n, .int .i64 m, .slice A len c] w fun x w' => x = .returned (.bool false) ∧ Below w.heap.size w w' := by
  have HGA := hide ha
  have HGB := hide hb
  obtain ⟨ca, hca⟩ : ∃ cs, cs = (a.map (Value.int .u8)).toArray := ⟨_, rfl⟩
  have hsa : ca.size = 32 := by rw [hca]; simpa using ha.len
  have HCA := hide hca
  obtain ⟨cb, hcb⟩ : ∃ cs, cs = (b.map (Value.int .u8)).toArray := ⟨_, rfl⟩
  have hsb : cb.size = 32 := by rw [hcb]; simpa using hb.len
  have HCB := hide hcb
  rw [show dv a = .agg ca by rw [hca], show dv b = .agg cb by rw [hcb]]
  clear ha hb hca hcb
  go_enter Tryd.func25, Tryd.ntmps25
  go_upto_region 1 with fail
  generalize hX1 : w.alloc _ = W1
  have hB1 : Below w.heap.size w W1 := hX1 ▸ (Below.refl _ _).alloc (Nat.le_refl _) _
  have ho1 : ByAt W1 w.heap.size 24 a := boxed w W1 a _ (by rw [← hX1]; first | rfl | (rw [unhide HCA]; rfl))
  have hz1 : W1.heap.size = w.heap.size + 1 := by rw [← hX1]; show (w.heap.push _).size = _; rw [Array.size_push]
  generalize hX2 : W1.alloc _ = W2
  have hB2 : Below W1.heap.size W1 W2 := hX2 ▸ (Below.refl _ _).alloc (Nat.le_refl _) _
  have ho2 : ByAt W2 W1.heap.size 24 b := boxed W1 W2 b _ (by rw [← hX2]; first | rfl | (rw [unhide HCB]; rfl))
  rw [hz1] at ho2
  have HB := hide (thenB hB1 hB2)
  have HO1 := hide (ho1.keep hB2)
  have HO2 := hide ho2
  clear hX1 hX2 hB1 hB2 ho1 ho2 hz1
  go_wp2_with fail
  go_ret
  exact ⟨rfl, unhide HB⟩
set_option maxRecDepth 100000 in
set_option maxHeartbeats 1000000 in
theorem rGrew_c (a b : List Int) (n m : Int) (h1 : ¬ n < 1) (h2 : ¬ m < n) (h3 : 1099511627776 < m) (len c : Nat) (A : Option Addr) (w : World) (ha : Dg a) (hb : Dg b) :
    Calls Tryd.prog 25 #[dv a, dv b, .int .i64 n, .int .i64 m, .slice A len c] w fun x w' => x = .returned (.bool false) ∧ Below w.heap.size w w' := by
  have HGA := hide ha
  have HGB := hide hb
  obtain ⟨ca, hca⟩ : ∃ cs, cs = (a.map (Value.int .u8)).toArray := ⟨_, rfl⟩
  have hsa : ca.size = 32 := by rw [hca]; simpa using ha.len
  have HCA := hide hca
  obtain ⟨cb, hcb⟩ : ∃ cs, cs = (b.map (Value.int .u8)).toArray := ⟨_, rfl⟩
  have hsb : cb.size = 32 := by rw [hcb]; simpa using hb.len
  have HCB := hide hcb
  rw [show dv a = .agg ca by rw [hca], show dv b = .agg cb by rw [hcb]]
  clear ha hb hca hcb
  go_enter Tryd.func25, Tryd.ntmps25
  go_upto_region 1 with fail
  generalize hX1 : w.alloc _ = W1
  have hB1 : Below w.heap.size w W1 := hX1 ▸ (Below.refl _ _).alloc (Nat.le_refl _) _
  have ho1 : ByAt W1 w.heap.size 24 a := boxed w W1 a _ (by rw [← hX1]; first | rfl | (rw [unhide HCA]; rfl))
  have hz1 : W1.heap.size = w.heap.size + 1 := by rw [← hX1]; show (w.heap.push _).size = _; rw [Array.size_push]
  generalize hX2 : W1.alloc _ = W2
  have hB2 : Below W1.heap.size W1 W2 := hX2 ▸ (Below.refl _ _).alloc (Nat.le_refl _) _
  have ho2 : ByAt W2 W1.heap.size 24 b := boxed W1 W2 b _ (by rw [← hX2]; first | rfl | (rw [unhide HCB]; rfl))
  rw [hz1] at ho2
  have HB := hide (thenB hB1 hB2)
  have HO1 := hide (ho1.keep hB2)
  have HO2 := hide ho2
  clear hX1 hX2 hB1 hB2 ho1 ho2 hz1
  go_wp2_with fail
  go_ret
  exact ⟨rfl, unhide HB⟩
set_option maxRecDepth 100000 in
set_option maxHeartbeats 1000000 in
theorem rGrew_len (a b : List Int) (n m : Nat) (len c : Nat) (A : Option Addr) (w : World) (ha : Dg a) (hb : Dg b) (h1 : 1 ≤ n) (hnm : n ≤ m) (h40 : m ≤ 1099511627776) (hl : len ≠ gLen n m true) :
    Calls Tryd.prog 25 #[dv a, dv b, .int .i64 (n : Int), .int .i64 (m : Int), .slice A len c] w fun x w' => x = .returned (.bool false) ∧ Below w.heap.size w w' := by
  have g1 : ¬ (n : Int) < 1 := by omega
  have g2 : ¬ (m : Int) < (n : Int) := by omega
  have g3 : ¬ (1099511627776 : Int) < (m : Int) := by omega
  obtain ⟨T, hTl⟩ : ∃ T, T = gLen n m true := ⟨_, rfl⟩
  have g4 : ¬ (len : Int) = (T : Int) := by omega
  have HQ : Hid (1 ≤ n ∧ n ≤ m ∧ m ≤ 1099511627776 ∧ T = gLen n m true) := ⟨h1, hnm, h40, hTl⟩
  have HGA := hide ha
  have HGB := hide hb
  obtain ⟨ca, hca⟩ : ∃ cs, cs = (a.map (Value.int .u8)).toArray := ⟨_, rfl⟩
  have hsa : ca.size = 32 := by rw [hca]; simpa using ha.len
  have HCA := hide hca
  obtain ⟨cb, hcb⟩ : ∃ cs, cs = (b.map (Value.int .u8)).toArray := ⟨_, rfl⟩
  have hsb : cb.size = 32 := by rw [hcb]; simpa using hb.len
  have HCB := hide hcb
  rw [show dv a = .agg ca by rw [hca], show dv b = .agg cb by rw [hcb]]
  clear ha hb hca hcb h1 hnm h40 hl hTl
  go_enter Tryd.func25, Tryd.ntmps25
  go_upto_region 1 with fail
  generalize hX1 : w.alloc _ = W1
  have hB1 : Below w.heap.size w W1 := hX1 ▸ (Below.refl _ _).alloc (Nat.le_refl _) _
  have ho1 : ByAt W1 w.heap.size 24 a := boxed w W1 a _ (by rw [← hX1]; first | rfl | (rw [unhide HCA]; rfl))
  have hz1 : W1.heap.size = w.heap.size + 1 := by rw [← hX1]; show (w.heap.push _).size = _; rw [Array.size_push]
  generalize hX2 : W1.alloc _ = W2
  have hB2 : Below W1.heap.size W1 W2 := hX2 ▸ (Below.refl _ _).alloc (Nat.le_refl _) _
  have ho2 : ByAt W2 W1.heap.size 24 b := boxed W1 W2 b _ (by rw [← hX2]; first | rfl | (rw [unhide HCB]; rfl))
  rw [hz1] at ho2
  have HB := hide (thenB hB1 hB2)
  have HO1 := hide (ho1.keep hB2)
  have HO2 := hide ho2
  clear hX1 hX2 hB1 hB2 ho1 ho2 hz1
  go_wp2_with fail
  refine (rgrown_any n m (unhide HQ).1 (unhide HQ).2.1 (unhide HQ).2.2.1 true W2).mono ?_; rintro x W3 ⟨rfl, rfl⟩
  rw [← (unhide HQ).2.2.2]
  go_wp2_with fail
  go_ret
  exact ⟨rfl, unhide HB⟩
set_option maxRecDepth 100000 in
set_option maxHeartbeats 1000000 in
theorem rGrew_ok (a b : List Int) (n m : Nat) (p : List (List Int)) (len c : Nat) (A : Option Addr) (w : World) (ha : Dg a) (hb : Dg b) (h1 : 1 ≤ n) (hnm : n ≤ m) (h40 : m ≤ 1099511627776) (hA : Ds w A p) (hpl : p.length = len) (hpc : len ≤ c) (hl : len = gLen n m true) :
    Calls Tryd.prog 25 #[dv a, dv b, .int .i64 (n : Int), .int .i64 (m : Int), .slice A len c] w fun x w' => x = .returned (.bool (decide ((bothP a n m true p).1 = a) && decide ((bothP a n m true p).2 = b))) ∧ Below w.heap.size w w' := by
  have g1 : ¬ (n : Int) < 1 := by omega
  have g2 : ¬ (m : Int) < (n : Int) := by omega
  have g3 : ¬ (1099511627776 : Int) < (m : Int) := by omega
  obtain ⟨T, hTl⟩ : ∃ T, T = gLen n m true := ⟨_, rfl⟩
  have g4 : (len : Int) = (T : Int) := by omega
  have HQ : Hid (1 ≤ n ∧ n ≤ m ∧ m ≤ 1099511627776 ∧ T = gLen n m true) := ⟨h1, hnm, h40, hTl⟩
  have hgg := dg_both a ha m n true p h1 hnm (hpl.trans hl) hA.dg
  obtain ⟨X, hX⟩ : ∃ x, x = (bothP a n m true p).1 := ⟨_, rfl⟩
  obtain ⟨Y, hY⟩ : ∃ x, x = (bothP a n m true p).2 := ⟨_, rfl⟩
  rw [← hX, ← hY] at hgg ⊢
  have HGX := hide hgg.1; have HGY := hide hgg.2
  obtain ⟨cX, hcX⟩ : ∃ cs, cs = (X.map (Value.int .u8)).toArray := ⟨_, rfl⟩
  have hsX : cX.size = 32 := by rw [hcX]; simpa using hgg.1.len
  have HCX := hide hcX
  obtain ⟨cY, hcY⟩ : ∃ cs, cs = (Y.map (Value.int .u8)).toArray := ⟨_, rfl⟩
  have hsY : cY.size = 32 := by rw [hcY]; simpa using hgg.2.len
  have HCY := hide hcY
  have HGA := hide ha
  have HGB := hide hb
  obtain ⟨ca, hca⟩ : ∃ cs, cs = (a.map (Value.int .u8)).toArray := ⟨_, rfl⟩
  have hsa : ca.size = 32 := by rw [hca]; simpa using ha.len
  have HCA := hide hca
  obtain ⟨cb, hcb⟩ : ∃ cs, cs = (b.map (Value.int .u8)).toArray := ⟨_, rfl⟩
  have hsb : cb.size = 32 := by rw [hcb]; simpa using hb.len
  have HCB := hide hcb
  rw [show dv a = .agg ca by rw [hca], show dv b = .agg cb by rw [hcb]]
  have HF : Hid (∀ V, Below w.heap.size w V → Calls Tryd.prog 65 #[.agg ca, .int .i64 (n : Int), .int .i64 (m : Int), .bool true, .slice A len c] V fun x w' => x = .returned (.tuple #[.agg cX, .agg cY]) ∧ Below V.heap.size V w') := fun V hV => by
    have := rboth_any m h40 n true a V len c A p h1 hnm ha (hA.keep hV) hpl hl hpc
    unfold BothIs at this
    rw [← hX, ← hY, show dv a = .agg ca by rw [unhide HCA], show dv X = .agg cX by rw [unhide HCX], show dv Y = .agg cY by rw [unhide HCY]] at this
    exact this
  clear ha hb hca hcb h1 hnm h40 hl hTl hA hpl hpc hX hY hgg hcX hcY
  go_enter Tryd.func25, Tryd.ntmps25
  go_upto_region 1 with fail
  generalize hX1 : w.alloc _ = W1
  have hB1 : Below w.heap.size w W1 := hX1 ▸ (Below.refl _ _).alloc (Nat.le_refl _) _
  have ho1 : ByAt W1 w.heap.size 24 a := boxed w W1 a _ (by rw [← hX1]; first | rfl | (rw [unhide HCA]; rfl))
  have hz1 : W1.heap.size = w.heap.size + 1 := by rw [← hX1]; show (w.heap.push _).size = _; rw [Array.size_push]
  generalize hX2 : W1.alloc _ = W2
  have hB2 : Below W1.heap.size W1 W2 := hX2 ▸ (Below.refl _ _).alloc (Nat.le_refl _) _
  have ho2 : ByAt W2 W1.heap.size 24 b := boxed W1 W2 b _ (by rw [← hX2]; first | rfl | (rw [unhide HCB]; rfl))
  rw [hz1] at ho2
  have HB := hide (thenB hB1 hB2)
  have HO1 := hide (ho1.keep hB2)
  have HO2 := hide ho2
  clear hX1 hX2 hB1 hB2 ho1 ho2 hz1
  go_wp2_with fail
  refine (rgrown_any n m (unhide HQ).1 (unhide HQ).2.1 (unhide HQ).2.2.1 true W2).mono ?_; rintro x W3 ⟨rfl, rfl⟩
  rw [← (unhide HQ).2.2.2]
  go_upto_region 3 with fail
  refine wp_region_lit ?_
  refine wpList_bload rfl 24 (.tmp 5) rfl w.heap.size rfl _ Tryd.underlying24 rfl 32 info32 _ a (unhide HO1) (unhide HGA).len ?_
  rw [show dv a = .agg ca by rw [unhide HCA]]
  go_wp2_with fail
  refine ((unhide HF) W3 (unhide HB)).mono ?_; rintro x0 W8 ⟨rfl, hB8⟩
  have HB8 := hide (thenB (unhide HB) hB8)
  have HO8 := hide ((unhide HO1).keep hB8)
  have HP8 := hide ((unhide HO2).keep hB8)
  clear hB8 HO1 HO2 HB HF
  dsimp only
  rename_i KK hK
  refine hK _ _ ?_
  clear hK KK
  refine wpList_plain rfl fun Kt hKt => ?_
  go_simp
  refine hKt _ _ ?_
  clear hKt Kt
  refine wpList_plain rfl fun Kt hKt => ?_
  go_simp
  refine hKt _ _ ?_
  clear hKt Kt
  refine wpList_plain rfl fun Kt hKt => ?_
  go_simp
  refine hKt _ _ ?_
  clear hKt Kt
  refine wpList_plain rfl fun Kt hKt => ?_
  go_simp
  refine hKt _ _ ?_
  clear hKt Kt
  generalize hX9 : W8.alloc _ = W9
  have hB9 : Below W8.heap.size W8 W9 := hX9 ▸ (Below.refl _ _).alloc (Nat.le_refl _) _
  have HN9 := hide (newBy W8 W9 (by rw [← hX9]; rfl))
  have hz9 : W9.heap.size = W8.heap.size + 1 := by rw [← hX9]; show (W8.heap.push _).size = _; rw [Array.size_push]
  refine wpList_plain rfl fun Kt hKt => ?_
  go_simp
  refine hKt _ _ ?_
  clear hKt Kt
  generalize hX10 : W9.alloc _ = W10
  have hB10 : Below W9.heap.size W9 W10 := hX10 ▸ (Below.refl _ _).alloc (Nat.le_refl _) _
  have hN10 := newBy W9 W10 (by rw [← hX10]; rfl)
  rw [hz9] at hN10
  have HN10 := hide hN10
  have HZ : Hid (w.heap.size + 1 < W8.heap.size) := lt_of_block (unhide HP8)
  have hBB := thenB hB9 hB10
  have HBB := hide (thenB (unhide HB8) hBB)
  have HOO := hide ((unhide HO8).keep hBB)
  have HPP := hide ((unhide HP8).keep hBB)
  have HNN := hide ((unhide HN9).keep hB10)
  clear hX9 hB9 HN9 hz9 hX10 hB10 hN10 hBB HO8 HP8
  refine wpList_bstore rfl 24 (.tmp 11) (.tmp 38) rfl W8.heap.size rfl X (show Value.agg cX = _ by rw [unhide HCX]) 32 info32 (unhide HGX).len _ zeros (unhide HNN) rfl ?_
  intro V1 HV1 HG1
  have hN1 := (unhide HN10).grown (unhide HG1) (by omega)
  have hBV1 := (unhide HBB).grown (unhide HG1) (unhide HBB).size (fun i e => by injection e with e; have := unhide HZ; omega)
  have hOV1 := (unhide HOO).grown (unhide HG1) (by have := unhide HZ; omega)
  have hPV1 := (unhide HPP).grown (unhide HG1) (by have := unhide HZ; omega)
  have HN1 := hide hN1
  have HBV1 := hide hBV1
  have HOV1 := hide hOV1
  have HPV1 := hide hPV1
  clear hN1 hBV1 hOV1 hPV1 HG1 HBB HOO HPP HNN HN10
  refine wpList_bstore rfl 24 (.tmp 12) (.tmp 39) rfl (W8.heap.size + 1) rfl Y (show Value.agg cY = _ by rw [unhide HCY]) 32 info32 (unhide HGY).len _ zeros (unhide HN1) rfl ?_
  intro V2 HV2 HG2
  have hW1 := (unhide HV1).grown (unhide HG2) (by omega)
  have hBV2 := (unhide HBV1).grown (unhide HG2) (unhide HBV1).size (fun i e => by injection e with e; have := unhide HZ; omega)
  have hOV2 := (unhide HOV1).grown (unhide HG2) (by have := unhide HZ; omega)
  have hPV2 := (unhide HPV1).grown (unhide HG2) (by have := unhide HZ; omega)
  have HX := hide hW1
  have HBX := hide hBV2
  have HOX := hide hOV2
  have HPX := hide hPV2
  clear hW1 hBV2 hOV2 hPV2 HG2 HV1 HN1 HBV1 HOV1 HPV1
  go_upto_region 4 with fail
  refine wp_region_lit ?_
  refine wpList_bload rfl 24 (.tmp 11) rfl W8.heap.size rfl _ Tryd.underlying24 rfl 32 info32 _ X (unhide HX) (unhide HGX).len ?_
  refine wpList_bload rfl 24 (.tmp 5) rfl w.heap.size rfl _ Tryd.underlying24 rfl 32 info32 _ a (unhide HOX) (unhide HGA).len ?_
  refine wpList_eql (by kernel_rfl) (.tmp 40) (.tmp 41) _ rfl X a rfl rfl (unhide HGX).len (unhide HGA).len ?_
  rw [show dv X = .agg cX by rw [unhide HCX], show dv a = .agg ca by rw [unhide HCA]]
  by_cases hXa : X = a
  · rw [show decide (X = a) = true from decide_eq_true hXa]
    try simp only [List.getElem_toArray, List.getElem_cons_zero, List.getElem_cons_succ, Act.put, List.setIfInBounds_toArray, List.set_cons_zero, List.set_cons_succ]
    refine wpList_wanted (by kernel_rfl) fun Kt hKt => ?_
    go_simp
    refine hKt _ _ ?_
    clear hKt Kt
    refine wpList_gload (by kernel_rfl) 24 (.tmp 12) rfl (W8.heap.size + 1) rfl _ Tryd.underlying24 rfl 32 info32 _ Y (unhide HV2) (unhide HGY).len ?_
    refine wpList_gload (by kernel_rfl) 24 (.tmp 6) rfl (w.heap.size + 1) rfl _ Tryd.underlying24 rfl 32 info32 _ b (unhide HPX) (unhide HGB).len ?_
    refine wpList_eql (by kernel_rfl) (.tmp 44) (.tmp 45) _ rfl Y b rfl rfl (unhide HGY).len (unhide HGB).len ?_
    rw [show dv Y = .agg cY by rw [unhide HCY], show dv b = .agg cb by rw [unhide HCB]]
    obtain ⟨bo, hbo⟩ : ∃ z, z = decide (Y = b) := ⟨_, rfl⟩
    rw [← hbo]
    try simp only [List.getElem_toArray, List.getElem_cons_zero, List.getElem_cons_succ, Act.put, List.setIfInBounds_toArray, List.set_cons_zero, List.set_cons_succ]
    go_wp2_with fail
    go_ret
    exact ⟨by rw [hbo, decide_eq_true hXa]; rfl, unhide HBX⟩
  · rw [show decide (X = a) = false from decide_eq_false hXa]
    try simp only [List.getElem_toArray, List.getElem_cons_zero, List.getElem_cons_succ, Act.put, List.setIfInBounds_toArray, List.set_cons_zero, List.set_cons_succ]
    go_wp2_with fail
    go_ret
    exact ⟨by rw [decide_eq_false hXa]; rfl, unhide HBX⟩
/-- an operation that isn't wanted, once only it may come -/
theorem wpAnyH_skip3 {P : Program} {md : Region.Mode} {ops : Array Oper} {Q : Exit → Act → World → Prop} {S : World → Prop} {n : Nat} {listed : Array Bool} {a : Act} {w : World} (i : Nat) (o : Oper) (ho : ops[i]? = some o) (hr : Region.ready md ops listed = [i]) (hgd : Region.wanted o (yielded ops a.tmps) = false) (hS : S w)
    (h : wpAnyH P md ops Q S n (listed.setIfInBounds i true) (a.put o.dst undef) w) : wpAnyH P md ops Q S (n + 1) listed a w := by
  refine wpAnyH_all hr (by simp) fun j hj => ?_
  obtain rfl : j = i := by simpa using hj
  unfold wpOp
  simp only [ho]
  rw [if_neg (by rw [hgd]; simp)]
  exact ⟨hS, h⟩
set_option maxRecDepth 100000 in
set_option maxHeartbeats 1000000 in
theorem Grew_a (a b : List Int) (n m : Int) (h1 : n < 1) (len c : Nat) (A : Option Addr) (w : World) (ha : Dg a) (hb : Dg b) :
    Calls Tryd.prog 24 #[dv a, dv b, .int .i64 n, .int .i64 m, .slice A len c] w fun x w' => x = .returned (.bool false) ∧ Below w.heap.size w w' := by
  have HGA := hide ha
  have HGB := hide hb
  obtain ⟨ca, hca⟩ : ∃ cs, cs = (a.map (Value.int .u8)).toArray := ⟨_, rfl⟩
  have hsa : ca.size = 32 := by rw [hca]; simpa using ha.len
  have HCA := hide hca
  obtain ⟨cb, hcb⟩ : ∃ cs, cs = (b.map (Value.int .u8)).toArray := ⟨_, rfl⟩
  have hsb : cb.size = 32 := by rw [hcb]; simpa using hb.len
  have HCB := hide hcb
  rw [show dv a = .agg ca by rw [hca], show dv b = .agg cb by rw [hcb]]
  clear ha hb hca hcb
  go_enter Tryd.func24, Tryd.ntmps24
  go_upto_region 1 with fail
  generalize hX1 : w.alloc _ = W1
  have hB1 : Below w.heap.size w W1 := hX1 ▸ (Below.refl _ _).alloc (Nat.le_refl _) _
  have ho1 : ByAt W1 w.heap.size 24 a := boxed w W1 a _ (by rw [← hX1]; first | rfl | (rw [unhide HCA]; rfl))
  have hz1 : W1.heap.size = w.heap.size + 1 := by rw [← hX1]; show (w.heap.push _).size = _; rw [Array.size_push]
  generalize hX2 : W1.alloc _ = W2
  have hB2 : Below W1.heap.size W1 W2 := hX2 ▸ (Below.refl _ _).alloc (Nat.le_refl _) _
  have ho2 : ByAt W2 W1.heap.size 24 b := boxed W1 W2 b _ (by rw [← hX2]; first | rfl | (rw [unhide HCB]; rfl))
  rw [hz1] at ho2
  generalize hX3 : W2.alloc _ = W3
  have hB3 : Below W2.heap.size W2 W3 := hX3 ▸ (Below.refl _ _).alloc (Nat.le_refl _) _
  have hB := thenB (thenB hB1 hB2) hB3
  obtain ⟨W, hW⟩ : ∃ W, W = W3.drewN 1 := ⟨_, rfl⟩
  have HW : Hid (W = W3.drewN 1) := hW
  have hSW : Below w.heap.size w W := thenB hB (below_named HW)
  have HEND := hide hSW
  clear hX1 hX2 hX3 hB1 hB2 hB3 ho1 ho2 hz1 hB hW
  refine held (S := Below w.heap.size w) W HW (by kernel_rfl) ?_
  refine wpAnyH_take (i := 0) (v := ?_) rfl (by kernel_rfl) (by kernel_rfl) (by kernel_rfl) (fun _ _ _ h => h) (Or.inl ⟨by kernel_rfl, ?_⟩) (by assumption) ?_
  rotate_left
  · intro Wt hSt
    go_simp
    try with_reducible rfl
  try simp only [List.getElem_toArray, List.getElem_cons_zero, List.getElem_cons_succ, Act.put, List.setIfInBounds_toArray, List.set_cons_zero, List.set_cons_succ]
  refine wpAnyH_take (i := 1) (v := ?_) rfl (by kernel_rfl) (by kernel_rfl) (by kernel_rfl) (fun _ _ _ h => h) (Or.inl ⟨by kernel_rfl, ?_⟩) (by assumption) ?_
  rotate_left
  · intro Wt hSt
    go_simp
    try with_reducible rfl
  try simp only [List.getElem_toArray, List.getElem_cons_zero, List.getElem_cons_succ, Act.put, List.setIfInBounds_toArray, List.set_cons_zero, List.set_cons_succ]
  refine wpAnyH_take (i := 2) (v := ?_) rfl (by kernel_rfl) (by kernel_rfl) (by kernel_rfl) (fun _ _ _ h => h) (Or.inl ⟨by kernel_rfl, ?_⟩) (by assumption) ?_
  rotate_left
  · intro Wt hSt
    go_simp
    try with_reducible rfl
  try simp only [List.getElem_toArray, List.getElem_cons_zero, List.getElem_cons_succ, Act.put, List.setIfInBounds_toArray, List.set_cons_zero, List.set_cons_succ]
  refine wpAnyH_take (i := 3) (v := undef) rfl (by kernel_rfl) (by kernel_rfl) (by kernel_rfl) (fun _ _ _ h => h) (Or.inr ⟨by kernel_rfl, rfl⟩) (by assumption) ?_
  try simp only [List.getElem_toArray, List.getElem_cons_zero, List.getElem_cons_succ, Act.put, List.setIfInBounds_toArray, List.set_cons_zero, List.set_cons_succ]
  refine wpAnyH_take (i := 4) (v := undef) rfl (by kernel_rfl) (by kernel_rfl) (by kernel_rfl) (fun _ _ _ h => h) (Or.inr ⟨by kernel_rfl, rfl⟩) (by assumption) ?_
  try simp only [List.getElem_toArray, List.getElem_cons_zero, List.getElem_cons_succ, Act.put, List.setIfInBounds_toArray, List.set_cons_zero, List.set_cons_succ]
  refine wpAnyH_take (i := 5) (v := undef) rfl (by kernel_rfl) (by kernel_rfl) (by kernel_rfl) (fun _ _ _ h => h) (Or.inr ⟨by kernel_rfl, rfl⟩) (by assumption) ?_
  try simp only [List.getElem_toArray, List.getElem_cons_zero, List.getElem_cons_succ, Act.put, List.setIfInBounds_toArray, List.set_cons_zero, List.set_cons_succ]
  refine wpAnyH_take (i := 6) (v := ?_) rfl (by kernel_rfl) (by kernel_rfl) (by kernel_rfl) (fun _ _ _ h => h) (Or.inl ⟨by kernel_rfl, ?_⟩) (by assumption) ?_
  rotate_left
  · intro Wt hSt
    go_simp
    try with_reducible rfl
  try simp only [List.getElem_toArray, List.getElem_cons_zero, List.getElem_cons_succ, Act.put, List.setIfInBounds_toArray, List.set_cons_zero, List.set_cons_succ]
  refine wpAnyH_take (i := 7) (v := ?_) rfl (by kernel_rfl) (by kernel_rfl) (by kernel_rfl) (fun _ _ _ h => h) (Or.inl ⟨by kernel_rfl, ?_⟩) (by assumption) ?_
  rotate_left
  · intro Wt hSt
    go_simp
    try with_reducible rfl
  try simp only [List.getElem_toArray, List.getElem_cons_zero, List.getElem_cons_succ, Act.put, List.setIfInBounds_toArray, List.set_cons_zero, List.set_cons_succ]
  refine wpAnyH_take (i := 8) (v := undef) rfl (by kernel_rfl) (by kernel_rfl) (by kernel_rfl) (fun _ _ _ h => h) (Or.inr ⟨by kernel_rfl, rfl⟩) (by assumption) ?_
  try simp only [List.getElem_toArray, List.getElem_cons_zero, List.getElem_cons_succ, Act.put, List.setIfInBounds_toArray, List.set_cons_zero, List.set_cons_succ]
  refine wpAnyH_take (i := 9) (v := undef) rfl (by kernel_rfl) (by kernel_rfl) (by kernel_rfl) (fun _ _ _ h => h) (Or.inr ⟨by kernel_rfl, rfl⟩) (by assumption) ?_
  try simp only [List.getElem_toArray, List.getElem_cons_zero, List.getElem_cons_succ, Act.put, List.setIfInBounds_toArray, List.set_cons_zero, List.set_cons_succ]
  refine wpAnyH_take (i := 10) (v := ?_) rfl (by kernel_rfl) (by kernel_rfl) (by kernel_rfl) (fun _ _ _ h => h) (Or.inl ⟨by kernel_rfl, ?_⟩) (by assumption) ?_
  rotate_left
  · intro Wt hSt
    go_simp
    try with_reducible rfl
  try simp only [List.getElem_toArray, List.getElem_cons_zero, List.getElem_cons_succ, Act.put, List.setIfInBounds_toArray, List.set_cons_zero, List.set_cons_succ]
  refine wpAnyH_take (i := 11) (v := ?_) rfl (by kernel_rfl) (by kernel_rfl) (by kernel_rfl) (fun _ _ _ h => h) (Or.inl ⟨by kernel_rfl, ?_⟩) (by assumption) ?_
  rotate_left
  · intro Wt hSt
    go_simp
    try with_reducible rfl
  try simp only [List.getElem_toArray, List.getElem_cons_zero, List.getElem_cons_succ, Act.put, List.setIfInBounds_toArray, List.set_cons_zero, List.set_cons_succ]
  refine wpAnyH_take (i := 12) (v := undef) rfl (by kernel_rfl) (by kernel_rfl) (by kernel_rfl) (fun _ _ _ h => h) (Or.inr ⟨by kernel_rfl, rfl⟩) (by assumption) ?_
  try simp only [List.getElem_toArray, List.getElem_cons_zero, List.getElem_cons_succ, Act.put, List.setIfInBounds_toArray, List.set_cons_zero, List.set_cons_succ]
  refine wpAnyH_take (i := 13) (v := undef) rfl (by kernel_rfl) (by kernel_rfl) (by kernel_rfl) (fun _ _ _ h => h) (Or.inr ⟨by kernel_rfl, rfl⟩) (by assumption) ?_
  try simp only [List.getElem_toArray, List.getElem_cons_zero, List.getElem_cons_succ, Act.put, List.setIfInBounds_toArray, List.set_cons_zero, List.set_cons_succ]
  refine wpAnyH_take (i := 14) (v := undef) rfl (by kernel_rfl) (by kernel_rfl) (by kernel_rfl) (fun _ _ _ h => h) (Or.inr ⟨by kernel_rfl, rfl⟩) (by assumption) ?_
  try simp only [List.getElem_toArray, List.getElem_cons_zero, List.getElem_cons_succ, Act.put, List.setIfInBounds_toArray, List.set_cons_zero, List.set_cons_succ]
  refine wpAnyH_take (i := 15) (v := undef) rfl (by kernel_rfl) (by kernel_rfl) (by kernel_rfl) (fun _ _ _ h => h) (Or.inr ⟨by kernel_rfl, rfl⟩) (by assumption) ?_
  try simp only [List.getElem_toArray, List.getElem_cons_zero, List.getElem_cons_succ, Act.put, List.setIfInBounds_toArray, List.set_cons_zero, List.set_cons_succ]
  refine wpAnyH_skip3 16 _ rfl (by kernel_rfl) (by kernel_rfl) hSW ?_
  try simp only [List.getElem_toArray, List.getElem_cons_zero, List.getElem_cons_succ, Act.put, List.setIfInBounds_toArray, List.set_cons_zero, List.set_cons_succ]
  refine wpAnyH_take (i := 17) (v := undef) rfl (by kernel_rfl) (by kernel_rfl) (by kernel_rfl) (fun _ _ _ h => h) (Or.inr ⟨by kernel_rfl, rfl⟩) (by assumption) ?_
  try simp only [List.getElem_toArray, List.getElem_cons_zero, List.getElem_cons_succ, Act.put, List.setIfInBounds_toArray, List.set_cons_zero, List.set_cons_succ]
  refine wpAnyH_take (i := 18) (v := ?_) rfl (by kernel_rfl) (by kernel_rfl) (by kernel_rfl) (fun _ _ _ h => h) (Or.inl ⟨by kernel_rfl, ?_⟩) (by assumption) ?_
  rotate_left
  · intro Wt hSt
    go_simp
    try with_reducible rfl
  try simp only [List.getElem_toArray, List.getElem_cons_zero, List.getElem_cons_succ, Act.put, List.setIfInBounds_toArray, List.set_cons_zero, List.set_cons_succ]
  refine wpAnyH_chainOf [] _ _ _ (by kernel_rfl) (by kernel_rfl) ?_
  refine wpChain_nil ?_
  go_wp2_with fail
  go_ret
  exact ⟨rfl, unhide HEND⟩
set_option maxRecDepth 100000 in
set_option maxHeartbeats 1000000 in
theorem Grew_b (a b : List Int) (n m : Int) (h1 : ¬ n < 1) (h2 : m < n) (len c : Nat) (A : Option Addr) (w : World) (ha : Dg a) (hb : Dg b) :
    Calls Tryd.prog 24 #[dv a, dv b, .int .i64 n, .int .i64 m, .slice A len c] w fun x w' => x = .returned (.bool false) ∧ Below w.heap.size w w' := by
  have HGA := hide ha
  have HGB := hide hb
  obtain ⟨ca, hca⟩ : ∃ cs, cs = (a.map (Value.int .u8)).toArray := ⟨_, rfl⟩
  have hsa : ca.size = 32 := by rw [hca]; simpa using ha.len
  have HCA := hide hca
  obtain ⟨cb, hcb⟩ : ∃ cs, cs = (b.map (Value.int .u8)).toArray := ⟨_, rfl⟩
  have hsb : cb.size = 32 := by rw [hcb]; simpa using hb.len
  have HCB := hide hcb
  rw [show dv a = .agg ca by rw [hca], show dv b = .agg cb by rw [hcb]]
  clear ha hb hca hcb
  go_enter Tryd.func24, Tryd.ntmps24
  go_upto_region 1 with fail
  generalize hX1 : w.alloc _ = W1
  have hB1 : Below w.heap.size w W1 := hX1 ▸ (Below.refl _ _).alloc (Nat.le_refl _) _
  have ho1 : ByAt W1 w.heap.size 24 a := boxed w W1 a _ (by rw [← hX1]; first | rfl | (rw [unhide HCA]; rfl))
  have hz1 : W1.heap.size = w.heap.size + 1 := by rw [← hX1]; show (w.heap.push _).size = _; rw [Array.size_push]
  generalize hX2 : W1.alloc _ = W2
  have hB2 : Below W1.heap.size W1 W2 := hX2 ▸ (Below.refl _ _).alloc (Nat.le_refl _) _
  have ho2 : ByAt W2 W1.heap.size 24 b := boxed W1 W2 b _ (by rw [← hX2]; first | rfl | (rw [unhide HCB]; rfl))
  rw [hz1] at ho2
  generalize hX3 : W2.alloc _ = W3
  have hB3 : Below W2.heap.size W2 W3 := hX3 ▸ (Below.refl _ _).alloc (Nat.le_refl _) _
  have hB := thenB (thenB hB1 hB2) hB3
  obtain ⟨W, hW⟩ : ∃ W, W = W3.drewN 1 := ⟨_, rfl⟩
  have HW : Hid (W = W3.drewN 1) := hW
  have hSW : Below w.heap.size w W := thenB hB (below_named HW)
  have HEND := hide hSW
  clear hX1 hX2 hX3 hB1 hB2 hB3 ho1 ho2 hz1 hB hW
  refine held (S := Below w.heap.size w) W HW (by kernel_rfl) ?_
  refine wpAnyH_take (i := 0) (v := ?_) rfl (by kernel_rfl) (by kernel_rfl) (by kernel_rfl) (fun _ _ _ h => h) (Or.inl ⟨by kernel_rfl, ?_⟩) (by assumption) ?_
  rotate_left
  · intro Wt hSt
    go_simp
    try with_reducible rfl
  try simp only [List.getElem_toArray, List.getElem_cons_zero, List.getElem_cons_succ, Act.put, List.setIfInBounds_toArray, List.set_cons_zero, List.set_cons_succ]
  refine wpAnyH_take (i := 1) (v := ?_) rfl (by kernel_rfl) (by kernel_rfl) (by kernel_rfl) (fun _ _ _ h => h) (Or.inl ⟨by kernel_rfl, ?_⟩) (by assumption) ?_
  rotate_left
  · intro Wt hSt
    go_simp
    try with_reducible rfl
  try simp only [List.getElem_toArray, List.getElem_cons_zero, List.getElem_cons_succ, Act.put, List.setIfInBounds_toArray, List.set_cons_zero, List.set_cons_succ]
  refine wpAnyH_take (i := 2) (v := ?_) rfl (by kernel_rfl) (by kernel_rfl) (by kernel_rfl) (fun _ _ _ h => h) (Or.inl ⟨by kernel_rfl, ?_⟩) (by assumption) ?_
  rotate_left
  · intro Wt hSt
    go_simp
    try with_reducible rfl
  try simp only [List.getElem_toArray, List.getElem_cons_zero, List.getElem_cons_succ, Act.put, List.setIfInBounds_toArray, List.set_cons_zero, List.set_cons_succ]
  refine wpAnyH_take (i := 3) (v := ?_) rfl (by kernel_rfl) (by kernel_rfl) (by kernel_rfl) (fun _ _ _ h => h) (Or.inl ⟨by kernel_rfl, ?_⟩) (by assumption) ?_
  rotate_left
  · intro Wt hSt
    go_simp
    try with_reducible rfl
  try simp only [List.getElem_toArray, List.getElem_cons_zero, List.getElem_cons_succ, Act.put, List.setIfInBounds_toArray, List.set_cons_zero, List.set_cons_succ]
  refine wpAnyH_take (i := 4) (v := ?_) rfl (by kernel_rfl) (by kernel_rfl) (by kernel_rfl) (fun _ _ _ h => h) (Or.inl ⟨by kernel_rfl, ?_⟩) (by assumption) ?_
  rotate_left
  · intro Wt hSt
    go_simp
    try with_reducible rfl
  try simp only [List.getElem_toArray, List.getElem_cons_zero, List.getElem_cons_succ, Act.put, List.setIfInBounds_toArray, List.set_cons_zero, List.set_cons_succ]
  refine wpAnyH_take (i := 5) (v := ?_) rfl (by kernel_rfl) (by kernel_rfl) (by kernel_rfl) (fun _ _ _ h => h) (Or.inl ⟨by kernel_rfl, ?_⟩) (by assumption) ?_
  rotate_left
  · intro Wt hSt
    go_simp
    try with_reducible rfl
  try simp only [List.getElem_toArray, List.getElem_cons_zero, List.getElem_cons_succ, Act.put, List.setIfInBounds_toArray, List.set_cons_zero, List.set_cons_succ]
  refine wpAnyH_take (i := 6) (v := ?_) rfl (by kernel_rfl) (by kernel_rfl) (by kernel_rfl) (fun _ _ _ h => h) (Or.inl ⟨by kernel_rfl, ?_⟩) (by assumption) ?_
  rotate_left
  · intro Wt hSt
    go_simp
    try with_reducible rfl
  try simp only [List.getElem_toArray, List.getElem_cons_zero, List.getElem_cons_succ, Act.put, List.setIfInBounds_toArray, List.set_cons_zero, List.set_cons_succ]
  refine wpAnyH_take (i := 7) (v := ?_) rfl (by kernel_rfl) (by kernel_rfl) (by kernel_rfl) (fun _ _ _ h => h) (Or.inl ⟨by kernel_rfl, ?_⟩) (by assumption) ?_
  rotate_left
  · intro Wt hSt
    go_simp
    try with_reducible rfl
  try simp only [List.getElem_toArray, List.getElem_cons_zero, List.getElem_cons_succ, Act.put, List.setIfInBounds_toArray, List.set_cons_zero, List.set_cons_succ]
  refine wpAnyH_take (i := 8) (v := undef) rfl (by kernel_rfl) (by kernel_rfl) (by kernel_rfl) (fun _ _ _ h => h) (Or.inr ⟨by kernel_rfl, rfl⟩) (by assumption) ?_
  try simp only [List.getElem_toArray, List.getElem_cons_zero, List.getElem_cons_succ, Act.put, List.setIfInBounds_toArray, List.set_cons_zero, List.set_cons_succ]
  refine wpAnyH_take (i := 9) (v := undef) rfl (by kernel_rfl) (by kernel_rfl) (by kernel_rfl) (fun _ _ _ h => h) (Or.inr ⟨by kernel_rfl, rfl⟩) (by assumption) ?_
  try simp only [List.getElem_toArray, List.getElem_cons_zero, List.getElem_cons_succ, Act.put, List.setIfInBounds_toArray, List.set_cons_zero, List.set_cons_succ]
  refine wpAnyH_take (i := 10) (v := ?_) rfl (by kernel_rfl) (by kernel_rfl) (by kernel_rfl) (fun _ _ _ h => h) (Or.inl ⟨by kernel_rfl, ?_⟩) (by assumption) ?_
  rotate_left
  · intro Wt hSt
    go_simp
    try with_reducible rfl
  try simp only [List.getElem_toArray, List.getElem_cons_zero, List.getElem_cons_succ, Act.put, List.setIfInBounds_toArray, List.set_cons_zero, List.set_cons_succ]
  refine wpAnyH_take (i := 11) (v := ?_) rfl (by kernel_rfl) (by kernel_rfl) (by kernel_rfl) (fun _ _ _ h => h) (Or.inl ⟨by kernel_rfl, ?_⟩) (by assumption) ?_
  rotate_left
  · intro Wt hSt
    go_simp
    try with_reducible rfl
  try simp only [List.getElem_toArray, List.getElem_cons_zero, List.getElem_cons_succ, Act.put, List.setIfInBounds_toArray, List.set_cons_zero, List.set_cons_succ]
  refine wpAnyH_take (i := 12) (v := undef) rfl (by kernel_rfl) (by kernel_rfl) (by kernel_rfl) (fun _ _ _ h => h) (Or.inr ⟨by kernel_rfl, rfl⟩) (by assumption) ?_
  try simp only [List.getElem_toArray, List.getElem_cons_zero, List.getElem_cons_succ, Act.put, List.setIfInBounds_toArray, List.set_cons_zero, List.set_cons_succ]
  refine wpAnyH_take (i := 13) (v := undef) rfl (by kernel_rfl) (by kernel_rfl) (by kernel_rfl) (fun _ _ _ h => h) (Or.inr ⟨by kernel_rfl, rfl⟩) (by assumption) ?_
  try simp only [List.getElem_toArray, List.getElem_cons_zero, List.getElem_cons_succ, Act.put, List.setIfInBounds_toArray, List.set_cons_zero, List.set_cons_succ]
  refine wpAnyH_take (i := 14) (v := undef) rfl (by kernel_rfl) (by kernel_rfl) (by kernel_rfl) (fun _ _ _ h => h) (Or.inr ⟨by kernel_rfl, rfl⟩) (by assumption) ?_
  try simp only [List.getElem_toArray, List.getElem_cons_zero, List.getElem_cons_succ, Act.put, List.setIfInBounds_toArray, List.set_cons_zero, List.set_cons_succ]
  refine wpAnyH_take (i := 15) (v := undef) rfl (by kernel_rfl) (by kernel_rfl) (by kernel_rfl) (fun _ _ _ h => h) (Or.inr ⟨by kernel_rfl, rfl⟩) (by assumption) ?_
  try simp only [List.getElem_toArray, List.getElem_cons_zero, List.getElem_cons_succ, Act.put, List.setIfInBounds_toArray, List.set_cons_zero, List.set_cons_succ]
  refine wpAnyH_skip3 16 _ rfl (by kernel_rfl) (by kernel_rfl) hSW ?_
  try simp only [List.getElem_toArray, List.getElem_cons_zero, List.getElem_cons_succ, Act.put, List.setIfInBounds_toArray, List.set_cons_zero, List.set_cons_succ]
  refine wpAnyH_take (i := 17) (v := undef) rfl (by kernel_rfl) (by kernel_rfl) (by kernel_rfl) (fun _ _ _ h => h) (Or.inr ⟨by kernel_rfl, rfl⟩) (by assumption) ?_
  try simp only [List.getElem_toArray, List.getElem_cons_zero, List.getElem_cons_succ, Act.put, List.setIfInBounds_toArray, List.set_cons_zero, List.set_cons_succ]
  refine wpAnyH_take (i := 18) (v := ?_) rfl (by kernel_rfl) (by kernel_rfl) (by kernel_rfl) (fun _ _ _ h => h) (Or.inl ⟨by kernel_rfl, ?_⟩) (by assumption) ?_
  rotate_left
  · intro Wt hSt
    go_simp
    try with_reducible rfl
  try simp only [List.getElem_toArray, List.getElem_cons_zero, List.getElem_cons_succ, Act.put, List.setIfInBounds_toArray, List.set_cons_zero, List.set_cons_succ]
  refine wpAnyH_chainOf [] _ _ _ (by kernel_rfl) (by kernel_rfl) ?_
  refine wpChain_nil ?_
  go_wp2_with fail
  go_ret
  exact ⟨rfl, unhide HEND⟩
set_option maxRecDepth 100000 in
set_option maxHeartbeats 1000000 in
theorem Grew_c (a b : List Int) (n m : Int) (h1 : ¬ n < 1) (h2 : ¬ m < n) (h3 : 1099511627776 < m) (len c : Nat) (A : Option Addr) (w : World) (ha : Dg a) (hb : Dg b) :
    Calls Tryd.prog 24 #[dv a, dv b, .int .i64 n, .int .i64 m, .slice A len c] w fun x w' => x = .returned (.bool false) ∧ Below w.heap.size w w' := by
  have HGA := hide ha
  have HGB := hide hb
  obtain ⟨ca, hca⟩ : ∃ cs, cs = (a.map (Value.int .u8)).toArray := ⟨_, rfl⟩
  have hsa : ca.size = 32 := by rw [hca]; simpa using ha.len
  have HCA := hide hca
  obtain ⟨cb, hcb⟩ : ∃ cs, cs = (b.map (Value.int .u8)).toArray := ⟨_, rfl⟩
  have hsb : cb.size = 32 := by rw [hcb]; simpa using hb.len
  have HCB := hide hcb
  rw [show dv a = .agg ca by rw [hca], show dv b = .agg cb by rw [hcb]]
  clear ha hb hca hcb
  go_enter Tryd.func24, Tryd.ntmps24
  go_upto_region 1 with fail
  generalize hX1 : w.alloc _ = W1
  have hB1 : Below w.heap.size w W1 := hX1 ▸ (Below.refl _ _).alloc (Nat.le_refl _) _
  have ho1 : ByAt W1 w.heap.size 24 a := boxed w W1 a _ (by rw [← hX1]; first | rfl | (rw [unhide HCA]; rfl))
  have hz1 : W1.heap.size = w.heap.size + 1 := by rw [← hX1]; show (w.heap.push _).size = _; rw [Array.size_push]
  generalize hX2 : W1.alloc _ = W2
  have hB2 : Below W1.heap.size W1 W2 := hX2 ▸ (Below.refl _ _).alloc (Nat.le_refl _) _
  have ho2 : ByAt W2 W1.heap.size 24 b := boxed W1 W2 b _ (by rw [← hX2]; first | rfl | (rw [unhide HCB]; rfl))
  rw [hz1] at ho2
  generalize hX3 : W2.alloc _ = W3
  have hB3 : Below W2.heap.size W2 W3 := hX3 ▸ (Below.refl _ _).alloc (Nat.le_refl _) _
  have hB := thenB (thenB hB1 hB2) hB3
  obtain ⟨W, hW⟩ : ∃ W, W = W3.drewN 1 := ⟨_, rfl⟩
  have HW : Hid (W = W3.drewN 1) := hW
  have hSW : Below w.heap.size w W := thenB hB (below_named HW)
  have HEND := hide hSW
  clear hX1 hX2 hX3 hB1 hB2 hB3 ho1 ho2 hz1 hB hW
  refine held (S := Below w.heap.size w) W HW (by kernel_rfl) ?_
  refine wpAnyH_take (i := 0) (v := ?_) rfl (by kernel_rfl) (by kernel_rfl) (by kernel_rfl) (fun _ _ _ h => h) (Or.inl ⟨by kernel_rfl, ?_⟩) (by assumption) ?_
  rotate_left
  · intro Wt hSt
    go_simp
    try with_reducible rfl
  try simp only [List.getElem_toArray, List.getElem_cons_zero, List.getElem_cons_succ, Act.put, List.setIfInBounds_toArray, List.set_cons_zero, List.set_cons_succ]
  refine wpAnyH_take (i := 1) (v := ?_) rfl (by kernel_rfl) (by kernel_rfl) (by kernel_rfl) (fun _ _ _ h => h) (Or.inl ⟨by kernel_rfl, ?_⟩) (by assumption) ?_
  rotate_left
  · intro Wt hSt
    go_simp
    try with_reducible rfl
  try simp only [List.getElem_toArray, List.getElem_cons_zero, List.getElem_cons_succ, Act.put, List.setIfInBounds_toArray, List.set_cons_zero, List.set_cons_succ]
  refine wpAnyH_take (i := 2) (v := ?_) rfl (by kernel_rfl) (by kernel_rfl) (by kernel_rfl) (fun _ _ _ h => h) (Or.inl ⟨by kernel_rfl, ?_⟩) (by assumption) ?_
  rotate_left
  · intro Wt hSt
    go_simp
    try with_reducible rfl
  try simp only [List.getElem_toArray, List.getElem_cons_zero, List.getElem_cons_succ, Act.put, List.setIfInBounds_toArray, List.set_cons_zero, List.set_cons_succ]
  refine wpAnyH_take (i := 3) (v := ?_) rfl (by kernel_rfl) (by kernel_rfl) (by kernel_rfl) (fun _ _ _ h => h) (Or.inl ⟨by kernel_rfl, ?_⟩) (by assumption) ?_
  rotate_left
  · intro Wt hSt
    go_simp
    try with_reducible rfl
  try simp only [List.getElem_toArray, List.getElem_cons_zero, List.getElem_cons_succ, Act.put, List.setIfInBounds_toArray, List.set_cons_zero, List.set_cons_succ]
  refine wpAnyH_take (i := 4) (v := ?_) rfl (by kernel_rfl) (by kernel_rfl) (by kernel_rfl) (fun _ _ _ h => h) (Or.inl ⟨by kernel_rfl, ?_⟩) (by assumption) ?_
  rotate_left
  · intro Wt hSt
    go_simp
    try with_reducible rfl
  try simp only [List.getElem_toArray, List.getElem_cons_zero, List.getElem_cons_succ, Act.put, List.setIfInBounds_toArray, List.set_cons_zero, List.set_cons_succ]
  refine wpAnyH_take (i := 5) (v := ?_) rfl (by kernel_rfl) (by kernel_rfl) (by kernel_rfl) (fun _ _ _ h => h) (Or.inl ⟨by kernel_rfl, ?_⟩) (by assumption) ?_
  rotate_left
  · intro Wt hSt
    go_simp
    try with_reducible rfl
  try simp only [List.getElem_toArray, List.getElem_cons_zero, List.getElem_cons_succ, Act.put, List.setIfInBounds_toArray, List.set_cons_zero, List.set_cons_succ]
  refine wpAnyH_take (i := 6) (v := ?_) rfl (by kernel_rfl) (by kernel_rfl) (by kernel_rfl) (fun _ _ _ h => h) (Or.inl ⟨by kernel_rfl, ?_⟩) (by assumption) ?_
  rotate_left
  · intro Wt hSt
    go_simp
    try with_reducible rfl
  try simp only [List.getElem_toArray, List.getElem_cons_zero, List.getElem_cons_succ, Act.put, List.setIfInBounds_toArray, List.set_cons_zero, List.set_cons_succ]
  refine wpAnyH_take (i := 7) (v := ?_) rfl (by kernel_rfl) (by kernel_rfl) (by kernel_rfl) (fun _ _ _ h => h) (Or.inl ⟨by kernel_rfl, ?_⟩) (by assumption) ?_
  rotate_left
  · intro Wt hSt
    go_simp
    try with_reducible rfl
  try simp only [List.getElem_toArray, List.getElem_cons_zero, List.getElem_cons_succ, Act.put, List.setIfInBounds_toArray, List.set_cons_zero, List.set_cons_succ]
  refine wpAnyH_take (i := 8) (v := ?_) rfl (by kernel_rfl) (by kernel_rfl) (by kernel_rfl) (fun _ _ _ h => h) (Or.inl ⟨by kernel_rfl, ?_⟩) (by assumption) ?_
  rotate_left
  · intro Wt hSt
    go_simp
    try with_reducible rfl
  try simp only [List.getElem_toArray, List.getElem_cons_zero, List.getElem_cons_succ, Act.put, List.setIfInBounds_toArray, List.set_cons_zero, List.set_cons_succ]
  refine wpAnyH_take (i := 9) (v := ?_) rfl (by kernel_rfl) (by kernel_rfl) (by kernel_rfl) (fun _ _ _ h => h) (Or.inl ⟨by kernel_rfl, ?_⟩) (by assumption) ?_
  rotate_left
  · intro Wt hSt
    go_simp
    try with_reducible rfl
  try simp only [List.getElem_toArray, List.getElem_cons_zero, List.getElem_cons_succ, Act.put, List.setIfInBounds_toArray, List.set_cons_zero, List.set_cons_succ]
  refine wpAnyH_take (i := 10) (v := ?_) rfl (by kernel_rfl) (by kernel_rfl) (by kernel_rfl) (fun _ _ _ h => h) (Or.inl ⟨by kernel_rfl, ?_⟩) (by assumption) ?_
  rotate_left
  · intro Wt hSt
    go_simp
    try with_reducible rfl
  try simp only [List.getElem_toArray, List.getElem_cons_zero, List.getElem_cons_succ, Act.put, List.setIfInBounds_toArray, List.set_cons_zero, List.set_cons_succ]
  refine wpAnyH_take (i := 11) (v := ?_) rfl (by kernel_rfl) (by kernel_rfl) (by kernel_rfl) (fun _ _ _ h => h) (Or.inl ⟨by kernel_rfl, ?_⟩) (by assumption) ?_
  rotate_left
  · intro Wt hSt
    go_simp
    try with_reducible rfl
  try simp only [List.getElem_toArray, List.getElem_cons_zero, List.getElem_cons_succ, Act.put, List.setIfInBounds_toArray, List.set_cons_zero, List.set_cons_succ]
  refine wpAnyH_take (i := 12) (v := undef) rfl (by kernel_rfl) (by kernel_rfl) (by kernel_rfl) (fun _ _ _ h => h) (Or.inr ⟨by kernel_rfl, rfl⟩) (by assumption) ?_
  try simp only [List.getElem_toArray, List.getElem_cons_zero, List.getElem_cons_succ, Act.put, List.setIfInBounds_toArray, List.set_cons_zero, List.set_cons_succ]
  refine wpAnyH_take (i := 13) (v := undef) rfl (by kernel_rfl) (by kernel_rfl) (by kernel_rfl) (fun _ _ _ h => h) (Or.inr ⟨by kernel_rfl, rfl⟩) (by assumption) ?_
  try simp only [List.getElem_toArray, List.getElem_cons_zero, List.getElem_cons_succ, Act.put, List.setIfInBounds_toArray, List.set_cons_zero, List.set_cons_succ]
  refine wpAnyH_take (i := 14) (v := undef) rfl (by kernel_rfl) (by kernel_rfl) (by kernel_rfl) (fun _ _ _ h => h) (Or.inr ⟨by kernel_rfl, rfl⟩) (by assumption) ?_
  try simp only [List.getElem_toArray, List.getElem_cons_zero, List.getElem_cons_succ, Act.put, List.setIfInBounds_toArray, List.set_cons_zero, List.set_cons_succ]
  refine wpAnyH_take (i := 15) (v := undef) rfl (by kernel_rfl) (by kernel_rfl) (by kernel_rfl) (fun _ _ _ h => h) (Or.inr ⟨by kernel_rfl, rfl⟩) (by assumption) ?_
  try simp only [List.getElem_toArray, List.getElem_cons_zero, List.getElem_cons_succ, Act.put, List.setIfInBounds_toArray, List.set_cons_zero, List.set_cons_succ]
  refine wpAnyH_skip3 16 _ rfl (by kernel_rfl) (by kernel_rfl) hSW ?_
  try simp only [List.getElem_toArray, List.getElem_cons_zero, List.getElem_cons_succ, Act.put, List.setIfInBounds_toArray, List.set_cons_zero, List.set_cons_succ]
  refine wpAnyH_take (i := 17) (v := undef) rfl (by kernel_rfl) (by kernel_rfl) (by kernel_rfl) (fun _ _ _ h => h) (Or.inr ⟨by kernel_rfl, rfl⟩) (by assumption) ?_
  try simp only [List.getElem_toArray, List.getElem_cons_zero, List.getElem_cons_succ, Act.put, List.setIfInBounds_toArray, List.set_cons_zero, List.set_cons_succ]
  refine wpAnyH_take (i := 18) (v := ?_) rfl (by kernel_rfl) (by kernel_rfl) (by kernel_rfl) (fun _ _ _ h => h) (Or.inl ⟨by kernel_rfl, ?_⟩) (by assumption) ?_
  rotate_left
  · intro Wt hSt
    go_simp
    try with_reducible rfl
  try simp only [List.getElem_toArray, List.getElem_cons_zero, List.getElem_cons_succ, Act.put, List.setIfInBounds_toArray, List.set_cons_zero, List.set_cons_succ]
  refine wpAnyH_chainOf [] _ _ _ (by kernel_rfl) (by kernel_rfl) ?_
  refine wpChain_nil ?_
  go_wp2_with fail
  go_ret
  exact ⟨rfl, unhide HEND⟩
def growOk (n m : Int) (len : Nat) : Prop := 1 ≤ n ∧ n ≤ m ∧ m ≤ 1099511627776 ∧ len = gLen n.toNat m.toNat true
instance (n m : Int) (len : Nat) : Decidable (growOk n m len) := by unfold growOk; infer_instance
def grewI (a b : List Int) (n m : Int) (p : List (List Int)) : Bool := if growOk n m p.length then decide ((bothP a n.toNat m.toNat true p).1 = a) && decide ((bothP a n.toNat m.toNat true p).2 = b) else false
abbrev GrewC (F : FuncId) (a b : List Int) (n m : Int) (p : List (List Int)) (A : Option Addr) (c : Nat) (w : World) : Prop :=
  Calls Tryd.prog F #[dv a, dv b, .int .i64 n, .int .i64 m, .slice A p.length c] w fun x w' => x = .returned (.bool (grewI a b n m p)) ∧ Below w.heap.size w w'
theorem Grew_all (a b : List Int) (ha : Dg a) (hb : Dg b) (n m : Int) (p : List (List Int)) (A : Option Addr) (c : Nat) (w : World) (hA : Ds w A p) (hc : p.length ≤ c) (h8 : p.length ≤ 100000000) (hT : DTab w) : GrewC 24 a b n m p A c w := by
  unfold GrewC grewI
  by_cases h1 : n < 1
  · rw [if_neg (fun h => by have := h.1; omega)]
    exact Grew_a a b n m h1 p.length c A w ha hb
  by_cases h2 : m < n
  · rw [if_neg (fun h => by have := h.2.1; omega)]
    exact Grew_b a b n m h1 h2 p.length c A w ha hb
  by_cases h3 : 1099511627776 < m
  · rw [if_neg (fun h => by have := h.2.2.1; omega)]
    exact Grew_c a b n m h1 h2 h3 p.length c A w ha hb
  obtain ⟨k, rfl⟩ : ∃ k : Nat, n = k := ⟨n.toNat, by omega⟩
  obtain ⟨q, rfl⟩ : ∃ k : Nat, m = k := ⟨m.toNat, by omega⟩
  by_cases h4 : p.length = gLen k q true
  · rw [if_pos (show growOk k q p.length from ⟨by omega, by omega, by omega, by rw [Int.toNat_natCast, Int.toNat_natCast]; exact h4⟩)]
    simp only [Int.toNat_natCast]
    have e := both_ver a q k true p [] (by omega) (by omega) h4
    rw [List.append_nil] at e
    exact Grew_ok a b k q p A c w ha hb (by omega) (by omega) (by omega) hA hc h8 _ _ _ e h4 hT
  · rw [if_neg (fun h => h4 (by have := h.2.2.2; rwa [Int.toNat_natCast, Int.toNat_natCast] at this))]
    exact Grew_len a b k q p A c w ha hb (by omega) (by omega) (by omega) hA hc h8 h4 hT
theorem rGrew_all (a b : List Int) (ha : Dg a) (hb : Dg b) (n m : Int) (p : List (List Int)) (A : Option Addr) (c : Nat) (w : World) (hA : Ds w A p) (hc : p.length ≤ c) : GrewC 25 a b n m p A c w := by
  unfold GrewC grewI
  by_cases h1 : n < 1
  · rw [if_neg (fun h => by have := h.1; omega)]
    exact rGrew_a a b n m h1 p.length c A w ha hb
  by_cases h2 : m < n
  · rw [if_neg (fun h => by have := h.2.1; omega)]
    exact rGrew_b a b n m h1 h2 p.length c A w ha hb
  by_cases h3 : 1099511627776 < m
  · rw [if_neg (fun h => by have := h.2.2.1; omega)]
    exact rGrew_c a b n m h1 h2 h3 p.length c A w ha hb
  obtain ⟨k, rfl⟩ : ∃ k : Nat, n = k := ⟨n.toNat, by omega⟩
  obtain ⟨q, rfl⟩ : ∃ k : Nat, m = k := ⟨m.toNat, by omega⟩
  by_cases h4 : p.length = gLen k q true
  · rw [if_pos (show growOk k q p.length from ⟨by omega, by omega, by omega, by rw [Int.toNat_natCast, Int.toNat_natCast]; exact h4⟩)]
    simp only [Int.toNat_natCast]
    exact rGrew_ok a b k q p p.length c A w ha hb (by omega) (by omega) (by omega) hA rfl hc h4
  · rw [if_neg (fun h => h4 (by have := h.2.2.2; rwa [Int.toNat_natCast, Int.toNat_natCast] at this))]
    exact rGrew_len a b k q p.length c A w ha hb (by omega) (by omega) (by omega) h4
end Go.Proofs.YtceppmajbkmbdaaDoor
