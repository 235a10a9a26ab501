/- The law DigestSumSpec: Sum and Tagged are those of the reference. -/
import Derived.Test.YtbclhieobhfdpaaDoorDigRSum
import Derived.Test.YtbclhieobhfdpaaDoorDigTag
import Derived.Laws.MakeOwn
import Derived.Test.YtbclhieobhfdpaaDoorDigSane
import Derived.Test.YtbclhieobhfdpaaDoorDigApp2
import Derived.Test.YtbclhieobhfdpaaDoorClose
namespace Go.Proofs.YtbclhieobhfdpaaDoor
set_option linter.unusedSimpArgs false
set_option linter.unusedVariables false
open Go.RowKit Go.LawClose

set_option maxRecDepth 100000 in
set_option maxHeartbeats 2000000 in
theorem rtag_any (w : World) (s : ByteArray) (A : Option Addr) (c : Nat) (l : List Int) (hA : Bt w A l) (hc : l.length ≤ c) (hn : A = none → c = 0) (hl : l.length ≤ 800000000) (hs : (sb s).length ≤ 800000000) :
    Calls Tryd.prog 14 #[.string s, .slice A l.length c] w fun x w' => x = .returned (dv (tagF (sb s) l)) ∧ Below w.heap.size w w' := by
  obtain ⟨n, hnl⟩ : ∃ n, n = l.length := ⟨_, rfl⟩
  have HA := hide hA
  have HL : Hid (n = l.length ∧ l.length ≤ 800000000 ∧ l.length ≤ c ∧ (sb s).length ≤ 800000000) := ⟨hnl, hl, hc, hs⟩
  have HNn := hide hn
  rw [← hnl]
  clear hnl hl hA hn hc hs
  go_enter Tryd.func14, Tryd.ntmps14
  go_upto_region 1 with fail
  generalize hX1 : w.alloc _ = W1
  have hB1 : Below w.heap.size w W1 := hX1 ▸ (Below.refl _ _).alloc (Nat.le_refl _) _
  have HR1 := hide (newBy w W1 (by rw [← hX1]; rfl))
  have HB1 := hide hB1
  clear hX1 hB1
  obtain ⟨W2, C, hcv, hB2, hBt, hC⟩ := conv_str W1 s
  have HB2 := hide (thenB (unhide HB1) hB2)
  have HR2 := hide ((unhide HR1).keep hB2)
  have HBt := hide hBt
  have HC2 : Hid ((sb s).length ≤ C) := hC
  clear hB2 hBt hC HR1 HB1
  go_wp2_with fail
  refine (rsum_any W2 _ C (sb s) (unhide HBt) (unhide HC2) (fun h => by cases h) (by have := unhide HL; omega)).mono ?_; rintro x W3 ⟨rfl, hB3⟩
  have HB3 := hide (thenB (unhide HB2) hB3)
  have HR3 := hide ((unhide HR2).keep hB3)
  obtain ⟨D, hD⟩ : ∃ D, D = hashF (sb s) := ⟨_, rfl⟩
  have hgD : Dg D := hD ▸ dg_hash _
  rw [← hD]
  obtain ⟨cd, hcd⟩ : ∃ cs, cs = (D.map (Value.int .u8)).toArray := ⟨_, rfl⟩
  rw [show dv D = .agg cd by rw [hcd]]
  have HD := hide hD
  have HGD := hide hgD
  have HCD := hide hcd
  clear hcv hB3 hD hgD hcd HB2 HBt HC2 HR2
  dsimp only
  rename_i KK hK
  refine hK _ _ ?_
  clear hK KK
  refine wpList_plain rfl fun Kt hKt => ?_
  go_simp
  refine hKt _ _ ?_
  clear hKt Kt
  generalize hX4 : W3.alloc _ = W4
  have hB4 : Below W3.heap.size W3 W4 := hX4 ▸ (Below.refl _ _).alloc (Nat.le_refl _) _
  have HO4 := hide (newBy W3 W4 (by rw [← hX4]; rfl))
  have HB4 := hide (thenB (unhide HB3) hB4)
  have HR4 := hide ((unhide HR3).keep hB4)
  obtain ⟨M, hM⟩ : ∃ M, M = W3.heap.size := ⟨_, rfl⟩
  have HM : Hid (w.heap.size < M) := hM ▸ lt_of_block (unhide HR3)
  rw [← hM] at HO4 ⊢
  clear hX4 hB4 HB3 HR3 hM
  refine wpList_bstore rfl 26 (.tmp 5) (.tmp 8) rfl M rfl D (show Value.agg cd = _ by rw [unhide HCD]) 32 info32 (unhide HGD).len _ zeros (unhide HO4) rfl ?_
  intro W5 HW5 HG5
  have HB5 := hide ((unhide HB4).grown (unhide HG5) (unhide HB4).size (fun i e => by injection e with e; have := unhide HM; omega))
  have HR5 := hide ((unhide HR4).grown (unhide HG5) (by have := unhide HM; omega))
  clear HG5 HO4 HB4 HR4
  try simp only [List.getElem_toArray, List.getElem_cons_zero, List.getElem_cons_succ, Act.put, List.setIfInBounds_toArray, List.set_cons_zero, List.set_cons_succ]
  go_upto_region 2 with fail
  refine wp_region_lit ?_
  refine wpList_plain rfl fun Kt hKt => ?_
  go_simp
  refine hKt _ _ ?_
  clear hKt Kt
  generalize hX : W5.alloc _ = V1
  have hv1 : Below W5.heap.size W5 V1 := hX ▸ (Below.refl _ _).alloc (Nat.le_refl _) _
  have hown1 : OwnB V1 W5.heap.size (.slice (some ⟨W5.heap.size, 0, none⟩) 0 0) [] := hX ▸ World.ownsRow_lit W5 #[] 0 (Nat.le_refl _) (Nat.zero_le _) rfl
  clear hX
  refine wpList_plain rfl fun Kt hKt => ?_
  go_simp
  refine hKt _ _ ?_
  clear hKt Kt
  refine wpList_plain rfl fun Kt hKt => ?_
  obtain ⟨v2, V2, hr2, hown2, hg2⟩ := run_append_B hown1 22 (some ⟨M, 0, none⟩) 32 (((unhide HW5).keep hv1).bt (unhide HGD)) (fun h => by cases h) (by rw [(unhide HGD).len]; simp) hv1.size
  rw [(unhide HGD).len] at hr2
  have hv2 := grown_below hv1 hg2 (fun k hk => (hown1.lt k hk).1)
  refine wp_append (.tmp 9) (.tmp 10) 22 rfl _ _ v2 V2 rfl rfl hr2 ?_
  refine hKt _ _ ?_
  clear hKt Kt hr2 hown1 hg2 hv1
  try simp only [List.getElem_toArray, List.getElem_cons_zero, List.getElem_cons_succ, Act.put, List.setIfInBounds_toArray, List.set_cons_zero, List.set_cons_succ]
  refine wpList_plain rfl fun Kt hKt => ?_
  go_simp
  refine hKt _ _ ?_
  clear hKt Kt
  refine wpList_plain rfl fun Kt hKt => ?_
  obtain ⟨v3, V3, hr3, hown3, hg3⟩ := run_append_B hown2 22 A c (((unhide HA).keep (unhide HB5)).keep hv2) (unhide HNn) (by have h1 := (unhide HGD).len; have h2 := unhide HL; rw [List.nil_append]; omega) hv2.size
  rw [← (unhide HL).1] at hr3
  have hv3 := grown_below hv2 hg3 (fun k hk => (hown2.lt k hk).1)
  refine wp_append (.tmp 11) (.tmp 12) 22 rfl _ _ v3 V3 rfl rfl hr3 ?_
  refine hKt _ _ ?_
  clear hKt Kt hr3 hown2 hg3 hv2
  try simp only [List.getElem_toArray, List.getElem_cons_zero, List.getElem_cons_succ, Act.put, List.setIfInBounds_toArray, List.set_cons_zero, List.set_cons_succ]
  rw [List.nil_append] at hown3
  have hne : D ++ l ≠ [] := by
    intro h
    have h1 := congrArg List.length h
    rw [List.length_append, (unhide HGD).len] at h1
    simp at h1
  obtain ⟨g3, c3, rfl, -, -, -⟩ := hown3.opened hne
  have hbt3 : Bt V3 (some ⟨g3, 0, none⟩) (D ++ l) ∧ (D ++ l).length ≤ c3 := by
    obtain ⟨A4, c4, e, hc4, hbt4⟩ := hown3.bt (fun x hx => by
      rcases List.mem_append.1 hx with h | h
      · exact (unhide HGD).byt x h
      · exact (unhide HA).byt x h)
    injection e with e1 e2 e3
    subst e1 e3
    exact ⟨hbt4, hc4⟩
  have hsm := rsum_any V3 (some ⟨g3, 0, none⟩) c3 (D ++ l) hbt3.1 hbt3.2 (fun h => by cases h) (by have h1 := (unhide HGD).len; have h2 := unhide HL; rw [List.length_append]; omega)
  obtain ⟨T, hT⟩ : ∃ T, T = tagF (sb s) l := ⟨_, rfl⟩
  rw [show hashF (D ++ l) = T by rw [hT, unhide HD]; rfl] at hsm
  have HTT := hide hT
  obtain ⟨nl, hnl⟩ : ∃ nl, nl = (D ++ l).length := ⟨_, rfl⟩
  rw [← hnl] at hsm ⊢
  have hgT : Dg T := hT ▸ dg_hash _
  obtain ⟨ct, hct⟩ : ∃ cs, cs = (T.map (Value.int .u8)).toArray := ⟨_, rfl⟩
  rw [show dv T = .agg ct by rw [hct]] at hsm
  have HCT := hide hct
  have HGT := hide hgT
  have HV3 := hide (thenB (unhide HB5) hv3)
  have HR6 := hide ((unhide HR5).keep hv3)
  clear hct hgT hT hnl hbt3 hown3 hne hv3
  refine wpList_plain rfl fun Kt hKt => ?_
  go_simp
  refine hsm.mono ?_; rintro x V4 ⟨rfl, hb4⟩
  dsimp only
  refine hKt _ _ ?_
  clear hKt Kt hsm
  have HV4 := hide (thenB (unhide HV3) hb4)
  have HR7 := hide ((unhide HR6).keep hb4)
  clear hb4
  try simp only [List.getElem_toArray, List.getElem_cons_zero, List.getElem_cons_succ, Act.put, List.setIfInBounds_toArray, List.set_cons_zero, List.set_cons_succ]
  refine wpList_bstore rfl 26 (.tmp 4) (.tmp 14) rfl w.heap.size rfl T (show Value.agg ct = _ by rw [unhide HCT]) 32 info32 (unhide HGT).len _ zeros (unhide HR7) rfl ?_
  intro V9 HV9 HG9
  have HB9 := hide ((unhide HV4).grown (unhide HG9) (unhide HV4).size (fun i e => by injection e with e; omega))
  go_wp2_with fail
  try simp only [Exit.inBlock, Exit.then]
  exact bret rfl rfl w.heap.size rfl _ _ (unhide HV9) (unhide HGT).len ⟨by rw [unhide HTT], unhide HB9⟩

theorem make_bytes (w : World) (c : Nat) (hc : c ≤ 1000000000) : ∃ W, (Instr.makeSlice 22 (.int .i64 (c : Int)) (.int .i64 (c : Int))).run Tryd.prog w = .ok (.slice (some ⟨w.heap.size, 0, none⟩) c c) W ∧
    OwnB W w.heap.size (.slice (some ⟨w.heap.size, 0, none⟩) c c) (List.replicate c 0) ∧ Below w.heap.size w W := by
  obtain ⟨i0, hi, hz0, hz1, hz2⟩ := info_parts infoByte
  have h1 : (i0.bytes : Int) * (c : Int) ≤ 281474976710656 := by rw [hz2]; omega
  have hr := run_make (P := Tryd.prog) w 22 5 i0 (.int .u8 0) Tryd.underlying22 hi hz0 .i64 .i64 (c : Int) (c : Int) (Int.natCast_nonneg _) (Int.le_refl _) h1 (by omega)
  rw [Int.toNat_natCast, hz1, Nat.mul_one] at hr
  have hm : (madeCells (Value.int .u8 0).cells c).toList = List.replicate c (Value.int .u8 0) := by
    apply List.ext_getElem
    · simp [madeCells]
    · intro j h1 h2
      simp [madeCells, Value.cells, Nat.mod_one]
  have hs : (madeCells (Value.int .u8 0).cells c).size = c := size_madeCells _ _
  refine ⟨_, hr, ⟨by rw [List.length_map, List.length_replicate]; omega, .inr ⟨w.heap.size, c, madeCells (Value.int .u8 0).cells c, by rw [List.length_replicate], Nat.le_refl _, ?_, by rw [List.length_replicate]; exact Nat.le_refl _, by unfold maxLen; omega, by rw [hs]; omega, ?_⟩⟩, (Below.refl _ _).alloc (Nat.le_refl _) _⟩
  · show (w.heap.push _)[w.heap.size]? = _
    rw [Array.getElem?_push_size]
  · rw [hm, List.map_replicate, List.length_replicate, Nat.mul_one, List.take_of_length_le (by simp)]

/-- the long text after i rounds -/
def lgF (l : List Int) (c i : Nat) : List Int := (List.range c).map fun j => if j < i then (if l = [] then IntKind.u8.wrap (j : Int) else l.getD (j % l.length) 0) else 0
theorem lgF_length (l : List Int) (c i : Nat) : (lgF l c i).length = c := by simp [lgF]
theorem lgF_zero (l : List Int) (c : Nat) : lgF l c 0 = List.replicate c 0 := by
  unfold lgF
  apply List.ext_getElem
  · simp
  · intro j h1 h2; simp
theorem lgF_step (l : List Int) (c i : Nat) (hi : i < c) : (lgF l c i).set i (if l = [] then IntKind.u8.wrap (i : Int) else l.getD (i % l.length) 0) = lgF l c (i + 1) := by
  apply List.ext_getElem?
  intro j
  rw [List.getElem?_set, lgF_length]
  unfold lgF
  by_cases hj : j < c
  · rw [List.getElem?_map, List.getElem?_map, List.getElem?_range hj]
    by_cases h : i = j
    · subst h; rw [if_pos rfl, if_pos hi]; simp
    · rw [if_neg h]
      by_cases hk : j < i
      · simp [hk, show j < i + 1 by omega]
      · simp [hk, show ¬ j < i + 1 by omega]
  · rw [if_neg (by omega), List.getElem?_eq_none (by simp; omega), List.getElem?_eq_none (by simp; omega)]
theorem lgF_byt (l : List Int) (h : ∀ c ∈ l, Byt c) (c i : Nat) : ∀ x ∈ lgF l c i, Byt x := by
  intro x hx
  unfold lgF at hx
  obtain ⟨j, _, rfl⟩ := List.mem_map.1 hx
  split
  · split
    · rw [IntKind.wrap_u8]; exact ⟨Int.emod_nonneg _ (by decide), Int.emod_lt_of_pos _ (by decide)⟩
    · rename_i h0
      have hp : 0 < l.length := List.length_pos_iff.2 h0
      have hlt : j % l.length < l.length := Nat.mod_lt _ hp
      rw [List.getD_eq_getElem?_getD, List.getElem?_eq_getElem hlt]
      exact h _ (List.getElem_mem hlt)
  · exact ⟨by decide, by decide⟩
set_option maxRecDepth 100000 in
set_option maxHeartbeats 2000000 in
theorem sumSpec_any (A : Option Addr) (c : Nat) (l : List Int) (s : ByteArray) (many : Int) (hm : 0 ≤ many ∧ many < 256) (w : World) (hA : Bt w A l) (hc : l.length ≤ c) (hn : A = none → c = 0) (hT : DTab w) :
    Calls Tryd.prog 3 #[.slice A l.length c, .string s, .int .u8 many] w (LawOk w) := by
  have HT := hide hT
  have HA := hide hA
  have HC : Hid (l.length ≤ c) := hc
  have HNn := hide hn
  obtain ⟨n, hnl⟩ : ∃ n, n = l.length := ⟨_, rfl⟩
  rw [← hnl]
  have HNL := hide hnl
  by_cases h2 : (300 : Int) < (n : Int)
  · clear hT hA hc hn hnl hm
    go_enter Tryd.func3, Tryd.ntmps3
    go_wp2_with fail
    refine (sane_any w (unhide HT)).mono ?_; rintro x W1 ⟨rfl, hB1⟩
    have HB1 := hide hB1
    clear hB1
    go_wp2_with fail
    go_ret
    exact ⟨rfl, unhide HB1⟩
  by_cases h1 : (300 : Int) < (s.size : Int)
  · clear hT hA hc hn hnl hm
    go_enter Tryd.func3, Tryd.ntmps3
    go_wp2_with fail
    refine (sane_any w (unhide HT)).mono ?_; rintro x W1 ⟨rfl, hB1⟩
    have HB1 := hide hB1
    clear hB1
    go_wp2_with fail
    go_ret
    exact ⟨rfl, unhide HB1⟩
  have HN2 : Hid (n ≤ 300 ∧ s.size ≤ 300) := ⟨by omega, by omega⟩
  obtain ⟨d, hd⟩ : ∃ d : Nat, d = many.toNat + 20 := ⟨_, rfl⟩
  have wm : IntKind.i64.wrap many = many := IntWalk.i64_in _ (by omega)
  have wd : IntKind.i64.wrap (many + 20) = (d : Int) := (IntWalk.i64_in _ (by omega)).trans (by omega)
  have HD : Hid (d ≤ 300) := by show d ≤ 300; omega
  clear hT hA hc hn hnl hm hd
  go_enter Tryd.func3, Tryd.ntmps3
  go_wp2_with fail
  refine (sane_any w (unhide HT)).mono ?_; rintro x W1 ⟨rfl, hB1⟩
  have HB1 := hide hB1
  clear hB1
  obtain ⟨W2, hmk, hown, hb2⟩ := make_bytes W1 d (by have := unhide HD; omega)
  have HO2 := hide hown
  have HB2 := hide (thenB (unhide HB1) hb2)
  clear hown hb2
  go_wp2_with fail
  obtain ⟨g0, hg0⟩ : ∃ g0, g0 = W1.heap.size := ⟨_, rfl⟩
  rw [← hg0] at HO2 ⊢
  have HG0 : Hid (w.heap.size ≤ g0) := hg0 ▸ (unhide HB1).size
  clear hmk HB1 hg0
  go_loopg [27] d (fun g y27 wx => ∃ i : Nat, y27 = .int .i64 (i : Int) ∧ i + g = d ∧ OwnB wx g0 (.slice (some ⟨g0, 0, none⟩) d d) (lgF l d i) ∧ Below w.heap.size w wx)
  case atStart => exact ⟨0, rfl, by omega, by rw [lgF_zero]; exact unhide HO2, unhide HB2⟩
  case round =>
    clear HO2 HB2
    obtain ⟨i, rfl, hig, ho, hb⟩ := hrel
    by_cases hi : i < d
    · obtain ⟨g2, rfl⟩ : ∃ g, gk = g + 1 := ⟨gk - 1, by omega⟩
      have i1 : (i : Int) < (d : Int) := by omega
      have i0 : (0 : Int) ≤ (i : Int) := Int.natCast_nonneg _
      have wi : IntKind.i64.wrap ((i : Int) + 1) = ((i + 1 : Nat) : Int) := (IntWalk.i64_in _ (by have := unhide HD; omega)).trans (by omega)
      obtain ⟨ge, ce, heq, -, hcell, hset⟩ := ho.opened (by intro h; have := congrArg List.length h; rw [lgF_length] at this; simp at this; omega)
      injection heq with e1 e2 e3
      clear e2 e3
      injection e1 with e1
      injection e1 with e1
      subst e1
      obtain ⟨hc1, hf1⟩ := hcell i (by rw [lgF_length]; exact hi)
      have HS1 := hide (hset i ((i : Int) % 256) (by rw [lgF_length]; exact hi))
      have HB := hide hb
      have HI : Hid (i + (g2 + 1) = d ∧ i < d) := ⟨hig, hi⟩
      clear hig hi ho hb hcell hset
      go_upto_region 10 with fail
      have HBS := hide ((unhide HB).grown (grown_one' wr g0 i (.int .u8 ((i : Int) % 256))) (unhide HB).size (fun k e => by injection e with e; have := unhide HG0; omega))
      clear HB hc1 hf1
      generalize wr.setCell ⟨g0, i, none⟩ (.int .u8 ((i : Int) % 256)) = V1 at HS1 HBS ⊢
      by_cases hn0 : (0 : Int) < (n : Int)
      · have hl0 : l ≠ [] := by intro h; have := unhide HNL; rw [h] at this; simp at this; omega
        obtain ⟨bb, oo, rfl, hbc⟩ := (unhide HA).at_ hl0
        obtain ⟨r, hr⟩ : ∃ r, r = i % n := ⟨_, rfl⟩
        have tr : ((i : Nat) : Int).tmod (n : Int) = (r : Int) := (Int.tmod_eq_emod_of_nonneg (by omega)).trans (by rw [hr]; exact (Int.natCast_emod _ _).symm)
        have hrn : r < n := by rw [hr]; exact Nat.mod_lt _ (by omega)
        have r0 : (0 : Int) ≤ (r : Int) := Int.natCast_nonneg _
        have r1 : (r : Int) < (n : Int) := by omega
        have nz : ¬ (n : Int) = 0 := by omega
        obtain ⟨cv, hcv⟩ : ∃ cv, cv = l.getD r 0 := ⟨_, rfl⟩
        have hcb : V1.cell? ⟨bb, oo + r, none⟩ = some (.int .u8 cv) := by
          obtain ⟨b2, o2, e, h⟩ := ((unhide HA).keep (unhide HBS)).at_ hl0
          injection e with e
          injection e with e1 e2
          subst e1 e2
          rw [hcv]
          exact h r (by have := unhide HNL; omega)
        obtain ⟨ge, ce, heq, -, hcell, hset⟩ := (unhide HS1).opened (by intro h; have h9 := congrArg List.length h; rw [List.length_set, lgF_length, List.length_nil] at h9; have := unhide HI; omega)
        injection heq with e1 e2 e3
        clear e2 e3
        injection e1 with e1
        injection e1 with e1
        subst e1
        obtain ⟨hc1, hf1⟩ := hcell i (by rw [List.length_set, lgF_length]; exact (unhide HI).2)
        have HS2 := hide (hset i cv (by rw [List.length_set, lgF_length]; exact (unhide HI).2))
        have HCV : Hid (cv = if l = [] then IntKind.u8.wrap (i : Int) else l.getD (i % l.length) 0) := by
          show cv = _
          rw [if_neg hl0, hcv, hr, unhide HNL]
        clear hcell hset hbc hl0 hcv hr hrn HS1
        go_wp2_with fail
        go_roundg g2
        case measure => omega
        case rel =>
          have h := unhide HI
          refine ⟨i + 1, rfl, by omega, ?_, (unhide HBS).grown (grown_one' V1 g0 i _) (unhide HBS).size (fun k e => by injection e with e; have := unhide HG0; omega)⟩
          have hs := unhide HS2
          rw [List.set_set, unhide HCV, lgF_step l d i h.2] at hs
          rw [unhide HCV]
          exact hs
      · have hl0 : l = [] := by apply List.length_eq_zero_iff.1; have := unhide HNL; omega
        have HCV : Hid ((i : Int) % 256 = if l = [] then IntKind.u8.wrap (i : Int) else l.getD (i % l.length) 0) := by
          show _ = _
          rw [if_pos hl0, IntKind.wrap_u8]
        clear hl0
        go_wp2_with fail
        go_roundg g2
        case measure => omega
        case rel =>
          have h := unhide HI
          refine ⟨i + 1, rfl, by omega, ?_, unhide HBS⟩
          have hs := unhide HS1
          rw [unhide HCV, lgF_step l d i h.2] at hs
          exact hs
    · have i1 : ¬ (i : Int) < (d : Int) := by omega
      obtain rfl : i = d := by omega
      have HO := hide ho
      have HB := hide hb
      clear hig hi ho hb
      go_upto_region 13 with fail
      refine wp_region_lit ?_
      refine wpList_plain rfl fun Kt hKt => ?_
      go_simp
      refine hKt _ _ ?_
      clear hKt Kt
      refine wpList_plain rfl fun Kt hKt => ?_
      go_simp
      refine hKt _ _ ?_
      clear hKt Kt
      refine wpList_plain rfl fun Kt hKt => ?_
      go_simp
      refine hKt _ _ ?_
      clear hKt Kt
      generalize hX : wr.alloc _ = V0
      have hv0 : Below wr.heap.size wr V0 := hX ▸ (Below.refl _ _).alloc (Nat.le_refl _) _
      have HO0 := hide ((unhide HO).later hv0)
      have HB0 := hide (thenB (unhide HB) hv0)
      obtain ⟨T, hT⟩ : ∃ T, T = wr.heap.size := ⟨_, rfl⟩
      have HTB : Hid (V0.heap[T]? = some (.cells #[.slice A n c, .slice (some ⟨g0, 0, none⟩) i i] 22 (0, 0))) := by
        show V0.heap[T]? = _
        rw [← hX, hT]
        show (wr.heap.push _)[wr.heap.size]? = _
        rw [Array.getElem?_push_size]
      rw [← hT]
      clear hX hv0 HO HB hT
      go_wp2_with fail
      go_loopg [53] 2 (fun g y53 wx => ∃ j : Nat, y53 = .int .i64 (j : Int) ∧ j + g = 2 ∧ Below V0.heap.size V0 wx)
      case atStart => exact ⟨0, rfl, by omega, Below.refl _ _⟩
      case round =>
        obtain ⟨j, rfl, hjg, hb⟩ := hrel
        have HBR := hide (thenB (unhide HB0) hb)
        by_cases hj : j < 2
        · obtain ⟨g2, rfl⟩ : ∃ g, gk = g + 1 := ⟨gk - 1, by omega⟩
          have j1 : (j : Int) < 2 := by omega
          have j0 : (0 : Int) ≤ (j : Int) := Int.natCast_nonneg _
          have wj : IntKind.i64.wrap ((j : Int) + 1) = ((j + 1 : Nat) : Int) := (IntWalk.i64_in _ (by omega)).trans (by omega)
          obtain ⟨Aq, nq, cq, lq, hcq, hbq, hnq, hlq, hcapq, hnoneq⟩ : ∃ (Aq : Option Addr) (nq cq : Nat) (lq : List Int), wr.cell? ⟨T, j, none⟩ = some (.slice Aq nq cq) ∧ Bt wr Aq lq ∧ nq = lq.length ∧ nq ≤ 300 ∧ nq ≤ cq ∧ (Aq = none → cq = 0) := by
            have hblk : wr.heap[T]? = some (.cells #[.slice A n c, .slice (some ⟨g0, 0, none⟩) i i] 22 (0, 0)) := (hb.block T (lt_of_block (unhide HTB))).trans (unhide HTB)
            obtain rfl | rfl : j = 0 ∨ j = 1 := by omega
            · exact ⟨A, n, c, l, by simp [World.cell?, hblk], (unhide HA).keep (unhide HBR), unhide HNL, (unhide HN2).1, by have := unhide HNL; have := unhide HC; omega, unhide HNn⟩
            · obtain ⟨A4, c4, e, hc4, hbt4⟩ := ((unhide HO0).later hb).bt (lgF_byt l (unhide HA).byt i i)
              injection e with e1 e2 e3
              subst e1
              refine ⟨some ⟨g0, 0, none⟩, i, i, lgF l i i, by simp [World.cell?, hblk], hbt4, (lgF_length l i i).symm, unhide HD, Nat.le_refl _, fun h => by cases h⟩
          have HBQ := hide hbq
          have HQ : Hid (nq = lq.length ∧ nq ≤ 300 ∧ nq ≤ cq) := ⟨hnq, hlq, hcapq⟩
          have HNQ := hide hnoneq
          have HJ : Hid (j + (g2 + 1) = 2 ∧ j < 2) := ⟨hjg, hj⟩
          have HV := hide hb
          have HTR := hide ((unhide HT).keep (unhide HBR))
          clear hb hbq hnq hlq hcapq hnoneq hjg hj
          obtain ⟨H, hH⟩ : ∃ H, H = hashF lq := ⟨_, rfl⟩
          obtain ⟨G, hG⟩ : ∃ G, G = tagF (sb s) lq := ⟨_, rfl⟩
          have HGH : Hid (H.length = 32 ∧ G.length = 32) := ⟨by rw [hH]; exact hashF_length _, by rw [hG]; exact hashF_length _⟩
          obtain ⟨ch, hch⟩ : ∃ cs, cs = (H.map (Value.int .u8)).toArray := ⟨_, rfl⟩
          obtain ⟨cg, hcg⟩ : ∃ cs, cs = (G.map (Value.int .u8)).toArray := ⟨_, rfl⟩
          have HCH := hide hch
          have HCG := hide hcg
          have HS : Hid (∀ V, Below wr.heap.size wr V → Calls Tryd.prog 11 #[.slice Aq nq cq] V fun e w' => e = .returned (.agg ch) ∧ Below V.heap.size V w') := fun V hV => by
            rw [hch, hH, (unhide HQ).1]
            exact sum_any V Aq cq lq ((unhide HBQ).keep hV) (by have := unhide HQ; omega) ((unhide HTR).keep hV)
          have HS2 : Hid (∀ V, Below wr.heap.size wr V → Calls Tryd.prog 12 #[.slice Aq nq cq] V fun e w' => e = .returned (.agg ch) ∧ Below V.heap.size V w') := fun V hV => by
            rw [hch, hH, (unhide HQ).1]
            exact rsum_any V Aq cq lq ((unhide HBQ).keep hV) (by have := unhide HQ; omega) (unhide HNQ) (by have := unhide HQ; omega)
          have HS3 : Hid (∀ V, Below wr.heap.size wr V → Calls Tryd.prog 13 #[.string s, .slice Aq nq cq] V fun e w' => e = .returned (.agg cg) ∧ Below V.heap.size V w') := fun V hV => by
            rw [hcg, hG, (unhide HQ).1]
            exact tagged_any V s Aq cq lq ((unhide HBQ).keep hV) (by have := unhide HQ; omega) ((unhide HTR).keep hV)
          have HS4 : Hid (∀ V, Below wr.heap.size wr V → Calls Tryd.prog 14 #[.string s, .slice Aq nq cq] V fun e w' => e = .returned (.agg cg) ∧ Below V.heap.size V w') := fun V hV => by
            rw [hcg, hG, (unhide HQ).1]
            exact rtag_any V s Aq cq lq ((unhide HBQ).keep hV) (by have := unhide HQ; omega) (unhide HNQ) (by have := unhide HQ; omega) (by rw [sb_length]; have := unhide HN2; omega)
          clear hH hG hch hcg HTR
          go_upto_region 16 with fail
          refine wp_region_lit ?_
          refine wpList_plain rfl fun Kt hKt => ?_
          go_simp
          refine hKt _ _ ?_
          clear hKt Kt
          refine wpList_plain rfl fun Kt hKt => ?_
          go_simp
          refine ((unhide HS) wr (Below.refl _ _)).mono ?_; rintro x V1 ⟨rfl, hb1⟩
          dsimp only
          refine hKt _ _ ?_
          clear hKt Kt
          have HV1 := hide hb1
          clear hb1
          try simp only [List.getElem_toArray, List.getElem_cons_zero, List.getElem_cons_succ, Act.put, List.setIfInBounds_toArray, List.set_cons_zero, List.set_cons_succ]
          refine wpList_plain rfl fun Kt hKt => ?_
          go_simp
          refine hKt _ _ ?_
          clear hKt Kt
          refine wpList_plain rfl fun Kt hKt => ?_
          go_simp
          refine ((unhide HS2) V1 (unhide HV1)).mono ?_; rintro x V2 ⟨rfl, hb2⟩
          dsimp only
          refine hKt _ _ ?_
          clear hKt Kt
          have HV2 := hide (thenB (unhide HV1) hb2)
          clear hb2
          try simp only [List.getElem_toArray, List.getElem_cons_zero, List.getElem_cons_succ, Act.put, List.setIfInBounds_toArray, List.set_cons_zero, List.set_cons_succ]
          refine wpList_neq (by kernel_rfl) (.tmp 58) (.tmp 60) _ rfl H H (show Value.agg ch = _ by rw [unhide HCH]) (show Value.agg ch = _ by rw [unhide HCH]) (unhide HGH).1 (unhide HGH).1 ?_
          rw [show (!decide (H = H)) = false by rw [decide_eq_true rfl]; rfl]
          try simp only [List.getElem_toArray, List.getElem_cons_zero, List.getElem_cons_succ, Act.put, List.setIfInBounds_toArray, List.set_cons_zero, List.set_cons_succ]
          refine wpList_plain rfl fun Kt hKt => ?_
          go_simp
          refine hKt _ _ ?_
          clear hKt Kt
          refine wpList_wanted (by kernel_rfl) fun Kt hKt => ?_
          go_simp
          refine hKt _ _ ?_
          clear hKt Kt
          refine wpList_wanted (by kernel_rfl) fun Kt hKt => ?_
          go_simp
          refine hKt _ _ ?_
          clear hKt Kt
          refine wpList_wanted (by kernel_rfl) fun Kt hKt => ?_
          go_simp
          refine ((unhide HS3) V2 (unhide HV2)).mono ?_; rintro x V3 ⟨rfl, hb3⟩
          dsimp only
          refine hKt _ _ ?_
          clear hKt Kt
          have HV3 := hide (thenB (unhide HV2) hb3)
          clear hb3
          try simp only [List.getElem_toArray, List.getElem_cons_zero, List.getElem_cons_succ, Act.put, List.setIfInBounds_toArray, List.set_cons_zero, List.set_cons_succ]
          refine wpList_wanted (by kernel_rfl) fun Kt hKt => ?_
          go_simp
          refine hKt _ _ ?_
          clear hKt Kt
          refine wpList_wanted (by kernel_rfl) fun Kt hKt => ?_
          go_simp
          refine hKt _ _ ?_
          clear hKt Kt
          refine wpList_wanted (by kernel_rfl) fun Kt hKt => ?_
          go_simp
          refine ((unhide HS4) V3 (unhide HV3)).mono ?_; rintro x V4 ⟨rfl, hb4⟩
          dsimp only
          refine hKt _ _ ?_
          clear hKt Kt
          have HV4 := hide (thenB (unhide HV3) hb4)
          clear hb4
          try simp only [List.getElem_toArray, List.getElem_cons_zero, List.getElem_cons_succ, Act.put, List.setIfInBounds_toArray, List.set_cons_zero, List.set_cons_succ]
          refine wpList_neq (by kernel_rfl) (.tmp 65) (.tmp 68) _ rfl G G (show Value.agg cg = _ by rw [unhide HCG]) (show Value.agg cg = _ by rw [unhide HCG]) (unhide HGH).2 (unhide HGH).2 ?_
          rw [show (!decide (G = G)) = false by rw [decide_eq_true rfl]; rfl]
          try simp only [List.getElem_toArray, List.getElem_cons_zero, List.getElem_cons_succ, Act.put, List.setIfInBounds_toArray, List.set_cons_zero, List.set_cons_succ]
          refine wpList_plain rfl fun Kt hKt => ?_
          go_simp
          refine hKt _ _ ?_
          clear hKt Kt
          go_wp2_with fail
          go_roundg g2
          case measure => omega
          case rel => exact ⟨j + 1, rfl, by have := unhide HJ; omega, thenB (unhide HV) (unhide HV4)⟩
        · have j1 : ¬ (j : Int) < 2 := by omega
          have HE := hide (unhide HBR)
          clear hb hjg hj
          go_wp2_with fail
          go_ret
          exact ⟨rfl, unhide HE⟩
end Go.Proofs.YtbclhieobhfdpaaDoor
