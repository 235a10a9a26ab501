/- The law DigestGrows: growths show that a list begins with an older one. -/
import Derived.Test.YtbccempafjpcdaaDoorDigGrew
import Derived.Test.YtbccempafjpcdaaDoorDigSane
import Derived.Test.YtbccempafjpcdaaDoorClose
import Derived.Deep.DeepCutAuto
namespace Go.Proofs.YtbccempafjpcdaaDoor
set_option linter.unusedSimpArgs false
set_option linter.unusedVariables false
open Go.RowKit Go.LawClose

theorem gLen_small (j : Nat) : ∀ n m whole, 1 ≤ n → n ≤ m → m ≤ 2 ^ j → gLen n m whole ≤ j + 1 := by
  induction j with
  | zero =>
    intro n m whole h1 h2 h3
    obtain rfl : m = 1 := by omega
    obtain rfl : n = 1 := by omega
    rw [gLen_end]
    split <;> omega
  | succ j IH =>
    intro n m whole h1 h2 h3
    by_cases h4 : n = m
    · subst h4
      rw [gLen_end]
      split <;> omega
    · have h5 := halfN_pow_le (n := m) (by omega) h3
      have h6 := halfN_pos m
      have h7 := halfN_lt (n := m) (by omega)
      by_cases ha : n ≤ halfN m
      · rw [gLen_left whole h1 (by omega) ha]; have := IH n (halfN m) whole h1 ha h5.1; omega
      · rw [gLen_right whole h1 (by omega) ha]; have := IH (n - halfN m) (m - halfN m) false (by omega) (by omega) h5.2; omega

set_option maxRecDepth 100000 in
set_option maxHeartbeats 8000000 in
theorem grows_any (A : Option Addr) (c : Nat) (l : List Int) (w : World) (hA : Bt w A l) (hc : l.length ≤ c) (h63 : l.length ≤ 140737488351232) (hT : DTab w) :
    Calls Tryd.prog 8 #[.slice A l.length c] w (LawOk w) := by
  have HT := hide hT
  have HA := hide hA
  have HC : Hid (l.length ≤ c ∧ l.length ≤ 140737488351232) := ⟨hc, h63⟩
  clear hT hA hc h63
  go_enter Tryd.func8, Tryd.ntmps8
  go_wp2_with fail
  refine (sane_any w (unhide HT)).mono ?_; rintro x W1 ⟨rfl, hB1⟩
  have HB1 := hide hB1
  clear hB1
  go_wp2_with fail
  refine (of_any A c l W1 ((unhide HA).keep (unhide HB1)) (unhide HC).1 (unhide HC).2).mono ?_; rintro x W2 ⟨⟨v, rfl, hown⟩, hB2⟩
  obtain ⟨AL, cL, rfl, hcL, hds⟩ := hown.ds (dg_dsP l)
  have h24 : (dsP l).length ≤ 24 := by rw [dsP_length]; exact Nat.min_le_right _ _
  obtain ⟨L, hL⟩ : ∃ L, L = dsP l := ⟨_, rfl⟩
  rw [← hL] at hds hcL h24 ⊢
  obtain ⟨m, hm⟩ : ∃ n, n = L.length := ⟨_, rfl⟩
  rw [← hm]
  have HB2 := hide (thenB (unhide HB1) hB2)
  have HDS := hide hds
  have HN : Hid (m = L.length ∧ m ≤ cL ∧ m ≤ 24) := ⟨hm, by omega, by omega⟩
  have HT2 := hide ((unhide HT).keep (unhide HB2))
  clear hown hL hcL hds h24 hB2 HB1 HA HC hm HT
  obtain ⟨T, hTd⟩ : ∃ T, T = treeD L := ⟨_, rfl⟩
  have hgT : Dg T := hTd ▸ dg_treeD _
  obtain ⟨ct, hct⟩ : ∃ cs, cs = (T.map (Value.int .u8)).toArray := ⟨_, rfl⟩
  have hst : ct.size = 32 := by rw [hct]; simpa using hgT.len
  have htr := Tree_any W2 cL AL L (unhide HDS) (by have := unhide HN; omega) (by have := unhide HN; omega) (unhide HT2)
  rw [← (unhide HN).1, ← hTd, show dv T = .agg ct by rw [hct]] at htr
  have HTD := hide hTd; have HGT := hide hgT; have HCT := hide hct
  clear hTd hgT hct
  go_wp2_with fail
  refine htr.mono ?_; rintro x W3 ⟨rfl, hB3⟩
  have HB3 := hide hB3
  clear hB3 htr
  dsimp only
  rename_i KK hK
  refine hK _ _ ?_
  clear hK KK
  refine wpList_plain rfl fun Kt hKt => ?_
  go_simp
  refine hKt _ _ ?_
  clear hKt Kt
  generalize hX4 : W3.alloc _ = W4
  have hB4 : Below W3.heap.size W3 W4 := hX4 ▸ (Below.refl _ _).alloc (Nat.le_refl _) _
  have HO4 := hide (newBy W3 W4 (by rw [← hX4]; rfl))
  have HB4 := hide (thenB (unhide HB3) hB4)
  have HZ : Hid (W2.heap.size ≤ W3.heap.size) := (unhide HB3).size
  clear hX4 hB4 HB3
  refine wpList_bstore rfl 26 (.tmp 4) (.tmp 13) rfl W3.heap.size rfl T (show Value.agg ct = _ by rw [unhide HCT]) 32 info32 (unhide HGT).len _ zeros (unhide HO4) rfl ?_
  intro W5 HW5 HG5
  have HB5 := hide ((unhide HB4).grown (unhide HG5) (unhide HB4).size (fun i e => by injection e with e; have := unhide HZ; omega))
  have HDS5 := hide ((unhide HDS).keep (unhide HB5))
  have HT5 := hide ((unhide HT2).keep (unhide HB5))
  have HBW5 := hide (thenB (unhide HB2) (unhide HB5))
  obtain ⟨N4, hN4⟩ : ∃ N, N = W3.heap.size := ⟨_, rfl⟩
  rw [← hN4] at HW5 ⊢
  clear hN4 HG5 HO4 HB4 HB5 HDS HT2 HB2 HZ
  try simp only [List.getElem_toArray, List.getElem_cons_zero, List.getElem_cons_succ, Act.put, List.setIfInBounds_toArray, List.set_cons_zero, List.set_cons_succ]
  go_wp2_with fail
  go_loopg [5] m (fun g y5 wx => ∃ n : Nat, y5 = .int .i64 (n : Int) ∧ 1 ≤ n ∧ n + g = m + 1 ∧ Below W5.heap.size W5 wx)
  case atStart => exact ⟨1, rfl, Nat.le_refl _, by omega, Below.refl _ _⟩
  case round =>
    obtain ⟨n, rfl, hn1, hng, hbel⟩ := hrel
    have HBE := hide hbel
    by_cases hnm : n ≤ m
    · obtain ⟨g, rfl⟩ : ∃ g, gk = g + 1 := ⟨gk - 1, by omega⟩
      have hN := unhide HN
      have hne : L ≠ [] := fun e => by rw [e] at hN; simp at hN; omega
      have hlt : (L.take n).length = n := by simp; omega
      obtain ⟨U, hU⟩ : ∃ U, U = treeP (L.take n) := ⟨_, rfl⟩
      have hgU : Dg U := hU ▸ dg_tree _
      have hUd : treeD (L.take n) = U := by rw [hU, treeD, if_neg (fun e => by rw [e] at hlt; simp at hlt; omega)]
      have hTL : T = treeP L := by rw [unhide HTD, treeD, if_neg hne]
      obtain ⟨cu, hcu⟩ : ∃ cs, cs = (U.map (Value.int .u8)).toArray := ⟨_, rfl⟩
      have hsu : cu.size = 32 := by rw [hcu]; simpa using hgU.len
      obtain ⟨sp1, sp2⟩ := growP_spec m L n true hN.1.symm hn1 hnm
      have hver := verP_grow m L n true U [] hN.1.symm hn1 hnm (fun _ => hU)
      rw [List.append_nil, ← hU, ← hTL] at hver
      have hg7 := gLen_small 5 n m true hn1 hnm (by omega)
      obtain ⟨p, hp⟩ : ∃ p, p = growP L n true := ⟨_, rfl⟩
      rw [← hp] at sp1 sp2 hver
      obtain ⟨lp, hlp⟩ : ∃ z, z = p.length := ⟨_, rfl⟩
      have i1 : (n : Int) ≤ (m : Int) := by omega
      have i0 : (0 : Int) ≤ (n : Int) := Int.natCast_nonneg _
      have i2 : ¬ (7 : Int) < (lp : Int) := by omega
      have i3 : (m : Int) ≤ (cL : Int) := by omega
      have i4 : (n : Int) ≤ (cL : Int) := by omega
      have wn : IntKind.i64.wrap ((n : Int) + 1) = ((n + 1 : Nat) : Int) := (IntWalk.i64_in _ (by omega)).trans (by omega)
      have HNN : Hid (1 ≤ n ∧ n ≤ m ∧ n + (g + 1) = m + 1 ∧ m = L.length ∧ m ≤ cL ∧ m ≤ 24) := ⟨hn1, hnm, hng, hN.1, hN.2.1, hN.2.2⟩
      have HP : Hid (p = growP L n true ∧ p.length = gLen n m true ∧ (∀ d ∈ p, Dg d) ∧ verP U n m true p = (U, T, []) ∧ lp = p.length ∧ gLen n m true ≤ 6) := ⟨hp, sp1, sp2, hver, hlp, hg7⟩
      have HGU := hide hgU; have HCU := hide hcu
      have HTREE : Hid (∀ V, Below W5.heap.size W5 V → Calls Tryd.prog 16 #[.slice AL n cL] V fun x w' => x = .returned (.agg cu) ∧ Below V.heap.size V w') := fun V hV => by
        have := Tree_any V cL AL (L.take n) (((unhide HDS5).take n).keep hV) (by omega) (by omega) ((unhide HT5).keep hV)
        rw [hlt, hUd, show dv U = .agg cu by rw [hcu]] at this
        exact this
      have hgo := Grow_ok L n AL cL wr ((unhide HDS5).keep hbel) (by omega) (by omega) hn1 (by omega) ((unhide HT5).keep hbel)
      rw [← hN.1, ← hp] at hgo
      clear hN hne hlt hU hgU hUd hTL hcu sp1 sp2 hver hg7 hp hlp hn1 hnm hng hbel
      go_wp2_with fail
      refine hgo.mono ?_; rintro x V1 ⟨⟨vp, rfl, hop⟩, hb1⟩
      obtain ⟨Ap, cp, rfl, hpc, hdp, hnone⟩ := own_form hop (unhide HP).2.2.1
      rw [← (unhide HP).2.2.2.2.1]
      have HB6 := hide (thenB (unhide HBE) hb1)
      have HDP := hide hdp
      have HPC : Hid (p.length ≤ cp) := hpc
      have HNONE := hide hnone
      clear hgo hop hpc hdp hnone hb1
      go_wp2_with fail
      obtain ⟨W, hW⟩ : ∃ W, W = V1.drewN 1 := ⟨_, rfl⟩
      have HW : Hid (W = V1.drewN 1) := hW
      have HB7 := hide (thenB (unhide HB6) (below_named HW))
      have HDPW := hide ((unhide HDP).keep (below_named HW))
      have HAW := hide ((unhide HW5).keep (unhide HB7))
      have hSW : Below W.heap.size W W := Below.refl _ _
      clear hW HB6 HDP
      refine held (S := Below W.heap.size W) W HW (by kernel_rfl) ?_
      refine wpAnyH_take (i := 0) (v := ?_) rfl (by kernel_rfl) (by kernel_rfl) (by kernel_rfl) (fun _ _ _ h => h) (Or.inl ⟨by kernel_rfl, ?_⟩) (by assumption) ?_
      rotate_left
      · intro Wt hSt
        go_simp
        try with_reducible rfl
      try simp only [List.getElem_toArray, List.getElem_cons_zero, List.getElem_cons_succ, Act.put, List.setIfInBounds_toArray, List.set_cons_zero, List.set_cons_succ]
      refine wpAnyH_take (i := 1) (v := ?_) rfl (by kernel_rfl) (by kernel_rfl) (by kernel_rfl) (fun _ _ _ h => h) (Or.inl ⟨by kernel_rfl, ?_⟩) (by assumption) ?_
      rotate_left
      · intro Wt hSt
        go_simp
        try with_reducible rfl
      try simp only [List.getElem_toArray, List.getElem_cons_zero, List.getElem_cons_succ, Act.put, List.setIfInBounds_toArray, List.set_cons_zero, List.set_cons_succ]
      refine wpAnyH_take (i := 2) (v := ?_) rfl (by kernel_rfl) (by kernel_rfl) (by kernel_rfl) (fun _ _ _ h => h) (Or.inl ⟨by kernel_rfl, ?_⟩) (by assumption) ?_
      rotate_left
      · intro Wt hSt
        go_simp
        try with_reducible rfl
      try simp only [List.getElem_toArray, List.getElem_cons_zero, List.getElem_cons_succ, Act.put, List.setIfInBounds_toArray, List.set_cons_zero, List.set_cons_succ]
      refine wpAnyH_take (i := 3) (v := ?_) rfl (by kernel_rfl) (by kernel_rfl) (by kernel_rfl) (fun _ _ _ h => h) (Or.inl ⟨by kernel_rfl, ?_⟩) (by assumption) ?_
      rotate_left
      · intro Wt hSt
        go_simp
        try with_reducible rfl
      try simp only [List.getElem_toArray, List.getElem_cons_zero, List.getElem_cons_succ, Act.put, List.setIfInBounds_toArray, List.set_cons_zero, List.set_cons_succ]
      refine wpAnyH_take (i := 4) (v := ?_) rfl (by kernel_rfl) (by kernel_rfl) (by kernel_rfl) (fun _ _ _ h => h) (Or.inl ⟨by kernel_rfl, ?_⟩) (by assumption) ?_
      rotate_left
      · intro Wt hSt
        go_simp
        try with_reducible rfl
      try simp only [List.getElem_toArray, List.getElem_cons_zero, List.getElem_cons_succ, Act.put, List.setIfInBounds_toArray, List.set_cons_zero, List.set_cons_succ]
      refine wpAnyH_take (i := 5) (v := ?_) rfl (by kernel_rfl) (by kernel_rfl) (by kernel_rfl) (fun _ _ _ h => h) (Or.inl ⟨by kernel_rfl, ?_⟩) (by assumption) ?_
      rotate_left
      · intro Wt hSt
        go_simp
        try with_reducible rfl
      try simp only [List.getElem_toArray, List.getElem_cons_zero, List.getElem_cons_succ, Act.put, List.setIfInBounds_toArray, List.set_cons_zero, List.set_cons_succ]
      rw [show decide ((7 : Int) < (lp : Int)) = false from decide_eq_false (by omega)]
      refine wpAnyH_take (i := 6) (v := ?_) rfl (by kernel_rfl) (by kernel_rfl) (by kernel_rfl) (fun _ _ _ h => h) (Or.inl ⟨by kernel_rfl, ?_⟩) (by assumption) ?_
      rotate_left
      · intro Wt hSt
        go_simp
        try with_reducible rfl
      try simp only [List.getElem_toArray, List.getElem_cons_zero, List.getElem_cons_succ, Act.put, List.setIfInBounds_toArray, List.set_cons_zero, List.set_cons_succ]
      refine wpAnyH_take (i := 7) (v := ?_) rfl (by kernel_rfl) (by kernel_rfl) (by kernel_rfl) (fun _ _ _ h => h) (Or.inl ⟨by kernel_rfl, ?_⟩) (by assumption) ?_
      rotate_left
      · intro Wt hSt
        go_simp
        try with_reducible rfl
      try simp only [List.getElem_toArray, List.getElem_cons_zero, List.getElem_cons_succ, Act.put, List.setIfInBounds_toArray, List.set_cons_zero, List.set_cons_succ]
      refine wpAnyH_take (i := 8) (v := ?_) rfl (by kernel_rfl) (by kernel_rfl) (by kernel_rfl) (fun _ _ _ h => h) (Or.inl ⟨by kernel_rfl, ?_⟩) (by assumption) ?_
      rotate_left
      · intro Wt hSt
        go_simp
        try with_reducible rfl
      try simp only [List.getElem_toArray, List.getElem_cons_zero, List.getElem_cons_succ, Act.put, List.setIfInBounds_toArray, List.set_cons_zero, List.set_cons_succ]
      refine wpAnyH_take (i := 9) (v := ?_) rfl (by kernel_rfl) (by kernel_rfl) (by kernel_rfl) (fun _ _ _ h => h) (Or.inl ⟨by kernel_rfl, ?_⟩) (by assumption) ?_
      rotate_left
      · intro Wt hSt
        go_simp
        try with_reducible rfl
      try simp only [List.getElem_toArray, List.getElem_cons_zero, List.getElem_cons_succ, Act.put, List.setIfInBounds_toArray, List.set_cons_zero, List.set_cons_succ]
      refine wpAnyH_take (i := 10) (v := ?_) rfl (by kernel_rfl) (by kernel_rfl) (by kernel_rfl) (fun _ _ _ h => h) (Or.inl ⟨by kernel_rfl, ?_⟩) (by assumption) ?_
      rotate_left
      · intro Wt hSt
        go_simp
        try with_reducible rfl
      try simp only [List.getElem_toArray, List.getElem_cons_zero, List.getElem_cons_succ, Act.put, List.setIfInBounds_toArray, List.set_cons_zero, List.set_cons_succ]
      refine wpAnyH_take (i := 12) (v := .agg ct) rfl (by kernel_rfl) (by kernel_rfl) (by kernel_rfl) (fun _ _ _ h => h) (by rw [unhide HCT]; exact yieldsIf_load_mid (by kernel_rfl) 26 (.tmp 4) rfl N4 0 rfl (T.map (Value.int .u8)) _ (fun W hS => ((unhide HAW).keep hS).range) Tryd.underlying26 rfl (by rw [List.length_map, (unhide HGT).len]; exact info32)) (by assumption) ?_
      try simp only [List.getElem_toArray, List.getElem_cons_zero, List.getElem_cons_succ, Act.put, List.setIfInBounds_toArray, List.set_cons_zero, List.set_cons_succ]
      refine wpAnyH_take (i := 13) (v := ?_) rfl (by kernel_rfl) (by kernel_rfl) (by kernel_rfl) (fun _ _ _ h => h) (Or.inl ⟨by kernel_rfl, ?_⟩) (by assumption) ?_
      rotate_left
      · intro Wt hSt
        go_simp
        try with_reducible rfl
      try simp only [List.getElem_toArray, List.getElem_cons_zero, List.getElem_cons_succ, Act.put, List.setIfInBounds_toArray, List.set_cons_zero, List.set_cons_succ]
      refine wpAnyH_take (i := 14) (v := ?_) rfl (by kernel_rfl) (by kernel_rfl) (by kernel_rfl) (fun _ _ _ h => h) (Or.inl ⟨by kernel_rfl, ?_⟩) (by assumption) ?_
      rotate_left
      · intro Wt hSt
        go_simp
        try with_reducible rfl
      try simp only [List.getElem_toArray, List.getElem_cons_zero, List.getElem_cons_succ, Act.put, List.setIfInBounds_toArray, List.set_cons_zero, List.set_cons_succ]
      refine wpAnyH_take (i := 15) (v := ?_) rfl (by kernel_rfl) (by kernel_rfl) (by kernel_rfl) (fun _ _ _ h => h) (Or.inl ⟨by kernel_rfl, ?_⟩) (by assumption) ?_
      rotate_left
      · intro Wt hSt
        go_simp
        try with_reducible rfl
      try simp only [List.getElem_toArray, List.getElem_cons_zero, List.getElem_cons_succ, Act.put, List.setIfInBounds_toArray, List.set_cons_zero, List.set_cons_succ]
      refine wpAnyH_take (i := 16) (v := ?_) rfl (by kernel_rfl) (by kernel_rfl) (by kernel_rfl) (fun _ _ _ h => h) (Or.inl ⟨by kernel_rfl, ?_⟩) (by assumption) ?_
      rotate_left
      · intro Wt hSt
        go_simp
        try with_reducible rfl
      try simp only [List.getElem_toArray, List.getElem_cons_zero, List.getElem_cons_succ, Act.put, List.setIfInBounds_toArray, List.set_cons_zero, List.set_cons_succ]
      refine wpAnyH_one 11 _ rfl (by kernel_rfl) (by kernel_rfl) ?_
      intro K hK
      go_simp
      refine ((unhide HTREE) W (unhide HB7)).mono ?_; rintro x V2 ⟨rfl, hb2⟩
      have hS2 := thenB hSW hb2
      clear hb2
      dsimp only
      refine hK _ _ hS2 ?_
      clear hK K
      try simp only [List.getElem_toArray, List.getElem_cons_zero, List.getElem_cons_succ, Act.put, List.setIfInBounds_toArray, List.set_cons_zero, List.set_cons_succ]
      refine wpAnyH_one 17 _ rfl (by kernel_rfl) (by kernel_rfl) ?_
      intro K hK
      go_simp
      have hgw := Grew_ok U T n m p Ap cp V2 (unhide HGU) (unhide HGT) (unhide HNN).1 (unhide HNN).2.1 (by have := unhide HNN; omega) ((unhide HDPW).keep hS2) (unhide HPC) (by have := unhide HP; omega) U T [] (unhide HP).2.2.2.1 (unhide HP).2.1 ((unhide HT5).keep (thenB (unhide HB7) hS2))
      rw [← (unhide HP).2.2.2.2.1, decide_eq_true (rfl : U = U), decide_eq_true (rfl : T = T), show dv U = .agg cu by rw [unhide HCU], show dv T = .agg ct by rw [unhide HCT]] at hgw
      refine hgw.mono ?_; rintro x V3 ⟨rfl, hb3⟩
      have hS3 := thenB hS2 hb3
      clear hb3 hS2 hgw
      dsimp only
      refine hK _ _ hS3 ?_
      clear hK K
      try simp only [List.getElem_toArray, List.getElem_cons_zero, List.getElem_cons_succ, Act.put, List.setIfInBounds_toArray, List.set_cons_zero, List.set_cons_succ]
      refine wpAnyH_take (i := 18) (v := ?_) rfl (by kernel_rfl) (by kernel_rfl) (by kernel_rfl) (fun _ _ _ h => h) (Or.inl ⟨by kernel_rfl, ?_⟩) (by assumption) ?_
      rotate_left
      · intro Wt hSt
        go_simp
        try with_reducible rfl
      try simp only [List.getElem_toArray, List.getElem_cons_zero, List.getElem_cons_succ, Act.put, List.setIfInBounds_toArray, List.set_cons_zero, List.set_cons_succ]
      refine wpAnyH_take (i := 19) (v := ?_) rfl (by kernel_rfl) (by kernel_rfl) (by kernel_rfl) (fun _ _ _ h => h) (Or.inl ⟨by kernel_rfl, ?_⟩) (by assumption) ?_
      rotate_left
      · intro Wt hSt
        go_simp
        try with_reducible rfl
      try simp only [List.getElem_toArray, List.getElem_cons_zero, List.getElem_cons_succ, Act.put, List.setIfInBounds_toArray, List.set_cons_zero, List.set_cons_succ]
      refine wpAnyH_chainOf [] _ _ _ (by kernel_rfl) (by kernel_rfl) ?_
      refine wpChain_nil ?_
      have HB8 := hide (thenB (unhide HB7) hS3)
      have HDP8 := hide ((unhide HDPW).keep hS3)
      clear hS3 hSW HB7 HDPW HAW
      go_wp2_with fail
      go_cut [60] (fun y60 wx => y60 = .bool false ∧ Below V3.heap.size V3 wx)
      case first =>
        obtain ⟨W, hW⟩ : ∃ W, W = V3.drewN 1 := ⟨_, rfl⟩
        have HW : Hid (W = V3.drewN 1) := hW
        have HW2 := hide (below_named HW)
        have HBW := hide (thenB (unhide HB8) (below_named HW))
        have HAW := hide ((unhide HW5).keep (unhide HBW))
        have HPW := hide ((unhide HDP8).keep (below_named HW))
        have hSW : AnyW2 W := trivial
        have hS0 : Below W.heap.size W W := Below.refl _ _
        have HTW := hide ((unhide HT5).keep (unhide HBW))
        clear hW HB8 HDP8
        refine held (S := Below W.heap.size W) W HW (by kernel_rfl) ?_
        refine wpAnyH_take (i := 0) (v := ?_) rfl (by kernel_rfl) (by kernel_rfl) (by kernel_rfl) (fun _ _ _ h => h) (Or.inl ⟨by kernel_rfl, ?_⟩) (by assumption) ?_
        rotate_left
        · intro Wt hSt
          go_simp
          try with_reducible rfl
        try simp only [List.getElem_toArray, List.getElem_cons_zero, List.getElem_cons_succ, Act.put, List.setIfInBounds_toArray, List.set_cons_zero, List.set_cons_succ]
        refine wpAnyH_take (i := 1) (v := ?_) rfl (by kernel_rfl) (by kernel_rfl) (by kernel_rfl) (fun _ _ _ h => h) (Or.inl ⟨by kernel_rfl, ?_⟩) (by assumption) ?_
        rotate_left
        · intro Wt hSt
          go_simp
          try with_reducible rfl
        try simp only [List.getElem_toArray, List.getElem_cons_zero, List.getElem_cons_succ, Act.put, List.setIfInBounds_toArray, List.set_cons_zero, List.set_cons_succ]
        refine wpAnyH_take (i := 2) (v := ?_) rfl (by kernel_rfl) (by kernel_rfl) (by kernel_rfl) (fun _ _ _ h => h) (Or.inl ⟨by kernel_rfl, ?_⟩) (by assumption) ?_
        rotate_left
        · intro Wt hSt
          go_simp
          try with_reducible rfl
        try simp only [List.getElem_toArray, List.getElem_cons_zero, List.getElem_cons_succ, Act.put, List.setIfInBounds_toArray, List.set_cons_zero, List.set_cons_succ]
        refine wpAnyH_take (i := 4) (v := .agg ct) rfl (by kernel_rfl) (by kernel_rfl) (by kernel_rfl) (fun _ _ _ h => h) (by rw [unhide HCT]; exact yieldsIf_load_mid (by kernel_rfl) 26 (.tmp 4) rfl N4 0 rfl (T.map (Value.int .u8)) _ (fun W hS => ((unhide HAW).keep hS).range) Tryd.underlying26 rfl (by rw [List.length_map, (unhide HGT).len]; exact info32)) (by assumption) ?_
        try simp only [List.getElem_toArray, List.getElem_cons_zero, List.getElem_cons_succ, Act.put, List.setIfInBounds_toArray, List.set_cons_zero, List.set_cons_succ]
        refine wpAnyH_take (i := 5) (v := ?_) rfl (by kernel_rfl) (by kernel_rfl) (by kernel_rfl) (fun _ _ _ h => h) (Or.inl ⟨by kernel_rfl, ?_⟩) (by assumption) ?_
        rotate_left
        · intro Wt hSt
          go_simp
          try with_reducible rfl
        try simp only [List.getElem_toArray, List.getElem_cons_zero, List.getElem_cons_succ, Act.put, List.setIfInBounds_toArray, List.set_cons_zero, List.set_cons_succ]
        refine wpAnyH_take (i := 6) (v := ?_) rfl (by kernel_rfl) (by kernel_rfl) (by kernel_rfl) (fun _ _ _ h => h) (Or.inl ⟨by kernel_rfl, ?_⟩) (by assumption) ?_
        rotate_left
        · intro Wt hSt
          go_simp
          try with_reducible rfl
        try simp only [List.getElem_toArray, List.getElem_cons_zero, List.getElem_cons_succ, Act.put, List.setIfInBounds_toArray, List.set_cons_zero, List.set_cons_succ]
        refine wpAnyH_take (i := 7) (v := ?_) rfl (by kernel_rfl) (by kernel_rfl) (by kernel_rfl) (fun _ _ _ h => h) (Or.inl ⟨by kernel_rfl, ?_⟩) (by assumption) ?_
        rotate_left
        · intro Wt hSt
          go_simp
          try with_reducible rfl
        try simp only [List.getElem_toArray, List.getElem_cons_zero, List.getElem_cons_succ, Act.put, List.setIfInBounds_toArray, List.set_cons_zero, List.set_cons_succ]
        refine wpAnyH_take (i := 9) (v := ?_) rfl (by kernel_rfl) (by kernel_rfl) (by kernel_rfl) (fun _ _ _ h => h) (Or.inl ⟨by kernel_rfl, ?_⟩) (by assumption) ?_
        rotate_left
        · intro Wt hSt
          go_simp
          try with_reducible rfl
        try simp only [List.getElem_toArray, List.getElem_cons_zero, List.getElem_cons_succ, Act.put, List.setIfInBounds_toArray, List.set_cons_zero, List.set_cons_succ]
        refine wpAnyH_take (i := 11) (v := .agg ct) rfl (by kernel_rfl) (by kernel_rfl) (by kernel_rfl) (fun _ _ _ h => h) (by rw [unhide HCT]; exact yieldsIf_load_mid (by kernel_rfl) 26 (.tmp 4) rfl N4 0 rfl (T.map (Value.int .u8)) _ (fun W hS => ((unhide HAW).keep hS).range) Tryd.underlying26 rfl (by rw [List.length_map, (unhide HGT).len]; exact info32)) (by assumption) ?_
        try simp only [List.getElem_toArray, List.getElem_cons_zero, List.getElem_cons_succ, Act.put, List.setIfInBounds_toArray, List.set_cons_zero, List.set_cons_succ]
        refine wpAnyH_all (show Region.ready .any _ _ = [3, 8, 12] by kernel_rfl) (by simp) fun x hx => ?_
        rcases (by simpa using hx : x = 3 ∨ x = 8 ∨ x = 12) with rfl | rfl | rfl
        · clear hx
          refine wpOp_one 3 _ rfl (by kernel_rfl) fun K hK => ?_
          go_simp
          refine ((unhide HTREE) W (thenB (unhide HBW) hS0)).mono ?_; rintro x Q1 ⟨rfl, hb1⟩
          dsimp only
          have hS1_ := thenB hS0 hb1
          refine hK _ _ ⟨hS1_, ?_⟩
          clear hK K
          try simp only [List.getElem_toArray, List.getElem_cons_zero, List.getElem_cons_succ, Act.put, List.setIfInBounds_toArray, List.set_cons_zero, List.set_cons_succ]
          refine wpAnyH_all (show Region.ready .any _ _ = [8, 12] by kernel_rfl) (by simp) fun x hx => ?_
          rcases (by simpa using hx : x = 8 ∨ x = 12) with rfl | rfl
          · clear hx
            refine wpOp_one 8 _ rfl (by kernel_rfl) fun K hK => ?_
            go_simp
            generalize hX2 : Q1.alloc _ = Q2
            have hb2 : Below Q1.heap.size Q1 Q2 := hX2 ▸ (Below.refl _ _).alloc (Nat.le_refl _) _
            have ho2 : OwnD Q2 W.heap.size (.slice (some ⟨Q1.heap.size, 0, none⟩) 0 0) [] := hX2 ▸ World.ownsRow_lit Q1 #[] 0 hS1_.size (Nat.zero_le _) rfl
            have hS2_ := thenB hS1_ hb2
            refine hK _ _ ⟨hS2_, ?_⟩
            clear hK K
            try simp only [List.getElem_toArray, List.getElem_cons_zero, List.getElem_cons_succ, Act.put, List.setIfInBounds_toArray, List.set_cons_zero, List.set_cons_succ]
            refine wpAnyH_all (show Region.ready .any _ _ = [10, 12] by kernel_rfl) (by simp) fun x hx => ?_
            rcases (by simpa using hx : x = 10 ∨ x = 12) with rfl | rfl
            · clear hx
              refine wpOp_one 10 _ rfl (by kernel_rfl) fun K hK => ?_
              obtain ⟨v3, Q3, hr3, ho3, hg3, hob3⟩ := append_many ho2 30 Ap cp ((unhide HPW).keep hS2_) (unhide HNONE) (by have := unhide HP; simp; omega) hS2_.size
              rw [← (unhide HP).2.2.2.2.1] at hr3
              have hS3_ := grown_below hS2_ hg3 (fun k hk => (World.ownsRow.lt ho2 k hk).1)
              refine wp_append (.tmp 54) (.tmp 55) 30 rfl _ _ v3 Q3 rfl rfl hr3 ?_
              refine hK _ _ ⟨hS3_, ?_⟩
              clear hK K
              try simp only [List.getElem_toArray, List.getElem_cons_zero, List.getElem_cons_succ, Act.put, List.setIfInBounds_toArray, List.set_cons_zero, List.set_cons_succ]
              refine wpAnyH_all (show Region.ready .any _ _ = [12] by kernel_rfl) (by simp) fun x hx => ?_
              obtain rfl : x = 12 := by simpa using hx
              clear hx
              refine wpOp_one 12 _ rfl (by kernel_rfl) fun K hK => ?_
              go_simp
              rw [overwritten hst (by rfl)]
              generalize hX4 : Q3.alloc _ = Q4
              have hb4 : Below Q3.heap.size Q3 Q4 := hX4 ▸ (Below.refl _ _).alloc (Nat.le_refl _) _
              have hneE4 : ∀ k, (v3 : Value).ownBlock = some k → k ≠ Q3.heap.size := fun k hk => by have := (World.ownsRow.lt ho3 k hk).2; omega
              have ho4 := OwnD.later ho3 hb4
              have hE4 : ByAt Q4 Q3.heap.size 26 T := boxed Q3 Q4 T _ (by rw [← hX4, unhide HCT]; rfl)
              have hS4_ := thenB hS3_ hb4
              refine hK _ _ ⟨hS4_, ?_⟩
              clear hK K
              try simp only [List.getElem_toArray, List.getElem_cons_zero, List.getElem_cons_succ, Act.put, List.setIfInBounds_toArray, List.set_cons_zero, List.set_cons_succ]
              refine wpAnyH_all (show Region.ready .any _ _ = [13] by kernel_rfl) (by simp) fun x hx => ?_
              obtain rfl : x = 13 := by simpa using hx
              clear hx
              refine wpOp_one 13 _ rfl (by kernel_rfl) fun K hK => ?_
              obtain ⟨v5, Q5, hr5, ho5, hg5, hob5⟩ := append_one ho4 30 (Q3.heap.size) 1 T (unhide HGT) hE4 (by have := unhide HP; simp; omega) hS4_.size
              have hS5_ := grown_below hS4_ hg5 (fun k hk => (World.ownsRow.lt ho4 k hk).1)
              refine wp_append (.tmp 56) (.tmp 58) 30 rfl _ _ v5 Q5 rfl rfl hr5 ?_
              refine hK _ _ ⟨hS5_, ?_⟩
              clear hK K
              try simp only [List.getElem_toArray, List.getElem_cons_zero, List.getElem_cons_succ, Act.put, List.setIfInBounds_toArray, List.set_cons_zero, List.set_cons_succ]
              refine wpAnyH_all (show Region.ready .any _ _ = [14] by kernel_rfl) (by simp) fun x hx => ?_
              obtain rfl : x = 14 := by simpa using hx
              clear hx
              refine wpOp_one 14 _ rfl (by kernel_rfl) fun K hK => ?_
              obtain ⟨Aq, cq, hvq, hcq, hdq, _⟩ := own_form ho5 (fun x hx => by
                rcases List.mem_append.1 hx with h | h
                · exact (unhide HP).2.2.1 x (by simpa using h)
                · rw [List.mem_singleton.1 h]; exact unhide HGT)
              have hlq : (([] : List (List Int)) ++ p ++ [T]).length = lp + 1 := by have := unhide HP; simp; omega
              rw [hlq] at hvq hcq
              subst hvq
              go_simp
              have hgw := Grew_len U T n m _ Aq cq Q5 (unhide HGU) (unhide HGT) (unhide HNN).1 (unhide HNN).2.1 (by have := unhide HNN; omega) hdq (by rw [hlq]; exact hcq) (by have := unhide HP; rw [hlq]; omega) (by have := unhide HP; rw [hlq]; omega) ((unhide HTW).keep hS5_)
              rw [hlq, show dv U = .agg cu by rw [unhide HCU], show dv T = .agg ct by rw [unhide HCT]] at hgw
              refine hgw.mono ?_; rintro x Q6 ⟨rfl, hb6⟩
              dsimp only
              have hS6_ := thenB hS5_ hb6
              refine hK _ _ ⟨hS6_, ?_⟩
              clear hK K
              try simp only [List.getElem_toArray, List.getElem_cons_zero, List.getElem_cons_succ, Act.put, List.setIfInBounds_toArray, List.set_cons_zero, List.set_cons_succ]
              refine wpAnyH_chainOf [] _ _ _ (by kernel_rfl) (by kernel_rfl) ?_
              refine wpChain_nil ?_
              go_wp2_with fail
              go_meet
              exact ⟨rfl, thenB (unhide HW2) hS6_⟩
            · clear hx
              refine wpOp_one 12 _ rfl (by kernel_rfl) fun K hK => ?_
              go_simp
              rw [overwritten hst (by rfl)]
              generalize hX7 : Q2.alloc _ = Q7
              have hb7 : Below Q2.heap.size Q2 Q7 := hX7 ▸ (Below.refl _ _).alloc (Nat.le_refl _) _
              have hneE7 : ∀ k, ((.slice (some ⟨Q1.heap.size, 0, none⟩) 0 0) : Value).ownBlock = some k → k ≠ Q2.heap.size := fun k hk => by have := (World.ownsRow.lt ho2 k hk).2; omega
              have ho7 := OwnD.later ho2 hb7
              have hE7 : ByAt Q7 Q2.heap.size 26 T := boxed Q2 Q7 T _ (by rw [← hX7, unhide HCT]; rfl)
              have hS7_ := thenB hS2_ hb7
              refine hK _ _ ⟨hS7_, ?_⟩
              clear hK K
              try simp only [List.getElem_toArray, List.getElem_cons_zero, List.getElem_cons_succ, Act.put, List.setIfInBounds_toArray, List.set_cons_zero, List.set_cons_succ]
              refine wpAnyH_all (show Region.ready .any _ _ = [10] by kernel_rfl) (by simp) fun x hx => ?_
              obtain rfl : x = 10 := by simpa using hx
              clear hx
              refine wpOp_one 10 _ rfl (by kernel_rfl) fun K hK => ?_
              obtain ⟨v8, Q8, hr8, ho8, hg8, hob8⟩ := append_many ho7 30 Ap cp ((unhide HPW).keep hS7_) (unhide HNONE) (by have := unhide HP; simp; omega) hS7_.size
              rw [← (unhide HP).2.2.2.2.1] at hr8
              have hS8_ := grown_below hS7_ hg8 (fun k hk => (World.ownsRow.lt ho7 k hk).1)
              have hE8 := own_kept hE7 hg8 hneE7
              have hneE8 := own_ne hob8 hneE7 (lt_of_block hE7)
              refine wp_append (.tmp 54) (.tmp 55) 30 rfl _ _ v8 Q8 rfl rfl hr8 ?_
              refine hK _ _ ⟨hS8_, ?_⟩
              clear hK K
              try simp only [List.getElem_toArray, List.getElem_cons_zero, List.getElem_cons_succ, Act.put, List.setIfInBounds_toArray, List.set_cons_zero, List.set_cons_succ]
              refine wpAnyH_all (show Region.ready .any _ _ = [13] by kernel_rfl) (by simp) fun x hx => ?_
              obtain rfl : x = 13 := by simpa using hx
              clear hx
              refine wpOp_one 13 _ rfl (by kernel_rfl) fun K hK => ?_
              obtain ⟨v9, Q9, hr9, ho9, hg9, hob9⟩ := append_one ho8 30 (Q2.heap.size) 1 T (unhide HGT) hE8 (by have := unhide HP; simp; omega) hS8_.size
              have hS9_ := grown_below hS8_ hg9 (fun k hk => (World.ownsRow.lt ho8 k hk).1)
              refine wp_append (.tmp 56) (.tmp 58) 30 rfl _ _ v9 Q9 rfl rfl hr9 ?_
              refine hK _ _ ⟨hS9_, ?_⟩
              clear hK K
              try simp only [List.getElem_toArray, List.getElem_cons_zero, List.getElem_cons_succ, Act.put, List.setIfInBounds_toArray, List.set_cons_zero, List.set_cons_succ]
              refine wpAnyH_all (show Region.ready .any _ _ = [14] by kernel_rfl) (by simp) fun x hx => ?_
              obtain rfl : x = 14 := by simpa using hx
              clear hx
              refine wpOp_one 14 _ rfl (by kernel_rfl) fun K hK => ?_
              obtain ⟨Aq, cq, hvq, hcq, hdq, _⟩ := own_form ho9 (fun x hx => by
                rcases List.mem_append.1 hx with h | h
                · exact (unhide HP).2.2.1 x (by simpa using h)
                · rw [List.mem_singleton.1 h]; exact unhide HGT)
              have hlq : (([] : List (List Int)) ++ p ++ [T]).length = lp + 1 := by have := unhide HP; simp; omega
              rw [hlq] at hvq hcq
              subst hvq
              go_simp
              have hgw := Grew_len U T n m _ Aq cq Q9 (unhide HGU) (unhide HGT) (unhide HNN).1 (unhide HNN).2.1 (by have := unhide HNN; omega) hdq (by rw [hlq]; exact hcq) (by have := unhide HP; rw [hlq]; omega) (by have := unhide HP; rw [hlq]; omega) ((unhide HTW).keep hS9_)
              rw [hlq, show dv U = .agg cu by rw [unhide HCU], show dv T = .agg ct by rw [unhide HCT]] at hgw
              refine hgw.mono ?_; rintro x Q10 ⟨rfl, hb10⟩
              dsimp only
              have hS10_ := thenB hS9_ hb10
              refine hK _ _ ⟨hS10_, ?_⟩
              clear hK K
              try simp only [List.getElem_toArray, List.getElem_cons_zero, List.getElem_cons_succ, Act.put, List.setIfInBounds_toArray, List.set_cons_zero, List.set_cons_succ]
              refine wpAnyH_chainOf [] _ _ _ (by kernel_rfl) (by kernel_rfl) ?_
              refine wpChain_nil ?_
              go_wp2_with fail
              go_meet
              exact ⟨rfl, thenB (unhide HW2) hS10_⟩
          · clear hx
            refine wpOp_one 12 _ rfl (by kernel_rfl) fun K hK => ?_
            go_simp
            rw [overwritten hst (by rfl)]
            generalize hX11 : Q1.alloc _ = Q11
            have hb11 : Below Q1.heap.size Q1 Q11 := hX11 ▸ (Below.refl _ _).alloc (Nat.le_refl _) _
            have hE11 : ByAt Q11 Q1.heap.size 26 T := boxed Q1 Q11 T _ (by rw [← hX11, unhide HCT]; rfl)
            have hS11_ := thenB hS1_ hb11
            refine hK _ _ ⟨hS11_, ?_⟩
            clear hK K
            try simp only [List.getElem_toArray, List.getElem_cons_zero, List.getElem_cons_succ, Act.put, List.setIfInBounds_toArray, List.set_cons_zero, List.set_cons_succ]
            refine wpAnyH_all (show Region.ready .any _ _ = [8] by kernel_rfl) (by simp) fun x hx => ?_
            obtain rfl : x = 8 := by simpa using hx
            clear hx
            refine wpOp_one 8 _ rfl (by kernel_rfl) fun K hK => ?_
            go_simp
            generalize hX12 : Q11.alloc _ = Q12
            have hb12 : Below Q11.heap.size Q11 Q12 := hX12 ▸ (Below.refl _ _).alloc (Nat.le_refl _) _
            have hE12 := hE11.keep hb12
            have ho12 : OwnD Q12 W.heap.size (.slice (some ⟨Q11.heap.size, 0, none⟩) 0 0) [] := hX12 ▸ World.ownsRow_lit Q11 #[] 0 hS11_.size (Nat.zero_le _) rfl
            have hS12_ := thenB hS11_ hb12
            have hneE12 : ∀ k, (Value.slice (some ⟨Q11.heap.size, 0, none⟩) 0 0).ownBlock = some k → k ≠ Q1.heap.size := fun k hk => by have := lt_of_block hE11; have e : Q11.heap.size = k := (by simpa [Value.ownBlock] using hk); omega
            refine hK _ _ ⟨hS12_, ?_⟩
            clear hK K
            try simp only [List.getElem_toArray, List.getElem_cons_zero, List.getElem_cons_succ, Act.put, List.setIfInBounds_toArray, List.set_cons_zero, List.set_cons_succ]
            refine wpAnyH_all (show Region.ready .any _ _ = [10] by kernel_rfl) (by simp) fun x hx => ?_
            obtain rfl : x = 10 := by simpa using hx
            clear hx
            refine wpOp_one 10 _ rfl (by kernel_rfl) fun K hK => ?_
            obtain ⟨v13, Q13, hr13, ho13, hg13, hob13⟩ := append_many ho12 30 Ap cp ((unhide HPW).keep hS12_) (unhide HNONE) (by have := unhide HP; simp; omega) hS12_.size
            rw [← (unhide HP).2.2.2.2.1] at hr13
            have hS13_ := grown_below hS12_ hg13 (fun k hk => (World.ownsRow.lt ho12 k hk).1)
            have hE13 := own_kept hE12 hg13 hneE12
            have hneE13 := own_ne hob13 hneE12 (lt_of_block hE12)
            refine wp_append (.tmp 54) (.tmp 55) 30 rfl _ _ v13 Q13 rfl rfl hr13 ?_
            refine hK _ _ ⟨hS13_, ?_⟩
            clear hK K
            try simp only [List.getElem_toArray, List.getElem_cons_zero, List.getElem_cons_succ, Act.put, List.setIfInBounds_toArray, List.set_cons_zero, List.set_cons_succ]
            refine wpAnyH_all (show Region.ready .any _ _ = [13] by kernel_rfl) (by simp) fun x hx => ?_
            obtain rfl : x = 13 := by simpa using hx
            clear hx
            refine wpOp_one 13 _ rfl (by kernel_rfl) fun K hK => ?_
            obtain ⟨v14, Q14, hr14, ho14, hg14, hob14⟩ := append_one ho13 30 (Q1.heap.size) 1 T (unhide HGT) hE13 (by have := unhide HP; simp; omega) hS13_.size
            have hS14_ := grown_below hS13_ hg14 (fun k hk => (World.ownsRow.lt ho13 k hk).1)
            refine wp_append (.tmp 56) (.tmp 58) 30 rfl _ _ v14 Q14 rfl rfl hr14 ?_
            refine hK _ _ ⟨hS14_, ?_⟩
            clear hK K
            try simp only [List.getElem_toArray, List.getElem_cons_zero, List.getElem_cons_succ, Act.put, List.setIfInBounds_toArray, List.set_cons_zero, List.set_cons_succ]
            refine wpAnyH_all (show Region.ready .any _ _ = [14] by kernel_rfl) (by simp) fun x hx => ?_
            obtain rfl : x = 14 := by simpa using hx
            clear hx
            refine wpOp_one 14 _ rfl (by kernel_rfl) fun K hK => ?_
            obtain ⟨Aq, cq, hvq, hcq, hdq, _⟩ := own_form ho14 (fun x hx => by
              rcases List.mem_append.1 hx with h | h
              · exact (unhide HP).2.2.1 x (by simpa using h)
              · rw [List.mem_singleton.1 h]; exact unhide HGT)
            have hlq : (([] : List (List Int)) ++ p ++ [T]).length = lp + 1 := by have := unhide HP; simp; omega
            rw [hlq] at hvq hcq
            subst hvq
            go_simp
            have hgw := Grew_len U T n m _ Aq cq Q14 (unhide HGU) (unhide HGT) (unhide HNN).1 (unhide HNN).2.1 (by have := unhide HNN; omega) hdq (by rw [hlq]; exact hcq) (by have := unhide HP; rw [hlq]; omega) (by have := unhide HP; rw [hlq]; omega) ((unhide HTW).keep hS14_)
            rw [hlq, show dv U = .agg cu by rw [unhide HCU], show dv T = .agg ct by rw [unhide HCT]] at hgw
            refine hgw.mono ?_; rintro x Q15 ⟨rfl, hb15⟩
            dsimp only
            have hS15_ := thenB hS14_ hb15
            refine hK _ _ ⟨hS15_, ?_⟩
            clear hK K
            try simp only [List.getElem_toArray, List.getElem_cons_zero, List.getElem_cons_succ, Act.put, List.setIfInBounds_toArray, List.set_cons_zero, List.set_cons_succ]
            refine wpAnyH_chainOf [] _ _ _ (by kernel_rfl) (by kernel_rfl) ?_
            refine wpChain_nil ?_
            go_wp2_with fail
            go_meet
            exact ⟨rfl, thenB (unhide HW2) hS15_⟩
        · clear hx
          refine wpOp_one 8 _ rfl (by kernel_rfl) fun K hK => ?_
          go_simp
          generalize hX16 : W.alloc _ = Q16
          have hb16 : Below W.heap.size W Q16 := hX16 ▸ (Below.refl _ _).alloc (Nat.le_refl _) _
          have ho16 : OwnD Q16 W.heap.size (.slice (some ⟨W.heap.size, 0, none⟩) 0 0) [] := hX16 ▸ World.ownsRow_lit W #[] 0 hS0.size (Nat.zero_le _) rfl
          have hS16_ := thenB hS0 hb16
          refine hK _ _ ⟨hS16_, ?_⟩
          clear hK K
          try simp only [List.getElem_toArray, List.getElem_cons_zero, List.getElem_cons_succ, Act.put, List.setIfInBounds_toArray, List.set_cons_zero, List.set_cons_succ]
          refine wpAnyH_all (show Region.ready .any _ _ = [3, 12] by kernel_rfl) (by simp) fun x hx => ?_
          rcases (by simpa using hx : x = 3 ∨ x = 12) with rfl | rfl
          · clear hx
            refine wpOp_one 3 _ rfl (by kernel_rfl) fun K hK => ?_
            go_simp
            refine ((unhide HTREE) Q16 (thenB (unhide HBW) hS16_)).mono ?_; rintro x Q17 ⟨rfl, hb17⟩
            dsimp only
            have ho17 := OwnD.later ho16 hb17
            have hS17_ := thenB hS16_ hb17
            refine hK _ _ ⟨hS17_, ?_⟩
            clear hK K
            try simp only [List.getElem_toArray, List.getElem_cons_zero, List.getElem_cons_succ, Act.put, List.setIfInBounds_toArray, List.set_cons_zero, List.set_cons_succ]
            refine wpAnyH_all (show Region.ready .any _ _ = [10, 12] by kernel_rfl) (by simp) fun x hx => ?_
            rcases (by simpa using hx : x = 10 ∨ x = 12) with rfl | rfl
            · clear hx
              refine wpOp_one 10 _ rfl (by kernel_rfl) fun K hK => ?_
              obtain ⟨v18, Q18, hr18, ho18, hg18, hob18⟩ := append_many ho17 30 Ap cp ((unhide HPW).keep hS17_) (unhide HNONE) (by have := unhide HP; simp; omega) hS17_.size
              rw [← (unhide HP).2.2.2.2.1] at hr18
              have hS18_ := grown_below hS17_ hg18 (fun k hk => (World.ownsRow.lt ho17 k hk).1)
              refine wp_append (.tmp 54) (.tmp 55) 30 rfl _ _ v18 Q18 rfl rfl hr18 ?_
              refine hK _ _ ⟨hS18_, ?_⟩
              clear hK K
              try simp only [List.getElem_toArray, List.getElem_cons_zero, List.getElem_cons_succ, Act.put, List.setIfInBounds_toArray, List.set_cons_zero, List.set_cons_succ]
              refine wpAnyH_all (show Region.ready .any _ _ = [12] by kernel_rfl) (by simp) fun x hx => ?_
              obtain rfl : x = 12 := by simpa using hx
              clear hx
              refine wpOp_one 12 _ rfl (by kernel_rfl) fun K hK => ?_
              go_simp
              rw [overwritten hst (by rfl)]
              generalize hX19 : Q18.alloc _ = Q19
              have hb19 : Below Q18.heap.size Q18 Q19 := hX19 ▸ (Below.refl _ _).alloc (Nat.le_refl _) _
              have hneE19 : ∀ k, (v18 : Value).ownBlock = some k → k ≠ Q18.heap.size := fun k hk => by have := (World.ownsRow.lt ho18 k hk).2; omega
              have ho19 := OwnD.later ho18 hb19
              have hE19 : ByAt Q19 Q18.heap.size 26 T := boxed Q18 Q19 T _ (by rw [← hX19, unhide HCT]; rfl)
              have hS19_ := thenB hS18_ hb19
              refine hK _ _ ⟨hS19_, ?_⟩
              clear hK K
              try simp only [List.getElem_toArray, List.getElem_cons_zero, List.getElem_cons_succ, Act.put, List.setIfInBounds_toArray, List.set_cons_zero, List.set_cons_succ]
              refine wpAnyH_all (show Region.ready .any _ _ = [13] by kernel_rfl) (by simp) fun x hx => ?_
              obtain rfl : x = 13 := by simpa using hx
              clear hx
              refine wpOp_one 13 _ rfl (by kernel_rfl) fun K hK => ?_
              obtain ⟨v20, Q20, hr20, ho20, hg20, hob20⟩ := append_one ho19 30 (Q18.heap.size) 1 T (unhide HGT) hE19 (by have := unhide HP; simp; omega) hS19_.size
              have hS20_ := grown_below hS19_ hg20 (fun k hk => (World.ownsRow.lt ho19 k hk).1)
              refine wp_append (.tmp 56) (.tmp 58) 30 rfl _ _ v20 Q20 rfl rfl hr20 ?_
              refine hK _ _ ⟨hS20_, ?_⟩
              clear hK K
              try simp only [List.getElem_toArray, List.getElem_cons_zero, List.getElem_cons_succ, Act.put, List.setIfInBounds_toArray, List.set_cons_zero, List.set_cons_succ]
              refine wpAnyH_all (show Region.ready .any _ _ = [14] by kernel_rfl) (by simp) fun x hx => ?_
              obtain rfl : x = 14 := by simpa using hx
              clear hx
              refine wpOp_one 14 _ rfl (by kernel_rfl) fun K hK => ?_
              obtain ⟨Aq, cq, hvq, hcq, hdq, _⟩ := own_form ho20 (fun x hx => by
                rcases List.mem_append.1 hx with h | h
                · exact (unhide HP).2.2.1 x (by simpa using h)
                · rw [List.mem_singleton.1 h]; exact unhide HGT)
              have hlq : (([] : List (List Int)) ++ p ++ [T]).length = lp + 1 := by have := unhide HP; simp; omega
              rw [hlq] at hvq hcq
              subst hvq
              go_simp
              have hgw := Grew_len U T n m _ Aq cq Q20 (unhide HGU) (unhide HGT) (unhide HNN).1 (unhide HNN).2.1 (by have := unhide HNN; omega) hdq (by rw [hlq]; exact hcq) (by have := unhide HP; rw [hlq]; omega) (by have := unhide HP; rw [hlq]; omega) ((unhide HTW).keep hS20_)
              rw [hlq, show dv U = .agg cu by rw [unhide HCU], show dv T = .agg ct by rw [unhide HCT]] at hgw
              refine hgw.mono ?_; rintro x Q21 ⟨rfl, hb21⟩
              dsimp only
              have hS21_ := thenB hS20_ hb21
              refine hK _ _ ⟨hS21_, ?_⟩
              clear hK K
              try simp only [List.getElem_toArray, List.getElem_cons_zero, List.getElem_cons_succ, Act.put, List.setIfInBounds_toArray, List.set_cons_zero, List.set_cons_succ]
              refine wpAnyH_chainOf [] _ _ _ (by kernel_rfl) (by kernel_rfl) ?_
              refine wpChain_nil ?_
              go_wp2_with fail
              go_meet
              exact ⟨rfl, thenB (unhide HW2) hS21_⟩
            · clear hx
              refine wpOp_one 12 _ rfl (by kernel_rfl) fun K hK => ?_
              go_simp
              rw [overwritten hst (by rfl)]
              generalize hX22 : Q17.alloc _ = Q22
              have hb22 : Below Q17.heap.size Q17 Q22 := hX22 ▸ (Below.refl _ _).alloc (Nat.le_refl _) _
              have hneE22 : ∀ k, ((.slice (some ⟨W.heap.size, 0, none⟩) 0 0) : Value).ownBlock = some k → k ≠ Q17.heap.size := fun k hk => by have := (World.ownsRow.lt ho17 k hk).2; omega
              have ho22 := OwnD.later ho17 hb22
              have hE22 : ByAt Q22 Q17.heap.size 26 T := boxed Q17 Q22 T _ (by rw [← hX22, unhide HCT]; rfl)
              have hS22_ := thenB hS17_ hb22
              refine hK _ _ ⟨hS22_, ?_⟩
              clear hK K
              try simp only [List.getElem_toArray, List.getElem_cons_zero, List.getElem_cons_succ, Act.put, List.setIfInBounds_toArray, List.set_cons_zero, List.set_cons_succ]
              refine wpAnyH_all (show Region.ready .any _ _ = [10] by kernel_rfl) (by simp) fun x hx => ?_
              obtain rfl : x = 10 := by simpa using hx
              clear hx
              refine wpOp_one 10 _ rfl (by kernel_rfl) fun K hK => ?_
              obtain ⟨v23, Q23, hr23, ho23, hg23, hob23⟩ := append_many ho22 30 Ap cp ((unhide HPW).keep hS22_) (unhide HNONE) (by have := unhide HP; simp; omega) hS22_.size
              rw [← (unhide HP).2.2.2.2.1] at hr23
              have hS23_ := grown_below hS22_ hg23 (fun k hk => (World.ownsRow.lt ho22 k hk).1)
              have hE23 := own_kept hE22 hg23 hneE22
              have hneE23 := own_ne hob23 hneE22 (lt_of_block hE22)
              refine wp_append (.tmp 54) (.tmp 55) 30 rfl _ _ v23 Q23 rfl rfl hr23 ?_
              refine hK _ _ ⟨hS23_, ?_⟩
              clear hK K
              try simp only [List.getElem_toArray, List.getElem_cons_zero, List.getElem_cons_succ, Act.put, List.setIfInBounds_toArray, List.set_cons_zero, List.set_cons_succ]
              refine wpAnyH_all (show Region.ready .any _ _ = [13] by kernel_rfl) (by simp) fun x hx => ?_
              obtain rfl : x = 13 := by simpa using hx
              clear hx
              refine wpOp_one 13 _ rfl (by kernel_rfl) fun K hK => ?_
              obtain ⟨v24, Q24, hr24, ho24, hg24, hob24⟩ := append_one ho23 30 (Q17.heap.size) 1 T (unhide HGT) hE23 (by have := unhide HP; simp; omega) hS23_.size
              have hS24_ := grown_below hS23_ hg24 (fun k hk => (World.ownsRow.lt ho23 k hk).1)
              refine wp_append (.tmp 56) (.tmp 58) 30 rfl _ _ v24 Q24 rfl rfl hr24 ?_
              refine hK _ _ ⟨hS24_, ?_⟩
              clear hK K
              try simp only [List.getElem_toArray, List.getElem_cons_zero, List.getElem_cons_succ, Act.put, List.setIfInBounds_toArray, List.set_cons_zero, List.set_cons_succ]
              refine wpAnyH_all (show Region.ready .any _ _ = [14] by kernel_rfl) (by simp) fun x hx => ?_
              obtain rfl : x = 14 := by simpa using hx
              clear hx
              refine wpOp_one 14 _ rfl (by kernel_rfl) fun K hK => ?_
              obtain ⟨Aq, cq, hvq, hcq, hdq, _⟩ := own_form ho24 (fun x hx => by
                rcases List.mem_append.1 hx with h | h
                · exact (unhide HP).2.2.1 x (by simpa using h)
                · rw [List.mem_singleton.1 h]; exact unhide HGT)
              have hlq : (([] : List (List Int)) ++ p ++ [T]).length = lp + 1 := by have := unhide HP; simp; omega
              rw [hlq] at hvq hcq
              subst hvq
              go_simp
              have hgw := Grew_len U T n m _ Aq cq Q24 (unhide HGU) (unhide HGT) (unhide HNN).1 (unhide HNN).2.1 (by have := unhide HNN; omega) hdq (by rw [hlq]; exact hcq) (by have := unhide HP; rw [hlq]; omega) (by have := unhide HP; rw [hlq]; omega) ((unhide HTW).keep hS24_)
              rw [hlq, show dv U = .agg cu by rw [unhide HCU], show dv T = .agg ct by rw [unhide HCT]] at hgw
              refine hgw.mono ?_; rintro x Q25 ⟨rfl, hb25⟩
              dsimp only
              have hS25_ := thenB hS24_ hb25
              refine hK _ _ ⟨hS25_, ?_⟩
              clear hK K
              try simp only [List.getElem_toArray, List.getElem_cons_zero, List.getElem_cons_succ, Act.put, List.setIfInBounds_toArray, List.set_cons_zero, List.set_cons_succ]
              refine wpAnyH_chainOf [] _ _ _ (by kernel_rfl) (by kernel_rfl) ?_
              refine wpChain_nil ?_
              go_wp2_with fail
              go_meet
              exact ⟨rfl, thenB (unhide HW2) hS25_⟩
          · clear hx
            refine wpOp_one 12 _ rfl (by kernel_rfl) fun K hK => ?_
            go_simp
            rw [overwritten hst (by rfl)]
            generalize hX26 : Q16.alloc _ = Q26
            have hb26 : Below Q16.heap.size Q16 Q26 := hX26 ▸ (Below.refl _ _).alloc (Nat.le_refl _) _
            have hneE26 : ∀ k, ((.slice (some ⟨W.heap.size, 0, none⟩) 0 0) : Value).ownBlock = some k → k ≠ Q16.heap.size := fun k hk => by have := (World.ownsRow.lt ho16 k hk).2; omega
            have ho26 := OwnD.later ho16 hb26
            have hE26 : ByAt Q26 Q16.heap.size 26 T := boxed Q16 Q26 T _ (by rw [← hX26, unhide HCT]; rfl)
            have hS26_ := thenB hS16_ hb26
            refine hK _ _ ⟨hS26_, ?_⟩
            clear hK K
            try simp only [List.getElem_toArray, List.getElem_cons_zero, List.getElem_cons_succ, Act.put, List.setIfInBounds_toArray, List.set_cons_zero, List.set_cons_succ]
            refine wpAnyH_all (show Region.ready .any _ _ = [3] by kernel_rfl) (by simp) fun x hx => ?_
            obtain rfl : x = 3 := by simpa using hx
            clear hx
            refine wpOp_one 3 _ rfl (by kernel_rfl) fun K hK => ?_
            go_simp
            refine ((unhide HTREE) Q26 (thenB (unhide HBW) hS26_)).mono ?_; rintro x Q27 ⟨rfl, hb27⟩
            dsimp only
            have hE27 := hE26.keep hb27
            have ho27 := OwnD.later ho26 hb27
            have hS27_ := thenB hS26_ hb27
            refine hK _ _ ⟨hS27_, ?_⟩
            clear hK K
            try simp only [List.getElem_toArray, List.getElem_cons_zero, List.getElem_cons_succ, Act.put, List.setIfInBounds_toArray, List.set_cons_zero, List.set_cons_succ]
            refine wpAnyH_all (show Region.ready .any _ _ = [10] by kernel_rfl) (by simp) fun x hx => ?_
            obtain rfl : x = 10 := by simpa using hx
            clear hx
            refine wpOp_one 10 _ rfl (by kernel_rfl) fun K hK => ?_
            obtain ⟨v28, Q28, hr28, ho28, hg28, hob28⟩ := append_many ho27 30 Ap cp ((unhide HPW).keep hS27_) (unhide HNONE) (by have := unhide HP; simp; omega) hS27_.size
            rw [← (unhide HP).2.2.2.2.1] at hr28
            have hS28_ := grown_below hS27_ hg28 (fun k hk => (World.ownsRow.lt ho27 k hk).1)
            have hE28 := own_kept hE27 hg28 hneE26
            have hneE28 := own_ne hob28 hneE26 (lt_of_block hE27)
            refine wp_append (.tmp 54) (.tmp 55) 30 rfl _ _ v28 Q28 rfl rfl hr28 ?_
            refine hK _ _ ⟨hS28_, ?_⟩
            clear hK K
            try simp only [List.getElem_toArray, List.getElem_cons_zero, List.getElem_cons_succ, Act.put, List.setIfInBounds_toArray, List.set_cons_zero, List.set_cons_succ]
            refine wpAnyH_all (show Region.ready .any _ _ = [13] by kernel_rfl) (by simp) fun x hx => ?_
            obtain rfl : x = 13 := by simpa using hx
            clear hx
            refine wpOp_one 13 _ rfl (by kernel_rfl) fun K hK => ?_
            obtain ⟨v29, Q29, hr29, ho29, hg29, hob29⟩ := append_one ho28 30 (Q16.heap.size) 1 T (unhide HGT) hE28 (by have := unhide HP; simp; omega) hS28_.size
            have hS29_ := grown_below hS28_ hg29 (fun k hk => (World.ownsRow.lt ho28 k hk).1)
            refine wp_append (.tmp 56) (.tmp 58) 30 rfl _ _ v29 Q29 rfl rfl hr29 ?_
            refine hK _ _ ⟨hS29_, ?_⟩
            clear hK K
            try simp only [List.getElem_toArray, List.getElem_cons_zero, List.getElem_cons_succ, Act.put, List.setIfInBounds_toArray, List.set_cons_zero, List.set_cons_succ]
            refine wpAnyH_all (show Region.ready .any _ _ = [14] by kernel_rfl) (by simp) fun x hx => ?_
            obtain rfl : x = 14 := by simpa using hx
            clear hx
            refine wpOp_one 14 _ rfl (by kernel_rfl) fun K hK => ?_
            obtain ⟨Aq, cq, hvq, hcq, hdq, _⟩ := own_form ho29 (fun x hx => by
              rcases List.mem_append.1 hx with h | h
              · exact (unhide HP).2.2.1 x (by simpa using h)
              · rw [List.mem_singleton.1 h]; exact unhide HGT)
            have hlq : (([] : List (List Int)) ++ p ++ [T]).length = lp + 1 := by have := unhide HP; simp; omega
            rw [hlq] at hvq hcq
            subst hvq
            go_simp
            have hgw := Grew_len U T n m _ Aq cq Q29 (unhide HGU) (unhide HGT) (unhide HNN).1 (unhide HNN).2.1 (by have := unhide HNN; omega) hdq (by rw [hlq]; exact hcq) (by have := unhide HP; rw [hlq]; omega) (by have := unhide HP; rw [hlq]; omega) ((unhide HTW).keep hS29_)
            rw [hlq, show dv U = .agg cu by rw [unhide HCU], show dv T = .agg ct by rw [unhide HCT]] at hgw
            refine hgw.mono ?_; rintro x Q30 ⟨rfl, hb30⟩
            dsimp only
            have hS30_ := thenB hS29_ hb30
            refine hK _ _ ⟨hS30_, ?_⟩
            clear hK K
            try simp only [List.getElem_toArray, List.getElem_cons_zero, List.getElem_cons_succ, Act.put, List.setIfInBounds_toArray, List.set_cons_zero, List.set_cons_succ]
            refine wpAnyH_chainOf [] _ _ _ (by kernel_rfl) (by kernel_rfl) ?_
            refine wpChain_nil ?_
            go_wp2_with fail
            go_meet
            exact ⟨rfl, thenB (unhide HW2) hS30_⟩
        · clear hx
          refine wpOp_one 12 _ rfl (by kernel_rfl) fun K hK => ?_
          go_simp
          rw [overwritten hst (by rfl)]
          generalize hX31 : W.alloc _ = Q31
          have hb31 : Below W.heap.size W Q31 := hX31 ▸ (Below.refl _ _).alloc (Nat.le_refl _) _
          have hE31 : ByAt Q31 W.heap.size 26 T := boxed W Q31 T _ (by rw [← hX31, unhide HCT]; rfl)
          have hS31_ := thenB hS0 hb31
          refine hK _ _ ⟨hS31_, ?_⟩
          clear hK K
          try simp only [List.getElem_toArray, List.getElem_cons_zero, List.getElem_cons_succ, Act.put, List.setIfInBounds_toArray, List.set_cons_zero, List.set_cons_succ]
          refine wpAnyH_all (show Region.ready .any _ _ = [3, 8] by kernel_rfl) (by simp) fun x hx => ?_
          rcases (by simpa using hx : x = 3 ∨ x = 8) with rfl | rfl
          · clear hx
            refine wpOp_one 3 _ rfl (by kernel_rfl) fun K hK => ?_
            go_simp
            refine ((unhide HTREE) Q31 (thenB (unhide HBW) hS31_)).mono ?_; rintro x Q32 ⟨rfl, hb32⟩
            dsimp only
            have hE32 := hE31.keep hb32
            have hS32_ := thenB hS31_ hb32
            refine hK _ _ ⟨hS32_, ?_⟩
            clear hK K
            try simp only [List.getElem_toArray, List.getElem_cons_zero, List.getElem_cons_succ, Act.put, List.setIfInBounds_toArray, List.set_cons_zero, List.set_cons_succ]
            refine wpAnyH_all (show Region.ready .any _ _ = [8] by kernel_rfl) (by simp) fun x hx => ?_
            obtain rfl : x = 8 := by simpa using hx
            clear hx
            refine wpOp_one 8 _ rfl (by kernel_rfl) fun K hK => ?_
            go_simp
            generalize hX33 : Q32.alloc _ = Q33
            have hb33 : Below Q32.heap.size Q32 Q33 := hX33 ▸ (Below.refl _ _).alloc (Nat.le_refl _) _
            have hE33 := hE32.keep hb33
            have ho33 : OwnD Q33 W.heap.size (.slice (some ⟨Q32.heap.size, 0, none⟩) 0 0) [] := hX33 ▸ World.ownsRow_lit Q32 #[] 0 hS32_.size (Nat.zero_le _) rfl
            have hS33_ := thenB hS32_ hb33
            have hneE33 : ∀ k, (Value.slice (some ⟨Q32.heap.size, 0, none⟩) 0 0).ownBlock = some k → k ≠ W.heap.size := fun k hk => by have := lt_of_block hE32; have e : Q32.heap.size = k := (by simpa [Value.ownBlock] using hk); omega
            refine hK _ _ ⟨hS33_, ?_⟩
            clear hK K
            try simp only [List.getElem_toArray, List.getElem_cons_zero, List.getElem_cons_succ, Act.put, List.setIfInBounds_toArray, List.set_cons_zero, List.set_cons_succ]
            refine wpAnyH_all (show Region.ready .any _ _ = [10] by kernel_rfl) (by simp) fun x hx => ?_
            obtain rfl : x = 10 := by simpa using hx
            clear hx
            refine wpOp_one 10 _ rfl (by kernel_rfl) fun K hK => ?_
            obtain ⟨v34, Q34, hr34, ho34, hg34, hob34⟩ := append_many ho33 30 Ap cp ((unhide HPW).keep hS33_) (unhide HNONE) (by have := unhide HP; simp; omega) hS33_.size
            rw [← (unhide HP).2.2.2.2.1] at hr34
            have hS34_ := grown_below hS33_ hg34 (fun k hk => (World.ownsRow.lt ho33 k hk).1)
            have hE34 := own_kept hE33 hg34 hneE33
            have hneE34 := own_ne hob34 hneE33 (lt_of_block hE33)
            refine wp_append (.tmp 54) (.tmp 55) 30 rfl _ _ v34 Q34 rfl rfl hr34 ?_
            refine hK _ _ ⟨hS34_, ?_⟩
            clear hK K
            try simp only [List.getElem_toArray, List.getElem_cons_zero, List.getElem_cons_succ, Act.put, List.setIfInBounds_toArray, List.set_cons_zero, List.set_cons_succ]
            refine wpAnyH_all (show Region.ready .any _ _ = [13] by kernel_rfl) (by simp) fun x hx => ?_
            obtain rfl : x = 13 := by simpa using hx
            clear hx
            refine wpOp_one 13 _ rfl (by kernel_rfl) fun K hK => ?_
            obtain ⟨v35, Q35, hr35, ho35, hg35, hob35⟩ := append_one ho34 30 (W.heap.size) 1 T (unhide HGT) hE34 (by have := unhide HP; simp; omega) hS34_.size
            have hS35_ := grown_below hS34_ hg35 (fun k hk => (World.ownsRow.lt ho34 k hk).1)
            refine wp_append (.tmp 56) (.tmp 58) 30 rfl _ _ v35 Q35 rfl rfl hr35 ?_
            refine hK _ _ ⟨hS35_, ?_⟩
            clear hK K
            try simp only [List.getElem_toArray, List.getElem_cons_zero, List.getElem_cons_succ, Act.put, List.setIfInBounds_toArray, List.set_cons_zero, List.set_cons_succ]
            refine wpAnyH_all (show Region.ready .any _ _ = [14] by kernel_rfl) (by simp) fun x hx => ?_
            obtain rfl : x = 14 := by simpa using hx
            clear hx
            refine wpOp_one 14 _ rfl (by kernel_rfl) fun K hK => ?_
            obtain ⟨Aq, cq, hvq, hcq, hdq, _⟩ := own_form ho35 (fun x hx => by
              rcases List.mem_append.1 hx with h | h
              · exact (unhide HP).2.2.1 x (by simpa using h)
              · rw [List.mem_singleton.1 h]; exact unhide HGT)
            have hlq : (([] : List (List Int)) ++ p ++ [T]).length = lp + 1 := by have := unhide HP; simp; omega
            rw [hlq] at hvq hcq
            subst hvq
            go_simp
            have hgw := Grew_len U T n m _ Aq cq Q35 (unhide HGU) (unhide HGT) (unhide HNN).1 (unhide HNN).2.1 (by have := unhide HNN; omega) hdq (by rw [hlq]; exact hcq) (by have := unhide HP; rw [hlq]; omega) (by have := unhide HP; rw [hlq]; omega) ((unhide HTW).keep hS35_)
            rw [hlq, show dv U = .agg cu by rw [unhide HCU], show dv T = .agg ct by rw [unhide HCT]] at hgw
            refine hgw.mono ?_; rintro x Q36 ⟨rfl, hb36⟩
            dsimp only
            have hS36_ := thenB hS35_ hb36
            refine hK _ _ ⟨hS36_, ?_⟩
            clear hK K
            try simp only [List.getElem_toArray, List.getElem_cons_zero, List.getElem_cons_succ, Act.put, List.setIfInBounds_toArray, List.set_cons_zero, List.set_cons_succ]
            refine wpAnyH_chainOf [] _ _ _ (by kernel_rfl) (by kernel_rfl) ?_
            refine wpChain_nil ?_
            go_wp2_with fail
            go_meet
            exact ⟨rfl, thenB (unhide HW2) hS36_⟩
          · clear hx
            refine wpOp_one 8 _ rfl (by kernel_rfl) fun K hK => ?_
            go_simp
            generalize hX37 : Q31.alloc _ = Q37
            have hb37 : Below Q31.heap.size Q31 Q37 := hX37 ▸ (Below.refl _ _).alloc (Nat.le_refl _) _
            have hE37 := hE31.keep hb37
            have ho37 : OwnD Q37 W.heap.size (.slice (some ⟨Q31.heap.size, 0, none⟩) 0 0) [] := hX37 ▸ World.ownsRow_lit Q31 #[] 0 hS31_.size (Nat.zero_le _) rfl
            have hS37_ := thenB hS31_ hb37
            have hneE37 : ∀ k, (Value.slice (some ⟨Q31.heap.size, 0, none⟩) 0 0).ownBlock = some k → k ≠ W.heap.size := fun k hk => by have := lt_of_block hE31; have e : Q31.heap.size = k := (by simpa [Value.ownBlock] using hk); omega
            refine hK _ _ ⟨hS37_, ?_⟩
            clear hK K
            try simp only [List.getElem_toArray, List.getElem_cons_zero, List.getElem_cons_succ, Act.put, List.setIfInBounds_toArray, List.set_cons_zero, List.set_cons_succ]
            refine wpAnyH_all (show Region.ready .any _ _ = [3] by kernel_rfl) (by simp) fun x hx => ?_
            obtain rfl : x = 3 := by simpa using hx
            clear hx
            refine wpOp_one 3 _ rfl (by kernel_rfl) fun K hK => ?_
            go_simp
            refine ((unhide HTREE) Q37 (thenB (unhide HBW) hS37_)).mono ?_; rintro x Q38 ⟨rfl, hb38⟩
            dsimp only
            have hE38 := hE37.keep hb38
            have ho38 := OwnD.later ho37 hb38
            have hS38_ := thenB hS37_ hb38
            refine hK _ _ ⟨hS38_, ?_⟩
            clear hK K
            try simp only [List.getElem_toArray, List.getElem_cons_zero, List.getElem_cons_succ, Act.put, List.setIfInBounds_toArray, List.set_cons_zero, List.set_cons_succ]
            refine wpAnyH_all (show Region.ready .any _ _ = [10] by kernel_rfl) (by simp) fun x hx => ?_
            obtain rfl : x = 10 := by simpa using hx
            clear hx
            refine wpOp_one 10 _ rfl (by kernel_rfl) fun K hK => ?_
            obtain ⟨v39, Q39, hr39, ho39, hg39, hob39⟩ := append_many ho38 30 Ap cp ((unhide HPW).keep hS38_) (unhide HNONE) (by have := unhide HP; simp; omega) hS38_.size
            rw [← (unhide HP).2.2.2.2.1] at hr39
            have hS39_ := grown_below hS38_ hg39 (fun k hk => (World.ownsRow.lt ho38 k hk).1)
            have hE39 := own_kept hE38 hg39 hneE37
            have hneE39 := own_ne hob39 hneE37 (lt_of_block hE38)
            refine wp_append (.tmp 54) (.tmp 55) 30 rfl _ _ v39 Q39 rfl rfl hr39 ?_
            refine hK _ _ ⟨hS39_, ?_⟩
            clear hK K
            try simp only [List.getElem_toArray, List.getElem_cons_zero, List.getElem_cons_succ, Act.put, List.setIfInBounds_toArray, List.set_cons_zero, List.set_cons_succ]
            refine wpAnyH_all (show Region.ready .any _ _ = [13] by kernel_rfl) (by simp) fun x hx => ?_
            obtain rfl : x = 13 := by simpa using hx
            clear hx
            refine wpOp_one 13 _ rfl (by kernel_rfl) fun K hK => ?_
            obtain ⟨v40, Q40, hr40, ho40, hg40, hob40⟩ := append_one ho39 30 (W.heap.size) 1 T (unhide HGT) hE39 (by have := unhide HP; simp; omega) hS39_.size
            have hS40_ := grown_below hS39_ hg40 (fun k hk => (World.ownsRow.lt ho39 k hk).1)
            refine wp_append (.tmp 56) (.tmp 58) 30 rfl _ _ v40 Q40 rfl rfl hr40 ?_
            refine hK _ _ ⟨hS40_, ?_⟩
            clear hK K
            try simp only [List.getElem_toArray, List.getElem_cons_zero, List.getElem_cons_succ, Act.put, List.setIfInBounds_toArray, List.set_cons_zero, List.set_cons_succ]
            refine wpAnyH_all (show Region.ready .any _ _ = [14] by kernel_rfl) (by simp) fun x hx => ?_
            obtain rfl : x = 14 := by simpa using hx
            clear hx
            refine wpOp_one 14 _ rfl (by kernel_rfl) fun K hK => ?_
            obtain ⟨Aq, cq, hvq, hcq, hdq, _⟩ := own_form ho40 (fun x hx => by
              rcases List.mem_append.1 hx with h | h
              · exact (unhide HP).2.2.1 x (by simpa using h)
              · rw [List.mem_singleton.1 h]; exact unhide HGT)
            have hlq : (([] : List (List Int)) ++ p ++ [T]).length = lp + 1 := by have := unhide HP; simp; omega
            rw [hlq] at hvq hcq
            subst hvq
            go_simp
            have hgw := Grew_len U T n m _ Aq cq Q40 (unhide HGU) (unhide HGT) (unhide HNN).1 (unhide HNN).2.1 (by have := unhide HNN; omega) hdq (by rw [hlq]; exact hcq) (by have := unhide HP; rw [hlq]; omega) (by have := unhide HP; rw [hlq]; omega) ((unhide HTW).keep hS40_)
            rw [hlq, show dv U = .agg cu by rw [unhide HCU], show dv T = .agg ct by rw [unhide HCT]] at hgw
            refine hgw.mono ?_; rintro x Q41 ⟨rfl, hb41⟩
            dsimp only
            have hS41_ := thenB hS40_ hb41
            refine hK _ _ ⟨hS41_, ?_⟩
            clear hK K
            try simp only [List.getElem_toArray, List.getElem_cons_zero, List.getElem_cons_succ, Act.put, List.setIfInBounds_toArray, List.set_cons_zero, List.set_cons_succ]
            refine wpAnyH_chainOf [] _ _ _ (by kernel_rfl) (by kernel_rfl) ?_
            refine wpChain_nil ?_
            go_wp2_with fail
            go_meet
            exact ⟨rfl, thenB (unhide HW2) hS41_⟩
      case rest =>
        obtain ⟨rfl, hbw⟩ := hcut
        have HB12 := hide (thenB (unhide HB8) hbw)
        clear hbw HB8 HDP8
        go_wp2_with fail
        go_roundg g
        case measure => omega
        case rel => exact ⟨n + 1, rfl, Nat.le_add_left _ _, by have := unhide HNN; omega, unhide HB12⟩
    · have i1 : ¬ (n : Int) ≤ (m : Int) := by omega
      clear hng hnm hn1 hbel
      go_wp2_with fail
      go_ret
      exact ⟨rfl, thenB (unhide HBW5) (unhide HBE)⟩
end Go.Proofs.YtbccempafjpcdaaDoor
