/- The law DigestHalves: the digest of a list is that of the node of its halves. -/
import Derived.Test.YtbccempafjpcdaaDoorDigHlf
import Derived.Test.YtbccempafjpcdaaDoorDigTwo
import Derived.Test.YtbccempafjpcdaaDoorDigTag
import Derived.Test.YtbccempafjpcdaaDoorClose
import Derived.Deep.DeepCutAuto
namespace Go.Proofs.YtbccempafjpcdaaDoor
set_option linter.unusedSimpArgs false
set_option linter.unusedVariables false
open Go.RowKit Go.LawClose

set_option maxRecDepth 100000 in
set_option maxHeartbeats 1000000 in
theorem halves_1 (A : Option Addr) (c : Nat) (l : List Int) (w : World) (hA : Bt w A l) (hc : l.length ≤ c) (h63 : l.length ≤ 140737488351232) (hT : DTab w) (hcase : (dsP l).length = 1) :
    Calls Tryd.prog 9 #[.slice A l.length c] w (LawOk w) := by
  have HT := hide hT
  have HA := hide hA
  have HC : Hid (l.length ≤ c ∧ l.length ≤ 140737488351232) := ⟨hc, h63⟩
  have HCASE := hide hcase
  clear hT hA hc h63 hcase
  go_enter Tryd.func9, Tryd.ntmps9
  go_wp2_with fail
  refine (sane_any w (unhide HT)).mono ?_; rintro x W1 ⟨rfl, hB1⟩
  have HB1 := hide hB1
  clear hB1
  go_wp2_with fail
  refine (of_any A c l W1 ((unhide HA).keep (unhide HB1)) (unhide HC).1 (unhide HC).2).mono ?_; rintro x W2 ⟨⟨v, rfl, hown⟩, hB2⟩
  obtain ⟨AL, cL, rfl, hcL, hds⟩ := hown.ds (dg_dsP l)
  have h24 : (dsP l).length ≤ 24 := by rw [dsP_length]; exact Nat.min_le_right _ _
  obtain ⟨L, hL⟩ : ∃ L, L = dsP l := ⟨_, rfl⟩
  rw [← hL] at hds hcL h24 ⊢
  obtain ⟨n, hn⟩ : ∃ n, n = L.length := ⟨_, rfl⟩
  rw [← hn]
  have HB2 := hide (thenB (unhide HB1) hB2)
  have HDS := hide hds
  have HN : Hid (n = L.length ∧ n ≤ cL ∧ n ≤ 24) := ⟨hn, by omega, by omega⟩
  have HTT := hide ((unhide HT).keep (unhide HB2))
  have HL := hide hL
  clear hown hL hcL hds h24 hB2 HB1 HA HC hn
  have hTree : Hid (∀ (A : Option Addr) (c : Nat) (p : List (List Int)) (W : World), Ds W2 A p → p.length ≤ c → p.length ≤ 24 → Below W2.heap.size W2 W → Calls Tryd.prog 16 #[.slice A p.length c] W fun x w' => x = .returned (dv (treeD p)) ∧ Below W.heap.size W w') := fun A c p W h1 h2 h3 h4 => Tree_any W c A p (h1.keep h4) h2 (by omega) ((unhide HTT).keep h4)
  have h1 : n = 1 := by have h1 := unhide HL; have h2 := unhide HN; rw [h2.1, h1]; exact unhide HCASE
  obtain ⟨d, hL1⟩ : ∃ d, L = [d] := List.length_eq_one_iff.1 (by rw [← (unhide HN).1]; exact h1)
  have htr := fun W hW => (unhide hTree) AL cL L W (unhide HDS) (by have := unhide HN; omega) (by have := unhide HN; omega) hW
  rw [← (unhide HN).1, h1, hL1, show treeD [d] = leafP d by rw [treeD, if_neg (by simp), treeP_one]] at htr
  have hgd : Dg d := (unhide HDS).dg d (by rw [hL1]; exact List.mem_singleton.2 rfl)
  obtain ⟨b, o, rfl, hrg⟩ := (unhide HDS).at_ (by rw [hL1]; simp)
  have hr0 := hrg 0 d (by rw [hL1]; rfl)
  rw [Nat.zero_mul, Nat.add_zero] at hr0
  have hbt : Bt W2 (some ⟨b, o, none⟩) d := ⟨hgd.byt, fun _ => ⟨b, o, rfl, fun j hj => by
    rw [hr0 j (.int .u8 (d.getD j 0)) (by rw [List.getElem?_map, List.getD_eq_getElem?_getD, List.getElem?_eq_getElem hj]; rfl)]⟩⟩
  have HBT := hide hbt
  have HLD : Hid (d.length = 32) := hgd.len
  have hcc : (1 : Int) ≤ (cL : Int) := by have := unhide HN; omega
  subst h1
  obtain ⟨E, hE⟩ : ∃ E, E = leafP d := ⟨_, rfl⟩
  have hgE : Dg E := hE ▸ dg_hash _
  rw [← hE] at htr
  obtain ⟨ct, hct⟩ : ∃ cs, cs = (E.map (Value.int .u8)).toArray := ⟨_, rfl⟩
  rw [show dv E = .agg ct by rw [hct]] at htr
  have hst : ct.size = 32 := by rw [hct]; simpa using hgE.len
  have HE := hide hE
  have HGE := hide hgE
  have HCT := hide hct
  have HTR := hide htr
  clear hct hL1 hE hgE htr hrg hr0 hbt hgd
  go_wp2_with fail
  obtain ⟨W, hW⟩ : ∃ W, W = W2.drewN 1 := ⟨_, rfl⟩
  have HW : Hid (W = W2.drewN 1) := hW
  have HBW := hide (thenB (unhide HB2) (below_named HW))
  have HW2 := hide (below_named HW)
  have hSW : Below W.heap.size W W := Below.refl _ _
  clear hW
  refine held (S := Below W.heap.size W) W HW (by kernel_rfl) ?_
  refine wpAnyH_take (i := 0) (v := ?_) rfl (by kernel_rfl) (by kernel_rfl) (by kernel_rfl) (fun _ _ _ h => h) (Or.inl ⟨by kernel_rfl, ?_⟩) (by assumption) ?_
  rotate_left
  · intro Wt hSt
    go_simp
    try with_reducible rfl
  try simp only [List.getElem_toArray, List.getElem_cons_zero, List.getElem_cons_succ, Act.put, List.setIfInBounds_toArray, List.set_cons_zero, List.set_cons_succ]
  refine wpAnyH_take (i := 2) (v := ?_) rfl (by kernel_rfl) (by kernel_rfl) (by kernel_rfl) (fun _ _ _ h => h) (Or.inl ⟨by kernel_rfl, ?_⟩) (by assumption) ?_
  rotate_left
  · intro Wt hSt
    go_simp
    try with_reducible rfl
  try simp only [List.getElem_toArray, List.getElem_cons_zero, List.getElem_cons_succ, Act.put, List.setIfInBounds_toArray, List.set_cons_zero, List.set_cons_succ]
  refine wpAnyH_take (i := 3) (v := ?_) rfl (by kernel_rfl) (by kernel_rfl) (by kernel_rfl) (fun _ _ _ h => h) (Or.inl ⟨by kernel_rfl, ?_⟩) (by assumption) ?_
  rotate_left
  · intro Wt hSt
    go_simp
    try with_reducible rfl
  try simp only [List.getElem_toArray, List.getElem_cons_zero, List.getElem_cons_succ, Act.put, List.setIfInBounds_toArray, List.set_cons_zero, List.set_cons_succ]
  refine wpAnyH_take (i := 4) (v := ?_) rfl (by kernel_rfl) (by kernel_rfl) (by kernel_rfl) (fun _ _ _ h => h) (Or.inl ⟨by kernel_rfl, ?_⟩) (by assumption) ?_
  rotate_left
  · intro Wt hSt
    go_simp
    try with_reducible rfl
  try simp only [List.getElem_toArray, List.getElem_cons_zero, List.getElem_cons_succ, Act.put, List.setIfInBounds_toArray, List.set_cons_zero, List.set_cons_succ]
  refine wpAnyH_one 1 _ rfl (by kernel_rfl) (by kernel_rfl) ?_
  intro K hK
  go_simp
  refine ((unhide HTR) W (unhide HW2)).mono ?_; rintro x V1 ⟨rfl, hb1⟩
  have hS1 := thenB hSW hb1
  clear hb1
  dsimp only
  refine hK _ _ hS1 ?_
  clear hK K
  try simp only [List.getElem_toArray, List.getElem_cons_zero, List.getElem_cons_succ, Act.put, List.setIfInBounds_toArray, List.set_cons_zero, List.set_cons_succ]
  refine wpAnyH_one 5 _ rfl (by kernel_rfl) (by kernel_rfl) ?_
  intro K hK
  go_simp
  have htg := tagged_any V1 ⟨#[108, 101, 97, 102]⟩ (some ⟨b, o, none⟩) 32 d ((unhide HBT).keep (thenB (unhide HW2) hS1)) (Nat.le_of_eq (unhide HLD)) ((unhide HT).keep (thenB (unhide HBW) hS1))
  rw [sb_leaf, tag_leaf, unhide HLD, ← unhide HE, show dv E = .agg ct by rw [unhide HCT]] at htg
  refine htg.mono ?_; rintro x V2 ⟨rfl, hb2⟩
  have hS2 := thenB hS1 hb2
  clear hb2 htg hS1
  dsimp only
  refine hK _ _ hS2 ?_
  clear hK K
  try simp only [List.getElem_toArray, List.getElem_cons_zero, List.getElem_cons_succ, Act.put, List.setIfInBounds_toArray, List.set_cons_zero, List.set_cons_succ]
  refine wpAnyH_one 6 _ rfl (by kernel_rfl) (by kernel_rfl) ?_
  intro K hK
  refine wp_eql (.tmp 22) (.tmp 26) _ rfl E E (show Value.agg ct = _ by rw [unhide HCT]) (show Value.agg ct = _ by rw [unhide HCT]) (unhide HGE).len (unhide HGE).len ?_
  rw [show decide (E = E) = true from decide_eq_true rfl]
  refine hK _ _ hS2 ?_
  clear hK K
  try simp only [List.getElem_toArray, List.getElem_cons_zero, List.getElem_cons_succ, Act.put, List.setIfInBounds_toArray, List.set_cons_zero, List.set_cons_succ]
  refine wpAnyH_one 7 _ rfl (by kernel_rfl) (by kernel_rfl) ?_
  intro K hK
  go_simp
  refine hK _ _ hS2 ?_
  clear hK K
  try simp only [List.getElem_toArray, List.getElem_cons_zero, List.getElem_cons_succ, Act.put, List.setIfInBounds_toArray, List.set_cons_zero, List.set_cons_succ]
  refine wpAnyH_chainOf [] _ _ _ (by kernel_rfl) (by kernel_rfl) ?_
  refine wpChain_nil ?_
  have HEND := hide (thenB (unhide HBW) hS2)
  clear hS2 hSW
  go_wp2_with fail
  go_ret
  exact ⟨rfl, unhide HEND⟩
end Go.Proofs.YtbccempafjpcdaaDoor
