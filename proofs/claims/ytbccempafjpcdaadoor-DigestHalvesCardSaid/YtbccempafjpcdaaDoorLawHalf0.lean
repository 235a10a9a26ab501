/- The law DigestHalves: the digest of a list is that of the node of its halves. -/
import Derived.Test.YtbccempafjpcdaaDoorDigHlf
import Derived.Test.YtbccempafjpcdaaDoorDigTwo
import Derived.Test.YtbccempafjpcdaaDoorDigTag
import Derived.Test.YtbccempafjpcdaaDoorClose
import Derived.Deep.DeepCutAuto
namespace Go.Proofs.YtbccempafjpcdaaDoor
set_option linter.unusedSimpArgs false
set_option linter.unusedVariables false
open Go.RowKit Go.LawClose

set_option maxRecDepth 100000 in
set_option maxHeartbeats 1000000 in
theorem halves_0 (A : Option Addr) (c : Nat) (l : List Int) (w : World) (hA : Bt w A l) (hc : l.length ≤ c) (h63 : l.length ≤ 140737488351232) (hT : DTab w) (hcase : (dsP l).length = 0) :
    Calls Tryd.prog 9 #[.slice A l.length c] w (LawOk w) := by
  have HT := hide hT
  have HA := hide hA
  have HC : Hid (l.length ≤ c ∧ l.length ≤ 140737488351232) := ⟨hc, h63⟩
  have HCASE := hide hcase
  clear hT hA hc h63 hcase
  go_enter Tryd.func9, Tryd.ntmps9
  go_wp2_with fail
  refine (sane_any w (unhide HT)).mono ?_; rintro x W1 ⟨rfl, hB1⟩
  have HB1 := hide hB1
  clear hB1
  go_wp2_with fail
  refine (of_any A c l W1 ((unhide HA).keep (unhide HB1)) (unhide HC).1 (unhide HC).2).mono ?_; rintro x W2 ⟨⟨v, rfl, hown⟩, hB2⟩
  obtain ⟨AL, cL, rfl, hcL, hds⟩ := hown.ds (dg_dsP l)
  have h24 : (dsP l).length ≤ 24 := by rw [dsP_length]; exact Nat.min_le_right _ _
  obtain ⟨L, hL⟩ : ∃ L, L = dsP l := ⟨_, rfl⟩
  rw [← hL] at hds hcL h24 ⊢
  obtain ⟨n, hn⟩ : ∃ n, n = L.length := ⟨_, rfl⟩
  rw [← hn]
  have HB2 := hide (thenB (unhide HB1) hB2)
  have HDS := hide hds
  have HN : Hid (n = L.length ∧ n ≤ cL ∧ n ≤ 24) := ⟨hn, by omega, by omega⟩
  have HTT := hide ((unhide HT).keep (unhide HB2))
  have HL := hide hL
  clear hown hL hcL hds h24 hB2 HB1 HA HC hn
  have hTree : Hid (∀ (A : Option Addr) (c : Nat) (p : List (List Int)) (W : World), Ds W2 A p → p.length ≤ c → p.length ≤ 24 → Below W2.heap.size W2 W → Calls Tryd.prog 16 #[.slice A p.length c] W fun x w' => x = .returned (dv (treeD p)) ∧ Below W.heap.size W w') := fun A c p W h1 h2 h3 h4 => Tree_any W c A p (h1.keep h4) h2 (by omega) ((unhide HTT).keep h4)
  have h0 : n = 0 := by have h1 := unhide HL; have h2 := unhide HN; rw [h2.1, h1]; exact unhide HCASE
  have hL0 : L = [] := List.length_eq_zero_iff.1 (by rw [← (unhide HN).1]; exact h0)
  have htr := (unhide hTree) AL cL L W2 (unhide HDS) (by have := unhide HN; omega) (by have := unhide HN; omega) (Below.refl _ _)
  rw [← (unhide HN).1, h0, hL0, show treeD [] = emptyP from if_pos rfl] at htr
  subst h0
  obtain ⟨E, hE⟩ : ∃ E, E = emptyP := ⟨_, rfl⟩
  have hgE : Dg E := hE ▸ dg_hash _
  rw [← hE] at htr
  obtain ⟨ct, hct⟩ : ∃ cs, cs = (E.map (Value.int .u8)).toArray := ⟨_, rfl⟩
  rw [show dv E = .agg ct by rw [hct]] at htr
  have hst : ct.size = 32 := by rw [hct]; simpa using hgE.len
  have HE := hide hE
  have HGE := hide hgE
  have HCT := hide hct
  clear hct hL0 hE hgE
  go_wp2_with fail
  refine htr.mono ?_; rintro x W3 ⟨rfl, hB3⟩
  have HB3 := hide (thenB (unhide HB2) hB3)
  clear hB3 htr
  go_wp2_with fail
  have htg := tagged_any W3 ⟨#[101, 109, 112, 116, 121]⟩ none 0 [] Bt.nil (Nat.le_refl _) ((unhide HT).keep (unhide HB3))
  rw [sb_empty, show tagF [101, 109, 112, 116, 121] [] = E from (unhide HE).symm, show dv E = .agg ct by rw [unhide HCT]] at htg
  refine htg.mono ?_; rintro x W4 ⟨rfl, hB4⟩
  have HB4 := hide (thenB (unhide HB3) hB4)
  clear hB4 htg
  dsimp only
  rename_i KK hK
  refine hK _ _ ?_
  clear hK KK
  refine wpList_eql (by kernel_rfl) (.tmp 16) (.tmp 17) _ rfl E E (show Value.agg ct = _ by rw [unhide HCT]) (show Value.agg ct = _ by rw [unhide HCT]) (unhide HGE).len (unhide HGE).len ?_
  rw [show decide (E = E) = true from decide_eq_true rfl]
  try simp only [List.getElem_toArray, List.getElem_cons_zero, List.getElem_cons_succ, Act.put, List.setIfInBounds_toArray, List.set_cons_zero, List.set_cons_succ]
  go_wp2_with fail
  go_ret
  exact ⟨rfl, unhide HB4⟩
end Go.Proofs.YtbccempafjpcdaaDoor
