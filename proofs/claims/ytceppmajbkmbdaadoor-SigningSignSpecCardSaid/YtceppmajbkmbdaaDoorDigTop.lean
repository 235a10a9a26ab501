/- Contracts over the digest's program: Tree. -/
import Derived.Test.YtceppmajbkmbdaaDoorDigTree
namespace Go.Proofs.YtceppmajbkmbdaaDoor
set_option linter.unusedSimpArgs false
set_option linter.unusedVariables false
open Go.RowKit

def emptyP : List Int := tagF [101, 109, 112, 116, 121] []
def treeD (l : List (List Int)) : List Int := if l = [] then emptyP else treeP l
theorem dg_treeD (l : List (List Int)) : Dg (treeD l) := by
  unfold treeD
  split
  · exact dg_hash _
  · exact dg_tree _
theorem sb_empty : sb ⟨#[101, 109, 112, 116, 121]⟩ = [101, 109, 112, 116, 121] := by decide

set_option maxRecDepth 100000 in
set_option maxHeartbeats 4000000 in
theorem Tree_any (w : World) (c : Nat) (A : Option Addr) (l : List (List Int)) (hA : Ds w A l) (hc : l.length ≤ c) (h1000 : l.length ≤ 1099511627776) (hT : DTab w) :
    Calls Tryd.prog 15 #[.slice A l.length c] w fun x w' => x = .returned (dv (treeD l)) ∧ Below w.heap.size w w' := by
  have HT := hide hT
  have HA := hide hA
  have HC : Hid (l.length ≤ c ∧ l.length ≤ 1099511627776) := ⟨hc, h1000⟩
  by_cases he : l = []
  · subst he
    clear hA hc h1000 hT
    go_enter Tryd.func15, Tryd.ntmps15
    go_upto_region 1 with fail
    generalize hX1 : w.alloc _ = W1
    have hB1 : Below w.heap.size w W1 := hX1 ▸ (Below.refl _ _).alloc (Nat.le_refl _) _
    have HO1 := hide (newBy w W1 (by rw [← hX1]; rfl))
    have HB1 := hide hB1
    clear hX1 hB1
    go_wp2_with fail
    refine (tagged_any W1 ⟨#[101, 109, 112, 116, 121]⟩ none 0 [] Bt.nil (Nat.le_refl _) ((unhide HT).keep (unhide HB1))).mono ?_; rintro x W2 ⟨rfl, hB2⟩
    rw [sb_empty]
    have HB2 := hide (thenB (unhide HB1) hB2)
    have HO2 := hide ((unhide HO1).keep hB2)
    clear hB2
    dsimp only
    rename_i KK hK
    refine hK _ _ ?_
    clear hK KK
    refine wpList_bstore rfl 24 (.tmp 2) (.tmp 7) rfl w.heap.size rfl emptyP rfl 32 info32 (dg_hash _).len _ zeros (unhide HO2) rfl ?_
    intro W9 HW9 HG
    go_wp2_with fail
    try simp only [Exit.inBlock, Exit.then]
    exact bret rfl rfl w.heap.size rfl _ _ (unhide HW9) (dg_hash _).len ⟨rfl, (unhide HB2).grown (unhide HG) (unhide HB2).size (fun i e => by injection e with e; omega)⟩
  · have hne : ¬ (l.length : Int) = 0 := by have := List.length_pos_iff.2 he; omega
    have e1 : treeD l = treeP l := if_neg he
    rw [e1]
    obtain ⟨n, hn⟩ : ∃ n, n = l.length := ⟨_, rfl⟩
    rw [← hn] at hne ⊢
    have HN := hide hn
    clear hA hc h1000 hT e1 hn
    go_enter Tryd.func15, Tryd.ntmps15
    go_upto_region 1 with fail
    generalize hX1 : w.alloc _ = W1
    have hB1 : Below w.heap.size w W1 := hX1 ▸ (Below.refl _ _).alloc (Nat.le_refl _) _
    have HO1 := hide (newBy w W1 (by rw [← hX1]; rfl))
    have HB1 := hide hB1
    clear hX1 hB1
    go_wp2_with fail
    refine (newHasher_any W1 ((unhide HT).keep (unhide HB1))).mono ?_; rintro x W2 ⟨rfl, hB2⟩
    have HB2 := hide (thenB (unhide HB1) hB2)
    have HO2 := hide ((unhide HO1).keep hB2)
    obtain ⟨cs, hcs⟩ : ∃ cs, cs = ((LT ++ NT).map (Value.int .u8)).toArray := ⟨_, rfl⟩
    rw [show dv (LT ++ NT) = .agg cs by rw [hcs]]
    have HCS := hide hcs
    clear hB2 hcs HB1 HO1
    dsimp only
    rename_i KK hK
    refine hK _ _ ?_
    clear hK KK
    refine wpList_plain rfl fun Kt hKt => ?_
    go_simp
    refine hKt _ _ ?_
    clear hKt Kt
    generalize hX3 : W2.alloc _ = W3
    have hB3 : Below W2.heap.size W2 W3 := hX3 ▸ (Below.refl _ _).alloc (Nat.le_refl _) _
    have ho3 : ByAt W3 W2.heap.size 64 (List.replicate 64 0) := by
      rw [← hX3]
      show (W2.heap.push _)[W2.heap.size]? = _
      rw [Array.getElem?_push_size]
      rfl
    have HO3 := hide ho3
    have hO3 := (unhide HO2).keep hB3
    have hne2 : w.heap.size ≠ W2.heap.size := fun e => by have := lt_of_block (unhide HO2); omega
    have hB03 := thenB (unhide HB2) hB3
    have HB3 := hide hB03
    have HO3' := hide hO3
    have hsz : w.heap.size ≤ W2.heap.size := (unhide HB2).size
    have HNE : Hid (w.heap.size ≠ W2.heap.size ∧ w.heap.size ≤ W2.heap.size) := ⟨hne2, hsz⟩
    clear hX3 hB3 ho3 hO3 hne2 hB03 hsz HO2
    refine wpList_bstore rfl 64 (.tmp 3) (.tmp 8) rfl W2.heap.size rfl (LT ++ NT) (show Value.agg cs = _ by rw [unhide HCS]) 64 info64 (by simp [LT_length, NT_length]) _ (List.replicate 64 0) (unhide HO3) rfl ?_
    intro W4 HW4 HG4
    have HB4 := hide ((unhide HB3).grown (unhide HG4) (unhide HB3).size (fun i e => by injection e with e; have := (unhide HNE).2; omega))
    have HO4 := hide ((unhide HO3').grown (unhide HG4) (unhide HNE).1)
    clear HG4 HO3 HO3' HB3
    go_wp2_with fail
    rw [unhide HN]
    refine (tree_any l (unhide HC).2 he W4 W2.heap.size c A ((unhide HA).keep (unhide HB4)) (unhide HC).1 (unhide HW4) ((unhide HT).keep (unhide HB4))).mono ?_; rintro x W5 ⟨rfl, hB5⟩
    have HB5 := hide (thenB (unhide HB4) hB5)
    have HO5 := hide ((unhide HO4).keep hB5)
    clear hB5 HO4 HB4
    dsimp only
    rename_i KK hK
    refine hK _ _ ?_
    clear hK KK
    refine wpList_bstore rfl 24 (.tmp 2) (.tmp 10) rfl w.heap.size rfl (treeP l) rfl 32 info32 (dg_tree _).len _ zeros (unhide HO5) rfl ?_
    intro W9 HW9 HG
    go_wp2_with fail
    try simp only [Exit.inBlock, Exit.then]
    exact bret rfl rfl w.heap.size rfl _ _ (unhide HW9) (dg_tree _).len ⟨rfl, (unhide HB5).grown (unhide HG) (unhide HB5).size (fun i e => by injection e with e; omega)⟩
end Go.Proofs.YtceppmajbkmbdaaDoor
