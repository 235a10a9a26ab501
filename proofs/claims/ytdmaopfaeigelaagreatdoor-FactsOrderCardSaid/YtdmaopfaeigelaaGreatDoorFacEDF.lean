/- Contracts over the program of facts: the values of texts, truths, numbers and games. Contracts over the program of facts: games as values; what has been yielded; the elements of lots. -/
import Derived.Test.YtdmaopfaeigelaaGreatDoorFacEAB
import Derived.Test.YtdmaopfaeigelaaGreatDoorFacYR
import Derived.Laws.MakeOwn
namespace Go.Proofs.YtdmaopfaeigelaaGreatDoor
set_option linter.unusedSimpArgs false
set_option linter.unusedVariables false
set_option maxRecDepth 100000
open Go.RowKit

def textL (s : ByteArray) : List Value := [.int .i64 2, .int .i64 0, .string s, .slice none 0 0, .slice none 0 0]
theorem textL_one (s : ByteArray) : ∀ v ∈ textL s, v.oneCell' = true := by
  intro v hv
  simp only [textL, List.mem_cons, List.not_mem_nil, or_false] at hv
  rcases hv with rfl | rfl | rfl | rfl | rfl <;> rfl
/-- a row of the call's own as a list's cells -/
def NumsIs (w : World) (l : List Int) (e : Ending) (w' : World) : Prop :=
  ∃ v, e = .returned (.agg (listL v).toArray) ∧ w'.ownsRow w.heap.size 66 5 v l.length (rawCells (l.map numV)) ∧ Below w.heap.size w w'
theorem ftext_any (s : ByteArray) (w : World) : Calls Tryz.prog 155 #[.string s] w fun x w' => x = .returned (.agg (textL s).toArray) ∧ Below w.heap.size w w' := by
  go_enter Tryz.func155, Tryz.ntmps155
  go_upto_region 1 with fail
  generalize hX1 : w.alloc _ = W1
  have hB1 : Below w.heap.size w W1 := hX1 ▸ (Below.refl _ _).alloc (Nat.le_refl _) _
  have hv1 := boxedV w W1 fzeroV 66 (by rw [← hX1]; rfl)
  clear hX1
  refine wp_region_lit ?_
  refine wpList_plain rfl fun Kt hKt => ?_
  go_simp
  refine hKt _ _ ?_
  clear hKt Kt
  try simp only [List.getElem_toArray, List.getElem_cons_zero, List.getElem_cons_succ, Act.put, List.setIfInBounds_toArray, List.set_cons_zero, List.set_cons_succ]
  refine wpList_build rfl 66 _ rfl (textL s).toArray (by kernel_rfl) ?_
  try simp only [List.getElem_toArray, List.getElem_cons_zero, List.getElem_cons_succ, Act.put, List.setIfInBounds_toArray, List.set_cons_zero, List.set_cons_succ]
  refine wpList_vput rfl 66 (.tmp 2) (.tmp 4) rfl w.heap.size 0 rfl (textL s) rfl infoVl (textL_one s) _ fzeroV hv1 (show 0 + 5 ≤ 5 by omega) ?_
  intro W9 HW9 HG
  rw [spliceV_all fzeroV (textL s) rfl] at HW9
  go_wp2_with fail
  try simp only [Exit.inBlock, Exit.then]
  exact vret rfl rfl w.heap.size rfl _ _ (unhide HW9) _ Tryz.underlying66 rfl infoVl ⟨rfl, hB1.grown (unhide HG) hB1.size (fun i e => by injection e with e; omega)⟩
theorem ftruth_any (b : Bool) (w : World) : Calls Tryz.prog 206 #[.bool b] w fun x w' => x = .returned (.agg (numL (if b then 1 else 0)).toArray) ∧ Below w.heap.size w w' := by
  obtain ⟨n, hn⟩ : ∃ n : Int, n = if b then 1 else 0 := ⟨_, rfl⟩
  rw [← hn]
  go_enter Tryz.func206, Tryz.ntmps206
  go_upto_region 1 with fail
  generalize hX1 : w.alloc _ = W1
  have hB1 : Below w.heap.size w W1 := hX1 ▸ (Below.refl _ _).alloc (Nat.le_refl _) _
  have hv1 := boxedV w W1 fzeroV 66 (by rw [← hX1]; rfl)
  have HB := hide hB1; have HV := hide hv1; have HNN := hide hn
  clear hX1 hB1 hv1 hn
  cases b
  case false =>
    obtain rfl : n = 0 := unhide HNN
    go_upto_region 3 with fail
    refine wp_region_lit ?_
    refine wpList_plain rfl fun Kt hKt => ?_
    go_simp
    refine (fnumber_any 0 W1).mono ?_; rintro e W2 ⟨rfl, hG⟩
    dsimp only
    refine hKt _ _ ?_
    clear hKt Kt
    try simp only [List.getElem_toArray, List.getElem_cons_zero, List.getElem_cons_succ, Act.put, List.setIfInBounds_toArray, List.set_cons_zero, List.set_cons_succ]
    refine wpList_vput rfl 66 (.tmp 2) (.tmp 5) rfl w.heap.size 0 rfl (numL 0) rfl infoVl (numL_one 0) _ fzeroV ((unhide HV).keep hG) (show 0 + 5 ≤ 5 by omega) ?_
    intro W9 HW9 HG
    rw [spliceV_all fzeroV (numL 0) rfl] at HW9
    have hB2 := thenB (unhide HB) hG
    go_wp2_with fail
    try simp only [Exit.inBlock, Exit.then]
    exact vret rfl rfl w.heap.size rfl _ _ (unhide HW9) _ Tryz.underlying66 rfl infoVl ⟨rfl, hB2.grown (unhide HG) hB2.size (fun i e => by injection e with e; omega)⟩
  obtain rfl : n = 1 := unhide HNN
  go_upto_region 2 with fail
  refine wp_region_lit ?_
  refine wpList_plain rfl fun Kt hKt => ?_
  go_simp
  refine (fnumber_any 1 W1).mono ?_; rintro e W2 ⟨rfl, hG⟩
  dsimp only
  refine hKt _ _ ?_
  clear hKt Kt
  try simp only [List.getElem_toArray, List.getElem_cons_zero, List.getElem_cons_succ, Act.put, List.setIfInBounds_toArray, List.set_cons_zero, List.set_cons_succ]
  refine wpList_vput rfl 66 (.tmp 2) (.tmp 4) rfl w.heap.size 0 rfl (numL 1) rfl infoVl (numL_one 1) _ fzeroV ((unhide HV).keep hG) (show 0 + 5 ≤ 5 by omega) ?_
  intro W9 HW9 HG
  rw [spliceV_all fzeroV (numL 1) rfl] at HW9
  have hB2 := thenB (unhide HB) hG
  go_wp2_with fail
  try simp only [Exit.inBlock, Exit.then]
  exact vret rfl rfl w.heap.size rfl _ _ (unhide HW9) _ Tryz.underlying66 rfl infoVl ⟨rfl, hB2.grown (unhide HG) hB2.size (fun i e => by injection e with e; omega)⟩
set_option maxHeartbeats 8000000 in
theorem fnumbers_any (A : Option Addr) (c : Nat) (l : List Int) (w : World) (hA : Sl w A l c) : Calls Tryz.prog 203 #[.slice A l.length c] w (NumsIs w l) := by
  obtain ⟨n, hn⟩ : ∃ n, n = l.length := ⟨_, rfl⟩
  rw [← hn]
  have HA := hide hA
  have HN : Hid (n = l.length ∧ n ≤ 1000) := ⟨hn, by have := hA.few; omega⟩
  have kc : (n : Int) ≤ (c : Int) := by have := hA.cap; omega
  clear hA hn
  obtain ⟨i0, hi, hz0, hz1, hz2⟩ := info_parts infoVv
  go_enter Tryz.func203, Tryz.ntmps203
  go_upto_region 1 with fail
  generalize hX1 : w.alloc _ = W1
  have hB1 : Below w.heap.size w W1 := hX1 ▸ (Below.refl _ _).alloc (Nat.le_refl _) _
  have hv1 := boxedV w W1 fzeroV 66 (by rw [← hX1]; rfl)
  have hz : W1.heap.size = w.heap.size + 1 := by rw [← hX1]; show (w.heap.push _).size = _; rw [Array.size_push]
  clear hX1
  obtain ⟨W2, hmk, hown, hgr⟩ := run_make_own (P := Tryz.prog) (w := W1) (w.heap.size + 1) 63 66 i0 (.agg fzeroV.toArray) 5 Tryz.underlying63 hi hz0 hz1 .i64 .i64 n (by rw [hz2]; have := (unhide HN).2; omega) (by unfold maxLen; have := (unhide HN).2; omega) (by omega)
  rw [hz] at hmk hown
  refine wp_region_lit ?_
  refine wpList_plain rfl fun Kt hKt => ?_
  go_simp
  refine hKt _ _ ?_
  clear hKt Kt
  try simp only [List.getElem_toArray, List.getElem_cons_zero, List.getElem_cons_succ, Act.put, List.setIfInBounds_toArray, List.set_cons_zero, List.set_cons_succ]
  refine wpList_plain rfl fun Kt hKt => ?_
  go_simp
  refine hKt _ _ ?_
  clear hKt Kt
  try simp only [List.getElem_toArray, List.getElem_cons_zero, List.getElem_cons_succ, Act.put, List.setIfInBounds_toArray, List.set_cons_zero, List.set_cons_succ]
  refine wpList_plain rfl fun Kt hKt => ?_
  go_simp
  refine hKt _ _ ?_
  clear hKt Kt
  try simp only [List.getElem_toArray, List.getElem_cons_zero, List.getElem_cons_succ, Act.put, List.setIfInBounds_toArray, List.set_cons_zero, List.set_cons_succ]
  refine wpList_build rfl 66 _ rfl (listL (.slice (some ⟨w.heap.size + 1, 0, none⟩) 0 n)).toArray (by kernel_rfl) ?_
  try simp only [List.getElem_toArray, List.getElem_cons_zero, List.getElem_cons_succ, Act.put, List.setIfInBounds_toArray, List.set_cons_zero, List.set_cons_succ]
  refine wpList_plain rfl fun Kt hKt => ?_
  go_simp
  generalize hX3 : W2.alloc _ = W3
  obtain ⟨N, hNN⟩ : ∃ N, N = W2.heap.size := ⟨_, rfl⟩
  have hB3 : Below W2.heap.size W2 W3 := hX3 ▸ (Below.refl _ _).alloc (Nat.le_refl _) _
  have hv3 := boxedV W2 W3 fzeroV 66 (by rw [← hX3]; rfl)
  rw [← hNN] at hv3 ⊢
  refine hKt _ _ ?_
  clear hKt Kt hX3 hmk
  try simp only [List.getElem_toArray, List.getElem_cons_zero, List.getElem_cons_succ, Act.put, List.setIfInBounds_toArray, List.set_cons_zero, List.set_cons_succ]
  have hgN := (hown.lt (w.heap.size + 1) rfl).2
  have hNl : w.heap.size + 1 < N := by rw [hNN]; exact hgN
  have hb12 : Below w.heap.size w W2 := hB1.grown hgr (by omega) (fun q e => by cases e)
  have hR2 : VsAt W2 w.heap.size 66 fzeroV := hv1.grown hgr (fun e => by cases e)
  have hr3 := own_below hown hB3
  have hR3 := hR2.keep hB3
  have hb13 := thenB hb12 hB3
  refine wpList_vput rfl 66 (.tmp 3) (.tmp 9) rfl N 0 rfl (listL (.slice (some ⟨w.heap.size + 1, 0, none⟩) 0 n)) rfl infoVl (listL_one rfl) _ fzeroV hv3 (show 0 + 5 ≤ 5 by omega) ?_
  intro W4 HX HG
  rw [spliceV_all fzeroV (listL (.slice (some ⟨w.heap.size + 1, 0, none⟩) 0 n)) rfl] at HX
  have HR := hide (hR3.grown (unhide HG) (fun e => by injection e with e; omega))
  have HO := hide (hr3.kept (unhide HG) (.inr (fun e => by injection e with e; have e : w.heap.size + 1 = N := e; omega)))
  have HB := hide (hb13.grown (unhide HG) hb13.size (fun i e => by injection e with e; omega))
  have HNL := hide hNl
  clear HG hb13 hR3 hr3 hR2 hb12 hgN hB3 hv3 hNN hown hgr hB1 hv1 hz hNl
  refine wpList_nil ?_
  go_wp2_with fail
  go_loopg [12] n (fun g y12 wx => ∃ (k : Nat) (v : Value), y12 = .int .i64 (k : Int) ∧ g + k = n ∧ VsAt wx N 66 (listL v) ∧ wx.ownsRow (w.heap.size + 1) 66 5 v k (rawCells ((l.take k).map numV)) ∧ v.ownBlock ≠ some N ∧ VsAt wx w.heap.size 66 fzeroV ∧ Below w.heap.size w wx)
  case atStart => exact ⟨0, _, rfl, by omega, unhide HX, unhide HO, fun e => by injection e with e; have e : w.heap.size + 1 = N := e; have := unhide HNL; omega, unhide HR, unhide HB⟩
  case round =>
    clear HX HO HR HB
    obtain ⟨k, vL, rfl, hk, hx, ho, hvN, hr, hb⟩ := hrel
    by_cases hkn : k < n
    · obtain ⟨g, rfl⟩ : ∃ g, gk = g + 1 := ⟨gk - 1, by omega⟩
      have i1 : (k : Int) < (n : Int) := by omega
      have i0' : (0 : Int) ≤ (k : Int) := Int.natCast_nonneg _
      have wk : IntKind.i64.wrap ((k : Int) + 1) = ((k + 1 : Nat) : Int) := (IntWalk.i64_in _ (by have := unhide HN; omega)).trans (by omega)
      obtain ⟨b, o, rfl, hc⟩ := ((unhide HA).it.keep hb).at_ (fun e => by have := unhide HN; rw [e] at this; simp at this; omega)
      have h1 := hc k (by have := unhide HN; omega)
      obtain ⟨x, hxx⟩ : ∃ x, x = l.getD k 0 := ⟨_, rfl⟩
      rw [← hxx] at h1
      have hsn : (l.take (k + 1)).map numV = (l.take k).map numV ++ [numV x] := by
        rw [hxx, List.take_succ_eq_append_getElem (by have := unhide HN; omega), List.map_append, List.getD_eq_getElem?_getD, List.getElem?_eq_getElem (by have := unhide HN; omega)]
        rfl
      have HX := hide (show rawCells ((l.take (k + 1)).map numV) = rawCells ((l.take k).map numV) ++ numL x by rw [hsn, rawCells_snoc]; rfl)
      have HK : Hid (k < n ∧ g + 1 + k = n) := ⟨hkn, hk⟩
      generalize rawCells ((l.take k).map numV) = xs at ho HX
      obtain ⟨A, cc, rfl⟩ := ownSlice' ho
      obtain ⟨Wd, hWd⟩ : ∃ Wd, Wd = wr.drewN 1 := ⟨_, rfl⟩
      have HWd : Hid (Wd = wr.drewN 1) := hWd
      have hbd : Below wr.heap.size wr Wd := below_named HWd
      have HF := hide (hx.keep hbd); have HO := hide (own_below ho hbd); have HR := hide (hr.keep hbd); have HB := hide (thenB hb hbd); have HVN := hide hvN
      clear hc hxx hkn hk hx ho hvN hr hb hWd hbd hsn
      go_upto_region 5 with fail
      clear h1
      have fin : ∀ (Q : Act → World → Prop) (W' : World) (a' : Act), True := fun _ _ _ => trivial
      clear fin
      refine held (S := fun _ => True) Wd HWd (by kernel_rfl) ?_
      have hS : True := trivial
      refine wpAnyH_take (i := 0) (v := ?_) rfl (by kernel_rfl) (by kernel_rfl) (by kernel_rfl) (fun _ _ _ h => h) (Or.inl ⟨by kernel_rfl, ?_⟩) (by assumption) ?_
      rotate_left
      · intro Wt hSt
        go_simp
        try with_reducible rfl
      try simp only [List.getElem_toArray, List.getElem_cons_zero, List.getElem_cons_succ, Act.put, List.setIfInBounds_toArray, List.set_cons_zero, List.set_cons_succ]
      refine wpAnyH_take (i := 2) (v := ?_) rfl (by kernel_rfl) (by kernel_rfl) (by kernel_rfl) (fun _ _ _ h => h) (Or.inl ⟨by kernel_rfl, ?_⟩) (by assumption) ?_
      rotate_left
      · intro Wt hSt
        go_simp
        try with_reducible rfl
      try simp only [List.getElem_toArray, List.getElem_cons_zero, List.getElem_cons_succ, Act.put, List.setIfInBounds_toArray, List.set_cons_zero, List.set_cons_succ]
      refine wpAnyH_two 1 3 _ _ rfl rfl (by kernel_rfl) (by kernel_rfl) (by kernel_rfl) ?_ ?_
      · intro Kt hK
        have hc3 := (unhide HF).cell (j := 3) (v := .slice A k cc) rfl
        go_simp
        refine hK _ _ trivial ?_
        clear hK Kt hc3
        try simp only [List.getElem_toArray, List.getElem_cons_zero, List.getElem_cons_succ, Act.put, List.setIfInBounds_toArray, List.set_cons_zero, List.set_cons_succ]
        refine wpAnyH_one 3 _ rfl (by kernel_rfl) (by kernel_rfl) ?_
        skip
        intro Kt hK
        go_simp
        refine (number_lit x Wd).mono ?_; rintro e Wc ⟨rfl, hG⟩
        dsimp only
        have HF := hide ((unhide HF).keep hG); have HO := hide (own_below (unhide HO) hG); have HR := hide ((unhide HR).keep hG); have HB := hide (thenB (unhide HB) hG)
        refine hK _ _ trivial ?_
        clear hK Kt hG
        try simp only [List.getElem_toArray, List.getElem_cons_zero, List.getElem_cons_succ, Act.put, List.setIfInBounds_toArray, List.set_cons_zero, List.set_cons_succ]
        refine wpAnyH_one 4 _ rfl (by kernel_rfl) (by kernel_rfl) ?_
        skip
        intro Kt hK
        go_simp
        generalize hXv : World.alloc _ _ = Wv
        have hG : Below Wc.heap.size Wc Wv := hXv ▸ (Below.refl _ _).alloc (Nat.le_refl _) _
        have HE := hide (boxedV Wc Wv (numL x) 66 (by rw [← hXv]; rfl))
        have hsz : Wv.heap.size = Wc.heap.size + 1 := by rw [← hXv]; show (Wc.heap.push _).size = _; rw [Array.size_push]
        have HF := hide ((unhide HF).keep hG); have HO := hide (own_below (unhide HO) hG); have HR := hide ((unhide HR).keep hG); have HB := hide (thenB (unhide HB) hG)
        refine hK _ _ trivial ?_
        clear hK Kt hXv hG
        try simp only [List.getElem_toArray, List.getElem_cons_zero, List.getElem_cons_succ, Act.put, List.setIfInBounds_toArray, List.set_cons_zero, List.set_cons_succ]
        refine wpAnyH_one 5 _ rfl (by kernel_rfl) (by kernel_rfl) ?_
        skip
        intro Kt hK
        obtain ⟨v', w1, hr, hown, hgr, hnil, hob⟩ := run_append_own_at (P := Tryz.prog) Wv (w.heap.size + 1) 63 63 66 i0 (.agg fzeroV.toArray) 5 80 Tryz.underlying63 hi hz0 hz1 hz2 rfl (by decide) (.slice A k cc) k xs (unhide HO) ⟨Wc.heap.size, 0, none⟩ 1 1 (numL x) rfl (fun j u hj => by rw [addr_at]; exact (unhide HE).cell hj) (numL_one x) (by unfold maxLen; have := unhide HN; have := unhide HK; omega) (by have := unhide HN; have := unhide HK; omega) (by have := lt_of_block (unhide HR); omega)
        obtain ⟨q, cap, rfl⟩ := ownsRow_succ hown
        refine wp_append (.tmp 17) (.tmp 20) 63 rfl (.slice A k cc) (.slice (some ⟨Wc.heap.size, 0, none⟩) 1 1) _ w1 rfl rfl hr ?_
        have hqN : q ≠ N := fun e => by
          rcases hob with h | h
          · exact (unhide HVN) (h.symm.trans (by rw [e]; rfl))
          · have h : q = Wv.heap.size := Option.some.inj h
            have := lt_of_block (unhide HF)
            omega
        have hX1 := (unhide HF).grown hgr (fun e => (unhide HVN) e)
        have hR1 := (unhide HR).grown hgr (fun e => by have := ((unhide HO).lt _ e).1; omega)
        have hB1 := (unhide HB).grown hgr (unhide HB).size (fun i e => by have := ((unhide HO).lt i e).1; omega)
        refine hK _ _ trivial ?_
        clear hK Kt hr
        try simp only [List.getElem_toArray, List.getElem_cons_zero, List.getElem_cons_succ, Act.put, List.setIfInBounds_toArray, List.set_cons_zero, List.set_cons_succ]
        refine wpAnyH_take (i := 6) (v := ?_) rfl (by kernel_rfl) (by kernel_rfl) (by kernel_rfl) (fun _ _ _ h => h) (Or.inl ⟨by kernel_rfl, ?_⟩) (by assumption) ?_
        rotate_left
        · intro Wt hSt
          go_simp
          try with_reducible rfl
        try simp only [List.getElem_toArray, List.getElem_cons_zero, List.getElem_cons_succ, Act.put, List.setIfInBounds_toArray, List.set_cons_zero, List.set_cons_succ]
        refine wpAnyH_one 7 _ rfl (by kernel_rfl) (by kernel_rfl) ?_
        skip
        intro Kt hK
        have hcX := hX1.cell (j := 3) (v := .slice A k cc) rfl
        have hfX := hX1.free 3
        go_simp
        have hg3 : w1.grownBy (w1.setCell ⟨N, 3, none⟩ (.slice (some ⟨q, 0, none⟩) (k + 1) cap)) (some N) := fgrownSetCells N [.slice (some ⟨q, 0, none⟩) (k + 1) cap] 3 w1
        have HX3 := hide (show VsAt (w1.setCell ⟨N, 3, none⟩ (.slice (some ⟨q, 0, none⟩) (k + 1) cap)) N 66 (listL (.slice (some ⟨q, 0, none⟩) (k + 1) cap)) from hX1.set 3 _)
        have HO3 := hide (hown.kept hg3 (.inr (fun e => hqN (Option.some.inj e))))
        have HR3 := hide (hR1.grown hg3 (fun e => by have := Option.some.inj e; have := unhide HNL; omega))
        have HB3 := hide (hB1.grown hg3 hB1.size (fun i e => by have := Option.some.inj e; have := unhide HNL; omega))
        refine hK _ _ trivial ?_
        clear hK Kt hcX hfX
        generalize w1.setCell ⟨N, 3, none⟩ (.slice (some ⟨q, 0, none⟩) (k + 1) cap) = w2 at *
        try simp only [List.getElem_toArray, List.getElem_cons_zero, List.getElem_cons_succ, Act.put, List.setIfInBounds_toArray, List.set_cons_zero, List.set_cons_succ]
        refine wpAnyH_chainOf [] _ _ _ (by kernel_rfl) (by kernel_rfl) ?_
        refine wpChain_nil ?_
        have HQN := hide hqN
        clear hg3 hB1 hR1 hX1 hqN hob hnil hgr hown
        go_wp2_with fail
        go_roundg g
        case measure => omega
        case rel => exact ⟨k + 1, _, rfl, by have := unhide HK; omega, unhide HX3, by rw [unhide HX]; exact unhide HO3, fun e => (unhide HQN) (Option.some.inj e), unhide HR3, unhide HB3⟩
      · intro Kt hK
        go_simp
        refine (number_lit x Wd).mono ?_; rintro e Wc ⟨rfl, hG⟩
        dsimp only
        have HF := hide ((unhide HF).keep hG); have HO := hide (own_below (unhide HO) hG); have HR := hide ((unhide HR).keep hG); have HB := hide (thenB (unhide HB) hG)
        refine hK _ _ trivial ?_
        clear hK Kt hG
        try simp only [List.getElem_toArray, List.getElem_cons_zero, List.getElem_cons_succ, Act.put, List.setIfInBounds_toArray, List.set_cons_zero, List.set_cons_succ]
        refine wpAnyH_two 1 4 _ _ rfl rfl (by kernel_rfl) (by kernel_rfl) (by kernel_rfl) ?_ ?_
        · intro Kt hK
          have hc3 := (unhide HF).cell (j := 3) (v := .slice A k cc) rfl
          go_simp
          refine hK _ _ trivial ?_
          clear hK Kt hc3
          try simp only [List.getElem_toArray, List.getElem_cons_zero, List.getElem_cons_succ, Act.put, List.setIfInBounds_toArray, List.set_cons_zero, List.set_cons_succ]
          refine wpAnyH_one 4 _ rfl (by kernel_rfl) (by kernel_rfl) ?_
          skip
          intro Kt hK
          go_simp
          generalize hXv : World.alloc _ _ = Wv
          have hG : Below Wc.heap.size Wc Wv := hXv ▸ (Below.refl _ _).alloc (Nat.le_refl _) _
          have HE := hide (boxedV Wc Wv (numL x) 66 (by rw [← hXv]; rfl))
          have hsz : Wv.heap.size = Wc.heap.size + 1 := by rw [← hXv]; show (Wc.heap.push _).size = _; rw [Array.size_push]
          have HF := hide ((unhide HF).keep hG); have HO := hide (own_below (unhide HO) hG); have HR := hide ((unhide HR).keep hG); have HB := hide (thenB (unhide HB) hG)
          refine hK _ _ trivial ?_
          clear hK Kt hXv hG
          try simp only [List.getElem_toArray, List.getElem_cons_zero, List.getElem_cons_succ, Act.put, List.setIfInBounds_toArray, List.set_cons_zero, List.set_cons_succ]
          refine wpAnyH_one 5 _ rfl (by kernel_rfl) (by kernel_rfl) ?_
          skip
          intro Kt hK
          obtain ⟨v', w1, hr, hown, hgr, hnil, hob⟩ := run_append_own_at (P := Tryz.prog) Wv (w.heap.size + 1) 63 63 66 i0 (.agg fzeroV.toArray) 5 80 Tryz.underlying63 hi hz0 hz1 hz2 rfl (by decide) (.slice A k cc) k xs (unhide HO) ⟨Wc.heap.size, 0, none⟩ 1 1 (numL x) rfl (fun j u hj => by rw [addr_at]; exact (unhide HE).cell hj) (numL_one x) (by unfold maxLen; have := unhide HN; have := unhide HK; omega) (by have := unhide HN; have := unhide HK; omega) (by have := lt_of_block (unhide HR); omega)
          obtain ⟨q, cap, rfl⟩ := ownsRow_succ hown
          refine wp_append (.tmp 17) (.tmp 20) 63 rfl (.slice A k cc) (.slice (some ⟨Wc.heap.size, 0, none⟩) 1 1) _ w1 rfl rfl hr ?_
          have hqN : q ≠ N := fun e => by
            rcases hob with h | h
            · exact (unhide HVN) (h.symm.trans (by rw [e]; rfl))
            · have h : q = Wv.heap.size := Option.some.inj h
              have := lt_of_block (unhide HF)
              omega
          have hX1 := (unhide HF).grown hgr (fun e => (unhide HVN) e)
          have hR1 := (unhide HR).grown hgr (fun e => by have := ((unhide HO).lt _ e).1; omega)
          have hB1 := (unhide HB).grown hgr (unhide HB).size (fun i e => by have := ((unhide HO).lt i e).1; omega)
          refine hK _ _ trivial ?_
          clear hK Kt hr
          try simp only [List.getElem_toArray, List.getElem_cons_zero, List.getElem_cons_succ, Act.put, List.setIfInBounds_toArray, List.set_cons_zero, List.set_cons_succ]
          refine wpAnyH_take (i := 6) (v := ?_) rfl (by kernel_rfl) (by kernel_rfl) (by kernel_rfl) (fun _ _ _ h => h) (Or.inl ⟨by kernel_rfl, ?_⟩) (by assumption) ?_
          rotate_left
          · intro Wt hSt
            go_simp
            try with_reducible rfl
          try simp only [List.getElem_toArray, List.getElem_cons_zero, List.getElem_cons_succ, Act.put, List.setIfInBounds_toArray, List.set_cons_zero, List.set_cons_succ]
          refine wpAnyH_one 7 _ rfl (by kernel_rfl) (by kernel_rfl) ?_
          skip
          intro Kt hK
          have hcX := hX1.cell (j := 3) (v := .slice A k cc) rfl
          have hfX := hX1.free 3
          go_simp
          have hg3 : w1.grownBy (w1.setCell ⟨N, 3, none⟩ (.slice (some ⟨q, 0, none⟩) (k + 1) cap)) (some N) := fgrownSetCells N [.slice (some ⟨q, 0, none⟩) (k + 1) cap] 3 w1
          have HX3 := hide (show VsAt (w1.setCell ⟨N, 3, none⟩ (.slice (some ⟨q, 0, none⟩) (k + 1) cap)) N 66 (listL (.slice (some ⟨q, 0, none⟩) (k + 1) cap)) from hX1.set 3 _)
          have HO3 := hide (hown.kept hg3 (.inr (fun e => hqN (Option.some.inj e))))
          have HR3 := hide (hR1.grown hg3 (fun e => by have := Option.some.inj e; have := unhide HNL; omega))
          have HB3 := hide (hB1.grown hg3 hB1.size (fun i e => by have := Option.some.inj e; have := unhide HNL; omega))
          refine hK _ _ trivial ?_
          clear hK Kt hcX hfX
          generalize w1.setCell ⟨N, 3, none⟩ (.slice (some ⟨q, 0, none⟩) (k + 1) cap) = w2 at *
          try simp only [List.getElem_toArray, List.getElem_cons_zero, List.getElem_cons_succ, Act.put, List.setIfInBounds_toArray, List.set_cons_zero, List.set_cons_succ]
          refine wpAnyH_chainOf [] _ _ _ (by kernel_rfl) (by kernel_rfl) ?_
          refine wpChain_nil ?_
          have HQN := hide hqN
          clear hg3 hB1 hR1 hX1 hqN hob hnil hgr hown
          go_wp2_with fail
          go_roundg g
          case measure => omega
          case rel => exact ⟨k + 1, _, rfl, by have := unhide HK; omega, unhide HX3, by rw [unhide HX]; exact unhide HO3, fun e => (unhide HQN) (Option.some.inj e), unhide HR3, unhide HB3⟩
        · intro Kt hK
          go_simp
          generalize hXv : World.alloc _ _ = Wv
          have hG : Below Wc.heap.size Wc Wv := hXv ▸ (Below.refl _ _).alloc (Nat.le_refl _) _
          have HE := hide (boxedV Wc Wv (numL x) 66 (by rw [← hXv]; rfl))
          have hsz : Wv.heap.size = Wc.heap.size + 1 := by rw [← hXv]; show (Wc.heap.push _).size = _; rw [Array.size_push]
          have HF := hide ((unhide HF).keep hG); have HO := hide (own_below (unhide HO) hG); have HR := hide ((unhide HR).keep hG); have HB := hide (thenB (unhide HB) hG)
          refine hK _ _ trivial ?_
          clear hK Kt hXv hG
          try simp only [List.getElem_toArray, List.getElem_cons_zero, List.getElem_cons_succ, Act.put, List.setIfInBounds_toArray, List.set_cons_zero, List.set_cons_succ]
          refine wpAnyH_one 1 _ rfl (by kernel_rfl) (by kernel_rfl) ?_
          skip
          intro Kt hK
          have hc3 := (unhide HF).cell (j := 3) (v := .slice A k cc) rfl
          go_simp
          refine hK _ _ trivial ?_
          clear hK Kt hc3
          try simp only [List.getElem_toArray, List.getElem_cons_zero, List.getElem_cons_succ, Act.put, List.setIfInBounds_toArray, List.set_cons_zero, List.set_cons_succ]
          refine wpAnyH_one 5 _ rfl (by kernel_rfl) (by kernel_rfl) ?_
          skip
          intro Kt hK
          obtain ⟨v', w1, hr, hown, hgr, hnil, hob⟩ := run_append_own_at (P := Tryz.prog) Wv (w.heap.size + 1) 63 63 66 i0 (.agg fzeroV.toArray) 5 80 Tryz.underlying63 hi hz0 hz1 hz2 rfl (by decide) (.slice A k cc) k xs (unhide HO) ⟨Wc.heap.size, 0, none⟩ 1 1 (numL x) rfl (fun j u hj => by rw [addr_at]; exact (unhide HE).cell hj) (numL_one x) (by unfold maxLen; have := unhide HN; have := unhide HK; omega) (by have := unhide HN; have := unhide HK; omega) (by have := lt_of_block (unhide HR); omega)
          obtain ⟨q, cap, rfl⟩ := ownsRow_succ hown
          refine wp_append (.tmp 17) (.tmp 20) 63 rfl (.slice A k cc) (.slice (some ⟨Wc.heap.size, 0, none⟩) 1 1) _ w1 rfl rfl hr ?_
          have hqN : q ≠ N := fun e => by
            rcases hob with h | h
            · exact (unhide HVN) (h.symm.trans (by rw [e]; rfl))
            · have h : q = Wv.heap.size := Option.some.inj h
              have := lt_of_block (unhide HF)
              omega
          have hX1 := (unhide HF).grown hgr (fun e => (unhide HVN) e)
          have hR1 := (unhide HR).grown hgr (fun e => by have := ((unhide HO).lt _ e).1; omega)
          have hB1 := (unhide HB).grown hgr (unhide HB).size (fun i e => by have := ((unhide HO).lt i e).1; omega)
          refine hK _ _ trivial ?_
          clear hK Kt hr
          try simp only [List.getElem_toArray, List.getElem_cons_zero, List.getElem_cons_succ, Act.put, List.setIfInBounds_toArray, List.set_cons_zero, List.set_cons_succ]
          refine wpAnyH_take (i := 6) (v := ?_) rfl (by kernel_rfl) (by kernel_rfl) (by kernel_rfl) (fun _ _ _ h => h) (Or.inl ⟨by kernel_rfl, ?_⟩) (by assumption) ?_
          rotate_left
          · intro Wt hSt
            go_simp
            try with_reducible rfl
          try simp only [List.getElem_toArray, List.getElem_cons_zero, List.getElem_cons_succ, Act.put, List.setIfInBounds_toArray, List.set_cons_zero, List.set_cons_succ]
          refine wpAnyH_one 7 _ rfl (by kernel_rfl) (by kernel_rfl) ?_
          skip
          intro Kt hK
          have hcX := hX1.cell (j := 3) (v := .slice A k cc) rfl
          have hfX := hX1.free 3
          go_simp
          have hg3 : w1.grownBy (w1.setCell ⟨N, 3, none⟩ (.slice (some ⟨q, 0, none⟩) (k + 1) cap)) (some N) := fgrownSetCells N [.slice (some ⟨q, 0, none⟩) (k + 1) cap] 3 w1
          have HX3 := hide (show VsAt (w1.setCell ⟨N, 3, none⟩ (.slice (some ⟨q, 0, none⟩) (k + 1) cap)) N 66 (listL (.slice (some ⟨q, 0, none⟩) (k + 1) cap)) from hX1.set 3 _)
          have HO3 := hide (hown.kept hg3 (.inr (fun e => hqN (Option.some.inj e))))
          have HR3 := hide (hR1.grown hg3 (fun e => by have := Option.some.inj e; have := unhide HNL; omega))
          have HB3 := hide (hB1.grown hg3 hB1.size (fun i e => by have := Option.some.inj e; have := unhide HNL; omega))
          refine hK _ _ trivial ?_
          clear hK Kt hcX hfX
          generalize w1.setCell ⟨N, 3, none⟩ (.slice (some ⟨q, 0, none⟩) (k + 1) cap) = w2 at *
          try simp only [List.getElem_toArray, List.getElem_cons_zero, List.getElem_cons_succ, Act.put, List.setIfInBounds_toArray, List.set_cons_zero, List.set_cons_succ]
          refine wpAnyH_chainOf [] _ _ _ (by kernel_rfl) (by kernel_rfl) ?_
          refine wpChain_nil ?_
          have HQN := hide hqN
          clear hg3 hB1 hR1 hX1 hqN hob hnil hgr hown
          go_wp2_with fail
          go_roundg g
          case measure => omega
          case rel => exact ⟨k + 1, _, rfl, by have := unhide HK; omega, unhide HX3, by rw [unhide HX]; exact unhide HO3, fun e => (unhide HQN) (Option.some.inj e), unhide HR3, unhide HB3⟩
    · have i1 : ¬ (k : Int) < (n : Int) := by omega
      obtain rfl : k = n := by omega
      have HF := hide hx; have HO := hide ho; have HR := hide hr; have HB := hide hb
      have HN1 := hide hvN
      clear hk hkn hx ho hr hb hvN
      go_upto_region 7 with fail
      refine wp_region_lit ?_
      refine wpList_vload rfl 66 (.tmp 3) rfl N 0 rfl _ Tryz.underlying66 rfl (listL vL) infoVl (unhide HF).range ?_
      try simp only [List.getElem_toArray, List.getElem_cons_zero, List.getElem_cons_succ, Act.put, List.setIfInBounds_toArray, List.set_cons_zero, List.set_cons_succ]
      have hvo := ownSlice' (unhide HO)
      refine wpList_vput rfl 66 (.tmp 2) (.tmp 24) rfl w.heap.size 0 rfl (listL vL) rfl infoVl (listL_one (by obtain ⟨A', c', rfl⟩ := hvo; rfl)) _ fzeroV (unhide HR) (show 0 + 5 ≤ 5 by omega) ?_
      intro W9 HW9 HG
      rw [spliceV_all fzeroV (listL vL) rfl] at HW9
      clear hvo
      go_wp2_with fail
      try simp only [Exit.inBlock, Exit.then]
      refine vret rfl rfl w.heap.size rfl _ _ (unhide HW9) _ Tryz.underlying66 rfl infoVl ⟨vL, rfl, ?_, (unhide HB).grown (unhide HG) (unhide HB).size (fun i e => by injection e with e; omega)⟩
      have h := (unhide HO).kept (unhide HG) (.inr (fun e => by have := ((unhide HO).lt _ e).1; omega))
      rw [show l.take k = l from by rw [(unhide HN).1, List.take_length], (unhide HN).1] at h
      exact ownLe h (by omega)
end Go.Proofs.YtdmaopfaeigelaaGreatDoor
namespace Go.Proofs.YtdmaopfaeigelaaGreatDoor
set_option linter.unusedSimpArgs false
set_option linter.unusedVariables false
set_option maxRecDepth 100000
open Go.RowKit Go.Shelf

theorem vin_num {w : World} {P : Nat → Prop} {n : Int} (h : I64 n) : VIn w P (numA n) (.agg (numL n).toArray) := VIn.flat (k := 1) ⟨by decide, by decide⟩ h (by decide)
def textA (s : ByteArray) : Va := .mk 2 0 s [] []
theorem vin_text {w : World} {P : Nat → Prop} {s : ByteArray} (h : s.size ≤ 140737488351232) : VIn w P (textA s) (.agg (textL s).toArray) := VIn.flat (k := 2) ⟨by decide, by decide⟩ ⟨by decide, by decide⟩ h
/-- a row of values reads as the list of what they read as, in known blocks -/
theorem vin_row {w : World} {B : Nat} {v : Value} {ys : List Raw} {Vs : List Va} {P : Nat → Prop} (h : w.ownsRow B 66 5 v ys.length (rawCells ys)) (hl : Vs.length = ys.length) (hv : ∀ (i : Nat) (x : Raw) (V : Va), ys[i]? = some x → Vs[i]? = some V → VIn w P V (.agg x.cs.toArray)) (hfew : ys.length ≤ 1000) (hP : ∀ q, v.ownBlock = some q → P q) :
    VIn w P (.mk 3 0 ByteArray.empty Vs []) (.agg (listL v).toArray) := by
  have key : ∀ (A : Option Addr) (c g : Nat), v = .slice A ys.length c → (0 < ys.length → A = some ⟨g, 0, none⟩) → (A = none → c = 0) → ys.length ≤ c → VIn w P (.mk 3 0 ByteArray.empty Vs []) (.agg (listL v).toArray) := by
    intro A c g e hA hA0 hcp
    have e2 : (Value.agg (listL v).toArray) = vaV 3 0 ByteArray.empty A Vs.length c none ([] : List ByteArray).length 0 := by rw [e, hl]; rfl
    rw [e2]
    refine .mk 3 0 ByteArray.empty Vs [] A c none 0 ⟨by decide, by decide⟩ ⟨by decide, by decide⟩ (by decide) (by omega) (by simp) hA0 (fun _ => rfl) (by omega) g 0 (fun i => .agg ((ys[i]?).map Raw.cs |>.getD []).toArray) ?_ ?_ 0 0 (fun i s hi => by simp at hi)
    · intro i hi
      have hi' : i < ys.length := by omega
      have ha := hA (by omega)
      refine ⟨ha, hP g (by rw [e, ha]; rfl), ?_⟩
      obtain ⟨x, hx⟩ : ∃ x, ys[i]? = some x := ⟨_, List.getElem?_eq_getElem hi'⟩
      obtain ⟨x0, x1, x2, x3, x4, hx5⟩ := five_of x
      have hc : ∀ j, j < 5 → w.cell? ⟨g, 0 + i * 5 + j, none⟩ = x.cs[j]? := fun j hj => by
        rw [Nat.zero_add, own_cells h (by rw [e, ha]) (i * 5 + j) (by rw [rawCells_len]; omega), rawCells_at ys i j x hx hj]
      rw [hx]
      refine ⟨x0, x1, x2, x3, x4, by simp [hx5], ?_, ?_, ?_, ?_, ?_⟩
      · have := hc 0 (by omega); rw [hx5] at this; exact this
      · have := hc 1 (by omega); rw [hx5] at this; exact this
      · have := hc 2 (by omega); rw [hx5] at this; exact this
      · have := hc 3 (by omega); rw [hx5] at this; exact this
      · have := hc 4 (by omega); rw [hx5] at this; exact this
    · intro i V hi
      have hi' : i < ys.length := by have := (List.getElem?_eq_some_iff.1 hi).1; omega
      obtain ⟨x, hx⟩ : ∃ x, ys[i]? = some x := ⟨_, List.getElem?_eq_getElem hi'⟩
      rw [hx]
      exact hv i x V hx hi
  rcases h.2 with ⟨rfl, h0⟩ | ⟨g, cap, cur, rfl, _, _, hnc, _⟩
  · exact key none 0 0 (by rw [h0]) (fun hp => by omega) (fun _ => rfl) (by omega)
  · exact key _ cap g rfl (fun _ => rfl) (fun e => by cases e) hnc
def numsA (l : List Int) : Va := .mk 3 0 ByteArray.empty (l.map numA) []
def AllI (l : List Int) : Prop := ∀ x ∈ l, I64 x
/-- what numbers returns reads as the list, in new blocks -/
theorem NumsIs.new {w w' : World} {l : List Int} {e : Ending} (h : NumsIs w l e w') (hl : AllI l) (hn : l.length ≤ 1000) : ∃ x : Raw, e = .returned (.agg x.cs.toArray) ∧ VNew w (numsA l) (.agg x.cs.toArray) w' ∧ Below w.heap.size w w' := by
  obtain ⟨v, rfl, ho, hb⟩ := h
  have hv1 : v.oneCell' = true := by obtain ⟨A, c, rfl⟩ := ownSlice' ho; rfl
  refine ⟨⟨listL v, rfl, listL_one hv1⟩, rfl, ?_, hb⟩
  have ho' : w'.ownsRow w.heap.size 66 5 v (l.map numV).length (rawCells (l.map numV)) := by rw [List.length_map]; exact ho
  refine vin_row ho' (by simp) ?_ (by simpa using hn) (fun q e => ho.lt q e)
  intro i x V h1 h2
  rw [List.getElem?_map] at h1 h2
  cases hx : l[i]? with
  | none => rw [hx] at h1; cases h1
  | some n =>
    rw [hx] at h1 h2
    simp at h1 h2
    subst h1 h2
    exact vin_num (hl n (List.mem_of_getElem? hx))
def gameL (g : Gm) : List Int := [g.s, g.c, g.h, g.a]
theorem fgame_any (g : Gm) (w : World) : Calls Tryz.prog 204 #[.agg (gC g).toArray] w (NumsIs w (gameL g)) := by
  obtain ⟨cs, hcs⟩ : ∃ zz, zz = gC g := ⟨_, rfl⟩
  rw [← hcs]
  have HCS := hide hcs
  clear hcs
  go_enter Tryz.func204, Tryz.ntmps204
  go_upto_region 1 with fail
  generalize hX1 : w.alloc _ = W1
  have hB1 : Below w.heap.size w W1 := hX1 ▸ (Below.refl _ _).alloc (Nat.le_refl _) _
  have hv1 := boxedV w W1 cs 26 (by rw [← hX1]; rfl)
  have hz1 : W1.heap.size = w.heap.size + 1 := by rw [← hX1]; show (w.heap.push _).size = _; rw [Array.size_push]
  generalize hX2 : W1.alloc _ = W2
  have hB2 : Below W1.heap.size W1 W2 := hX2 ▸ (Below.refl _ _).alloc (Nat.le_refl _) _
  have hv2 := boxedV W1 W2 fzeroV 66 (by rw [← hX2]; rfl)
  rw [hz1] at hv2
  have HR := hide hv2
  have HV := hide (hv1.keep hB2)
  rw [unhide HCS] at HV
  have HB := hide (thenB hB1 hB2)
  clear hX1 hB1 hv1 hz1 hX2 hB2 hv2
  have hc0 : W2.cell? ⟨w.heap.size, 0, none⟩ = some (.int .i64 g.s) := (unhide HV).cell rfl
  have hc1 : W2.cell? ⟨w.heap.size, 1, none⟩ = some (.int .i64 g.c) := (unhide HV).cell rfl
  have hc2 : W2.cell? ⟨w.heap.size, 2, none⟩ = some (.int .i64 g.h) := (unhide HV).cell rfl
  have hc3 : W2.cell? ⟨w.heap.size, 3, none⟩ = some (.int .i64 g.a) := (unhide HV).cell rfl
  refine wp_region_lit ?_
  refine wpList_plain rfl fun Kt hKt => ?_
  go_simp
  refine hKt _ _ ?_
  clear hKt Kt
  try simp only [List.getElem_toArray, List.getElem_cons_zero, List.getElem_cons_succ, Act.put, List.setIfInBounds_toArray, List.set_cons_zero, List.set_cons_succ]
  refine wpList_plain rfl fun Kt hKt => ?_
  go_simp
  refine hKt _ _ ?_
  clear hKt Kt
  try simp only [List.getElem_toArray, List.getElem_cons_zero, List.getElem_cons_succ, Act.put, List.setIfInBounds_toArray, List.set_cons_zero, List.set_cons_succ]
  refine wpList_plain rfl fun Kt hKt => ?_
  go_simp
  refine hKt _ _ ?_
  clear hKt Kt
  try simp only [List.getElem_toArray, List.getElem_cons_zero, List.getElem_cons_succ, Act.put, List.setIfInBounds_toArray, List.set_cons_zero, List.set_cons_succ]
  refine wpList_plain rfl fun Kt hKt => ?_
  go_simp
  refine hKt _ _ ?_
  clear hKt Kt
  try simp only [List.getElem_toArray, List.getElem_cons_zero, List.getElem_cons_succ, Act.put, List.setIfInBounds_toArray, List.set_cons_zero, List.set_cons_succ]
  refine wpList_plain rfl fun Kt hKt => ?_
  go_simp
  refine hKt _ _ ?_
  clear hKt Kt
  try simp only [List.getElem_toArray, List.getElem_cons_zero, List.getElem_cons_succ, Act.put, List.setIfInBounds_toArray, List.set_cons_zero, List.set_cons_succ]
  refine wpList_plain rfl fun Kt hKt => ?_
  go_simp
  refine hKt _ _ ?_
  clear hKt Kt
  try simp only [List.getElem_toArray, List.getElem_cons_zero, List.getElem_cons_succ, Act.put, List.setIfInBounds_toArray, List.set_cons_zero, List.set_cons_succ]
  refine wpList_plain rfl fun Kt hKt => ?_
  go_simp
  refine hKt _ _ ?_
  clear hKt Kt
  try simp only [List.getElem_toArray, List.getElem_cons_zero, List.getElem_cons_succ, Act.put, List.setIfInBounds_toArray, List.set_cons_zero, List.set_cons_succ]
  refine wpList_plain rfl fun Kt hKt => ?_
  go_simp
  refine hKt _ _ ?_
  clear hKt Kt
  try simp only [List.getElem_toArray, List.getElem_cons_zero, List.getElem_cons_succ, Act.put, List.setIfInBounds_toArray, List.set_cons_zero, List.set_cons_succ]
  refine wpList_plain rfl fun Kt hKt => ?_
  go_simp
  generalize hX3 : W2.alloc _ = W3
  have hB3 : Below W2.heap.size W2 W3 := hX3 ▸ (Below.refl _ _).alloc (Nat.le_refl _) _
  have hv3 := boxedV W2 W3 [.int .i64 g.s, .int .i64 g.c, .int .i64 g.h, .int .i64 g.a] 3 (by rw [← hX3]; rfl)
  refine hKt _ _ ?_
  clear hKt Kt hX3 hc0 hc1 hc2 hc3
  try simp only [List.getElem_toArray, List.getElem_cons_zero, List.getElem_cons_succ, Act.put, List.setIfInBounds_toArray, List.set_cons_zero, List.set_cons_succ]
  have hsl : Sl W3 (some ⟨W2.heap.size, 0, none⟩) (gameL g) 4 := by
    refine ⟨⟨fun _ => ⟨_, _, rfl, fun j hj => ?_⟩⟩, Nat.le_refl _, fun e => (by cases e), (by decide : (4 : Nat) ≤ 1000)⟩
    match j, hj with
    | 0, _ => exact hv3.cell rfl
    | 1, _ => exact hv3.cell rfl
    | 2, _ => exact hv3.cell rfl
    | 3, _ => exact hv3.cell rfl
  have hR3 := (unhide HR).keep hB3
  have hB3' := thenB (unhide HB) hB3
  refine wpList_plain rfl fun Kt hKt => ?_
  go_simp
  refine (fnumbers_any (some ⟨W2.heap.size, 0, none⟩) 4 (gameL g) W3 hsl).mono ?_; rintro e W4 ⟨v, rfl, ho, hG⟩
  dsimp only
  refine hKt _ _ ?_
  clear hKt Kt hsl hv3
  try simp only [List.getElem_toArray, List.getElem_cons_zero, List.getElem_cons_succ, Act.put, List.setIfInBounds_toArray, List.set_cons_zero, List.set_cons_succ]
  have hvo := ownSlice' ho
  refine wpList_vput rfl 66 (.tmp 2) (.tmp 12) rfl (w.heap.size + 1) 0 rfl (listL v) rfl infoVl (listL_one (by obtain ⟨A', c', rfl⟩ := hvo; rfl)) _ fzeroV (hR3.keep hG) (show 0 + 5 ≤ 5 by omega) ?_
  intro W9 HW9 HG
  rw [spliceV_all fzeroV (listL v) rfl] at HW9
  have HB9 := hide ((thenB hB3' hG).grown (unhide HG) (thenB hB3' hG).size (fun i e => by injection e with e; omega))
  have HO9 := hide (ho.kept (unhide HG) (.inr (fun e => by have h1 := (ho.lt _ e).1; have h2 := lt_of_block hR3; omega)))
  have HSZ := hide hB3'.size
  clear hvo hG hR3 hB3' hB3 ho
  go_wp2_with fail
  try simp only [Exit.inBlock, Exit.then]
  exact vret rfl rfl (w.heap.size + 1) rfl _ _ (unhide HW9) _ Tryz.underlying66 rfl infoVl ⟨v, rfl, ownLe (unhide HO9) (unhide HSZ), unhide HB9⟩
/-- the elements so far: what the round knows of them, and that they read as the values -/
structure Its (X B : Nat) (J : List Raw → World → Prop) (Vs : List Va) (pre : List Raw) (W : World) : Prop where
  j : J pre W
  lst : Lst X W
  els : ElsV X B Vs pre W
  big : B ≤ W.heap.size
theorem Its.below {X B D : Nat} {J : List Raw → World → Prop} {Vs : List Va} {pre : List Raw} {W W' : World} (h : Its X B J Vs pre W) (hJ : AbidesFrom D J) (hb : Below W.heap.size W W') : Its X B J Vs pre W' :=
  ⟨abides_below hJ h.j hb, h.lst.below hb, h.els.kp h.lst ((kpV X).below hb), Nat.le_trans h.big hb.size⟩
/-- one more -/
theorem Its.one {X B : Nat} {J : List Raw → World → Prop} {Vs : List Va} {pre : List Raw} {x : Raw} {V : Va} {W W' : World} (h : Its X B J Vs pre W) (hx : VIn W (fun b => B ≤ b ∧ FreeB X W b) V (.agg x.cs.toArray)) (hk : KpV X W W') (hj : J (pre ++ [x]) W') : Its X B J (Vs ++ [V]) (pre ++ [x]) W' :=
  ⟨hj, hk.lst h.lst, (h.els.kp h.lst hk).app (ElsV.one (hx.kp h.lst hk)), Nat.le_trans h.big hk.ints.size⟩
theorem elsV_nums {X B : Nat} {W : World} (l : List Int) (hl : AllI l) : ElsV X B (l.map numA) (l.map numV) W := by
  refine ⟨by simp, fun i x V h1 h2 => ?_⟩
  rw [List.getElem?_map] at h1 h2
  cases hx : l[i]? with
  | none => rw [hx] at h1; cases h1
  | some n =>
    rw [hx] at h1 h2
    simp at h1 h2
    subst h1 h2
    exact vin_num (hl n (List.mem_of_getElem? hx))
/-- numbers more -/
theorem Its.nums {X B : Nat} {J : List Raw → World → Prop} {Vs : List Va} {pre : List Raw} {l : List Int} {W W' : World} (h : Its X B J Vs pre W) (hl : AllI l) (hk : KpV X W W') (hj : J (pre ++ l.map numV) W') : Its X B J (Vs ++ l.map numA) (pre ++ l.map numV) W' :=
  ⟨hj, hk.lst h.lst, (h.els.kp h.lst hk).app (elsV_nums l hl), Nat.le_trans h.big hk.ints.size⟩
/-- the rounds go on -/
def YOn (X L N : Nat) (J : List Raw → World → Prop) : Prop := ∀ m pre x W, J pre W → pre.length < N → YieldAt Fence.wide m Tryz.prog L #[.agg x.cs.toArray] W fun e W' => e = .returned (.bool true) ∧ J (pre ++ [x]) W' ∧ KpV X W W'
theorem YOn.num {X L N : Nat} {J : List Raw → World → Prop} (h : YOn X L N J) (m : Nat) : YNum L m N (KpV X) J (fun _ _ => False) := fun pre x W hj hl => by
  obtain ⟨fn, tmps, assign, body, hy, hR⟩ := h m pre x W hj hl
  exact ⟨fn, tmps, assign, body, hy, hR.mono fun e W' he => .inl he⟩
/-- what a function that yields leaves -/
def YDone (X B : Nat) (J : List Raw → World → Prop) (Vs : List Va) (W : World) (e : Ending) (W' : World) : Prop := e = .returned (.bool true) ∧ (∃ ys, Its X B J Vs ys W') ∧ KpV X W W'

end Go.Proofs.YtdmaopfaeigelaaGreatDoor
