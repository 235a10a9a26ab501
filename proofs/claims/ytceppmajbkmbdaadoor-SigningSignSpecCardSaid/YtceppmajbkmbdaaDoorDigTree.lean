/- Contracts over the digest's program: the tree of a list. -/
import Derived.Test.YtceppmajbkmbdaaDoorDigOrd
namespace Go.Proofs.YtceppmajbkmbdaaDoor
set_option linter.unusedSimpArgs false
set_option linter.unusedVariables false
open Go.RowKit

/-- the digest of a list that is not empty -/
def treeP (l : List (List Int)) : List Int :=
  if h : l.length ≤ 1 then leafP (l.headD []) else nodeP (treeP (l.take (halfN l.length))) (treeP (l.drop (halfN l.length)))
termination_by l.length
decreasing_by
  · have := halfN_lt (n := l.length) (by omega); simp only [List.length_take]; omega
  · have := halfN_pos l.length; simp only [List.length_drop]; omega
theorem treeP_one (d : List Int) : treeP [d] = leafP d := by rw [treeP]; rfl
theorem treeP_more (l : List (List Int)) (h : 2 ≤ l.length) : treeP l = nodeP (treeP (l.take (halfN l.length))) (treeP (l.drop (halfN l.length))) := by
  rw [treeP, dif_neg (by omega)]
theorem dg_tree (l : List (List Int)) : Dg (treeP l) := by
  rw [treeP]
  split
  · exact dg_hash _
  · exact dg_hash _

/-- digests behind an address -/
structure Ds (w : World) (A : Option Addr) (l : List (List Int)) : Prop where
  dg : ∀ d ∈ l, Dg d
  at_ : l ≠ [] → ∃ b o, A = some ⟨b, o, none⟩ ∧ ∀ i d, l[i]? = some d → w.rangeAt b (o + i * 32) (d.map (Value.int .u8))
theorem Ds.nil {w : World} {A : Option Addr} : Ds w A [] := ⟨fun c hc => (List.not_mem_nil hc).elim, fun h => absurd rfl h⟩
theorem rangeAt_keep {w w' : World} {b o : Nat} {cs : List Value} (h : w.rangeAt b o cs) (hb : Below w.heap.size w w') : w'.rangeAt b o cs := fun j v hv => by
  have hj := h j v hv
  rw [cell_block (hb.block b (lt_of_cell hj))]
  exact hj
theorem Ds.keep {w w' : World} {A : Option Addr} {l : List (List Int)} (h : Ds w A l) (hb : Below w.heap.size w w') : Ds w' A l := by
  refine ⟨h.dg, fun hl => ?_⟩
  obtain ⟨b, o, e, hc⟩ := h.at_ hl
  exact ⟨b, o, e, fun i d hd => rangeAt_keep (hc i d hd) hb⟩
theorem Ds.take {w : World} {A : Option Addr} {l : List (List Int)} (h : Ds w A l) (k : Nat) : Ds w A (l.take k) := by
  refine ⟨fun d hd => h.dg d (List.mem_of_mem_take hd), fun hl => ?_⟩
  obtain ⟨b, o, e, hc⟩ := h.at_ (fun e => hl (by simp [e]))
  refine ⟨b, o, e, fun i d hd => ?_⟩
  rw [List.getElem?_take] at hd
  split at hd
  · exact hc i d hd
  · cases hd
theorem Ds.drop {w : World} {b o : Nat} {l : List (List Int)} (h : Ds w (some ⟨b, o, none⟩) l) (k : Nat) : Ds w (some ⟨b, o + k * 32, none⟩) (l.drop k) := by
  refine ⟨fun d hd => h.dg d (List.mem_of_mem_drop hd), fun hl => ?_⟩
  obtain ⟨b', o', e, hc⟩ := h.at_ (fun e => hl (by simp [e]))
  injection e with e
  injection e with e1 e2
  subst e1 e2
  refine ⟨b, o + k * 32, rfl, fun i d hd => ?_⟩
  rw [List.getElem?_drop] at hd
  rw [show o + k * 32 + i * 32 = o + (k + i) * 32 by omega]
  exact hc (k + i) d hd

theorem bret32 {fn : Func} {a : Act} {w w9 : World} {t : Tmp} (h : fn.results = #[.cell t 24]) (hd : a.defers = []) (N : Nat) (hp : a.tmps.getD t undef = .pointer (some ⟨N, 0, none⟩)) (T : TypeId) (l : List Int) (h0 : ByAt w9 N T l) (hl : Dg l) (hB : Below w.heap.size w w9) :
    bodyPost Tryd.prog fn (fun x w' => x = .returned (dv l) ∧ Below w.heap.size w w') .ret a w9 := bret h hd N hp T l h0 hl.len ⟨rfl, hB⟩

theorem ByAt.there {w : World} {b : Nat} {t : TypeId} (h : ByAt w b t zeros) : w.there b 0 32 := fun j hj => by
  rw [Nat.zero_add]
  exact ⟨by rw [h.cell (j := j) (by simpa using hj)]; rfl, h.free j⟩

set_option maxRecDepth 100000 in
set_option maxHeartbeats 4000000 in
theorem tree_step (n : Nat) (IH : ∀ (l : List (List Int)), l.length < n → l ≠ [] → ∀ (w : World) (hb c : Nat) (A : Option Addr), Ds w A l → l.length ≤ c → HAt w hb → DTab w →
      Calls Tryd.prog 47 #[.pointer (some ⟨hb, 0, none⟩), .slice A l.length c] w fun x w' => x = .returned (dv (treeP l)) ∧ Below w.heap.size w w')
    (l : List (List Int)) (hn : l.length = n) (h1000 : n ≤ 1099511627776) (hne : l ≠ []) (w : World) (hb c : Nat) (A : Option Addr) (hA : Ds w A l) (hc : l.length ≤ c) (h : HAt w hb) (hT : DTab w) :
    Calls Tryd.prog 47 #[.pointer (some ⟨hb, 0, none⟩), .slice A n c] w fun x w' => x = .returned (dv (treeP l)) ∧ Below w.heap.size w w' := by
  have HI := hide IH
  have HT := hide hT
  have HH := hide h
  have HA := hide hA
  have HN := hide hn
  obtain ⟨sb, so, rfl, hrg⟩ := hA.at_ hne
  have HR := hide hrg
  have hcn : (n : Int) ≤ (c : Int) := by omega
  have HC : Hid (n ≤ c ∧ n ≤ 1099511627776) := ⟨by omega, h1000⟩
  by_cases h1 : n = 1
  · obtain ⟨d, rfl⟩ : ∃ d, l = [d] := List.length_eq_one_iff.1 (by omega)
    subst h1
    have hd0 := hA.dg d (by simp)
    have HD := hide hd0
    have HR0 := hide (hrg 0 d rfl)
    clear IH hT h hA hn hc hrg hd0 h1000 hcn hne
    go_enter Tryd.func47, Tryd.ntmps47
    go_upto_region 1 with fail
    generalize hX1 : w.alloc _ = W1
    have hB1 : Below w.heap.size w W1 := hX1 ▸ (Below.refl _ _).alloc (Nat.le_refl _) _
    have HO1 := hide (newBy w W1 (by rw [← hX1]; rfl))
    have HB1 := hide hB1
    clear hX1 hB1
    go_upto_region 2 with fail
    refine wp_region_lit ?_
    refine wpList_plain rfl fun Kt hKt => ?_
    go_simp
    refine hKt _ _ ?_
    clear hKt Kt
    refine wpList_plain rfl fun Kt hKt => ?_
    go_simp
    refine hKt _ _ ?_
    clear hKt Kt
    refine wpList_plain rfl fun Kt hKt => ?_
    go_simp
    refine hKt _ _ ?_
    clear hKt Kt
    have hr1 := rangeAt_keep (unhide HR0) (unhide HB1)
    rw [Nat.zero_mul, Nat.add_zero] at hr1
    have HR1 := hide hr1
    have hl1 : (d.map (Value.int .u8)).length = 32 := by simpa using (unhide HD).len
    have HL1 := hide hl1
    clear hr1 hl1
    refine wpList_load_mid rfl 24 (.tmp 11) rfl sb so rfl (d.map (Value.int .u8)) _ (unhide HR1) Tryd.underlying24 rfl (by rw [unhide HL1]; exact info32) ?_
    obtain ⟨cs, hcs⟩ : ∃ cs, cs = (d.map (Value.int .u8)).toArray := ⟨_, rfl⟩
    rw [← hcs]
    have HCS := hide hcs
    clear hcs
    go_wp2_with fail
    rw [unhide HCS]
    refine (leaf_any W1 hb d ((unhide HH).keep (unhide HB1)) (unhide HD) ((unhide HT).keep (unhide HB1))).mono ?_; rintro x W2 ⟨rfl, hB2⟩
    have HB2 := hide (thenB (unhide HB1) hB2)
    have HO2 := hide ((unhide HO1).keep hB2)
    clear hB2
    dsimp only
    rename_i KK hK
    refine hK _ _ ?_
    clear hK KK
    refine wpList_bstore rfl 24 (.tmp 4) (.tmp 13) rfl w.heap.size rfl (leafP d) rfl 32 info32 (dg_hash _).len _ zeros (unhide HO2) rfl ?_
    intro W9 HW9 HG
    go_wp2_with fail
    try simp only [Exit.inBlock, Exit.then]
    rw [treeP_one]
    exact bret rfl rfl w.heap.size rfl _ _ (unhide HW9) (dg_hash _).len ⟨rfl, (unhide HB2).grown (unhide HG) (unhide HB2).size (fun i e => by injection e with e; omega)⟩
  · have h2 : 2 ≤ n := by have := List.length_pos_iff.2 hne; omega
    obtain ⟨k, hk⟩ : ∃ k, k = halfN n := ⟨_, rfl⟩
    have hkn := halfN_lt h2
    have hk0 := halfN_pos n
    rw [← hk] at hkn hk0
    have HK : Hid (k = halfN n ∧ 0 < k ∧ k < n ∧ 2 ≤ n) := ⟨hk, hk0, hkn, h2⟩
    have n1 : ¬ (n : Int) = 1 := by omega
    have k0 : (0 : Int) ≤ (k : Int) := Int.natCast_nonneg _
    have k1 : (k : Int) ≤ (n : Int) := by omega
    have k2 : (k : Int) ≤ (c : Int) := by omega
    have k3 : ¬ (c = k) := by omega
    clear IH hT h hA hn hc hrg h1000 hne hk hkn hk0 h2
    go_enter Tryd.func47, Tryd.ntmps47
    go_upto_region 1 with fail
    generalize hX1 : w.alloc _ = W1
    have hB1 : Below w.heap.size w W1 := hX1 ▸ (Below.refl _ _).alloc (Nat.le_refl _) _
    have HO1 := hide (newBy w W1 (by rw [← hX1]; rfl))
    have HB1 := hide hB1
    clear hX1 hB1
    go_wp2_with fail
    refine (split_any n (unhide HK).2.2.2 (unhide HC).2 W1).mono ?_; rintro x W2 ⟨rfl, rfl⟩
    rw [← (unhide HK).1]
    obtain ⟨T1, hT1⟩ : ∃ d, d = treeP (l.take k) := ⟨_, rfl⟩
    obtain ⟨T2, hT2⟩ : ∃ d, d = treeP (l.drop k) := ⟨_, rfl⟩
    have hg1 : Dg T1 := hT1 ▸ dg_tree _
    have hg2 : Dg T2 := hT2 ▸ dg_tree _
    obtain ⟨c1, hc1⟩ : ∃ cs, cs = (T1.map (Value.int .u8)).toArray := ⟨_, rfl⟩
    obtain ⟨c2, hc2⟩ : ∃ cs, cs = (T2.map (Value.int .u8)).toArray := ⟨_, rfl⟩
    have hK := unhide HK
    have hHB := unhide HB1
    have hlt : (l.take k).length = k := by have := unhide HN; simp; omega
    have hld : (l.drop k).length = n - k := by have := unhide HN; simp; omega
    have HF1 : Hid (∀ W, Below w.heap.size w W → Calls Tryd.prog 47 #[.pointer (some ⟨hb, 0, none⟩), .slice (some ⟨sb, so, none⟩) k c] W fun x w' => x = .returned (.agg c1) ∧ Below W.heap.size W w') := fun W hB => by
      have := (unhide HI) (l.take k) (by omega) (fun e => by rw [e] at hlt; simp at hlt; omega) W hb c (some ⟨sb, so, none⟩) (((unhide HA).keep hB).take k) (by have := (unhide HC).1; omega) ((unhide HH).keep hB) ((unhide HT).keep hB)
      rw [hlt] at this
      refine this.mono ?_
      rintro x w' ⟨rfl, h'⟩
      exact ⟨by rw [hc1, hT1], h'⟩
    have HF2 : Hid (∀ W, Below w.heap.size w W → Calls Tryd.prog 47 #[.pointer (some ⟨hb, 0, none⟩), .slice (some ⟨sb, so + k * 32, none⟩) (n - k) (c - k)] W fun x w' => x = .returned (.agg c2) ∧ Below W.heap.size W w') := fun W hB => by
      have := (unhide HI) (l.drop k) (by omega) (fun e => by rw [e] at hld; simp at hld; omega) W hb (c - k) (some ⟨sb, so + k * 32, none⟩) (((unhide HA).keep hB).drop k) (by have := (unhide HC).1; omega) ((unhide HH).keep hB) ((unhide HT).keep hB)
      rw [hld] at this
      refine this.mono ?_
      rintro x w' ⟨rfl, h'⟩
      exact ⟨by rw [hc2, hT2], h'⟩
    have HF3 : Hid (∀ W, Below w.heap.size w W → Calls Tryd.prog 63 #[.pointer (some ⟨hb, 0, none⟩), .agg c1, .agg c2] W fun x w' => x = .returned (dv (treeP l)) ∧ Below W.heap.size W w') := fun W hB => by
      rw [hc1, hc2]
      refine (node_any W hb T1 T2 ((unhide HH).keep hB) hg1 hg2 ((unhide HT).keep hB)).mono ?_
      rintro x w' ⟨rfl, h'⟩
      exact ⟨by rw [treeP_more l (by have := unhide HN; omega), unhide HN, ← hK.1, ← hT1, ← hT2], h'⟩
    obtain ⟨W, hW⟩ : ∃ W, W = W2.drewN 1 := ⟨_, rfl⟩
    have HW : Hid (W = W2.drewN 1) := hW
    have hSW := thenB (unhide HB1) (below_named HW)
    have HOW := hide ((unhide HO1).keep (below_named HW))
    clear hT1 hT2 hg1 hg2 hc1 hc2 hK hHB hlt hld hW
    go_wp2_with fail
    refine held (S := Below w.heap.size w) W HW (by kernel_rfl) ?_
    refine wpAnyH_take (i := 0) (v := ?_) rfl (by kernel_rfl) (by kernel_rfl) (by kernel_rfl) (fun _ _ _ h => h) (Or.inl ⟨by kernel_rfl, ?_⟩) (by assumption) ?_
    rotate_left
    · intro Wt hSt
      go_simp
      try with_reducible rfl
    try simp only [List.getElem_toArray, List.getElem_cons_zero, List.getElem_cons_succ, Act.put, List.setIfInBounds_toArray, List.set_cons_zero, List.set_cons_succ]
    refine wpAnyH_take (i := 1) (v := ?_) rfl (by kernel_rfl) (by kernel_rfl) (by kernel_rfl) (fun _ _ _ h => h) (Or.inl ⟨by kernel_rfl, ?_⟩) (by assumption) ?_
    rotate_left
    · intro Wt hSt
      go_simp
      try with_reducible rfl
    try simp only [List.getElem_toArray, List.getElem_cons_zero, List.getElem_cons_succ, Act.put, List.setIfInBounds_toArray, List.set_cons_zero, List.set_cons_succ]
    refine wpAnyH_take (i := 2) (v := ?_) rfl (by kernel_rfl) (by kernel_rfl) (by kernel_rfl) (fun _ _ _ h => h) (Or.inl ⟨by kernel_rfl, ?_⟩) (by assumption) ?_
    rotate_left
    · intro Wt hSt
      go_simp
      try with_reducible rfl
    try simp only [List.getElem_toArray, List.getElem_cons_zero, List.getElem_cons_succ, Act.put, List.setIfInBounds_toArray, List.set_cons_zero, List.set_cons_succ]
    refine wpAnyH_take (i := 3) (v := ?_) rfl (by kernel_rfl) (by kernel_rfl) (by kernel_rfl) (fun _ _ _ h => h) (Or.inl ⟨by kernel_rfl, ?_⟩) (by assumption) ?_
    rotate_left
    · intro Wt hSt
      go_simp
      try with_reducible rfl
    try simp only [List.getElem_toArray, List.getElem_cons_zero, List.getElem_cons_succ, Act.put, List.setIfInBounds_toArray, List.set_cons_zero, List.set_cons_succ]
    refine wpAnyH_take (i := 4) (v := ?_) rfl (by kernel_rfl) (by kernel_rfl) (by kernel_rfl) (fun _ _ _ h => h) (Or.inl ⟨by kernel_rfl, ?_⟩) (by assumption) ?_
    rotate_left
    · intro Wt hSt
      go_simp
      try with_reducible rfl
    try simp only [List.getElem_toArray, List.getElem_cons_zero, List.getElem_cons_succ, Act.put, List.setIfInBounds_toArray, List.set_cons_zero, List.set_cons_succ]
    refine wpAnyH_take (i := 6) (v := ?_) rfl (by kernel_rfl) (by kernel_rfl) (by kernel_rfl) (fun _ _ _ h => h) (Or.inl ⟨by kernel_rfl, ?_⟩) (by assumption) ?_
    rotate_left
    · intro Wt hSt
      go_simp
      try with_reducible rfl
    try simp only [List.getElem_toArray, List.getElem_cons_zero, List.getElem_cons_succ, Act.put, List.setIfInBounds_toArray, List.set_cons_zero, List.set_cons_succ]
    refine wpAnyH_take (i := 7) (v := ?_) rfl (by kernel_rfl) (by kernel_rfl) (by kernel_rfl) (fun _ _ _ h => h) (Or.inl ⟨by kernel_rfl, ?_⟩) (by assumption) ?_
    rotate_left
    · intro Wt hSt
      go_simp
      try with_reducible rfl
    try simp only [List.getElem_toArray, List.getElem_cons_zero, List.getElem_cons_succ, Act.put, List.setIfInBounds_toArray, List.set_cons_zero, List.set_cons_succ]
    refine wpAnyH_take (i := 8) (v := ?_) rfl (by kernel_rfl) (by kernel_rfl) (by kernel_rfl) (fun _ _ _ h => h) (Or.inl ⟨by kernel_rfl, ?_⟩) (by assumption) ?_
    rotate_left
    · intro Wt hSt
      go_simp
      try with_reducible rfl
    try simp only [List.getElem_toArray, List.getElem_cons_zero, List.getElem_cons_succ, Act.put, List.setIfInBounds_toArray, List.set_cons_zero, List.set_cons_succ]
    refine wpAnyH_take (i := 9) (v := ?_) rfl (by kernel_rfl) (by kernel_rfl) (by kernel_rfl) (fun _ _ _ h => h) (Or.inl ⟨by kernel_rfl, ?_⟩) (by assumption) ?_
    rotate_left
    · intro Wt hSt
      go_simp
      try with_reducible rfl
    try simp only [List.getElem_toArray, List.getElem_cons_zero, List.getElem_cons_succ, Act.put, List.setIfInBounds_toArray, List.set_cons_zero, List.set_cons_succ]
    refine wpAnyH_chainOf [5, 10, 11, 12] _ _ _ (by kernel_rfl) (by kernel_rfl) ?_
    simp only [List.filterMap_cons, List.filterMap_nil, List.getElem?_toArray, List.getElem?_cons_zero, List.getElem?_cons_succ]
    refine wpChain_step rfl fun K hK => ?_
    go_simp
    refine ((unhide HF1) _ hSW).mono ?_; rintro x wA ⟨rfl, hA1⟩
    have hSA := thenB hSW hA1
    dsimp only
    refine hK _ _ hSA ?_
    clear hK K
    refine wpChain_step rfl fun K hK => ?_
    go_simp
    refine ((unhide HF2) _ hSA).mono ?_; rintro x wB ⟨rfl, hA2⟩
    have hSB := thenB hSA hA2
    dsimp only
    refine hK _ _ hSB ?_
    clear hK K
    refine wpChain_step rfl fun K hK => ?_
    go_simp
    refine ((unhide HF3) _ hSB).mono ?_; rintro x wC ⟨rfl, hA3⟩
    have hSC := thenB hSB hA3
    have hO := (((unhide HOW).keep hA1).keep hA2).keep hA3
    dsimp only
    refine hK _ _ hSC ?_
    clear hK K
    refine wpChain_bstore rfl 24 (.tmp 4) (.tmp 28) rfl w.heap.size rfl (treeP l) rfl 32 info32 (dg_tree l).len _ zeros hO rfl ?_
    intro W9 HW9 HG
    have hS9 : Below w.heap.size w W9 := hSC.grown (unhide HG) hSC.size (fun i e => by injection e with e; omega)
    refine ⟨hS9, wpChain_nil ?_⟩
    clear hO hSC hSB hSA hA1 hA2 hA3
    have HS9 := hide hS9
    clear hS9 hSW
    go_wp2_with fail
    try simp only [Exit.inBlock, Exit.then]
    exact bret rfl rfl w.heap.size rfl _ _ (unhide HW9) (dg_tree l).len ⟨rfl, unhide HS9⟩
theorem tree_all (n : Nat) : ∀ (l : List (List Int)), l.length = n → n ≤ 1099511627776 → l ≠ [] → ∀ (w : World) (hb c : Nat) (A : Option Addr), Ds w A l → l.length ≤ c → HAt w hb → DTab w →
      Calls Tryd.prog 47 #[.pointer (some ⟨hb, 0, none⟩), .slice A n c] w fun x w' => x = .returned (dv (treeP l)) ∧ Below w.heap.size w w' := by
  induction n using Nat.strongRecOn with
  | _ n IH =>
    intro l hn h1000 hne w hb c A hA hc h hT
    exact tree_step n (fun l' hl' hne' w' hb' c' A' hA' hc' h' hT' => IH l'.length hl' l' rfl (by omega) hne' w' hb' c' A' hA' hc' h' hT') l hn h1000 hne w hb c A hA hc h hT
theorem tree_any (l : List (List Int)) (h1000 : l.length ≤ 1099511627776) (hne : l ≠ []) (w : World) (hb c : Nat) (A : Option Addr) (hA : Ds w A l) (hc : l.length ≤ c) (h : HAt w hb) (hT : DTab w) :
    Calls Tryd.prog 47 #[.pointer (some ⟨hb, 0, none⟩), .slice A l.length c] w fun x w' => x = .returned (dv (treeP l)) ∧ Below w.heap.size w w' :=
  tree_all l.length l rfl h1000 hne w hb c A hA hc h hT
end Go.Proofs.YtceppmajbkmbdaaDoor
