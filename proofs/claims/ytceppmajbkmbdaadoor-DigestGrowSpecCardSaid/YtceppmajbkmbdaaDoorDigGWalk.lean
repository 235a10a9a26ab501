/- Contracts over the digest's program: the closure of Grow. -/
import Derived.Test.YtceppmajbkmbdaaDoorDigGrowP
import Derived.Test.YtceppmajbkmbdaaDoorDigWalk1
import Derived.Laws.EntriesVeiled
namespace Go.Proofs.YtceppmajbkmbdaaDoor
set_option linter.unusedSimpArgs false
set_option linter.unusedVariables false
open Go.RowKit

abbrev GwVal (P H K : Nat) : Value := .func (Fn.func 58) #[] #[.pointer (some ⟨P, 0, none⟩), .pointer (some ⟨H, 0, none⟩), .pointer (some ⟨K, 0, none⟩)]
/-- what a call of the closure finds -/
structure GPre (base P H K : Nat) (w : World) (A : Option Addr) (c : Nat) (l : List (List Int)) (n : Nat) (v : Value) (acc : List (List Int)) : Prop where
  n1 : 1 ≤ n
  nl : n ≤ l.length
  len : acc.length + l.length ≤ 100000000
  lc : l.length ≤ c
  base_ : base ≤ w.heap.size
  top : gTop ≤ base ∧ gTop ≤ P
  lows : P < base ∧ H < base ∧ K < base ∧ H ≠ P ∧ K ≠ P
  low : Low base P A
  ds : Ds w A l
  hat : HAt w H
  fn : w.cell? ⟨K, 0, none⟩ = some (GwVal P H K)
  tab : DTab w
  box : PB w P v
  own : OwnD w base v acc
  dgs : ∀ d ∈ acc, Dg d
abbrev GwIs (base P H K : Nat) (w : World) (A : Option Addr) (c : Nat) (l : List (List Int)) (n : Nat) (whole : Bool) (acc : List (List Int)) : Prop :=
  Calls Tryd.prog 58 #[.slice A l.length c, .int .i64 (n : Int), .bool whole, .pointer (some ⟨P, 0, none⟩), .pointer (some ⟨H, 0, none⟩), .pointer (some ⟨K, 0, none⟩)] w
    fun x w' => x = .returned (.tuple #[]) ∧ GK base P w w' ∧ ∃ v', PB w' P v' ∧ OwnD w' base v' (acc ++ growP l n whole)
def FnAt (K : Nat) (f : Value) (V : World) : Prop := V.cell? ⟨K, 0, none⟩ = some f
def AnyW2 (_ : World) : Prop := True

set_option maxRecDepth 100000 in
set_option maxHeartbeats 2000000 in
theorem gwalk_whole (base P H K : Nat) (w : World) (A : Option Addr) (c : Nat) (l : List (List Int)) (n : Nat) (v : Value) (acc : List (List Int)) (h : GPre base P H K w A c l n v acc) (hn : n = l.length) : GwIs base P H K w A c l n true acc := by
  have HP := hide h
  subst hn
  clear h
  go_enter Tryd.func58, Tryd.ntmps58
  go_wp2_with fail
  try simp only [Exit.inBlock, Exit.then]
  refine bodyPost_ret (results_none rfl _ _ _) rfl ?_
  exact ⟨rfl, GK.refl _ _ _, v, (unhide HP).box, by rw [growP_end]; simpa using (unhide HP).own⟩
set_option maxRecDepth 100000 in
set_option maxHeartbeats 2000000 in
theorem gwalk_leaf (base P H K : Nat) (w : World) (A : Option Addr) (c : Nat) (l : List (List Int)) (n : Nat) (v : Value) (acc : List (List Int)) (h : GPre base P H K w A c l n v acc) (hn : n = l.length) : GwIs base P H K w A c l n false acc := by
  have HP := hide h
  subst hn
  have hne : l ≠ [] := fun e => by have := h.n1; rw [e] at this; simp at this
  obtain ⟨T, hTd⟩ : ∃ T, T = treeP l := ⟨_, rfl⟩
  have hgT : Dg T := hTd ▸ dg_tree _
  obtain ⟨ct, hct⟩ : ∃ cs, cs = (T.map (Value.int .u8)).toArray := ⟨_, rfl⟩
  have hst : ct.size = 32 := by rw [hct]; simpa using hgT.len
  obtain ⟨m, hm⟩ : ∃ m, m = l.length := ⟨_, rfl⟩
  have HF : Hid (∀ V, GK base P w V → Calls Tryd.prog 47 #[.pointer (some ⟨H, 0, none⟩), .slice A m c] V fun x w' => x = .returned (.agg ct) ∧ Below V.heap.size V w') := fun V hV => by
    have := tree_any l (by have := h.len; omega) hne V H c A (hV.ds h.ds h.low) h.lc (hV.byAt h.hat h.lows.2.1 h.lows.2.2.2.1) (hV.tab h.tab h.top.1 h.top.2)
    rw [← hm] at this
    refine this.mono ?_
    rintro x w' ⟨rfl, h'⟩
    exact ⟨by rw [hct, hTd], h'⟩
  obtain ⟨acc0, ha0⟩ : ∃ a, a = acc := ⟨_, rfl⟩
  have HEQ : Hid (acc ++ growP l l.length false = acc0 ++ [T]) := by show _ = _; rw [growP_end, hTd, ha0]; rfl
  have HPB0 := hide h.box
  have HOW0 : Hid (OwnD w base v acc0) := by rw [ha0]; exact h.own
  have HGK0 := hide (GK.refl base P w)
  have HBS0 := hide h.base_
  have HLOW := hide h.lows
  have HLN : Hid (acc0.length ≤ 100000000) := by have := h.len; rw [ha0]; show _ ≤ _; omega
  have HACC : Hid (∀ d ∈ acc0 ++ [T], Dg d) := fun d hd => by
    rcases List.mem_append.1 hd with h' | h'
    · exact (ha0 ▸ h.dgs) d h'
    · rw [List.mem_singleton.1 h']; exact hgT
  have HGT := hide hgT; have HCT := hide hct
  unfold GwIs
  rw [unhide HEQ, ← hm]
  clear h hne hTd hgT hct hm ha0
  go_enter Tryd.func58, Tryd.ntmps58
  go_wp2_with fail
  obtain ⟨W, hW⟩ : ∃ W, W = w.drewN 1 := ⟨_, rfl⟩
  have HW : Hid (W = w.drewN 1) := hW
  have HPB1 := hide ((unhide HPB0).later (below_named HW))
  have HOW1 := hide ((unhide HOW0).later (below_named HW))
  have HBS1 : Hid (base ≤ W.heap.size) := Nat.le_trans (unhide HBS0) (below_named HW).size
  have HGK1 := hide ((unhide HGK0).trans (GK.below (unhide HBS0) (below_named HW)))
  have hSW : AnyW2 W := trivial
  clear hW
  refine held (S := AnyW2) W HW (by kernel_rfl) ?_
  refine wpAnyH_take (i := 1) (v := ?_) rfl (by kernel_rfl) (by kernel_rfl) (by kernel_rfl) (fun _ _ _ h => h) (Or.inl ⟨by kernel_rfl, ?_⟩) (by assumption) ?_
  rotate_left
  · intro Wt hSt
    go_simp
    try with_reducible rfl
  try simp only [List.getElem_toArray, List.getElem_cons_zero, List.getElem_cons_succ, Act.put, List.setIfInBounds_toArray, List.set_cons_zero, List.set_cons_succ]
  refine wpAnyH_all (show Region.ready .any _ _ = [0, 2] by kernel_rfl) (by simp) fun x hx => ?_
  rcases (by simpa using hx : x = 0 ∨ x = 2) with rfl | rfl
  · clear hx
    refine wpOp_one 0 _ rfl (by kernel_rfl) fun Kt hK => ?_
    have hcP := PB.cell (unhide HPB1)
    go_simp
    clear hcP
    refine hK _ _ ⟨trivial, ?_⟩
    clear hK Kt
    try simp only [List.getElem_toArray, List.getElem_cons_zero, List.getElem_cons_succ, Act.put, List.setIfInBounds_toArray, List.set_cons_zero, List.set_cons_succ]
    refine wpAnyH_all (show Region.ready .any _ _ = [2] by kernel_rfl) (by simp) fun x hx => ?_
    obtain rfl : x = 2 := by simpa using hx
    clear hx
    refine wpOp_one 2 _ rfl (by kernel_rfl) fun Kt hK => ?_
    go_simp
    refine ((unhide HF) W (unhide HGK1)).mono ?_; rintro x Y2 ⟨rfl, hb2⟩
    dsimp only
    have hpb2 := PB.later (unhide HPB1) hb2
    have how2 := OwnD.later (unhide HOW1) hb2
    have hgk2 := GK.trans (unhide HGK1) (GK.below (unhide HBS1) hb2)
    have hbs2 := Nat.le_trans (unhide HBS1) hb2.size
    refine hK _ _ ⟨trivial, ?_⟩
    clear hK Kt
    try simp only [List.getElem_toArray, List.getElem_cons_zero, List.getElem_cons_succ, Act.put, List.setIfInBounds_toArray, List.set_cons_zero, List.set_cons_succ]
    refine wpAnyH_all (show Region.ready .any _ _ = [3] by kernel_rfl) (by simp) fun x hx => ?_
    obtain rfl : x = 3 := by simpa using hx
    clear hx
    refine wpOp_one 3 _ rfl (by kernel_rfl) fun Kt hK => ?_
    go_simp
    rw [overwritten hst (by rfl)]
    generalize hX3 : Y2.alloc _ = Y3
    have hb3 : Below Y2.heap.size Y2 Y3 := hX3 ▸ (Below.refl _ _).alloc (Nat.le_refl _) _
    have he3 : ByAt Y3 Y2.heap.size 24 T := boxed Y2 Y3 T _ (by rw [← hX3, unhide HCT]; rfl)
    have hpb3 := PB.later hpb2 hb3
    have how3 := OwnD.later how2 hb3
    have hgk3 := GK.trans hgk2 (GK.below hbs2 hb3)
    have hbs3 := Nat.le_trans hbs2 hb3.size
    refine hK _ _ ⟨trivial, ?_⟩
    clear hK Kt
    try simp only [List.getElem_toArray, List.getElem_cons_zero, List.getElem_cons_succ, Act.put, List.setIfInBounds_toArray, List.set_cons_zero, List.set_cons_succ]
    refine wpAnyH_one 4 _ rfl (by kernel_rfl) (by kernel_rfl) ?_
    intro Kt hK
    obtain ⟨v3, V3, hr3, ho3, hg3, hob3⟩ := append_one how3 26 (Y2.heap.size) 1 T (unhide HGT) he3 (by have := unhide HLN; omega) hbs3
    have hpb3 := PB.grown hpb3 hg3 (fun k hk => by have := (World.ownsRow.lt how3 k hk).1; have := unhide HLOW; omega)
    have hgk3 := GK.trans hgk3 (GK.grown hbs3 hg3 (fun k hk => .inl (World.ownsRow.lt how3 k hk).1))
    refine wp_append (.tmp 16) (.tmp 19) 26 rfl _ _ v3 V3 rfl rfl hr3 ?_
    refine hK _ _ trivial ?_
    clear hK Kt hr3
    try simp only [List.getElem_toArray, List.getElem_cons_zero, List.getElem_cons_succ, Act.put, List.setIfInBounds_toArray, List.set_cons_zero, List.set_cons_succ]
    obtain ⟨A3, c3, hv3, _⟩ := own_form ho3 (unhide HACC)
    obtain ⟨len3, hlen3⟩ : ∃ z, z = (acc0 ++ [T]).length := ⟨_, rfl⟩
    rw [← hlen3] at hv3
    subst hv3
    refine wpAnyH_one 5 _ rfl (by kernel_rfl) (by kernel_rfl) ?_
    intro Kt hK
    have hcP := hpb3.cell
    have hcF := hpb3.free
    clear hlen3
    go_simp
    refine hK _ _ trivial ?_
    clear hK Kt hcP hcF
    try simp only [List.getElem_toArray, List.getElem_cons_zero, List.getElem_cons_succ, Act.put, List.setIfInBounds_toArray, List.set_cons_zero, List.set_cons_succ]
    refine wpAnyH_chainOf [] _ _ _ (by kernel_rfl) (by kernel_rfl) ?_
    refine wpChain_nil ?_
    have HR1 := hide (hpb3.put (.slice A3 len3 c3))
    have HR2 := hide (hgk3.trans (PB.gk (.slice A3 len3 c3)))
    have HR3 := hide (OwnD.put (u := .slice A3 len3 c3) ho3 (unhide HLOW).1)
    clear hSW
    go_wp2_with fail
    try simp only [Exit.inBlock, Exit.then]
    refine bodyPost_ret (results_none rfl _ _ _) rfl ?_
    exact ⟨rfl, unhide HR2, _, unhide HR1, unhide HR3⟩
  · clear hx
    refine wpOp_one 2 _ rfl (by kernel_rfl) fun Kt hK => ?_
    go_simp
    refine ((unhide HF) W (unhide HGK1)).mono ?_; rintro x Y4 ⟨rfl, hb4⟩
    dsimp only
    have hpb4 := PB.later (unhide HPB1) hb4
    have how4 := OwnD.later (unhide HOW1) hb4
    have hgk4 := GK.trans (unhide HGK1) (GK.below (unhide HBS1) hb4)
    have hbs4 := Nat.le_trans (unhide HBS1) hb4.size
    refine hK _ _ ⟨trivial, ?_⟩
    clear hK Kt
    try simp only [List.getElem_toArray, List.getElem_cons_zero, List.getElem_cons_succ, Act.put, List.setIfInBounds_toArray, List.set_cons_zero, List.set_cons_succ]
    refine wpAnyH_all (show Region.ready .any _ _ = [0, 3] by kernel_rfl) (by simp) fun x hx => ?_
    rcases (by simpa using hx : x = 0 ∨ x = 3) with rfl | rfl
    · clear hx
      refine wpOp_one 0 _ rfl (by kernel_rfl) fun Kt hK => ?_
      have hcP := PB.cell hpb4
      go_simp
      clear hcP
      refine hK _ _ ⟨trivial, ?_⟩
      clear hK Kt
      try simp only [List.getElem_toArray, List.getElem_cons_zero, List.getElem_cons_succ, Act.put, List.setIfInBounds_toArray, List.set_cons_zero, List.set_cons_succ]
      refine wpAnyH_all (show Region.ready .any _ _ = [3] by kernel_rfl) (by simp) fun x hx => ?_
      obtain rfl : x = 3 := by simpa using hx
      clear hx
      refine wpOp_one 3 _ rfl (by kernel_rfl) fun Kt hK => ?_
      go_simp
      rw [overwritten hst (by rfl)]
      generalize hX6 : Y4.alloc _ = Y6
      have hb6 : Below Y4.heap.size Y4 Y6 := hX6 ▸ (Below.refl _ _).alloc (Nat.le_refl _) _
      have he6 : ByAt Y6 Y4.heap.size 24 T := boxed Y4 Y6 T _ (by rw [← hX6, unhide HCT]; rfl)
      have hpb6 := PB.later hpb4 hb6
      have how6 := OwnD.later how4 hb6
      have hgk6 := GK.trans hgk4 (GK.below hbs4 hb6)
      have hbs6 := Nat.le_trans hbs4 hb6.size
      refine hK _ _ ⟨trivial, ?_⟩
      clear hK Kt
      try simp only [List.getElem_toArray, List.getElem_cons_zero, List.getElem_cons_succ, Act.put, List.setIfInBounds_toArray, List.set_cons_zero, List.set_cons_succ]
      refine wpAnyH_one 4 _ rfl (by kernel_rfl) (by kernel_rfl) ?_
      intro Kt hK
      obtain ⟨v3, V3, hr3, ho3, hg3, hob3⟩ := append_one how6 26 (Y4.heap.size) 1 T (unhide HGT) he6 (by have := unhide HLN; omega) hbs6
      have hpb3 := PB.grown hpb6 hg3 (fun k hk => by have := (World.ownsRow.lt how6 k hk).1; have := unhide HLOW; omega)
      have hgk3 := GK.trans hgk6 (GK.grown hbs6 hg3 (fun k hk => .inl (World.ownsRow.lt how6 k hk).1))
      refine wp_append (.tmp 16) (.tmp 19) 26 rfl _ _ v3 V3 rfl rfl hr3 ?_
      refine hK _ _ trivial ?_
      clear hK Kt hr3
      try simp only [List.getElem_toArray, List.getElem_cons_zero, List.getElem_cons_succ, Act.put, List.setIfInBounds_toArray, List.set_cons_zero, List.set_cons_succ]
      obtain ⟨A3, c3, hv3, _⟩ := own_form ho3 (unhide HACC)
      obtain ⟨len3, hlen3⟩ : ∃ z, z = (acc0 ++ [T]).length := ⟨_, rfl⟩
      rw [← hlen3] at hv3
      subst hv3
      refine wpAnyH_one 5 _ rfl (by kernel_rfl) (by kernel_rfl) ?_
      intro Kt hK
      have hcP := hpb3.cell
      have hcF := hpb3.free
      clear hlen3
      go_simp
      refine hK _ _ trivial ?_
      clear hK Kt hcP hcF
      try simp only [List.getElem_toArray, List.getElem_cons_zero, List.getElem_cons_succ, Act.put, List.setIfInBounds_toArray, List.set_cons_zero, List.set_cons_succ]
      refine wpAnyH_chainOf [] _ _ _ (by kernel_rfl) (by kernel_rfl) ?_
      refine wpChain_nil ?_
      have HR1 := hide (hpb3.put (.slice A3 len3 c3))
      have HR2 := hide (hgk3.trans (PB.gk (.slice A3 len3 c3)))
      have HR3 := hide (OwnD.put (u := .slice A3 len3 c3) ho3 (unhide HLOW).1)
      clear hSW
      go_wp2_with fail
      try simp only [Exit.inBlock, Exit.then]
      refine bodyPost_ret (results_none rfl _ _ _) rfl ?_
      exact ⟨rfl, unhide HR2, _, unhide HR1, unhide HR3⟩
    · clear hx
      refine wpOp_one 3 _ rfl (by kernel_rfl) fun Kt hK => ?_
      go_simp
      rw [overwritten hst (by rfl)]
      generalize hX7 : Y4.alloc _ = Y7
      have hb7 : Below Y4.heap.size Y4 Y7 := hX7 ▸ (Below.refl _ _).alloc (Nat.le_refl _) _
      have he7 : ByAt Y7 Y4.heap.size 24 T := boxed Y4 Y7 T _ (by rw [← hX7, unhide HCT]; rfl)
      have hpb7 := PB.later hpb4 hb7
      have how7 := OwnD.later how4 hb7
      have hgk7 := GK.trans hgk4 (GK.below hbs4 hb7)
      have hbs7 := Nat.le_trans hbs4 hb7.size
      refine hK _ _ ⟨trivial, ?_⟩
      clear hK Kt
      try simp only [List.getElem_toArray, List.getElem_cons_zero, List.getElem_cons_succ, Act.put, List.setIfInBounds_toArray, List.set_cons_zero, List.set_cons_succ]
      refine wpAnyH_all (show Region.ready .any _ _ = [0] by kernel_rfl) (by simp) fun x hx => ?_
      obtain rfl : x = 0 := by simpa using hx
      clear hx
      refine wpOp_one 0 _ rfl (by kernel_rfl) fun Kt hK => ?_
      have hcP := PB.cell hpb7
      go_simp
      clear hcP
      refine hK _ _ ⟨trivial, ?_⟩
      clear hK Kt
      try simp only [List.getElem_toArray, List.getElem_cons_zero, List.getElem_cons_succ, Act.put, List.setIfInBounds_toArray, List.set_cons_zero, List.set_cons_succ]
      refine wpAnyH_one 4 _ rfl (by kernel_rfl) (by kernel_rfl) ?_
      intro Kt hK
      obtain ⟨v3, V3, hr3, ho3, hg3, hob3⟩ := append_one how7 26 (Y4.heap.size) 1 T (unhide HGT) he7 (by have := unhide HLN; omega) hbs7
      have hpb3 := PB.grown hpb7 hg3 (fun k hk => by have := (World.ownsRow.lt how7 k hk).1; have := unhide HLOW; omega)
      have hgk3 := GK.trans hgk7 (GK.grown hbs7 hg3 (fun k hk => .inl (World.ownsRow.lt how7 k hk).1))
      refine wp_append (.tmp 16) (.tmp 19) 26 rfl _ _ v3 V3 rfl rfl hr3 ?_
      refine hK _ _ trivial ?_
      clear hK Kt hr3
      try simp only [List.getElem_toArray, List.getElem_cons_zero, List.getElem_cons_succ, Act.put, List.setIfInBounds_toArray, List.set_cons_zero, List.set_cons_succ]
      obtain ⟨A3, c3, hv3, _⟩ := own_form ho3 (unhide HACC)
      obtain ⟨len3, hlen3⟩ : ∃ z, z = (acc0 ++ [T]).length := ⟨_, rfl⟩
      rw [← hlen3] at hv3
      subst hv3
      refine wpAnyH_one 5 _ rfl (by kernel_rfl) (by kernel_rfl) ?_
      intro Kt hK
      have hcP := hpb3.cell
      have hcF := hpb3.free
      clear hlen3
      go_simp
      refine hK _ _ trivial ?_
      clear hK Kt hcP hcF
      try simp only [List.getElem_toArray, List.getElem_cons_zero, List.getElem_cons_succ, Act.put, List.setIfInBounds_toArray, List.set_cons_zero, List.set_cons_succ]
      refine wpAnyH_chainOf [] _ _ _ (by kernel_rfl) (by kernel_rfl) ?_
      refine wpChain_nil ?_
      have HR1 := hide (hpb3.put (.slice A3 len3 c3))
      have HR2 := hide (hgk3.trans (PB.gk (.slice A3 len3 c3)))
      have HR3 := hide (OwnD.put (u := .slice A3 len3 c3) ho3 (unhide HLOW).1)
      clear hSW
      go_wp2_with fail
      try simp only [Exit.inBlock, Exit.then]
      refine bodyPost_ret (results_none rfl _ _ _) rfl ?_
      exact ⟨rfl, unhide HR2, _, unhide HR1, unhide HR3⟩
set_option maxRecDepth 100000 in
set_option maxHeartbeats 2000000 in
theorem gwalk_left (base P H K : Nat) (w : World) (A : Option Addr) (c : Nat) (l : List (List Int)) (n : Nat) (whole : Bool) (v : Value) (acc : List (List Int)) (h : GPre base P H K w A c l n v acc) (hn : n < l.length) (ha : n ≤ halfN l.length)
    (I : ∀ (l' : List (List Int)), l'.length < l.length → ∀ (w' : World) (A' : Option Addr) (c' n' : Nat) (whole' : Bool) (v' : Value) (acc' : List (List Int)), GPre base P H K w' A' c' l' n' v' acc' → GwIs base P H K w' A' c' l' n' whole' acc') : GwIs base P H K w A c l n whole acc := by
  obtain ⟨m, hm⟩ : ∃ m, m = l.length := ⟨_, rfl⟩
  obtain ⟨k, hk⟩ : ∃ k, k = halfN m := ⟨_, rfl⟩
  have h1 := h.n1
  have hkn := halfN_lt (n := m) (by omega)
  have hk0 := halfN_pos m
  rw [← hk] at hkn hk0
  rw [← hm, ← hk] at ha
  have hne : l ≠ [] := fun e => by rw [e] at hm; simp at hm; omega
  obtain ⟨b, o, rfl, _⟩ := h.ds.at_ hne
  have hlt : (l.take k).length = k := by simp; omega
  have hld : (l.drop k).length = m - k := by simp; omega
  obtain ⟨T, hTd⟩ : ∃ T, T = treeP (l.drop k) := ⟨_, rfl⟩
  have hgT : Dg T := hTd ▸ dg_tree _
  obtain ⟨ct, hct⟩ : ∃ cs, cs = (T.map (Value.int .u8)).toArray := ⟨_, rfl⟩
  have hst : ct.size = 32 := by rw [hct]; simpa using hgT.len
  have HF : Hid (∀ V, GK base P w V → Calls Tryd.prog 47 #[.pointer (some ⟨H, 0, none⟩), .slice (some ⟨b, o + k * 32, none⟩) (m - k) (c - k)] V fun x w' => x = .returned (.agg ct) ∧ Below V.heap.size V w') := fun V hV => by
    have := tree_any (l.drop k) (by have := h.len; omega) (fun e => by rw [e] at hld; simp at hld; omega) V H (c - k) (some ⟨b, o + k * 32, none⟩) ((hV.ds h.ds h.low).drop k) (by have := h.lc; omega) (hV.byAt h.hat h.lows.2.1 h.lows.2.2.2.1) (hV.tab h.tab h.top.1 h.top.2)
    rw [hld] at this
    refine this.mono ?_
    rintro x w' ⟨rfl, h'⟩
    exact ⟨by rw [hct, hTd], h'⟩
  obtain ⟨acc0, ha0⟩ : ∃ a, a = acc ++ growP (l.take k) n whole := ⟨_, rfl⟩
  have hsp := growP_spec k (l.take k) n whole hlt h1 ha
  have hgl := gLen_le k n whole h1 ha
  have HREC : Hid (∀ V, Below w.heap.size w V → Calls Tryd.prog 58 #[.slice (some ⟨b, o, none⟩) k c, .int .i64 (n : Int), .bool whole, .pointer (some ⟨P, 0, none⟩), .pointer (some ⟨H, 0, none⟩), .pointer (some ⟨K, 0, none⟩)] V fun x w' => x = .returned (.tuple #[]) ∧ GK base P V w' ∧ ∃ v', PB w' P v' ∧ OwnD w' base v' acc0) := fun V hV => by
    have := I (l.take k) (by omega) V (some ⟨b, o, none⟩) c n whole v acc ⟨h1, by omega, by have := h.len; omega, by have := h.lc; omega, Nat.le_trans h.base_ hV.size, h.top, h.lows, h.low, (h.ds.take k).keep hV, h.hat.keep hV, cellKeep h.fn hV, h.tab.keep hV, h.box.later hV, h.own.later hV, h.dgs⟩
    unfold GwIs at this
    rw [hlt] at this
    rw [ha0]
    exact this
  have heq : acc ++ growP l n whole = acc0 ++ [T] := by rw [growP_left whole h1 hn (by rw [← hm, ← hk]; exact ha), hTd, ha0, ← hm, ← hk, List.append_assoc]
  have HLOW := hide h.lows
  have HBS := hide h.base_
  have HFN := hide h.fn
  have HLN : Hid (acc0.length ≤ 100000000) := by have := h.len; rw [ha0, List.length_append, hsp.1]; show _ ≤ _; omega
  have hacc0 : ∀ d ∈ acc0, Dg d := fun d hd => by
    rw [ha0] at hd
    rcases List.mem_append.1 hd with h' | h'
    · exact h.dgs d h'
    · exact hsp.2 d h'
  have HACC : Hid (∀ d ∈ acc0 ++ [T], Dg d) := fun d hd => by
    rcases List.mem_append.1 hd with h' | h'
    · exact hacc0 d h'
    · rw [List.mem_singleton.1 h']; exact hgT
  have HGT := hide hgT; have HCT := hide hct
  have n0 : ¬ (n : Int) = (m : Int) := by omega
  have a1 : (n : Int) ≤ (k : Int) := by omega
  have k0 : (0 : Int) ≤ (k : Int) := Int.natCast_nonneg _
  have k1 : (k : Int) ≤ (m : Int) := by omega
  have k2 : (k : Int) ≤ (c : Int) := by have := h.lc; omega
  have k3 : ¬ (c = k) := by have := h.lc; omega
  have k4 : (m : Int) ≤ (c : Int) := by have := h.lc; omega
  have HK : Hid (k = halfN m ∧ 2 ≤ m ∧ m ≤ 100000000) := ⟨hk, by omega, by have := h.len; omega⟩
  unfold GwIs
  rw [heq, ← hm]
  clear h I hn ha hm hk h1 hkn hk0 hne hlt hld hTd hgT hct ha0 hsp hgl hacc0 heq
  go_enter Tryd.func58, Tryd.ntmps58
  go_wp2_with fail
  refine (split_any m (unhide HK).2.1 (by have := unhide HK; omega) w).mono ?_; rintro x W1 ⟨rfl, rfl⟩
  rw [← (unhide HK).1]
  go_wp2_with fail
  obtain ⟨W, hW⟩ : ∃ W, W = W1.drewN 1 := ⟨_, rfl⟩
  have HW : Hid (W = W1.drewN 1) := hW
  have hSW : FnAt K (GwVal P H K) W := cellKeep (unhide HFN) (below_named HW)
  have hfc := fun V (hV : FnAt K (GwVal P H K) V) => (show V.cell? ⟨K, 0, none⟩ = some (GwVal P H K) from hV)
  clear hW
  refine held (S := FnAt K (GwVal P H K)) W HW (by kernel_rfl) ?_
  refine wpAnyH_take (i := 0) (v := ?_) rfl (by kernel_rfl) (by kernel_rfl) (by kernel_rfl) (fun _ _ _ h => h) (Or.inl ⟨by kernel_rfl, ?_⟩) (by assumption) ?_
  rotate_left
  · intro Wt hSt
    go_simp
    try with_reducible rfl
  try simp only [List.getElem_toArray, List.getElem_cons_zero, List.getElem_cons_succ, Act.put, List.setIfInBounds_toArray, List.set_cons_zero, List.set_cons_succ]
  refine wpAnyH_take (i := 1) (v := ?_) rfl (by kernel_rfl) (by kernel_rfl) (by kernel_rfl) (fun _ _ _ h => h) (Or.inl ⟨by kernel_rfl, ?_⟩) (by assumption) ?_
  rotate_left
  · intro Wt hSt
    go_simp
    try with_reducible rfl
  try simp only [List.getElem_toArray, List.getElem_cons_zero, List.getElem_cons_succ, Act.put, List.setIfInBounds_toArray, List.set_cons_zero, List.set_cons_succ]
  refine wpAnyH_take (i := 2) (v := ?_) rfl (by kernel_rfl) (by kernel_rfl) (by kernel_rfl) (fun _ _ _ h => h) (Or.inl ⟨by kernel_rfl, ?_⟩) (by assumption) ?_
  rotate_left
  · intro Wt hSt
    go_simp
    try with_reducible rfl
  try simp only [List.getElem_toArray, List.getElem_cons_zero, List.getElem_cons_succ, Act.put, List.setIfInBounds_toArray, List.set_cons_zero, List.set_cons_succ]
  refine wpAnyH_take (i := 3) (v := ?_) rfl (by kernel_rfl) (by kernel_rfl) (by kernel_rfl) (fun _ _ _ h => h) (Or.inl ⟨by kernel_rfl, ?_⟩) (by assumption) ?_
  rotate_left
  · intro Wt hSt
    go_simp
    try with_reducible rfl
  try simp only [List.getElem_toArray, List.getElem_cons_zero, List.getElem_cons_succ, Act.put, List.setIfInBounds_toArray, List.set_cons_zero, List.set_cons_succ]
  refine wpAnyH_take (i := 4) (v := ?_) rfl (by kernel_rfl) (by kernel_rfl) (by kernel_rfl) (fun _ _ _ h => h) (Or.inl ⟨by kernel_rfl, ?_⟩) (by assumption) ?_
  rotate_left
  · intro Wt hSt
    go_simp
    try with_reducible rfl
  try simp only [List.getElem_toArray, List.getElem_cons_zero, List.getElem_cons_succ, Act.put, List.setIfInBounds_toArray, List.set_cons_zero, List.set_cons_succ]
  refine wpAnyH_take (i := 5) (v := ?_) rfl (by kernel_rfl) (by kernel_rfl) (by kernel_rfl) (fun _ _ _ h => h) (Or.inl ⟨by kernel_rfl, ?_⟩) (by assumption) ?_
  rotate_left
  · intro Wt hSt
    go_simp
    try with_reducible rfl
  try simp only [List.getElem_toArray, List.getElem_cons_zero, List.getElem_cons_succ, Act.put, List.setIfInBounds_toArray, List.set_cons_zero, List.set_cons_succ]
  refine wpAnyH_one 6 _ rfl (by kernel_rfl) (by kernel_rfl) ?_
  intro Kt hK
  go_simp
  refine ((unhide HREC) W (below_named HW)).mono ?_; rintro x V1 ⟨rfl, hg1, v0, hpb0, how0⟩
  dsimp only
  refine hK _ _ (hg1.cell hSW (unhide HLOW).2.2.1 (unhide HLOW).2.2.2.2) ?_
  clear hK Kt
  try simp only [List.getElem_toArray, List.getElem_cons_zero, List.getElem_cons_succ, Act.put, List.setIfInBounds_toArray, List.set_cons_zero, List.set_cons_succ]
  refine wpAnyH_chainOf [] _ _ _ (by kernel_rfl) (by kernel_rfl) ?_
  refine wpChain_nil ?_
  have HPB0 := hide hpb0; have HOW0 := hide how0
  have HGK0 := hide ((GK.below (unhide HBS) (below_named HW)).trans hg1)
  have HBS0 : Hid (base ≤ V1.heap.size) := Nat.le_trans (Nat.le_trans (unhide HBS) (below_named HW).size) hg1.size
  clear hg1 hpb0 how0 hSW hfc HW
  go_wp2_with fail
  obtain ⟨Z, hW⟩ : ∃ W, W = V1.drewN 1 := ⟨_, rfl⟩
  have HW : Hid (Z = V1.drewN 1) := hW
  have HPB1 := hide ((unhide HPB0).later (below_named HW))
  have HOW1 := hide ((unhide HOW0).later (below_named HW))
  have HBS1 : Hid (base ≤ Z.heap.size) := Nat.le_trans (unhide HBS0) (below_named HW).size
  have HGK1 := hide ((unhide HGK0).trans (GK.below (unhide HBS0) (below_named HW)))
  have hSW : AnyW2 Z := trivial
  clear hW
  refine held (S := AnyW2) Z HW (by kernel_rfl) ?_
  refine wpAnyH_take (i := 1) (v := ?_) rfl (by kernel_rfl) (by kernel_rfl) (by kernel_rfl) (fun _ _ _ h => h) (Or.inl ⟨by kernel_rfl, ?_⟩) (by assumption) ?_
  rotate_left
  · intro Wt hSt
    go_simp
    try with_reducible rfl
  try simp only [List.getElem_toArray, List.getElem_cons_zero, List.getElem_cons_succ, Act.put, List.setIfInBounds_toArray, List.set_cons_zero, List.set_cons_succ]
  refine wpAnyH_take (i := 2) (v := ?_) rfl (by kernel_rfl) (by kernel_rfl) (by kernel_rfl) (fun _ _ _ h => h) (Or.inl ⟨by kernel_rfl, ?_⟩) (by assumption) ?_
  rotate_left
  · intro Wt hSt
    go_simp
    try with_reducible rfl
  try simp only [List.getElem_toArray, List.getElem_cons_zero, List.getElem_cons_succ, Act.put, List.setIfInBounds_toArray, List.set_cons_zero, List.set_cons_succ]
  refine wpAnyH_take (i := 3) (v := ?_) rfl (by kernel_rfl) (by kernel_rfl) (by kernel_rfl) (fun _ _ _ h => h) (Or.inl ⟨by kernel_rfl, ?_⟩) (by assumption) ?_
  rotate_left
  · intro Wt hSt
    go_simp
    try with_reducible rfl
  try simp only [List.getElem_toArray, List.getElem_cons_zero, List.getElem_cons_succ, Act.put, List.setIfInBounds_toArray, List.set_cons_zero, List.set_cons_succ]
  refine wpAnyH_all (show Region.ready .any _ _ = [0, 4] by kernel_rfl) (by simp) fun x hx => ?_
  rcases (by simpa using hx : x = 0 ∨ x = 4) with rfl | rfl
  · clear hx
    refine wpOp_one 0 _ rfl (by kernel_rfl) fun Kt hK => ?_
    have hcP := PB.cell (unhide HPB1)
    go_simp
    clear hcP
    refine hK _ _ ⟨trivial, ?_⟩
    clear hK Kt
    try simp only [List.getElem_toArray, List.getElem_cons_zero, List.getElem_cons_succ, Act.put, List.setIfInBounds_toArray, List.set_cons_zero, List.set_cons_succ]
    refine wpAnyH_all (show Region.ready .any _ _ = [4] by kernel_rfl) (by simp) fun x hx => ?_
    obtain rfl : x = 4 := by simpa using hx
    clear hx
    refine wpOp_one 4 _ rfl (by kernel_rfl) fun Kt hK => ?_
    go_simp
    refine ((unhide HF) Z (unhide HGK1)).mono ?_; rintro x Y2 ⟨rfl, hb2⟩
    dsimp only
    have hpb2 := PB.later (unhide HPB1) hb2
    have how2 := OwnD.later (unhide HOW1) hb2
    have hgk2 := GK.trans (unhide HGK1) (GK.below (unhide HBS1) hb2)
    have hbs2 := Nat.le_trans (unhide HBS1) hb2.size
    refine hK _ _ ⟨trivial, ?_⟩
    clear hK Kt
    try simp only [List.getElem_toArray, List.getElem_cons_zero, List.getElem_cons_succ, Act.put, List.setIfInBounds_toArray, List.set_cons_zero, List.set_cons_succ]
    refine wpAnyH_all (show Region.ready .any _ _ = [5] by kernel_rfl) (by simp) fun x hx => ?_
    obtain rfl : x = 5 := by simpa using hx
    clear hx
    refine wpOp_one 5 _ rfl (by kernel_rfl) fun Kt hK => ?_
    go_simp
    rw [overwritten hst (by rfl)]
    generalize hX3 : Y2.alloc _ = Y3
    have hb3 : Below Y2.heap.size Y2 Y3 := hX3 ▸ (Below.refl _ _).alloc (Nat.le_refl _) _
    have he3 : ByAt Y3 Y2.heap.size 24 T := boxed Y2 Y3 T _ (by rw [← hX3, unhide HCT]; rfl)
    have hpb3 := PB.later hpb2 hb3
    have how3 := OwnD.later how2 hb3
    have hgk3 := GK.trans hgk2 (GK.below hbs2 hb3)
    have hbs3 := Nat.le_trans hbs2 hb3.size
    refine hK _ _ ⟨trivial, ?_⟩
    clear hK Kt
    try simp only [List.getElem_toArray, List.getElem_cons_zero, List.getElem_cons_succ, Act.put, List.setIfInBounds_toArray, List.set_cons_zero, List.set_cons_succ]
    refine wpAnyH_one 6 _ rfl (by kernel_rfl) (by kernel_rfl) ?_
    intro Kt hK
    obtain ⟨v3, V3, hr3, ho3, hg3, hob3⟩ := append_one how3 26 (Y2.heap.size) 1 T (unhide HGT) he3 (by have := unhide HLN; omega) hbs3
    have hpb3 := PB.grown hpb3 hg3 (fun k hk => by have := (World.ownsRow.lt how3 k hk).1; have := unhide HLOW; omega)
    have hgk3 := GK.trans hgk3 (GK.grown hbs3 hg3 (fun k hk => .inl (World.ownsRow.lt how3 k hk).1))
    refine wp_append (.tmp 34) (.tmp 39) 26 rfl _ _ v3 V3 rfl rfl hr3 ?_
    refine hK _ _ trivial ?_
    clear hK Kt hr3
    try simp only [List.getElem_toArray, List.getElem_cons_zero, List.getElem_cons_succ, Act.put, List.setIfInBounds_toArray, List.set_cons_zero, List.set_cons_succ]
    obtain ⟨A3, c3, hv3, _⟩ := own_form ho3 (unhide HACC)
    obtain ⟨len3, hlen3⟩ : ∃ z, z = (acc0 ++ [T]).length := ⟨_, rfl⟩
    rw [← hlen3] at hv3
    subst hv3
    refine wpAnyH_one 7 _ rfl (by kernel_rfl) (by kernel_rfl) ?_
    intro Kt hK
    have hcP := hpb3.cell
    have hcF := hpb3.free
    clear hlen3
    go_simp
    refine hK _ _ trivial ?_
    clear hK Kt hcP hcF
    try simp only [List.getElem_toArray, List.getElem_cons_zero, List.getElem_cons_succ, Act.put, List.setIfInBounds_toArray, List.set_cons_zero, List.set_cons_succ]
    refine wpAnyH_chainOf [] _ _ _ (by kernel_rfl) (by kernel_rfl) ?_
    refine wpChain_nil ?_
    have HR1 := hide (hpb3.put (.slice A3 len3 c3))
    have HR2 := hide (hgk3.trans (PB.gk (.slice A3 len3 c3)))
    have HR3 := hide (OwnD.put (u := .slice A3 len3 c3) ho3 (unhide HLOW).1)
    clear hSW
    go_wp2_with fail
    go_end0
    exact ⟨rfl, unhide HR2, _, unhide HR1, unhide HR3⟩
  · clear hx
    refine wpOp_one 4 _ rfl (by kernel_rfl) fun Kt hK => ?_
    go_simp
    refine ((unhide HF) Z (unhide HGK1)).mono ?_; rintro x Y4 ⟨rfl, hb4⟩
    dsimp only
    have hpb4 := PB.later (unhide HPB1) hb4
    have how4 := OwnD.later (unhide HOW1) hb4
    have hgk4 := GK.trans (unhide HGK1) (GK.below (unhide HBS1) hb4)
    have hbs4 := Nat.le_trans (unhide HBS1) hb4.size
    refine hK _ _ ⟨trivial, ?_⟩
    clear hK Kt
    try simp only [List.getElem_toArray, List.getElem_cons_zero, List.getElem_cons_succ, Act.put, List.setIfInBounds_toArray, List.set_cons_zero, List.set_cons_succ]
    refine wpAnyH_all (show Region.ready .any _ _ = [0, 5] by kernel_rfl) (by simp) fun x hx => ?_
    rcases (by simpa using hx : x = 0 ∨ x = 5) with rfl | rfl
    · clear hx
      refine wpOp_one 0 _ rfl (by kernel_rfl) fun Kt hK => ?_
      have hcP := PB.cell hpb4
      go_simp
      clear hcP
      refine hK _ _ ⟨trivial, ?_⟩
      clear hK Kt
      try simp only [List.getElem_toArray, List.getElem_cons_zero, List.getElem_cons_succ, Act.put, List.setIfInBounds_toArray, List.set_cons_zero, List.set_cons_succ]
      refine wpAnyH_all (show Region.ready .any _ _ = [5] by kernel_rfl) (by simp) fun x hx => ?_
      obtain rfl : x = 5 := by simpa using hx
      clear hx
      refine wpOp_one 5 _ rfl (by kernel_rfl) fun Kt hK => ?_
      go_simp
      rw [overwritten hst (by rfl)]
      generalize hX6 : Y4.alloc _ = Y6
      have hb6 : Below Y4.heap.size Y4 Y6 := hX6 ▸ (Below.refl _ _).alloc (Nat.le_refl _) _
      have he6 : ByAt Y6 Y4.heap.size 24 T := boxed Y4 Y6 T _ (by rw [← hX6, unhide HCT]; rfl)
      have hpb6 := PB.later hpb4 hb6
      have how6 := OwnD.later how4 hb6
      have hgk6 := GK.trans hgk4 (GK.below hbs4 hb6)
      have hbs6 := Nat.le_trans hbs4 hb6.size
      refine hK _ _ ⟨trivial, ?_⟩
      clear hK Kt
      try simp only [List.getElem_toArray, List.getElem_cons_zero, List.getElem_cons_succ, Act.put, List.setIfInBounds_toArray, List.set_cons_zero, List.set_cons_succ]
      refine wpAnyH_one 6 _ rfl (by kernel_rfl) (by kernel_rfl) ?_
      intro Kt hK
      obtain ⟨v3, V3, hr3, ho3, hg3, hob3⟩ := append_one how6 26 (Y4.heap.size) 1 T (unhide HGT) he6 (by have := unhide HLN; omega) hbs6
      have hpb3 := PB.grown hpb6 hg3 (fun k hk => by have := (World.ownsRow.lt how6 k hk).1; have := unhide HLOW; omega)
      have hgk3 := GK.trans hgk6 (GK.grown hbs6 hg3 (fun k hk => .inl (World.ownsRow.lt how6 k hk).1))
      refine wp_append (.tmp 34) (.tmp 39) 26 rfl _ _ v3 V3 rfl rfl hr3 ?_
      refine hK _ _ trivial ?_
      clear hK Kt hr3
      try simp only [List.getElem_toArray, List.getElem_cons_zero, List.getElem_cons_succ, Act.put, List.setIfInBounds_toArray, List.set_cons_zero, List.set_cons_succ]
      obtain ⟨A3, c3, hv3, _⟩ := own_form ho3 (unhide HACC)
      obtain ⟨len3, hlen3⟩ : ∃ z, z = (acc0 ++ [T]).length := ⟨_, rfl⟩
      rw [← hlen3] at hv3
      subst hv3
      refine wpAnyH_one 7 _ rfl (by kernel_rfl) (by kernel_rfl) ?_
      intro Kt hK
      have hcP := hpb3.cell
      have hcF := hpb3.free
      clear hlen3
      go_simp
      refine hK _ _ trivial ?_
      clear hK Kt hcP hcF
      try simp only [List.getElem_toArray, List.getElem_cons_zero, List.getElem_cons_succ, Act.put, List.setIfInBounds_toArray, List.set_cons_zero, List.set_cons_succ]
      refine wpAnyH_chainOf [] _ _ _ (by kernel_rfl) (by kernel_rfl) ?_
      refine wpChain_nil ?_
      have HR1 := hide (hpb3.put (.slice A3 len3 c3))
      have HR2 := hide (hgk3.trans (PB.gk (.slice A3 len3 c3)))
      have HR3 := hide (OwnD.put (u := .slice A3 len3 c3) ho3 (unhide HLOW).1)
      clear hSW
      go_wp2_with fail
      go_end0
      exact ⟨rfl, unhide HR2, _, unhide HR1, unhide HR3⟩
    · clear hx
      refine wpOp_one 5 _ rfl (by kernel_rfl) fun Kt hK => ?_
      go_simp
      rw [overwritten hst (by rfl)]
      generalize hX7 : Y4.alloc _ = Y7
      have hb7 : Below Y4.heap.size Y4 Y7 := hX7 ▸ (Below.refl _ _).alloc (Nat.le_refl _) _
      have he7 : ByAt Y7 Y4.heap.size 24 T := boxed Y4 Y7 T _ (by rw [← hX7, unhide HCT]; rfl)
      have hpb7 := PB.later hpb4 hb7
      have how7 := OwnD.later how4 hb7
      have hgk7 := GK.trans hgk4 (GK.below hbs4 hb7)
      have hbs7 := Nat.le_trans hbs4 hb7.size
      refine hK _ _ ⟨trivial, ?_⟩
      clear hK Kt
      try simp only [List.getElem_toArray, List.getElem_cons_zero, List.getElem_cons_succ, Act.put, List.setIfInBounds_toArray, List.set_cons_zero, List.set_cons_succ]
      refine wpAnyH_all (show Region.ready .any _ _ = [0] by kernel_rfl) (by simp) fun x hx => ?_
      obtain rfl : x = 0 := by simpa using hx
      clear hx
      refine wpOp_one 0 _ rfl (by kernel_rfl) fun Kt hK => ?_
      have hcP := PB.cell hpb7
      go_simp
      clear hcP
      refine hK _ _ ⟨trivial, ?_⟩
      clear hK Kt
      try simp only [List.getElem_toArray, List.getElem_cons_zero, List.getElem_cons_succ, Act.put, List.setIfInBounds_toArray, List.set_cons_zero, List.set_cons_succ]
      refine wpAnyH_one 6 _ rfl (by kernel_rfl) (by kernel_rfl) ?_
      intro Kt hK
      obtain ⟨v3, V3, hr3, ho3, hg3, hob3⟩ := append_one how7 26 (Y4.heap.size) 1 T (unhide HGT) he7 (by have := unhide HLN; omega) hbs7
      have hpb3 := PB.grown hpb7 hg3 (fun k hk => by have := (World.ownsRow.lt how7 k hk).1; have := unhide HLOW; omega)
      have hgk3 := GK.trans hgk7 (GK.grown hbs7 hg3 (fun k hk => .inl (World.ownsRow.lt how7 k hk).1))
      refine wp_append (.tmp 34) (.tmp 39) 26 rfl _ _ v3 V3 rfl rfl hr3 ?_
      refine hK _ _ trivial ?_
      clear hK Kt hr3
      try simp only [List.getElem_toArray, List.getElem_cons_zero, List.getElem_cons_succ, Act.put, List.setIfInBounds_toArray, List.set_cons_zero, List.set_cons_succ]
      obtain ⟨A3, c3, hv3, _⟩ := own_form ho3 (unhide HACC)
      obtain ⟨len3, hlen3⟩ : ∃ z, z = (acc0 ++ [T]).length := ⟨_, rfl⟩
      rw [← hlen3] at hv3
      subst hv3
      refine wpAnyH_one 7 _ rfl (by kernel_rfl) (by kernel_rfl) ?_
      intro Kt hK
      have hcP := hpb3.cell
      have hcF := hpb3.free
      clear hlen3
      go_simp
      refine hK _ _ trivial ?_
      clear hK Kt hcP hcF
      try simp only [List.getElem_toArray, List.getElem_cons_zero, List.getElem_cons_succ, Act.put, List.setIfInBounds_toArray, List.set_cons_zero, List.set_cons_succ]
      refine wpAnyH_chainOf [] _ _ _ (by kernel_rfl) (by kernel_rfl) ?_
      refine wpChain_nil ?_
      have HR1 := hide (hpb3.put (.slice A3 len3 c3))
      have HR2 := hide (hgk3.trans (PB.gk (.slice A3 len3 c3)))
      have HR3 := hide (OwnD.put (u := .slice A3 len3 c3) ho3 (unhide HLOW).1)
      clear hSW
      go_wp2_with fail
      go_end0
      exact ⟨rfl, unhide HR2, _, unhide HR1, unhide HR3⟩
set_option maxRecDepth 100000 in
set_option maxHeartbeats 2000000 in
theorem gwalk_right (base P H K : Nat) (w : World) (A : Option Addr) (c : Nat) (l : List (List Int)) (n : Nat) (whole : Bool) (v : Value) (acc : List (List Int)) (h : GPre base P H K w A c l n v acc) (hn : n < l.length) (ha : ¬ n ≤ halfN l.length)
    (I : ∀ (l' : List (List Int)), l'.length < l.length → ∀ (w' : World) (A' : Option Addr) (c' n' : Nat) (whole' : Bool) (v' : Value) (acc' : List (List Int)), GPre base P H K w' A' c' l' n' v' acc' → GwIs base P H K w' A' c' l' n' whole' acc') : GwIs base P H K w A c l n whole acc := by
  obtain ⟨m, hm⟩ : ∃ m, m = l.length := ⟨_, rfl⟩
  obtain ⟨k, hk⟩ : ∃ k, k = halfN m := ⟨_, rfl⟩
  have h1 := h.n1
  have hkn := halfN_lt (n := m) (by omega)
  have hk0 := halfN_pos m
  rw [← hk] at hkn hk0
  rw [← hm, ← hk] at ha
  have hne : l ≠ [] := fun e => by rw [e] at hm; simp at hm; omega
  obtain ⟨b, o, rfl, _⟩ := h.ds.at_ hne
  have hlt : (l.take k).length = k := by simp; omega
  have hld : (l.drop k).length = m - k := by simp; omega
  obtain ⟨T, hTd⟩ : ∃ T, T = treeP (l.take k) := ⟨_, rfl⟩
  have hgT : Dg T := hTd ▸ dg_tree _
  obtain ⟨ct, hct⟩ : ∃ cs, cs = (T.map (Value.int .u8)).toArray := ⟨_, rfl⟩
  have hst : ct.size = 32 := by rw [hct]; simpa using hgT.len
  have HF : Hid (∀ V, GK base P w V → Calls Tryd.prog 47 #[.pointer (some ⟨H, 0, none⟩), .slice (some ⟨b, o, none⟩) k c] V fun x w' => x = .returned (.agg ct) ∧ Below V.heap.size V w') := fun V hV => by
    have := tree_any (l.take k) (by have := h.len; omega) (fun e => by rw [e] at hlt; simp at hlt; omega) V H c (some ⟨b, o, none⟩) ((hV.ds h.ds h.low).take k) (by have := h.lc; omega) (hV.byAt h.hat h.lows.2.1 h.lows.2.2.2.1) (hV.tab h.tab h.top.1 h.top.2)
    rw [hlt] at this
    refine this.mono ?_
    rintro x w' ⟨rfl, h'⟩
    exact ⟨by rw [hct, hTd], h'⟩
  obtain ⟨nk, hnk⟩ : ∃ z, z = n - k := ⟨_, rfl⟩
  have wn : IntKind.i64.wrap ((n : Int) - (k : Int)) = (nk : Int) := (IntWalk.i64_in _ (by have := h.len; omega)).trans (by omega)
  obtain ⟨acc0, ha0⟩ : ∃ a, a = acc ++ growP (l.drop k) nk false := ⟨_, rfl⟩
  have hsp := growP_spec (m - k) (l.drop k) nk false hld (by omega) (by omega)
  have hgl := gLen_le (m - k) nk false (by omega) (by omega)
  have HREC : Hid (∀ V, Below w.heap.size w V → Calls Tryd.prog 58 #[.slice (some ⟨b, o + k * 32, none⟩) (m - k) (c - k), .int .i64 (nk : Int), .bool false, .pointer (some ⟨P, 0, none⟩), .pointer (some ⟨H, 0, none⟩), .pointer (some ⟨K, 0, none⟩)] V fun x w' => x = .returned (.tuple #[]) ∧ GK base P V w' ∧ ∃ v', PB w' P v' ∧ OwnD w' base v' acc0) := fun V hV => by
    have := I (l.drop k) (by omega) V (some ⟨b, o + k * 32, none⟩) (c - k) nk false v acc ⟨by omega, by omega, by have := h.len; omega, by have := h.lc; omega, Nat.le_trans h.base_ hV.size, h.top, h.lows, fun a e => by injection e with e; subst e; exact h.low ⟨b, o, none⟩ rfl, (h.ds.drop k).keep hV, h.hat.keep hV, cellKeep h.fn hV, h.tab.keep hV, h.box.later hV, h.own.later hV, h.dgs⟩
    unfold GwIs at this
    rw [hld] at this
    rw [ha0]
    exact this
  have heq : acc ++ growP l n whole = acc0 ++ [T] := by rw [growP_right whole h1 hn (by rw [← hm, ← hk]; exact ha), hTd, ha0, ← hm, ← hk, ← hnk, List.append_assoc]
  have HLOW := hide h.lows
  have HBS := hide h.base_
  have HFN := hide h.fn
  have HLN : Hid (acc0.length ≤ 100000000) := by have := h.len; rw [ha0, List.length_append, hsp.1]; show _ ≤ _; omega
  have hacc0 : ∀ d ∈ acc0, Dg d := fun d hd => by
    rw [ha0] at hd
    rcases List.mem_append.1 hd with h' | h'
    · exact h.dgs d h'
    · exact hsp.2 d h'
  have HACC : Hid (∀ d ∈ acc0 ++ [T], Dg d) := fun d hd => by
    rcases List.mem_append.1 hd with h' | h'
    · exact hacc0 d h'
    · rw [List.mem_singleton.1 h']; exact hgT
  have HGT := hide hgT; have HCT := hide hct
  have n0 : ¬ (n : Int) = (m : Int) := by omega
  have a1 : ¬ (n : Int) ≤ (k : Int) := by omega
  have k0 : (0 : Int) ≤ (k : Int) := Int.natCast_nonneg _
  have k1 : (k : Int) ≤ (m : Int) := by omega
  have k2 : (k : Int) ≤ (c : Int) := by have := h.lc; omega
  have k3 : ¬ (c = k) := by have := h.lc; omega
  have k4 : (m : Int) ≤ (c : Int) := by have := h.lc; omega
  have HK : Hid (k = halfN m ∧ 2 ≤ m ∧ m ≤ 100000000) := ⟨hk, by omega, by have := h.len; omega⟩
  unfold GwIs
  rw [heq, ← hm]
  clear h I hn ha hm hk h1 hkn hk0 hne hlt hld hTd hgT hct ha0 hsp hgl hacc0 heq hnk
  go_enter Tryd.func58, Tryd.ntmps58
  go_wp2_with fail
  refine (split_any m (unhide HK).2.1 (by have := unhide HK; omega) w).mono ?_; rintro x W1 ⟨rfl, rfl⟩
  rw [← (unhide HK).1]
  go_wp2_with fail
  obtain ⟨W, hW⟩ : ∃ W, W = W1.drewN 1 := ⟨_, rfl⟩
  have HW : Hid (W = W1.drewN 1) := hW
  have hSW : FnAt K (GwVal P H K) W := cellKeep (unhide HFN) (below_named HW)
  have hfc := fun V (hV : FnAt K (GwVal P H K) V) => (show V.cell? ⟨K, 0, none⟩ = some (GwVal P H K) from hV)
  clear hW
  refine held (S := FnAt K (GwVal P H K)) W HW (by kernel_rfl) ?_
  refine wpAnyH_take (i := 0) (v := ?_) rfl (by kernel_rfl) (by kernel_rfl) (by kernel_rfl) (fun _ _ _ h => h) (Or.inl ⟨by kernel_rfl, ?_⟩) (by assumption) ?_
  rotate_left
  · intro Wt hSt
    go_simp
    try with_reducible rfl
  try simp only [List.getElem_toArray, List.getElem_cons_zero, List.getElem_cons_succ, Act.put, List.setIfInBounds_toArray, List.set_cons_zero, List.set_cons_succ]
  refine wpAnyH_take (i := 1) (v := ?_) rfl (by kernel_rfl) (by kernel_rfl) (by kernel_rfl) (fun _ _ _ h => h) (Or.inl ⟨by kernel_rfl, ?_⟩) (by assumption) ?_
  rotate_left
  · intro Wt hSt
    go_simp
    try with_reducible rfl
  try simp only [List.getElem_toArray, List.getElem_cons_zero, List.getElem_cons_succ, Act.put, List.setIfInBounds_toArray, List.set_cons_zero, List.set_cons_succ]
  refine wpAnyH_take (i := 2) (v := ?_) rfl (by kernel_rfl) (by kernel_rfl) (by kernel_rfl) (fun _ _ _ h => h) (Or.inl ⟨by kernel_rfl, ?_⟩) (by assumption) ?_
  rotate_left
  · intro Wt hSt
    go_simp
    try with_reducible rfl
  try simp only [List.getElem_toArray, List.getElem_cons_zero, List.getElem_cons_succ, Act.put, List.setIfInBounds_toArray, List.set_cons_zero, List.set_cons_succ]
  refine wpAnyH_take (i := 3) (v := ?_) rfl (by kernel_rfl) (by kernel_rfl) (by kernel_rfl) (fun _ _ _ h => h) (Or.inl ⟨by kernel_rfl, ?_⟩) (by assumption) ?_
  rotate_left
  · intro Wt hSt
    go_simp
    try with_reducible rfl
  try simp only [List.getElem_toArray, List.getElem_cons_zero, List.getElem_cons_succ, Act.put, List.setIfInBounds_toArray, List.set_cons_zero, List.set_cons_succ]
  refine wpAnyH_take (i := 4) (v := ?_) rfl (by kernel_rfl) (by kernel_rfl) (by kernel_rfl) (fun _ _ _ h => h) (Or.inl ⟨by kernel_rfl, ?_⟩) (by assumption) ?_
  rotate_left
  · intro Wt hSt
    go_simp
    try with_reducible rfl
  try simp only [List.getElem_toArray, List.getElem_cons_zero, List.getElem_cons_succ, Act.put, List.setIfInBounds_toArray, List.set_cons_zero, List.set_cons_succ]
  refine wpAnyH_take (i := 5) (v := ?_) rfl (by kernel_rfl) (by kernel_rfl) (by kernel_rfl) (fun _ _ _ h => h) (Or.inl ⟨by kernel_rfl, ?_⟩) (by assumption) ?_
  rotate_left
  · intro Wt hSt
    go_simp
    try with_reducible rfl
  try simp only [List.getElem_toArray, List.getElem_cons_zero, List.getElem_cons_succ, Act.put, List.setIfInBounds_toArray, List.set_cons_zero, List.set_cons_succ]
  refine wpAnyH_take (i := 6) (v := ?_) rfl (by kernel_rfl) (by kernel_rfl) (by kernel_rfl) (fun _ _ _ h => h) (Or.inl ⟨by kernel_rfl, ?_⟩) (by assumption) ?_
  rotate_left
  · intro Wt hSt
    go_simp
    try with_reducible rfl
  try simp only [List.getElem_toArray, List.getElem_cons_zero, List.getElem_cons_succ, Act.put, List.setIfInBounds_toArray, List.set_cons_zero, List.set_cons_succ]
  refine wpAnyH_one 7 _ rfl (by kernel_rfl) (by kernel_rfl) ?_
  intro Kt hK
  go_simp
  refine ((unhide HREC) W (below_named HW)).mono ?_; rintro x V1 ⟨rfl, hg1, v0, hpb0, how0⟩
  dsimp only
  refine hK _ _ (hg1.cell hSW (unhide HLOW).2.2.1 (unhide HLOW).2.2.2.2) ?_
  clear hK Kt
  try simp only [List.getElem_toArray, List.getElem_cons_zero, List.getElem_cons_succ, Act.put, List.setIfInBounds_toArray, List.set_cons_zero, List.set_cons_succ]
  refine wpAnyH_chainOf [] _ _ _ (by kernel_rfl) (by kernel_rfl) ?_
  refine wpChain_nil ?_
  have HPB0 := hide hpb0; have HOW0 := hide how0
  have HGK0 := hide ((GK.below (unhide HBS) (below_named HW)).trans hg1)
  have HBS0 : Hid (base ≤ V1.heap.size) := Nat.le_trans (Nat.le_trans (unhide HBS) (below_named HW).size) hg1.size
  clear hg1 hpb0 how0 hSW hfc HW
  go_wp2_with fail
  obtain ⟨Z, hW⟩ : ∃ W, W = V1.drewN 1 := ⟨_, rfl⟩
  have HW : Hid (Z = V1.drewN 1) := hW
  have HPB1 := hide ((unhide HPB0).later (below_named HW))
  have HOW1 := hide ((unhide HOW0).later (below_named HW))
  have HBS1 : Hid (base ≤ Z.heap.size) := Nat.le_trans (unhide HBS0) (below_named HW).size
  have HGK1 := hide ((unhide HGK0).trans (GK.below (unhide HBS0) (below_named HW)))
  have hSW : AnyW2 Z := trivial
  clear hW
  refine held (S := AnyW2) Z HW (by kernel_rfl) ?_
  refine wpAnyH_take (i := 1) (v := ?_) rfl (by kernel_rfl) (by kernel_rfl) (by kernel_rfl) (fun _ _ _ h => h) (Or.inl ⟨by kernel_rfl, ?_⟩) (by assumption) ?_
  rotate_left
  · intro Wt hSt
    go_simp
    try with_reducible rfl
  try simp only [List.getElem_toArray, List.getElem_cons_zero, List.getElem_cons_succ, Act.put, List.setIfInBounds_toArray, List.set_cons_zero, List.set_cons_succ]
  refine wpAnyH_take (i := 2) (v := ?_) rfl (by kernel_rfl) (by kernel_rfl) (by kernel_rfl) (fun _ _ _ h => h) (Or.inl ⟨by kernel_rfl, ?_⟩) (by assumption) ?_
  rotate_left
  · intro Wt hSt
    go_simp
    try with_reducible rfl
  try simp only [List.getElem_toArray, List.getElem_cons_zero, List.getElem_cons_succ, Act.put, List.setIfInBounds_toArray, List.set_cons_zero, List.set_cons_succ]
  refine wpAnyH_take (i := 3) (v := ?_) rfl (by kernel_rfl) (by kernel_rfl) (by kernel_rfl) (fun _ _ _ h => h) (Or.inl ⟨by kernel_rfl, ?_⟩) (by assumption) ?_
  rotate_left
  · intro Wt hSt
    go_simp
    try with_reducible rfl
  try simp only [List.getElem_toArray, List.getElem_cons_zero, List.getElem_cons_succ, Act.put, List.setIfInBounds_toArray, List.set_cons_zero, List.set_cons_succ]
  refine wpAnyH_all (show Region.ready .any _ _ = [0, 4] by kernel_rfl) (by simp) fun x hx => ?_
  rcases (by simpa using hx : x = 0 ∨ x = 4) with rfl | rfl
  · clear hx
    refine wpOp_one 0 _ rfl (by kernel_rfl) fun Kt hK => ?_
    have hcP := PB.cell (unhide HPB1)
    go_simp
    clear hcP
    refine hK _ _ ⟨trivial, ?_⟩
    clear hK Kt
    try simp only [List.getElem_toArray, List.getElem_cons_zero, List.getElem_cons_succ, Act.put, List.setIfInBounds_toArray, List.set_cons_zero, List.set_cons_succ]
    refine wpAnyH_all (show Region.ready .any _ _ = [4] by kernel_rfl) (by simp) fun x hx => ?_
    obtain rfl : x = 4 := by simpa using hx
    clear hx
    refine wpOp_one 4 _ rfl (by kernel_rfl) fun Kt hK => ?_
    go_simp
    refine ((unhide HF) Z (unhide HGK1)).mono ?_; rintro x Y2 ⟨rfl, hb2⟩
    dsimp only
    have hpb2 := PB.later (unhide HPB1) hb2
    have how2 := OwnD.later (unhide HOW1) hb2
    have hgk2 := GK.trans (unhide HGK1) (GK.below (unhide HBS1) hb2)
    have hbs2 := Nat.le_trans (unhide HBS1) hb2.size
    refine hK _ _ ⟨trivial, ?_⟩
    clear hK Kt
    try simp only [List.getElem_toArray, List.getElem_cons_zero, List.getElem_cons_succ, Act.put, List.setIfInBounds_toArray, List.set_cons_zero, List.set_cons_succ]
    refine wpAnyH_all (show Region.ready .any _ _ = [5] by kernel_rfl) (by simp) fun x hx => ?_
    obtain rfl : x = 5 := by simpa using hx
    clear hx
    refine wpOp_one 5 _ rfl (by kernel_rfl) fun Kt hK => ?_
    go_simp
    rw [overwritten hst (by rfl)]
    generalize hX3 : Y2.alloc _ = Y3
    have hb3 : Below Y2.heap.size Y2 Y3 := hX3 ▸ (Below.refl _ _).alloc (Nat.le_refl _) _
    have he3 : ByAt Y3 Y2.heap.size 24 T := boxed Y2 Y3 T _ (by rw [← hX3, unhide HCT]; rfl)
    have hpb3 := PB.later hpb2 hb3
    have how3 := OwnD.later how2 hb3
    have hgk3 := GK.trans hgk2 (GK.below hbs2 hb3)
    have hbs3 := Nat.le_trans hbs2 hb3.size
    refine hK _ _ ⟨trivial, ?_⟩
    clear hK Kt
    try simp only [List.getElem_toArray, List.getElem_cons_zero, List.getElem_cons_succ, Act.put, List.setIfInBounds_toArray, List.set_cons_zero, List.set_cons_succ]
    refine wpAnyH_one 6 _ rfl (by kernel_rfl) (by kernel_rfl) ?_
    intro Kt hK
    obtain ⟨v3, V3, hr3, ho3, hg3, hob3⟩ := append_one how3 26 (Y2.heap.size) 1 T (unhide HGT) he3 (by have := unhide HLN; omega) hbs3
    have hpb3 := PB.grown hpb3 hg3 (fun k hk => by have := (World.ownsRow.lt how3 k hk).1; have := unhide HLOW; omega)
    have hgk3 := GK.trans hgk3 (GK.grown hbs3 hg3 (fun k hk => .inl (World.ownsRow.lt how3 k hk).1))
    refine wp_append (.tmp 49) (.tmp 54) 26 rfl _ _ v3 V3 rfl rfl hr3 ?_
    refine hK _ _ trivial ?_
    clear hK Kt hr3
    try simp only [List.getElem_toArray, List.getElem_cons_zero, List.getElem_cons_succ, Act.put, List.setIfInBounds_toArray, List.set_cons_zero, List.set_cons_succ]
    obtain ⟨A3, c3, hv3, _⟩ := own_form ho3 (unhide HACC)
    obtain ⟨len3, hlen3⟩ : ∃ z, z = (acc0 ++ [T]).length := ⟨_, rfl⟩
    rw [← hlen3] at hv3
    subst hv3
    refine wpAnyH_one 7 _ rfl (by kernel_rfl) (by kernel_rfl) ?_
    intro Kt hK
    have hcP := hpb3.cell
    have hcF := hpb3.free
    clear hlen3
    go_simp
    refine hK _ _ trivial ?_
    clear hK Kt hcP hcF
    try simp only [List.getElem_toArray, List.getElem_cons_zero, List.getElem_cons_succ, Act.put, List.setIfInBounds_toArray, List.set_cons_zero, List.set_cons_succ]
    refine wpAnyH_chainOf [] _ _ _ (by kernel_rfl) (by kernel_rfl) ?_
    refine wpChain_nil ?_
    have HR1 := hide (hpb3.put (.slice A3 len3 c3))
    have HR2 := hide (hgk3.trans (PB.gk (.slice A3 len3 c3)))
    have HR3 := hide (OwnD.put (u := .slice A3 len3 c3) ho3 (unhide HLOW).1)
    clear hSW
    go_wp2_with fail
    go_end0
    exact ⟨rfl, unhide HR2, _, unhide HR1, unhide HR3⟩
  · clear hx
    refine wpOp_one 4 _ rfl (by kernel_rfl) fun Kt hK => ?_
    go_simp
    refine ((unhide HF) Z (unhide HGK1)).mono ?_; rintro x Y4 ⟨rfl, hb4⟩
    dsimp only
    have hpb4 := PB.later (unhide HPB1) hb4
    have how4 := OwnD.later (unhide HOW1) hb4
    have hgk4 := GK.trans (unhide HGK1) (GK.below (unhide HBS1) hb4)
    have hbs4 := Nat.le_trans (unhide HBS1) hb4.size
    refine hK _ _ ⟨trivial, ?_⟩
    clear hK Kt
    try simp only [List.getElem_toArray, List.getElem_cons_zero, List.getElem_cons_succ, Act.put, List.setIfInBounds_toArray, List.set_cons_zero, List.set_cons_succ]
    refine wpAnyH_all (show Region.ready .any _ _ = [0, 5] by kernel_rfl) (by simp) fun x hx => ?_
    rcases (by simpa using hx : x = 0 ∨ x = 5) with rfl | rfl
    · clear hx
      refine wpOp_one 0 _ rfl (by kernel_rfl) fun Kt hK => ?_
      have hcP := PB.cell hpb4
      go_simp
      clear hcP
      refine hK _ _ ⟨trivial, ?_⟩
      clear hK Kt
      try simp only [List.getElem_toArray, List.getElem_cons_zero, List.getElem_cons_succ, Act.put, List.setIfInBounds_toArray, List.set_cons_zero, List.set_cons_succ]
      refine wpAnyH_all (show Region.ready .any _ _ = [5] by kernel_rfl) (by simp) fun x hx => ?_
      obtain rfl : x = 5 := by simpa using hx
      clear hx
      refine wpOp_one 5 _ rfl (by kernel_rfl) fun Kt hK => ?_
      go_simp
      rw [overwritten hst (by rfl)]
      generalize hX6 : Y4.alloc _ = Y6
      have hb6 : Below Y4.heap.size Y4 Y6 := hX6 ▸ (Below.refl _ _).alloc (Nat.le_refl _) _
      have he6 : ByAt Y6 Y4.heap.size 24 T := boxed Y4 Y6 T _ (by rw [← hX6, unhide HCT]; rfl)
      have hpb6 := PB.later hpb4 hb6
      have how6 := OwnD.later how4 hb6
      have hgk6 := GK.trans hgk4 (GK.below hbs4 hb6)
      have hbs6 := Nat.le_trans hbs4 hb6.size
      refine hK _ _ ⟨trivial, ?_⟩
      clear hK Kt
      try simp only [List.getElem_toArray, List.getElem_cons_zero, List.getElem_cons_succ, Act.put, List.setIfInBounds_toArray, List.set_cons_zero, List.set_cons_succ]
      refine wpAnyH_one 6 _ rfl (by kernel_rfl) (by kernel_rfl) ?_
      intro Kt hK
      obtain ⟨v3, V3, hr3, ho3, hg3, hob3⟩ := append_one how6 26 (Y4.heap.size) 1 T (unhide HGT) he6 (by have := unhide HLN; omega) hbs6
      have hpb3 := PB.grown hpb6 hg3 (fun k hk => by have := (World.ownsRow.lt how6 k hk).1; have := unhide HLOW; omega)
      have hgk3 := GK.trans hgk6 (GK.grown hbs6 hg3 (fun k hk => .inl (World.ownsRow.lt how6 k hk).1))
      refine wp_append (.tmp 49) (.tmp 54) 26 rfl _ _ v3 V3 rfl rfl hr3 ?_
      refine hK _ _ trivial ?_
      clear hK Kt hr3
      try simp only [List.getElem_toArray, List.getElem_cons_zero, List.getElem_cons_succ, Act.put, List.setIfInBounds_toArray, List.set_cons_zero, List.set_cons_succ]
      obtain ⟨A3, c3, hv3, _⟩ := own_form ho3 (unhide HACC)
      obtain ⟨len3, hlen3⟩ : ∃ z, z = (acc0 ++ [T]).length := ⟨_, rfl⟩
      rw [← hlen3] at hv3
      subst hv3
      refine wpAnyH_one 7 _ rfl (by kernel_rfl) (by kernel_rfl) ?_
      intro Kt hK
      have hcP := hpb3.cell
      have hcF := hpb3.free
      clear hlen3
      go_simp
      refine hK _ _ trivial ?_
      clear hK Kt hcP hcF
      try simp only [List.getElem_toArray, List.getElem_cons_zero, List.getElem_cons_succ, Act.put, List.setIfInBounds_toArray, List.set_cons_zero, List.set_cons_succ]
      refine wpAnyH_chainOf [] _ _ _ (by kernel_rfl) (by kernel_rfl) ?_
      refine wpChain_nil ?_
      have HR1 := hide (hpb3.put (.slice A3 len3 c3))
      have HR2 := hide (hgk3.trans (PB.gk (.slice A3 len3 c3)))
      have HR3 := hide (OwnD.put (u := .slice A3 len3 c3) ho3 (unhide HLOW).1)
      clear hSW
      go_wp2_with fail
      go_end0
      exact ⟨rfl, unhide HR2, _, unhide HR1, unhide HR3⟩
    · clear hx
      refine wpOp_one 5 _ rfl (by kernel_rfl) fun Kt hK => ?_
      go_simp
      rw [overwritten hst (by rfl)]
      generalize hX7 : Y4.alloc _ = Y7
      have hb7 : Below Y4.heap.size Y4 Y7 := hX7 ▸ (Below.refl _ _).alloc (Nat.le_refl _) _
      have he7 : ByAt Y7 Y4.heap.size 24 T := boxed Y4 Y7 T _ (by rw [← hX7, unhide HCT]; rfl)
      have hpb7 := PB.later hpb4 hb7
      have how7 := OwnD.later how4 hb7
      have hgk7 := GK.trans hgk4 (GK.below hbs4 hb7)
      have hbs7 := Nat.le_trans hbs4 hb7.size
      refine hK _ _ ⟨trivial, ?_⟩
      clear hK Kt
      try simp only [List.getElem_toArray, List.getElem_cons_zero, List.getElem_cons_succ, Act.put, List.setIfInBounds_toArray, List.set_cons_zero, List.set_cons_succ]
      refine wpAnyH_all (show Region.ready .any _ _ = [0] by kernel_rfl) (by simp) fun x hx => ?_
      obtain rfl : x = 0 := by simpa using hx
      clear hx
      refine wpOp_one 0 _ rfl (by kernel_rfl) fun Kt hK => ?_
      have hcP := PB.cell hpb7
      go_simp
      clear hcP
      refine hK _ _ ⟨trivial, ?_⟩
      clear hK Kt
      try simp only [List.getElem_toArray, List.getElem_cons_zero, List.getElem_cons_succ, Act.put, List.setIfInBounds_toArray, List.set_cons_zero, List.set_cons_succ]
      refine wpAnyH_one 6 _ rfl (by kernel_rfl) (by kernel_rfl) ?_
      intro Kt hK
      obtain ⟨v3, V3, hr3, ho3, hg3, hob3⟩ := append_one how7 26 (Y4.heap.size) 1 T (unhide HGT) he7 (by have := unhide HLN; omega) hbs7
      have hpb3 := PB.grown hpb7 hg3 (fun k hk => by have := (World.ownsRow.lt how7 k hk).1; have := unhide HLOW; omega)
      have hgk3 := GK.trans hgk7 (GK.grown hbs7 hg3 (fun k hk => .inl (World.ownsRow.lt how7 k hk).1))
      refine wp_append (.tmp 49) (.tmp 54) 26 rfl _ _ v3 V3 rfl rfl hr3 ?_
      refine hK _ _ trivial ?_
      clear hK Kt hr3
      try simp only [List.getElem_toArray, List.getElem_cons_zero, List.getElem_cons_succ, Act.put, List.setIfInBounds_toArray, List.set_cons_zero, List.set_cons_succ]
      obtain ⟨A3, c3, hv3, _⟩ := own_form ho3 (unhide HACC)
      obtain ⟨len3, hlen3⟩ : ∃ z, z = (acc0 ++ [T]).length := ⟨_, rfl⟩
      rw [← hlen3] at hv3
      subst hv3
      refine wpAnyH_one 7 _ rfl (by kernel_rfl) (by kernel_rfl) ?_
      intro Kt hK
      have hcP := hpb3.cell
      have hcF := hpb3.free
      clear hlen3
      go_simp
      refine hK _ _ trivial ?_
      clear hK Kt hcP hcF
      try simp only [List.getElem_toArray, List.getElem_cons_zero, List.getElem_cons_succ, Act.put, List.setIfInBounds_toArray, List.set_cons_zero, List.set_cons_succ]
      refine wpAnyH_chainOf [] _ _ _ (by kernel_rfl) (by kernel_rfl) ?_
      refine wpChain_nil ?_
      have HR1 := hide (hpb3.put (.slice A3 len3 c3))
      have HR2 := hide (hgk3.trans (PB.gk (.slice A3 len3 c3)))
      have HR3 := hide (OwnD.put (u := .slice A3 len3 c3) ho3 (unhide HLOW).1)
      clear hSW
      go_wp2_with fail
      go_end0
      exact ⟨rfl, unhide HR2, _, unhide HR1, unhide HR3⟩
theorem gwalk_any (m : Nat) : ∀ (base P H K : Nat) (w : World) (A : Option Addr) (c : Nat) (l : List (List Int)) (n : Nat) (whole : Bool) (v : Value) (acc : List (List Int)), l.length = m → GPre base P H K w A c l n v acc → GwIs base P H K w A c l n whole acc := by
  induction m using Nat.strongRecOn with
  | _ m IH =>
    intro base P H K w A c l n whole v acc hl hp
    have I := fun (l' : List (List Int)) (hl' : l'.length < l.length) (w' : World) (A' : Option Addr) (c' n' : Nat) (whole' : Bool) (v' : Value) (acc' : List (List Int)) (h : GPre base P H K w' A' c' l' n' v' acc') => IH l'.length (by omega) base P H K w' A' c' l' n' whole' v' acc' rfl h
    by_cases h : n = l.length
    · cases whole
      · exact gwalk_leaf base P H K w A c l n v acc hp h
      · exact gwalk_whole base P H K w A c l n v acc hp h
    · by_cases ha : n ≤ halfN l.length
      · exact gwalk_left base P H K w A c l n whole v acc hp (by have := hp.nl; omega) ha I
      · exact gwalk_right base P H K w A c l n whole v acc hp (by have := hp.nl; omega) ha I
end Go.Proofs.YtceppmajbkmbdaaDoor
