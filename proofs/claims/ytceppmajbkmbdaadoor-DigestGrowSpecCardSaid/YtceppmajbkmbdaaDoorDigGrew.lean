/- Contracts over the digest's program: Grew. -/
import Derived.Test.YtceppmajbkmbdaaDoorDigVWalk
namespace Go.Proofs.YtceppmajbkmbdaaDoor
set_option linter.unusedSimpArgs false
set_option linter.unusedVariables false
open Go.RowKit

theorem ds_lt {w : World} {A : Option Addr} {l : List (List Int)} (h : Ds w A l) (hl : l ≠ []) : ∀ a, A = some a → a.block < w.heap.size := fun a e => by
  obtain ⟨b, o, e2, hc⟩ := h.at_ hl
  rw [e] at e2
  injection e2 with e2
  subst e2
  obtain ⟨d, r, rfl⟩ := List.exists_cons_of_ne_nil hl
  have hd := (h.dg d List.mem_cons_self).len
  have h0 := hc 0 d rfl 0 (.int .u8 (d[0]'(by omega))) (by rw [List.getElem?_map, List.getElem?_eq_getElem (by omega)]; rfl)
  exact lt_of_cell h0
set_option maxRecDepth 100000 in
set_option maxHeartbeats 1000000 in
theorem Grew_ok (a b : List Int) (n m : Nat) (p : List (List Int)) (A : Option Addr) (c : Nat) (w : World) (ha : Dg a) (hb : Dg b) (hn1 : 1 ≤ n) (hnm : n ≤ m) (hm40 : m ≤ 1099511627776) (hA : Ds w A p) (hpc : p.length ≤ c) (hp8 : p.length ≤ 100000000) (X Y : List Int) (R : List (List Int)) (hE : verP a n m true p = (X, Y, R)) (hl : p.length = gLen n m true) (hT : DTab w) :
    Calls Tryd.prog 24 #[dv a, dv b, .int .i64 (n : Int), .int .i64 (m : Int), .slice A p.length c] w fun x w' => x = .returned (.bool (decide (X = a) && decide (Y = b))) ∧ Below w.heap.size w w' := by
  obtain ⟨len, hlen⟩ : ∃ z, z = p.length := ⟨_, rfl⟩
  rw [← hlen]
  obtain ⟨T, hTl⟩ : ∃ T, T = gLen n m true := ⟨_, rfl⟩
  have g1 : ¬ (n : Int) < 1 := by omega
  have g2 : ¬ (m : Int) < (n : Int) := by omega
  have g3 : ¬ (1099511627776 : Int) < (m : Int) := by omega
  have g4 : (len : Int) = (T : Int) := by omega
  have HA := hide hA
  have HQ : Hid (1 ≤ n ∧ n ≤ m ∧ m ≤ 1099511627776 ∧ len = p.length ∧ len ≤ c ∧ len ≤ 100000000 ∧ T = gLen n m true) := ⟨hn1, hnm, hm40, hlen, by omega, by omega, hTl⟩
  have HE : Hid (verP a n m true p = (X, Y, R) ∧ p.length = gLen n m true) := ⟨hE, hl⟩
  have hvl := verP_len a ha m n true p hn1 hnm (by omega) hA.dg
  obtain ⟨X', Y', R', hE', hgX, hgY, _⟩ := hvl
  rw [hE] at hE'
  injection hE' with ex hE'
  injection hE' with ey er
  subst ex ey er
  have HGX := hide hgX
  have HGY := hide hgY
  clear hgX hgY
  clear hA hpc hp8 hn1 hnm hm40 hlen hTl hl hE
  have HT := hide hT
  have HGA := hide ha
  have HGB := hide hb
  obtain ⟨ca, hca⟩ : ∃ cs, cs = (a.map (Value.int .u8)).toArray := ⟨_, rfl⟩
  have hsa : ca.size = 32 := by rw [hca]; simpa using ha.len
  have HCA := hide hca
  obtain ⟨cb, hcb⟩ : ∃ cs, cs = (b.map (Value.int .u8)).toArray := ⟨_, rfl⟩
  have hsb : cb.size = 32 := by rw [hcb]; simpa using hb.len
  have HCB := hide hcb
  rw [show dv a = .agg ca by rw [hca], show dv b = .agg cb by rw [hcb]]
  clear hT ha hb hca hcb
  go_enter Tryd.func24, Tryd.ntmps24
  go_upto_region 1 with fail
  generalize hX1 : w.alloc _ = W1
  have hB1 : Below w.heap.size w W1 := hX1 ▸ (Below.refl _ _).alloc (Nat.le_refl _) _
  have ho1 : ByAt W1 w.heap.size 24 a := boxed w W1 a _ (by rw [← hX1]; first | rfl | (rw [unhide HCA]; rfl))
  have hz1 : W1.heap.size = w.heap.size + 1 := by rw [← hX1]; show (w.heap.push _).size = _; rw [Array.size_push]
  generalize hX2 : W1.alloc _ = W2
  have hB2 : Below W1.heap.size W1 W2 := hX2 ▸ (Below.refl _ _).alloc (Nat.le_refl _) _
  have ho2 : ByAt W2 W1.heap.size 24 b := boxed W1 W2 b _ (by rw [← hX2]; first | rfl | (rw [unhide HCB]; rfl))
  have hz2 : W2.heap.size = w.heap.size + 2 := by rw [← hX2]; show (W1.heap.push _).size = _; rw [Array.size_push]; omega
  generalize hX3 : W2.alloc _ = W3
  have hB3 : Below W2.heap.size W2 W3 := hX3 ▸ (Below.refl _ _).alloc (Nat.le_refl _) _
  have hpb3 : PB W3 W2.heap.size (.slice A len c) := by
    rw [← hX3]
    show (W2.heap.push _)[W2.heap.size]? = _
    rw [Array.getElem?_push_size]
  have ho3 := hpb3.cell
  have hz3 : W3.heap.size = w.heap.size + 3 := by rw [← hX3]; show (W2.heap.push _).size = _; rw [Array.size_push]; omega
  rw [hz1] at ho2
  rw [hz2] at ho3 hpb3
  have hB := thenB (thenB hB1 hB2) hB3
  have hO1 := (ho1.keep hB2).keep hB3
  have hO2 := ho2.keep hB3
  obtain ⟨W, hW⟩ : ∃ W, W = W3.drewN 1 := ⟨_, rfl⟩
  have HW : Hid (W = W3.drewN 1) := hW
  have HB' := hide (thenB hB (below_named HW))
  have HO1 := hide (hO1.keep (below_named HW))
  have HO2 := hide (hO2.keep (below_named HW))
  have HPB := hide (hpb3.later (below_named HW))
  have hSW : SC W (w.heap.size + 2) (.slice A len c) W := ⟨Below.refl _ _, cellKeep ho3 (below_named HW)⟩
  have hSC := fun W' (h : SC W (w.heap.size + 2) (.slice A len c) W') => h.cell
  clear hX1 hX2 hX3 hB1 hB2 hB3 ho1 ho2 ho3 hpb3 hz1 hz2 hB hO1 hO2 hW
  refine held (S := SC W (w.heap.size + 2) (.slice A len c)) W HW (by kernel_rfl) ?_
  refine wpAnyH_take (i := 0) (v := ?_) rfl (by kernel_rfl) (by kernel_rfl) (by kernel_rfl) (fun _ _ _ h => h) (Or.inl ⟨by kernel_rfl, ?_⟩) (by assumption) ?_
  rotate_left
  · intro Wt hSt
    go_simp
    try with_reducible rfl
  try simp only [List.getElem_toArray, List.getElem_cons_zero, List.getElem_cons_succ, Act.put, List.setIfInBounds_toArray, List.set_cons_zero, List.set_cons_succ]
  refine wpAnyH_take (i := 1) (v := ?_) rfl (by kernel_rfl) (by kernel_rfl) (by kernel_rfl) (fun _ _ _ h => h) (Or.inl ⟨by kernel_rfl, ?_⟩) (by assumption) ?_
  rotate_left
  · intro Wt hSt
    go_simp
    try with_reducible rfl
  try simp only [List.getElem_toArray, List.getElem_cons_zero, List.getElem_cons_succ, Act.put, List.setIfInBounds_toArray, List.set_cons_zero, List.set_cons_succ]
  refine wpAnyH_take (i := 2) (v := ?_) rfl (by kernel_rfl) (by kernel_rfl) (by kernel_rfl) (fun _ _ _ h => h) (Or.inl ⟨by kernel_rfl, ?_⟩) (by assumption) ?_
  rotate_left
  · intro Wt hSt
    go_simp
    try with_reducible rfl
  try simp only [List.getElem_toArray, List.getElem_cons_zero, List.getElem_cons_succ, Act.put, List.setIfInBounds_toArray, List.set_cons_zero, List.set_cons_succ]
  refine wpAnyH_take (i := 3) (v := ?_) rfl (by kernel_rfl) (by kernel_rfl) (by kernel_rfl) (fun _ _ _ h => h) (Or.inl ⟨by kernel_rfl, ?_⟩) (by assumption) ?_
  rotate_left
  · intro Wt hSt
    go_simp
    try with_reducible rfl
  try simp only [List.getElem_toArray, List.getElem_cons_zero, List.getElem_cons_succ, Act.put, List.setIfInBounds_toArray, List.set_cons_zero, List.set_cons_succ]
  refine wpAnyH_take (i := 4) (v := ?_) rfl (by kernel_rfl) (by kernel_rfl) (by kernel_rfl) (fun _ _ _ h => h) (Or.inl ⟨by kernel_rfl, ?_⟩) (by assumption) ?_
  rotate_left
  · intro Wt hSt
    go_simp
    try with_reducible rfl
  try simp only [List.getElem_toArray, List.getElem_cons_zero, List.getElem_cons_succ, Act.put, List.setIfInBounds_toArray, List.set_cons_zero, List.set_cons_succ]
  refine wpAnyH_take (i := 5) (v := ?_) rfl (by kernel_rfl) (by kernel_rfl) (by kernel_rfl) (fun _ _ _ h => h) (Or.inl ⟨by kernel_rfl, ?_⟩) (by assumption) ?_
  rotate_left
  · intro Wt hSt
    go_simp
    try with_reducible rfl
  try simp only [List.getElem_toArray, List.getElem_cons_zero, List.getElem_cons_succ, Act.put, List.setIfInBounds_toArray, List.set_cons_zero, List.set_cons_succ]
  refine wpAnyH_take (i := 6) (v := ?_) rfl (by kernel_rfl) (by kernel_rfl) (by kernel_rfl) (fun _ _ _ h => h) (Or.inl ⟨by kernel_rfl, ?_⟩) (by assumption) ?_
  rotate_left
  · intro Wt hSt
    go_simp
    try with_reducible rfl
  try simp only [List.getElem_toArray, List.getElem_cons_zero, List.getElem_cons_succ, Act.put, List.setIfInBounds_toArray, List.set_cons_zero, List.set_cons_succ]
  refine wpAnyH_take (i := 7) (v := ?_) rfl (by kernel_rfl) (by kernel_rfl) (by kernel_rfl) (fun _ _ _ h => h) (Or.inl ⟨by kernel_rfl, ?_⟩) (by assumption) ?_
  rotate_left
  · intro Wt hSt
    go_simp
    try with_reducible rfl
  try simp only [List.getElem_toArray, List.getElem_cons_zero, List.getElem_cons_succ, Act.put, List.setIfInBounds_toArray, List.set_cons_zero, List.set_cons_succ]
  refine wpAnyH_take (i := 8) (v := ?_) rfl (by kernel_rfl) (by kernel_rfl) (by kernel_rfl) (fun _ _ _ h => h) (Or.inl ⟨by kernel_rfl, ?_⟩) (by assumption) ?_
  rotate_left
  · intro Wt hSt
    go_simp
    try with_reducible rfl
  try simp only [List.getElem_toArray, List.getElem_cons_zero, List.getElem_cons_succ, Act.put, List.setIfInBounds_toArray, List.set_cons_zero, List.set_cons_succ]
  refine wpAnyH_take (i := 9) (v := ?_) rfl (by kernel_rfl) (by kernel_rfl) (by kernel_rfl) (fun _ _ _ h => h) (Or.inl ⟨by kernel_rfl, ?_⟩) (by assumption) ?_
  rotate_left
  · intro Wt hSt
    go_simp
    try with_reducible rfl
  try simp only [List.getElem_toArray, List.getElem_cons_zero, List.getElem_cons_succ, Act.put, List.setIfInBounds_toArray, List.set_cons_zero, List.set_cons_succ]
  refine wpAnyH_take (i := 10) (v := ?_) rfl (by kernel_rfl) (by kernel_rfl) (by kernel_rfl) (fun _ _ _ h => h) (Or.inl ⟨by kernel_rfl, ?_⟩) (by assumption) ?_
  rotate_left
  · intro Wt hSt
    go_simp
    try with_reducible rfl
  try simp only [List.getElem_toArray, List.getElem_cons_zero, List.getElem_cons_succ, Act.put, List.setIfInBounds_toArray, List.set_cons_zero, List.set_cons_succ]
  refine wpAnyH_take (i := 11) (v := ?_) rfl (by kernel_rfl) (by kernel_rfl) (by kernel_rfl) (fun _ _ _ h => h) (Or.inl ⟨by kernel_rfl, ?_⟩) (by assumption) ?_
  rotate_left
  · intro Wt hSt
    go_simp
    try with_reducible rfl
  try simp only [List.getElem_toArray, List.getElem_cons_zero, List.getElem_cons_succ, Act.put, List.setIfInBounds_toArray, List.set_cons_zero, List.set_cons_succ]
  refine wpAnyH_take (i := 12) (v := ?_) rfl (by kernel_rfl) (by kernel_rfl) (by kernel_rfl) (fun _ _ _ h => h) (Or.inl ⟨by kernel_rfl, ?_⟩) (by assumption) ?_
  rotate_left
  · intro Wt hSt
    go_simp
    try with_reducible rfl
  try simp only [List.getElem_toArray, List.getElem_cons_zero, List.getElem_cons_succ, Act.put, List.setIfInBounds_toArray, List.set_cons_zero, List.set_cons_succ]
  refine wpAnyH_take (i := 13) (v := ?_) rfl (by kernel_rfl) (by kernel_rfl) (by kernel_rfl) (fun _ _ _ h => h) (Or.inl ⟨by kernel_rfl, ?_⟩) (by assumption) ?_
  rotate_left
  · intro Wt hSt
    go_simp
    try with_reducible rfl
  try simp only [List.getElem_toArray, List.getElem_cons_zero, List.getElem_cons_succ, Act.put, List.setIfInBounds_toArray, List.set_cons_zero, List.set_cons_succ]
  refine wpAnyH_take (i := 14) (v := ?_) rfl (by kernel_rfl) (by kernel_rfl) (by kernel_rfl) (fun _ _ _ h => h) (Or.inl ⟨by kernel_rfl, ?_⟩) (by assumption) ?_
  rotate_left
  · intro Wt hSt
    go_simp
    try with_reducible rfl
  try simp only [List.getElem_toArray, List.getElem_cons_zero, List.getElem_cons_succ, Act.put, List.setIfInBounds_toArray, List.set_cons_zero, List.set_cons_succ]
  refine wpAnyH_take (i := 15) (v := ?_) rfl (by kernel_rfl) (by kernel_rfl) (by kernel_rfl) (fun _ _ _ h => h) (Or.inl ⟨by kernel_rfl, ?_⟩) (by assumption) ?_
  rotate_left
  · intro Wt hSt
    go_simp
    try with_reducible rfl
  try simp only [List.getElem_toArray, List.getElem_cons_zero, List.getElem_cons_succ, Act.put, List.setIfInBounds_toArray, List.set_cons_zero, List.set_cons_succ]
  refine wpAnyH_one 16 _ rfl (by kernel_rfl) (by kernel_rfl) ?_
  intro K hK
  go_simp
  have hgl := glen_any n m (unhide HQ).1 (unhide HQ).2.1 (unhide HQ).2.2.1 W
  rw [← (unhide HQ).2.2.2.2.2.2] at hgl
  refine hgl.mono ?_; rintro x W' ⟨rfl, rfl⟩
  dsimp only
  refine hK _ _ hSW ?_
  clear hK K hgl
  try simp only [List.getElem_toArray, List.getElem_cons_zero, List.getElem_cons_succ, Act.put, List.setIfInBounds_toArray, List.set_cons_zero, List.set_cons_succ]
  refine wpAnyH_take (i := 17) (v := ?_) rfl (by kernel_rfl) (by kernel_rfl) (by kernel_rfl) (fun _ _ _ h => h) (Or.inl ⟨by kernel_rfl, ?_⟩) (by assumption) ?_
  rotate_left
  · intro Wt hSt
    go_simp
    try with_reducible rfl
  try simp only [List.getElem_toArray, List.getElem_cons_zero, List.getElem_cons_succ, Act.put, List.setIfInBounds_toArray, List.set_cons_zero, List.set_cons_succ]
  refine wpAnyH_take (i := 18) (v := ?_) rfl (by kernel_rfl) (by kernel_rfl) (by kernel_rfl) (fun _ _ _ h => h) (Or.inl ⟨by kernel_rfl, ?_⟩) (by assumption) ?_
  rotate_left
  · intro Wt hSt
    go_simp
    try with_reducible rfl
  try simp only [List.getElem_toArray, List.getElem_cons_zero, List.getElem_cons_succ, Act.put, List.setIfInBounds_toArray, List.set_cons_zero, List.set_cons_succ]
  refine wpAnyH_chainOf [] _ _ _ (by kernel_rfl) (by kernel_rfl) ?_
  refine wpChain_nil ?_
  have hmf : ∀ (fn : Fn) (first cap : Array Value) (w : World), (Instr.makeFunc fn first cap).run Tryd.prog w = .ok (.func fn first cap) w := fun _ _ _ _ => rfl
  go_wp2_with fail
  refine (newHasher_any W' ((unhide HT).keep (unhide HB'))).mono ?_; rintro x W4 ⟨rfl, hB4⟩
  have HB4 := hide (thenB (unhide HB') hB4)
  have HO4 := hide ((unhide HO1).keep hB4)
  have HP4 := hide ((unhide HO2).keep hB4)
  obtain ⟨cs, hcs⟩ : ∃ cs, cs = ((LT ++ NT).map (Value.int .u8)).toArray := ⟨_, rfl⟩
  rw [show dv (LT ++ NT) = .agg cs by rw [hcs]]
  have HCS := hide hcs
  have HPB4 := hide ((unhide HPB).later hB4)
  clear hB4 hcs HO1 HO2 HPB hSC hSW
  dsimp only
  rename_i KK hK
  refine hK _ _ ?_
  clear hK KK
  refine wpList_plain rfl fun Kt hKt => ?_
  go_simp
  refine hKt _ _ ?_
  clear hKt Kt
  generalize hX5 : W4.alloc _ = W5
  have hB5 : Below W4.heap.size W4 W5 := hX5 ▸ (Below.refl _ _).alloc (Nat.le_refl _) _
  have ho5 : ByAt W5 W4.heap.size 64 (List.replicate 64 0) := by
    rw [← hX5]
    show (W4.heap.push _)[W4.heap.size]? = _
    rw [Array.getElem?_push_size]
    rfl
  have HH5 := hide ho5
  have hO5 := (unhide HO4).keep hB5
  have hP5 := (unhide HP4).keep hB5
  have HNE : Hid (w.heap.size + 2 < W4.heap.size) := (unhide HPB4).lt
  have HPB5 := hide ((unhide HPB4).later hB5)
  have hB05 := thenB (unhide HB4) hB5
  have HB5 := hide hB05
  have HO5 := hide hO5
  have HP5 := hide hP5
  clear hX5 hB5 ho5 hO5 hP5 hB05 HO4 HP4 HB4
  refine wpList_bstore rfl 64 (.tmp 11) (.tmp 35) rfl W4.heap.size rfl (LT ++ NT) (show Value.agg cs = _ by rw [unhide HCS]) 64 info64 (by simp [LT_length, NT_length]) _ (List.replicate 64 0) (unhide HH5) rfl ?_
  intro W6 HW6 HG6
  have HB6 := hide ((unhide HB5).grown (unhide HG6) (unhide HB5).size (fun i e => by injection e with e; have := unhide HNE; omega))
  have HO6 := hide ((unhide HO5).grown (unhide HG6) (by have := unhide HNE; omega))
  have HP6 := hide ((unhide HP5).grown (unhide HG6) (by have := unhide HNE; omega))
  have HPB6 := hide ((unhide HPB5).grown (unhide HG6) (fun k hk => by injection hk with hk; have := unhide HNE; omega))
  clear HG6 HO5 HP5 HB5 HH5 HPB4 HPB5
  go_wp2_with fail
  generalize hXn : W6.alloc _ = Wn
  have hBn : Below W6.heap.size W6 Wn := hXn ▸ (Below.refl _ _).alloc (Nat.le_refl _) _
  have hfn : Wn.cell? ⟨W6.heap.size, 0, none⟩ = some (NxVal (w.heap.size + 2)) := boxCell W6 Wn _ _ _ (by rw [← hXn]; rfl)
  have hzn : Wn.heap.size = W6.heap.size + 1 := by rw [← hXn]; show (W6.heap.push _).size = _; rw [Array.size_push]
  generalize hX7 : Wn.alloc _ = W7
  have hBn7 : Below Wn.heap.size Wn W7 := hX7 ▸ (Below.refl _ _).alloc (Nat.le_refl _) _
  have hfk : W7.cell? ⟨Wn.heap.size, 0, none⟩ = some (VwVal w.heap.size W6.heap.size (W6.heap.size + 1) W4.heap.size) := boxCell Wn W7 _ _ _ (by rw [← hX7]; rfl)
  rw [hzn] at hfk
  have hB7 := thenB hBn hBn7
  have hB07 := thenB (unhide HB6) hB7
  have hvpre : VPre W7.heap.size (w.heap.size + 2) w.heap.size W6.heap.size (W6.heap.size + 1) W4.heap.size W7 a n m true p := by
    have hQ := unhide HQ
    have hne := unhide HNE
    have h6 := lt_of_block (unhide HW6)
    have hs7 := hB7.size
    have ht := (unhide HT).top
    refine ⟨hQ.1, hQ.2.1, hQ.2.2.1, Nat.le_of_eq (unhide HE).2.symm, by omega, Nat.le_refl _, by omega, ⟨by omega, by omega, by omega, by omega, by omega⟩, unhide HGA, (unhide HO6).keep hB7, cellKeep hfn hBn7, hfk, (unhide HW6).keep hB7, (unhide HT).keep hB07, ⟨A, c, ?_, by omega, (unhide HA).keep hB07, ?_⟩⟩
    · rw [← hQ.2.2.2.1]; exact (unhide HPB6).later hB7
    · intro hp0 ad e
      have hl := ds_low (unhide HA) hp0 W7.heap.size hB07.size ad e
      have hl2 := ds_lt (unhide HA) hp0 ad e
      exact ⟨hl.1, by omega⟩
  have hcall := vwalk_any m _ _ _ _ _ _ _ _ _ _ _ _ _ _ (unhide HE).1 hvpre
  unfold VwIs at hcall
  have HB7 := hide (thenB (unhide HB6) hB7)
  have HO7 := hide ((unhide HO6).keep hB7)
  have HP7 := hide ((unhide HP6).keep hB7)
  clear hX7 hXn hBn hfn hzn hBn7 hfk hB7 hB07 hvpre HO6 HP6 HB6 HW6 HPB6
  obtain ⟨cX, hcX⟩ : ∃ cs, cs = (X.map (Value.int .u8)).toArray := ⟨_, rfl⟩
  have hsX : cX.size = 32 := by rw [hcX]; simpa using (unhide HGX).len
  obtain ⟨cY, hcY⟩ : ∃ cs, cs = (Y.map (Value.int .u8)).toArray := ⟨_, rfl⟩
  have hsY : cY.size = 32 := by rw [hcY]; simpa using (unhide HGY).len
  rw [show dv X = .agg cX by rw [hcX], show dv Y = .agg cY by rw [hcY]] at hcall
  have HCX := hide hcX; have HCY := hide hcY
  clear hcX hcY
  refine hcall.mono ?_; rintro x W8 ⟨rfl, hg8, hq8⟩
  clear hq8
  have HB8 := hide (GK.to_below (unhide HB7) hg8 (unhide HB7).size (by omega))
  have HO8 := hide (GW.at_ hg8 (unhide HO7) (by omega))
  have HP8 := hide (GW.at_ hg8 (unhide HP7) (by omega))
  clear hg8 hcall HO7 HP7 HB7
  dsimp only
  rename_i KK hK
  refine hK _ _ ?_
  clear hK KK
  refine wpList_plain rfl fun Kt hKt => ?_
  go_simp
  refine hKt _ _ ?_
  clear hKt Kt
  refine wpList_plain rfl fun Kt hKt => ?_
  go_simp
  refine hKt _ _ ?_
  clear hKt Kt
  refine wpList_plain rfl fun Kt hKt => ?_
  go_simp
  refine hKt _ _ ?_
  clear hKt Kt
  refine wpList_plain rfl fun Kt hKt => ?_
  go_simp
  refine hKt _ _ ?_
  clear hKt Kt
  generalize hX9 : W8.alloc _ = W9
  have hB9 : Below W8.heap.size W8 W9 := hX9 ▸ (Below.refl _ _).alloc (Nat.le_refl _) _
  have HN9 := hide (newBy W8 W9 (by rw [← hX9]; rfl))
  have hz9 : W9.heap.size = W8.heap.size + 1 := by rw [← hX9]; show (W8.heap.push _).size = _; rw [Array.size_push]
  refine wpList_plain rfl fun Kt hKt => ?_
  go_simp
  refine hKt _ _ ?_
  clear hKt Kt
  generalize hX10 : W9.alloc _ = W10
  have hB10 : Below W9.heap.size W9 W10 := hX10 ▸ (Below.refl _ _).alloc (Nat.le_refl _) _
  have hN10 := newBy W9 W10 (by rw [← hX10]; rfl)
  rw [hz9] at hN10
  have HN10 := hide hN10
  have HZ : Hid (w.heap.size + 1 < W8.heap.size) := lt_of_block (unhide HP8)
  have hBB := thenB hB9 hB10
  have HBB := hide (thenB (unhide HB8) hBB)
  have HOO := hide ((unhide HO8).keep hBB)
  have HPP := hide ((unhide HP8).keep hBB)
  have HNN := hide ((unhide HN9).keep hB10)
  clear hX9 hB9 HN9 hz9 hX10 hB10 hN10 hBB HO8 HP8
  refine wpList_bstore rfl 24 (.tmp 14) (.tmp 43) rfl W8.heap.size rfl X (show Value.agg cX = _ by rw [unhide HCX]) 32 info32 (unhide HGX).len _ zeros (unhide HNN) rfl ?_
  intro V1 HV1 HG1
  have hN1 := (unhide HN10).grown (unhide HG1) (by omega)
  have hBV1 := (unhide HBB).grown (unhide HG1) (unhide HBB).size (fun i e => by injection e with e; have := unhide HZ; omega)
  have hOV1 := (unhide HOO).grown (unhide HG1) (by have := unhide HZ; omega)
  have hPV1 := (unhide HPP).grown (unhide HG1) (by have := unhide HZ; omega)
  have HN1 := hide hN1
  have HBV1 := hide hBV1
  have HOV1 := hide hOV1
  have HPV1 := hide hPV1
  clear hN1 hBV1 hOV1 hPV1 HG1 HBB HOO HPP HNN HN10
  refine wpList_bstore rfl 24 (.tmp 15) (.tmp 44) rfl (W8.heap.size + 1) rfl Y (show Value.agg cY = _ by rw [unhide HCY]) 32 info32 (unhide HGY).len _ zeros (unhide HN1) rfl ?_
  intro V2 HV2 HG2
  have hW1 := (unhide HV1).grown (unhide HG2) (by omega)
  have hBV2 := (unhide HBV1).grown (unhide HG2) (unhide HBV1).size (fun i e => by injection e with e; have := unhide HZ; omega)
  have hOV2 := (unhide HOV1).grown (unhide HG2) (by have := unhide HZ; omega)
  have hPV2 := (unhide HPV1).grown (unhide HG2) (by have := unhide HZ; omega)
  have HX := hide hW1
  have HBX := hide hBV2
  have HOX := hide hOV2
  have HPX := hide hPV2
  clear hW1 hBV2 hOV2 hPV2 HG2 HV1 HN1 HBV1 HOV1 HPV1
  go_upto_region 8 with fail
  refine wp_region_lit ?_
  refine wpList_bload rfl 24 (.tmp 14) rfl W8.heap.size rfl _ Tryd.underlying24 rfl 32 info32 _ X (unhide HX) (unhide HGX).len ?_
  refine wpList_bload rfl 24 (.tmp 5) rfl w.heap.size rfl _ Tryd.underlying24 rfl 32 info32 _ a (unhide HOX) (unhide HGA).len ?_
  refine wpList_eql (by kernel_rfl) (.tmp 45) (.tmp 46) _ rfl X a rfl rfl (unhide HGX).len (unhide HGA).len ?_
  rw [show dv X = .agg cX by rw [unhide HCX], show dv a = .agg ca by rw [unhide HCA]]
  by_cases hXa : X = a
  · rw [show decide (X = a) = true from decide_eq_true hXa]
    try simp only [List.getElem_toArray, List.getElem_cons_zero, List.getElem_cons_succ, Act.put, List.setIfInBounds_toArray, List.set_cons_zero, List.set_cons_succ]
    refine wpList_wanted (by kernel_rfl) fun Kt hKt => ?_
    go_simp
    refine hKt _ _ ?_
    clear hKt Kt
    refine wpList_gload (by kernel_rfl) 24 (.tmp 15) rfl (W8.heap.size + 1) rfl _ Tryd.underlying24 rfl 32 info32 _ Y (unhide HV2) (unhide HGY).len ?_
    refine wpList_gload (by kernel_rfl) 24 (.tmp 6) rfl (w.heap.size + 1) rfl _ Tryd.underlying24 rfl 32 info32 _ b (unhide HPX) (unhide HGB).len ?_
    refine wpList_eql (by kernel_rfl) (.tmp 49) (.tmp 50) _ rfl Y b rfl rfl (unhide HGY).len (unhide HGB).len ?_
    rw [show dv Y = .agg cY by rw [unhide HCY], show dv b = .agg cb by rw [unhide HCB]]
    obtain ⟨bo, hbo⟩ : ∃ z, z = decide (Y = b) := ⟨_, rfl⟩
    rw [← hbo]
    try simp only [List.getElem_toArray, List.getElem_cons_zero, List.getElem_cons_succ, Act.put, List.setIfInBounds_toArray, List.set_cons_zero, List.set_cons_succ]
    go_wp2_with fail
    go_ret
    exact ⟨by rw [hbo, decide_eq_true hXa]; rfl, unhide HBX⟩
  · rw [show decide (X = a) = false from decide_eq_false hXa]
    try simp only [List.getElem_toArray, List.getElem_cons_zero, List.getElem_cons_succ, Act.put, List.setIfInBounds_toArray, List.set_cons_zero, List.set_cons_succ]
    go_wp2_with fail
    go_ret
    exact ⟨by rw [decide_eq_false hXa]; rfl, unhide HBX⟩
set_option maxRecDepth 100000 in
set_option maxHeartbeats 1000000 in
theorem Grew_len (a b : List Int) (n m : Nat) (p : List (List Int)) (A : Option Addr) (c : Nat) (w : World) (ha : Dg a) (hb : Dg b) (hn1 : 1 ≤ n) (hnm : n ≤ m) (hm40 : m ≤ 1099511627776) (hA : Ds w A p) (hpc : p.length ≤ c) (hp8 : p.length ≤ 100000000) (hl : p.length ≠ gLen n m true) (hT : DTab w) :
    Calls Tryd.prog 24 #[dv a, dv b, .int .i64 (n : Int), .int .i64 (m : Int), .slice A p.length c] w fun x w' => x = .returned (.bool false) ∧ Below w.heap.size w w' := by
  obtain ⟨len, hlen⟩ : ∃ z, z = p.length := ⟨_, rfl⟩
  rw [← hlen]
  obtain ⟨T, hTl⟩ : ∃ T, T = gLen n m true := ⟨_, rfl⟩
  have g1 : ¬ (n : Int) < 1 := by omega
  have g2 : ¬ (m : Int) < (n : Int) := by omega
  have g3 : ¬ (1099511627776 : Int) < (m : Int) := by omega
  have g4 : ¬ (len : Int) = (T : Int) := by omega
  have HA := hide hA
  have HQ : Hid (1 ≤ n ∧ n ≤ m ∧ m ≤ 1099511627776 ∧ len = p.length ∧ len ≤ c ∧ len ≤ 100000000 ∧ T = gLen n m true) := ⟨hn1, hnm, hm40, hlen, by omega, by omega, hTl⟩
  clear hA hpc hp8 hn1 hnm hm40 hlen hTl hl
  have HT := hide hT
  have HGA := hide ha
  have HGB := hide hb
  obtain ⟨ca, hca⟩ : ∃ cs, cs = (a.map (Value.int .u8)).toArray := ⟨_, rfl⟩
  have hsa : ca.size = 32 := by rw [hca]; simpa using ha.len
  have HCA := hide hca
  obtain ⟨cb, hcb⟩ : ∃ cs, cs = (b.map (Value.int .u8)).toArray := ⟨_, rfl⟩
  have hsb : cb.size = 32 := by rw [hcb]; simpa using hb.len
  have HCB := hide hcb
  rw [show dv a = .agg ca by rw [hca], show dv b = .agg cb by rw [hcb]]
  clear hT ha hb hca hcb
  go_enter Tryd.func24, Tryd.ntmps24
  go_upto_region 1 with fail
  generalize hX1 : w.alloc _ = W1
  have hB1 : Below w.heap.size w W1 := hX1 ▸ (Below.refl _ _).alloc (Nat.le_refl _) _
  have ho1 : ByAt W1 w.heap.size 24 a := boxed w W1 a _ (by rw [← hX1]; first | rfl | (rw [unhide HCA]; rfl))
  have hz1 : W1.heap.size = w.heap.size + 1 := by rw [← hX1]; show (w.heap.push _).size = _; rw [Array.size_push]
  generalize hX2 : W1.alloc _ = W2
  have hB2 : Below W1.heap.size W1 W2 := hX2 ▸ (Below.refl _ _).alloc (Nat.le_refl _) _
  have ho2 : ByAt W2 W1.heap.size 24 b := boxed W1 W2 b _ (by rw [← hX2]; first | rfl | (rw [unhide HCB]; rfl))
  have hz2 : W2.heap.size = w.heap.size + 2 := by rw [← hX2]; show (W1.heap.push _).size = _; rw [Array.size_push]; omega
  generalize hX3 : W2.alloc _ = W3
  have hB3 : Below W2.heap.size W2 W3 := hX3 ▸ (Below.refl _ _).alloc (Nat.le_refl _) _
  have hpb3 : PB W3 W2.heap.size (.slice A len c) := by
    rw [← hX3]
    show (W2.heap.push _)[W2.heap.size]? = _
    rw [Array.getElem?_push_size]
  have ho3 := hpb3.cell
  have hz3 : W3.heap.size = w.heap.size + 3 := by rw [← hX3]; show (W2.heap.push _).size = _; rw [Array.size_push]; omega
  rw [hz1] at ho2
  rw [hz2] at ho3 hpb3
  have hB := thenB (thenB hB1 hB2) hB3
  have hO1 := (ho1.keep hB2).keep hB3
  have hO2 := ho2.keep hB3
  obtain ⟨W, hW⟩ : ∃ W, W = W3.drewN 1 := ⟨_, rfl⟩
  have HW : Hid (W = W3.drewN 1) := hW
  have HB' := hide (thenB hB (below_named HW))
  have HO1 := hide (hO1.keep (below_named HW))
  have HO2 := hide (hO2.keep (below_named HW))
  have HPB := hide (hpb3.later (below_named HW))
  have hSW : SC W (w.heap.size + 2) (.slice A len c) W := ⟨Below.refl _ _, cellKeep ho3 (below_named HW)⟩
  have hSC := fun W' (h : SC W (w.heap.size + 2) (.slice A len c) W') => h.cell
  clear hX1 hX2 hX3 hB1 hB2 hB3 ho1 ho2 ho3 hpb3 hz1 hz2 hB hO1 hO2 hW
  refine held (S := SC W (w.heap.size + 2) (.slice A len c)) W HW (by kernel_rfl) ?_
  refine wpAnyH_take (i := 0) (v := ?_) rfl (by kernel_rfl) (by kernel_rfl) (by kernel_rfl) (fun _ _ _ h => h) (Or.inl ⟨by kernel_rfl, ?_⟩) (by assumption) ?_
  rotate_left
  · intro Wt hSt
    go_simp
    try with_reducible rfl
  try simp only [List.getElem_toArray, List.getElem_cons_zero, List.getElem_cons_succ, Act.put, List.setIfInBounds_toArray, List.set_cons_zero, List.set_cons_succ]
  refine wpAnyH_take (i := 1) (v := ?_) rfl (by kernel_rfl) (by kernel_rfl) (by kernel_rfl) (fun _ _ _ h => h) (Or.inl ⟨by kernel_rfl, ?_⟩) (by assumption) ?_
  rotate_left
  · intro Wt hSt
    go_simp
    try with_reducible rfl
  try simp only [List.getElem_toArray, List.getElem_cons_zero, List.getElem_cons_succ, Act.put, List.setIfInBounds_toArray, List.set_cons_zero, List.set_cons_succ]
  refine wpAnyH_take (i := 2) (v := ?_) rfl (by kernel_rfl) (by kernel_rfl) (by kernel_rfl) (fun _ _ _ h => h) (Or.inl ⟨by kernel_rfl, ?_⟩) (by assumption) ?_
  rotate_left
  · intro Wt hSt
    go_simp
    try with_reducible rfl
  try simp only [List.getElem_toArray, List.getElem_cons_zero, List.getElem_cons_succ, Act.put, List.setIfInBounds_toArray, List.set_cons_zero, List.set_cons_succ]
  refine wpAnyH_take (i := 3) (v := ?_) rfl (by kernel_rfl) (by kernel_rfl) (by kernel_rfl) (fun _ _ _ h => h) (Or.inl ⟨by kernel_rfl, ?_⟩) (by assumption) ?_
  rotate_left
  · intro Wt hSt
    go_simp
    try with_reducible rfl
  try simp only [List.getElem_toArray, List.getElem_cons_zero, List.getElem_cons_succ, Act.put, List.setIfInBounds_toArray, List.set_cons_zero, List.set_cons_succ]
  refine wpAnyH_take (i := 4) (v := ?_) rfl (by kernel_rfl) (by kernel_rfl) (by kernel_rfl) (fun _ _ _ h => h) (Or.inl ⟨by kernel_rfl, ?_⟩) (by assumption) ?_
  rotate_left
  · intro Wt hSt
    go_simp
    try with_reducible rfl
  try simp only [List.getElem_toArray, List.getElem_cons_zero, List.getElem_cons_succ, Act.put, List.setIfInBounds_toArray, List.set_cons_zero, List.set_cons_succ]
  refine wpAnyH_take (i := 5) (v := ?_) rfl (by kernel_rfl) (by kernel_rfl) (by kernel_rfl) (fun _ _ _ h => h) (Or.inl ⟨by kernel_rfl, ?_⟩) (by assumption) ?_
  rotate_left
  · intro Wt hSt
    go_simp
    try with_reducible rfl
  try simp only [List.getElem_toArray, List.getElem_cons_zero, List.getElem_cons_succ, Act.put, List.setIfInBounds_toArray, List.set_cons_zero, List.set_cons_succ]
  refine wpAnyH_take (i := 6) (v := ?_) rfl (by kernel_rfl) (by kernel_rfl) (by kernel_rfl) (fun _ _ _ h => h) (Or.inl ⟨by kernel_rfl, ?_⟩) (by assumption) ?_
  rotate_left
  · intro Wt hSt
    go_simp
    try with_reducible rfl
  try simp only [List.getElem_toArray, List.getElem_cons_zero, List.getElem_cons_succ, Act.put, List.setIfInBounds_toArray, List.set_cons_zero, List.set_cons_succ]
  refine wpAnyH_take (i := 7) (v := ?_) rfl (by kernel_rfl) (by kernel_rfl) (by kernel_rfl) (fun _ _ _ h => h) (Or.inl ⟨by kernel_rfl, ?_⟩) (by assumption) ?_
  rotate_left
  · intro Wt hSt
    go_simp
    try with_reducible rfl
  try simp only [List.getElem_toArray, List.getElem_cons_zero, List.getElem_cons_succ, Act.put, List.setIfInBounds_toArray, List.set_cons_zero, List.set_cons_succ]
  refine wpAnyH_take (i := 8) (v := ?_) rfl (by kernel_rfl) (by kernel_rfl) (by kernel_rfl) (fun _ _ _ h => h) (Or.inl ⟨by kernel_rfl, ?_⟩) (by assumption) ?_
  rotate_left
  · intro Wt hSt
    go_simp
    try with_reducible rfl
  try simp only [List.getElem_toArray, List.getElem_cons_zero, List.getElem_cons_succ, Act.put, List.setIfInBounds_toArray, List.set_cons_zero, List.set_cons_succ]
  refine wpAnyH_take (i := 9) (v := ?_) rfl (by kernel_rfl) (by kernel_rfl) (by kernel_rfl) (fun _ _ _ h => h) (Or.inl ⟨by kernel_rfl, ?_⟩) (by assumption) ?_
  rotate_left
  · intro Wt hSt
    go_simp
    try with_reducible rfl
  try simp only [List.getElem_toArray, List.getElem_cons_zero, List.getElem_cons_succ, Act.put, List.setIfInBounds_toArray, List.set_cons_zero, List.set_cons_succ]
  refine wpAnyH_take (i := 10) (v := ?_) rfl (by kernel_rfl) (by kernel_rfl) (by kernel_rfl) (fun _ _ _ h => h) (Or.inl ⟨by kernel_rfl, ?_⟩) (by assumption) ?_
  rotate_left
  · intro Wt hSt
    go_simp
    try with_reducible rfl
  try simp only [List.getElem_toArray, List.getElem_cons_zero, List.getElem_cons_succ, Act.put, List.setIfInBounds_toArray, List.set_cons_zero, List.set_cons_succ]
  refine wpAnyH_take (i := 11) (v := ?_) rfl (by kernel_rfl) (by kernel_rfl) (by kernel_rfl) (fun _ _ _ h => h) (Or.inl ⟨by kernel_rfl, ?_⟩) (by assumption) ?_
  rotate_left
  · intro Wt hSt
    go_simp
    try with_reducible rfl
  try simp only [List.getElem_toArray, List.getElem_cons_zero, List.getElem_cons_succ, Act.put, List.setIfInBounds_toArray, List.set_cons_zero, List.set_cons_succ]
  refine wpAnyH_take (i := 12) (v := ?_) rfl (by kernel_rfl) (by kernel_rfl) (by kernel_rfl) (fun _ _ _ h => h) (Or.inl ⟨by kernel_rfl, ?_⟩) (by assumption) ?_
  rotate_left
  · intro Wt hSt
    go_simp
    try with_reducible rfl
  try simp only [List.getElem_toArray, List.getElem_cons_zero, List.getElem_cons_succ, Act.put, List.setIfInBounds_toArray, List.set_cons_zero, List.set_cons_succ]
  refine wpAnyH_take (i := 13) (v := ?_) rfl (by kernel_rfl) (by kernel_rfl) (by kernel_rfl) (fun _ _ _ h => h) (Or.inl ⟨by kernel_rfl, ?_⟩) (by assumption) ?_
  rotate_left
  · intro Wt hSt
    go_simp
    try with_reducible rfl
  try simp only [List.getElem_toArray, List.getElem_cons_zero, List.getElem_cons_succ, Act.put, List.setIfInBounds_toArray, List.set_cons_zero, List.set_cons_succ]
  refine wpAnyH_take (i := 14) (v := ?_) rfl (by kernel_rfl) (by kernel_rfl) (by kernel_rfl) (fun _ _ _ h => h) (Or.inl ⟨by kernel_rfl, ?_⟩) (by assumption) ?_
  rotate_left
  · intro Wt hSt
    go_simp
    try with_reducible rfl
  try simp only [List.getElem_toArray, List.getElem_cons_zero, List.getElem_cons_succ, Act.put, List.setIfInBounds_toArray, List.set_cons_zero, List.set_cons_succ]
  refine wpAnyH_take (i := 15) (v := ?_) rfl (by kernel_rfl) (by kernel_rfl) (by kernel_rfl) (fun _ _ _ h => h) (Or.inl ⟨by kernel_rfl, ?_⟩) (by assumption) ?_
  rotate_left
  · intro Wt hSt
    go_simp
    try with_reducible rfl
  try simp only [List.getElem_toArray, List.getElem_cons_zero, List.getElem_cons_succ, Act.put, List.setIfInBounds_toArray, List.set_cons_zero, List.set_cons_succ]
  refine wpAnyH_one 16 _ rfl (by kernel_rfl) (by kernel_rfl) ?_
  intro K hK
  go_simp
  have hgl := glen_any n m (unhide HQ).1 (unhide HQ).2.1 (unhide HQ).2.2.1 W
  rw [← (unhide HQ).2.2.2.2.2.2] at hgl
  refine hgl.mono ?_; rintro x W' ⟨rfl, rfl⟩
  dsimp only
  refine hK _ _ hSW ?_
  clear hK K hgl
  try simp only [List.getElem_toArray, List.getElem_cons_zero, List.getElem_cons_succ, Act.put, List.setIfInBounds_toArray, List.set_cons_zero, List.set_cons_succ]
  refine wpAnyH_take (i := 17) (v := ?_) rfl (by kernel_rfl) (by kernel_rfl) (by kernel_rfl) (fun _ _ _ h => h) (Or.inl ⟨by kernel_rfl, ?_⟩) (by assumption) ?_
  rotate_left
  · intro Wt hSt
    go_simp
    try with_reducible rfl
  try simp only [List.getElem_toArray, List.getElem_cons_zero, List.getElem_cons_succ, Act.put, List.setIfInBounds_toArray, List.set_cons_zero, List.set_cons_succ]
  refine wpAnyH_take (i := 18) (v := ?_) rfl (by kernel_rfl) (by kernel_rfl) (by kernel_rfl) (fun _ _ _ h => h) (Or.inl ⟨by kernel_rfl, ?_⟩) (by assumption) ?_
  rotate_left
  · intro Wt hSt
    go_simp
    try with_reducible rfl
  try simp only [List.getElem_toArray, List.getElem_cons_zero, List.getElem_cons_succ, Act.put, List.setIfInBounds_toArray, List.set_cons_zero, List.set_cons_succ]
  refine wpAnyH_chainOf [] _ _ _ (by kernel_rfl) (by kernel_rfl) ?_
  refine wpChain_nil ?_
  have HEND := HB'
  go_wp2_with fail
  go_ret
  exact ⟨rfl, unhide HEND⟩
end Go.Proofs.YtceppmajbkmbdaaDoor
