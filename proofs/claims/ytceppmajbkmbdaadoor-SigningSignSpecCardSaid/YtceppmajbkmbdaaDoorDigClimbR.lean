/- Contracts over the digest's program: climbing a path, to the right. -/
import Derived.Test.YtceppmajbkmbdaaDoorDigClimb
namespace Go.Proofs.YtceppmajbkmbdaaDoor
set_option linter.unusedSimpArgs false
set_option linter.unusedVariables false
open Go.RowKit

set_option maxRecDepth 100000 in
set_option maxHeartbeats 4000000 in
theorem climb_right (n : Nat) (h2 : 2 ≤ n) (IH : ∀ n', n' < n → ∀ (at_ : Nat) (d : List Int) (p : List (List Int)) (w : World) (hb m c : Nat) (A : Option Addr), 1 ≤ n' → at_ < n' → p.length = m → m = lenP n' at_ → m ≤ c → Dg d → Ds w A p → HAt w hb → DTab w → ClimbIs w hb d n' at_ m c A p)
    (at_ : Nat) (d : List Int) (p : List (List Int)) (w : World) (hb m c : Nat) (A : Option Addr) (hn : n ≤ 1099511627776) (h1 : 1 ≤ n) (hat : at_ < n) (hpm : p.length = m) (hm : m = lenP n at_) (hmc : m ≤ c) (hd : Dg d) (hA : Ds w A p) (h : HAt w hb) (hT : DTab w) (hak : ¬ at_ < halfN n) : ClimbIs w hb d n at_ m c A p := by
  have HI := hide IH
  have HT := hide hT
  have HH := hide h
  have HA := hide hA
  have HD := hide hd
  have HN : Hid (n ≤ 1099511627776 ∧ 1 ≤ n ∧ at_ < n ∧ p.length = m ∧ m = lenP n at_ ∧ m ≤ c) := ⟨hn, h1, hat, hpm, hm, hmc⟩
  obtain ⟨cd, hcd⟩ : ∃ cs, cs = (d.map (Value.int .u8)).toArray := ⟨_, rfl⟩
  have hsd : cd.size = 32 := by rw [hcd]; simpa using hd.len
  have HCD := hide hcd
  unfold ClimbIs
  rw [show dv d = .agg cd by rw [hcd]]
  obtain ⟨k, hk⟩ : ∃ k, k = halfN n := ⟨_, rfl⟩
  have hkn := halfN_lt h2
  have hk0 := halfN_pos n
  rw [← hk] at hkn hk0
  have n1 : ¬ (n : Int) = 1 := by omega
  have a0 : (0 : Int) ≤ (at_ : Int) := Int.natCast_nonneg _
  have hm0 : 0 < m := by
    rw [hm]
    by_cases ha : at_ < halfN n
    · rw [lenP_left h2 ha]; omega
    · rw [lenP_right h2 ha]; omega
  have hpne : p ≠ [] := fun e => by rw [e] at hpm; simp at hpm; omega
  obtain ⟨pb, po, rfl, hrg⟩ := hA.at_ hpne
  have hlg := lastP_get hpne
  have hrl := hrg _ _ hlg
  have hdl : Dg (lastP p) := hA.dg _ (List.mem_of_getElem? hlg)
  obtain ⟨la, hla⟩ : ∃ la, la = m - 1 := ⟨_, rfl⟩
  rw [hpm, ← hla] at hrl
  have HRL := hide hrl
  have HDL := hide hdl
  have hll := lenP_lt n at_ h1
  have wl : IntKind.i64.wrap ((m : Int) - 1) = (la : Int) := (IntWalk.i64_in _ (by omega)).trans (by omega)
  have l0 : (0 : Int) ≤ (la : Int) := Int.natCast_nonneg _
  have l1 : (la : Int) < (m : Int) := by omega
  have l2 : (la : Int) ≤ (m : Int) := by omega
  have l3 : (la : Int) ≤ (c : Int) := by omega
  obtain ⟨cl, hcl⟩ : ∃ cs, cs = ((lastP p).map (Value.int .u8)).toArray := ⟨_, rfl⟩
  have hsl : cl.size = 32 := by rw [hcl]; simpa using hdl.len
  have HCL := hide hcl
  have HK : Hid (k = halfN n ∧ 0 < k ∧ k < n ∧ 2 ≤ n ∧ la = m - 1 ∧ 0 < m) := ⟨hk, hk0, hkn, h2, hla, hm0⟩
  have hil : (initP p).length = la := by unfold initP; simp; omega
  have HIL : Hid ((initP p).length = la) := hil
  have i1 : ¬ (at_ : Int) < (k : Int) := by omega
  obtain ⟨nk, hnk⟩ : ∃ l, l = n - k := ⟨_, rfl⟩
  obtain ⟨ak, hak2⟩ : ∃ l, l = at_ - k := ⟨_, rfl⟩
  have wm : IntKind.i64.wrap ((n : Int) - (k : Int)) = (nk : Int) := (IntWalk.i64_in _ (by omega)).trans (by omega)
  have wa : IntKind.i64.wrap ((at_ : Int) - (k : Int)) = (ak : Int) := (IntWalk.i64_in _ (by omega)).trans (by omega)
  obtain ⟨T1, hT1⟩ : ∃ T, T = climbP d nk ak (initP p) := ⟨_, rfl⟩
  have hlen : la = lenP nk ak := by rw [hla, hm, hnk, hak2, hk, lenP_right h2 (hk ▸ hak)]; omega
  have e0 : climbP d n at_ p = nodeP (lastP p) T1 := by rw [hT1, hnk, hak2, hk]; exact climbP_right d p h2 (hk ▸ hak)
  obtain ⟨c1, hc1⟩ : ∃ cs, cs = (T1.map (Value.int .u8)).toArray := ⟨_, rfl⟩
  have hg1 : Dg T1 := hT1 ▸ dg_climb _ _ _ _
  have hs1 : c1.size = 32 := by rw [hc1]; simpa using hg1.len
  have HF1 : Hid (∀ W, Below w.heap.size w W → Calls Tryd.prog 55 #[.pointer (some ⟨hb, 0, none⟩), .agg cd, .int .i64 (ak : Int), .int .i64 (nk : Int), .slice (some ⟨pb, po, none⟩) la c] W fun x w' => x = .returned (.agg c1) ∧ Below W.heap.size W w') := fun W hB => by
    have := (unhide HI) nk (by omega) ak d (initP p) W hb la c (some ⟨pb, po, none⟩) (by omega) (by omega) (unhide HIL) hlen (by omega) (unhide HD) (((unhide HA).keep hB).take _) ((unhide HH).keep hB) ((unhide HT).keep hB)
    unfold ClimbIs at this
    rw [show dv d = .agg cd by rw [unhide HCD]] at this
    refine this.mono ?_
    rintro x w' ⟨rfl, h'⟩
    exact ⟨by rw [hc1, hT1], h'⟩
  have HF2 : Hid (∀ W, Below w.heap.size w W → Calls Tryd.prog 63 #[.pointer (some ⟨hb, 0, none⟩), .agg cl, .agg c1] W fun x w' => x = .returned (dv (climbP d n at_ p)) ∧ Below W.heap.size W w') := fun W hB => by
    rw [hc1, hcl, e0]
    exact node_any W hb (lastP p) T1 ((unhide HH).keep hB) (unhide HDL) hg1 ((unhide HT).keep hB)
  clear IH hn h1 hat hpm hm hmc hd hA h hT hcd hk hkn hk0 h2 hm0 hpne hrg hlg hrl hdl hla hll hcl hil hak hT1 hlen e0 hc1 hg1 hnk hak2
  go_enter Tryd.func55, Tryd.ntmps55
  go_upto_region 1 with fail
  generalize hX1 : w.alloc _ = W1
  have hB1 : Below w.heap.size w W1 := hX1 ▸ (Below.refl _ _).alloc (Nat.le_refl _) _
  have ho1 : ByAt W1 w.heap.size 24 d := boxed w W1 d _ (by rw [← hX1]; first | rfl | (rw [unhide HCD]; rfl))
  have hz1 : W1.heap.size = w.heap.size + 1 := by rw [← hX1]; show (w.heap.push _).size = _; rw [Array.size_push]
  generalize hX2 : W1.alloc _ = W2
  have hB2 : Below W1.heap.size W1 W2 := hX2 ▸ (Below.refl _ _).alloc (Nat.le_refl _) _
  have ho2 : ByAt W2 W1.heap.size 24 zeros := newBy W1 W2 (by rw [← hX2]; rfl)
  rw [hz1] at ho2
  have HB := hide (thenB hB1 hB2)
  have HO1 := hide (ho1.keep hB2)
  have HO2 := hide ho2
  clear hX1 hX2 hB1 hB2 ho1 ho2 hz1
  go_wp2_with fail
  refine (split_any n (unhide HK).2.2.2.1 (unhide HN).1 W2).mono ?_; rintro x W3 ⟨rfl, rfl⟩
  rw [← (unhide HK).1]
  obtain ⟨W, hW⟩ : ∃ W, W = W3.drewN 1 := ⟨_, rfl⟩
  have HW : Hid (W = W3.drewN 1) := hW
  have hSW : SB w d W := ⟨thenB (unhide HB) (below_named HW), (unhide HO1).keep (below_named HW)⟩
  have HOW := hide ((unhide HO2).keep (below_named HW))
  clear hW
  go_wp2_with fail
  refine held (S := SB w d) W HW (by kernel_rfl) ?_
  refine wpAnyH_take (i := 0) (v := ?_) rfl (by kernel_rfl) (by kernel_rfl) (by kernel_rfl) (fun _ _ _ h => h) (Or.inl ⟨by kernel_rfl, ?_⟩) (by assumption) ?_
  rotate_left
  · intro Wt hSt
    go_simp
    try with_reducible rfl
  try simp only [List.getElem_toArray, List.getElem_cons_zero, List.getElem_cons_succ, Act.put, List.setIfInBounds_toArray, List.set_cons_zero, List.set_cons_succ]
  refine wpAnyH_take (i := 1) (v := ?_) rfl (by kernel_rfl) (by kernel_rfl) (by kernel_rfl) (fun _ _ _ h => h) (Or.inl ⟨by kernel_rfl, ?_⟩) (by assumption) ?_
  rotate_left
  · intro Wt hSt
    go_simp
    try with_reducible rfl
  try simp only [List.getElem_toArray, List.getElem_cons_zero, List.getElem_cons_succ, Act.put, List.setIfInBounds_toArray, List.set_cons_zero, List.set_cons_succ]
  refine wpAnyH_take (i := 2) (v := ?_) rfl (by kernel_rfl) (by kernel_rfl) (by kernel_rfl) (fun _ _ _ h => h) (Or.inl ⟨by kernel_rfl, ?_⟩) (by assumption) ?_
  rotate_left
  · intro Wt hSt
    go_simp
    try with_reducible rfl
  try simp only [List.getElem_toArray, List.getElem_cons_zero, List.getElem_cons_succ, Act.put, List.setIfInBounds_toArray, List.set_cons_zero, List.set_cons_succ]
  refine wpAnyH_take (i := 3) (v := ?_) rfl (by kernel_rfl) (by kernel_rfl) (by kernel_rfl) (fun _ _ _ h => h) (Or.inl ⟨by kernel_rfl, ?_⟩) (by assumption) ?_
  rotate_left
  · intro Wt hSt
    go_simp
    try with_reducible rfl
  try simp only [List.getElem_toArray, List.getElem_cons_zero, List.getElem_cons_succ, Act.put, List.setIfInBounds_toArray, List.set_cons_zero, List.set_cons_succ]
  refine wpAnyH_take (i := 4) (v := .agg cl) rfl (by kernel_rfl) (by kernel_rfl) (by kernel_rfl) (fun _ _ _ h => h) (by rw [unhide HCL]; exact yieldsIf_load_mid (by kernel_rfl) 24 (.tmp 43) rfl pb (po + la * 32) rfl ((lastP p).map (Value.int .u8)) _ (fun W hS => rangeAt_keep (unhide HRL) hS.lo) Tryd.underlying24 rfl (by rw [List.length_map, (unhide HDL).len]; exact info32)) (by assumption) ?_
  try simp only [List.getElem_toArray, List.getElem_cons_zero, List.getElem_cons_succ, Act.put, List.setIfInBounds_toArray, List.set_cons_zero, List.set_cons_succ]
  refine wpAnyH_take (i := 5) (v := ?_) rfl (by kernel_rfl) (by kernel_rfl) (by kernel_rfl) (fun _ _ _ h => h) (Or.inl ⟨by kernel_rfl, ?_⟩) (by assumption) ?_
  rotate_left
  · intro Wt hSt
    go_simp
    try with_reducible rfl
  try simp only [List.getElem_toArray, List.getElem_cons_zero, List.getElem_cons_succ, Act.put, List.setIfInBounds_toArray, List.set_cons_zero, List.set_cons_succ]
  refine wpAnyH_take (i := 6) (v := .agg cd) rfl (by kernel_rfl) (by kernel_rfl) (by kernel_rfl) (fun _ _ _ h => h) (by rw [unhide HCD]; exact yieldsIf_load_mid (by kernel_rfl) 24 (.tmp 6) rfl w.heap.size 0 rfl (d.map (Value.int .u8)) _ (fun W hS => hS.box.range) Tryd.underlying24 rfl (by rw [List.length_map, (unhide HD).len]; exact info32)) (by assumption) ?_
  try simp only [List.getElem_toArray, List.getElem_cons_zero, List.getElem_cons_succ, Act.put, List.setIfInBounds_toArray, List.set_cons_zero, List.set_cons_succ]
  refine wpAnyH_take (i := 7) (v := ?_) rfl (by kernel_rfl) (by kernel_rfl) (by kernel_rfl) (fun _ _ _ h => h) (Or.inl ⟨by kernel_rfl, ?_⟩) (by assumption) ?_
  rotate_left
  · intro Wt hSt
    go_simp
    try with_reducible rfl
  try simp only [List.getElem_toArray, List.getElem_cons_zero, List.getElem_cons_succ, Act.put, List.setIfInBounds_toArray, List.set_cons_zero, List.set_cons_succ]
  refine wpAnyH_take (i := 8) (v := ?_) rfl (by kernel_rfl) (by kernel_rfl) (by kernel_rfl) (fun _ _ _ h => h) (Or.inl ⟨by kernel_rfl, ?_⟩) (by assumption) ?_
  rotate_left
  · intro Wt hSt
    go_simp
    try with_reducible rfl
  try simp only [List.getElem_toArray, List.getElem_cons_zero, List.getElem_cons_succ, Act.put, List.setIfInBounds_toArray, List.set_cons_zero, List.set_cons_succ]
  refine wpAnyH_take (i := 9) (v := ?_) rfl (by kernel_rfl) (by kernel_rfl) (by kernel_rfl) (fun _ _ _ h => h) (Or.inl ⟨by kernel_rfl, ?_⟩) (by assumption) ?_
  rotate_left
  · intro Wt hSt
    go_simp
    try with_reducible rfl
  try simp only [List.getElem_toArray, List.getElem_cons_zero, List.getElem_cons_succ, Act.put, List.setIfInBounds_toArray, List.set_cons_zero, List.set_cons_succ]
  refine wpAnyH_take (i := 10) (v := ?_) rfl (by kernel_rfl) (by kernel_rfl) (by kernel_rfl) (fun _ _ _ h => h) (Or.inl ⟨by kernel_rfl, ?_⟩) (by assumption) ?_
  rotate_left
  · intro Wt hSt
    go_simp
    try with_reducible rfl
  try simp only [List.getElem_toArray, List.getElem_cons_zero, List.getElem_cons_succ, Act.put, List.setIfInBounds_toArray, List.set_cons_zero, List.set_cons_succ]
  refine wpAnyH_take (i := 11) (v := ?_) rfl (by kernel_rfl) (by kernel_rfl) (by kernel_rfl) (fun _ _ _ h => h) (Or.inl ⟨by kernel_rfl, ?_⟩) (by assumption) ?_
  rotate_left
  · intro Wt hSt
    go_simp
    try with_reducible rfl
  try simp only [List.getElem_toArray, List.getElem_cons_zero, List.getElem_cons_succ, Act.put, List.setIfInBounds_toArray, List.set_cons_zero, List.set_cons_succ]
  refine wpAnyH_take (i := 12) (v := ?_) rfl (by kernel_rfl) (by kernel_rfl) (by kernel_rfl) (fun _ _ _ h => h) (Or.inl ⟨by kernel_rfl, ?_⟩) (by assumption) ?_
  rotate_left
  · intro Wt hSt
    go_simp
    try with_reducible rfl
  try simp only [List.getElem_toArray, List.getElem_cons_zero, List.getElem_cons_succ, Act.put, List.setIfInBounds_toArray, List.set_cons_zero, List.set_cons_succ]
  refine wpAnyH_take (i := 13) (v := ?_) rfl (by kernel_rfl) (by kernel_rfl) (by kernel_rfl) (fun _ _ _ h => h) (Or.inl ⟨by kernel_rfl, ?_⟩) (by assumption) ?_
  rotate_left
  · intro Wt hSt
    go_simp
    try with_reducible rfl
  try simp only [List.getElem_toArray, List.getElem_cons_zero, List.getElem_cons_succ, Act.put, List.setIfInBounds_toArray, List.set_cons_zero, List.set_cons_succ]
  refine wpAnyH_take (i := 14) (v := ?_) rfl (by kernel_rfl) (by kernel_rfl) (by kernel_rfl) (fun _ _ _ h => h) (Or.inl ⟨by kernel_rfl, ?_⟩) (by assumption) ?_
  rotate_left
  · intro Wt hSt
    go_simp
    try with_reducible rfl
  try simp only [List.getElem_toArray, List.getElem_cons_zero, List.getElem_cons_succ, Act.put, List.setIfInBounds_toArray, List.set_cons_zero, List.set_cons_succ]
  refine wpAnyH_take (i := 15) (v := ?_) rfl (by kernel_rfl) (by kernel_rfl) (by kernel_rfl) (fun _ _ _ h => h) (Or.inl ⟨by kernel_rfl, ?_⟩) (by assumption) ?_
  rotate_left
  · intro Wt hSt
    go_simp
    try with_reducible rfl
  try simp only [List.getElem_toArray, List.getElem_cons_zero, List.getElem_cons_succ, Act.put, List.setIfInBounds_toArray, List.set_cons_zero, List.set_cons_succ]
  refine wpAnyH_chainOf [16, 17, 18] _ _ _ (by kernel_rfl) (by kernel_rfl) ?_
  simp only [List.filterMap_cons, List.filterMap_nil, List.getElem?_toArray, List.getElem?_cons_zero, List.getElem?_cons_succ]
  refine wpChain_step rfl fun K hK => ?_
  go_simp
  refine ((unhide HF1) _ hSW.lo).mono ?_; rintro x wA ⟨rfl, hA1⟩
  have hSA : SB w d wA := hSW.later hA1
  dsimp only
  refine hK _ _ hSA ?_
  clear hK K
  refine wpChain_step rfl fun K hK => ?_
  go_simp
  refine ((unhide HF2) _ hSA.lo).mono ?_; rintro x wB ⟨rfl, hA2⟩
  have hSB : SB w d wB := hSA.later hA2
  have hO := ((unhide HOW).keep hA1).keep hA2
  dsimp only
  refine hK _ _ hSB ?_
  clear hK K
  refine wpChain_bstore rfl 24 (.tmp 10) (.tmp 57) rfl (w.heap.size + 1) rfl (climbP d n at_ p) rfl 32 info32 (dg_climb _ _ _ _).len _ zeros hO rfl ?_
  intro W9 HW9 HG
  have hS9 : Below w.heap.size w W9 := hSB.lo.grown (unhide HG) hSB.lo.size (fun i e => by injection e with e; omega)
  refine ⟨⟨hS9, hSB.box.grown (unhide HG) (by omega)⟩, wpChain_nil ?_⟩
  clear hO hSB hSA hA1 hA2
  have HS9 := hide hS9
  clear hS9 hSW
  go_wp2_with fail
  try simp only [Exit.inBlock, Exit.then]
  exact bret rfl rfl (w.heap.size + 1) rfl _ _ (unhide HW9) (dg_climb _ _ _ _).len ⟨rfl, unhide HS9⟩
end Go.Proofs.YtceppmajbkmbdaaDoor
