/- Contracts over the program of facts: Compare by the numbers, and of facts that are the same. -/
import Derived.Test.YtdmaopfaeigelaaGreatDoorFacT
import Derived.Test.YtdmaopfaeigelaaGreatDoorFacM
namespace Go.Proofs.YtdmaopfaeigelaaGreatDoor
set_option linter.unusedSimpArgs false
set_option linter.unusedVariables false
open Go.RowKit

theorem isNaN_any (x : Int) (w : World) : Calls Tryz.prog 98 #[.int .i64 x] w fun e w' => e = .returned (.bool false) ∧ w' = w := by
  go_enter Tryz.func98, Tryz.ntmps98
  go_wp2
  go_ret
  exact ⟨by simp, rfl⟩
def cmpI (x y : Int) : Int := if x < y then -1 else if y < x then 1 else 0
theorem cmp_any (x y : Int) (w : World) : Calls Tryz.prog 51 #[.int .i64 x, .int .i64 y] w fun e w' => e = .returned (.int .i64 (cmpI x y)) ∧ w' = w := by
  unfold cmpI
  by_cases h : x < y
  · rw [if_pos h]
    go_enter Tryz.func51, Tryz.ntmps51
    go_wp2_with (go_at_call 98; refine (isNaN_any _ _).mono ?_; rintro e w' ⟨rfl, rfl⟩)
    go_ret
    exact ⟨rfl, rfl⟩
  · rw [if_neg h]
    by_cases h2 : y < x
    · rw [if_pos h2]
      go_enter Tryz.func51, Tryz.ntmps51
      go_wp2_with (go_at_call 98; refine (isNaN_any _ _).mono ?_; rintro e w' ⟨rfl, rfl⟩)
      go_ret
      exact ⟨rfl, rfl⟩
    · rw [if_neg h2]
      go_enter Tryz.func51, Tryz.ntmps51
      go_wp2_with (go_at_call 98; refine (isNaN_any _ _).mono ?_; rintro e w' ⟨rfl, rfl⟩)
      go_ret
      exact ⟨rfl, rfl⟩

theorem drop_at' (l : List Int) (k : Nat) (h : k < l.length) : l.drop k = l.getD k 0 :: l.drop (k + 1) := by
  rw [List.drop_eq_getElem_cons h, List.getD_eq_getElem?_getD, List.getElem?_eq_getElem h]
  rfl
/-- the first that is not 0 -/
def orV : List Int → Int
  | [] => 0
  | x :: r => if x = 0 then orV r else x
theorem or_any (A : Option Addr) (c : Nat) (l : List Int) (w : World) (hA : It w A l) (hl : l.length ≤ 1000) :
    Calls Tryz.prog 50 #[.slice A l.length c] w fun e w' => e = .returned (.int .i64 (orV l)) ∧ w' = w := by
  obtain ⟨n, hn⟩ : ∃ n, n = l.length := ⟨_, rfl⟩
  rw [← hn] at hl ⊢
  have HN := hide hn
  have HA := hide hA
  clear hn hA
  go_enter Tryz.func50, Tryz.ntmps50
  go_wp2_with fail
  go_loop [8] (fun i => ∃ k : Nat, k ≤ n ∧ orV l = orV (l.drop k) ∧ i = .int .i64 (k : Int)) (fun i => n - (intOf i).toNat)
  case atStart => exact ⟨0, Nat.zero_le _, by rw [List.drop_zero], rfl⟩
  case round =>
    obtain ⟨k, hk, hs, rfl⟩ := hrel
    have HS := hide hs
    clear hs
    by_cases hlt : k < n
    · have hkl : k < l.length := by have := unhide HN; omega
      obtain ⟨b, o, rfl, hc⟩ := (unhide HA).at_ (List.ne_nil_of_length_pos (by omega))
      have hck := hc k hkl
      have hd := drop_at' l k hkl
      generalize l.getD k 0 = x at hck hd
      have HD := hide hd
      clear hc hd hkl
      by_cases hx : x = 0
      · subst hx
        go_wp2_with fail
        go_round
        case rel => exact ⟨k + 1, by omega, by rw [unhide HS, unhide HD, orV, if_pos rfl], by go_num⟩
        case measure => simp [intOf]; omega
      · have hxe : (x == 0) = false := by simpa using hx
        have hxn : (x != 0) = true := by simpa using hx
        go_wp2_with fail
        go_ret
        exact ⟨retI (by rw [unhide HS, unhide HD, orV, if_neg hx]), rfl⟩
    · go_wp2_with fail
      go_ret
      exact ⟨retI (by rw [unhide HS, List.drop_of_length_le (by have := unhide HN; omega), orV]), rfl⟩
def cmpN (f g : Fc) : Int := orV [cmpI f.known g.known, cmpI f.day g.day, cmpI f.kind g.kind]
set_option maxRecDepth 100000 in
set_option maxHeartbeats 4000000 in
/-- Compare of facts that differ in a number, or are the same -/
theorem compare_first (f : Fc) (a : Ad) (g : Fc) (b : Ad) (w : World) (hf : f.void.length = 32) (hg : g.void.length = 32)
    (h : cmpN f g ≠ 0 ∨ ∀ W, Below w.heap.size w W → Calls Tryz.prog 26 #[.agg (fC f a).toArray, .agg (fC g b).toArray] W fun e w' => e = .returned (.bool true) ∧ Below W.heap.size W w') :
    Calls Tryz.prog 24 #[.agg (fC f a).toArray, .agg (fC g b).toArray] w fun e w' => e = .returned (.int .i64 (cmpN f g)) ∧ Below w.heap.size w w' := by
  have HH := hide h
  obtain ⟨cs, hcs⟩ : ∃ cs, cs = fC f a := ⟨_, rfl⟩
  obtain ⟨ds, hds⟩ : ∃ ds, ds = fC g b := ⟨_, rfl⟩
  rw [← hcs, ← hds]
  have HCS := hide hcs; have HDS := hide hds
  rw [← hcs, ← hds] at HH
  have HF := hide hf; have HGG := hide hg
  obtain ⟨z, hz⟩ : ∃ z, z = cmpN f g := ⟨_, rfl⟩
  rw [← hz] at HH ⊢
  have HZ : Hid (z = orV [cmpI f.known g.known, cmpI f.day g.day, cmpI f.kind g.kind]) := hz
  have e0 : cs[0]? = some (.int .i64 f.kind) := by rw [hcs]; rfl
  have e1 : cs[1]? = some (.int .i64 f.day) := by rw [hcs]; rfl
  have e2 : cs[2]? = some (.int .i64 f.known) := by rw [hcs]; rfl
  have d0 : ds[0]? = some (.int .i64 g.kind) := by rw [hds]; rfl
  have d1 : ds[1]? = some (.int .i64 g.day) := by rw [hds]; rfl
  have d2 : ds[2]? = some (.int .i64 g.known) := by rw [hds]; rfl
  have HE0 := hide e0; have HE1 := hide e1; have HE2 := hide e2; have HD0 := hide d0; have HD1 := hide d1; have HD2 := hide d2
  clear hcs hds hf hg h hz e0 e1 e2 d0 d1 d2
  generalize f.kind = fk at *
  generalize f.day = fd at *
  generalize f.known = fn at *
  generalize g.kind = gk at *
  generalize g.day = gd at *
  generalize g.known = gn at *
  go_enter Tryz.func24, Tryz.ntmps24
  go_upto_region 1 with fail
  rename_i K5 hK5
  generalize hX1 : w.alloc _ = W1
  have hB1 : Below w.heap.size w W1 := hX1 ▸ (Below.refl _ _).alloc (Nat.le_refl _) _
  have hV1 := boxedV w W1 cs 45 (by rw [← hX1]; rfl)
  have hz1 : W1.heap.size = w.heap.size + 1 := by rw [← hX1]; show (w.heap.push _).size = _; rw [Array.size_push]
  clear hX1
  generalize hX2 : W1.alloc _ = W2
  have hB2 : Below W1.heap.size W1 W2 := hX2 ▸ (Below.refl _ _).alloc (Nat.le_refl _) _
  have hV2 := boxedV W1 W2 ds 45 (by rw [← hX2]; rfl)
  rw [hz1] at hV2
  have HBw := hide (thenB hB1 hB2); have HV1 := hide (hV1.keep hB2); have HV2 := hide hV2
  clear hX2 hB2 hV2 hz1 hV1 hB1
  obtain ⟨Y, hY⟩ : ∃ Y, Y = W2.drewN 1 := ⟨_, rfl⟩
  have HY : Hid (Y = W2.drewN 1) := hY
  have hS : Below W2.heap.size W2 Y := below_named HY
  clear hY
  refine held (S := Below W2.heap.size W2) Y HY (by kernel_rfl) ?_
  refine wpAnyH_take (i := 0) (v := ?_) rfl (by kernel_rfl) (by kernel_rfl) (by kernel_rfl) (fun _ _ _ h => h) (Or.inl ⟨by kernel_rfl, ?_⟩) (by assumption) ?_
  rotate_left
  · intro Wt hSt
    go_simp
    try with_reducible rfl
  try simp only [List.getElem_toArray, List.getElem_cons_zero, List.getElem_cons_succ, Act.put, List.setIfInBounds_toArray, List.set_cons_zero, List.set_cons_succ]
  refine wpAnyH_take (i := 1) (v := ?_) rfl (by kernel_rfl) (by kernel_rfl) (by kernel_rfl) (fun _ _ _ h => h) (Or.inl ⟨by kernel_rfl, ?_⟩) (by assumption) ?_
  rotate_left
  · intro Wt hSt
    have hct := (show Wt.cell? ⟨w.heap.size, 2, none⟩ = some (.int .i64 fn) from ((unhide HV1).keep hSt).cell (unhide HE2))
    go_simp
    try with_reducible rfl
  try simp only [List.getElem_toArray, List.getElem_cons_zero, List.getElem_cons_succ, Act.put, List.setIfInBounds_toArray, List.set_cons_zero, List.set_cons_succ]
  refine wpAnyH_take (i := 2) (v := ?_) rfl (by kernel_rfl) (by kernel_rfl) (by kernel_rfl) (fun _ _ _ h => h) (Or.inl ⟨by kernel_rfl, ?_⟩) (by assumption) ?_
  rotate_left
  · intro Wt hSt
    go_simp
    try with_reducible rfl
  try simp only [List.getElem_toArray, List.getElem_cons_zero, List.getElem_cons_succ, Act.put, List.setIfInBounds_toArray, List.set_cons_zero, List.set_cons_succ]
  refine wpAnyH_take (i := 3) (v := ?_) rfl (by kernel_rfl) (by kernel_rfl) (by kernel_rfl) (fun _ _ _ h => h) (Or.inl ⟨by kernel_rfl, ?_⟩) (by assumption) ?_
  rotate_left
  · intro Wt hSt
    have hct := (show Wt.cell? ⟨w.heap.size + 1, 2, none⟩ = some (.int .i64 gn) from ((unhide HV2).keep hSt).cell (unhide HD2))
    go_simp
    try with_reducible rfl
  try simp only [List.getElem_toArray, List.getElem_cons_zero, List.getElem_cons_succ, Act.put, List.setIfInBounds_toArray, List.set_cons_zero, List.set_cons_succ]
  refine wpAnyH_take (i := 5) (v := ?_) rfl (by kernel_rfl) (by kernel_rfl) (by kernel_rfl) (fun _ _ _ h => h) (Or.inl ⟨by kernel_rfl, ?_⟩) (by assumption) ?_
  rotate_left
  · intro Wt hSt
    go_simp
    try with_reducible rfl
  try simp only [List.getElem_toArray, List.getElem_cons_zero, List.getElem_cons_succ, Act.put, List.setIfInBounds_toArray, List.set_cons_zero, List.set_cons_succ]
  refine wpAnyH_take (i := 6) (v := ?_) rfl (by kernel_rfl) (by kernel_rfl) (by kernel_rfl) (fun _ _ _ h => h) (Or.inl ⟨by kernel_rfl, ?_⟩) (by assumption) ?_
  rotate_left
  · intro Wt hSt
    have hct := (show Wt.cell? ⟨w.heap.size, 1, none⟩ = some (.int .i64 fd) from ((unhide HV1).keep hSt).cell (unhide HE1))
    go_simp
    try with_reducible rfl
  try simp only [List.getElem_toArray, List.getElem_cons_zero, List.getElem_cons_succ, Act.put, List.setIfInBounds_toArray, List.set_cons_zero, List.set_cons_succ]
  refine wpAnyH_take (i := 7) (v := ?_) rfl (by kernel_rfl) (by kernel_rfl) (by kernel_rfl) (fun _ _ _ h => h) (Or.inl ⟨by kernel_rfl, ?_⟩) (by assumption) ?_
  rotate_left
  · intro Wt hSt
    go_simp
    try with_reducible rfl
  try simp only [List.getElem_toArray, List.getElem_cons_zero, List.getElem_cons_succ, Act.put, List.setIfInBounds_toArray, List.set_cons_zero, List.set_cons_succ]
  refine wpAnyH_take (i := 8) (v := ?_) rfl (by kernel_rfl) (by kernel_rfl) (by kernel_rfl) (fun _ _ _ h => h) (Or.inl ⟨by kernel_rfl, ?_⟩) (by assumption) ?_
  rotate_left
  · intro Wt hSt
    have hct := (show Wt.cell? ⟨w.heap.size + 1, 1, none⟩ = some (.int .i64 gd) from ((unhide HV2).keep hSt).cell (unhide HD1))
    go_simp
    try with_reducible rfl
  try simp only [List.getElem_toArray, List.getElem_cons_zero, List.getElem_cons_succ, Act.put, List.setIfInBounds_toArray, List.set_cons_zero, List.set_cons_succ]
  refine wpAnyH_take (i := 10) (v := ?_) rfl (by kernel_rfl) (by kernel_rfl) (by kernel_rfl) (fun _ _ _ h => h) (Or.inl ⟨by kernel_rfl, ?_⟩) (by assumption) ?_
  rotate_left
  · intro Wt hSt
    go_simp
    try with_reducible rfl
  try simp only [List.getElem_toArray, List.getElem_cons_zero, List.getElem_cons_succ, Act.put, List.setIfInBounds_toArray, List.set_cons_zero, List.set_cons_succ]
  refine wpAnyH_take (i := 11) (v := ?_) rfl (by kernel_rfl) (by kernel_rfl) (by kernel_rfl) (fun _ _ _ h => h) (Or.inl ⟨by kernel_rfl, ?_⟩) (by assumption) ?_
  rotate_left
  · intro Wt hSt
    have hct := (show Wt.cell? ⟨w.heap.size, 0, none⟩ = some (.int .i64 fk) from ((unhide HV1).keep hSt).cell (unhide HE0))
    go_simp
    try with_reducible rfl
  try simp only [List.getElem_toArray, List.getElem_cons_zero, List.getElem_cons_succ, Act.put, List.setIfInBounds_toArray, List.set_cons_zero, List.set_cons_succ]
  refine wpAnyH_take (i := 12) (v := ?_) rfl (by kernel_rfl) (by kernel_rfl) (by kernel_rfl) (fun _ _ _ h => h) (Or.inl ⟨by kernel_rfl, ?_⟩) (by assumption) ?_
  rotate_left
  · intro Wt hSt
    go_simp
    try with_reducible rfl
  try simp only [List.getElem_toArray, List.getElem_cons_zero, List.getElem_cons_succ, Act.put, List.setIfInBounds_toArray, List.set_cons_zero, List.set_cons_succ]
  refine wpAnyH_take (i := 13) (v := ?_) rfl (by kernel_rfl) (by kernel_rfl) (by kernel_rfl) (fun _ _ _ h => h) (Or.inl ⟨by kernel_rfl, ?_⟩) (by assumption) ?_
  rotate_left
  · intro Wt hSt
    have hct := (show Wt.cell? ⟨w.heap.size + 1, 0, none⟩ = some (.int .i64 gk) from ((unhide HV2).keep hSt).cell (unhide HD0))
    go_simp
    try with_reducible rfl
  try simp only [List.getElem_toArray, List.getElem_cons_zero, List.getElem_cons_succ, Act.put, List.setIfInBounds_toArray, List.set_cons_zero, List.set_cons_succ]
  refine wpAnyH_one 4 _ rfl (by kernel_rfl) (by kernel_rfl) ?_
  intro Kt hK
  go_simp
  refine (cmp_any fn gn Y).mono ?_; rintro x Y1 ⟨rfl, rfl⟩
  dsimp only
  refine hK _ _ hS ?_
  clear hK Kt
  try simp only [List.getElem_toArray, List.getElem_cons_zero, List.getElem_cons_succ, Act.put, List.setIfInBounds_toArray, List.set_cons_zero, List.set_cons_succ]
  refine wpAnyH_one 9 _ rfl (by kernel_rfl) (by kernel_rfl) ?_
  intro Kt hK
  go_simp
  refine (cmp_any fd gd Y1).mono ?_; rintro x Y2 ⟨rfl, rfl⟩
  dsimp only
  refine hK _ _ hS ?_
  clear hK Kt
  try simp only [List.getElem_toArray, List.getElem_cons_zero, List.getElem_cons_succ, Act.put, List.setIfInBounds_toArray, List.set_cons_zero, List.set_cons_succ]
  refine wpAnyH_one 14 _ rfl (by kernel_rfl) (by kernel_rfl) ?_
  intro Kt hK
  go_simp
  refine (cmp_any fk gk Y2).mono ?_; rintro x Y3 ⟨rfl, rfl⟩
  dsimp only
  refine hK _ _ hS ?_
  clear hK Kt
  try simp only [List.getElem_toArray, List.getElem_cons_zero, List.getElem_cons_succ, Act.put, List.setIfInBounds_toArray, List.set_cons_zero, List.set_cons_succ]
  refine wpAnyH_chainOf [15, 16, 17] _ _ _ (by kernel_rfl) (by kernel_rfl) ?_
  simp only [List.filterMap_cons, List.filterMap_nil, List.getElem?_toArray, List.getElem?_cons_zero, List.getElem?_cons_succ]
  generalize cmpI fn gn = c1 at *
  generalize cmpI fd gd = c2 at *
  generalize cmpI fk gk = c3 at *
  refine wpChain_step rfl fun Kt hKt => ?_
  go_simp
  generalize hX4 : Y3.alloc _ = Y4
  have hB4 : Below Y3.heap.size Y3 Y4 := hX4 ▸ (Below.refl _ _).alloc (Nat.le_refl _) _
  have hv4 := boxedV Y3 Y4 [.int .i64 c1, .int .i64 c2, .int .i64 c3] 3 (by rw [← hX4]; rfl)
  have hS4 := thenB hS hB4
  have hit : It Y4 (some ⟨Y3.heap.size, 0, none⟩) [c1, c2, c3] := ⟨fun _ => ⟨Y3.heap.size, 0, rfl, fun j hj => by
    match j, hj with
    | 0, _ => exact hv4.cell rfl
    | 1, _ => exact hv4.cell rfl
    | 2, _ => exact hv4.cell rfl⟩⟩
  have ho : Calls Tryz.prog 50 #[.slice (some ⟨Y3.heap.size, 0, none⟩) 3 3] Y4 fun e w' => e = .returned (.int .i64 (orV [c1, c2, c3])) ∧ w' = Y4 := or_any _ 3 [c1, c2, c3] Y4 hit (by simp)
  rw [← unhide HZ] at ho
  refine hKt _ _ hS4 ?_
  clear hKt Kt hX4
  try simp only [List.getElem_toArray, List.getElem_cons_zero, List.getElem_cons_succ, Act.put, List.setIfInBounds_toArray, List.set_cons_zero, List.set_cons_succ]
  refine wpChain_step rfl fun Kt hKt => ?_
  go_simp
  refine ho.mono ?_; rintro x Y5 ⟨rfl, rfl⟩
  dsimp only
  refine hKt _ _ hS4 ?_
  clear hKt Kt
  try simp only [List.getElem_toArray, List.getElem_cons_zero, List.getElem_cons_succ, Act.put, List.setIfInBounds_toArray, List.set_cons_zero, List.set_cons_succ]
  refine wpChain_step rfl fun Kt hKt => ?_
  go_simp
  refine hKt _ _ hS4 ?_
  clear hKt Kt
  refine wpChain_nil ?_
  refine hK5 _ _ ?_
  clear hK5 K5
  have HB5 := hide (thenB (unhide HBw) hS4); have HW1 := hide ((unhide HV1).keep hS4); have HW2 := hide ((unhide HV2).keep hS4)
  clear hS4 ho hit hv4 hB4 hS HV1 HV2 HBw HY
  by_cases hz0 : z = 0
  · have hh := (unhide HH).resolve_left (fun h => h hz0)
    have HHH := hide hh
    clear hh HH
    subst hz0
    go_upto_region 2 with fail
    refine wp_region_lit ?_
    refine wpList_plain rfl fun Kt hKt => ?_
    go_simp
    refine hKt _ _ ?_
    clear hKt Kt
    try simp only [List.getElem_toArray, List.getElem_cons_zero, List.getElem_cons_succ, Act.put, List.setIfInBounds_toArray, List.set_cons_zero, List.set_cons_succ]
    refine wpList_plain rfl fun Kt hKt => ?_
    go_simp
    refine hKt _ _ ?_
    clear hKt Kt
    try simp only [List.getElem_toArray, List.getElem_cons_zero, List.getElem_cons_succ, Act.put, List.setIfInBounds_toArray, List.set_cons_zero, List.set_cons_succ]
    refine wpList_plain rfl fun Kt hKt => ?_
    go_simp
    refine hKt _ _ ?_
    clear hKt Kt
    try simp only [List.getElem_toArray, List.getElem_cons_zero, List.getElem_cons_succ, Act.put, List.setIfInBounds_toArray, List.set_cons_zero, List.set_cons_succ]
    refine wpList_vgload (by kernel_rfl) 45 (.tmp 2) rfl w.heap.size 0 rfl _ Tryz.underlying45 rfl cs (by rw [unhide HCS, fC_length _ _ (unhide HF)]; exact infoFc) (unhide HW1).range ?_
    try simp only [List.getElem_toArray, List.getElem_cons_zero, List.getElem_cons_succ, Act.put, List.setIfInBounds_toArray, List.set_cons_zero, List.set_cons_succ]
    refine wpList_vgload (by kernel_rfl) 45 (.tmp 3) rfl (w.heap.size + 1) 0 rfl _ Tryz.underlying45 rfl ds (by rw [unhide HDS, fC_length _ _ (unhide HGG)]; exact infoFc) (unhide HW2).range ?_
    try simp only [List.getElem_toArray, List.getElem_cons_zero, List.getElem_cons_succ, Act.put, List.setIfInBounds_toArray, List.set_cons_zero, List.set_cons_succ]
    refine wpList_wanted (by kernel_rfl) fun Kt hKt => ?_
    go_simp
    refine ((unhide HHH) Y5 (unhide HB5)).mono ?_; rintro x Y6 ⟨rfl, hG⟩
    dsimp only
    refine hKt _ _ ?_
    clear hKt Kt
    try simp only [List.getElem_toArray, List.getElem_cons_zero, List.getElem_cons_succ, Act.put, List.setIfInBounds_toArray, List.set_cons_zero, List.set_cons_succ]
    have HB6 := hide (thenB (unhide HB5) hG)
    clear hG
    go_wp2_with fail
    go_ret
    exact ⟨rfl, unhide HB6⟩
  · have hzn : (z != 0) = true := by simpa using hz0
    have hze : (z == 0) = false := by simpa using hz0
    clear HH HZ
    go_wp2_with fail
    go_ret
    exact ⟨rfl, unhide HB5⟩
end Go.Proofs.YtdmaopfaeigelaaGreatDoor
