/- Contracts over the program of money: how remainders are compared. -/
import Derived.Test.YthbdhlcimgiemaaDoorMonOrd
import Derived.Sort.Grow
namespace Go.Proofs.YthbdhlcimgiemaaDoor
set_option linter.unusedSimpArgs false
set_option linter.unusedVariables false
open Go.RowKit

theorem isNaN_any (x : Int) (w : World) : Calls Tryd.prog 73 #[.int .i64 x] w fun e w' => e = .returned (.bool false) ∧ w' = w := by
  go_enter Tryd.func73, Tryd.ntmps73
  go_wp2
  go_ret
  exact ⟨by simp, rfl⟩
def cmpI (x y : Int) : Int := if x < y then -1 else if y < x then 1 else 0
theorem cmp_any (x y : Int) (w : World) : Calls Tryd.prog 50 #[.int .i64 x, .int .i64 y] w fun e w' => e = .returned (.int .i64 (cmpI x y)) ∧ w' = w := by
  unfold cmpI
  by_cases h : x < y
  · rw [if_pos h]
    go_enter Tryd.func50, Tryd.ntmps50
    go_wp2_with (go_at_call 73; refine (isNaN_any _ _).mono ?_; rintro e w' ⟨rfl, rfl⟩)
    go_ret
    exact ⟨rfl, rfl⟩
  · rw [if_neg h]
    by_cases h2 : y < x
    · rw [if_pos h2]
      go_enter Tryd.func50, Tryd.ntmps50
      go_wp2_with (go_at_call 73; refine (isNaN_any _ _).mono ?_; rintro e w' ⟨rfl, rfl⟩)
      go_ret
      exact ⟨rfl, rfl⟩
    · rw [if_neg h2]
      go_enter Tryd.func50, Tryd.ntmps50
      go_wp2_with (go_at_call 73; refine (isNaN_any _ _).mono ?_; rintro e w' ⟨rfl, rfl⟩)
      go_ret
      exact ⟨rfl, rfl⟩

/-- the first that is not 0 -/
def orV : List Int → Int
  | [] => 0
  | x :: r => if x = 0 then orV r else x
theorem or_any (A : Option Addr) (c : Nat) (l : List Int) (w : World) (hA : It w A l) (hl : l.length ≤ 1000) :
    Calls Tryd.prog 49 #[.slice A l.length c] w fun e w' => e = .returned (.int .i64 (orV l)) ∧ w' = w := by
  obtain ⟨n, hn⟩ : ∃ n, n = l.length := ⟨_, rfl⟩
  rw [← hn] at hl ⊢
  have HN := hide hn
  have HA := hide hA
  clear hn hA
  go_enter Tryd.func49, Tryd.ntmps49
  go_wp2_with fail
  go_loop [8] (fun i => ∃ k : Nat, k ≤ n ∧ orV l = orV (l.drop k) ∧ i = .int .i64 (k : Int)) (fun i => n - (intOf i).toNat)
  case atStart => exact ⟨0, Nat.zero_le _, by rw [List.drop_zero], rfl⟩
  case round =>
    obtain ⟨k, hk, hs, rfl⟩ := hrel
    have HS := hide hs
    clear hs
    by_cases hlt : k < n
    · have hkl : k < l.length := by have := unhide HN; omega
      obtain ⟨b, o, rfl, hc⟩ := (unhide HA).at_ (List.ne_nil_of_length_pos (by omega))
      have hck := hc k hkl
      have hd := drop_at l k hkl
      generalize l.getD k 0 = x at hck hd
      have HD := hide hd
      clear hc hd hkl
      by_cases hx : x = 0
      · subst hx
        go_wp2_with fail
        go_round
        case rel => exact ⟨k + 1, by omega, by rw [unhide HS, unhide HD, orV, if_pos rfl], by go_num⟩
        case measure => simp [intOf]; omega
      · have hxe : (x == 0) = false := by simpa using hx
        have hxn : (x != 0) = true := by simpa using hx
        go_wp2_with fail
        go_ret
        exact ⟨retI (by rw [unhide HS, unhide HD, orV, if_neg hx]), rfl⟩
    · go_wp2_with fail
      go_ret
      exact ⟨retI (by rw [unhide HS, List.drop_of_length_le (by have := unhide HN; omega), orV]), rfl⟩

/-- a remainder: its index, what is left -/
abbrev Rm := Int × Int
def rmV (x : Rm) : Value := .agg #[.int .i64 x.1, .int .i64 x.2]
def cmpR (x y : Rm) : Int := orV [cmpI y.2 x.2, cmpI x.1 y.1]
theorem cmpI_bd (x y : Int) : -1 ≤ cmpI x y ∧ cmpI x y ≤ 1 := by unfold cmpI; split <;> (try split) <;> omega
theorem two_it (w : World) (a b : Int) (ha : -1 ≤ a ∧ a ≤ 1) (hb : -1 ≤ b ∧ b ≤ 1) (t : TypeId) : It (w.alloc (.cells #[.int .i64 a, .int .i64 b] t)) (some ⟨w.heap.size, 0, none⟩) [a, b] := by
  refine ⟨fun c hc => ?_, fun _ => ⟨_, 0, rfl, fun j hj => ?_⟩⟩
  · simp at hc
    unfold I64
    omega
  · simp at hj
    obtain rfl | rfl : j = 0 ∨ j = 1 := by omega
    · simp
    · simp
theorem named_grow {w W : World} (h : Hid (W = w.drewN 1)) : W = w.drewN 1 := h
set_option maxRecDepth 100000 in
set_option maxHeartbeats 2000000 in
open Go.Sort in
theorem compare_any (x y : Rm) (w : World) : Calls Tryd.prog 36 #[rmV x, rmV y] w fun e w' => e = .returned (.int .i64 (cmpR x y)) ∧ ∃ q os', w' = grow (w.drewN q) os' := by
  unfold rmV
  obtain ⟨i, r⟩ := x
  obtain ⟨j, s⟩ := y
  obtain ⟨R, hR⟩ : ∃ R, R = cmpR (i, r) (j, s) := ⟨_, rfl⟩
  rw [← hR]
  obtain ⟨C1, hC1⟩ : ∃ C, C = cmpI s r := ⟨_, rfl⟩
  obtain ⟨C2, hC2⟩ : ∃ C, C = cmpI i j := ⟨_, rfl⟩
  have HR : Hid (R = orV [C1, C2]) := by rw [hC1, hC2]; exact hR
  have HB1 : Hid (-1 ≤ C1 ∧ C1 ≤ 1) := hC1 ▸ cmpI_bd _ _
  have HB2 : Hid (-1 ≤ C2 ∧ C2 ≤ 1) := hC2 ▸ cmpI_bd _ _
  have h1 := fun W => cmp_any s r W
  have h2 := fun W => cmp_any i j W
  rw [← hC1] at h1
  rw [← hC2] at h2
  have H1 := hide h1
  have H2 := hide h2
  clear hR hC1 hC2 h1 h2
  go_enter Tryd.func36, Tryd.ntmps36
  go_wp2_with fail
  generalize hX : World.alloc (w.alloc _) _ = W0
  obtain ⟨os, hg⟩ : ∃ os, W0 = grow w os := ⟨_, by rw [← hX, alloc_eq_grow, alloc_eq_grow, grow_grow]⟩
  have c0 : W0.cell? ⟨w.heap.size, 0, none⟩ = some (.int .i64 i) := by rw [← hX]; simp
  have c1 : W0.cell? ⟨w.heap.size, 1, none⟩ = some (.int .i64 r) := by rw [← hX]; simp
  have c2 : W0.cell? ⟨w.heap.size + 1, 0, none⟩ = some (.int .i64 j) := by rw [← hX]; simp
  have c3 : W0.cell? ⟨w.heap.size + 1, 1, none⟩ = some (.int .i64 s) := by rw [← hX]; simp
  obtain ⟨W, hW⟩ : ∃ W, W = W0.drewN 1 := ⟨_, rfl⟩
  have HW : Hid (W = W0.drewN 1) := hW
  have HG := hide hg
  have hsz : w.heap.size + 1 < W.heap.size := by rw [hW, ← hX]; simp [World.drewN]
  have f0 : ∀ V, Below W.heap.size W V → V.cell? ⟨w.heap.size, 0, none⟩ = some (.int .i64 i) := fun V hV => by rw [hV.cell (p := ⟨w.heap.size, 0, none⟩) (by show w.heap.size < W.heap.size; omega), hW]; exact c0
  have f1 : ∀ V, Below W.heap.size W V → V.cell? ⟨w.heap.size, 1, none⟩ = some (.int .i64 r) := fun V hV => by rw [hV.cell (p := ⟨w.heap.size, 1, none⟩) (by show w.heap.size < W.heap.size; omega), hW]; exact c1
  have f2 : ∀ V, Below W.heap.size W V → V.cell? ⟨w.heap.size + 1, 0, none⟩ = some (.int .i64 j) := fun V hV => by rw [hV.cell (p := ⟨w.heap.size + 1, 0, none⟩) (by show w.heap.size + 1 < W.heap.size; omega), hW]; exact c2
  have f3 : ∀ V, Below W.heap.size W V → V.cell? ⟨w.heap.size + 1, 1, none⟩ = some (.int .i64 s) := fun V hV => by rw [hV.cell (p := ⟨w.heap.size + 1, 1, none⟩) (by show w.heap.size + 1 < W.heap.size; omega), hW]; exact c3
  clear hW hX hg c0 c1 c2 c3 hsz
  have hSW : Below W.heap.size W W := Below.refl _ _
  refine held (S := Below W.heap.size W) W HW (by kernel_rfl) ?_
  refine wpAnyH_take (i := 0) (v := ?_) rfl (by kernel_rfl) (by kernel_rfl) (by kernel_rfl) (fun _ _ _ h => h) (Or.inl ⟨by kernel_rfl, ?_⟩) (by assumption) ?_
  rotate_left
  · intro Wt hSt
    go_simp
    try with_reducible rfl
  try simp only [List.getElem_toArray, List.getElem_cons_zero, List.getElem_cons_succ, Act.put, List.setIfInBounds_toArray, List.set_cons_zero, List.set_cons_succ]
  refine wpAnyH_take (i := 1) (v := ?_) rfl (by kernel_rfl) (by kernel_rfl) (by kernel_rfl) (fun _ _ _ h => h) (Or.inl ⟨by kernel_rfl, ?_⟩) (by assumption) ?_
  rotate_left
  · intro Wt hSt
    go_simp
    try with_reducible rfl
  try simp only [List.getElem_toArray, List.getElem_cons_zero, List.getElem_cons_succ, Act.put, List.setIfInBounds_toArray, List.set_cons_zero, List.set_cons_succ]
  refine wpAnyH_take (i := 2) (v := ?_) rfl (by kernel_rfl) (by kernel_rfl) (by kernel_rfl) (fun _ _ _ h => h) (Or.inl ⟨by kernel_rfl, ?_⟩) (by assumption) ?_
  rotate_left
  · intro Wt hSt
    go_simp
    try with_reducible rfl
  try simp only [List.getElem_toArray, List.getElem_cons_zero, List.getElem_cons_succ, Act.put, List.setIfInBounds_toArray, List.set_cons_zero, List.set_cons_succ]
  refine wpAnyH_take (i := 3) (v := ?_) rfl (by kernel_rfl) (by kernel_rfl) (by kernel_rfl) (fun _ _ _ h => h) (Or.inl ⟨by kernel_rfl, ?_⟩) (by assumption) ?_
  rotate_left
  · intro Wt hSt
    go_simp
    try with_reducible rfl
  try simp only [List.getElem_toArray, List.getElem_cons_zero, List.getElem_cons_succ, Act.put, List.setIfInBounds_toArray, List.set_cons_zero, List.set_cons_succ]
  refine wpAnyH_take (i := 5) (v := ?_) rfl (by kernel_rfl) (by kernel_rfl) (by kernel_rfl) (fun _ _ _ h => h) (Or.inl ⟨by kernel_rfl, ?_⟩) (by assumption) ?_
  rotate_left
  · intro Wt hSt
    go_simp
    try with_reducible rfl
  try simp only [List.getElem_toArray, List.getElem_cons_zero, List.getElem_cons_succ, Act.put, List.setIfInBounds_toArray, List.set_cons_zero, List.set_cons_succ]
  refine wpAnyH_take (i := 6) (v := ?_) rfl (by kernel_rfl) (by kernel_rfl) (by kernel_rfl) (fun _ _ _ h => h) (Or.inl ⟨by kernel_rfl, ?_⟩) (by assumption) ?_
  rotate_left
  · intro Wt hSt
    go_simp
    try with_reducible rfl
  try simp only [List.getElem_toArray, List.getElem_cons_zero, List.getElem_cons_succ, Act.put, List.setIfInBounds_toArray, List.set_cons_zero, List.set_cons_succ]
  refine wpAnyH_take (i := 7) (v := ?_) rfl (by kernel_rfl) (by kernel_rfl) (by kernel_rfl) (fun _ _ _ h => h) (Or.inl ⟨by kernel_rfl, ?_⟩) (by assumption) ?_
  rotate_left
  · intro Wt hSt
    go_simp
    try with_reducible rfl
  try simp only [List.getElem_toArray, List.getElem_cons_zero, List.getElem_cons_succ, Act.put, List.setIfInBounds_toArray, List.set_cons_zero, List.set_cons_succ]
  refine wpAnyH_take (i := 8) (v := ?_) rfl (by kernel_rfl) (by kernel_rfl) (by kernel_rfl) (fun _ _ _ h => h) (Or.inl ⟨by kernel_rfl, ?_⟩) (by assumption) ?_
  rotate_left
  · intro Wt hSt
    go_simp
    try with_reducible rfl
  try simp only [List.getElem_toArray, List.getElem_cons_zero, List.getElem_cons_succ, Act.put, List.setIfInBounds_toArray, List.set_cons_zero, List.set_cons_succ]
  clear f0 f1 f2 f3
  refine wpAnyH_one 4 _ rfl (by kernel_rfl) (by kernel_rfl) ?_
  intro K hK
  go_simp
  refine ((unhide H1) _).mono ?_; rintro e w' ⟨rfl, rfl⟩
  dsimp only
  refine hK _ _ hSW ?_
  clear hK K
  try simp only [List.getElem_toArray, List.getElem_cons_zero, List.getElem_cons_succ, Act.put, List.setIfInBounds_toArray, List.set_cons_zero, List.set_cons_succ]
  refine wpAnyH_one 9 _ rfl (by kernel_rfl) (by kernel_rfl) ?_
  intro K hK
  go_simp
  refine ((unhide H2) _).mono ?_; rintro e w' ⟨rfl, rfl⟩
  dsimp only
  refine hK _ _ hSW ?_
  clear hK K
  try simp only [List.getElem_toArray, List.getElem_cons_zero, List.getElem_cons_succ, Act.put, List.setIfInBounds_toArray, List.set_cons_zero, List.set_cons_succ]
  refine wpAnyH_one 10 _ rfl (by kernel_rfl) (by kernel_rfl) ?_
  intro K hK
  go_simp
  generalize hX : w'.alloc _ = V
  have HV : Hid (V = w'.alloc (.cells #[.int .i64 C1, .int .i64 C2] 3)) := hX.symm
  have hIt : It V (some ⟨w'.heap.size, 0, none⟩) [C1, C2] := by rw [unhide HV]; exact two_it w' C1 C2 (unhide HB1) (unhide HB2) _
  have hV : Below w'.heap.size w' V := hX ▸ (Below.refl _ _).alloc (Nat.le_refl _) _
  have HI := hide hIt
  clear hX hIt
  refine hK _ _ hV ?_
  clear hK K
  try simp only [List.getElem_toArray, List.getElem_cons_zero, List.getElem_cons_succ, Act.put, List.setIfInBounds_toArray, List.set_cons_zero, List.set_cons_succ]
  refine wpAnyH_one 11 _ rfl (by kernel_rfl) (by kernel_rfl) ?_
  intro K hK
  go_simp
  refine (or_any _ _ [C1, C2] _ (unhide HI) (by simp)).mono ?_; rintro e w2 ⟨rfl, rfl⟩
  rw [← unhide HR]
  dsimp only
  refine hK _ _ hV ?_
  clear hK K
  try simp only [List.getElem_toArray, List.getElem_cons_zero, List.getElem_cons_succ, Act.put, List.setIfInBounds_toArray, List.set_cons_zero, List.set_cons_succ]
  refine wpAnyH_one 12 _ rfl (by kernel_rfl) (by kernel_rfl) ?_
  intro K hK
  go_simp
  refine hK _ _ hV ?_
  clear hK K
  try simp only [List.getElem_toArray, List.getElem_cons_zero, List.getElem_cons_succ, Act.put, List.setIfInBounds_toArray, List.set_cons_zero, List.set_cons_succ]
  refine wpAnyH_chainOf [] _ _ _ (by kernel_rfl) (by kernel_rfl) ?_
  refine wpChain_nil ?_
  go_wp2_with fail
  go_ret
  refine ⟨rfl, 1, os ++ #[.cells #[.int .i64 C1, .int .i64 C2] 3], ?_⟩
  rw [unhide HV, show w' = W0.drewN 1 from HW, unhide HG, alloc_eq_grow, ← grow_grow]
  rfl
end Go.Proofs.YthbdhlcimgiemaaDoor
