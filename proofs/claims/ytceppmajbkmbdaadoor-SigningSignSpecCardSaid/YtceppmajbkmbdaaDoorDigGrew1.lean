/- Contracts over the digest's program: Grew of a list that has not grown. -/
import Derived.Test.YtceppmajbkmbdaaDoorDigWalk1
namespace Go.Proofs.YtceppmajbkmbdaaDoor
set_option linter.unusedSimpArgs false
set_option linter.unusedVariables false
open Go.RowKit

theorem wpList_wanted {P : Program} {ops : Array Oper} {Q : Exit → Act → World → Prop} {a : Act} {w : World} {rest : List Oper} {o : Oper} (hw : Region.wanted o (yielded ops a.tmps) = true)
    (h : ∀ K : Act → World → Prop, (∀ a w, wpList P ops Q rest a w → K a w) → o.wp P a w K Q) : wpList P ops Q (o :: rest) a w := by
  unfold wpList
  rw [if_pos hw]
  exact .inl (h _ fun a w h => h)
theorem wpList_gload {P : Program} {ops : Array Oper} {rest : List Oper} {o : Oper} {a : Act} {w : World} {Q : Exit → Act → World → Prop} (hw : Region.wanted o (yielded ops a.tmps) = true) (ty : TypeId) (x : Operand) (ho : o.op = .load ty x)
    (N : Nat) (hx : a.eval x = .pointer (some ⟨N, 0, none⟩)) (d : TypeDesc) (hu : P.underlying ty = some d) (hd : d.isRow = true) (n : Nat) (hi : (P.info? ty).map (·.size) = some n) (T : TypeId) (l : List Int) (h0 : ByAt w N T l) (hl : l.length = n)
    (h : wpList P ops Q rest (a.put o.dst (dv l)) w) : wpList P ops Q (o :: rest) a w :=
  wpList_wanted hw fun _ hK => wp_load_mid ty x ho N 0 hx (l.map (Value.int .u8)) d h0.range hu hd (by simpa [hl] using hi) (hK _ _ h)
theorem wp_eql {o : Oper} {a : Act} {w : World} {K : Act → World → Prop} {Q : Exit → Act → World → Prop} (x y : Operand) (t : TypeId) (ho : o.op = .binOp .eql 24 x y t) (l k : List Int) (hx : a.eval x = dv l) (hy : a.eval y = dv k) (hl : l.length = 32) (hk : k.length = 32)
    (h : K (a.put o.dst (.bool (decide (l = k)))) w) : o.wp Tryd.prog a w K Q := by
  unfold Oper.wp execOp
  simp only [ho, hx, hy, Sem.run_bind, run_eqGuard_agg w _ _ _ _ _ _ guard_dg, run_eql_struct, eq_dg l k hl hk w, Result.andThen_ok, Sem.run_pure]
  exact h
theorem wpList_eql {ops : Array Oper} {rest : List Oper} {o : Oper} {a : Act} {w : World} {Q : Exit → Act → World → Prop} (hw : Region.wanted o (yielded ops a.tmps) = true) (x y : Operand) (t : TypeId) (ho : o.op = .binOp .eql 24 x y t) (l k : List Int) (hx : a.eval x = dv l) (hy : a.eval y = dv k) (hl : l.length = 32) (hk : k.length = 32)
    (h : wpList Tryd.prog ops Q rest (a.put o.dst (.bool (decide (l = k)))) w) : wpList Tryd.prog ops Q (o :: rest) a w :=
  wpList_wanted hw fun _ hK => wp_eql x y t ho l k hx hy hl hk (hK _ _ h)

set_option maxRecDepth 100000 in
set_option maxHeartbeats 1000000 in
theorem Grew_one (a b : List Int) (ha : Dg a) (hb : Dg b) (w : World) (hT : DTab w) :
    Calls Tryd.prog 24 #[dv a, dv b, .int .i64 1, .int .i64 1, .slice none 0 0] w fun x w' => x = .returned (.bool (decide (a = b))) ∧ Below w.heap.size w w' := by
  have HT := hide hT
  have HA := hide ha
  have HB := hide hb
  obtain ⟨ca, hca⟩ : ∃ cs, cs = (a.map (Value.int .u8)).toArray := ⟨_, rfl⟩
  have hsa : ca.size = 32 := by rw [hca]; simpa using ha.len
  have HCA := hide hca
  obtain ⟨cb, hcb⟩ : ∃ cs, cs = (b.map (Value.int .u8)).toArray := ⟨_, rfl⟩
  have hsb : cb.size = 32 := by rw [hcb]; simpa using hb.len
  have HCB := hide hcb
  rw [show dv a = .agg ca by rw [hca], show dv b = .agg cb by rw [hcb]]
  clear hT ha hb hca hcb
  go_enter Tryd.func24, Tryd.ntmps24
  go_upto_region 1 with fail
  generalize hX1 : w.alloc _ = W1
  have hB1 : Below w.heap.size w W1 := hX1 ▸ (Below.refl _ _).alloc (Nat.le_refl _) _
  have ho1 : ByAt W1 w.heap.size 24 a := boxed w W1 a _ (by rw [← hX1]; first | rfl | (rw [unhide HCA]; rfl))
  have hz1 : W1.heap.size = w.heap.size + 1 := by rw [← hX1]; show (w.heap.push _).size = _; rw [Array.size_push]
  generalize hX2 : W1.alloc _ = W2
  have hB2 : Below W1.heap.size W1 W2 := hX2 ▸ (Below.refl _ _).alloc (Nat.le_refl _) _
  have ho2 : ByAt W2 W1.heap.size 24 b := boxed W1 W2 b _ (by rw [← hX2]; first | rfl | (rw [unhide HCB]; rfl))
  have hz2 : W2.heap.size = w.heap.size + 2 := by rw [← hX2]; show (W1.heap.push _).size = _; rw [Array.size_push]; omega
  generalize hX3 : W2.alloc _ = W3
  have hB3 : Below W2.heap.size W2 W3 := hX3 ▸ (Below.refl _ _).alloc (Nat.le_refl _) _
  have ho3 : W3.cell? ⟨W2.heap.size, 0, none⟩ = some (.slice none 0 0) := boxCell W2 W3 _ _ _ (by rw [← hX3]; rfl)
  have hz3 : W3.heap.size = w.heap.size + 3 := by rw [← hX3]; show (W2.heap.push _).size = _; rw [Array.size_push]; omega
  rw [hz1] at ho2
  rw [hz2] at ho3
  have hB := thenB (thenB hB1 hB2) hB3
  have hO1 := (ho1.keep hB2).keep hB3
  have hO2 := ho2.keep hB3
  obtain ⟨W, hW⟩ : ∃ W, W = W3.drewN 1 := ⟨_, rfl⟩
  have HW : Hid (W = W3.drewN 1) := hW
  have HB' := hide (thenB hB (below_named HW))
  have HO1 := hide (hO1.keep (below_named HW))
  have HO2 := hide (hO2.keep (below_named HW))
  have hSW : SC W (w.heap.size + 2) (.slice none 0 0) W := ⟨Below.refl _ _, cellKeep ho3 (below_named HW)⟩
  have hSC := fun W' (h : SC W (w.heap.size + 2) (.slice none 0 0) W') => h.cell
  clear hX1 hX2 hX3 hB1 hB2 hB3 ho1 ho2 ho3 hz1 hz2 hB hO1 hO2 hW
  refine held (S := SC W (w.heap.size + 2) (.slice none 0 0)) W HW (by kernel_rfl) ?_
  refine wpAnyH_take (i := 0) (v := ?_) rfl (by kernel_rfl) (by kernel_rfl) (by kernel_rfl) (fun _ _ _ h => h) (Or.inl ⟨by kernel_rfl, ?_⟩) (by assumption) ?_
  rotate_left
  · intro Wt hSt
    go_simp
    try with_reducible rfl
  try simp only [List.getElem_toArray, List.getElem_cons_zero, List.getElem_cons_succ, Act.put, List.setIfInBounds_toArray, List.set_cons_zero, List.set_cons_succ]
  refine wpAnyH_take (i := 1) (v := ?_) rfl (by kernel_rfl) (by kernel_rfl) (by kernel_rfl) (fun _ _ _ h => h) (Or.inl ⟨by kernel_rfl, ?_⟩) (by assumption) ?_
  rotate_left
  · intro Wt hSt
    go_simp
    try with_reducible rfl
  try simp only [List.getElem_toArray, List.getElem_cons_zero, List.getElem_cons_succ, Act.put, List.setIfInBounds_toArray, List.set_cons_zero, List.set_cons_succ]
  refine wpAnyH_take (i := 2) (v := ?_) rfl (by kernel_rfl) (by kernel_rfl) (by kernel_rfl) (fun _ _ _ h => h) (Or.inl ⟨by kernel_rfl, ?_⟩) (by assumption) ?_
  rotate_left
  · intro Wt hSt
    go_simp
    try with_reducible rfl
  try simp only [List.getElem_toArray, List.getElem_cons_zero, List.getElem_cons_succ, Act.put, List.setIfInBounds_toArray, List.set_cons_zero, List.set_cons_succ]
  refine wpAnyH_take (i := 3) (v := ?_) rfl (by kernel_rfl) (by kernel_rfl) (by kernel_rfl) (fun _ _ _ h => h) (Or.inl ⟨by kernel_rfl, ?_⟩) (by assumption) ?_
  rotate_left
  · intro Wt hSt
    go_simp
    try with_reducible rfl
  try simp only [List.getElem_toArray, List.getElem_cons_zero, List.getElem_cons_succ, Act.put, List.setIfInBounds_toArray, List.set_cons_zero, List.set_cons_succ]
  refine wpAnyH_take (i := 4) (v := ?_) rfl (by kernel_rfl) (by kernel_rfl) (by kernel_rfl) (fun _ _ _ h => h) (Or.inl ⟨by kernel_rfl, ?_⟩) (by assumption) ?_
  rotate_left
  · intro Wt hSt
    go_simp
    try with_reducible rfl
  try simp only [List.getElem_toArray, List.getElem_cons_zero, List.getElem_cons_succ, Act.put, List.setIfInBounds_toArray, List.set_cons_zero, List.set_cons_succ]
  refine wpAnyH_take (i := 5) (v := ?_) rfl (by kernel_rfl) (by kernel_rfl) (by kernel_rfl) (fun _ _ _ h => h) (Or.inl ⟨by kernel_rfl, ?_⟩) (by assumption) ?_
  rotate_left
  · intro Wt hSt
    go_simp
    try with_reducible rfl
  try simp only [List.getElem_toArray, List.getElem_cons_zero, List.getElem_cons_succ, Act.put, List.setIfInBounds_toArray, List.set_cons_zero, List.set_cons_succ]
  refine wpAnyH_take (i := 6) (v := ?_) rfl (by kernel_rfl) (by kernel_rfl) (by kernel_rfl) (fun _ _ _ h => h) (Or.inl ⟨by kernel_rfl, ?_⟩) (by assumption) ?_
  rotate_left
  · intro Wt hSt
    go_simp
    try with_reducible rfl
  try simp only [List.getElem_toArray, List.getElem_cons_zero, List.getElem_cons_succ, Act.put, List.setIfInBounds_toArray, List.set_cons_zero, List.set_cons_succ]
  refine wpAnyH_take (i := 7) (v := ?_) rfl (by kernel_rfl) (by kernel_rfl) (by kernel_rfl) (fun _ _ _ h => h) (Or.inl ⟨by kernel_rfl, ?_⟩) (by assumption) ?_
  rotate_left
  · intro Wt hSt
    go_simp
    try with_reducible rfl
  try simp only [List.getElem_toArray, List.getElem_cons_zero, List.getElem_cons_succ, Act.put, List.setIfInBounds_toArray, List.set_cons_zero, List.set_cons_succ]
  refine wpAnyH_take (i := 8) (v := ?_) rfl (by kernel_rfl) (by kernel_rfl) (by kernel_rfl) (fun _ _ _ h => h) (Or.inl ⟨by kernel_rfl, ?_⟩) (by assumption) ?_
  rotate_left
  · intro Wt hSt
    go_simp
    try with_reducible rfl
  try simp only [List.getElem_toArray, List.getElem_cons_zero, List.getElem_cons_succ, Act.put, List.setIfInBounds_toArray, List.set_cons_zero, List.set_cons_succ]
  refine wpAnyH_take (i := 9) (v := ?_) rfl (by kernel_rfl) (by kernel_rfl) (by kernel_rfl) (fun _ _ _ h => h) (Or.inl ⟨by kernel_rfl, ?_⟩) (by assumption) ?_
  rotate_left
  · intro Wt hSt
    go_simp
    try with_reducible rfl
  try simp only [List.getElem_toArray, List.getElem_cons_zero, List.getElem_cons_succ, Act.put, List.setIfInBounds_toArray, List.set_cons_zero, List.set_cons_succ]
  refine wpAnyH_take (i := 10) (v := ?_) rfl (by kernel_rfl) (by kernel_rfl) (by kernel_rfl) (fun _ _ _ h => h) (Or.inl ⟨by kernel_rfl, ?_⟩) (by assumption) ?_
  rotate_left
  · intro Wt hSt
    go_simp
    try with_reducible rfl
  try simp only [List.getElem_toArray, List.getElem_cons_zero, List.getElem_cons_succ, Act.put, List.setIfInBounds_toArray, List.set_cons_zero, List.set_cons_succ]
  refine wpAnyH_take (i := 11) (v := ?_) rfl (by kernel_rfl) (by kernel_rfl) (by kernel_rfl) (fun _ _ _ h => h) (Or.inl ⟨by kernel_rfl, ?_⟩) (by assumption) ?_
  rotate_left
  · intro Wt hSt
    go_simp
    try with_reducible rfl
  try simp only [List.getElem_toArray, List.getElem_cons_zero, List.getElem_cons_succ, Act.put, List.setIfInBounds_toArray, List.set_cons_zero, List.set_cons_succ]
  refine wpAnyH_take (i := 12) (v := ?_) rfl (by kernel_rfl) (by kernel_rfl) (by kernel_rfl) (fun _ _ _ h => h) (Or.inl ⟨by kernel_rfl, ?_⟩) (by assumption) ?_
  rotate_left
  · intro Wt hSt
    go_simp
    try with_reducible rfl
  try simp only [List.getElem_toArray, List.getElem_cons_zero, List.getElem_cons_succ, Act.put, List.setIfInBounds_toArray, List.set_cons_zero, List.set_cons_succ]
  refine wpAnyH_take (i := 13) (v := ?_) rfl (by kernel_rfl) (by kernel_rfl) (by kernel_rfl) (fun _ _ _ h => h) (Or.inl ⟨by kernel_rfl, ?_⟩) (by assumption) ?_
  rotate_left
  · intro Wt hSt
    go_simp
    try with_reducible rfl
  try simp only [List.getElem_toArray, List.getElem_cons_zero, List.getElem_cons_succ, Act.put, List.setIfInBounds_toArray, List.set_cons_zero, List.set_cons_succ]
  refine wpAnyH_take (i := 14) (v := ?_) rfl (by kernel_rfl) (by kernel_rfl) (by kernel_rfl) (fun _ _ _ h => h) (Or.inl ⟨by kernel_rfl, ?_⟩) (by assumption) ?_
  rotate_left
  · intro Wt hSt
    go_simp
    try with_reducible rfl
  try simp only [List.getElem_toArray, List.getElem_cons_zero, List.getElem_cons_succ, Act.put, List.setIfInBounds_toArray, List.set_cons_zero, List.set_cons_succ]
  refine wpAnyH_take (i := 15) (v := ?_) rfl (by kernel_rfl) (by kernel_rfl) (by kernel_rfl) (fun _ _ _ h => h) (Or.inl ⟨by kernel_rfl, ?_⟩) (by assumption) ?_
  rotate_left
  · intro Wt hSt
    go_simp
    try with_reducible rfl
  try simp only [List.getElem_toArray, List.getElem_cons_zero, List.getElem_cons_succ, Act.put, List.setIfInBounds_toArray, List.set_cons_zero, List.set_cons_succ]
  refine wpAnyH_one 16 _ rfl (by kernel_rfl) (by kernel_rfl) ?_
  intro K hK
  go_simp
  have hgl := glen_any 1 1 (Nat.le_refl _) (Nat.le_refl _) (by omega) W
  rw [gLen_end] at hgl
  refine hgl.mono ?_; rintro x W' ⟨rfl, rfl⟩
  dsimp only
  refine hK _ _ hSW ?_
  clear hK K hgl
  try simp only [List.getElem_toArray, List.getElem_cons_zero, List.getElem_cons_succ, Act.put, List.setIfInBounds_toArray, List.set_cons_zero, List.set_cons_succ]
  refine wpAnyH_take (i := 17) (v := ?_) rfl (by kernel_rfl) (by kernel_rfl) (by kernel_rfl) (fun _ _ _ h => h) (Or.inl ⟨by kernel_rfl, ?_⟩) (by assumption) ?_
  rotate_left
  · intro Wt hSt
    go_simp
    try with_reducible rfl
  try simp only [List.getElem_toArray, List.getElem_cons_zero, List.getElem_cons_succ, Act.put, List.setIfInBounds_toArray, List.set_cons_zero, List.set_cons_succ]
  refine wpAnyH_take (i := 18) (v := ?_) rfl (by kernel_rfl) (by kernel_rfl) (by kernel_rfl) (fun _ _ _ h => h) (Or.inl ⟨by kernel_rfl, ?_⟩) (by assumption) ?_
  rotate_left
  · intro Wt hSt
    go_simp
    try with_reducible rfl
  try simp only [List.getElem_toArray, List.getElem_cons_zero, List.getElem_cons_succ, Act.put, List.setIfInBounds_toArray, List.set_cons_zero, List.set_cons_succ]
  refine wpAnyH_chainOf [] _ _ _ (by kernel_rfl) (by kernel_rfl) ?_
  refine wpChain_nil ?_
  have hmf : ∀ (fn : Fn) (first cap : Array Value) (w : World), (Instr.makeFunc fn first cap).run Tryd.prog w = .ok (.func fn first cap) w := fun _ _ _ _ => rfl
  go_wp2_with fail
  refine (newHasher_any W' ((unhide HT).keep (unhide HB'))).mono ?_; rintro x W4 ⟨rfl, hB4⟩
  have HB4 := hide (thenB (unhide HB') hB4)
  have HO4 := hide ((unhide HO1).keep hB4)
  have HP4 := hide ((unhide HO2).keep hB4)
  obtain ⟨cs, hcs⟩ : ∃ cs, cs = ((LT ++ NT).map (Value.int .u8)).toArray := ⟨_, rfl⟩
  rw [show dv (LT ++ NT) = .agg cs by rw [hcs]]
  have HCS := hide hcs
  have HSC4 := hide (hSW.later hB4)
  clear hB4 hcs HO1 HO2 hSC hSW
  dsimp only
  rename_i KK hK
  refine hK _ _ ?_
  clear hK KK
  refine wpList_plain rfl fun Kt hKt => ?_
  go_simp
  refine hKt _ _ ?_
  clear hKt Kt
  generalize hX5 : W4.alloc _ = W5
  have hB5 : Below W4.heap.size W4 W5 := hX5 ▸ (Below.refl _ _).alloc (Nat.le_refl _) _
  have ho5 : ByAt W5 W4.heap.size 64 (List.replicate 64 0) := by
    rw [← hX5]
    show (W4.heap.push _)[W4.heap.size]? = _
    rw [Array.getElem?_push_size]
    rfl
  have HH5 := hide ho5
  have hO5 := (unhide HO4).keep hB5
  have hP5 := (unhide HP4).keep hB5
  have HNE : Hid (w.heap.size + 1 < W4.heap.size) := lt_of_block (unhide HP4)
  have hB05 := thenB (unhide HB4) hB5
  have HB5 := hide hB05
  have HO5 := hide hO5
  have HP5 := hide hP5
  clear hX5 hB5 ho5 hO5 hP5 hB05 HO4 HP4 HB4
  refine wpList_bstore rfl 64 (.tmp 11) (.tmp 35) rfl W4.heap.size rfl (LT ++ NT) (show Value.agg cs = _ by rw [unhide HCS]) 64 info64 (by simp [LT_length, NT_length]) _ (List.replicate 64 0) (unhide HH5) rfl ?_
  intro W6 HW6 HG6
  have HB6 := hide ((unhide HB5).grown (unhide HG6) (unhide HB5).size (fun i e => by injection e with e; have := unhide HNE; omega))
  have HO6 := hide ((unhide HO5).grown (unhide HG6) (by have := unhide HNE; omega))
  have HP6 := hide ((unhide HP5).grown (unhide HG6) (by have := unhide HNE; omega))
  clear HG6 HO5 HP5 HB5 HH5
  go_wp2_with fail
  generalize hX7 : ((W6.alloc _).alloc _) = W7
  have hB7 : Below W6.heap.size W6 W7 := hX7 ▸ ((Below.refl _ _).alloc (Nat.le_refl _) _).alloc (by show W6.heap.size ≤ (W6.heap.push _).size; rw [Array.size_push]; omega) _
  have HB7 := hide (thenB (unhide HB6) hB7)
  have HO7 := hide ((unhide HO6).keep hB7)
  have HP7 := hide ((unhide HP6).keep hB7)
  clear hX7 hB7 HO6 HP6 HB6 HW6 HSC4
  refine (walk_same 1 a (unhide HA) W7 w.heap.size W6.heap.size (W6.heap.size + 1) W4.heap.size (unhide HO7)).mono ?_; rintro x W8 ⟨rfl, hB8⟩
  have HB8 := hide (thenB (unhide HB7) hB8)
  have HO8 := hide ((unhide HO7).keep hB8)
  have HP8 := hide ((unhide HP7).keep hB8)
  rw [show dv a = .agg ca by rw [unhide HCA]]
  clear hB8 HO7 HP7 HB7
  dsimp only
  rename_i KK hK
  refine hK _ _ ?_
  clear hK KK
  refine wpList_plain rfl fun Kt hKt => ?_
  go_simp
  refine hKt _ _ ?_
  clear hKt Kt
  refine wpList_plain rfl fun Kt hKt => ?_
  go_simp
  refine hKt _ _ ?_
  clear hKt Kt
  refine wpList_plain rfl fun Kt hKt => ?_
  go_simp
  refine hKt _ _ ?_
  clear hKt Kt
  refine wpList_plain rfl fun Kt hKt => ?_
  go_simp
  refine hKt _ _ ?_
  clear hKt Kt
  generalize hX9 : W8.alloc _ = W9
  have hB9 : Below W8.heap.size W8 W9 := hX9 ▸ (Below.refl _ _).alloc (Nat.le_refl _) _
  have HN9 := hide (newBy W8 W9 (by rw [← hX9]; rfl))
  have hz9 : W9.heap.size = W8.heap.size + 1 := by rw [← hX9]; show (W8.heap.push _).size = _; rw [Array.size_push]
  refine wpList_plain rfl fun Kt hKt => ?_
  go_simp
  refine hKt _ _ ?_
  clear hKt Kt
  generalize hX10 : W9.alloc _ = W10
  have hB10 : Below W9.heap.size W9 W10 := hX10 ▸ (Below.refl _ _).alloc (Nat.le_refl _) _
  have hN10 := newBy W9 W10 (by rw [← hX10]; rfl)
  rw [hz9] at hN10
  have HN10 := hide hN10
  have HZ : Hid (w.heap.size + 1 < W8.heap.size) := lt_of_block (unhide HP8)
  have hBB := thenB hB9 hB10
  have HBB := hide (thenB (unhide HB8) hBB)
  have HOO := hide ((unhide HO8).keep hBB)
  have HPP := hide ((unhide HP8).keep hBB)
  have HNN := hide ((unhide HN9).keep hB10)
  clear hX9 hB9 HN9 hz9 hX10 hB10 hN10 hBB HO8 HP8
  refine wpList_bstore rfl 24 (.tmp 14) (.tmp 43) rfl W8.heap.size rfl a (show Value.agg ca = _ by rw [unhide HCA]) 32 info32 (unhide HA).len _ zeros (unhide HNN) rfl ?_
  intro V1 HV1 HG1
  have hN1 := (unhide HN10).grown (unhide HG1) (by omega)
  have hBV1 := (unhide HBB).grown (unhide HG1) (unhide HBB).size (fun i e => by injection e with e; have := unhide HZ; omega)
  have hOV1 := (unhide HOO).grown (unhide HG1) (by have := unhide HZ; omega)
  have hPV1 := (unhide HPP).grown (unhide HG1) (by have := unhide HZ; omega)
  have HN1 := hide hN1
  have HBV1 := hide hBV1
  have HOV1 := hide hOV1
  have HPV1 := hide hPV1
  clear hN1 hBV1 hOV1 hPV1 HG1 HBB HOO HPP HNN HN10
  refine wpList_bstore rfl 24 (.tmp 15) (.tmp 44) rfl (W8.heap.size + 1) rfl a (show Value.agg ca = _ by rw [unhide HCA]) 32 info32 (unhide HA).len _ zeros (unhide HN1) rfl ?_
  intro V2 HV2 HG2
  have hW1 := (unhide HV1).grown (unhide HG2) (by omega)
  have hBV2 := (unhide HBV1).grown (unhide HG2) (unhide HBV1).size (fun i e => by injection e with e; have := unhide HZ; omega)
  have hOV2 := (unhide HOV1).grown (unhide HG2) (by have := unhide HZ; omega)
  have hPV2 := (unhide HPV1).grown (unhide HG2) (by have := unhide HZ; omega)
  have HX := hide hW1
  have HBX := hide hBV2
  have HOX := hide hOV2
  have HPX := hide hPV2
  clear hW1 hBV2 hOV2 hPV2 HG2 HV1 HN1 HBV1 HOV1 HPV1
  go_upto_region 8 with fail
  refine wp_region_lit ?_
  refine wpList_bload rfl 24 (.tmp 14) rfl W8.heap.size rfl _ Tryd.underlying24 rfl 32 info32 _ a (unhide HX) (unhide HA).len ?_
  refine wpList_bload rfl 24 (.tmp 5) rfl w.heap.size rfl _ Tryd.underlying24 rfl 32 info32 _ a (unhide HOX) (unhide HA).len ?_
  refine wpList_eql (by kernel_rfl) (.tmp 45) (.tmp 46) _ rfl a a rfl rfl (unhide HA).len (unhide HA).len ?_
  rw [show decide (a = a) = true from decide_eq_true rfl]
  try simp only [List.getElem_toArray, List.getElem_cons_zero, List.getElem_cons_succ, Act.put, List.setIfInBounds_toArray, List.set_cons_zero, List.set_cons_succ]
  refine wpList_wanted (by kernel_rfl) fun Kt hKt => ?_
  go_simp
  refine hKt _ _ ?_
  clear hKt Kt
  refine wpList_gload (by kernel_rfl) 24 (.tmp 15) rfl (W8.heap.size + 1) rfl _ Tryd.underlying24 rfl 32 info32 _ a (unhide HV2) (unhide HA).len ?_
  refine wpList_gload (by kernel_rfl) 24 (.tmp 6) rfl (w.heap.size + 1) rfl _ Tryd.underlying24 rfl 32 info32 _ b (unhide HPX) (unhide HB).len ?_
  refine wpList_eql (by kernel_rfl) (.tmp 49) (.tmp 50) _ rfl a b rfl rfl (unhide HA).len (unhide HB).len ?_
  try simp only [List.getElem_toArray, List.getElem_cons_zero, List.getElem_cons_succ, Act.put, List.setIfInBounds_toArray, List.set_cons_zero, List.set_cons_succ]
  go_wp2_with fail
  go_ret
  exact ⟨rfl, unhide HBX⟩
end Go.Proofs.YtceppmajbkmbdaaDoor
