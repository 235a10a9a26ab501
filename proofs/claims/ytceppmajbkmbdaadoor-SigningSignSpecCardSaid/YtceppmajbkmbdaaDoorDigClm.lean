/- Contracts over the digest's program: Climb. -/
import Derived.Test.YtceppmajbkmbdaaDoorDigClimb
namespace Go.Proofs.YtceppmajbkmbdaaDoor
set_option linter.unusedSimpArgs false
set_option linter.unusedVariables false
open Go.RowKit

theorem results_cell_tmp_mid {P : Program} {fn : Func} {t u : Tmp} {ty : TypeId} (h : fn.results = #[.cell t ty, .tmp u]) (tmps : Array Value) (w : World) (b : Nat) (cs : List Value) (d : TypeDesc) (hp : tmps.getD t undef = .pointer (some ⟨b, 0, none⟩)) (hc : w.rangeAt b 0 cs)
    (hu : P.underlying ty = some d) (hd : d.isRow = true) (hi : (P.info? ty).map (·.size) = some cs.length) : (results fn tmps).run P w = .ok (.tuple #[.agg cs.toArray, tmps.getD u undef]) w := by
  have hl := run_loadVar_mid (P := P) w b 0 ty cs d hc hu hd hi
  rw [results_cell_tmp h, hp]
  simp [asAddr, Result.andThen, hl]
theorem bret2 {fn : Func} {R : Ending → World → Prop} {a : Act} {w : World} {t u : Tmp} (h : fn.results = #[.cell t 24, .tmp u]) (hd : a.defers = []) (N : Nat) (hp : a.tmps.getD t undef = .pointer (some ⟨N, 0, none⟩)) (T : TypeId) (l : List Int) (h0 : ByAt w N T l) (hl : l.length = 32) (v : Value) (hv : a.tmps.getD u undef = v) (hR : R (.returned (.tuple #[dv l, v])) w) :
    bodyPost Tryd.prog fn R .ret a w := by
  subst hv
  exact bodyPost_ret (v := .tuple #[dv l, a.tmps.getD u undef]) (results_cell_tmp_mid h _ _ N (l.map (Value.int .u8)) _ hp h0.range Tryd.underlying24 rfl (by rw [List.length_map, hl]; exact info32)) hd hR
theorem built_zero : Tryd.prog.built 24 [] = some (zeros.map (Value.int .u8)).toArray := by kernel_rfl
theorem build_zero (w : World) : (Instr.build 24 #[]).run Tryd.prog w = .ok (dv zeros) w := run_build w _ _ _ built_zero
theorem wpList_build0 {P : Program} {ops : Array Oper} {rest : List Oper} {o : Oper} {a : Act} {w : World} {Q : Exit → Act → World → Prop} (hgd : o.guard = none) (t : TypeId) (ho : o.op = .build t #[]) (r : Value)
    (hr : (Instr.build t #[]).run P w = .ok r w) (h : wpList P ops Q rest (a.put o.dst r) w) : wpList P ops Q (o :: rest) a w := by
  refine wpList_plain hgd fun _ hK => ?_
  unfold Oper.wp execOp
  simp only [ho]
  rw [show (Array.map (fun (x : Nat × Operand) => (x.fst, a.eval x.snd)) #[]) = #[] by simp]
  simp only [Sem.run_bind, Sem.run_pure, hr, Result.andThen_ok]
  exact hK _ _ h

set_option maxRecDepth 100000 in
set_option maxHeartbeats 4000000 in
theorem clm_a (at_ n : Int) (h1 : n < 1) (d : List Int) (w : World) (m c : Nat) (A : Option Addr) (hd : Dg d) (hT : DTab w) :
    Calls Tryd.prog 20 #[dv d, .int .i64 at_, .int .i64 n, .slice A m c] w fun x w' => x = .returned (.tuple #[dv zeros, .int .i64 1]) ∧ Below w.heap.size w w' := by
  have HT := hide hT
  have HD := hide hd
  obtain ⟨cd, hcd⟩ : ∃ cs, cs = (d.map (Value.int .u8)).toArray := ⟨_, rfl⟩
  have hsd : cd.size = 32 := by rw [hcd]; simpa using hd.len
  have HCD := hide hcd
  rw [show dv d = .agg cd by rw [hcd]]
  clear hT hd hcd
  go_enter Tryd.func20, Tryd.ntmps20
  go_upto_region 1 with fail
  generalize hX1 : w.alloc _ = W1
  have hB1 : Below w.heap.size w W1 := hX1 ▸ (Below.refl _ _).alloc (Nat.le_refl _) _
  have ho1 : ByAt W1 w.heap.size 24 d := boxed w W1 d _ (by rw [← hX1]; first | rfl | (rw [unhide HCD]; rfl))
  have hz1 : W1.heap.size = w.heap.size + 1 := by rw [← hX1]; show (w.heap.push _).size = _; rw [Array.size_push]
  generalize hX2 : W1.alloc _ = W2
  have hB2 : Below W1.heap.size W1 W2 := hX2 ▸ (Below.refl _ _).alloc (Nat.le_refl _) _
  have ho2 : ByAt W2 W1.heap.size 24 zeros := newBy W1 W2 (by rw [← hX2]; rfl)
  rw [hz1] at ho2
  have HB := hide (thenB hB1 hB2)
  have HO1 := hide (ho1.keep hB2)
  have HO2 := hide ho2
  clear hX1 hX2 hB1 hB2 ho1 ho2 hz1
  go_upto_region 2 with fail
  refine wp_region_lit ?_
  refine wpList_build0 rfl 24 rfl (dv zeros) (build_zero _) ?_
  refine wpList_bstore rfl 24 (.tmp 8) (.tmp 34) rfl (w.heap.size + 1) rfl zeros rfl 32 info32 rfl _ zeros (unhide HO2) rfl ?_
  intro W9 HW9 HG
  go_wp2_with fail
  try simp only [Exit.inBlock, Exit.then]
  exact bret2 rfl rfl (w.heap.size + 1) rfl _ _ (unhide HW9) rfl _ rfl ⟨rfl, (unhide HB).grown (unhide HG) (unhide HB).size (fun i e => by injection e with e; omega)⟩
set_option maxRecDepth 100000 in
set_option maxHeartbeats 4000000 in
theorem clm_b (at_ n : Int) (h1 : ¬ n < 1) (h2 : 1099511627776 < n) (d : List Int) (w : World) (m c : Nat) (A : Option Addr) (hd : Dg d) (hT : DTab w) :
    Calls Tryd.prog 20 #[dv d, .int .i64 at_, .int .i64 n, .slice A m c] w fun x w' => x = .returned (.tuple #[dv zeros, .int .i64 1]) ∧ Below w.heap.size w w' := by
  have HT := hide hT
  have HD := hide hd
  obtain ⟨cd, hcd⟩ : ∃ cs, cs = (d.map (Value.int .u8)).toArray := ⟨_, rfl⟩
  have hsd : cd.size = 32 := by rw [hcd]; simpa using hd.len
  have HCD := hide hcd
  rw [show dv d = .agg cd by rw [hcd]]
  clear hT hd hcd
  go_enter Tryd.func20, Tryd.ntmps20
  go_upto_region 1 with fail
  generalize hX1 : w.alloc _ = W1
  have hB1 : Below w.heap.size w W1 := hX1 ▸ (Below.refl _ _).alloc (Nat.le_refl _) _
  have ho1 : ByAt W1 w.heap.size 24 d := boxed w W1 d _ (by rw [← hX1]; first | rfl | (rw [unhide HCD]; rfl))
  have hz1 : W1.heap.size = w.heap.size + 1 := by rw [← hX1]; show (w.heap.push _).size = _; rw [Array.size_push]
  generalize hX2 : W1.alloc _ = W2
  have hB2 : Below W1.heap.size W1 W2 := hX2 ▸ (Below.refl _ _).alloc (Nat.le_refl _) _
  have ho2 : ByAt W2 W1.heap.size 24 zeros := newBy W1 W2 (by rw [← hX2]; rfl)
  rw [hz1] at ho2
  have HB := hide (thenB hB1 hB2)
  have HO1 := hide (ho1.keep hB2)
  have HO2 := hide ho2
  clear hX1 hX2 hB1 hB2 ho1 ho2 hz1
  go_upto_region 2 with fail
  refine wp_region_lit ?_
  refine wpList_build0 rfl 24 rfl (dv zeros) (build_zero _) ?_
  refine wpList_bstore rfl 24 (.tmp 8) (.tmp 34) rfl (w.heap.size + 1) rfl zeros rfl 32 info32 rfl _ zeros (unhide HO2) rfl ?_
  intro W9 HW9 HG
  go_wp2_with fail
  try simp only [Exit.inBlock, Exit.then]
  exact bret2 rfl rfl (w.heap.size + 1) rfl _ _ (unhide HW9) rfl _ rfl ⟨rfl, (unhide HB).grown (unhide HG) (unhide HB).size (fun i e => by injection e with e; omega)⟩
set_option maxRecDepth 100000 in
set_option maxHeartbeats 4000000 in
theorem clm_c (at_ n : Int) (h1 : ¬ n < 1) (h2 : ¬ 1099511627776 < n) (h3 : at_ < 0) (d : List Int) (w : World) (m c : Nat) (A : Option Addr) (hd : Dg d) (hT : DTab w) :
    Calls Tryd.prog 20 #[dv d, .int .i64 at_, .int .i64 n, .slice A m c] w fun x w' => x = .returned (.tuple #[dv zeros, .int .i64 1]) ∧ Below w.heap.size w w' := by
  have HT := hide hT
  have HD := hide hd
  obtain ⟨cd, hcd⟩ : ∃ cs, cs = (d.map (Value.int .u8)).toArray := ⟨_, rfl⟩
  have hsd : cd.size = 32 := by rw [hcd]; simpa using hd.len
  have HCD := hide hcd
  rw [show dv d = .agg cd by rw [hcd]]
  clear hT hd hcd
  go_enter Tryd.func20, Tryd.ntmps20
  go_upto_region 1 with fail
  generalize hX1 : w.alloc _ = W1
  have hB1 : Below w.heap.size w W1 := hX1 ▸ (Below.refl _ _).alloc (Nat.le_refl _) _
  have ho1 : ByAt W1 w.heap.size 24 d := boxed w W1 d _ (by rw [← hX1]; first | rfl | (rw [unhide HCD]; rfl))
  have hz1 : W1.heap.size = w.heap.size + 1 := by rw [← hX1]; show (w.heap.push _).size = _; rw [Array.size_push]
  generalize hX2 : W1.alloc _ = W2
  have hB2 : Below W1.heap.size W1 W2 := hX2 ▸ (Below.refl _ _).alloc (Nat.le_refl _) _
  have ho2 : ByAt W2 W1.heap.size 24 zeros := newBy W1 W2 (by rw [← hX2]; rfl)
  rw [hz1] at ho2
  have HB := hide (thenB hB1 hB2)
  have HO1 := hide (ho1.keep hB2)
  have HO2 := hide ho2
  clear hX1 hX2 hB1 hB2 ho1 ho2 hz1
  go_upto_region 2 with fail
  refine wp_region_lit ?_
  refine wpList_build0 rfl 24 rfl (dv zeros) (build_zero _) ?_
  refine wpList_bstore rfl 24 (.tmp 8) (.tmp 34) rfl (w.heap.size + 1) rfl zeros rfl 32 info32 rfl _ zeros (unhide HO2) rfl ?_
  intro W9 HW9 HG
  go_wp2_with fail
  try simp only [Exit.inBlock, Exit.then]
  exact bret2 rfl rfl (w.heap.size + 1) rfl _ _ (unhide HW9) rfl _ rfl ⟨rfl, (unhide HB).grown (unhide HG) (unhide HB).size (fun i e => by injection e with e; omega)⟩
set_option maxRecDepth 100000 in
set_option maxHeartbeats 4000000 in
theorem clm_d (at_ n : Int) (h1 : ¬ n < 1) (h2 : ¬ 1099511627776 < n) (h3 : ¬ at_ < 0) (h4 : n ≤ at_) (d : List Int) (w : World) (m c : Nat) (A : Option Addr) (hd : Dg d) (hT : DTab w) :
    Calls Tryd.prog 20 #[dv d, .int .i64 at_, .int .i64 n, .slice A m c] w fun x w' => x = .returned (.tuple #[dv zeros, .int .i64 1]) ∧ Below w.heap.size w w' := by
  have HT := hide hT
  have HD := hide hd
  obtain ⟨cd, hcd⟩ : ∃ cs, cs = (d.map (Value.int .u8)).toArray := ⟨_, rfl⟩
  have hsd : cd.size = 32 := by rw [hcd]; simpa using hd.len
  have HCD := hide hcd
  rw [show dv d = .agg cd by rw [hcd]]
  clear hT hd hcd
  go_enter Tryd.func20, Tryd.ntmps20
  go_upto_region 1 with fail
  generalize hX1 : w.alloc _ = W1
  have hB1 : Below w.heap.size w W1 := hX1 ▸ (Below.refl _ _).alloc (Nat.le_refl _) _
  have ho1 : ByAt W1 w.heap.size 24 d := boxed w W1 d _ (by rw [← hX1]; first | rfl | (rw [unhide HCD]; rfl))
  have hz1 : W1.heap.size = w.heap.size + 1 := by rw [← hX1]; show (w.heap.push _).size = _; rw [Array.size_push]
  generalize hX2 : W1.alloc _ = W2
  have hB2 : Below W1.heap.size W1 W2 := hX2 ▸ (Below.refl _ _).alloc (Nat.le_refl _) _
  have ho2 : ByAt W2 W1.heap.size 24 zeros := newBy W1 W2 (by rw [← hX2]; rfl)
  rw [hz1] at ho2
  have HB := hide (thenB hB1 hB2)
  have HO1 := hide (ho1.keep hB2)
  have HO2 := hide ho2
  clear hX1 hX2 hB1 hB2 ho1 ho2 hz1
  go_upto_region 2 with fail
  refine wp_region_lit ?_
  refine wpList_build0 rfl 24 rfl (dv zeros) (build_zero _) ?_
  refine wpList_bstore rfl 24 (.tmp 8) (.tmp 34) rfl (w.heap.size + 1) rfl zeros rfl 32 info32 rfl _ zeros (unhide HO2) rfl ?_
  intro W9 HW9 HG
  go_wp2_with fail
  try simp only [Exit.inBlock, Exit.then]
  exact bret2 rfl rfl (w.heap.size + 1) rfl _ _ (unhide HW9) rfl _ rfl ⟨rfl, (unhide HB).grown (unhide HG) (unhide HB).size (fun i e => by injection e with e; omega)⟩
set_option maxRecDepth 100000 in
set_option maxHeartbeats 4000000 in
theorem clm_e (at_ n : Nat) (hn : n ≤ 1099511627776) (h1 : 1 ≤ n) (hat : at_ < n) (d : List Int) (w : World) (m c : Nat) (A : Option Addr) (hm : m ≠ lenP n at_) (hd : Dg d) (hT : DTab w) :
    Calls Tryd.prog 20 #[dv d, .int .i64 (at_ : Int), .int .i64 (n : Int), .slice A m c] w fun x w' => x = .returned (.tuple #[dv zeros, .int .i64 1]) ∧ Below w.heap.size w w' := by
  have n1 : ¬ (n : Int) < 1 := by omega
  have n2 : ¬ (1099511627776 : Int) < (n : Int) := by omega
  have n3 : ¬ (at_ : Int) < 0 := by omega
  have n4 : ¬ (n : Int) ≤ (at_ : Int) := by omega
  have HN : Hid (n ≤ 1099511627776 ∧ 1 ≤ n ∧ at_ < n) := ⟨hn, h1, hat⟩
  obtain ⟨T, hTl⟩ : ∃ T, T = lenP n at_ := ⟨_, rfl⟩
  have n5 : ¬ (m : Int) = (T : Int) := by omega
  have HTL := hide hTl
  clear hn h1 hat hTl hm
  have HT := hide hT
  have HD := hide hd
  obtain ⟨cd, hcd⟩ : ∃ cs, cs = (d.map (Value.int .u8)).toArray := ⟨_, rfl⟩
  have hsd : cd.size = 32 := by rw [hcd]; simpa using hd.len
  have HCD := hide hcd
  rw [show dv d = .agg cd by rw [hcd]]
  clear hT hd hcd
  go_enter Tryd.func20, Tryd.ntmps20
  go_upto_region 1 with fail
  generalize hX1 : w.alloc _ = W1
  have hB1 : Below w.heap.size w W1 := hX1 ▸ (Below.refl _ _).alloc (Nat.le_refl _) _
  have ho1 : ByAt W1 w.heap.size 24 d := boxed w W1 d _ (by rw [← hX1]; first | rfl | (rw [unhide HCD]; rfl))
  have hz1 : W1.heap.size = w.heap.size + 1 := by rw [← hX1]; show (w.heap.push _).size = _; rw [Array.size_push]
  generalize hX2 : W1.alloc _ = W2
  have hB2 : Below W1.heap.size W1 W2 := hX2 ▸ (Below.refl _ _).alloc (Nat.le_refl _) _
  have ho2 : ByAt W2 W1.heap.size 24 zeros := newBy W1 W2 (by rw [← hX2]; rfl)
  rw [hz1] at ho2
  have HB := hide (thenB hB1 hB2)
  have HO1 := hide (ho1.keep hB2)
  have HO2 := hide ho2
  clear hX1 hX2 hB1 hB2 ho1 ho2 hz1
  go_wp2_with fail
  refine (plen_any n at_ (unhide HN).2.1 (unhide HN).1 (unhide HN).2.2 W2).mono ?_; rintro x W3 ⟨rfl, rfl⟩
  rw [← unhide HTL]
  go_upto_region 2 with fail
  refine wp_region_lit ?_
  refine wpList_build0 rfl 24 rfl (dv zeros) (build_zero _) ?_
  refine wpList_bstore rfl 24 (.tmp 8) (.tmp 34) rfl (w.heap.size + 1) rfl zeros rfl 32 info32 rfl _ zeros (unhide HO2) rfl ?_
  intro W9 HW9 HG
  go_wp2_with fail
  try simp only [Exit.inBlock, Exit.then]
  exact bret2 rfl rfl (w.heap.size + 1) rfl _ _ (unhide HW9) rfl _ rfl ⟨rfl, (unhide HB).grown (unhide HG) (unhide HB).size (fun i e => by injection e with e; omega)⟩
set_option maxRecDepth 100000 in
set_option maxHeartbeats 4000000 in
theorem Climb_ok (at_ n : Nat) (hn : n ≤ 1099511627776) (h1 : 1 ≤ n) (hat : at_ < n) (p : List (List Int)) (hpm : p.length = lenP n at_) (d : List Int) (w : World) (m c : Nat) (A : Option Addr) (hm : m = p.length) (hd : Dg d) (hT : DTab w) (hmc : m ≤ c) (hA : Ds w A p)
    (HC : ∀ (W : World) (hb : Nat), HAt W hb → DTab W → Ds W A p → ClimbIs W hb d n at_ m c A p) :
    Calls Tryd.prog 20 #[dv d, .int .i64 (at_ : Int), .int .i64 (n : Int), .slice A m c] w fun x w' => x = .returned (.tuple #[dv (climbP d n at_ p), .int .i64 0]) ∧ Below w.heap.size w w' := by
  have n1 : ¬ (n : Int) < 1 := by omega
  have n2 : ¬ (1099511627776 : Int) < (n : Int) := by omega
  have n3 : ¬ (at_ : Int) < 0 := by omega
  have n4 : ¬ (n : Int) ≤ (at_ : Int) := by omega
  have HN : Hid (n ≤ 1099511627776 ∧ 1 ≤ n ∧ at_ < n) := ⟨hn, h1, hat⟩
  obtain ⟨T, hTl⟩ : ∃ T, T = lenP n at_ := ⟨_, rfl⟩
  have n5 : (m : Int) = (T : Int) := by omega
  have HTL := hide hTl
  have HA := hide hA
  have HK := hide HC
  clear hn h1 hat hTl hm hpm hmc hA HC
  have HT := hide hT
  have HD := hide hd
  obtain ⟨cd, hcd⟩ : ∃ cs, cs = (d.map (Value.int .u8)).toArray := ⟨_, rfl⟩
  have hsd : cd.size = 32 := by rw [hcd]; simpa using hd.len
  have HCD := hide hcd
  rw [show dv d = .agg cd by rw [hcd]]
  clear hT hd hcd
  go_enter Tryd.func20, Tryd.ntmps20
  go_upto_region 1 with fail
  generalize hX1 : w.alloc _ = W1
  have hB1 : Below w.heap.size w W1 := hX1 ▸ (Below.refl _ _).alloc (Nat.le_refl _) _
  have ho1 : ByAt W1 w.heap.size 24 d := boxed w W1 d _ (by rw [← hX1]; first | rfl | (rw [unhide HCD]; rfl))
  have hz1 : W1.heap.size = w.heap.size + 1 := by rw [← hX1]; show (w.heap.push _).size = _; rw [Array.size_push]
  generalize hX2 : W1.alloc _ = W2
  have hB2 : Below W1.heap.size W1 W2 := hX2 ▸ (Below.refl _ _).alloc (Nat.le_refl _) _
  have ho2 : ByAt W2 W1.heap.size 24 zeros := newBy W1 W2 (by rw [← hX2]; rfl)
  rw [hz1] at ho2
  have HB := hide (thenB hB1 hB2)
  have HO1 := hide (ho1.keep hB2)
  have HO2 := hide ho2
  clear hX1 hX2 hB1 hB2 ho1 ho2 hz1
  go_wp2_with fail
  refine (plen_any n at_ (unhide HN).2.1 (unhide HN).1 (unhide HN).2.2 W2).mono ?_; rintro x W3 ⟨rfl, rfl⟩
  rw [← unhide HTL]
  go_wp2_with fail
  refine (newHasher_any W3 ((unhide HT).keep (unhide HB))).mono ?_; rintro x W4 ⟨rfl, hB4⟩
  have HB4 := hide (thenB (unhide HB) hB4)
  have HO4 := hide ((unhide HO1).keep hB4)
  have HR4 := hide ((unhide HO2).keep hB4)
  obtain ⟨cs, hcs⟩ : ∃ cs, cs = ((LT ++ NT).map (Value.int .u8)).toArray := ⟨_, rfl⟩
  rw [show dv (LT ++ NT) = .agg cs by rw [hcs]]
  have HCS := hide hcs
  clear hB4 hcs HB HO1 HO2
  dsimp only
  rename_i KK hK
  refine hK _ _ ?_
  clear hK KK
  refine wpList_plain rfl fun Kt hKt => ?_
  go_simp
  refine hKt _ _ ?_
  clear hKt Kt
  generalize hX5 : W4.alloc _ = W5
  have hB5 : Below W4.heap.size W4 W5 := hX5 ▸ (Below.refl _ _).alloc (Nat.le_refl _) _
  have ho5 : ByAt W5 W4.heap.size 64 (List.replicate 64 0) := by
    rw [← hX5]
    show (W4.heap.push _)[W4.heap.size]? = _
    rw [Array.getElem?_push_size]
    rfl
  have HH5 := hide ho5
  have hO5 := (unhide HO4).keep hB5
  have hR5 := (unhide HR4).keep hB5
  have HNE : Hid (w.heap.size + 1 < W4.heap.size) := lt_of_block (unhide HR4)
  have hB05 := thenB (unhide HB4) hB5
  have HB5 := hide hB05
  have HO5 := hide hO5
  have HR5 := hide hR5
  clear hX5 hB5 ho5 hO5 hR5 hB05 HO4 HR4 HB4
  refine wpList_bstore rfl 64 (.tmp 10) (.tmp 35) rfl W4.heap.size rfl (LT ++ NT) (show Value.agg cs = _ by rw [unhide HCS]) 64 info64 (by simp [LT_length, NT_length]) _ (List.replicate 64 0) (unhide HH5) rfl ?_
  intro W6 HW6 HG6
  have HB6 := hide ((unhide HB5).grown (unhide HG6) (unhide HB5).size (fun i e => by injection e with e; have := unhide HNE; omega))
  have HO6 := hide ((unhide HO5).grown (unhide HG6) (by have := unhide HNE; omega))
  have HR6 := hide ((unhide HR5).grown (unhide HG6) (by have := unhide HNE; omega))
  clear HG6 HO5 HR5 HB5 HH5
  go_upto_region 4 with fail
  refine wp_region_lit ?_
  refine wpList_bload rfl 24 (.tmp 4) rfl w.heap.size rfl _ Tryd.underlying24 rfl 32 info32 _ d (unhide HO6) (unhide HD).len ?_
  rw [show dv d = .agg cd by rw [unhide HCD]]
  go_wp2_with fail
  have hcl := (unhide HK) W6 W4.heap.size (unhide HW6) ((unhide HT).keep (unhide HB6)) ((unhide HA).keep (unhide HB6))
  unfold ClimbIs at hcl
  rw [show dv d = .agg cd by rw [unhide HCD]] at hcl
  refine hcl.mono ?_; rintro x W7 ⟨rfl, hB7⟩
  have HB7 := hide (thenB (unhide HB6) hB7)
  have HR7 := hide ((unhide HR6).keep hB7)
  clear hB7 HR6 HB6 hcl
  dsimp only
  rename_i KK hK
  refine hK _ _ ?_
  clear hK KK
  refine wpList_bstore rfl 24 (.tmp 8) (.tmp 40) rfl (w.heap.size + 1) rfl (climbP d n at_ p) rfl 32 info32 (dg_climb _ _ _ _).len _ zeros (unhide HR7) rfl ?_
  intro W9 HW9 HG
  go_wp2_with fail
  try simp only [Exit.inBlock, Exit.then]
  exact bret2 rfl rfl (w.heap.size + 1) rfl _ _ (unhide HW9) (dg_climb _ _ _ _).len _ rfl ⟨rfl, (unhide HB7).grown (unhide HG) (unhide HB7).size (fun i e => by injection e with e; omega)⟩
theorem Climb_bad (at_ n : Int) (m : Nat) (h : ¬ (1 ≤ n ∧ n ≤ 1099511627776 ∧ 0 ≤ at_ ∧ at_ < n ∧ m = lenP n.toNat at_.toNat)) (d : List Int) (w : World) (c : Nat) (A : Option Addr) (hd : Dg d) (hT : DTab w) :
    Calls Tryd.prog 20 #[dv d, .int .i64 at_, .int .i64 n, .slice A m c] w fun x w' => x = .returned (.tuple #[dv zeros, .int .i64 1]) ∧ Below w.heap.size w w' := by
  by_cases h1 : n < 1
  · exact clm_a at_ n h1 d w m c A hd hT
  by_cases h2 : 1099511627776 < n
  · exact clm_b at_ n h1 h2 d w m c A hd hT
  by_cases h3 : at_ < 0
  · exact clm_c at_ n h1 h2 h3 d w m c A hd hT
  by_cases h4 : n ≤ at_
  · exact clm_d at_ n h1 h2 h3 h4 d w m c A hd hT
  have := clm_e at_.toNat n.toNat (by omega) (by omega) (by omega) d w m c A (fun e => h ⟨by omega, by omega, by omega, by omega, e⟩) hd hT
  rwa [Int.toNat_of_nonneg (by omega), Int.toNat_of_nonneg (by omega)] at this
end Go.Proofs.YtceppmajbkmbdaaDoor
