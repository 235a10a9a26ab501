/- Contracts over the digest's program: newHasher. -/
import Derived.Test.YtceppmajbkmbdaaDoorDigNode
import Derived.Lib.SlBytesConst
import Derived.Great.FillDense
namespace Go.Proofs.YtceppmajbkmbdaaDoor
set_option linter.unusedSimpArgs false
set_option linter.unusedVariables false
open Go.RowKit

theorem info64 : (Tryd.prog.info? 64).map (·.size) = some 64 := by kernel_rfl
theorem bretG {fn : Func} {R : Ending → World → Prop} {a : Act} {w : World} {t : Tmp} {ty : TypeId} (h : fn.results = #[.cell t ty]) (hd : a.defers = []) (N : Nat) (hp : a.tmps.getD t undef = .pointer (some ⟨N, 0, none⟩)) (T : TypeId) (l : List Int) (h0 : ByAt w N T l) (d : TypeDesc) (hu : Tryd.prog.underlying ty = some d) (hr : d.isRow = true) (n : Nat) (hi : (Tryd.prog.info? ty).map (·.size) = some n) (hl : l.length = n) (hR : R (.returned (dv l)) w) :
    bodyPost Tryd.prog fn R .ret a w :=
  bodyPost_ret (v := dv l) (results_cell_mid h _ _ N (l.map (Value.int .u8)) _ hp h0.range hu hr (by simpa [hl] using hi)) hd hR

theorem fill_two (a b : List Int) (ha : a.length = 32) (hb : b.length = 32) (Z : Array Value) (hZ : Z.size = 64) : Instr.fill (fun i => some (i * 32, 32)) Z [(0, dv a), (1, dv b)] = some ((a ++ b).map (Value.int .u8)).toArray := by
  have h := Great.fill_whole (s := 32) (by omega) [dv a, dv b] Z (fun v hv => by
    simp only [List.mem_cons, List.not_mem_nil, or_false] at hv
    rcases hv with rfl | rfl
    · show ((a.map (Value.int .u8)).toArray).size = 32
      simpa using ha
    · show ((b.map (Value.int .u8)).toArray).size = 32
      simpa using hb) (by rw [hZ]; rfl)
  refine Eq.trans h ?_
  congr 1
  simp [Value.cells]
theorem built_hasher (a b : List Int) (ha : a.length = 32) (hb : b.length = 32) : Tryd.prog.built 64 [(0, dv a), (1, dv b)] = some ((a ++ b).map (Value.int .u8)).toArray := by
  rw [← fill_two a b ha hb (List.replicate 64 (Value.int .u8 0)).toArray (by simp)]
  kernel_rfl
theorem build_hasher (a b : List Int) (ha : a.length = 32) (hb : b.length = 32) (w : World) : (Instr.build 64 #[(0, dv a), (1, dv b)]).run Tryd.prog w = .ok (dv (a ++ b)) w := run_build w _ _ _ (built_hasher a b ha hb)
theorem wpList_build2 {P : Program} {ops : Array Oper} {rest : List Oper} {o : Oper} {a : Act} {w : World} {Q : Exit → Act → World → Prop} (hgd : o.guard = none) (t : TypeId) (i j : Nat) (x y : Operand) (ho : o.op = .build t #[(i, x), (j, y)]) (u v r : Value) (hx : a.eval x = u) (hy : a.eval y = v)
    (hr : (Instr.build t #[(i, u), (j, v)]).run P w = .ok r w) (h : wpList P ops Q rest (a.put o.dst r) w) : wpList P ops Q (o :: rest) a w := by
  refine wpList_plain hgd fun _ hK => ?_
  unfold Oper.wp execOp
  have e : (#[(i, x), (j, y)].map fun (p : Nat × Operand) => (p.1, a.eval p.2)) = #[(i, u), (j, v)] := by simp [hx, hy]
  simp only [ho]
  rw [show (#[(i, x), (j, y)].map fun (i, x) => (i, a.eval x)) = #[(i, u), (j, v)] from e]
  simp only [Sem.run_bind, Sem.run_pure, hr, Result.andThen_ok]
  exact hK _ _ h
theorem lit4 (w W : World) (a b c d : Int) (t : TypeId) (fr : Nat × Nat) (hW : W.heap = w.heap.push (.cells #[.int .u8 a, .int .u8 b, .int .u8 c, .int .u8 d] t fr)) (ha : Byt a) (hb : Byt b) (hc : Byt c) (hd : Byt d) : Bt W (some ⟨w.heap.size, 0, none⟩) [a, b, c, d] := by
  refine ⟨fun x hx => ?_, fun _ => ⟨_, 0, rfl, fun j hj => ?_⟩⟩
  · simp only [List.mem_cons, List.not_mem_nil, or_false] at hx
    rcases hx with rfl | rfl | rfl | rfl <;> assumption
  · have e : W.heap[w.heap.size]? = some (.cells #[.int .u8 a, .int .u8 b, .int .u8 c, .int .u8 d] t fr) := by rw [hW, Array.getElem?_push_size]
    rw [Nat.zero_add]
    simp only [World.cell?, e]
    match j, hj with
    | 0, _ => rfl
    | 1, _ => rfl
    | 2, _ => rfl
    | 3, _ => rfl

set_option maxRecDepth 100000 in
set_option maxHeartbeats 4000000 in
theorem newHasher_any (w : World) (hT : DTab w) :
    Calls Tryd.prog 46 #[] w fun x w' => x = .returned (dv (LT ++ NT)) ∧ Below w.heap.size w w' := by
  have HT := hide hT
  clear hT
  go_enter Tryd.func46, Tryd.ntmps46
  go_upto_region 1 with fail
  generalize hX1 : w.alloc _ = W1
  have hB1 : Below w.heap.size w W1 := hX1 ▸ (Below.refl _ _).alloc (Nat.le_refl _) _
  have ho1 : ByAt W1 w.heap.size 64 (List.replicate 64 0) := by
    rw [← hX1]
    show (w.heap.push _)[w.heap.size]? = _
    rw [Array.getElem?_push_size]
    rfl
  have HB1 := hide hB1
  have HO1 := hide ho1
  clear hX1 hB1 ho1
  have kc := fun (w : World) (C : Array Value) (n c : Nat) => Lib.run_convert_bytes_const (P := Tryd.prog) w 22 5 C n c Tryd.underlying22 Tryd.underlying5
  have B0 : ∀ c : Int, 0 ≤ c → c < 256 → Byt c := fun c h1 h2 => ⟨h1, h2⟩
  have HBy := hide B0
  clear B0
  refine wp_region_list ?_
  go_wp2_with fail
  generalize hX2 : W1.alloc _ = W2
  have hB2 : Below W1.heap.size W1 W2 := hX2 ▸ (Below.refl _ _).alloc (Nat.le_refl _) _
  have hb2 : Bt W2 (some ⟨W1.heap.size, 0, none⟩) [108, 101, 97, 102] := lit4 W1 W2 _ _ _ _ 5 _ (by rw [← hX2]; rfl) (unhide HBy _ (by decide) (by decide)) (unhide HBy _ (by decide) (by decide)) (unhide HBy _ (by decide) (by decide)) (unhide HBy _ (by decide) (by decide))
  refine (sum_any W2 _ 4 [108, 101, 97, 102] hb2 (by decide) ((unhide HT).keep (thenB (unhide HB1) hB2))).mono ?_; rintro x W3 ⟨rfl, hB3⟩
  have HB3 := hide (thenB (thenB (unhide HB1) hB2) hB3)
  have HO3 := hide (((unhide HO1).keep hB2).keep hB3)
  rw [show hashF [108, 101, 97, 102] = LT from rfl]
  obtain ⟨c1, hc1⟩ : ∃ cs, cs = (LT.map (Value.int .u8)).toArray := ⟨_, rfl⟩
  have hs1 : c1.size = 32 := by rw [hc1]; simpa using LT_length
  rw [show dv LT = .agg c1 by rw [hc1]]
  have HC1 := hide hc1
  clear hX2 hB2 hb2 hB3 HB1 HO1 hc1
  go_wp2_with fail
  generalize hX4 : W3.alloc _ = W4
  have hB4 : Below W3.heap.size W3 W4 := hX4 ▸ (Below.refl _ _).alloc (Nat.le_refl _) _
  have hb4 : Bt W4 (some ⟨W3.heap.size, 0, none⟩) [110, 111, 100, 101] := lit4 W3 W4 _ _ _ _ 5 _ (by rw [← hX4]; rfl) (unhide HBy _ (by decide) (by decide)) (unhide HBy _ (by decide) (by decide)) (unhide HBy _ (by decide) (by decide)) (unhide HBy _ (by decide) (by decide))
  refine (sum_any W4 _ 4 [110, 111, 100, 101] hb4 (by decide) ((unhide HT).keep (thenB (unhide HB3) hB4))).mono ?_; rintro x W5 ⟨rfl, hB5⟩
  have HB5 := hide (thenB (thenB (unhide HB3) hB4) hB5)
  have HO5 := hide (((unhide HO3).keep hB4).keep hB5)
  rw [show hashF [110, 111, 100, 101] = NT from rfl]
  obtain ⟨c2, hc2⟩ : ∃ cs, cs = (NT.map (Value.int .u8)).toArray := ⟨_, rfl⟩
  have hs2 : c2.size = 32 := by rw [hc2]; simpa using NT_length
  rw [show dv NT = .agg c2 by rw [hc2]]
  have HC2 := hide hc2
  clear hX4 hB4 hb4 hB5 HB3 HO3 hc2
  dsimp only
  rename_i KK hK
  refine hK _ _ ?_
  clear hK KK
  obtain ⟨c3, hc3⟩ : ∃ cs, cs = ((LT ++ NT).map (Value.int .u8)).toArray := ⟨_, rfl⟩
  have HC3 := hide hc3
  refine wpList_build2 rfl 64 0 1 (.tmp 3) (.tmp 6) rfl (dv LT) (dv NT) (.agg c3) (show Value.agg c1 = _ by rw [unhide HC1]) (show Value.agg c2 = _ by rw [unhide HC2]) (by rw [hc3]; exact build_hasher LT NT LT_length NT_length W5) ?_
  clear hc3
  refine wpList_bstore rfl 64 (.tmp 0) (.tmp 7) rfl w.heap.size rfl (LT ++ NT) (show Value.agg c3 = _ by rw [unhide HC3]) 64 info64 (by simp [LT_length, NT_length]) _ (List.replicate 64 0) (unhide HO5) rfl ?_
  intro W9 HW9 HG
  go_wp2_with fail
  try simp only [Exit.inBlock, Exit.then]
  exact bretG rfl rfl w.heap.size rfl _ _ (unhide HW9) _ Tryd.underlying64 rfl 64 info64 (by simp [LT_length, NT_length]) ⟨rfl, (unhide HB5).grown (unhide HG) (unhide HB5).size (fun i e => by injection e with e; omega)⟩
end Go.Proofs.YtceppmajbkmbdaaDoor
