/- Contracts over the digest's program: the closure of Grew where the list has not grown. -/
import Derived.Test.YtceppmajbkmbdaaDoorDigBad
import Derived.Test.YtceppmajbkmbdaaDoorDigGLen
import Derived.Test.YtceppmajbkmbdaaDoorDigEql
import Derived.Laws.EntriesVeiled
namespace Go.Proofs.YtceppmajbkmbdaaDoor
set_option linter.unusedSimpArgs false
set_option linter.unusedVariables false
open Go.RowKit

/-- behind a world, with a value in a box -/
structure SC (w : World) (N : Nat) (v : Value) (W : World) : Prop where
  lo : Below w.heap.size w W
  cell : W.cell? ⟨N, 0, none⟩ = some v
theorem cellKeep {W W' : World} {b o : Nat} {v : Value} (h : W.cell? ⟨b, o, none⟩ = some v) (hb : Below W.heap.size W W') : W'.cell? ⟨b, o, none⟩ = some v := by
  rw [cell_block (hb.block b (lt_of_cell h))]
  exact h
theorem boxCell (w W : World) (v : Value) (t : TypeId) (fr : Nat × Nat) (hW : W.heap = w.heap.push (.cells #[v] t fr)) : W.cell? ⟨w.heap.size, 0, none⟩ = some v := by
  have e : W.heap[w.heap.size]? = some (.cells #[v] t fr) := by rw [hW, Array.getElem?_push_size]
  simp only [World.cell?, e]
  rfl
theorem SC.later {w W W' : World} {N : Nat} {v : Value} (h : SC w N v W) (hb : Below W.heap.size W W') : SC w N v W' := ⟨thenB h.lo hb, cellKeep h.cell hb⟩
theorem results_cells_mid {P : Program} {fn : Func} {t u : Tmp} {ty : TypeId} (h : fn.results = #[.cell t ty, .cell u ty]) (tmps : Array Value) (w : World) (b b' : Nat) (cs ds : List Value) (d : TypeDesc) (hp : tmps.getD t undef = .pointer (some ⟨b, 0, none⟩)) (hq : tmps.getD u undef = .pointer (some ⟨b', 0, none⟩)) (hc : w.rangeAt b 0 cs) (hcd : w.rangeAt b' 0 ds)
    (hu : P.underlying ty = some d) (hd : d.isRow = true) (hi : (P.info? ty).map (·.size) = some cs.length) (hj : (P.info? ty).map (·.size) = some ds.length) : (results fn tmps).run P w = .ok (.tuple #[.agg cs.toArray, .agg ds.toArray]) w := by
  have hl := run_loadVar_mid (P := P) w b 0 ty cs d hc hu hd hi
  have hl2 := run_loadVar_mid (P := P) w b' 0 ty ds d hcd hu hd hj
  have hp' : tmps[t]?.getD undef = .pointer (some ⟨b, 0, none⟩) := by simpa using hp
  have hq' : tmps[u]?.getD undef = .pointer (some ⟨b', 0, none⟩) := by simpa using hq
  simp [results, h, hp', hq', asAddr, hl, hl2]
theorem bret22 {fn : Func} {R : Ending → World → Prop} {a : Act} {w : World} {t u : Tmp} (h : fn.results = #[.cell t 24, .cell u 24]) (hd : a.defers = []) (N M : Nat) (hp : a.tmps.getD t undef = .pointer (some ⟨N, 0, none⟩)) (hq : a.tmps.getD u undef = .pointer (some ⟨M, 0, none⟩)) (T U : TypeId) (l k : List Int) (h0 : ByAt w N T l) (h1 : ByAt w M U k) (hl : l.length = 32) (hk : k.length = 32) (hR : R (.returned (.tuple #[dv l, dv k])) w) :
    bodyPost Tryd.prog fn R .ret a w :=
  bodyPost_ret (v := .tuple #[dv l, dv k]) (results_cells_mid h _ _ N M (l.map (Value.int .u8)) (k.map (Value.int .u8)) _ hp hq h0.range h1.range Tryd.underlying24 rfl (by rw [List.length_map, hl]; exact info32) (by rw [List.length_map, hk]; exact info32)) hd hR

set_option maxRecDepth 100000 in
set_option maxHeartbeats 1000000 in
theorem walk_same (n : Nat) (a : List Int) (ha : Dg a) (w : World) (B N K H : Nat) (hB : ByAt w B 24 a) :
    Calls Tryd.prog 62 #[.int .i64 (n : Int), .int .i64 (n : Int), .bool true, .pointer (some ⟨B, 0, none⟩), .pointer (some ⟨N, 0, none⟩), .pointer (some ⟨K, 0, none⟩), .pointer (some ⟨H, 0, none⟩)] w fun x w' => x = .returned (.tuple #[dv a, dv a]) ∧ Below w.heap.size w w' := by
  have HA := hide ha
  have HB := hide hB
  obtain ⟨ca, hca⟩ : ∃ cs, cs = (a.map (Value.int .u8)).toArray := ⟨_, rfl⟩
  have hsa : ca.size = 32 := by rw [hca]; simpa using ha.len
  have HCA := hide hca
  clear ha hB hca
  go_enter Tryd.func62, Tryd.ntmps62
  go_upto_region 1 with fail
  generalize hX1 : w.alloc _ = W1
  have hB1 : Below w.heap.size w W1 := hX1 ▸ (Below.refl _ _).alloc (Nat.le_refl _) _
  have ho1 : ByAt W1 w.heap.size 24 zeros := newBy w W1 (by rw [← hX1]; rfl)
  have hz1 : W1.heap.size = w.heap.size + 1 := by rw [← hX1]; show (w.heap.push _).size = _; rw [Array.size_push]
  generalize hX2 : W1.alloc _ = W2
  have hB2 : Below W1.heap.size W1 W2 := hX2 ▸ (Below.refl _ _).alloc (Nat.le_refl _) _
  have ho2 : ByAt W2 W1.heap.size 24 zeros := newBy W1 W2 (by rw [← hX2]; rfl)
  rw [hz1] at ho2
  have hB02 := thenB hB1 hB2
  have hO1 := ho1.keep hB2
  obtain ⟨W, hW⟩ : ∃ W, W = W2.drewN 1 := ⟨_, rfl⟩
  have HW : Hid (W = W2.drewN 1) := hW
  have hBW := thenB hB02 (below_named HW)
  have HB2 := hide hBW
  have HO1 := hide (hO1.keep (below_named HW))
  have HO2 := hide (ho2.keep (below_named HW))
  have HBa := hide ((unhide HB).keep hBW)
  have hSW : ByAt W B 24 a := unhide HBa
  have hNB : B < w.heap.size := lt_of_block (unhide HB)
  have HN : Hid (B < w.heap.size) := hNB
  clear hX1 hX2 hB1 hB2 ho1 ho2 hz1 hB02 hO1 hBW hNB
  go_wp2_with fail
  refine held (S := fun W => ByAt W B 24 a) W HW (by kernel_rfl) ?_
  refine wpAnyH_take (i := 0) (v := .agg ca) rfl (by kernel_rfl) (by kernel_rfl) (by kernel_rfl) (fun _ _ _ h => h) (by rw [unhide HCA]; exact yieldsIf_load_mid (by kernel_rfl) 24 (.tmp 3) rfl B 0 rfl (a.map (Value.int .u8)) _ (fun W hS => ByAt.range hS) Tryd.underlying24 rfl (by rw [List.length_map, (unhide HA).len]; exact info32)) (by assumption) ?_
  try simp only [List.getElem_toArray, List.getElem_cons_zero, List.getElem_cons_succ, Act.put, List.setIfInBounds_toArray, List.set_cons_zero, List.set_cons_succ]
  refine wpAnyH_take (i := 1) (v := .agg ca) rfl (by kernel_rfl) (by kernel_rfl) (by kernel_rfl) (fun _ _ _ h => h) (by rw [unhide HCA]; exact yieldsIf_load_mid (by kernel_rfl) 24 (.tmp 3) rfl B 0 rfl (a.map (Value.int .u8)) _ (fun W hS => ByAt.range hS) Tryd.underlying24 rfl (by rw [List.length_map, (unhide HA).len]; exact info32)) (by assumption) ?_
  try simp only [List.getElem_toArray, List.getElem_cons_zero, List.getElem_cons_succ, Act.put, List.setIfInBounds_toArray, List.set_cons_zero, List.set_cons_succ]
  refine wpAnyH_chainOf [2, 3] _ _ _ (by kernel_rfl) (by kernel_rfl) ?_
  simp only [List.filterMap_cons, List.filterMap_nil, List.getElem?_toArray, List.getElem?_cons_zero, List.getElem?_cons_succ]
  refine wpChain_bstore rfl 24 (.tmp 10) (.tmp 19) rfl w.heap.size rfl a (show Value.agg ca = _ by rw [unhide HCA]) 32 info32 (unhide HA).len _ zeros (unhide HO1) rfl ?_
  intro W8 HW8 HG8
  have hS8 : ByAt W8 B 24 a := hSW.grown (unhide HG8) (by have := unhide HN; omega)
  have hO8 := (unhide HO2).grown (unhide HG8) (by omega)
  have hB8 := (unhide HB2).grown (unhide HG8) (unhide HB2).size (fun i e => by injection e with e; omega)
  refine ⟨hS8, ?_⟩
  refine wpChain_bstore rfl 24 (.tmp 11) (.tmp 20) rfl (w.heap.size + 1) rfl a (show Value.agg ca = _ by rw [unhide HCA]) 32 info32 (unhide HA).len _ zeros hO8 rfl ?_
  intro W9 HW9 HG9
  have hS9 : ByAt W9 B 24 a := hS8.grown (unhide HG9) (by have := unhide HN; omega)
  refine ⟨hS9, wpChain_nil ?_⟩
  have H1 := hide ((unhide HW8).grown (unhide HG9) (by omega))
  have HB9 := hide (hB8.grown (unhide HG9) hB8.size (fun i e => by injection e with e; omega))
  clear hSW hS8 hO8 hB8 hS9
  go_wp2_with fail
  try simp only [Exit.inBlock, Exit.then]
  exact bret22 rfl rfl w.heap.size (w.heap.size + 1) rfl rfl _ _ _ _ (unhide H1) (unhide HW9) (unhide HA).len (unhide HA).len ⟨rfl, unhide HB9⟩
end Go.Proofs.YtceppmajbkmbdaaDoor
