/- Contracts over the program of facts: a ruling's own fields. -/
import Derived.Test.YtdmaopfaeigelaaGreatDoorFacF
namespace Go.Proofs.YtdmaopfaeigelaaGreatDoor
set_option linter.unusedSimpArgs false
set_option linter.unusedVariables false
open Go.RowKit
theorem infoRu : (Tryz.prog.info? 35).map (·.size) = some 17 := by kernel_rfl
theorem rC_length (r : Ru) : (rC r).length = 17 := rfl
theorem rC_one (r : Ru) : ∀ v ∈ rC r, v.oneCell' = true := by
  intro v hv
  simp only [rC, gC, List.cons_append, List.nil_append, List.mem_cons, List.not_mem_nil, or_false] at hv
  rcases hv with rfl | rfl | rfl | rfl | rfl | rfl | rfl | rfl | rfl | rfl | rfl | rfl | rfl | rfl | rfl | rfl | rfl <;> rfl
def r0 : Ru := ⟨0, 0, 0, g0, 0, 0, 0, 0, 0, 0, 0, 0, 0, 0⟩
set_option maxRecDepth 100000 in
set_option maxHeartbeats 100000 in
theorem ro1_any (r : Ru) (w : World) : Calls Tryz.prog 226 #[.agg (rC r).toArray] w fun x w' => x = .returned (.agg (rC (rOwn 1 r)).toArray) ∧ Below w.heap.size w w' := by
  obtain ⟨cas, ins, kd, ⟨gs, gc, gh, ga⟩, cl, pl, se, co, po, am, hg, ag, fr, tt⟩ := r
  unfold rOwn
  dsimp only
  show Calls Tryz.prog 226 #[.agg #[.int .i64 cas, .int .i64 ins, .int .i64 kd, .int .i64 gs, .int .i64 gc, .int .i64 gh, .int .i64 ga, .int .i64 cl, .int .i64 pl, .int .i64 se, .int .i64 co, .int .i64 po, .int .i64 am, .int .i64 hg, .int .i64 ag, .int .i64 fr, .int .i64 tt]] w _
  go_enter Tryz.func226, Tryz.ntmps226
  go_upto_region 1 with fail
  generalize hX1 : w.alloc _ = W1
  have hB1 : Below w.heap.size w W1 := hX1 ▸ (Below.refl _ _).alloc (Nat.le_refl _) _
  have hv1 := boxedV w W1 [.int .i64 cas, .int .i64 ins, .int .i64 kd, .int .i64 gs, .int .i64 gc, .int .i64 gh, .int .i64 ga, .int .i64 cl, .int .i64 pl, .int .i64 se, .int .i64 co, .int .i64 po, .int .i64 am, .int .i64 hg, .int .i64 ag, .int .i64 fr, .int .i64 tt] 35 (by rw [← hX1]; rfl)
  have hz1 : W1.heap.size = w.heap.size + 1 := by rw [← hX1]; show (w.heap.push _).size = _; rw [Array.size_push]
  generalize hX2 : W1.alloc _ = W2
  have hB2 : Below W1.heap.size W1 W2 := hX2 ▸ (Below.refl _ _).alloc (Nat.le_refl _) _
  have HV2 := hide (boxedV W1 W2 (rC r0) 35 (by rw [← hX2]; rfl))
  rw [hz1] at HV2
  have HV1 := hide (hv1.keep hB2)
  have hc0 : W2.cell? ⟨w.heap.size, 0, none⟩ = some (.int .i64 cas) := (unhide HV1).cell rfl
  have hc1 : W2.cell? ⟨w.heap.size, 1, none⟩ = some (.int .i64 ins) := (unhide HV1).cell rfl
  have hc2 : W2.cell? ⟨w.heap.size, 2, none⟩ = some (.int .i64 kd) := (unhide HV1).cell rfl
  have hc3 : W2.cell? ⟨w.heap.size, 3, none⟩ = some (.int .i64 gs) := (unhide HV1).cell rfl
  have hc4 : W2.cell? ⟨w.heap.size, 4, none⟩ = some (.int .i64 gc) := (unhide HV1).cell rfl
  have hc5 : W2.cell? ⟨w.heap.size, 5, none⟩ = some (.int .i64 gh) := (unhide HV1).cell rfl
  have hc6 : W2.cell? ⟨w.heap.size, 6, none⟩ = some (.int .i64 ga) := (unhide HV1).cell rfl
  have hc7 : W2.cell? ⟨w.heap.size, 7, none⟩ = some (.int .i64 cl) := (unhide HV1).cell rfl
  have hc8 : W2.cell? ⟨w.heap.size, 8, none⟩ = some (.int .i64 pl) := (unhide HV1).cell rfl
  have hc9 : W2.cell? ⟨w.heap.size, 9, none⟩ = some (.int .i64 se) := (unhide HV1).cell rfl
  have hc10 : W2.cell? ⟨w.heap.size, 10, none⟩ = some (.int .i64 co) := (unhide HV1).cell rfl
  have hc11 : W2.cell? ⟨w.heap.size, 11, none⟩ = some (.int .i64 po) := (unhide HV1).cell rfl
  have hc12 : W2.cell? ⟨w.heap.size, 12, none⟩ = some (.int .i64 am) := (unhide HV1).cell rfl
  have hc13 : W2.cell? ⟨w.heap.size, 13, none⟩ = some (.int .i64 hg) := (unhide HV1).cell rfl
  have hc14 : W2.cell? ⟨w.heap.size, 14, none⟩ = some (.int .i64 ag) := (unhide HV1).cell rfl
  have hc15 : W2.cell? ⟨w.heap.size, 15, none⟩ = some (.int .i64 fr) := (unhide HV1).cell rfl
  have hc16 : W2.cell? ⟨w.heap.size, 16, none⟩ = some (.int .i64 tt) := (unhide HV1).cell rfl
  have HB := hide (thenB hB1 hB2)
  clear hX1 hB1 hv1 hz1 hX2 hB2
  refine wp_region_lit ?_
  refine wpList_plain rfl fun Kt hKt => ?_
  go_simp
  refine hKt _ _ ?_
  clear hKt Kt
  refine wpList_plain rfl fun Kt hKt => ?_
  go_simp
  refine hKt _ _ ?_
  clear hKt Kt
  refine wpList_plain rfl fun Kt hKt => ?_
  go_simp
  refine hKt _ _ ?_
  clear hKt Kt
  refine wpList_plain rfl fun Kt hKt => ?_
  go_simp
  refine hKt _ _ ?_
  clear hKt Kt
  refine wpList_plain rfl fun Kt hKt => ?_
  go_simp
  refine hKt _ _ ?_
  clear hKt Kt
  refine wpList_vput rfl 35 (.tmp 2) (.tmp 7) rfl (w.heap.size + 1) 0 rfl (rC ⟨0, 0, 0, ⟨gs, gc, gh, ga⟩, cl, 0, 0, 0, 0, 0, 0, 0, 0, 0⟩) rfl infoRu (rC_one _) _ (rC r0) (unhide HV2) (show 0 + 17 ≤ 17 by omega) ?_
  intro W9 HW9 HG
  rw [spliceV_all _ _ (by rw [rC_length, rC_length])] at HW9
  go_wp2_with fail
  try simp only [Exit.inBlock, Exit.then]
  exact vret rfl rfl (w.heap.size + 1) rfl _ _ (unhide HW9) _ Tryz.underlying35 rfl infoRu ⟨rfl, (unhide HB).grown (unhide HG) (unhide HB).size (fun i e => by injection e with e; omega)⟩
set_option maxRecDepth 100000 in
set_option maxHeartbeats 100000 in
theorem ro2_any (r : Ru) (w : World) : Calls Tryz.prog 228 #[.agg (rC r).toArray] w fun x w' => x = .returned (.agg (rC (rOwn 2 r)).toArray) ∧ Below w.heap.size w w' := by
  obtain ⟨cas, ins, kd, ⟨gs, gc, gh, ga⟩, cl, pl, se, co, po, am, hg, ag, fr, tt⟩ := r
  unfold rOwn
  dsimp only
  show Calls Tryz.prog 228 #[.agg #[.int .i64 cas, .int .i64 ins, .int .i64 kd, .int .i64 gs, .int .i64 gc, .int .i64 gh, .int .i64 ga, .int .i64 cl, .int .i64 pl, .int .i64 se, .int .i64 co, .int .i64 po, .int .i64 am, .int .i64 hg, .int .i64 ag, .int .i64 fr, .int .i64 tt]] w _
  go_enter Tryz.func228, Tryz.ntmps228
  go_upto_region 1 with fail
  generalize hX1 : w.alloc _ = W1
  have hB1 : Below w.heap.size w W1 := hX1 ▸ (Below.refl _ _).alloc (Nat.le_refl _) _
  have hv1 := boxedV w W1 [.int .i64 cas, .int .i64 ins, .int .i64 kd, .int .i64 gs, .int .i64 gc, .int .i64 gh, .int .i64 ga, .int .i64 cl, .int .i64 pl, .int .i64 se, .int .i64 co, .int .i64 po, .int .i64 am, .int .i64 hg, .int .i64 ag, .int .i64 fr, .int .i64 tt] 35 (by rw [← hX1]; rfl)
  have hz1 : W1.heap.size = w.heap.size + 1 := by rw [← hX1]; show (w.heap.push _).size = _; rw [Array.size_push]
  generalize hX2 : W1.alloc _ = W2
  have hB2 : Below W1.heap.size W1 W2 := hX2 ▸ (Below.refl _ _).alloc (Nat.le_refl _) _
  have HV2 := hide (boxedV W1 W2 (rC r0) 35 (by rw [← hX2]; rfl))
  rw [hz1] at HV2
  have HV1 := hide (hv1.keep hB2)
  have hc0 : W2.cell? ⟨w.heap.size, 0, none⟩ = some (.int .i64 cas) := (unhide HV1).cell rfl
  have hc1 : W2.cell? ⟨w.heap.size, 1, none⟩ = some (.int .i64 ins) := (unhide HV1).cell rfl
  have hc2 : W2.cell? ⟨w.heap.size, 2, none⟩ = some (.int .i64 kd) := (unhide HV1).cell rfl
  have hc3 : W2.cell? ⟨w.heap.size, 3, none⟩ = some (.int .i64 gs) := (unhide HV1).cell rfl
  have hc4 : W2.cell? ⟨w.heap.size, 4, none⟩ = some (.int .i64 gc) := (unhide HV1).cell rfl
  have hc5 : W2.cell? ⟨w.heap.size, 5, none⟩ = some (.int .i64 gh) := (unhide HV1).cell rfl
  have hc6 : W2.cell? ⟨w.heap.size, 6, none⟩ = some (.int .i64 ga) := (unhide HV1).cell rfl
  have hc7 : W2.cell? ⟨w.heap.size, 7, none⟩ = some (.int .i64 cl) := (unhide HV1).cell rfl
  have hc8 : W2.cell? ⟨w.heap.size, 8, none⟩ = some (.int .i64 pl) := (unhide HV1).cell rfl
  have hc9 : W2.cell? ⟨w.heap.size, 9, none⟩ = some (.int .i64 se) := (unhide HV1).cell rfl
  have hc10 : W2.cell? ⟨w.heap.size, 10, none⟩ = some (.int .i64 co) := (unhide HV1).cell rfl
  have hc11 : W2.cell? ⟨w.heap.size, 11, none⟩ = some (.int .i64 po) := (unhide HV1).cell rfl
  have hc12 : W2.cell? ⟨w.heap.size, 12, none⟩ = some (.int .i64 am) := (unhide HV1).cell rfl
  have hc13 : W2.cell? ⟨w.heap.size, 13, none⟩ = some (.int .i64 hg) := (unhide HV1).cell rfl
  have hc14 : W2.cell? ⟨w.heap.size, 14, none⟩ = some (.int .i64 ag) := (unhide HV1).cell rfl
  have hc15 : W2.cell? ⟨w.heap.size, 15, none⟩ = some (.int .i64 fr) := (unhide HV1).cell rfl
  have hc16 : W2.cell? ⟨w.heap.size, 16, none⟩ = some (.int .i64 tt) := (unhide HV1).cell rfl
  have HB := hide (thenB hB1 hB2)
  clear hX1 hB1 hv1 hz1 hX2 hB2
  refine wp_region_lit ?_
  refine wpList_plain rfl fun Kt hKt => ?_
  go_simp
  refine hKt _ _ ?_
  clear hKt Kt
  refine wpList_plain rfl fun Kt hKt => ?_
  go_simp
  refine hKt _ _ ?_
  clear hKt Kt
  refine wpList_plain rfl fun Kt hKt => ?_
  go_simp
  refine hKt _ _ ?_
  clear hKt Kt
  refine wpList_vput rfl 35 (.tmp 2) (.tmp 5) rfl (w.heap.size + 1) 0 rfl (rC ⟨0, 0, 0, ⟨gs, gc, gh, ga⟩, 0, 0, 0, 0, 0, 0, 0, 0, 0, 0⟩) rfl infoRu (rC_one _) _ (rC r0) (unhide HV2) (show 0 + 17 ≤ 17 by omega) ?_
  intro W9 HW9 HG
  rw [spliceV_all _ _ (by rw [rC_length, rC_length])] at HW9
  go_wp2_with fail
  try simp only [Exit.inBlock, Exit.then]
  exact vret rfl rfl (w.heap.size + 1) rfl _ _ (unhide HW9) _ Tryz.underlying35 rfl infoRu ⟨rfl, (unhide HB).grown (unhide HG) (unhide HB).size (fun i e => by injection e with e; omega)⟩
set_option maxRecDepth 100000 in
set_option maxHeartbeats 100000 in
theorem ro3_any (r : Ru) (w : World) : Calls Tryz.prog 230 #[.agg (rC r).toArray] w fun x w' => x = .returned (.agg (rC (rOwn 3 r)).toArray) ∧ Below w.heap.size w w' := by
  obtain ⟨cas, ins, kd, ⟨gs, gc, gh, ga⟩, cl, pl, se, co, po, am, hg, ag, fr, tt⟩ := r
  unfold rOwn
  dsimp only
  show Calls Tryz.prog 230 #[.agg #[.int .i64 cas, .int .i64 ins, .int .i64 kd, .int .i64 gs, .int .i64 gc, .int .i64 gh, .int .i64 ga, .int .i64 cl, .int .i64 pl, .int .i64 se, .int .i64 co, .int .i64 po, .int .i64 am, .int .i64 hg, .int .i64 ag, .int .i64 fr, .int .i64 tt]] w _
  go_enter Tryz.func230, Tryz.ntmps230
  go_upto_region 1 with fail
  generalize hX1 : w.alloc _ = W1
  have hB1 : Below w.heap.size w W1 := hX1 ▸ (Below.refl _ _).alloc (Nat.le_refl _) _
  have hv1 := boxedV w W1 [.int .i64 cas, .int .i64 ins, .int .i64 kd, .int .i64 gs, .int .i64 gc, .int .i64 gh, .int .i64 ga, .int .i64 cl, .int .i64 pl, .int .i64 se, .int .i64 co, .int .i64 po, .int .i64 am, .int .i64 hg, .int .i64 ag, .int .i64 fr, .int .i64 tt] 35 (by rw [← hX1]; rfl)
  have hz1 : W1.heap.size = w.heap.size + 1 := by rw [← hX1]; show (w.heap.push _).size = _; rw [Array.size_push]
  generalize hX2 : W1.alloc _ = W2
  have hB2 : Below W1.heap.size W1 W2 := hX2 ▸ (Below.refl _ _).alloc (Nat.le_refl _) _
  have HV2 := hide (boxedV W1 W2 (rC r0) 35 (by rw [← hX2]; rfl))
  rw [hz1] at HV2
  have HV1 := hide (hv1.keep hB2)
  have hc0 : W2.cell? ⟨w.heap.size, 0, none⟩ = some (.int .i64 cas) := (unhide HV1).cell rfl
  have hc1 : W2.cell? ⟨w.heap.size, 1, none⟩ = some (.int .i64 ins) := (unhide HV1).cell rfl
  have hc2 : W2.cell? ⟨w.heap.size, 2, none⟩ = some (.int .i64 kd) := (unhide HV1).cell rfl
  have hc3 : W2.cell? ⟨w.heap.size, 3, none⟩ = some (.int .i64 gs) := (unhide HV1).cell rfl
  have hc4 : W2.cell? ⟨w.heap.size, 4, none⟩ = some (.int .i64 gc) := (unhide HV1).cell rfl
  have hc5 : W2.cell? ⟨w.heap.size, 5, none⟩ = some (.int .i64 gh) := (unhide HV1).cell rfl
  have hc6 : W2.cell? ⟨w.heap.size, 6, none⟩ = some (.int .i64 ga) := (unhide HV1).cell rfl
  have hc7 : W2.cell? ⟨w.heap.size, 7, none⟩ = some (.int .i64 cl) := (unhide HV1).cell rfl
  have hc8 : W2.cell? ⟨w.heap.size, 8, none⟩ = some (.int .i64 pl) := (unhide HV1).cell rfl
  have hc9 : W2.cell? ⟨w.heap.size, 9, none⟩ = some (.int .i64 se) := (unhide HV1).cell rfl
  have hc10 : W2.cell? ⟨w.heap.size, 10, none⟩ = some (.int .i64 co) := (unhide HV1).cell rfl
  have hc11 : W2.cell? ⟨w.heap.size, 11, none⟩ = some (.int .i64 po) := (unhide HV1).cell rfl
  have hc12 : W2.cell? ⟨w.heap.size, 12, none⟩ = some (.int .i64 am) := (unhide HV1).cell rfl
  have hc13 : W2.cell? ⟨w.heap.size, 13, none⟩ = some (.int .i64 hg) := (unhide HV1).cell rfl
  have hc14 : W2.cell? ⟨w.heap.size, 14, none⟩ = some (.int .i64 ag) := (unhide HV1).cell rfl
  have hc15 : W2.cell? ⟨w.heap.size, 15, none⟩ = some (.int .i64 fr) := (unhide HV1).cell rfl
  have hc16 : W2.cell? ⟨w.heap.size, 16, none⟩ = some (.int .i64 tt) := (unhide HV1).cell rfl
  have HB := hide (thenB hB1 hB2)
  clear hX1 hB1 hv1 hz1 hX2 hB2
  refine wp_region_lit ?_
  refine wpList_plain rfl fun Kt hKt => ?_
  go_simp
  refine hKt _ _ ?_
  clear hKt Kt
  refine wpList_plain rfl fun Kt hKt => ?_
  go_simp
  refine hKt _ _ ?_
  clear hKt Kt
  refine wpList_plain rfl fun Kt hKt => ?_
  go_simp
  refine hKt _ _ ?_
  clear hKt Kt
  refine wpList_plain rfl fun Kt hKt => ?_
  go_simp
  refine hKt _ _ ?_
  clear hKt Kt
  refine wpList_plain rfl fun Kt hKt => ?_
  go_simp
  refine hKt _ _ ?_
  clear hKt Kt
  refine wpList_plain rfl fun Kt hKt => ?_
  go_simp
  refine hKt _ _ ?_
  clear hKt Kt
  refine wpList_plain rfl fun Kt hKt => ?_
  go_simp
  refine hKt _ _ ?_
  clear hKt Kt
  refine wpList_vput rfl 35 (.tmp 2) (.tmp 9) rfl (w.heap.size + 1) 0 rfl (rC ⟨0, 0, 0, ⟨gs, gc, gh, ga⟩, 0, 0, 0, 0, 0, 0, hg, ag, 0, 0⟩) rfl infoRu (rC_one _) _ (rC r0) (unhide HV2) (show 0 + 17 ≤ 17 by omega) ?_
  intro W9 HW9 HG
  rw [spliceV_all _ _ (by rw [rC_length, rC_length])] at HW9
  go_wp2_with fail
  try simp only [Exit.inBlock, Exit.then]
  exact vret rfl rfl (w.heap.size + 1) rfl _ _ (unhide HW9) _ Tryz.underlying35 rfl infoRu ⟨rfl, (unhide HB).grown (unhide HG) (unhide HB).size (fun i e => by injection e with e; omega)⟩
set_option maxRecDepth 100000 in
set_option maxHeartbeats 100000 in
theorem ro4_any (r : Ru) (w : World) : Calls Tryz.prog 232 #[.agg (rC r).toArray] w fun x w' => x = .returned (.agg (rC (rOwn 4 r)).toArray) ∧ Below w.heap.size w w' := by
  obtain ⟨cas, ins, kd, ⟨gs, gc, gh, ga⟩, cl, pl, se, co, po, am, hg, ag, fr, tt⟩ := r
  unfold rOwn
  dsimp only
  show Calls Tryz.prog 232 #[.agg #[.int .i64 cas, .int .i64 ins, .int .i64 kd, .int .i64 gs, .int .i64 gc, .int .i64 gh, .int .i64 ga, .int .i64 cl, .int .i64 pl, .int .i64 se, .int .i64 co, .int .i64 po, .int .i64 am, .int .i64 hg, .int .i64 ag, .int .i64 fr, .int .i64 tt]] w _
  go_enter Tryz.func232, Tryz.ntmps232
  go_upto_region 1 with fail
  generalize hX1 : w.alloc _ = W1
  have hB1 : Below w.heap.size w W1 := hX1 ▸ (Below.refl _ _).alloc (Nat.le_refl _) _
  have hv1 := boxedV w W1 [.int .i64 cas, .int .i64 ins, .int .i64 kd, .int .i64 gs, .int .i64 gc, .int .i64 gh, .int .i64 ga, .int .i64 cl, .int .i64 pl, .int .i64 se, .int .i64 co, .int .i64 po, .int .i64 am, .int .i64 hg, .int .i64 ag, .int .i64 fr, .int .i64 tt] 35 (by rw [← hX1]; rfl)
  have hz1 : W1.heap.size = w.heap.size + 1 := by rw [← hX1]; show (w.heap.push _).size = _; rw [Array.size_push]
  generalize hX2 : W1.alloc _ = W2
  have hB2 : Below W1.heap.size W1 W2 := hX2 ▸ (Below.refl _ _).alloc (Nat.le_refl _) _
  have HV2 := hide (boxedV W1 W2 (rC r0) 35 (by rw [← hX2]; rfl))
  rw [hz1] at HV2
  have HV1 := hide (hv1.keep hB2)
  have hc0 : W2.cell? ⟨w.heap.size, 0, none⟩ = some (.int .i64 cas) := (unhide HV1).cell rfl
  have hc1 : W2.cell? ⟨w.heap.size, 1, none⟩ = some (.int .i64 ins) := (unhide HV1).cell rfl
  have hc2 : W2.cell? ⟨w.heap.size, 2, none⟩ = some (.int .i64 kd) := (unhide HV1).cell rfl
  have hc3 : W2.cell? ⟨w.heap.size, 3, none⟩ = some (.int .i64 gs) := (unhide HV1).cell rfl
  have hc4 : W2.cell? ⟨w.heap.size, 4, none⟩ = some (.int .i64 gc) := (unhide HV1).cell rfl
  have hc5 : W2.cell? ⟨w.heap.size, 5, none⟩ = some (.int .i64 gh) := (unhide HV1).cell rfl
  have hc6 : W2.cell? ⟨w.heap.size, 6, none⟩ = some (.int .i64 ga) := (unhide HV1).cell rfl
  have hc7 : W2.cell? ⟨w.heap.size, 7, none⟩ = some (.int .i64 cl) := (unhide HV1).cell rfl
  have hc8 : W2.cell? ⟨w.heap.size, 8, none⟩ = some (.int .i64 pl) := (unhide HV1).cell rfl
  have hc9 : W2.cell? ⟨w.heap.size, 9, none⟩ = some (.int .i64 se) := (unhide HV1).cell rfl
  have hc10 : W2.cell? ⟨w.heap.size, 10, none⟩ = some (.int .i64 co) := (unhide HV1).cell rfl
  have hc11 : W2.cell? ⟨w.heap.size, 11, none⟩ = some (.int .i64 po) := (unhide HV1).cell rfl
  have hc12 : W2.cell? ⟨w.heap.size, 12, none⟩ = some (.int .i64 am) := (unhide HV1).cell rfl
  have hc13 : W2.cell? ⟨w.heap.size, 13, none⟩ = some (.int .i64 hg) := (unhide HV1).cell rfl
  have hc14 : W2.cell? ⟨w.heap.size, 14, none⟩ = some (.int .i64 ag) := (unhide HV1).cell rfl
  have hc15 : W2.cell? ⟨w.heap.size, 15, none⟩ = some (.int .i64 fr) := (unhide HV1).cell rfl
  have hc16 : W2.cell? ⟨w.heap.size, 16, none⟩ = some (.int .i64 tt) := (unhide HV1).cell rfl
  have HB := hide (thenB hB1 hB2)
  clear hX1 hB1 hv1 hz1 hX2 hB2
  refine wp_region_lit ?_
  refine wpList_plain rfl fun Kt hKt => ?_
  go_simp
  refine hKt _ _ ?_
  clear hKt Kt
  refine wpList_plain rfl fun Kt hKt => ?_
  go_simp
  refine hKt _ _ ?_
  clear hKt Kt
  refine wpList_plain rfl fun Kt hKt => ?_
  go_simp
  refine hKt _ _ ?_
  clear hKt Kt
  refine wpList_plain rfl fun Kt hKt => ?_
  go_simp
  refine hKt _ _ ?_
  clear hKt Kt
  refine wpList_plain rfl fun Kt hKt => ?_
  go_simp
  refine hKt _ _ ?_
  clear hKt Kt
  refine wpList_plain rfl fun Kt hKt => ?_
  go_simp
  refine hKt _ _ ?_
  clear hKt Kt
  refine wpList_plain rfl fun Kt hKt => ?_
  go_simp
  refine hKt _ _ ?_
  clear hKt Kt
  refine wpList_plain rfl fun Kt hKt => ?_
  go_simp
  refine hKt _ _ ?_
  clear hKt Kt
  refine wpList_plain rfl fun Kt hKt => ?_
  go_simp
  refine hKt _ _ ?_
  clear hKt Kt
  refine wpList_vput rfl 35 (.tmp 2) (.tmp 11) rfl (w.heap.size + 1) 0 rfl (rC ⟨0, 0, 0, ⟨0, 0, 0, 0⟩, cl, 0, se, co, po, 0, 0, 0, 0, 0⟩) rfl infoRu (rC_one _) _ (rC r0) (unhide HV2) (show 0 + 17 ≤ 17 by omega) ?_
  intro W9 HW9 HG
  rw [spliceV_all _ _ (by rw [rC_length, rC_length])] at HW9
  go_wp2_with fail
  try simp only [Exit.inBlock, Exit.then]
  exact vret rfl rfl (w.heap.size + 1) rfl _ _ (unhide HW9) _ Tryz.underlying35 rfl infoRu ⟨rfl, (unhide HB).grown (unhide HG) (unhide HB).size (fun i e => by injection e with e; omega)⟩
set_option maxRecDepth 100000 in
set_option maxHeartbeats 100000 in
theorem ro5_any (r : Ru) (w : World) : Calls Tryz.prog 235 #[.agg (rC r).toArray] w fun x w' => x = .returned (.agg (rC (rOwn 5 r)).toArray) ∧ Below w.heap.size w w' := by
  obtain ⟨cas, ins, kd, ⟨gs, gc, gh, ga⟩, cl, pl, se, co, po, am, hg, ag, fr, tt⟩ := r
  unfold rOwn
  dsimp only
  show Calls Tryz.prog 235 #[.agg #[.int .i64 cas, .int .i64 ins, .int .i64 kd, .int .i64 gs, .int .i64 gc, .int .i64 gh, .int .i64 ga, .int .i64 cl, .int .i64 pl, .int .i64 se, .int .i64 co, .int .i64 po, .int .i64 am, .int .i64 hg, .int .i64 ag, .int .i64 fr, .int .i64 tt]] w _
  go_enter Tryz.func235, Tryz.ntmps235
  go_upto_region 1 with fail
  generalize hX1 : w.alloc _ = W1
  have hB1 : Below w.heap.size w W1 := hX1 ▸ (Below.refl _ _).alloc (Nat.le_refl _) _
  have hv1 := boxedV w W1 [.int .i64 cas, .int .i64 ins, .int .i64 kd, .int .i64 gs, .int .i64 gc, .int .i64 gh, .int .i64 ga, .int .i64 cl, .int .i64 pl, .int .i64 se, .int .i64 co, .int .i64 po, .int .i64 am, .int .i64 hg, .int .i64 ag, .int .i64 fr, .int .i64 tt] 35 (by rw [← hX1]; rfl)
  have hz1 : W1.heap.size = w.heap.size + 1 := by rw [← hX1]; show (w.heap.push _).size = _; rw [Array.size_push]
  generalize hX2 : W1.alloc _ = W2
  have hB2 : Below W1.heap.size W1 W2 := hX2 ▸ (Below.refl _ _).alloc (Nat.le_refl _) _
  have HV2 := hide (boxedV W1 W2 (rC r0) 35 (by rw [← hX2]; rfl))
  rw [hz1] at HV2
  have HV1 := hide (hv1.keep hB2)
  have hc0 : W2.cell? ⟨w.heap.size, 0, none⟩ = some (.int .i64 cas) := (unhide HV1).cell rfl
  have hc1 : W2.cell? ⟨w.heap.size, 1, none⟩ = some (.int .i64 ins) := (unhide HV1).cell rfl
  have hc2 : W2.cell? ⟨w.heap.size, 2, none⟩ = some (.int .i64 kd) := (unhide HV1).cell rfl
  have hc3 : W2.cell? ⟨w.heap.size, 3, none⟩ = some (.int .i64 gs) := (unhide HV1).cell rfl
  have hc4 : W2.cell? ⟨w.heap.size, 4, none⟩ = some (.int .i64 gc) := (unhide HV1).cell rfl
  have hc5 : W2.cell? ⟨w.heap.size, 5, none⟩ = some (.int .i64 gh) := (unhide HV1).cell rfl
  have hc6 : W2.cell? ⟨w.heap.size, 6, none⟩ = some (.int .i64 ga) := (unhide HV1).cell rfl
  have hc7 : W2.cell? ⟨w.heap.size, 7, none⟩ = some (.int .i64 cl) := (unhide HV1).cell rfl
  have hc8 : W2.cell? ⟨w.heap.size, 8, none⟩ = some (.int .i64 pl) := (unhide HV1).cell rfl
  have hc9 : W2.cell? ⟨w.heap.size, 9, none⟩ = some (.int .i64 se) := (unhide HV1).cell rfl
  have hc10 : W2.cell? ⟨w.heap.size, 10, none⟩ = some (.int .i64 co) := (unhide HV1).cell rfl
  have hc11 : W2.cell? ⟨w.heap.size, 11, none⟩ = some (.int .i64 po) := (unhide HV1).cell rfl
  have hc12 : W2.cell? ⟨w.heap.size, 12, none⟩ = some (.int .i64 am) := (unhide HV1).cell rfl
  have hc13 : W2.cell? ⟨w.heap.size, 13, none⟩ = some (.int .i64 hg) := (unhide HV1).cell rfl
  have hc14 : W2.cell? ⟨w.heap.size, 14, none⟩ = some (.int .i64 ag) := (unhide HV1).cell rfl
  have hc15 : W2.cell? ⟨w.heap.size, 15, none⟩ = some (.int .i64 fr) := (unhide HV1).cell rfl
  have hc16 : W2.cell? ⟨w.heap.size, 16, none⟩ = some (.int .i64 tt) := (unhide HV1).cell rfl
  have HB := hide (thenB hB1 hB2)
  clear hX1 hB1 hv1 hz1 hX2 hB2
  refine wp_region_lit ?_
  refine wpList_plain rfl fun Kt hKt => ?_
  go_simp
  refine hKt _ _ ?_
  clear hKt Kt
  refine wpList_plain rfl fun Kt hKt => ?_
  go_simp
  refine hKt _ _ ?_
  clear hKt Kt
  refine wpList_plain rfl fun Kt hKt => ?_
  go_simp
  refine hKt _ _ ?_
  clear hKt Kt
  refine wpList_plain rfl fun Kt hKt => ?_
  go_simp
  refine hKt _ _ ?_
  clear hKt Kt
  refine wpList_plain rfl fun Kt hKt => ?_
  go_simp
  refine hKt _ _ ?_
  clear hKt Kt
  refine wpList_vput rfl 35 (.tmp 2) (.tmp 7) rfl (w.heap.size + 1) 0 rfl (rC ⟨0, 0, 0, ⟨0, 0, 0, 0⟩, cl, 0, 0, 0, 0, 0, 0, 0, fr, tt⟩) rfl infoRu (rC_one _) _ (rC r0) (unhide HV2) (show 0 + 17 ≤ 17 by omega) ?_
  intro W9 HW9 HG
  rw [spliceV_all _ _ (by rw [rC_length, rC_length])] at HW9
  go_wp2_with fail
  try simp only [Exit.inBlock, Exit.then]
  exact vret rfl rfl (w.heap.size + 1) rfl _ _ (unhide HW9) _ Tryz.underlying35 rfl infoRu ⟨rfl, (unhide HB).grown (unhide HG) (unhide HB).size (fun i e => by injection e with e; omega)⟩
set_option maxRecDepth 100000 in
set_option maxHeartbeats 100000 in
theorem ro6_any (r : Ru) (w : World) : Calls Tryz.prog 237 #[.agg (rC r).toArray] w fun x w' => x = .returned (.agg (rC (rOwn 6 r)).toArray) ∧ Below w.heap.size w w' := by
  obtain ⟨cas, ins, kd, ⟨gs, gc, gh, ga⟩, cl, pl, se, co, po, am, hg, ag, fr, tt⟩ := r
  unfold rOwn
  dsimp only
  show Calls Tryz.prog 237 #[.agg #[.int .i64 cas, .int .i64 ins, .int .i64 kd, .int .i64 gs, .int .i64 gc, .int .i64 gh, .int .i64 ga, .int .i64 cl, .int .i64 pl, .int .i64 se, .int .i64 co, .int .i64 po, .int .i64 am, .int .i64 hg, .int .i64 ag, .int .i64 fr, .int .i64 tt]] w _
  go_enter Tryz.func237, Tryz.ntmps237
  go_upto_region 1 with fail
  generalize hX1 : w.alloc _ = W1
  have hB1 : Below w.heap.size w W1 := hX1 ▸ (Below.refl _ _).alloc (Nat.le_refl _) _
  have hv1 := boxedV w W1 [.int .i64 cas, .int .i64 ins, .int .i64 kd, .int .i64 gs, .int .i64 gc, .int .i64 gh, .int .i64 ga, .int .i64 cl, .int .i64 pl, .int .i64 se, .int .i64 co, .int .i64 po, .int .i64 am, .int .i64 hg, .int .i64 ag, .int .i64 fr, .int .i64 tt] 35 (by rw [← hX1]; rfl)
  have hz1 : W1.heap.size = w.heap.size + 1 := by rw [← hX1]; show (w.heap.push _).size = _; rw [Array.size_push]
  generalize hX2 : W1.alloc _ = W2
  have hB2 : Below W1.heap.size W1 W2 := hX2 ▸ (Below.refl _ _).alloc (Nat.le_refl _) _
  have HV2 := hide (boxedV W1 W2 (rC r0) 35 (by rw [← hX2]; rfl))
  rw [hz1] at HV2
  have HV1 := hide (hv1.keep hB2)
  have hc0 : W2.cell? ⟨w.heap.size, 0, none⟩ = some (.int .i64 cas) := (unhide HV1).cell rfl
  have hc1 : W2.cell? ⟨w.heap.size, 1, none⟩ = some (.int .i64 ins) := (unhide HV1).cell rfl
  have hc2 : W2.cell? ⟨w.heap.size, 2, none⟩ = some (.int .i64 kd) := (unhide HV1).cell rfl
  have hc3 : W2.cell? ⟨w.heap.size, 3, none⟩ = some (.int .i64 gs) := (unhide HV1).cell rfl
  have hc4 : W2.cell? ⟨w.heap.size, 4, none⟩ = some (.int .i64 gc) := (unhide HV1).cell rfl
  have hc5 : W2.cell? ⟨w.heap.size, 5, none⟩ = some (.int .i64 gh) := (unhide HV1).cell rfl
  have hc6 : W2.cell? ⟨w.heap.size, 6, none⟩ = some (.int .i64 ga) := (unhide HV1).cell rfl
  have hc7 : W2.cell? ⟨w.heap.size, 7, none⟩ = some (.int .i64 cl) := (unhide HV1).cell rfl
  have hc8 : W2.cell? ⟨w.heap.size, 8, none⟩ = some (.int .i64 pl) := (unhide HV1).cell rfl
  have hc9 : W2.cell? ⟨w.heap.size, 9, none⟩ = some (.int .i64 se) := (unhide HV1).cell rfl
  have hc10 : W2.cell? ⟨w.heap.size, 10, none⟩ = some (.int .i64 co) := (unhide HV1).cell rfl
  have hc11 : W2.cell? ⟨w.heap.size, 11, none⟩ = some (.int .i64 po) := (unhide HV1).cell rfl
  have hc12 : W2.cell? ⟨w.heap.size, 12, none⟩ = some (.int .i64 am) := (unhide HV1).cell rfl
  have hc13 : W2.cell? ⟨w.heap.size, 13, none⟩ = some (.int .i64 hg) := (unhide HV1).cell rfl
  have hc14 : W2.cell? ⟨w.heap.size, 14, none⟩ = some (.int .i64 ag) := (unhide HV1).cell rfl
  have hc15 : W2.cell? ⟨w.heap.size, 15, none⟩ = some (.int .i64 fr) := (unhide HV1).cell rfl
  have hc16 : W2.cell? ⟨w.heap.size, 16, none⟩ = some (.int .i64 tt) := (unhide HV1).cell rfl
  have HB := hide (thenB hB1 hB2)
  clear hX1 hB1 hv1 hz1 hX2 hB2
  refine wp_region_lit ?_
  refine wpList_plain rfl fun Kt hKt => ?_
  go_simp
  refine hKt _ _ ?_
  clear hKt Kt
  refine wpList_plain rfl fun Kt hKt => ?_
  go_simp
  refine hKt _ _ ?_
  clear hKt Kt
  refine wpList_plain rfl fun Kt hKt => ?_
  go_simp
  refine hKt _ _ ?_
  clear hKt Kt
  refine wpList_plain rfl fun Kt hKt => ?_
  go_simp
  refine hKt _ _ ?_
  clear hKt Kt
  refine wpList_plain rfl fun Kt hKt => ?_
  go_simp
  refine hKt _ _ ?_
  clear hKt Kt
  refine wpList_vput rfl 35 (.tmp 2) (.tmp 7) rfl (w.heap.size + 1) 0 rfl (rC ⟨0, 0, 0, ⟨0, 0, 0, 0⟩, 0, pl, 0, 0, 0, 0, 0, 0, fr, tt⟩) rfl infoRu (rC_one _) _ (rC r0) (unhide HV2) (show 0 + 17 ≤ 17 by omega) ?_
  intro W9 HW9 HG
  rw [spliceV_all _ _ (by rw [rC_length, rC_length])] at HW9
  go_wp2_with fail
  try simp only [Exit.inBlock, Exit.then]
  exact vret rfl rfl (w.heap.size + 1) rfl _ _ (unhide HW9) _ Tryz.underlying35 rfl infoRu ⟨rfl, (unhide HB).grown (unhide HG) (unhide HB).size (fun i e => by injection e with e; omega)⟩
set_option maxRecDepth 100000 in
set_option maxHeartbeats 100000 in
theorem ro7_any (r : Ru) (w : World) : Calls Tryz.prog 239 #[.agg (rC r).toArray] w fun x w' => x = .returned (.agg (rC (rOwn 7 r)).toArray) ∧ Below w.heap.size w w' := by
  obtain ⟨cas, ins, kd, ⟨gs, gc, gh, ga⟩, cl, pl, se, co, po, am, hg, ag, fr, tt⟩ := r
  unfold rOwn
  dsimp only
  show Calls Tryz.prog 239 #[.agg #[.int .i64 cas, .int .i64 ins, .int .i64 kd, .int .i64 gs, .int .i64 gc, .int .i64 gh, .int .i64 ga, .int .i64 cl, .int .i64 pl, .int .i64 se, .int .i64 co, .int .i64 po, .int .i64 am, .int .i64 hg, .int .i64 ag, .int .i64 fr, .int .i64 tt]] w _
  go_enter Tryz.func239, Tryz.ntmps239
  go_upto_region 1 with fail
  generalize hX1 : w.alloc _ = W1
  have hB1 : Below w.heap.size w W1 := hX1 ▸ (Below.refl _ _).alloc (Nat.le_refl _) _
  have hv1 := boxedV w W1 [.int .i64 cas, .int .i64 ins, .int .i64 kd, .int .i64 gs, .int .i64 gc, .int .i64 gh, .int .i64 ga, .int .i64 cl, .int .i64 pl, .int .i64 se, .int .i64 co, .int .i64 po, .int .i64 am, .int .i64 hg, .int .i64 ag, .int .i64 fr, .int .i64 tt] 35 (by rw [← hX1]; rfl)
  have hz1 : W1.heap.size = w.heap.size + 1 := by rw [← hX1]; show (w.heap.push _).size = _; rw [Array.size_push]
  generalize hX2 : W1.alloc _ = W2
  have hB2 : Below W1.heap.size W1 W2 := hX2 ▸ (Below.refl _ _).alloc (Nat.le_refl _) _
  have HV2 := hide (boxedV W1 W2 (rC r0) 35 (by rw [← hX2]; rfl))
  rw [hz1] at HV2
  have HV1 := hide (hv1.keep hB2)
  have hc0 : W2.cell? ⟨w.heap.size, 0, none⟩ = some (.int .i64 cas) := (unhide HV1).cell rfl
  have hc1 : W2.cell? ⟨w.heap.size, 1, none⟩ = some (.int .i64 ins) := (unhide HV1).cell rfl
  have hc2 : W2.cell? ⟨w.heap.size, 2, none⟩ = some (.int .i64 kd) := (unhide HV1).cell rfl
  have hc3 : W2.cell? ⟨w.heap.size, 3, none⟩ = some (.int .i64 gs) := (unhide HV1).cell rfl
  have hc4 : W2.cell? ⟨w.heap.size, 4, none⟩ = some (.int .i64 gc) := (unhide HV1).cell rfl
  have hc5 : W2.cell? ⟨w.heap.size, 5, none⟩ = some (.int .i64 gh) := (unhide HV1).cell rfl
  have hc6 : W2.cell? ⟨w.heap.size, 6, none⟩ = some (.int .i64 ga) := (unhide HV1).cell rfl
  have hc7 : W2.cell? ⟨w.heap.size, 7, none⟩ = some (.int .i64 cl) := (unhide HV1).cell rfl
  have hc8 : W2.cell? ⟨w.heap.size, 8, none⟩ = some (.int .i64 pl) := (unhide HV1).cell rfl
  have hc9 : W2.cell? ⟨w.heap.size, 9, none⟩ = some (.int .i64 se) := (unhide HV1).cell rfl
  have hc10 : W2.cell? ⟨w.heap.size, 10, none⟩ = some (.int .i64 co) := (unhide HV1).cell rfl
  have hc11 : W2.cell? ⟨w.heap.size, 11, none⟩ = some (.int .i64 po) := (unhide HV1).cell rfl
  have hc12 : W2.cell? ⟨w.heap.size, 12, none⟩ = some (.int .i64 am) := (unhide HV1).cell rfl
  have hc13 : W2.cell? ⟨w.heap.size, 13, none⟩ = some (.int .i64 hg) := (unhide HV1).cell rfl
  have hc14 : W2.cell? ⟨w.heap.size, 14, none⟩ = some (.int .i64 ag) := (unhide HV1).cell rfl
  have hc15 : W2.cell? ⟨w.heap.size, 15, none⟩ = some (.int .i64 fr) := (unhide HV1).cell rfl
  have hc16 : W2.cell? ⟨w.heap.size, 16, none⟩ = some (.int .i64 tt) := (unhide HV1).cell rfl
  have HB := hide (thenB hB1 hB2)
  clear hX1 hB1 hv1 hz1 hX2 hB2
  refine wp_region_lit ?_
  refine wpList_plain rfl fun Kt hKt => ?_
  go_simp
  refine hKt _ _ ?_
  clear hKt Kt
  refine wpList_plain rfl fun Kt hKt => ?_
  go_simp
  refine hKt _ _ ?_
  clear hKt Kt
  refine wpList_plain rfl fun Kt hKt => ?_
  go_simp
  refine hKt _ _ ?_
  clear hKt Kt
  refine wpList_plain rfl fun Kt hKt => ?_
  go_simp
  refine hKt _ _ ?_
  clear hKt Kt
  refine wpList_plain rfl fun Kt hKt => ?_
  go_simp
  refine hKt _ _ ?_
  clear hKt Kt
  refine wpList_vput rfl 35 (.tmp 2) (.tmp 7) rfl (w.heap.size + 1) 0 rfl (rC ⟨0, 0, 0, ⟨0, 0, 0, 0⟩, cl, 0, 0, 0, 0, am, 0, 0, 0, 0⟩) rfl infoRu (rC_one _) _ (rC r0) (unhide HV2) (show 0 + 17 ≤ 17 by omega) ?_
  intro W9 HW9 HG
  rw [spliceV_all _ _ (by rw [rC_length, rC_length])] at HW9
  go_wp2_with fail
  try simp only [Exit.inBlock, Exit.then]
  exact vret rfl rfl (w.heap.size + 1) rfl _ _ (unhide HW9) _ Tryz.underlying35 rfl infoRu ⟨rfl, (unhide HB).grown (unhide HG) (unhide HB).size (fun i e => by injection e with e; omega)⟩
set_option maxRecDepth 100000 in
set_option maxHeartbeats 100000 in
theorem ro8_any (r : Ru) (w : World) : Calls Tryz.prog 241 #[.agg (rC r).toArray] w fun x w' => x = .returned (.agg (rC (rOwn 8 r)).toArray) ∧ Below w.heap.size w w' := by
  obtain ⟨cas, ins, kd, ⟨gs, gc, gh, ga⟩, cl, pl, se, co, po, am, hg, ag, fr, tt⟩ := r
  unfold rOwn
  dsimp only
  show Calls Tryz.prog 241 #[.agg #[.int .i64 cas, .int .i64 ins, .int .i64 kd, .int .i64 gs, .int .i64 gc, .int .i64 gh, .int .i64 ga, .int .i64 cl, .int .i64 pl, .int .i64 se, .int .i64 co, .int .i64 po, .int .i64 am, .int .i64 hg, .int .i64 ag, .int .i64 fr, .int .i64 tt]] w _
  go_enter Tryz.func241, Tryz.ntmps241
  go_upto_region 1 with fail
  generalize hX1 : w.alloc _ = W1
  have hB1 : Below w.heap.size w W1 := hX1 ▸ (Below.refl _ _).alloc (Nat.le_refl _) _
  have hv1 := boxedV w W1 [.int .i64 cas, .int .i64 ins, .int .i64 kd, .int .i64 gs, .int .i64 gc, .int .i64 gh, .int .i64 ga, .int .i64 cl, .int .i64 pl, .int .i64 se, .int .i64 co, .int .i64 po, .int .i64 am, .int .i64 hg, .int .i64 ag, .int .i64 fr, .int .i64 tt] 35 (by rw [← hX1]; rfl)
  have hz1 : W1.heap.size = w.heap.size + 1 := by rw [← hX1]; show (w.heap.push _).size = _; rw [Array.size_push]
  generalize hX2 : W1.alloc _ = W2
  have hB2 : Below W1.heap.size W1 W2 := hX2 ▸ (Below.refl _ _).alloc (Nat.le_refl _) _
  have HV2 := hide (boxedV W1 W2 (rC r0) 35 (by rw [← hX2]; rfl))
  rw [hz1] at HV2
  have HV1 := hide (hv1.keep hB2)
  have hc0 : W2.cell? ⟨w.heap.size, 0, none⟩ = some (.int .i64 cas) := (unhide HV1).cell rfl
  have hc1 : W2.cell? ⟨w.heap.size, 1, none⟩ = some (.int .i64 ins) := (unhide HV1).cell rfl
  have hc2 : W2.cell? ⟨w.heap.size, 2, none⟩ = some (.int .i64 kd) := (unhide HV1).cell rfl
  have hc3 : W2.cell? ⟨w.heap.size, 3, none⟩ = some (.int .i64 gs) := (unhide HV1).cell rfl
  have hc4 : W2.cell? ⟨w.heap.size, 4, none⟩ = some (.int .i64 gc) := (unhide HV1).cell rfl
  have hc5 : W2.cell? ⟨w.heap.size, 5, none⟩ = some (.int .i64 gh) := (unhide HV1).cell rfl
  have hc6 : W2.cell? ⟨w.heap.size, 6, none⟩ = some (.int .i64 ga) := (unhide HV1).cell rfl
  have hc7 : W2.cell? ⟨w.heap.size, 7, none⟩ = some (.int .i64 cl) := (unhide HV1).cell rfl
  have hc8 : W2.cell? ⟨w.heap.size, 8, none⟩ = some (.int .i64 pl) := (unhide HV1).cell rfl
  have hc9 : W2.cell? ⟨w.heap.size, 9, none⟩ = some (.int .i64 se) := (unhide HV1).cell rfl
  have hc10 : W2.cell? ⟨w.heap.size, 10, none⟩ = some (.int .i64 co) := (unhide HV1).cell rfl
  have hc11 : W2.cell? ⟨w.heap.size, 11, none⟩ = some (.int .i64 po) := (unhide HV1).cell rfl
  have hc12 : W2.cell? ⟨w.heap.size, 12, none⟩ = some (.int .i64 am) := (unhide HV1).cell rfl
  have hc13 : W2.cell? ⟨w.heap.size, 13, none⟩ = some (.int .i64 hg) := (unhide HV1).cell rfl
  have hc14 : W2.cell? ⟨w.heap.size, 14, none⟩ = some (.int .i64 ag) := (unhide HV1).cell rfl
  have hc15 : W2.cell? ⟨w.heap.size, 15, none⟩ = some (.int .i64 fr) := (unhide HV1).cell rfl
  have hc16 : W2.cell? ⟨w.heap.size, 16, none⟩ = some (.int .i64 tt) := (unhide HV1).cell rfl
  have HB := hide (thenB hB1 hB2)
  clear hX1 hB1 hv1 hz1 hX2 hB2
  refine wp_region_lit ?_
  refine wpList_plain rfl fun Kt hKt => ?_
  go_simp
  refine hKt _ _ ?_
  clear hKt Kt
  refine wpList_vput rfl 35 (.tmp 2) (.tmp 3) rfl (w.heap.size + 1) 0 rfl (rC ⟨0, 0, 0, ⟨0, 0, 0, 0⟩, 0, 0, 0, 0, 0, 0, 0, 0, 0, 0⟩) rfl infoRu (rC_one _) _ (rC r0) (unhide HV2) (show 0 + 17 ≤ 17 by omega) ?_
  intro W9 HW9 HG
  rw [spliceV_all _ _ (by rw [rC_length, rC_length])] at HW9
  go_wp2_with fail
  try simp only [Exit.inBlock, Exit.then]
  exact vret rfl rfl (w.heap.size + 1) rfl _ _ (unhide HW9) _ Tryz.underlying35 rfl infoRu ⟨rfl, (unhide HB).grown (unhide HG) (unhide HB).size (fun i e => by injection e with e; omega)⟩
theorem rh_all (k : Int) (h1 : 1 ≤ k) (h2 : k ≤ 8) (r : Ru) (w : World) : Calls Tryz.prog (rcondI k).1 #[.agg (rC r).toArray] w fun x w' => x = .returned (.bool (rHold k r)) ∧ Below w.heap.size w w' := by
  have : k = 1 ∨ k = 2 ∨ k = 3 ∨ k = 4 ∨ k = 5 ∨ k = 6 ∨ k = 7 ∨ k = 8 := by omega
  rcases this with rfl | rfl | rfl | rfl | rfl | rfl | rfl | rfl
  · exact rh1_any r w
  · exact rh2_any r w
  · exact rh3_any r w
  · exact rh4_any r w
  · exact rh5_any r w
  · exact rh6_any r w
  · exact rh7_any r w
  · exact rh8_any r w
theorem ro_all (k : Int) (h1 : 1 ≤ k) (h2 : k ≤ 8) (r : Ru) (w : World) : Calls Tryz.prog (rcondI k).2 #[.agg (rC r).toArray] w fun x w' => x = .returned (.agg (rC (rOwn k r)).toArray) ∧ Below w.heap.size w w' := by
  have : k = 1 ∨ k = 2 ∨ k = 3 ∨ k = 4 ∨ k = 5 ∨ k = 6 ∨ k = 7 ∨ k = 8 := by omega
  rcases this with rfl | rfl | rfl | rfl | rfl | rfl | rfl | rfl
  · exact ro1_any r w
  · exact ro2_any r w
  · exact ro3_any r w
  · exact ro4_any r w
  · exact ro5_any r w
  · exact ro6_any r w
  · exact ro7_any r w
  · exact ro8_any r w
theorem run_rcond (k : Int) (h1 : 1 ≤ k) (h2 : k ≤ 8) (args : Array Value) (w : World) :
    (callFunc (rcondI k).1 args).run Tryz.prog w = .ok (.enter (rcondI k).1 args) w ∧ (callFunc (rcondI k).2 args).run Tryz.prog w = .ok (.enter (rcondI k).2 args) w := by
  have : k = 1 ∨ k = 2 ∨ k = 3 ∨ k = 4 ∨ k = 5 ∨ k = 6 ∨ k = 7 ∨ k = 8 := by omega
  rcases this with rfl | rfl | rfl | rfl | rfl | rfl | rfl | rfl
  · exact ⟨by kernel_rfl, by kernel_rfl⟩
  · exact ⟨by kernel_rfl, by kernel_rfl⟩
  · exact ⟨by kernel_rfl, by kernel_rfl⟩
  · exact ⟨by kernel_rfl, by kernel_rfl⟩
  · exact ⟨by kernel_rfl, by kernel_rfl⟩
  · exact ⟨by kernel_rfl, by kernel_rfl⟩
  · exact ⟨by kernel_rfl, by kernel_rfl⟩
  · exact ⟨by kernel_rfl, by kernel_rfl⟩
end Go.Proofs.YtdmaopfaeigelaaGreatDoor
