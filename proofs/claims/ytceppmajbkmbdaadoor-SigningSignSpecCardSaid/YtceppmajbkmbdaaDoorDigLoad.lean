/- A contract over the digest's program: lane, for all bytes. -/
import Derived.Test.YtceppmajbkmbdaaDoorDigPure
namespace Go.Proofs.YtceppmajbkmbdaaDoor
set_option linter.unusedSimpArgs false
set_option linter.unusedVariables false
open Go.RowKit

set_option maxRecDepth 100000 in
set_option maxHeartbeats 4000000 in
theorem lane_any (w : World) (b o c : Nat) (g : Nat → Int) (h : ∀ j, j < 8 → w.cell? ⟨b, o + j, none⟩ = some (.int .u8 (g j))) (hg : ∀ j, j < 8 → 0 ≤ g j ∧ g j < 256) :
    Calls Tryd.prog 99 #[.slice (some ⟨b, o, none⟩) 8 c] w fun e w' => e = .returned (.int .u64 (laneF g)) ∧ w' = w.drewN 1 := by
  obtain ⟨W, hW⟩ : ∃ W, W = w.drewN 1 := ⟨_, rfl⟩
  have HW : Hid (W = w.drewN 1) := hW
  have hc : ∀ j, j < 8 → W.cell? ⟨b, o + j, none⟩ = some (.int .u8 (g j)) := fun j hj => by rw [hW]; exact h j hj
  have c0 := hc 0 (by omega); have c1 := hc 1 (by omega); have c2 := hc 2 (by omega); have c3 := hc 3 (by omega); have c4 := hc 4 (by omega); have c5 := hc 5 (by omega); have c6 := hc 6 (by omega); have c7 := hc 7 (by omega)
  have v : ∀ j, j < 8 → IntKind.u64.wrap (g j) = g j := fun j hj => IntWalk.u64_in _ (by have := hg j hj; omega)
  have v0 := v 0 (by omega); have v1 := v 1 (by omega); have v2 := v 2 (by omega); have v3 := v 3 (by omega); have v4 := v 4 (by omega); have v5 := v 5 (by omega); have v6 := v 6 (by omega); have v7 := v 7 (by omega)
  obtain ⟨L, hL⟩ : ∃ L, L = laneF g := ⟨_, rfl⟩
  have HL := hide hL
  rw [← hL]
  unfold laneF at hL
  clear hc v h hg hW hL
  rw [Nat.add_zero] at c0
  go_enter Tryd.func99, Tryd.ntmps99
  go_wp2_with fail
  refine still_drew 46 W HW (by kernel_rfl) (by kernel_rfl) ?_
  simp only [List.take_succ_cons, List.take_zero, List.drop_succ_cons, List.drop_zero]
  repeat still_step
  refine wpStill_nil ?_
  go_wp2_with fail
  go_ret
  exact ⟨by rw [unhide HL]; rfl, unhide HW⟩
end Go.Proofs.YtceppmajbkmbdaaDoor
