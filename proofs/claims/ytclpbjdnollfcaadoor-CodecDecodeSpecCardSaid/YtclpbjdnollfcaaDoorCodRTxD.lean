/- Contracts over the codec's program: the reference's reader: text after a refusal. -/
import Derived.Test.YtclpbjdnollfcaaDoorCodRTx
namespace Go.Proofs.YtclpbjdnollfcaaDoor
set_option linter.unusedSimpArgs false
set_option linter.unusedVariables false
open Go.RowKit

set_option maxRecDepth 100000 in
set_option maxHeartbeats 2000000 in
theorem text_dead (w : World) (rb : Nat) (A : Option Addr) (c : Nat) (l : List UInt8) (p : Nat) (h : RR w rb A c l p true) (hp : p ≤ 3000) :
    Calls Tryd.prog 54 #[.pointer (some ⟨rb, 0, none⟩)] w fun e w' => e = .returned (.string ⟨#[]⟩) ∧ RR w' rb A c l (p + 1) true ∧ Moved w rb w' := by
  have hl := h.2.2
  have hr0 := h.c0
  have HN := hide (number_dead 58 l.length w rb A c l p h hp (by omega))
  have h58 : ((58 : UInt8).toNat : Int) = 58 := rfl
  rw [h58] at HN
  have hl0 : (0 : Int) ≤ (l.length : Int) := Int.natCast_nonneg _
  have hl1 : (l.length : Int) ≤ 2000 := by omega
  clear h h58
  go_enter Tryd.func54, Tryd.ntmps54
  go_wp2_with fail
  refine (unhide HN).mono ?_; rintro e1 w1 ⟨rfl, hR1, hm1⟩
  have HR1 := hide hR1; have HM1 := hide hm1
  clear hr0
  have hr2 := hR1.c2; have hf2 := hR1.free 2
  clear hR1 hm1
  go_wp2_with fail
  go_quiet (fail)
  go_wp2_with fail
  go_ret
  exact ⟨rfl, ((unhide HR1).below (belowDrewN _ (Below.refl _ _))).mark true, movedSet ((unhide HM1).trans (belowGrown rb (belowDrewN _ (Below.refl _ _)))) _ _⟩
end Go.Proofs.YtclpbjdnollfcaaDoor
