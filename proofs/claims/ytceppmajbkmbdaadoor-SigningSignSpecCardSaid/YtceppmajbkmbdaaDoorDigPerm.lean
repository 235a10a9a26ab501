/- A contract over the digest's program: permute, for all lanes. -/
import Derived.Test.YtceppmajbkmbdaaDoorDigTurn
import Derived.Test.YtceppmajbkmbdaaDoorDigCols
import Derived.Test.YtceppmajbkmbdaaDoorDigRows
namespace Go.Proofs.YtceppmajbkmbdaaDoor
set_option linter.unusedSimpArgs false
set_option linter.unusedVariables false
open Go.RowKit

set_option maxRecDepth 100000 in
set_option maxHeartbeats 4000000 in
theorem perm_any (w : World) (b : Nat) (t : TypeId) (f : Nat → Int) (rest : List Value) (h : SpAt w b t f rest) (hT : DTab w) (hb : gTop ≤ b) :
    Calls Tryd.prog 100 #[.pointer (some ⟨b, 0, none⟩)] w fun e w' => e = .returned (.tuple #[]) ∧ SpAt w' b t (permF f) rest ∧ w.grownBy w' (some b) := by
  have HH := hide h
  have HT := hide hT
  clear h hT
  go_enter Tryd.func100, Tryd.ntmps100
  go_wp2_with fail
  go_loopg [3] 24 (fun g y wx => ∃ k : Nat, g + k = 24 ∧ y = .int .i64 (k : Int) ∧ SpAt wx b t (permN f k) rest ∧ w.grownBy wx (some b))
  case atStart => exact ⟨0, rfl, rfl, unhide HH, World.grownBy.refl _ _⟩
  case round =>
    obtain ⟨k, hk, rfl, hS, hg⟩ := hrel
    have HG := hide hg
    have HS := hide hS
    cases gk with
    | zero =>
      have hk5 : k = 24 := by omega
      subst hk5
      clear hS hg
      go_wp2_with fail
      exact bodyPost_end (v := .tuple #[]) (by simp [results, Tryd.results100, go_sem]) rfl ⟨rfl, unhide HS, unhide HG⟩
    | succ g =>
      have hkn : k < 24 := by omega
      have hyt : (k : Int) < 24 := by omega
      have hy0 : (0 : Int) ≤ (k : Int) := Int.natCast_nonneg _
      clear hS hg
      go_wp2_with fail
      refine (cols_any wr b t _ rest (unhide HS)).mono ?_; rintro e w1 ⟨rfl, hS1, hg1⟩
      have hT1 := ((unhide HT).grown hb (unhide HG)).grown hb hg1
      have HT1 := hide hT1
      have HS1 := hide hS1
      have HG1 := hide ((unhide HG).trans hg1)
      clear hS1 hT1 hg1
      go_wp2_with fail
      refine (turn_any w1 b t _ rest (unhide HS1) (unhide HT1) hb).mono ?_; rintro e w2 ⟨rfl, hS2, hg2⟩
      have HT2 := hide ((unhide HT1).grown hb hg2)
      have HS2 := hide hS2
      have HG2 := hide ((unhide HG1).trans hg2)
      clear hS2 hg2 HT1 HS1 HG1
      go_wp2_with fail
      refine (rows_any w2 b t _ rest (unhide HS2)).mono ?_; rintro e w3 ⟨rfl, hS3, hg3⟩
      have HT3 := hide ((unhide HT2).grown hb hg3)
      have HG3 := hide ((unhide HG2).trans hg3)
      clear hg3 HT2 HS2 HG2 HG HS
      obtain ⟨W, hW⟩ : ∃ W, W = w3.drewN 1 := ⟨_, rfl⟩
      have HW : Hid (W = w3.drewN 1) := hW
      have hSW := hS3.keep (below_named HW)
      have hTW := (unhide HT3).keep (below_named HW)
      have c0 := hSW.cell (j := 0) (by omega)
      have q0 := hSW.free 0
      have cc := hTW.c k hkn
      have HS3 := hide hS3
      clear hW hSW hTW hS3
      go_wp2_with fail
      refine still_drew 10 W HW (by kernel_rfl) (by kernel_rfl) ?_
      simp only [List.take_succ_cons, List.take_zero, List.drop_succ_cons, List.drop_zero]
      repeat still_step
      refine wpStill_nil ?_
      go_wp2_with fail
      go_roundg g
      case measure => omega
      case rel =>
        exact ⟨k + 1, by omega, rfl, ((unhide HS3).keep (below_named HW)).set (by omega) _, grownSet (World.grownBy.trans (unhide HG3) (belowGrown b (below_named HW))) _ _⟩
end Go.Proofs.YtceppmajbkmbdaaDoor
