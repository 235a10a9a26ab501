/- A contract over the digest's program: mixRows, for all lanes. -/
import Derived.Test.YtceppmajbkmbdaaDoorDigLane
namespace Go.Proofs.YtceppmajbkmbdaaDoor
set_option linter.unusedSimpArgs false
set_option linter.unusedVariables false
open Go.RowKit

set_option maxRecDepth 100000 in
set_option maxHeartbeats 4000000 in
theorem rows_any (w : World) (b : Nat) (t : TypeId) (f : Nat → Int) (rest : List Value) (h : SpAt w b t f rest) :
    Calls Tryd.prog 103 #[.pointer (some ⟨b, 0, none⟩)] w fun e w' => e = .returned (.tuple #[]) ∧ SpAt w' b t (rowsF f 5) rest ∧ w.grownBy w' (some b) := by
  have HH := hide h
  clear h
  go_enter Tryd.func103, Tryd.ntmps103
  go_wp2_with fail
  go_loopg [2] 5 (fun g y wx => ∃ k : Nat, g + k = 5 ∧ y = .int .i64 ((5 * k : Nat) : Int) ∧ SpAt wx b t (rowsF f k) rest ∧ w.grownBy wx (some b))
  case atStart => exact ⟨0, rfl, rfl, (unhide HH).fn fun j _ => by simp [rowsF], World.grownBy.refl _ _⟩
  case round =>
    obtain ⟨k, hk, rfl, hS, hg⟩ := hrel
    have HG := hide hg
    generalize hy : 5 * k = y
    have HY := hide hy
    have HS := hide hS
    have hy0 : (0 : Int) ≤ (y : Int) := Int.natCast_nonneg _
    cases gk with
    | zero =>
      have hyl : ¬ (y : Int) < 25 := by omega
      have hk5 : k = 5 := by omega
      subst hk5
      clear hy hS hg
      go_wp2_with fail
      exact bodyPost_end (v := .tuple #[]) (by simp [results, Tryd.results103, go_sem]) rfl ⟨rfl, unhide HS, unhide HG⟩
    | succ g =>
      have hyl : (y : Int) ≤ 20 := by omega
      have hyt : (y : Int) < 25 := by omega
      have c0 := hS.cell (j := y) (by omega); have c1 := hS.cell (j := y + 1) (by omega); have c2 := hS.cell (j := y + 2) (by omega); have c3 := hS.cell (j := y + 3) (by omega); have c4 := hS.cell (j := y + 4) (by omega)
      have e0 : rowsF f k y = f y := if_neg (by omega)
      have e1 : rowsF f k (y + 1) = f (y + 1) := if_neg (by omega)
      have e2 : rowsF f k (y + 2) = f (y + 2) := if_neg (by omega)
      have e3 : rowsF f k (y + 3) = f (y + 3) := if_neg (by omega)
      have e4 : rowsF f k (y + 4) = f (y + 4) := if_neg (by omega)
      rw [e0] at c0; rw [e1] at c1; rw [e2] at c2; rw [e3] at c3; rw [e4] at c4
      have q0 := hS.free y; have q1 := hS.free (y + 1); have q2 := hS.free (y + 2); have q3 := hS.free (y + 3); have q4 := hS.free (y + 4)
      clear hy hS hg e0 e1 e2 e3 e4
      go_wp2_with fail
      go_quiet (fail)
      go_wp2_with fail
      go_roundg g
      case measure => omega
      case rel =>
        obtain rfl := unhide HY
        refine ⟨k + 1, by omega, by congr 1, ?_, grownSet (grownSet (grownSet (grownSet (grownSet (World.grownBy.trans (unhide HG) (belowGrown b (belowDrewN _ (Below.refl _ _)))) _ _) _ _) _ _) _ _) _ _⟩
        exact ((((((((unhide HS).keep (belowDrewN _ (Below.refl _ _))).set (by omega) _).set (by omega) _).set (by omega) _).set (by omega) _).set (by omega) _)).fn fun j _ => rowsF_step f k j
end Go.Proofs.YtceppmajbkmbdaaDoor
