/- Contracts over the digest's program: what Path and Grow refuse. -/
import Derived.Test.YtceppmajbkmbdaaDoorDigClm
namespace Go.Proofs.YtceppmajbkmbdaaDoor
set_option linter.unusedSimpArgs false
set_option linter.unusedVariables false
open Go.RowKit

set_option maxRecDepth 100000 in
set_option maxHeartbeats 4000000 in
theorem Path_bad (at_ : Int) (m c : Nat) (A : Option Addr) (h : at_ < 0 ∨ (m : Int) ≤ at_) (w : World) :
    Calls Tryd.prog 17 #[.slice A m c, .int .i64 at_] w fun x w' => x = .returned (.tuple #[.slice none 0 0, .int .i64 1]) ∧ w' = w := by
  by_cases h1 : at_ < 0
  · clear h
    go_enter Tryd.func17, Tryd.ntmps17
    go_wp2_with fail
    go_ret2
    exact ⟨rfl, rfl⟩
  · have h2 : (m : Int) ≤ at_ := by omega
    clear h
    go_enter Tryd.func17, Tryd.ntmps17
    go_wp2_with fail
    go_ret2
    exact ⟨rfl, rfl⟩
set_option maxRecDepth 100000 in
set_option maxHeartbeats 4000000 in
theorem Grow_bad (n : Int) (m c : Nat) (A : Option Addr) (h : n < 1 ∨ (m : Int) < n) (w : World) :
    Calls Tryd.prog 22 #[.slice A m c, .int .i64 n] w fun x w' => x = .returned (.tuple #[.slice none 0 0, .int .i64 1]) ∧ Below w.heap.size w w' := by
  by_cases h1 : n < 1
  · clear h
    go_enter Tryd.func22, Tryd.ntmps22
    go_upto_region 1 with fail
    go_wp2_with fail
    try simp only [Exit.inBlock, Exit.then]
    refine bodyPost_ret (v := .tuple #[.slice none 0 0, .int .i64 1]) ?_ rfl ⟨rfl, ?_⟩
    · rw [results_cell_tmp rfl]
      go_simp
    · exact (Below.refl _ _).alloc (Nat.le_refl _) _
  · have h2 : (m : Int) < n := by omega
    clear h
    go_enter Tryd.func22, Tryd.ntmps22
    go_upto_region 1 with fail
    go_wp2_with fail
    try simp only [Exit.inBlock, Exit.then]
    refine bodyPost_ret (v := .tuple #[.slice none 0 0, .int .i64 1]) ?_ rfl ⟨rfl, ?_⟩
    · rw [results_cell_tmp rfl]
      go_simp
    · exact (Below.refl _ _).alloc (Nat.le_refl _) _
end Go.Proofs.YtceppmajbkmbdaaDoor
