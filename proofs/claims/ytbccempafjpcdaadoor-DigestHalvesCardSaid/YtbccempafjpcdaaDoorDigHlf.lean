/- The law DigestHalves: the digest of a list is that of the node of its halves. -/
import Derived.Test.YtbccempafjpcdaaDoorDigOf
import Derived.Test.YtbccempafjpcdaaDoorDigTwo
import Derived.Test.YtbccempafjpcdaaDoorDigTag
import Derived.Test.YtbccempafjpcdaaDoorClose
import Derived.Deep.DeepCutAuto
namespace Go.Proofs.YtbccempafjpcdaaDoor
set_option linter.unusedSimpArgs false
set_option linter.unusedVariables false
open Go.RowKit Go.LawClose

theorem half_pow {n j : Nat} (h1 : 2 ^ j < n) (h2 : n ≤ 2 * 2 ^ j) : halfN n = 2 ^ j := by
  unfold halfN
  have hp := Nat.pow_pos (n := j) (show 0 < 2 by omega)
  have e : Nat.log2 (n - 1) = j := (Nat.log2_eq_iff (by omega)).2 ⟨by omega, by rw [Nat.pow_succ]; omega⟩
  rw [e]
theorem sb_leaf : sb ⟨#[108, 101, 97, 102]⟩ = [108, 101, 97, 102] := by decide
theorem sb_node : sb ⟨#[110, 111, 100, 101]⟩ = [110, 111, 100, 101] := by decide
theorem tag_leaf (d : List Int) : tagF [108, 101, 97, 102] d = leafP d := rfl
theorem tag_node (a b : List Int) : tagF [110, 111, 100, 101] (a ++ b) = nodeP a b := rfl

end Go.Proofs.YtbccempafjpcdaaDoor
