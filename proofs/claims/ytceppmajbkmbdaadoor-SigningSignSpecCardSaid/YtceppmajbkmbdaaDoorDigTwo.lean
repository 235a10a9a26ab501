/- Two operations of a drawn region that may come next in either order. -/
import Derived.Test.YtceppmajbkmbdaaDoorDigOrd
namespace Go.Proofs.YtceppmajbkmbdaaDoor
set_option linter.unusedSimpArgs false
set_option linter.unusedVariables false
open Go.RowKit

theorem wpOp_one {P : Program} {ops : Array Oper} {Q : Exit → Act → World → Prop} {R : Act → World → Prop} {a : Act} {w : World} (i : Nat) (o : Oper) (ho : ops[i]? = some o) (hgd : Region.wanted o (yielded ops a.tmps) = true)
    (h : ∀ K : Act → World → Prop, (∀ a' w', R a' w' → K a' w') → Oper.wp P o a w K Q) : wpOp P ops Q i R a w := by
  unfold wpOp
  simp only [ho]
  rw [if_pos hgd]
  exact .inl (h _ fun a' w' h1 => h1)
theorem wpAnyH_two {P : Program} {md : Region.Mode} {ops : Array Oper} {Q : Exit → Act → World → Prop} {S : World → Prop} {n : Nat} {listed : Array Bool} {a : Act} {w : World} (i j : Nat) (o p : Oper) (ho : ops[i]? = some o) (hp : ops[j]? = some p) (hr : Region.ready md ops listed = [i, j])
    (hi : Region.wanted o (yielded ops a.tmps) = true) (hj : Region.wanted p (yielded ops a.tmps) = true)
    (h1 : ∀ K : Act → World → Prop, (∀ a' w', S w' → wpAnyH P md ops Q S n (listed.setIfInBounds i true) a' w' → K a' w') → Oper.wp P o a w K Q)
    (h2 : ∀ K : Act → World → Prop, (∀ a' w', S w' → wpAnyH P md ops Q S n (listed.setIfInBounds j true) a' w' → K a' w') → Oper.wp P p a w K Q) : wpAnyH P md ops Q S (n + 1) listed a w := by
  refine wpAnyH_all hr (by simp) fun x hx => ?_
  rcases (by simpa using hx : x = i ∨ x = j) with rfl | rfl
  · exact wpOp_one x o ho hi fun K hK => h1 K fun a' w' hs hw => hK a' w' ⟨hs, hw⟩
  · exact wpOp_one x p hp hj fun K hK => h2 K fun a' w' hs hw => hK a' w' ⟨hs, hw⟩
end Go.Proofs.YtceppmajbkmbdaaDoor
