/- Contracts over the digest's program: climbing a path, whole. -/
import Derived.Test.YtceppmajbkmbdaaDoorDigClimbL
import Derived.Test.YtceppmajbkmbdaaDoorDigClimbR
namespace Go.Proofs.YtceppmajbkmbdaaDoor
set_option linter.unusedSimpArgs false
set_option linter.unusedVariables false
open Go.RowKit

theorem climb_any (n : Nat) : n ≤ 1099511627776 → ∀ (at_ : Nat) (d : List Int) (p : List (List Int)) (w : World) (hb m c : Nat) (A : Option Addr), 1 ≤ n → at_ < n → p.length = m → m = lenP n at_ → m ≤ c → Dg d → Ds w A p → HAt w hb → DTab w → ClimbIs w hb d n at_ m c A p := by
  induction n using Nat.strongRecOn with
  | _ n IH =>
    intro hn at_ d p w hb m c A h1 hat hpm hm hmc hd hA h hT
    have I := fun n' (hn' : n' < n) => IH n' hn' (by omega)
    by_cases h1n : n = 1
    · exact climb_one n h1n at_ d p w hb m c A hn h1 hat hpm hm hmc hd hA h hT
    · by_cases hak : at_ < halfN n
      · exact climb_left n (by omega) I at_ d p w hb m c A hn h1 hat hpm hm hmc hd hA h hT hak
      · exact climb_right n (by omega) I at_ d p w hb m c A hn h1 hat hpm hm hmc hd hA h hT hak
end Go.Proofs.YtceppmajbkmbdaaDoor
