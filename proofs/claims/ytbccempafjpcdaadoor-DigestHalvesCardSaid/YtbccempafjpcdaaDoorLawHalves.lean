/- The law DigestHalves: the digest of a list is that of the node of its halves. -/
import Derived.Test.YtbccempafjpcdaaDoorLawHalf0
import Derived.Test.YtbccempafjpcdaaDoorLawHalf1
import Derived.Test.YtbccempafjpcdaaDoorLawHalf2
import Derived.Test.YtbccempafjpcdaaDoorDigTwo
import Derived.Test.YtbccempafjpcdaaDoorDigTag
import Derived.Test.YtbccempafjpcdaaDoorClose
import Derived.Deep.DeepCutAuto
namespace Go.Proofs.YtbccempafjpcdaaDoor
set_option linter.unusedSimpArgs false
set_option linter.unusedVariables false
open Go.RowKit Go.LawClose

theorem halves_any (A : Option Addr) (c : Nat) (l : List Int) (w : World) (hA : Bt w A l) (hc : l.length ≤ c) (h63 : l.length ≤ 140737488351232) (hT : DTab w) :
    Calls Tryd.prog 9 #[.slice A l.length c] w (LawOk w) := by
  by_cases h0 : (dsP l).length = 0
  · exact halves_0 A c l w hA hc h63 hT h0
  · by_cases h1 : (dsP l).length = 1
    · exact halves_1 A c l w hA hc h63 hT h1
    · exact halves_2 A c l w hA hc h63 hT (by omega)
end Go.Proofs.YtbccempafjpcdaaDoor
