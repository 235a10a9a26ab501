/-
  NARROWER THAN 'FOR EVERY INPUT', by the rows' own cells (each row's printed sentence says how): DigestTreeSpec: laid · DigestGrowSpec: laid · SigningKeySpec: laid · SigningSignSpec: laid · SigningVerifySpec: laid · SigningVerifies: laid · SigningOrder: laid · SigningOpens: laid · SigningBits: laid · SigningShape: laid.
  DERIVED. THE GIVEN ROWS OF THIS SEAT. 10 by the template 'for every input the law returns true; each argument reads behind the call as it read before'; 0 by the template 'total and deterministic' (their statements: YtceppmajbkmbdaaDoorTotals.lean).
  GIVEN WITH THE SEED: the statements are not yours to turn. If you find one false, say at which input.
  Laid BY PROGRAM, IN A SANDBOX (cutbox-rows.mjs): the forced cells as the released guide's own fill.sh prints them over the translation c2b6d2470cf17cbb… (all of the seat's roots in one cut). By AI agents, Wed Nov 11 2026. No macro, syntax, notation, axiom, sorry.
-/
import Derived.Test.YtceppmajbkmbdaaDoorChecked
import GoSem.Claim
import GoSem.ClaimJoined
import GoSem.ClaimMapViews
import Derived.JoinedTies
import Derived.KernelRfl
namespace Go.Proofs.YtceppmajbkmbdaaDoor
/- THE CELL 'sum', in the pinned program and in every row, IS THE sha256 OF THE DUMP (.gsa) THAT YtceppmajbkmbdaaDoorProg.lean LOADS. Nothing in Lean hashes anything: it is a label: what it is worth is what the hold of that sum in a sandbox is worth. -/
noncomputable def Tryd.pinned : Pinned := { name := "ytceppmajbkmbdaadoor", sum := "c2b6d2470cf17cbb310fb46e58a8dfddf965bdb76bdf73a84812b9215a5ef376", checked := Tryd.checked }
namespace Rows
def none {H : Type} : Left H := { results := [], args := [] }

/- WHAT THE LISTED PACKAGE-LEVEL VARIABLES READ AS WHEN THE CALL BEGINS. Each datum BY PROGRAM (the guide's laid-datum.mjs) off the statement by which the dump's own 'gosem.cut.vars' lays the variable. In a bare row this is a premise. The card (YtceppmajbkmbdaaDoorCards.lean) ties it to the program's text. -/
def laid_assize_digest_constants {H : Type} : DataW H := .agg [.lit (.int .u64 1), .lit (.int .u64 32898), .lit (.int .u64 9223372036854808714), .lit (.int .u64 9223372039002292224), .lit (.int .u64 32907), .lit (.int .u64 2147483649), .lit (.int .u64 9223372039002292353), .lit (.int .u64 9223372036854808585), .lit (.int .u64 138), .lit (.int .u64 136), .lit (.int .u64 2147516425), .lit (.int .u64 2147483658), .lit (.int .u64 2147516555), .lit (.int .u64 9223372036854775947), .lit (.int .u64 9223372036854808713), .lit (.int .u64 9223372036854808579), .lit (.int .u64 9223372036854808578), .lit (.int .u64 9223372036854775936), .lit (.int .u64 32778), .lit (.int .u64 9223372039002259466), .lit (.int .u64 9223372039002292353), .lit (.int .u64 9223372036854808704), .lit (.int .u64 2147483649), .lit (.int .u64 9223372039002292232)]
def laid_assize_digest_turns {H : Type} : DataW H := .agg [.lit (.int .i64 1), .lit (.int .i64 3), .lit (.int .i64 6), .lit (.int .i64 10), .lit (.int .i64 15), .lit (.int .i64 21), .lit (.int .i64 28), .lit (.int .i64 36), .lit (.int .i64 45), .lit (.int .i64 55), .lit (.int .i64 2), .lit (.int .i64 14), .lit (.int .i64 27), .lit (.int .i64 41), .lit (.int .i64 56), .lit (.int .i64 8), .lit (.int .i64 25), .lit (.int .i64 43), .lit (.int .i64 62), .lit (.int .i64 18), .lit (.int .i64 39), .lit (.int .i64 61), .lit (.int .i64 20), .lit (.int .i64 44)]
def laid_assize_digest_places {H : Type} : DataW H := .agg [.lit (.int .i64 10), .lit (.int .i64 7), .lit (.int .i64 11), .lit (.int .i64 17), .lit (.int .i64 18), .lit (.int .i64 3), .lit (.int .i64 5), .lit (.int .i64 16), .lit (.int .i64 8), .lit (.int .i64 21), .lit (.int .i64 24), .lit (.int .i64 4), .lit (.int .i64 15), .lit (.int .i64 23), .lit (.int .i64 19), .lit (.int .i64 13), .lit (.int .i64 12), .lit (.int .i64 2), .lit (.int .i64 20), .lit (.int .i64 14), .lit (.int .i64 22), .lit (.int .i64 9), .lit (.int .i64 6), .lit (.int .i64 1)]

/-- 'assizelaw03.DigestTreeSpec': WHATEVER THE INPUT: true; the input reads as it did. -/
def digestTreeSpecSpec : ChangeSpec := { name := "digestTreeSpec", fn := fun _ => fun
  | [d1, d2, d3, d4] => { results := [.lit (.bool true)], args := [d1, d2, d3, d4] }
  | _ => none }
def digestTreeSpecRow : OpenClaim := { program := "ytceppmajbkmbdaadoor", sum := "c2b6d2470cf17cbb310fb46e58a8dfddf965bdb76bdf73a84812b9215a5ef376", func := "assize/assizelaw03.DigestTreeSpec", spec := "digestTreeSpec", unfollowed := true, recurses := true, named := ["assize/digest.constants", "assize/digest.places", "assize/digest.turns"], apart := false, laid := [("assize/digest.constants", laid_assize_digest_constants), ("assize/digest.turns", laid_assize_digest_turns), ("assize/digest.places", laid_assize_digest_places)] }
def DigestTreeSpecSaid : Prop := digestTreeSpecRow.holds Tryd.pinned (OpenSpec.ofChange digestTreeSpecSpec)

/-- ITS FALSE NEIGHBOUR: 'it returns false'. Refute it at one input. -/
def digestTreeSpecWrong : ChangeSpec := { name := "digestTreeSpec", fn := fun _ => fun
  | [d1, d2, d3, d4] => { results := [.lit (.bool false)], args := [d1, d2, d3, d4] }
  | _ => none }
def DigestTreeSpecWrongFalsely : Prop := digestTreeSpecRow.holds Tryd.pinned (OpenSpec.ofChange digestTreeSpecWrong)

/-- 'assizelaw03.DigestGrowSpec': WHATEVER THE INPUT: true; the input reads as it did. -/
def digestGrowSpecSpec : ChangeSpec := { name := "digestGrowSpec", fn := fun _ => fun
  | [d1, d2, d3, d4] => { results := [.lit (.bool true)], args := [d1, d2, d3, d4] }
  | _ => none }
def digestGrowSpecRow : OpenClaim := { program := "ytceppmajbkmbdaadoor", sum := "c2b6d2470cf17cbb310fb46e58a8dfddf965bdb76bdf73a84812b9215a5ef376", func := "assize/assizelaw03.DigestGrowSpec", spec := "digestGrowSpec", unfollowed := true, recurses := true, named := ["assize/digest.constants", "assize/digest.places", "assize/digest.turns"], apart := false, laid := [("assize/digest.constants", laid_assize_digest_constants), ("assize/digest.turns", laid_assize_digest_turns), ("assize/digest.places", laid_assize_digest_places)] }
def DigestGrowSpecSaid : Prop := digestGrowSpecRow.holds Tryd.pinned (OpenSpec.ofChange digestGrowSpecSpec)

/-- ITS FALSE NEIGHBOUR: 'it returns false'. Refute it at one input. -/
def digestGrowSpecWrong : ChangeSpec := { name := "digestGrowSpec", fn := fun _ => fun
  | [d1, d2, d3, d4] => { results := [.lit (.bool false)], args := [d1, d2, d3, d4] }
  | _ => none }
def DigestGrowSpecWrongFalsely : Prop := digestGrowSpecRow.holds Tryd.pinned (OpenSpec.ofChange digestGrowSpecWrong)

/-- 'assizelaw04.SigningKeySpec': WHATEVER THE INPUT: true; the input reads as it did. -/
def signingKeySpecSpec : ChangeSpec := { name := "signingKeySpec", fn := fun _ => fun
  | [d1, d2, d3, d4, d5, d6] => { results := [.lit (.bool true)], args := [d1, d2, d3, d4, d5, d6] }
  | _ => none }
def signingKeySpecRow : OpenClaim := { program := "ytceppmajbkmbdaadoor", sum := "c2b6d2470cf17cbb310fb46e58a8dfddf965bdb76bdf73a84812b9215a5ef376", func := "assize/assizelaw04.SigningKeySpec", spec := "signingKeySpec", unfollowed := true, recurses := true, named := ["assize/digest.constants", "assize/digest.places", "assize/digest.turns"], apart := false, laid := [("assize/digest.constants", laid_assize_digest_constants), ("assize/digest.turns", laid_assize_digest_turns), ("assize/digest.places", laid_assize_digest_places)] }
def SigningKeySpecSaid : Prop := signingKeySpecRow.holds Tryd.pinned (OpenSpec.ofChange signingKeySpecSpec)

/-- ITS FALSE NEIGHBOUR: 'it returns false'. Refute it at one input. -/
def signingKeySpecWrong : ChangeSpec := { name := "signingKeySpec", fn := fun _ => fun
  | [d1, d2, d3, d4, d5, d6] => { results := [.lit (.bool false)], args := [d1, d2, d3, d4, d5, d6] }
  | _ => none }
def SigningKeySpecWrongFalsely : Prop := signingKeySpecRow.holds Tryd.pinned (OpenSpec.ofChange signingKeySpecWrong)

/-- 'assizelaw04.SigningSignSpec': WHATEVER THE INPUT: true; the input reads as it did. -/
def signingSignSpecSpec : ChangeSpec := { name := "signingSignSpec", fn := fun _ => fun
  | [d1, d2] => { results := [.lit (.bool true)], args := [d1, d2] }
  | _ => none }
def signingSignSpecRow : OpenClaim := { program := "ytceppmajbkmbdaadoor", sum := "c2b6d2470cf17cbb310fb46e58a8dfddf965bdb76bdf73a84812b9215a5ef376", func := "assize/assizelaw04.SigningSignSpec", spec := "signingSignSpec", unfollowed := true, recurses := true, named := ["assize/digest.constants", "assize/digest.places", "assize/digest.turns"], apart := false, laid := [("assize/digest.constants", laid_assize_digest_constants), ("assize/digest.turns", laid_assize_digest_turns), ("assize/digest.places", laid_assize_digest_places)] }
def SigningSignSpecSaid : Prop := signingSignSpecRow.holds Tryd.pinned (OpenSpec.ofChange signingSignSpecSpec)

/-- ITS FALSE NEIGHBOUR: 'it returns false'. Refute it at one input. -/
def signingSignSpecWrong : ChangeSpec := { name := "signingSignSpec", fn := fun _ => fun
  | [d1, d2] => { results := [.lit (.bool false)], args := [d1, d2] }
  | _ => none }
def SigningSignSpecWrongFalsely : Prop := signingSignSpecRow.holds Tryd.pinned (OpenSpec.ofChange signingSignSpecWrong)

/-- 'assizelaw04.SigningVerifySpec': WHATEVER THE INPUT: true; the input reads as it did. -/
def signingVerifySpecSpec : ChangeSpec := { name := "signingVerifySpec", fn := fun _ => fun
  | [d1, d2, d3, d4] => { results := [.lit (.bool true)], args := [d1, d2, d3, d4] }
  | _ => none }
def signingVerifySpecRow : OpenClaim := { program := "ytceppmajbkmbdaadoor", sum := "c2b6d2470cf17cbb310fb46e58a8dfddf965bdb76bdf73a84812b9215a5ef376", func := "assize/assizelaw04.SigningVerifySpec", spec := "signingVerifySpec", unfollowed := true, recurses := true, named := ["assize/digest.constants", "assize/digest.places", "assize/digest.turns"], apart := false, laid := [("assize/digest.constants", laid_assize_digest_constants), ("assize/digest.turns", laid_assize_digest_turns), ("assize/digest.places", laid_assize_digest_places)] }
def SigningVerifySpecSaid : Prop := signingVerifySpecRow.holds Tryd.pinned (OpenSpec.ofChange signingVerifySpecSpec)

/-- ITS FALSE NEIGHBOUR: 'it returns false'. Refute it at one input. -/
def signingVerifySpecWrong : ChangeSpec := { name := "signingVerifySpec", fn := fun _ => fun
  | [d1, d2, d3, d4] => { results := [.lit (.bool false)], args := [d1, d2, d3, d4] }
  | _ => none }
def SigningVerifySpecWrongFalsely : Prop := signingVerifySpecRow.holds Tryd.pinned (OpenSpec.ofChange signingVerifySpecWrong)

/-- 'assizelaw04.SigningVerifies': WHATEVER THE INPUT: true; the input reads as it did. -/
def signingVerifiesSpec : ChangeSpec := { name := "signingVerifies", fn := fun _ => fun
  | [d1, d2] => { results := [.lit (.bool true)], args := [d1, d2] }
  | _ => none }
def signingVerifiesRow : OpenClaim := { program := "ytceppmajbkmbdaadoor", sum := "c2b6d2470cf17cbb310fb46e58a8dfddf965bdb76bdf73a84812b9215a5ef376", func := "assize/assizelaw04.SigningVerifies", spec := "signingVerifies", unfollowed := true, recurses := true, named := ["assize/digest.constants", "assize/digest.places", "assize/digest.turns"], apart := false, laid := [("assize/digest.constants", laid_assize_digest_constants), ("assize/digest.turns", laid_assize_digest_turns), ("assize/digest.places", laid_assize_digest_places)] }
def SigningVerifiesSaid : Prop := signingVerifiesRow.holds Tryd.pinned (OpenSpec.ofChange signingVerifiesSpec)

/-- ITS FALSE NEIGHBOUR: 'it returns false'. Refute it at one input. -/
def signingVerifiesWrong : ChangeSpec := { name := "signingVerifies", fn := fun _ => fun
  | [d1, d2] => { results := [.lit (.bool false)], args := [d1, d2] }
  | _ => none }
def SigningVerifiesWrongFalsely : Prop := signingVerifiesRow.holds Tryd.pinned (OpenSpec.ofChange signingVerifiesWrong)

/-- 'assizelaw04.SigningOrder': WHATEVER THE INPUT: true; the input reads as it did. -/
def signingOrderSpec : ChangeSpec := { name := "signingOrder", fn := fun _ => fun
  | [d1, d2, d3] => { results := [.lit (.bool true)], args := [d1, d2, d3] }
  | _ => none }
def signingOrderRow : OpenClaim := { program := "ytceppmajbkmbdaadoor", sum := "c2b6d2470cf17cbb310fb46e58a8dfddf965bdb76bdf73a84812b9215a5ef376", func := "assize/assizelaw04.SigningOrder", spec := "signingOrder", unfollowed := true, recurses := true, named := ["assize/digest.constants", "assize/digest.places", "assize/digest.turns"], apart := false, laid := [("assize/digest.constants", laid_assize_digest_constants), ("assize/digest.turns", laid_assize_digest_turns), ("assize/digest.places", laid_assize_digest_places)] }
def SigningOrderSaid : Prop := signingOrderRow.holds Tryd.pinned (OpenSpec.ofChange signingOrderSpec)

/-- ITS FALSE NEIGHBOUR: 'it returns false'. Refute it at one input. -/
def signingOrderWrong : ChangeSpec := { name := "signingOrder", fn := fun _ => fun
  | [d1, d2, d3] => { results := [.lit (.bool false)], args := [d1, d2, d3] }
  | _ => none }
def SigningOrderWrongFalsely : Prop := signingOrderRow.holds Tryd.pinned (OpenSpec.ofChange signingOrderWrong)

/-- 'assizelaw04.SigningOpens': WHATEVER THE INPUT: true; the input reads as it did. -/
def signingOpensSpec : ChangeSpec := { name := "signingOpens", fn := fun _ => fun
  | [d1, d2, d3] => { results := [.lit (.bool true)], args := [d1, d2, d3] }
  | _ => none }
def signingOpensRow : OpenClaim := { program := "ytceppmajbkmbdaadoor", sum := "c2b6d2470cf17cbb310fb46e58a8dfddf965bdb76bdf73a84812b9215a5ef376", func := "assize/assizelaw04.SigningOpens", spec := "signingOpens", unfollowed := true, recurses := true, named := ["assize/digest.constants", "assize/digest.places", "assize/digest.turns"], apart := false, laid := [("assize/digest.constants", laid_assize_digest_constants), ("assize/digest.turns", laid_assize_digest_turns), ("assize/digest.places", laid_assize_digest_places)] }
def SigningOpensSaid : Prop := signingOpensRow.holds Tryd.pinned (OpenSpec.ofChange signingOpensSpec)

/-- ITS FALSE NEIGHBOUR: 'it returns false'. Refute it at one input. -/
def signingOpensWrong : ChangeSpec := { name := "signingOpens", fn := fun _ => fun
  | [d1, d2, d3] => { results := [.lit (.bool false)], args := [d1, d2, d3] }
  | _ => none }
def SigningOpensWrongFalsely : Prop := signingOpensRow.holds Tryd.pinned (OpenSpec.ofChange signingOpensWrong)

/-- 'assizelaw04.SigningBits': WHATEVER THE INPUT: true; the input reads as it did. -/
def signingBitsSpec : ChangeSpec := { name := "signingBits", fn := fun _ => fun
  | [d1, d2, d3] => { results := [.lit (.bool true)], args := [d1, d2, d3] }
  | _ => none }
def signingBitsRow : OpenClaim := { program := "ytceppmajbkmbdaadoor", sum := "c2b6d2470cf17cbb310fb46e58a8dfddf965bdb76bdf73a84812b9215a5ef376", func := "assize/assizelaw04.SigningBits", spec := "signingBits", unfollowed := true, recurses := true, named := ["assize/digest.constants", "assize/digest.places", "assize/digest.turns"], apart := false, laid := [("assize/digest.constants", laid_assize_digest_constants), ("assize/digest.turns", laid_assize_digest_turns), ("assize/digest.places", laid_assize_digest_places)] }
def SigningBitsSaid : Prop := signingBitsRow.holds Tryd.pinned (OpenSpec.ofChange signingBitsSpec)

/-- ITS FALSE NEIGHBOUR: 'it returns false'. Refute it at one input. -/
def signingBitsWrong : ChangeSpec := { name := "signingBits", fn := fun _ => fun
  | [d1, d2, d3] => { results := [.lit (.bool false)], args := [d1, d2, d3] }
  | _ => none }
def SigningBitsWrongFalsely : Prop := signingBitsRow.holds Tryd.pinned (OpenSpec.ofChange signingBitsWrong)

/-- 'assizelaw04.SigningShape': WHATEVER THE INPUT: true; the input reads as it did. -/
def signingShapeSpec : ChangeSpec := { name := "signingShape", fn := fun _ => fun
  | [d1, d2, d3, d4] => { results := [.lit (.bool true)], args := [d1, d2, d3, d4] }
  | _ => none }
def signingShapeRow : OpenClaim := { program := "ytceppmajbkmbdaadoor", sum := "c2b6d2470cf17cbb310fb46e58a8dfddf965bdb76bdf73a84812b9215a5ef376", func := "assize/assizelaw04.SigningShape", spec := "signingShape", unfollowed := true, recurses := true, named := ["assize/digest.constants", "assize/digest.places", "assize/digest.turns"], apart := false, laid := [("assize/digest.constants", laid_assize_digest_constants), ("assize/digest.turns", laid_assize_digest_turns), ("assize/digest.places", laid_assize_digest_places)] }
def SigningShapeSaid : Prop := signingShapeRow.holds Tryd.pinned (OpenSpec.ofChange signingShapeSpec)

/-- ITS FALSE NEIGHBOUR: 'it returns false'. Refute it at one input. -/
def signingShapeWrong : ChangeSpec := { name := "signingShape", fn := fun _ => fun
  | [d1, d2, d3, d4] => { results := [.lit (.bool false)], args := [d1, d2, d3, d4] }
  | _ => none }
def SigningShapeWrongFalsely : Prop := signingShapeRow.holds Tryd.pinned (OpenSpec.ofChange signingShapeWrong)

/- THE SECOND FORM. 'bulk': how many values and letters a reading holds, each counted each time it is reached (what is shared counts as often as it is met; a slice's spare places count too). A statement '..UptoSaid' is the law's where the arguments, and the package variables that the reading takes, are together of bulk at most 1048576: NARROWER than '..Said'. Prove '..Said' where nothing that the law and all that it calls make is longer than what came in: it says more and counts as full. Else prove '..UptoSaid'. A law counts once. -/
mutual
def uptoBulk {H : Type} : DataW H → Nat
  | .lit (.string bytes) => bytes.length + 1
  | .lit _ => 1
  | .nil => 1
  | .ptr d => uptoBulk d + 1
  | .slice elems spare => uptoBulkAll elems + uptoBulkAll spare + 1
  | .agg parts => uptoBulkAll parts + 1
  | .iface _ d => uptoBulk d + 1
  | .map entries => uptoBulkEntries entries + 1
  | .held _ => 1
def uptoBulkAll {H : Type} : List (DataW H) → Nat
  | [] => 0
  | d :: r => uptoBulk d + uptoBulkAll r
def uptoBulkEntries {H : Type} : List (Lit × DataW H) → Nat
  | [] => 0
  | x :: r => uptoBulkEntry x + uptoBulkEntries r
def uptoBulkEntry {H : Type} : Lit × DataW H → Nat
  | (.string bytes, d) => bytes.length + uptoBulk d + 1
  | (_, d) => uptoBulk d + 1
 end
def uptoSmall : (H : Type) → List (DataW H) → Bool := fun _ ds => decide (uptoBulkAll ds ≤ 1048576)
def OpenSpec.upto (s : _root_.Go.ChangeSpec) : _root_.Go.OpenSpec := { _root_.Go.OpenSpec.ofChange s with cond := some uptoSmall }

/-- 'assizelaw03.DigestTreeSpec', WHERE WHAT IT READS IS OF BULK AT MOST 1048576: true; the input reads as it did. -/
def digestTreeSpecUptoRow : OpenClaim := { program := "ytceppmajbkmbdaadoor", sum := "c2b6d2470cf17cbb310fb46e58a8dfddf965bdb76bdf73a84812b9215a5ef376", func := "assize/assizelaw03.DigestTreeSpec", spec := "digestTreeSpec", unfollowed := true, recurses := true, named := ["assize/digest.constants", "assize/digest.places", "assize/digest.turns"], apart := false, laid := [("assize/digest.constants", laid_assize_digest_constants), ("assize/digest.turns", laid_assize_digest_turns), ("assize/digest.places", laid_assize_digest_places)], narrowed := true }
def DigestTreeSpecUptoSaid : Prop := digestTreeSpecUptoRow.holds Tryd.pinned (OpenSpec.upto digestTreeSpecSpec)

/-- 'assizelaw03.DigestGrowSpec', WHERE WHAT IT READS IS OF BULK AT MOST 1048576: true; the input reads as it did. -/
def digestGrowSpecUptoRow : OpenClaim := { program := "ytceppmajbkmbdaadoor", sum := "c2b6d2470cf17cbb310fb46e58a8dfddf965bdb76bdf73a84812b9215a5ef376", func := "assize/assizelaw03.DigestGrowSpec", spec := "digestGrowSpec", unfollowed := true, recurses := true, named := ["assize/digest.constants", "assize/digest.places", "assize/digest.turns"], apart := false, laid := [("assize/digest.constants", laid_assize_digest_constants), ("assize/digest.turns", laid_assize_digest_turns), ("assize/digest.places", laid_assize_digest_places)], narrowed := true }
def DigestGrowSpecUptoSaid : Prop := digestGrowSpecUptoRow.holds Tryd.pinned (OpenSpec.upto digestGrowSpecSpec)

/-- 'assizelaw04.SigningKeySpec', WHERE WHAT IT READS IS OF BULK AT MOST 1048576: true; the input reads as it did. -/
def signingKeySpecUptoRow : OpenClaim := { program := "ytceppmajbkmbdaadoor", sum := "c2b6d2470cf17cbb310fb46e58a8dfddf965bdb76bdf73a84812b9215a5ef376", func := "assize/assizelaw04.SigningKeySpec", spec := "signingKeySpec", unfollowed := true, recurses := true, named := ["assize/digest.constants", "assize/digest.places", "assize/digest.turns"], apart := false, laid := [("assize/digest.constants", laid_assize_digest_constants), ("assize/digest.turns", laid_assize_digest_turns), ("assize/digest.places", laid_assize_digest_places)], narrowed := true }
def SigningKeySpecUptoSaid : Prop := signingKeySpecUptoRow.holds Tryd.pinned (OpenSpec.upto signingKeySpecSpec)

/-- 'assizelaw04.SigningSignSpec', WHERE WHAT IT READS IS OF BULK AT MOST 1048576: true; the input reads as it did. -/
def signingSignSpecUptoRow : OpenClaim := { program := "ytceppmajbkmbdaadoor", sum := "c2b6d2470cf17cbb310fb46e58a8dfddf965bdb76bdf73a84812b9215a5ef376", func := "assize/assizelaw04.SigningSignSpec", spec := "signingSignSpec", unfollowed := true, recurses := true, named := ["assize/digest.constants", "assize/digest.places", "assize/digest.turns"], apart := false, laid := [("assize/digest.constants", laid_assize_digest_constants), ("assize/digest.turns", laid_assize_digest_turns), ("assize/digest.places", laid_assize_digest_places)], narrowed := true }
def SigningSignSpecUptoSaid : Prop := signingSignSpecUptoRow.holds Tryd.pinned (OpenSpec.upto signingSignSpecSpec)

/-- 'assizelaw04.SigningVerifySpec', WHERE WHAT IT READS IS OF BULK AT MOST 1048576: true; the input reads as it did. -/
def signingVerifySpecUptoRow : OpenClaim := { program := "ytceppmajbkmbdaadoor", sum := "c2b6d2470cf17cbb310fb46e58a8dfddf965bdb76bdf73a84812b9215a5ef376", func := "assize/assizelaw04.SigningVerifySpec", spec := "signingVerifySpec", unfollowed := true, recurses := true, named := ["assize/digest.constants", "assize/digest.places", "assize/digest.turns"], apart := false, laid := [("assize/digest.constants", laid_assize_digest_constants), ("assize/digest.turns", laid_assize_digest_turns), ("assize/digest.places", laid_assize_digest_places)], narrowed := true }
def SigningVerifySpecUptoSaid : Prop := signingVerifySpecUptoRow.holds Tryd.pinned (OpenSpec.upto signingVerifySpecSpec)

/-- 'assizelaw04.SigningVerifies', WHERE WHAT IT READS IS OF BULK AT MOST 1048576: true; the input reads as it did. -/
def signingVerifiesUptoRow : OpenClaim := { program := "ytceppmajbkmbdaadoor", sum := "c2b6d2470cf17cbb310fb46e58a8dfddf965bdb76bdf73a84812b9215a5ef376", func := "assize/assizelaw04.SigningVerifies", spec := "signingVerifies", unfollowed := true, recurses := true, named := ["assize/digest.constants", "assize/digest.places", "assize/digest.turns"], apart := false, laid := [("assize/digest.constants", laid_assize_digest_constants), ("assize/digest.turns", laid_assize_digest_turns), ("assize/digest.places", laid_assize_digest_places)], narrowed := true }
def SigningVerifiesUptoSaid : Prop := signingVerifiesUptoRow.holds Tryd.pinned (OpenSpec.upto signingVerifiesSpec)

/-- 'assizelaw04.SigningOrder', WHERE WHAT IT READS IS OF BULK AT MOST 1048576: true; the input reads as it did. -/
def signingOrderUptoRow : OpenClaim := { program := "ytceppmajbkmbdaadoor", sum := "c2b6d2470cf17cbb310fb46e58a8dfddf965bdb76bdf73a84812b9215a5ef376", func := "assize/assizelaw04.SigningOrder", spec := "signingOrder", unfollowed := true, recurses := true, named := ["assize/digest.constants", "assize/digest.places", "assize/digest.turns"], apart := false, laid := [("assize/digest.constants", laid_assize_digest_constants), ("assize/digest.turns", laid_assize_digest_turns), ("assize/digest.places", laid_assize_digest_places)], narrowed := true }
def SigningOrderUptoSaid : Prop := signingOrderUptoRow.holds Tryd.pinned (OpenSpec.upto signingOrderSpec)

/-- 'assizelaw04.SigningOpens', WHERE WHAT IT READS IS OF BULK AT MOST 1048576: true; the input reads as it did. -/
def signingOpensUptoRow : OpenClaim := { program := "ytceppmajbkmbdaadoor", sum := "c2b6d2470cf17cbb310fb46e58a8dfddf965bdb76bdf73a84812b9215a5ef376", func := "assize/assizelaw04.SigningOpens", spec := "signingOpens", unfollowed := true, recurses := true, named := ["assize/digest.constants", "assize/digest.places", "assize/digest.turns"], apart := false, laid := [("assize/digest.constants", laid_assize_digest_constants), ("assize/digest.turns", laid_assize_digest_turns), ("assize/digest.places", laid_assize_digest_places)], narrowed := true }
def SigningOpensUptoSaid : Prop := signingOpensUptoRow.holds Tryd.pinned (OpenSpec.upto signingOpensSpec)

/-- 'assizelaw04.SigningBits', WHERE WHAT IT READS IS OF BULK AT MOST 1048576: true; the input reads as it did. -/
def signingBitsUptoRow : OpenClaim := { program := "ytceppmajbkmbdaadoor", sum := "c2b6d2470cf17cbb310fb46e58a8dfddf965bdb76bdf73a84812b9215a5ef376", func := "assize/assizelaw04.SigningBits", spec := "signingBits", unfollowed := true, recurses := true, named := ["assize/digest.constants", "assize/digest.places", "assize/digest.turns"], apart := false, laid := [("assize/digest.constants", laid_assize_digest_constants), ("assize/digest.turns", laid_assize_digest_turns), ("assize/digest.places", laid_assize_digest_places)], narrowed := true }
def SigningBitsUptoSaid : Prop := signingBitsUptoRow.holds Tryd.pinned (OpenSpec.upto signingBitsSpec)

/-- 'assizelaw04.SigningShape', WHERE WHAT IT READS IS OF BULK AT MOST 1048576: true; the input reads as it did. -/
def signingShapeUptoRow : OpenClaim := { program := "ytceppmajbkmbdaadoor", sum := "c2b6d2470cf17cbb310fb46e58a8dfddf965bdb76bdf73a84812b9215a5ef376", func := "assize/assizelaw04.SigningShape", spec := "signingShape", unfollowed := true, recurses := true, named := ["assize/digest.constants", "assize/digest.places", "assize/digest.turns"], apart := false, laid := [("assize/digest.constants", laid_assize_digest_constants), ("assize/digest.turns", laid_assize_digest_turns), ("assize/digest.places", laid_assize_digest_places)], narrowed := true }
def SigningShapeUptoSaid : Prop := signingShapeUptoRow.holds Tryd.pinned (OpenSpec.upto signingShapeSpec)

end Rows
end Go.Proofs.YtceppmajbkmbdaaDoor
