/-
  NARROWER THAN 'FOR EVERY INPUT', by the rows' own cells (each row's printed sentence says how): LexisTokensSpec: laid · LexisJoinSpec: laid · LexisPlaceSpec: laid · LexisBack: laid · LexisAgain: laid · LexisOffsets: laid · LexisComments: laid · LexisPlaces: laid.
  DERIVED. THE GIVEN ROWS OF THIS SEAT. 8 by the template 'for every input the law returns true; each argument reads behind the call as it read before'; 0 by the template 'total and deterministic' (their statements: YtjppjbkndfbnhaaDoorTotals.lean).
  GIVEN WITH THE SEED: the statements are not yours to turn. If you find one false, say at which input.
  Laid BY PROGRAM, IN A SANDBOX (cutbox-rows.mjs): the forced cells as the released guide's own fill.sh prints them over the translation 3ed2cba78c327c21… (all of the seat's roots in one cut). By AI agents, Wed Nov 11 2026. No macro, syntax, notation, axiom, sorry.
-/
import Derived.Test.YtjppjbkndfbnhaaDoorChecked
import GoSem.Claim
import GoSem.ClaimJoined
import GoSem.ClaimMapViews
import Derived.JoinedTies
import Derived.KernelRfl
namespace Go.Proofs.YtjppjbkndfbnhaaDoor
/- THE CELL 'sum', in the pinned program and in every row, IS THE sha256 OF THE DUMP (.gsa) THAT YtjppjbkndfbnhaaDoorProg.lean LOADS. Nothing in Lean hashes anything: it is a label: what it is worth is what the hold of that sum in a sandbox is worth. -/
noncomputable def Tryd.pinned : Pinned := { name := "ytjppjbkndfbnhaadoor", sum := "3ed2cba78c327c21b80ba0e3ee1e249e44091602a612abaed6de7061817d2753", checked := Tryd.checked }
namespace Rows
def none {H : Type} : Left H := { results := [], args := [] }

/- WHAT THE LISTED PACKAGE-LEVEL VARIABLES READ AS WHEN THE CALL BEGINS. Each datum BY PROGRAM (the guide's laid-datum.mjs) off the statement by which the dump's own 'gosem.cut.vars' lays the variable. In a bare row this is a premise. The card (YtjppjbkndfbnhaaDoorCards.lean) ties it to the program's text. -/
def laid_assize_lexis_classes {H : Type} : DataW H := .agg [.lit (.int .u8 0), .lit (.int .u8 0), .lit (.int .u8 0), .lit (.int .u8 0), .lit (.int .u8 0), .lit (.int .u8 0), .lit (.int .u8 0), .lit (.int .u8 0), .lit (.int .u8 0), .lit (.int .u8 64), .lit (.int .u8 64), .lit (.int .u8 0), .lit (.int .u8 0), .lit (.int .u8 64), .lit (.int .u8 0), .lit (.int .u8 0), .lit (.int .u8 0), .lit (.int .u8 0), .lit (.int .u8 0), .lit (.int .u8 0), .lit (.int .u8 0), .lit (.int .u8 0), .lit (.int .u8 0), .lit (.int .u8 0), .lit (.int .u8 0), .lit (.int .u8 0), .lit (.int .u8 0), .lit (.int .u8 0), .lit (.int .u8 0), .lit (.int .u8 0), .lit (.int .u8 0), .lit (.int .u8 0), .lit (.int .u8 64), .lit (.int .u8 0), .lit (.int .u8 16), .lit (.int .u8 128), .lit (.int .u8 0), .lit (.int .u8 0), .lit (.int .u8 0), .lit (.int .u8 0), .lit (.int .u8 32), .lit (.int .u8 32), .lit (.int .u8 0), .lit (.int .u8 0), .lit (.int .u8 32), .lit (.int .u8 8), .lit (.int .u8 0), .lit (.int .u8 32), .lit (.int .u8 2), .lit (.int .u8 2), .lit (.int .u8 2), .lit (.int .u8 2), .lit (.int .u8 2), .lit (.int .u8 2), .lit (.int .u8 2), .lit (.int .u8 2), .lit (.int .u8 2), .lit (.int .u8 2), .lit (.int .u8 32), .lit (.int .u8 32), .lit (.int .u8 32), .lit (.int .u8 32), .lit (.int .u8 32), .lit (.int .u8 0), .lit (.int .u8 0), .lit (.int .u8 1), .lit (.int .u8 1), .lit (.int .u8 1), .lit (.int .u8 1), .lit (.int .u8 1), .lit (.int .u8 1), .lit (.int .u8 1), .lit (.int .u8 1), .lit (.int .u8 1), .lit (.int .u8 1), .lit (.int .u8 1), .lit (.int .u8 1), .lit (.int .u8 1), .lit (.int .u8 1), .lit (.int .u8 1), .lit (.int .u8 1), .lit (.int .u8 1), .lit (.int .u8 1), .lit (.int .u8 1), .lit (.int .u8 1), .lit (.int .u8 1), .lit (.int .u8 1), .lit (.int .u8 1), .lit (.int .u8 1), .lit (.int .u8 1), .lit (.int .u8 1), .lit (.int .u8 32), .lit (.int .u8 0), .lit (.int .u8 32), .lit (.int .u8 0), .lit (.int .u8 4), .lit (.int .u8 0), .lit (.int .u8 1), .lit (.int .u8 1), .lit (.int .u8 1), .lit (.int .u8 1), .lit (.int .u8 1), .lit (.int .u8 1), .lit (.int .u8 1), .lit (.int .u8 1), .lit (.int .u8 1), .lit (.int .u8 1), .lit (.int .u8 1), .lit (.int .u8 1), .lit (.int .u8 1), .lit (.int .u8 1), .lit (.int .u8 1), .lit (.int .u8 1), .lit (.int .u8 1), .lit (.int .u8 1), .lit (.int .u8 1), .lit (.int .u8 1), .lit (.int .u8 1), .lit (.int .u8 1), .lit (.int .u8 1), .lit (.int .u8 1), .lit (.int .u8 1), .lit (.int .u8 1), .lit (.int .u8 32), .lit (.int .u8 0), .lit (.int .u8 32), .lit (.int .u8 0), .lit (.int .u8 0)]

/-- 'assizelaw06.LexisTokensSpec': WHATEVER THE INPUT: true; the input reads as it did. -/
def lexisTokensSpecSpec : ChangeSpec := { name := "lexisTokensSpec", fn := fun _ => fun
  | [d] => { results := [.lit (.bool true)], args := [d] }
  | _ => none }
def lexisTokensSpecRow : OpenClaim := { program := "ytjppjbkndfbnhaadoor", sum := "3ed2cba78c327c21b80ba0e3ee1e249e44091602a612abaed6de7061817d2753", func := "assize/assizelaw06.LexisTokensSpec", spec := "lexisTokensSpec", inPlace := ["internal/bytealg.IndexByteString", "internal/bytealg.Count", "internal/bytealg.IndexByte", "internal/bytealg.Index"], unfollowed := true, recurses := true, named := ["assize/lexis.classes", "internal/bytealg.MaxLen"], apart := false, laid := [("assize/lexis.classes", laid_assize_lexis_classes)] }
def LexisTokensSpecSaid : Prop := lexisTokensSpecRow.holds Tryd.pinned (OpenSpec.ofChange lexisTokensSpecSpec)

/-- ITS FALSE NEIGHBOUR: 'it returns false'. Refute it at one input. -/
def lexisTokensSpecWrong : ChangeSpec := { name := "lexisTokensSpec", fn := fun _ => fun
  | [d] => { results := [.lit (.bool false)], args := [d] }
  | _ => none }
def LexisTokensSpecWrongFalsely : Prop := lexisTokensSpecRow.holds Tryd.pinned (OpenSpec.ofChange lexisTokensSpecWrong)

/-- 'assizelaw06.LexisJoinSpec': WHATEVER THE INPUT: true; the input reads as it did. -/
def lexisJoinSpecSpec : ChangeSpec := { name := "lexisJoinSpec", fn := fun _ => fun
  | [d1, d2] => { results := [.lit (.bool true)], args := [d1, d2] }
  | _ => none }
def lexisJoinSpecRow : OpenClaim := { program := "ytjppjbkndfbnhaadoor", sum := "3ed2cba78c327c21b80ba0e3ee1e249e44091602a612abaed6de7061817d2753", func := "assize/assizelaw06.LexisJoinSpec", spec := "lexisJoinSpec", inPlace := ["internal/bytealg.IndexByteString", "internal/bytealg.Count", "internal/bytealg.IndexByte", "internal/bytealg.Index"], unfollowed := true, recurses := true, named := ["assize/lexis.classes", "internal/bytealg.MaxLen"], apart := false, laid := [("assize/lexis.classes", laid_assize_lexis_classes)] }
def LexisJoinSpecSaid : Prop := lexisJoinSpecRow.holds Tryd.pinned (OpenSpec.ofChange lexisJoinSpecSpec)

/-- ITS FALSE NEIGHBOUR: 'it returns false'. Refute it at one input. -/
def lexisJoinSpecWrong : ChangeSpec := { name := "lexisJoinSpec", fn := fun _ => fun
  | [d1, d2] => { results := [.lit (.bool false)], args := [d1, d2] }
  | _ => none }
def LexisJoinSpecWrongFalsely : Prop := lexisJoinSpecRow.holds Tryd.pinned (OpenSpec.ofChange lexisJoinSpecWrong)

/-- 'assizelaw06.LexisPlaceSpec': WHATEVER THE INPUT: true; the input reads as it did. -/
def lexisPlaceSpecSpec : ChangeSpec := { name := "lexisPlaceSpec", fn := fun _ => fun
  | [d1, d2] => { results := [.lit (.bool true)], args := [d1, d2] }
  | _ => none }
def lexisPlaceSpecRow : OpenClaim := { program := "ytjppjbkndfbnhaadoor", sum := "3ed2cba78c327c21b80ba0e3ee1e249e44091602a612abaed6de7061817d2753", func := "assize/assizelaw06.LexisPlaceSpec", spec := "lexisPlaceSpec", inPlace := ["internal/bytealg.IndexByteString", "internal/bytealg.Count", "internal/bytealg.IndexByte", "internal/bytealg.Index"], unfollowed := true, recurses := true, named := ["assize/lexis.classes", "internal/bytealg.MaxLen"], apart := false, laid := [("assize/lexis.classes", laid_assize_lexis_classes)] }
def LexisPlaceSpecSaid : Prop := lexisPlaceSpecRow.holds Tryd.pinned (OpenSpec.ofChange lexisPlaceSpecSpec)

/-- ITS FALSE NEIGHBOUR: 'it returns false'. Refute it at one input. -/
def lexisPlaceSpecWrong : ChangeSpec := { name := "lexisPlaceSpec", fn := fun _ => fun
  | [d1, d2] => { results := [.lit (.bool false)], args := [d1, d2] }
  | _ => none }
def LexisPlaceSpecWrongFalsely : Prop := lexisPlaceSpecRow.holds Tryd.pinned (OpenSpec.ofChange lexisPlaceSpecWrong)

/-- 'assizelaw06.LexisBack': WHATEVER THE INPUT: true; the input reads as it did. -/
def lexisBackSpec : ChangeSpec := { name := "lexisBack", fn := fun _ => fun
  | [d] => { results := [.lit (.bool true)], args := [d] }
  | _ => none }
def lexisBackRow : OpenClaim := { program := "ytjppjbkndfbnhaadoor", sum := "3ed2cba78c327c21b80ba0e3ee1e249e44091602a612abaed6de7061817d2753", func := "assize/assizelaw06.LexisBack", spec := "lexisBack", inPlace := ["internal/bytealg.IndexByteString", "internal/bytealg.Count", "internal/bytealg.IndexByte", "internal/bytealg.Index"], unfollowed := true, recurses := true, named := ["assize/lexis.classes", "internal/bytealg.MaxLen"], apart := false, laid := [("assize/lexis.classes", laid_assize_lexis_classes)] }
def LexisBackSaid : Prop := lexisBackRow.holds Tryd.pinned (OpenSpec.ofChange lexisBackSpec)

/-- ITS FALSE NEIGHBOUR: 'it returns false'. Refute it at one input. -/
def lexisBackWrong : ChangeSpec := { name := "lexisBack", fn := fun _ => fun
  | [d] => { results := [.lit (.bool false)], args := [d] }
  | _ => none }
def LexisBackWrongFalsely : Prop := lexisBackRow.holds Tryd.pinned (OpenSpec.ofChange lexisBackWrong)

/-- 'assizelaw06.LexisAgain': WHATEVER THE INPUT: true; the input reads as it did. -/
def lexisAgainSpec : ChangeSpec := { name := "lexisAgain", fn := fun _ => fun
  | [d] => { results := [.lit (.bool true)], args := [d] }
  | _ => none }
def lexisAgainRow : OpenClaim := { program := "ytjppjbkndfbnhaadoor", sum := "3ed2cba78c327c21b80ba0e3ee1e249e44091602a612abaed6de7061817d2753", func := "assize/assizelaw06.LexisAgain", spec := "lexisAgain", inPlace := ["internal/bytealg.IndexByteString", "internal/bytealg.Count", "internal/bytealg.IndexByte", "internal/bytealg.Index"], unfollowed := true, recurses := true, named := ["assize/lexis.classes", "internal/bytealg.MaxLen"], apart := false, laid := [("assize/lexis.classes", laid_assize_lexis_classes)] }
def LexisAgainSaid : Prop := lexisAgainRow.holds Tryd.pinned (OpenSpec.ofChange lexisAgainSpec)

/-- ITS FALSE NEIGHBOUR: 'it returns false'. Refute it at one input. -/
def lexisAgainWrong : ChangeSpec := { name := "lexisAgain", fn := fun _ => fun
  | [d] => { results := [.lit (.bool false)], args := [d] }
  | _ => none }
def LexisAgainWrongFalsely : Prop := lexisAgainRow.holds Tryd.pinned (OpenSpec.ofChange lexisAgainWrong)

/-- 'assizelaw06.LexisOffsets': WHATEVER THE INPUT: true; the input reads as it did. -/
def lexisOffsetsSpec : ChangeSpec := { name := "lexisOffsets", fn := fun _ => fun
  | [d] => { results := [.lit (.bool true)], args := [d] }
  | _ => none }
def lexisOffsetsRow : OpenClaim := { program := "ytjppjbkndfbnhaadoor", sum := "3ed2cba78c327c21b80ba0e3ee1e249e44091602a612abaed6de7061817d2753", func := "assize/assizelaw06.LexisOffsets", spec := "lexisOffsets", inPlace := ["internal/bytealg.IndexByteString", "internal/bytealg.Count", "internal/bytealg.IndexByte", "internal/bytealg.Index"], unfollowed := true, recurses := true, named := ["assize/lexis.classes", "internal/bytealg.MaxLen"], apart := false, laid := [("assize/lexis.classes", laid_assize_lexis_classes)] }
def LexisOffsetsSaid : Prop := lexisOffsetsRow.holds Tryd.pinned (OpenSpec.ofChange lexisOffsetsSpec)

/-- ITS FALSE NEIGHBOUR: 'it returns false'. Refute it at one input. -/
def lexisOffsetsWrong : ChangeSpec := { name := "lexisOffsets", fn := fun _ => fun
  | [d] => { results := [.lit (.bool false)], args := [d] }
  | _ => none }
def LexisOffsetsWrongFalsely : Prop := lexisOffsetsRow.holds Tryd.pinned (OpenSpec.ofChange lexisOffsetsWrong)

/-- 'assizelaw06.LexisComments': WHATEVER THE INPUT: true; the input reads as it did. -/
def lexisCommentsSpec : ChangeSpec := { name := "lexisComments", fn := fun _ => fun
  | [d1, d2, d3] => { results := [.lit (.bool true)], args := [d1, d2, d3] }
  | _ => none }
def lexisCommentsRow : OpenClaim := { program := "ytjppjbkndfbnhaadoor", sum := "3ed2cba78c327c21b80ba0e3ee1e249e44091602a612abaed6de7061817d2753", func := "assize/assizelaw06.LexisComments", spec := "lexisComments", inPlace := ["internal/bytealg.IndexByteString", "internal/bytealg.Count", "internal/bytealg.IndexByte", "internal/bytealg.Index"], unfollowed := true, recurses := true, named := ["assize/lexis.classes", "internal/bytealg.MaxLen"], apart := false, laid := [("assize/lexis.classes", laid_assize_lexis_classes)] }
def LexisCommentsSaid : Prop := lexisCommentsRow.holds Tryd.pinned (OpenSpec.ofChange lexisCommentsSpec)

/-- ITS FALSE NEIGHBOUR: 'it returns false'. Refute it at one input. -/
def lexisCommentsWrong : ChangeSpec := { name := "lexisComments", fn := fun _ => fun
  | [d1, d2, d3] => { results := [.lit (.bool false)], args := [d1, d2, d3] }
  | _ => none }
def LexisCommentsWrongFalsely : Prop := lexisCommentsRow.holds Tryd.pinned (OpenSpec.ofChange lexisCommentsWrong)

/-- 'assizelaw06.LexisPlaces': WHATEVER THE INPUT: true; the input reads as it did. -/
def lexisPlacesSpec : ChangeSpec := { name := "lexisPlaces", fn := fun _ => fun
  | [d1, d2] => { results := [.lit (.bool true)], args := [d1, d2] }
  | _ => none }
def lexisPlacesRow : OpenClaim := { program := "ytjppjbkndfbnhaadoor", sum := "3ed2cba78c327c21b80ba0e3ee1e249e44091602a612abaed6de7061817d2753", func := "assize/assizelaw06.LexisPlaces", spec := "lexisPlaces", inPlace := ["internal/bytealg.IndexByteString", "internal/bytealg.Count", "internal/bytealg.IndexByte", "internal/bytealg.Index"], unfollowed := true, recurses := true, named := ["assize/lexis.classes", "internal/bytealg.MaxLen"], apart := false, laid := [("assize/lexis.classes", laid_assize_lexis_classes)] }
def LexisPlacesSaid : Prop := lexisPlacesRow.holds Tryd.pinned (OpenSpec.ofChange lexisPlacesSpec)

/-- ITS FALSE NEIGHBOUR: 'it returns false'. Refute it at one input. -/
def lexisPlacesWrong : ChangeSpec := { name := "lexisPlaces", fn := fun _ => fun
  | [d1, d2] => { results := [.lit (.bool false)], args := [d1, d2] }
  | _ => none }
def LexisPlacesWrongFalsely : Prop := lexisPlacesRow.holds Tryd.pinned (OpenSpec.ofChange lexisPlacesWrong)

/- THE SECOND FORM. 'bulk': how many values and letters a reading holds, each counted each time it is reached (what is shared counts as often as it is met; a slice's spare places count too). A statement '..UptoSaid' is the law's where the arguments, and the package variables that the reading takes, are together of bulk at most 1048576: NARROWER than '..Said'. Prove '..Said' where nothing that the law and all that it calls make is longer than what came in: it says more and counts as full. Else prove '..UptoSaid'. A law counts once. -/
mutual
def uptoBulk {H : Type} : DataW H → Nat
  | .lit (.string bytes) => bytes.length + 1
  | .lit _ => 1
  | .nil => 1
  | .ptr d => uptoBulk d + 1
  | .slice elems spare => uptoBulkAll elems + uptoBulkAll spare + 1
  | .agg parts => uptoBulkAll parts + 1
  | .iface _ d => uptoBulk d + 1
  | .map entries => uptoBulkEntries entries + 1
  | .held _ => 1
def uptoBulkAll {H : Type} : List (DataW H) → Nat
  | [] => 0
  | d :: r => uptoBulk d + uptoBulkAll r
def uptoBulkEntries {H : Type} : List (Lit × DataW H) → Nat
  | [] => 0
  | x :: r => uptoBulkEntry x + uptoBulkEntries r
def uptoBulkEntry {H : Type} : Lit × DataW H → Nat
  | (.string bytes, d) => bytes.length + uptoBulk d + 1
  | (_, d) => uptoBulk d + 1
 end
def uptoSmall : (H : Type) → List (DataW H) → Bool := fun _ ds => decide (uptoBulkAll ds ≤ 1048576)
def OpenSpec.upto (s : _root_.Go.ChangeSpec) : _root_.Go.OpenSpec := { _root_.Go.OpenSpec.ofChange s with cond := some uptoSmall }

/-- 'assizelaw06.LexisTokensSpec', WHERE WHAT IT READS IS OF BULK AT MOST 1048576: true; the input reads as it did. -/
def lexisTokensSpecUptoRow : OpenClaim := { program := "ytjppjbkndfbnhaadoor", sum := "3ed2cba78c327c21b80ba0e3ee1e249e44091602a612abaed6de7061817d2753", func := "assize/assizelaw06.LexisTokensSpec", spec := "lexisTokensSpec", inPlace := ["internal/bytealg.IndexByteString", "internal/bytealg.Count", "internal/bytealg.IndexByte", "internal/bytealg.Index"], unfollowed := true, recurses := true, named := ["assize/lexis.classes", "internal/bytealg.MaxLen"], apart := false, laid := [("assize/lexis.classes", laid_assize_lexis_classes)], narrowed := true }
def LexisTokensSpecUptoSaid : Prop := lexisTokensSpecUptoRow.holds Tryd.pinned (OpenSpec.upto lexisTokensSpecSpec)

/-- 'assizelaw06.LexisJoinSpec', WHERE WHAT IT READS IS OF BULK AT MOST 1048576: true; the input reads as it did. -/
def lexisJoinSpecUptoRow : OpenClaim := { program := "ytjppjbkndfbnhaadoor", sum := "3ed2cba78c327c21b80ba0e3ee1e249e44091602a612abaed6de7061817d2753", func := "assize/assizelaw06.LexisJoinSpec", spec := "lexisJoinSpec", inPlace := ["internal/bytealg.IndexByteString", "internal/bytealg.Count", "internal/bytealg.IndexByte", "internal/bytealg.Index"], unfollowed := true, recurses := true, named := ["assize/lexis.classes", "internal/bytealg.MaxLen"], apart := false, laid := [("assize/lexis.classes", laid_assize_lexis_classes)], narrowed := true }
def LexisJoinSpecUptoSaid : Prop := lexisJoinSpecUptoRow.holds Tryd.pinned (OpenSpec.upto lexisJoinSpecSpec)

/-- 'assizelaw06.LexisPlaceSpec', WHERE WHAT IT READS IS OF BULK AT MOST 1048576: true; the input reads as it did. -/
def lexisPlaceSpecUptoRow : OpenClaim := { program := "ytjppjbkndfbnhaadoor", sum := "3ed2cba78c327c21b80ba0e3ee1e249e44091602a612abaed6de7061817d2753", func := "assize/assizelaw06.LexisPlaceSpec", spec := "lexisPlaceSpec", inPlace := ["internal/bytealg.IndexByteString", "internal/bytealg.Count", "internal/bytealg.IndexByte", "internal/bytealg.Index"], unfollowed := true, recurses := true, named := ["assize/lexis.classes", "internal/bytealg.MaxLen"], apart := false, laid := [("assize/lexis.classes", laid_assize_lexis_classes)], narrowed := true }
def LexisPlaceSpecUptoSaid : Prop := lexisPlaceSpecUptoRow.holds Tryd.pinned (OpenSpec.upto lexisPlaceSpecSpec)

/-- 'assizelaw06.LexisBack', WHERE WHAT IT READS IS OF BULK AT MOST 1048576: true; the input reads as it did. -/
def lexisBackUptoRow : OpenClaim := { program := "ytjppjbkndfbnhaadoor", sum := "3ed2cba78c327c21b80ba0e3ee1e249e44091602a612abaed6de7061817d2753", func := "assize/assizelaw06.LexisBack", spec := "lexisBack", inPlace := ["internal/bytealg.IndexByteString", "internal/bytealg.Count", "internal/bytealg.IndexByte", "internal/bytealg.Index"], unfollowed := true, recurses := true, named := ["assize/lexis.classes", "internal/bytealg.MaxLen"], apart := false, laid := [("assize/lexis.classes", laid_assize_lexis_classes)], narrowed := true }
def LexisBackUptoSaid : Prop := lexisBackUptoRow.holds Tryd.pinned (OpenSpec.upto lexisBackSpec)

/-- 'assizelaw06.LexisAgain', WHERE WHAT IT READS IS OF BULK AT MOST 1048576: true; the input reads as it did. -/
def lexisAgainUptoRow : OpenClaim := { program := "ytjppjbkndfbnhaadoor", sum := "3ed2cba78c327c21b80ba0e3ee1e249e44091602a612abaed6de7061817d2753", func := "assize/assizelaw06.LexisAgain", spec := "lexisAgain", inPlace := ["internal/bytealg.IndexByteString", "internal/bytealg.Count", "internal/bytealg.IndexByte", "internal/bytealg.Index"], unfollowed := true, recurses := true, named := ["assize/lexis.classes", "internal/bytealg.MaxLen"], apart := false, laid := [("assize/lexis.classes", laid_assize_lexis_classes)], narrowed := true }
def LexisAgainUptoSaid : Prop := lexisAgainUptoRow.holds Tryd.pinned (OpenSpec.upto lexisAgainSpec)

/-- 'assizelaw06.LexisOffsets', WHERE WHAT IT READS IS OF BULK AT MOST 1048576: true; the input reads as it did. -/
def lexisOffsetsUptoRow : OpenClaim := { program := "ytjppjbkndfbnhaadoor", sum := "3ed2cba78c327c21b80ba0e3ee1e249e44091602a612abaed6de7061817d2753", func := "assize/assizelaw06.LexisOffsets", spec := "lexisOffsets", inPlace := ["internal/bytealg.IndexByteString", "internal/bytealg.Count", "internal/bytealg.IndexByte", "internal/bytealg.Index"], unfollowed := true, recurses := true, named := ["assize/lexis.classes", "internal/bytealg.MaxLen"], apart := false, laid := [("assize/lexis.classes", laid_assize_lexis_classes)], narrowed := true }
def LexisOffsetsUptoSaid : Prop := lexisOffsetsUptoRow.holds Tryd.pinned (OpenSpec.upto lexisOffsetsSpec)

/-- 'assizelaw06.LexisComments', WHERE WHAT IT READS IS OF BULK AT MOST 1048576: true; the input reads as it did. -/
def lexisCommentsUptoRow : OpenClaim := { program := "ytjppjbkndfbnhaadoor", sum := "3ed2cba78c327c21b80ba0e3ee1e249e44091602a612abaed6de7061817d2753", func := "assize/assizelaw06.LexisComments", spec := "lexisComments", inPlace := ["internal/bytealg.IndexByteString", "internal/bytealg.Count", "internal/bytealg.IndexByte", "internal/bytealg.Index"], unfollowed := true, recurses := true, named := ["assize/lexis.classes", "internal/bytealg.MaxLen"], apart := false, laid := [("assize/lexis.classes", laid_assize_lexis_classes)], narrowed := true }
def LexisCommentsUptoSaid : Prop := lexisCommentsUptoRow.holds Tryd.pinned (OpenSpec.upto lexisCommentsSpec)

/-- 'assizelaw06.LexisPlaces', WHERE WHAT IT READS IS OF BULK AT MOST 1048576: true; the input reads as it did. -/
def lexisPlacesUptoRow : OpenClaim := { program := "ytjppjbkndfbnhaadoor", sum := "3ed2cba78c327c21b80ba0e3ee1e249e44091602a612abaed6de7061817d2753", func := "assize/assizelaw06.LexisPlaces", spec := "lexisPlaces", inPlace := ["internal/bytealg.IndexByteString", "internal/bytealg.Count", "internal/bytealg.IndexByte", "internal/bytealg.Index"], unfollowed := true, recurses := true, named := ["assize/lexis.classes", "internal/bytealg.MaxLen"], apart := false, laid := [("assize/lexis.classes", laid_assize_lexis_classes)], narrowed := true }
def LexisPlacesUptoSaid : Prop := lexisPlacesUptoRow.holds Tryd.pinned (OpenSpec.upto lexisPlacesSpec)

end Rows
end Go.Proofs.YtjppjbkndfbnhaaDoor
