/-
  NARROWER THAN 'FOR EVERY INPUT', by the rows' own cells (each row's printed sentence says how): DigestSumSpec: laid · DigestTreeSpec: laid · DigestGrowSpec: laid · DigestTags: laid · DigestClimbs: laid · DigestGrows: laid · DigestHalves: laid.
  DERIVED. THE GIVEN ROWS OF THIS SEAT. 7 by the template 'for every input the law returns true; each argument reads behind the call as it read before'; 0 by the template 'total and deterministic' (their statements: YtbclhieobhfdpaaDoorTotals.lean).
  GIVEN WITH THE SEED: the statements are not yours to turn. If you find one false, say at which input.
  Laid BY PROGRAM, IN A SANDBOX (cutbox-rows.mjs): the forced cells as the released guide's own fill.sh prints them over the translation df634b843364cdf0… (all of the seat's roots in one cut). By AI agents, Wed Nov 11 2026. No macro, syntax, notation, axiom, sorry.
-/
import Derived.Test.YtbclhieobhfdpaaDoorChecked
import GoSem.Claim
import GoSem.ClaimJoined
import GoSem.ClaimMapViews
import Derived.JoinedTies
import Derived.KernelRfl
namespace Go.Proofs.YtbclhieobhfdpaaDoor
/- THE CELL 'sum', in the pinned program and in every row, IS THE sha256 OF THE DUMP (.gsa) THAT YtbclhieobhfdpaaDoorProg.lean LOADS. Nothing in Lean hashes anything: it is a label: what it is worth is what the hold of that sum in a sandbox is worth. -/
noncomputable def Tryd.pinned : Pinned := { name := "ytbclhieobhfdpaadoor", sum := "df634b843364cdf0f051f4cda1913a2f1029584d6001d9e423d333dcfe7e90ea", checked := Tryd.checked }
namespace Rows
def none {H : Type} : Left H := { results := [], args := [] }

/- WHAT THE LISTED PACKAGE-LEVEL VARIABLES READ AS WHEN THE CALL BEGINS. Each datum BY PROGRAM (the guide's laid-datum.mjs) off the statement by which the dump's own 'gosem.cut.vars' lays the variable. In a bare row this is a premise. The card (YtbclhieobhfdpaaDoorCards.lean) ties it to the program's text. -/
def laid_assize_digest_constants {H : Type} : DataW H := .agg [.lit (.int .u64 1), .lit (.int .u64 32898), .lit (.int .u64 9223372036854808714), .lit (.int .u64 9223372039002292224), .lit (.int .u64 32907), .lit (.int .u64 2147483649), .lit (.int .u64 9223372039002292353), .lit (.int .u64 9223372036854808585), .lit (.int .u64 138), .lit (.int .u64 136), .lit (.int .u64 2147516425), .lit (.int .u64 2147483658), .lit (.int .u64 2147516555), .lit (.int .u64 9223372036854775947), .lit (.int .u64 9223372036854808713), .lit (.int .u64 9223372036854808579), .lit (.int .u64 9223372036854808578), .lit (.int .u64 9223372036854775936), .lit (.int .u64 32778), .lit (.int .u64 9223372039002259466), .lit (.int .u64 9223372039002292353), .lit (.int .u64 9223372036854808704), .lit (.int .u64 2147483649), .lit (.int .u64 9223372039002292232)]
def laid_assize_digest_turns {H : Type} : DataW H := .agg [.lit (.int .i64 1), .lit (.int .i64 3), .lit (.int .i64 6), .lit (.int .i64 10), .lit (.int .i64 15), .lit (.int .i64 21), .lit (.int .i64 28), .lit (.int .i64 36), .lit (.int .i64 45), .lit (.int .i64 55), .lit (.int .i64 2), .lit (.int .i64 14), .lit (.int .i64 27), .lit (.int .i64 41), .lit (.int .i64 56), .lit (.int .i64 8), .lit (.int .i64 25), .lit (.int .i64 43), .lit (.int .i64 62), .lit (.int .i64 18), .lit (.int .i64 39), .lit (.int .i64 61), .lit (.int .i64 20), .lit (.int .i64 44)]
def laid_assize_digest_places {H : Type} : DataW H := .agg [.lit (.int .i64 10), .lit (.int .i64 7), .lit (.int .i64 11), .lit (.int .i64 17), .lit (.int .i64 18), .lit (.int .i64 3), .lit (.int .i64 5), .lit (.int .i64 16), .lit (.int .i64 8), .lit (.int .i64 21), .lit (.int .i64 24), .lit (.int .i64 4), .lit (.int .i64 15), .lit (.int .i64 23), .lit (.int .i64 19), .lit (.int .i64 13), .lit (.int .i64 12), .lit (.int .i64 2), .lit (.int .i64 20), .lit (.int .i64 14), .lit (.int .i64 22), .lit (.int .i64 9), .lit (.int .i64 6), .lit (.int .i64 1)]

/-- 'assizelaw03.DigestSumSpec': WHATEVER THE INPUT: true; the input reads as it did. -/
def digestSumSpecSpec : ChangeSpec := { name := "digestSumSpec", fn := fun _ => fun
  | [d1, d2, d3] => { results := [.lit (.bool true)], args := [d1, d2, d3] }
  | _ => none }
def digestSumSpecRow : OpenClaim := { program := "ytbclhieobhfdpaadoor", sum := "df634b843364cdf0f051f4cda1913a2f1029584d6001d9e423d333dcfe7e90ea", func := "assize/assizelaw03.DigestSumSpec", spec := "digestSumSpec", unfollowed := true, recurses := true, named := ["assize/digest.constants", "assize/digest.places", "assize/digest.turns"], apart := false, laid := [("assize/digest.constants", laid_assize_digest_constants), ("assize/digest.turns", laid_assize_digest_turns), ("assize/digest.places", laid_assize_digest_places)] }
def DigestSumSpecSaid : Prop := digestSumSpecRow.holds Tryd.pinned (OpenSpec.ofChange digestSumSpecSpec)

/-- ITS FALSE NEIGHBOUR: 'it returns false'. Refute it at one input. -/
def digestSumSpecWrong : ChangeSpec := { name := "digestSumSpec", fn := fun _ => fun
  | [d1, d2, d3] => { results := [.lit (.bool false)], args := [d1, d2, d3] }
  | _ => none }
def DigestSumSpecWrongFalsely : Prop := digestSumSpecRow.holds Tryd.pinned (OpenSpec.ofChange digestSumSpecWrong)

/-- 'assizelaw03.DigestTreeSpec': WHATEVER THE INPUT: true; the input reads as it did. -/
def digestTreeSpecSpec : ChangeSpec := { name := "digestTreeSpec", fn := fun _ => fun
  | [d1, d2, d3, d4] => { results := [.lit (.bool true)], args := [d1, d2, d3, d4] }
  | _ => none }
def digestTreeSpecRow : OpenClaim := { program := "ytbclhieobhfdpaadoor", sum := "df634b843364cdf0f051f4cda1913a2f1029584d6001d9e423d333dcfe7e90ea", func := "assize/assizelaw03.DigestTreeSpec", spec := "digestTreeSpec", unfollowed := true, recurses := true, named := ["assize/digest.constants", "assize/digest.places", "assize/digest.turns"], apart := false, laid := [("assize/digest.constants", laid_assize_digest_constants), ("assize/digest.turns", laid_assize_digest_turns), ("assize/digest.places", laid_assize_digest_places)] }
def DigestTreeSpecSaid : Prop := digestTreeSpecRow.holds Tryd.pinned (OpenSpec.ofChange digestTreeSpecSpec)

/-- ITS FALSE NEIGHBOUR: 'it returns false'. Refute it at one input. -/
def digestTreeSpecWrong : ChangeSpec := { name := "digestTreeSpec", fn := fun _ => fun
  | [d1, d2, d3, d4] => { results := [.lit (.bool false)], args := [d1, d2, d3, d4] }
  | _ => none }
def DigestTreeSpecWrongFalsely : Prop := digestTreeSpecRow.holds Tryd.pinned (OpenSpec.ofChange digestTreeSpecWrong)

/-- 'assizelaw03.DigestGrowSpec': WHATEVER THE INPUT: true; the input reads as it did. -/
def digestGrowSpecSpec : ChangeSpec := { name := "digestGrowSpec", fn := fun _ => fun
  | [d1, d2, d3, d4] => { results := [.lit (.bool true)], args := [d1, d2, d3, d4] }
  | _ => none }
def digestGrowSpecRow : OpenClaim := { program := "ytbclhieobhfdpaadoor", sum := "df634b843364cdf0f051f4cda1913a2f1029584d6001d9e423d333dcfe7e90ea", func := "assize/assizelaw03.DigestGrowSpec", spec := "digestGrowSpec", unfollowed := true, recurses := true, named := ["assize/digest.constants", "assize/digest.places", "assize/digest.turns"], apart := false, laid := [("assize/digest.constants", laid_assize_digest_constants), ("assize/digest.turns", laid_assize_digest_turns), ("assize/digest.places", laid_assize_digest_places)] }
def DigestGrowSpecSaid : Prop := digestGrowSpecRow.holds Tryd.pinned (OpenSpec.ofChange digestGrowSpecSpec)

/-- ITS FALSE NEIGHBOUR: 'it returns false'. Refute it at one input. -/
def digestGrowSpecWrong : ChangeSpec := { name := "digestGrowSpec", fn := fun _ => fun
  | [d1, d2, d3, d4] => { results := [.lit (.bool false)], args := [d1, d2, d3, d4] }
  | _ => none }
def DigestGrowSpecWrongFalsely : Prop := digestGrowSpecRow.holds Tryd.pinned (OpenSpec.ofChange digestGrowSpecWrong)

/-- 'assizelaw03.DigestTags': WHATEVER THE INPUT: true; the input reads as it did. -/
def digestTagsSpec : ChangeSpec := { name := "digestTags", fn := fun _ => fun
  | [d1, d2] => { results := [.lit (.bool true)], args := [d1, d2] }
  | _ => none }
def digestTagsRow : OpenClaim := { program := "ytbclhieobhfdpaadoor", sum := "df634b843364cdf0f051f4cda1913a2f1029584d6001d9e423d333dcfe7e90ea", func := "assize/assizelaw03.DigestTags", spec := "digestTags", unfollowed := true, recurses := true, named := ["assize/digest.constants", "assize/digest.places", "assize/digest.turns"], apart := false, laid := [("assize/digest.constants", laid_assize_digest_constants), ("assize/digest.turns", laid_assize_digest_turns), ("assize/digest.places", laid_assize_digest_places)] }
def DigestTagsSaid : Prop := digestTagsRow.holds Tryd.pinned (OpenSpec.ofChange digestTagsSpec)

/-- ITS FALSE NEIGHBOUR: 'it returns false'. Refute it at one input. -/
def digestTagsWrong : ChangeSpec := { name := "digestTags", fn := fun _ => fun
  | [d1, d2] => { results := [.lit (.bool false)], args := [d1, d2] }
  | _ => none }
def DigestTagsWrongFalsely : Prop := digestTagsRow.holds Tryd.pinned (OpenSpec.ofChange digestTagsWrong)

/-- 'assizelaw03.DigestClimbs': WHATEVER THE INPUT: true; the input reads as it did. -/
def digestClimbsSpec : ChangeSpec := { name := "digestClimbs", fn := fun _ => fun
  | [d] => { results := [.lit (.bool true)], args := [d] }
  | _ => none }
def digestClimbsRow : OpenClaim := { program := "ytbclhieobhfdpaadoor", sum := "df634b843364cdf0f051f4cda1913a2f1029584d6001d9e423d333dcfe7e90ea", func := "assize/assizelaw03.DigestClimbs", spec := "digestClimbs", unfollowed := true, recurses := true, named := ["assize/digest.constants", "assize/digest.places", "assize/digest.turns"], apart := false, laid := [("assize/digest.constants", laid_assize_digest_constants), ("assize/digest.turns", laid_assize_digest_turns), ("assize/digest.places", laid_assize_digest_places)] }
def DigestClimbsSaid : Prop := digestClimbsRow.holds Tryd.pinned (OpenSpec.ofChange digestClimbsSpec)

/-- ITS FALSE NEIGHBOUR: 'it returns false'. Refute it at one input. -/
def digestClimbsWrong : ChangeSpec := { name := "digestClimbs", fn := fun _ => fun
  | [d] => { results := [.lit (.bool false)], args := [d] }
  | _ => none }
def DigestClimbsWrongFalsely : Prop := digestClimbsRow.holds Tryd.pinned (OpenSpec.ofChange digestClimbsWrong)

/-- 'assizelaw03.DigestGrows': WHATEVER THE INPUT: true; the input reads as it did. -/
def digestGrowsSpec : ChangeSpec := { name := "digestGrows", fn := fun _ => fun
  | [d] => { results := [.lit (.bool true)], args := [d] }
  | _ => none }
def digestGrowsRow : OpenClaim := { program := "ytbclhieobhfdpaadoor", sum := "df634b843364cdf0f051f4cda1913a2f1029584d6001d9e423d333dcfe7e90ea", func := "assize/assizelaw03.DigestGrows", spec := "digestGrows", unfollowed := true, recurses := true, named := ["assize/digest.constants", "assize/digest.places", "assize/digest.turns"], apart := false, laid := [("assize/digest.constants", laid_assize_digest_constants), ("assize/digest.turns", laid_assize_digest_turns), ("assize/digest.places", laid_assize_digest_places)] }
def DigestGrowsSaid : Prop := digestGrowsRow.holds Tryd.pinned (OpenSpec.ofChange digestGrowsSpec)

/-- ITS FALSE NEIGHBOUR: 'it returns false'. Refute it at one input. -/
def digestGrowsWrong : ChangeSpec := { name := "digestGrows", fn := fun _ => fun
  | [d] => { results := [.lit (.bool false)], args := [d] }
  | _ => none }
def DigestGrowsWrongFalsely : Prop := digestGrowsRow.holds Tryd.pinned (OpenSpec.ofChange digestGrowsWrong)

/-- 'assizelaw03.DigestHalves': WHATEVER THE INPUT: true; the input reads as it did. -/
def digestHalvesSpec : ChangeSpec := { name := "digestHalves", fn := fun _ => fun
  | [d] => { results := [.lit (.bool true)], args := [d] }
  | _ => none }
def digestHalvesRow : OpenClaim := { program := "ytbclhieobhfdpaadoor", sum := "df634b843364cdf0f051f4cda1913a2f1029584d6001d9e423d333dcfe7e90ea", func := "assize/assizelaw03.DigestHalves", spec := "digestHalves", unfollowed := true, recurses := true, named := ["assize/digest.constants", "assize/digest.places", "assize/digest.turns"], apart := false, laid := [("assize/digest.constants", laid_assize_digest_constants), ("assize/digest.turns", laid_assize_digest_turns), ("assize/digest.places", laid_assize_digest_places)] }
def DigestHalvesSaid : Prop := digestHalvesRow.holds Tryd.pinned (OpenSpec.ofChange digestHalvesSpec)

/-- ITS FALSE NEIGHBOUR: 'it returns false'. Refute it at one input. -/
def digestHalvesWrong : ChangeSpec := { name := "digestHalves", fn := fun _ => fun
  | [d] => { results := [.lit (.bool false)], args := [d] }
  | _ => none }
def DigestHalvesWrongFalsely : Prop := digestHalvesRow.holds Tryd.pinned (OpenSpec.ofChange digestHalvesWrong)

/- THE SECOND FORM. 'bulk': how many values and letters a reading holds, each counted each time it is reached (what is shared counts as often as it is met; a slice's spare places count too). A statement '..UptoSaid' is the law's where the arguments, and the package variables that the reading takes, are together of bulk at most 1048576: NARROWER than '..Said'. Prove '..Said' where nothing that the law and all that it calls make is longer than what came in: it says more and counts as full. Else prove '..UptoSaid'. A law counts once. -/
mutual
def uptoBulk {H : Type} : DataW H → Nat
  | .lit (.string bytes) => bytes.length + 1
  | .lit _ => 1
  | .nil => 1
  | .ptr d => uptoBulk d + 1
  | .slice elems spare => uptoBulkAll elems + uptoBulkAll spare + 1
  | .agg parts => uptoBulkAll parts + 1
  | .iface _ d => uptoBulk d + 1
  | .map entries => uptoBulkEntries entries + 1
  | .held _ => 1
def uptoBulkAll {H : Type} : List (DataW H) → Nat
  | [] => 0
  | d :: r => uptoBulk d + uptoBulkAll r
def uptoBulkEntries {H : Type} : List (Lit × DataW H) → Nat
  | [] => 0
  | x :: r => uptoBulkEntry x + uptoBulkEntries r
def uptoBulkEntry {H : Type} : Lit × DataW H → Nat
  | (.string bytes, d) => bytes.length + uptoBulk d + 1
  | (_, d) => uptoBulk d + 1
 end
def uptoSmall : (H : Type) → List (DataW H) → Bool := fun _ ds => decide (uptoBulkAll ds ≤ 1048576)
def OpenSpec.upto (s : _root_.Go.ChangeSpec) : _root_.Go.OpenSpec := { _root_.Go.OpenSpec.ofChange s with cond := some uptoSmall }

/-- 'assizelaw03.DigestSumSpec', WHERE WHAT IT READS IS OF BULK AT MOST 1048576: true; the input reads as it did. -/
def digestSumSpecUptoRow : OpenClaim := { program := "ytbclhieobhfdpaadoor", sum := "df634b843364cdf0f051f4cda1913a2f1029584d6001d9e423d333dcfe7e90ea", func := "assize/assizelaw03.DigestSumSpec", spec := "digestSumSpec", unfollowed := true, recurses := true, named := ["assize/digest.constants", "assize/digest.places", "assize/digest.turns"], apart := false, laid := [("assize/digest.constants", laid_assize_digest_constants), ("assize/digest.turns", laid_assize_digest_turns), ("assize/digest.places", laid_assize_digest_places)], narrowed := true }
def DigestSumSpecUptoSaid : Prop := digestSumSpecUptoRow.holds Tryd.pinned (OpenSpec.upto digestSumSpecSpec)

/-- 'assizelaw03.DigestTreeSpec', WHERE WHAT IT READS IS OF BULK AT MOST 1048576: true; the input reads as it did. -/
def digestTreeSpecUptoRow : OpenClaim := { program := "ytbclhieobhfdpaadoor", sum := "df634b843364cdf0f051f4cda1913a2f1029584d6001d9e423d333dcfe7e90ea", func := "assize/assizelaw03.DigestTreeSpec", spec := "digestTreeSpec", unfollowed := true, recurses := true, named := ["assize/digest.constants", "assize/digest.places", "assize/digest.turns"], apart := false, laid := [("assize/digest.constants", laid_assize_digest_constants), ("assize/digest.turns", laid_assize_digest_turns), ("assize/digest.places", laid_assize_digest_places)], narrowed := true }
def DigestTreeSpecUptoSaid : Prop := digestTreeSpecUptoRow.holds Tryd.pinned (OpenSpec.upto digestTreeSpecSpec)

/-- 'assizelaw03.DigestGrowSpec', WHERE WHAT IT READS IS OF BULK AT MOST 1048576: true; the input reads as it did. -/
def digestGrowSpecUptoRow : OpenClaim := { program := "ytbclhieobhfdpaadoor", sum := "df634b843364cdf0f051f4cda1913a2f1029584d6001d9e423d333dcfe7e90ea", func := "assize/assizelaw03.DigestGrowSpec", spec := "digestGrowSpec", unfollowed := true, recurses := true, named := ["assize/digest.constants", "assize/digest.places", "assize/digest.turns"], apart := false, laid := [("assize/digest.constants", laid_assize_digest_constants), ("assize/digest.turns", laid_assize_digest_turns), ("assize/digest.places", laid_assize_digest_places)], narrowed := true }
def DigestGrowSpecUptoSaid : Prop := digestGrowSpecUptoRow.holds Tryd.pinned (OpenSpec.upto digestGrowSpecSpec)

/-- 'assizelaw03.DigestTags', WHERE WHAT IT READS IS OF BULK AT MOST 1048576: true; the input reads as it did. -/
def digestTagsUptoRow : OpenClaim := { program := "ytbclhieobhfdpaadoor", sum := "df634b843364cdf0f051f4cda1913a2f1029584d6001d9e423d333dcfe7e90ea", func := "assize/assizelaw03.DigestTags", spec := "digestTags", unfollowed := true, recurses := true, named := ["assize/digest.constants", "assize/digest.places", "assize/digest.turns"], apart := false, laid := [("assize/digest.constants", laid_assize_digest_constants), ("assize/digest.turns", laid_assize_digest_turns), ("assize/digest.places", laid_assize_digest_places)], narrowed := true }
def DigestTagsUptoSaid : Prop := digestTagsUptoRow.holds Tryd.pinned (OpenSpec.upto digestTagsSpec)

/-- 'assizelaw03.DigestClimbs', WHERE WHAT IT READS IS OF BULK AT MOST 1048576: true; the input reads as it did. -/
def digestClimbsUptoRow : OpenClaim := { program := "ytbclhieobhfdpaadoor", sum := "df634b843364cdf0f051f4cda1913a2f1029584d6001d9e423d333dcfe7e90ea", func := "assize/assizelaw03.DigestClimbs", spec := "digestClimbs", unfollowed := true, recurses := true, named := ["assize/digest.constants", "assize/digest.places", "assize/digest.turns"], apart := false, laid := [("assize/digest.constants", laid_assize_digest_constants), ("assize/digest.turns", laid_assize_digest_turns), ("assize/digest.places", laid_assize_digest_places)], narrowed := true }
def DigestClimbsUptoSaid : Prop := digestClimbsUptoRow.holds Tryd.pinned (OpenSpec.upto digestClimbsSpec)

/-- 'assizelaw03.DigestGrows', WHERE WHAT IT READS IS OF BULK AT MOST 1048576: true; the input reads as it did. -/
def digestGrowsUptoRow : OpenClaim := { program := "ytbclhieobhfdpaadoor", sum := "df634b843364cdf0f051f4cda1913a2f1029584d6001d9e423d333dcfe7e90ea", func := "assize/assizelaw03.DigestGrows", spec := "digestGrows", unfollowed := true, recurses := true, named := ["assize/digest.constants", "assize/digest.places", "assize/digest.turns"], apart := false, laid := [("assize/digest.constants", laid_assize_digest_constants), ("assize/digest.turns", laid_assize_digest_turns), ("assize/digest.places", laid_assize_digest_places)], narrowed := true }
def DigestGrowsUptoSaid : Prop := digestGrowsUptoRow.holds Tryd.pinned (OpenSpec.upto digestGrowsSpec)

/-- 'assizelaw03.DigestHalves', WHERE WHAT IT READS IS OF BULK AT MOST 1048576: true; the input reads as it did. -/
def digestHalvesUptoRow : OpenClaim := { program := "ytbclhieobhfdpaadoor", sum := "df634b843364cdf0f051f4cda1913a2f1029584d6001d9e423d333dcfe7e90ea", func := "assize/assizelaw03.DigestHalves", spec := "digestHalves", unfollowed := true, recurses := true, named := ["assize/digest.constants", "assize/digest.places", "assize/digest.turns"], apart := false, laid := [("assize/digest.constants", laid_assize_digest_constants), ("assize/digest.turns", laid_assize_digest_turns), ("assize/digest.places", laid_assize_digest_places)], narrowed := true }
def DigestHalvesUptoSaid : Prop := digestHalvesUptoRow.holds Tryd.pinned (OpenSpec.upto digestHalvesSpec)

end Rows
end Go.Proofs.YtbclhieobhfdpaaDoor
