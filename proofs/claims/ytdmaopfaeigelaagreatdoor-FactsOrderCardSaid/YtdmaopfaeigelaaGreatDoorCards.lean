/-
  DERIVED. GIVEN WITH THE SEED: THE CARDS: each row of YtdmaopfaeigelaaGreatDoorRows.lean that lists a variable, with what it lists TIED to the program's text (the seventh form; the later family's looks); each row that meets fmt, with fmt's text TOLD by the authors' own Lean function (tested against real Go, not proved from fmt's source: count such statements apart). THE CARD IS WHAT COUNTS. Prove the row's statement (the work); the ties are given (YtdmaopfaeigelaaGreatDoorTie.lean); close each card by the builder's one call (the guide's Derived/Test/ToyasCard.lean, 'card_holds'). Laid BY PROGRAM, IN A SANDBOX (cutbox-door.mjs). By AI agents, Wed Nov 11 2026. No macro, syntax, notation, axiom, sorry.
-/
import Derived.Test.YtdmaopfaeigelaaGreatDoorRows
import GoSem.ClaimSeven
namespace Go.Proofs.YtdmaopfaeigelaaGreatDoor
namespace Rows

/-- THE TIED CARD OF 'assizelaw07.FactsCheckSpec'. -/
def factsCheckSpecCard : Claim7 := { stood := { row := factsCheckSpecRow, standIns := [], harness := (true, "5c22c29390eb2d71352352ca1ef7d6eba098e7ce25f33d172b895f83f44cbe5a"), looks := true }, kinds := [], alts := [], laidByText := true, laidKinds := [.data, .data, .data, .sentinel, .sentinel], laidTests := true, laidLooks := .later }
def FactsCheckSpecCardSaid : Prop := Claim7.holds Tryz.pinned (.plain (OpenSpec.ofChange factsCheckSpecSpec)) factsCheckSpecCard

/-- THE TIED CARD OF 'assizelaw07.FactsEncodeSpec'. -/
def factsEncodeSpecCard : Claim7 := { stood := { row := factsEncodeSpecRow, standIns := [], harness := (true, "5c22c29390eb2d71352352ca1ef7d6eba098e7ce25f33d172b895f83f44cbe5a"), looks := true }, kinds := [], alts := [], laidByText := true, laidKinds := [.data, .data, .data, .data, .data, .data, .sentinel, .sentinel], laidTests := true, laidLooks := .later }
def FactsEncodeSpecCardSaid : Prop := Claim7.holds Tryz.pinned (.plain (OpenSpec.ofChange factsEncodeSpecSpec)) factsEncodeSpecCard

/-- THE TIED CARD OF 'assizelaw07.FactsDecodeSpec'. -/
def factsDecodeSpecCard : Claim7 := { stood := { row := factsDecodeSpecRow, standIns := [], harness := (true, "5c22c29390eb2d71352352ca1ef7d6eba098e7ce25f33d172b895f83f44cbe5a"), looks := true }, kinds := [], alts := [], laidByText := true, laidKinds := [.data, .data, .data, .sentinel, .sentinel], laidTests := true, laidLooks := .later }
def FactsDecodeSpecCardSaid : Prop := Claim7.holds Tryz.pinned (.plain (OpenSpec.ofChange factsDecodeSpecSpec)) factsDecodeSpecCard

/-- THE TIED CARD OF 'assizelaw07.FactsCompareSpec'. -/
def factsCompareSpecCard : Claim7 := { stood := { row := factsCompareSpecRow, standIns := [], harness := (true, "5c22c29390eb2d71352352ca1ef7d6eba098e7ce25f33d172b895f83f44cbe5a"), looks := true }, kinds := [], alts := [], laidByText := true, laidKinds := [.data, .data, .data, .sentinel, .sentinel], laidTests := true, laidLooks := .later }
def FactsCompareSpecCardSaid : Prop := Claim7.holds Tryz.pinned (.plain (OpenSpec.ofChange factsCompareSpecSpec)) factsCompareSpecCard

/-- THE TIED CARD OF 'assizelaw07.FactsRoundTrip'. -/
def factsRoundTripCard : Claim7 := { stood := { row := factsRoundTripRow, standIns := [], harness := (true, "5c22c29390eb2d71352352ca1ef7d6eba098e7ce25f33d172b895f83f44cbe5a"), looks := true }, kinds := [], alts := [], laidByText := true, laidKinds := [.data, .data, .data, .sentinel, .sentinel], laidTests := true, laidLooks := .later }
def FactsRoundTripCardSaid : Prop := Claim7.holds Tryz.pinned (.plain (OpenSpec.ofChange factsRoundTripSpec)) factsRoundTripCard

/-- THE TIED CARD OF 'assizelaw07.FactsOrder'. -/
def factsOrderCard : Claim7 := { stood := { row := factsOrderRow, standIns := [], harness := (true, "5c22c29390eb2d71352352ca1ef7d6eba098e7ce25f33d172b895f83f44cbe5a"), looks := true }, kinds := [], alts := [], laidByText := true, laidKinds := [.data, .data, .data, .sentinel, .sentinel], laidTests := true, laidLooks := .later }
def FactsOrderCardSaid : Prop := Claim7.holds Tryz.pinned (.plain (OpenSpec.ofChange factsOrderSpec)) factsOrderCard

/-- THE TIED CARD OF 'assizelaw07.FactsIdentified'. -/
def factsIdentifiedCard : Claim7 := { stood := { row := factsIdentifiedRow, standIns := [], harness := (true, "5c22c29390eb2d71352352ca1ef7d6eba098e7ce25f33d172b895f83f44cbe5a"), looks := true }, kinds := [], alts := [], laidByText := true, laidKinds := [.data, .data, .data, .data, .data, .data, .sentinel, .sentinel], laidTests := true, laidLooks := .later }
def FactsIdentifiedCardSaid : Prop := Claim7.holds Tryz.pinned (.plain (OpenSpec.ofChange factsIdentifiedSpec)) factsIdentifiedCard

/-- THE TIED CARD OF 'assizelaw07.FactsOnly'. -/
def factsOnlyCard : Claim7 := { stood := { row := factsOnlyRow, standIns := [], harness := (true, "5c22c29390eb2d71352352ca1ef7d6eba098e7ce25f33d172b895f83f44cbe5a"), looks := true }, kinds := [], alts := [], laidByText := true, laidKinds := [.data, .data, .data, .sentinel, .sentinel], laidTests := true, laidLooks := .later }
def FactsOnlyCardSaid : Prop := Claim7.holds Tryz.pinned (.plain (OpenSpec.ofChange factsOnlySpec)) factsOnlyCard

/-- THE SECOND FORM's CARD OF 'assizelaw07.FactsCheckSpec'. -/
def factsCheckSpecUptoCard : Claim7 := { stood := { row := factsCheckSpecUptoRow, standIns := [], harness := (true, "5c22c29390eb2d71352352ca1ef7d6eba098e7ce25f33d172b895f83f44cbe5a"), looks := true }, kinds := [], alts := [], laidByText := true, laidKinds := [.data, .data, .data, .sentinel, .sentinel], laidTests := true, laidLooks := .later }
def FactsCheckSpecUptoCardSaid : Prop := Claim7.holds Tryz.pinned (.plain (OpenSpec.upto factsCheckSpecSpec)) factsCheckSpecUptoCard

/-- THE SECOND FORM's CARD OF 'assizelaw07.FactsEncodeSpec'. -/
def factsEncodeSpecUptoCard : Claim7 := { stood := { row := factsEncodeSpecUptoRow, standIns := [], harness := (true, "5c22c29390eb2d71352352ca1ef7d6eba098e7ce25f33d172b895f83f44cbe5a"), looks := true }, kinds := [], alts := [], laidByText := true, laidKinds := [.data, .data, .data, .data, .data, .data, .sentinel, .sentinel], laidTests := true, laidLooks := .later }
def FactsEncodeSpecUptoCardSaid : Prop := Claim7.holds Tryz.pinned (.plain (OpenSpec.upto factsEncodeSpecSpec)) factsEncodeSpecUptoCard

/-- THE SECOND FORM's CARD OF 'assizelaw07.FactsDecodeSpec'. -/
def factsDecodeSpecUptoCard : Claim7 := { stood := { row := factsDecodeSpecUptoRow, standIns := [], harness := (true, "5c22c29390eb2d71352352ca1ef7d6eba098e7ce25f33d172b895f83f44cbe5a"), looks := true }, kinds := [], alts := [], laidByText := true, laidKinds := [.data, .data, .data, .sentinel, .sentinel], laidTests := true, laidLooks := .later }
def FactsDecodeSpecUptoCardSaid : Prop := Claim7.holds Tryz.pinned (.plain (OpenSpec.upto factsDecodeSpecSpec)) factsDecodeSpecUptoCard

/-- THE SECOND FORM's CARD OF 'assizelaw07.FactsCompareSpec'. -/
def factsCompareSpecUptoCard : Claim7 := { stood := { row := factsCompareSpecUptoRow, standIns := [], harness := (true, "5c22c29390eb2d71352352ca1ef7d6eba098e7ce25f33d172b895f83f44cbe5a"), looks := true }, kinds := [], alts := [], laidByText := true, laidKinds := [.data, .data, .data, .sentinel, .sentinel], laidTests := true, laidLooks := .later }
def FactsCompareSpecUptoCardSaid : Prop := Claim7.holds Tryz.pinned (.plain (OpenSpec.upto factsCompareSpecSpec)) factsCompareSpecUptoCard

/-- THE SECOND FORM's CARD OF 'assizelaw07.FactsRoundTrip'. -/
def factsRoundTripUptoCard : Claim7 := { stood := { row := factsRoundTripUptoRow, standIns := [], harness := (true, "5c22c29390eb2d71352352ca1ef7d6eba098e7ce25f33d172b895f83f44cbe5a"), looks := true }, kinds := [], alts := [], laidByText := true, laidKinds := [.data, .data, .data, .sentinel, .sentinel], laidTests := true, laidLooks := .later }
def FactsRoundTripUptoCardSaid : Prop := Claim7.holds Tryz.pinned (.plain (OpenSpec.upto factsRoundTripSpec)) factsRoundTripUptoCard

/-- THE SECOND FORM's CARD OF 'assizelaw07.FactsOrder'. -/
def factsOrderUptoCard : Claim7 := { stood := { row := factsOrderUptoRow, standIns := [], harness := (true, "5c22c29390eb2d71352352ca1ef7d6eba098e7ce25f33d172b895f83f44cbe5a"), looks := true }, kinds := [], alts := [], laidByText := true, laidKinds := [.data, .data, .data, .sentinel, .sentinel], laidTests := true, laidLooks := .later }
def FactsOrderUptoCardSaid : Prop := Claim7.holds Tryz.pinned (.plain (OpenSpec.upto factsOrderSpec)) factsOrderUptoCard

/-- THE SECOND FORM's CARD OF 'assizelaw07.FactsIdentified'. -/
def factsIdentifiedUptoCard : Claim7 := { stood := { row := factsIdentifiedUptoRow, standIns := [], harness := (true, "5c22c29390eb2d71352352ca1ef7d6eba098e7ce25f33d172b895f83f44cbe5a"), looks := true }, kinds := [], alts := [], laidByText := true, laidKinds := [.data, .data, .data, .data, .data, .data, .sentinel, .sentinel], laidTests := true, laidLooks := .later }
def FactsIdentifiedUptoCardSaid : Prop := Claim7.holds Tryz.pinned (.plain (OpenSpec.upto factsIdentifiedSpec)) factsIdentifiedUptoCard

/-- THE SECOND FORM's CARD OF 'assizelaw07.FactsOnly'. -/
def factsOnlyUptoCard : Claim7 := { stood := { row := factsOnlyUptoRow, standIns := [], harness := (true, "5c22c29390eb2d71352352ca1ef7d6eba098e7ce25f33d172b895f83f44cbe5a"), looks := true }, kinds := [], alts := [], laidByText := true, laidKinds := [.data, .data, .data, .sentinel, .sentinel], laidTests := true, laidLooks := .later }
def FactsOnlyUptoCardSaid : Prop := Claim7.holds Tryz.pinned (.plain (OpenSpec.upto factsOnlySpec)) factsOnlyUptoCard
end Rows
end Go.Proofs.YtdmaopfaeigelaaGreatDoor
