/-
  DERIVED. GIVEN WITH THE SEED: THE CARDS: each row of YtceppmajbkmbdaaDoorRows.lean that lists a variable, with what it lists TIED to the program's text (the seventh form; the later family's looks); each row that meets fmt, with fmt's text TOLD by the authors' own Lean function (tested against real Go, not proved from fmt's source: count such statements apart). THE CARD IS WHAT COUNTS. Prove the row's statement (the work); the ties are given (YtceppmajbkmbdaaDoorTie.lean); close each card by the builder's one call (the guide's Derived/Test/ToyasCard.lean, 'card_holds'). Laid BY PROGRAM, IN A SANDBOX (cutbox-door.mjs). By AI agents, Wed Nov 11 2026. No macro, syntax, notation, axiom, sorry.
-/
import Derived.Test.YtceppmajbkmbdaaDoorRows
import GoSem.ClaimSeven
namespace Go.Proofs.YtceppmajbkmbdaaDoor
namespace Rows

/-- THE TIED CARD OF 'assizelaw03.DigestTreeSpec'. -/
def digestTreeSpecCard : Claim7 := { stood := { row := digestTreeSpecRow, standIns := [], harness := (true, "9f2107fc6c713f03e1e3ab237b59f19dfbc4860e68adc7740b485e759a3280fa"), looks := false }, kinds := [], alts := [], laidByText := true, laidKinds := [.data, .data, .data], laidTests := true, laidLooks := .later }
def DigestTreeSpecCardSaid : Prop := Claim7.holds Tryd.pinned (.plain (OpenSpec.ofChange digestTreeSpecSpec)) digestTreeSpecCard

/-- THE TIED CARD OF 'assizelaw03.DigestGrowSpec'. -/
def digestGrowSpecCard : Claim7 := { stood := { row := digestGrowSpecRow, standIns := [], harness := (true, "9f2107fc6c713f03e1e3ab237b59f19dfbc4860e68adc7740b485e759a3280fa"), looks := false }, kinds := [], alts := [], laidByText := true, laidKinds := [.data, .data, .data], laidTests := true, laidLooks := .later }
def DigestGrowSpecCardSaid : Prop := Claim7.holds Tryd.pinned (.plain (OpenSpec.ofChange digestGrowSpecSpec)) digestGrowSpecCard

/-- THE TIED CARD OF 'assizelaw04.SigningKeySpec'. -/
def signingKeySpecCard : Claim7 := { stood := { row := signingKeySpecRow, standIns := [], harness := (true, "9f2107fc6c713f03e1e3ab237b59f19dfbc4860e68adc7740b485e759a3280fa"), looks := false }, kinds := [], alts := [], laidByText := true, laidKinds := [.data, .data, .data], laidTests := true, laidLooks := .later }
def SigningKeySpecCardSaid : Prop := Claim7.holds Tryd.pinned (.plain (OpenSpec.ofChange signingKeySpecSpec)) signingKeySpecCard

/-- THE TIED CARD OF 'assizelaw04.SigningSignSpec'. -/
def signingSignSpecCard : Claim7 := { stood := { row := signingSignSpecRow, standIns := [], harness := (true, "9f2107fc6c713f03e1e3ab237b59f19dfbc4860e68adc7740b485e759a3280fa"), looks := false }, kinds := [], alts := [], laidByText := true, laidKinds := [.data, .data, .data], laidTests := true, laidLooks := .later }
def SigningSignSpecCardSaid : Prop := Claim7.holds Tryd.pinned (.plain (OpenSpec.ofChange signingSignSpecSpec)) signingSignSpecCard

/-- THE TIED CARD OF 'assizelaw04.SigningVerifySpec'. -/
def signingVerifySpecCard : Claim7 := { stood := { row := signingVerifySpecRow, standIns := [], harness := (true, "9f2107fc6c713f03e1e3ab237b59f19dfbc4860e68adc7740b485e759a3280fa"), looks := false }, kinds := [], alts := [], laidByText := true, laidKinds := [.data, .data, .data], laidTests := true, laidLooks := .later }
def SigningVerifySpecCardSaid : Prop := Claim7.holds Tryd.pinned (.plain (OpenSpec.ofChange signingVerifySpecSpec)) signingVerifySpecCard

/-- THE TIED CARD OF 'assizelaw04.SigningVerifies'. -/
def signingVerifiesCard : Claim7 := { stood := { row := signingVerifiesRow, standIns := [], harness := (true, "9f2107fc6c713f03e1e3ab237b59f19dfbc4860e68adc7740b485e759a3280fa"), looks := false }, kinds := [], alts := [], laidByText := true, laidKinds := [.data, .data, .data], laidTests := true, laidLooks := .later }
def SigningVerifiesCardSaid : Prop := Claim7.holds Tryd.pinned (.plain (OpenSpec.ofChange signingVerifiesSpec)) signingVerifiesCard

/-- THE TIED CARD OF 'assizelaw04.SigningOrder'. -/
def signingOrderCard : Claim7 := { stood := { row := signingOrderRow, standIns := [], harness := (true, "9f2107fc6c713f03e1e3ab237b59f19dfbc4860e68adc7740b485e759a3280fa"), looks := false }, kinds := [], alts := [], laidByText := true, laidKinds := [.data, .data, .data], laidTests := true, laidLooks := .later }
def SigningOrderCardSaid : Prop := Claim7.holds Tryd.pinned (.plain (OpenSpec.ofChange signingOrderSpec)) signingOrderCard

/-- THE TIED CARD OF 'assizelaw04.SigningOpens'. -/
def signingOpensCard : Claim7 := { stood := { row := signingOpensRow, standIns := [], harness := (true, "9f2107fc6c713f03e1e3ab237b59f19dfbc4860e68adc7740b485e759a3280fa"), looks := false }, kinds := [], alts := [], laidByText := true, laidKinds := [.data, .data, .data], laidTests := true, laidLooks := .later }
def SigningOpensCardSaid : Prop := Claim7.holds Tryd.pinned (.plain (OpenSpec.ofChange signingOpensSpec)) signingOpensCard

/-- THE TIED CARD OF 'assizelaw04.SigningBits'. -/
def signingBitsCard : Claim7 := { stood := { row := signingBitsRow, standIns := [], harness := (true, "9f2107fc6c713f03e1e3ab237b59f19dfbc4860e68adc7740b485e759a3280fa"), looks := false }, kinds := [], alts := [], laidByText := true, laidKinds := [.data, .data, .data], laidTests := true, laidLooks := .later }
def SigningBitsCardSaid : Prop := Claim7.holds Tryd.pinned (.plain (OpenSpec.ofChange signingBitsSpec)) signingBitsCard

/-- THE TIED CARD OF 'assizelaw04.SigningShape'. -/
def signingShapeCard : Claim7 := { stood := { row := signingShapeRow, standIns := [], harness := (true, "9f2107fc6c713f03e1e3ab237b59f19dfbc4860e68adc7740b485e759a3280fa"), looks := false }, kinds := [], alts := [], laidByText := true, laidKinds := [.data, .data, .data], laidTests := true, laidLooks := .later }
def SigningShapeCardSaid : Prop := Claim7.holds Tryd.pinned (.plain (OpenSpec.ofChange signingShapeSpec)) signingShapeCard

/-- THE SECOND FORM's CARD OF 'assizelaw03.DigestTreeSpec'. -/
def digestTreeSpecUptoCard : Claim7 := { stood := { row := digestTreeSpecUptoRow, standIns := [], harness := (true, "9f2107fc6c713f03e1e3ab237b59f19dfbc4860e68adc7740b485e759a3280fa"), looks := false }, kinds := [], alts := [], laidByText := true, laidKinds := [.data, .data, .data], laidTests := true, laidLooks := .later }
def DigestTreeSpecUptoCardSaid : Prop := Claim7.holds Tryd.pinned (.plain (OpenSpec.upto digestTreeSpecSpec)) digestTreeSpecUptoCard

/-- THE SECOND FORM's CARD OF 'assizelaw03.DigestGrowSpec'. -/
def digestGrowSpecUptoCard : Claim7 := { stood := { row := digestGrowSpecUptoRow, standIns := [], harness := (true, "9f2107fc6c713f03e1e3ab237b59f19dfbc4860e68adc7740b485e759a3280fa"), looks := false }, kinds := [], alts := [], laidByText := true, laidKinds := [.data, .data, .data], laidTests := true, laidLooks := .later }
def DigestGrowSpecUptoCardSaid : Prop := Claim7.holds Tryd.pinned (.plain (OpenSpec.upto digestGrowSpecSpec)) digestGrowSpecUptoCard

/-- THE SECOND FORM's CARD OF 'assizelaw04.SigningKeySpec'. -/
def signingKeySpecUptoCard : Claim7 := { stood := { row := signingKeySpecUptoRow, standIns := [], harness := (true, "9f2107fc6c713f03e1e3ab237b59f19dfbc4860e68adc7740b485e759a3280fa"), looks := false }, kinds := [], alts := [], laidByText := true, laidKinds := [.data, .data, .data], laidTests := true, laidLooks := .later }
def SigningKeySpecUptoCardSaid : Prop := Claim7.holds Tryd.pinned (.plain (OpenSpec.upto signingKeySpecSpec)) signingKeySpecUptoCard

/-- THE SECOND FORM's CARD OF 'assizelaw04.SigningSignSpec'. -/
def signingSignSpecUptoCard : Claim7 := { stood := { row := signingSignSpecUptoRow, standIns := [], harness := (true, "9f2107fc6c713f03e1e3ab237b59f19dfbc4860e68adc7740b485e759a3280fa"), looks := false }, kinds := [], alts := [], laidByText := true, laidKinds := [.data, .data, .data], laidTests := true, laidLooks := .later }
def SigningSignSpecUptoCardSaid : Prop := Claim7.holds Tryd.pinned (.plain (OpenSpec.upto signingSignSpecSpec)) signingSignSpecUptoCard

/-- THE SECOND FORM's CARD OF 'assizelaw04.SigningVerifySpec'. -/
def signingVerifySpecUptoCard : Claim7 := { stood := { row := signingVerifySpecUptoRow, standIns := [], harness := (true, "9f2107fc6c713f03e1e3ab237b59f19dfbc4860e68adc7740b485e759a3280fa"), looks := false }, kinds := [], alts := [], laidByText := true, laidKinds := [.data, .data, .data], laidTests := true, laidLooks := .later }
def SigningVerifySpecUptoCardSaid : Prop := Claim7.holds Tryd.pinned (.plain (OpenSpec.upto signingVerifySpecSpec)) signingVerifySpecUptoCard

/-- THE SECOND FORM's CARD OF 'assizelaw04.SigningVerifies'. -/
def signingVerifiesUptoCard : Claim7 := { stood := { row := signingVerifiesUptoRow, standIns := [], harness := (true, "9f2107fc6c713f03e1e3ab237b59f19dfbc4860e68adc7740b485e759a3280fa"), looks := false }, kinds := [], alts := [], laidByText := true, laidKinds := [.data, .data, .data], laidTests := true, laidLooks := .later }
def SigningVerifiesUptoCardSaid : Prop := Claim7.holds Tryd.pinned (.plain (OpenSpec.upto signingVerifiesSpec)) signingVerifiesUptoCard

/-- THE SECOND FORM's CARD OF 'assizelaw04.SigningOrder'. -/
def signingOrderUptoCard : Claim7 := { stood := { row := signingOrderUptoRow, standIns := [], harness := (true, "9f2107fc6c713f03e1e3ab237b59f19dfbc4860e68adc7740b485e759a3280fa"), looks := false }, kinds := [], alts := [], laidByText := true, laidKinds := [.data, .data, .data], laidTests := true, laidLooks := .later }
def SigningOrderUptoCardSaid : Prop := Claim7.holds Tryd.pinned (.plain (OpenSpec.upto signingOrderSpec)) signingOrderUptoCard

/-- THE SECOND FORM's CARD OF 'assizelaw04.SigningOpens'. -/
def signingOpensUptoCard : Claim7 := { stood := { row := signingOpensUptoRow, standIns := [], harness := (true, "9f2107fc6c713f03e1e3ab237b59f19dfbc4860e68adc7740b485e759a3280fa"), looks := false }, kinds := [], alts := [], laidByText := true, laidKinds := [.data, .data, .data], laidTests := true, laidLooks := .later }
def SigningOpensUptoCardSaid : Prop := Claim7.holds Tryd.pinned (.plain (OpenSpec.upto signingOpensSpec)) signingOpensUptoCard

/-- THE SECOND FORM's CARD OF 'assizelaw04.SigningBits'. -/
def signingBitsUptoCard : Claim7 := { stood := { row := signingBitsUptoRow, standIns := [], harness := (true, "9f2107fc6c713f03e1e3ab237b59f19dfbc4860e68adc7740b485e759a3280fa"), looks := false }, kinds := [], alts := [], laidByText := true, laidKinds := [.data, .data, .data], laidTests := true, laidLooks := .later }
def SigningBitsUptoCardSaid : Prop := Claim7.holds Tryd.pinned (.plain (OpenSpec.upto signingBitsSpec)) signingBitsUptoCard

/-- THE SECOND FORM's CARD OF 'assizelaw04.SigningShape'. -/
def signingShapeUptoCard : Claim7 := { stood := { row := signingShapeUptoRow, standIns := [], harness := (true, "9f2107fc6c713f03e1e3ab237b59f19dfbc4860e68adc7740b485e759a3280fa"), looks := false }, kinds := [], alts := [], laidByText := true, laidKinds := [.data, .data, .data], laidTests := true, laidLooks := .later }
def SigningShapeUptoCardSaid : Prop := Claim7.holds Tryd.pinned (.plain (OpenSpec.upto signingShapeSpec)) signingShapeUptoCard
end Rows
end Go.Proofs.YtceppmajbkmbdaaDoor
