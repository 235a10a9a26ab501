/-
  DERIVED. GIVEN WITH THE SEED: THE CARDS: each row of YtbclhieobhfdpaaDoorRows.lean that lists a variable, with what it lists TIED to the program's text (the seventh form; the later family's looks); each row that meets fmt, with fmt's text TOLD by the authors' own Lean function (tested against real Go, not proved from fmt's source: count such statements apart). THE CARD IS WHAT COUNTS. Prove the row's statement (the work); the ties are given (YtbclhieobhfdpaaDoorTie.lean); close each card by the builder's one call (the guide's Derived/Test/ToyasCard.lean, 'card_holds'). Laid BY PROGRAM, IN A SANDBOX (cutbox-door.mjs). By AI agents, Wed Nov 11 2026. No macro, syntax, notation, axiom, sorry.
-/
import Derived.Test.YtbclhieobhfdpaaDoorRows
import GoSem.ClaimSeven
namespace Go.Proofs.YtbclhieobhfdpaaDoor
namespace Rows

/-- THE TIED CARD OF 'assizelaw03.DigestSumSpec'. -/
def digestSumSpecCard : Claim7 := { stood := { row := digestSumSpecRow, standIns := [], harness := (true, "aa756d06130611fe64cb56accf6cfab820b1d466d32b195d967c46fdf1a6a38f"), looks := false }, kinds := [], alts := [], laidByText := true, laidKinds := [.data, .data, .data], laidTests := true, laidLooks := .later }
def DigestSumSpecCardSaid : Prop := Claim7.holds Tryd.pinned (.plain (OpenSpec.ofChange digestSumSpecSpec)) digestSumSpecCard

/-- THE TIED CARD OF 'assizelaw03.DigestTreeSpec'. -/
def digestTreeSpecCard : Claim7 := { stood := { row := digestTreeSpecRow, standIns := [], harness := (true, "aa756d06130611fe64cb56accf6cfab820b1d466d32b195d967c46fdf1a6a38f"), looks := false }, kinds := [], alts := [], laidByText := true, laidKinds := [.data, .data, .data], laidTests := true, laidLooks := .later }
def DigestTreeSpecCardSaid : Prop := Claim7.holds Tryd.pinned (.plain (OpenSpec.ofChange digestTreeSpecSpec)) digestTreeSpecCard

/-- THE TIED CARD OF 'assizelaw03.DigestGrowSpec'. -/
def digestGrowSpecCard : Claim7 := { stood := { row := digestGrowSpecRow, standIns := [], harness := (true, "aa756d06130611fe64cb56accf6cfab820b1d466d32b195d967c46fdf1a6a38f"), looks := false }, kinds := [], alts := [], laidByText := true, laidKinds := [.data, .data, .data], laidTests := true, laidLooks := .later }
def DigestGrowSpecCardSaid : Prop := Claim7.holds Tryd.pinned (.plain (OpenSpec.ofChange digestGrowSpecSpec)) digestGrowSpecCard

/-- THE TIED CARD OF 'assizelaw03.DigestTags'. -/
def digestTagsCard : Claim7 := { stood := { row := digestTagsRow, standIns := [], harness := (true, "aa756d06130611fe64cb56accf6cfab820b1d466d32b195d967c46fdf1a6a38f"), looks := false }, kinds := [], alts := [], laidByText := true, laidKinds := [.data, .data, .data], laidTests := true, laidLooks := .later }
def DigestTagsCardSaid : Prop := Claim7.holds Tryd.pinned (.plain (OpenSpec.ofChange digestTagsSpec)) digestTagsCard

/-- THE TIED CARD OF 'assizelaw03.DigestClimbs'. -/
def digestClimbsCard : Claim7 := { stood := { row := digestClimbsRow, standIns := [], harness := (true, "aa756d06130611fe64cb56accf6cfab820b1d466d32b195d967c46fdf1a6a38f"), looks := false }, kinds := [], alts := [], laidByText := true, laidKinds := [.data, .data, .data], laidTests := true, laidLooks := .later }
def DigestClimbsCardSaid : Prop := Claim7.holds Tryd.pinned (.plain (OpenSpec.ofChange digestClimbsSpec)) digestClimbsCard

/-- THE TIED CARD OF 'assizelaw03.DigestGrows'. -/
def digestGrowsCard : Claim7 := { stood := { row := digestGrowsRow, standIns := [], harness := (true, "aa756d06130611fe64cb56accf6cfab820b1d466d32b195d967c46fdf1a6a38f"), looks := false }, kinds := [], alts := [], laidByText := true, laidKinds := [.data, .data, .data], laidTests := true, laidLooks := .later }
def DigestGrowsCardSaid : Prop := Claim7.holds Tryd.pinned (.plain (OpenSpec.ofChange digestGrowsSpec)) digestGrowsCard

/-- THE TIED CARD OF 'assizelaw03.DigestHalves'. -/
def digestHalvesCard : Claim7 := { stood := { row := digestHalvesRow, standIns := [], harness := (true, "aa756d06130611fe64cb56accf6cfab820b1d466d32b195d967c46fdf1a6a38f"), looks := false }, kinds := [], alts := [], laidByText := true, laidKinds := [.data, .data, .data], laidTests := true, laidLooks := .later }
def DigestHalvesCardSaid : Prop := Claim7.holds Tryd.pinned (.plain (OpenSpec.ofChange digestHalvesSpec)) digestHalvesCard

/-- THE SECOND FORM's CARD OF 'assizelaw03.DigestSumSpec'. -/
def digestSumSpecUptoCard : Claim7 := { stood := { row := digestSumSpecUptoRow, standIns := [], harness := (true, "aa756d06130611fe64cb56accf6cfab820b1d466d32b195d967c46fdf1a6a38f"), looks := false }, kinds := [], alts := [], laidByText := true, laidKinds := [.data, .data, .data], laidTests := true, laidLooks := .later }
def DigestSumSpecUptoCardSaid : Prop := Claim7.holds Tryd.pinned (.plain (OpenSpec.upto digestSumSpecSpec)) digestSumSpecUptoCard

/-- THE SECOND FORM's CARD OF 'assizelaw03.DigestTreeSpec'. -/
def digestTreeSpecUptoCard : Claim7 := { stood := { row := digestTreeSpecUptoRow, standIns := [], harness := (true, "aa756d06130611fe64cb56accf6cfab820b1d466d32b195d967c46fdf1a6a38f"), looks := false }, kinds := [], alts := [], laidByText := true, laidKinds := [.data, .data, .data], laidTests := true, laidLooks := .later }
def DigestTreeSpecUptoCardSaid : Prop := Claim7.holds Tryd.pinned (.plain (OpenSpec.upto digestTreeSpecSpec)) digestTreeSpecUptoCard

/-- THE SECOND FORM's CARD OF 'assizelaw03.DigestGrowSpec'. -/
def digestGrowSpecUptoCard : Claim7 := { stood := { row := digestGrowSpecUptoRow, standIns := [], harness := (true, "aa756d06130611fe64cb56accf6cfab820b1d466d32b195d967c46fdf1a6a38f"), looks := false }, kinds := [], alts := [], laidByText := true, laidKinds := [.data, .data, .data], laidTests := true, laidLooks := .later }
def DigestGrowSpecUptoCardSaid : Prop := Claim7.holds Tryd.pinned (.plain (OpenSpec.upto digestGrowSpecSpec)) digestGrowSpecUptoCard

/-- THE SECOND FORM's CARD OF 'assizelaw03.DigestTags'. -/
def digestTagsUptoCard : Claim7 := { stood := { row := digestTagsUptoRow, standIns := [], harness := (true, "aa756d06130611fe64cb56accf6cfab820b1d466d32b195d967c46fdf1a6a38f"), looks := false }, kinds := [], alts := [], laidByText := true, laidKinds := [.data, .data, .data], laidTests := true, laidLooks := .later }
def DigestTagsUptoCardSaid : Prop := Claim7.holds Tryd.pinned (.plain (OpenSpec.upto digestTagsSpec)) digestTagsUptoCard

/-- THE SECOND FORM's CARD OF 'assizelaw03.DigestClimbs'. -/
def digestClimbsUptoCard : Claim7 := { stood := { row := digestClimbsUptoRow, standIns := [], harness := (true, "aa756d06130611fe64cb56accf6cfab820b1d466d32b195d967c46fdf1a6a38f"), looks := false }, kinds := [], alts := [], laidByText := true, laidKinds := [.data, .data, .data], laidTests := true, laidLooks := .later }
def DigestClimbsUptoCardSaid : Prop := Claim7.holds Tryd.pinned (.plain (OpenSpec.upto digestClimbsSpec)) digestClimbsUptoCard

/-- THE SECOND FORM's CARD OF 'assizelaw03.DigestGrows'. -/
def digestGrowsUptoCard : Claim7 := { stood := { row := digestGrowsUptoRow, standIns := [], harness := (true, "aa756d06130611fe64cb56accf6cfab820b1d466d32b195d967c46fdf1a6a38f"), looks := false }, kinds := [], alts := [], laidByText := true, laidKinds := [.data, .data, .data], laidTests := true, laidLooks := .later }
def DigestGrowsUptoCardSaid : Prop := Claim7.holds Tryd.pinned (.plain (OpenSpec.upto digestGrowsSpec)) digestGrowsUptoCard

/-- THE SECOND FORM's CARD OF 'assizelaw03.DigestHalves'. -/
def digestHalvesUptoCard : Claim7 := { stood := { row := digestHalvesUptoRow, standIns := [], harness := (true, "aa756d06130611fe64cb56accf6cfab820b1d466d32b195d967c46fdf1a6a38f"), looks := false }, kinds := [], alts := [], laidByText := true, laidKinds := [.data, .data, .data], laidTests := true, laidLooks := .later }
def DigestHalvesUptoCardSaid : Prop := Claim7.holds Tryd.pinned (.plain (OpenSpec.upto digestHalvesSpec)) digestHalvesUptoCard
end Rows
end Go.Proofs.YtbclhieobhfdpaaDoor
