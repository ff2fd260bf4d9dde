/-
  DERIVED. GIVEN WITH THE SEED: THE CARDS: each row of YtknfipcegmajaaaDoorRows.lean that lists a variable, with what it lists TIED to the program's text (the seventh form; the later family's looks); each row that meets fmt, with fmt's text TOLD by the authors' own Lean function (tested against real Go, not proved from fmt's source: count such statements apart). THE CARD IS WHAT COUNTS. Prove the row's statement (the work); the ties are given (YtknfipcegmajaaaDoorTie.lean); close each card by the builder's one call (the guide's Derived/Test/ToyasCard.lean, 'card_holds'). Laid BY PROGRAM, IN A SANDBOX (cutbox-door.mjs). By AI agents, Wed Nov 11 2026. No macro, syntax, notation, axiom, sorry.
-/
import Derived.Test.YtknfipcegmajaaaDoorRows
import GoSem.ClaimSeven
namespace Go.Proofs.YtknfipcegmajaaaDoor
namespace Rows

/-- THE TIED CARD OF 'rubriclaw14.WildTexts'. -/
def wildTextsCard : Claim7 := { stood := { row := wildTextsRow, standIns := [], harness := (true, "9c18277f7fb22f1c67fe022a83c38377e275af60d14de0d1ca88c2d4c8827c8b"), looks := false }, kinds := [], alts := [], laidByText := true, laidKinds := [.data, .pinned], laidTests := true, laidLooks := .later }
def WildTextsCardSaid : Prop := Claim7.holds Tryd.pinned (.plain (OpenSpec.ofChange wildTextsSpec)) wildTextsCard

/-- THE TIED CARD OF 'rubriclaw14.WildPairs'. -/
def wildPairsCard : Claim7 := { stood := { row := wildPairsRow, standIns := [], harness := (true, "9c18277f7fb22f1c67fe022a83c38377e275af60d14de0d1ca88c2d4c8827c8b"), looks := false }, kinds := [], alts := [], laidByText := true, laidKinds := [.data, .pinned], laidTests := true, laidLooks := .later }
def WildPairsCardSaid : Prop := Claim7.holds Tryd.pinned (.plain (OpenSpec.ofChange wildPairsSpec)) wildPairsCard

/-- THE TIED CARD OF 'rubriclaw14.WildSubs'. -/
def wildSubsCard : Claim7 := { stood := { row := wildSubsRow, standIns := [], harness := (true, "9c18277f7fb22f1c67fe022a83c38377e275af60d14de0d1ca88c2d4c8827c8b"), looks := false }, kinds := [], alts := [], laidByText := true, laidKinds := [.data, .pinned], laidTests := true, laidLooks := .later }
def WildSubsCardSaid : Prop := Claim7.holds Tryd.pinned (.plain (OpenSpec.ofChange wildSubsSpec)) wildSubsCard

/-- THE TIED CARD OF 'rubriclaw14.WildSpaces'. -/
def wildSpacesCard : Claim7 := { stood := { row := wildSpacesRow, standIns := [], harness := (true, "9c18277f7fb22f1c67fe022a83c38377e275af60d14de0d1ca88c2d4c8827c8b"), looks := false }, kinds := [], alts := [], laidByText := true, laidKinds := [.data, .pinned], laidTests := true, laidLooks := .later }
def WildSpacesCardSaid : Prop := Claim7.holds Tryd.pinned (.plain (OpenSpec.ofChange wildSpacesSpec)) wildSpacesCard

/-- THE SECOND FORM's CARD OF 'rubriclaw14.WildTexts'. -/
def wildTextsUptoCard : Claim7 := { stood := { row := wildTextsUptoRow, standIns := [], harness := (true, "9c18277f7fb22f1c67fe022a83c38377e275af60d14de0d1ca88c2d4c8827c8b"), looks := false }, kinds := [], alts := [], laidByText := true, laidKinds := [.data, .pinned], laidTests := true, laidLooks := .later }
def WildTextsUptoCardSaid : Prop := Claim7.holds Tryd.pinned (.plain (OpenSpec.upto wildTextsSpec)) wildTextsUptoCard

/-- THE SECOND FORM's CARD OF 'rubriclaw14.WildPairs'. -/
def wildPairsUptoCard : Claim7 := { stood := { row := wildPairsUptoRow, standIns := [], harness := (true, "9c18277f7fb22f1c67fe022a83c38377e275af60d14de0d1ca88c2d4c8827c8b"), looks := false }, kinds := [], alts := [], laidByText := true, laidKinds := [.data, .pinned], laidTests := true, laidLooks := .later }
def WildPairsUptoCardSaid : Prop := Claim7.holds Tryd.pinned (.plain (OpenSpec.upto wildPairsSpec)) wildPairsUptoCard

/-- THE SECOND FORM's CARD OF 'rubriclaw14.WildSubs'. -/
def wildSubsUptoCard : Claim7 := { stood := { row := wildSubsUptoRow, standIns := [], harness := (true, "9c18277f7fb22f1c67fe022a83c38377e275af60d14de0d1ca88c2d4c8827c8b"), looks := false }, kinds := [], alts := [], laidByText := true, laidKinds := [.data, .pinned], laidTests := true, laidLooks := .later }
def WildSubsUptoCardSaid : Prop := Claim7.holds Tryd.pinned (.plain (OpenSpec.upto wildSubsSpec)) wildSubsUptoCard

/-- THE SECOND FORM's CARD OF 'rubriclaw14.WildSpaces'. -/
def wildSpacesUptoCard : Claim7 := { stood := { row := wildSpacesUptoRow, standIns := [], harness := (true, "9c18277f7fb22f1c67fe022a83c38377e275af60d14de0d1ca88c2d4c8827c8b"), looks := false }, kinds := [], alts := [], laidByText := true, laidKinds := [.data, .pinned], laidTests := true, laidLooks := .later }
def WildSpacesUptoCardSaid : Prop := Claim7.holds Tryd.pinned (.plain (OpenSpec.upto wildSpacesSpec)) wildSpacesUptoCard
end Rows
end Go.Proofs.YtknfipcegmajaaaDoor
