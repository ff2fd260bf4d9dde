/-
  DERIVED. GIVEN WITH THE SEED: THE CARDS: each row of YtpghlafkkcffgaaDoorRows.lean that lists a variable, with what it lists TIED to the program's text (the seventh form; the later family's looks); each row that meets fmt, with fmt's text TOLD by the authors' own Lean function (tested against real Go, not proved from fmt's source: count such statements apart). THE CARD IS WHAT COUNTS. Prove the row's statement (the work); the ties are given (YtpghlafkkcffgaaDoorTie.lean); close each card by the builder's one call (the guide's Derived/Test/ToyasCard.lean, 'card_holds'). Laid BY PROGRAM, IN A SANDBOX (cutbox-door.mjs). By AI agents, Wed Nov 11 2026. No macro, syntax, notation, axiom, sorry.
-/
import Derived.Test.YtpghlafkkcffgaaDoorRows
import GoSem.ClaimSeven
namespace Go.Proofs.YtpghlafkkcffgaaDoor
namespace Rows

/-- THE TIED CARD OF 'rubriclaw1.CharNames'. -/
def charNamesCard : Claim7 := { stood := { row := charNamesRow, standIns := [], harness := (true, "b1d06526d4e9a7199a841f010d9017c752a378f14d21ab0680b2e66d702be4ff"), looks := false }, kinds := [], alts := [], laidByText := true, laidKinds := [.data, .pinned], laidTests := true, laidLooks := .later }
def CharNamesCardSaid : Prop := Claim7.holds Tryd.pinned (.plain (OpenSpec.ofChange charNamesSpec)) charNamesCard

/-- THE TIED CARD OF 'rubriclaw1.CharBlanks'. -/
def charBlanksCard : Claim7 := { stood := { row := charBlanksRow, standIns := [], harness := (true, "b1d06526d4e9a7199a841f010d9017c752a378f14d21ab0680b2e66d702be4ff"), looks := false }, kinds := [], alts := [], laidByText := true, laidKinds := [.data, .pinned], laidTests := true, laidLooks := .later }
def CharBlanksCardSaid : Prop := Claim7.holds Tryd.pinned (.plain (OpenSpec.ofChange charBlanksSpec)) charBlanksCard

/-- THE SECOND FORM's CARD OF 'rubriclaw1.CharNames'. -/
def charNamesUptoCard : Claim7 := { stood := { row := charNamesUptoRow, standIns := [], harness := (true, "b1d06526d4e9a7199a841f010d9017c752a378f14d21ab0680b2e66d702be4ff"), looks := false }, kinds := [], alts := [], laidByText := true, laidKinds := [.data, .pinned], laidTests := true, laidLooks := .later }
def CharNamesUptoCardSaid : Prop := Claim7.holds Tryd.pinned (.plain (OpenSpec.upto charNamesSpec)) charNamesUptoCard

/-- THE SECOND FORM's CARD OF 'rubriclaw1.CharBlanks'. -/
def charBlanksUptoCard : Claim7 := { stood := { row := charBlanksUptoRow, standIns := [], harness := (true, "b1d06526d4e9a7199a841f010d9017c752a378f14d21ab0680b2e66d702be4ff"), looks := false }, kinds := [], alts := [], laidByText := true, laidKinds := [.data, .pinned], laidTests := true, laidLooks := .later }
def CharBlanksUptoCardSaid : Prop := Claim7.holds Tryd.pinned (.plain (OpenSpec.upto charBlanksSpec)) charBlanksUptoCard
end Rows
end Go.Proofs.YtpghlafkkcffgaaDoor
