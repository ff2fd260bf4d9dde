/-
  DERIVED. GIVEN WITH THE SEED: THE CARDS: each row of YtgaegajcejpmdaaGreatDoorRows.lean that lists a variable, with what it lists TIED to the program's text (the seventh form; the later family's looks); each row that meets fmt, with fmt's text TOLD by the authors' own Lean function (tested against real Go, not proved from fmt's source: count such statements apart). THE CARD IS WHAT COUNTS. Prove the row's statement (the work); the ties are given (YtgaegajcejpmdaaGreatDoorTie.lean); close each card by the builder's one call (the guide's Derived/Test/ToyasCard.lean, 'card_holds'). Laid BY PROGRAM, IN A SANDBOX (cutbox-door.mjs). By AI agents, Wed Nov 11 2026. No macro, syntax, notation, axiom, sorry.
-/
import Derived.Test.YtgaegajcejpmdaaGreatDoorRows
import GoSem.ClaimSeven
namespace Go.Proofs.YtgaegajcejpmdaaGreatDoor
namespace Rows

/-- THE TIED CARD OF 'rubriclaw11.KindTables'. -/
def kindTablesCard : Claim7 := { stood := { row := kindTablesRow, standIns := [], harness := (true, "b3d5c23625cf229ddb3708441f9329bd14598dba263f88f85847ebf2b76ef773"), looks := true }, kinds := [], alts := [], laidByText := true, laidKinds := [.data, .data, .data, .sentinel, .sentinel, .data], laidTests := true, laidLooks := .later }
def KindTablesCardSaid : Prop := Claim7.holds Tryz.pinned (.plain (OpenSpec.ofChange kindTablesSpec)) kindTablesCard

/-- THE TIED CARD OF 'rubriclaw11.KindTexts'. -/
def kindTextsCard : Claim7 := { stood := { row := kindTextsRow, standIns := [], harness := (true, "b3d5c23625cf229ddb3708441f9329bd14598dba263f88f85847ebf2b76ef773"), looks := true }, kinds := [], alts := [], laidByText := true, laidKinds := [.data, .data, .data, .sentinel, .sentinel, .data], laidTests := true, laidLooks := .later }
def KindTextsCardSaid : Prop := Claim7.holds Tryz.pinned (.plain (OpenSpec.ofChange kindTextsSpec)) kindTextsCard

/-- THE TIED CARD OF 'rubriclaw11.KindPairs'. -/
def kindPairsCard : Claim7 := { stood := { row := kindPairsRow, standIns := [], harness := (true, "b3d5c23625cf229ddb3708441f9329bd14598dba263f88f85847ebf2b76ef773"), looks := true }, kinds := [], alts := [], laidByText := true, laidKinds := [.data, .data, .data, .sentinel, .sentinel, .data], laidTests := true, laidLooks := .later }
def KindPairsCardSaid : Prop := Claim7.holds Tryz.pinned (.plain (OpenSpec.ofChange kindPairsSpec)) kindPairsCard

/-- THE TIED CARD OF 'rubriclaw11.KindBounds'. -/
def kindBoundsCard : Claim7 := { stood := { row := kindBoundsRow, standIns := [], harness := (true, "b3d5c23625cf229ddb3708441f9329bd14598dba263f88f85847ebf2b76ef773"), looks := true }, kinds := [], alts := [], laidByText := true, laidKinds := [.data, .data, .data, .sentinel, .sentinel, .data], laidTests := true, laidLooks := .later }
def KindBoundsCardSaid : Prop := Claim7.holds Tryz.pinned (.plain (OpenSpec.ofChange kindBoundsSpec)) kindBoundsCard

/-- THE TIED CARD OF 'rubriclaw11.KindBlanks'. -/
def kindBlanksCard : Claim7 := { stood := { row := kindBlanksRow, standIns := [], harness := (true, "b3d5c23625cf229ddb3708441f9329bd14598dba263f88f85847ebf2b76ef773"), looks := true }, kinds := [], alts := [], laidByText := true, laidKinds := [.data, .data, .data, .sentinel, .sentinel, .data], laidTests := true, laidLooks := .later }
def KindBlanksCardSaid : Prop := Claim7.holds Tryz.pinned (.plain (OpenSpec.ofChange kindBlanksSpec)) kindBlanksCard

/-- THE SECOND FORM's CARD OF 'rubriclaw11.KindTables'. -/
def kindTablesUptoCard : Claim7 := { stood := { row := kindTablesUptoRow, standIns := [], harness := (true, "b3d5c23625cf229ddb3708441f9329bd14598dba263f88f85847ebf2b76ef773"), looks := true }, kinds := [], alts := [], laidByText := true, laidKinds := [.data, .data, .data, .sentinel, .sentinel, .data], laidTests := true, laidLooks := .later }
def KindTablesUptoCardSaid : Prop := Claim7.holds Tryz.pinned (.plain (OpenSpec.upto kindTablesSpec)) kindTablesUptoCard

/-- THE SECOND FORM's CARD OF 'rubriclaw11.KindTexts'. -/
def kindTextsUptoCard : Claim7 := { stood := { row := kindTextsUptoRow, standIns := [], harness := (true, "b3d5c23625cf229ddb3708441f9329bd14598dba263f88f85847ebf2b76ef773"), looks := true }, kinds := [], alts := [], laidByText := true, laidKinds := [.data, .data, .data, .sentinel, .sentinel, .data], laidTests := true, laidLooks := .later }
def KindTextsUptoCardSaid : Prop := Claim7.holds Tryz.pinned (.plain (OpenSpec.upto kindTextsSpec)) kindTextsUptoCard

/-- THE SECOND FORM's CARD OF 'rubriclaw11.KindPairs'. -/
def kindPairsUptoCard : Claim7 := { stood := { row := kindPairsUptoRow, standIns := [], harness := (true, "b3d5c23625cf229ddb3708441f9329bd14598dba263f88f85847ebf2b76ef773"), looks := true }, kinds := [], alts := [], laidByText := true, laidKinds := [.data, .data, .data, .sentinel, .sentinel, .data], laidTests := true, laidLooks := .later }
def KindPairsUptoCardSaid : Prop := Claim7.holds Tryz.pinned (.plain (OpenSpec.upto kindPairsSpec)) kindPairsUptoCard

/-- THE SECOND FORM's CARD OF 'rubriclaw11.KindBounds'. -/
def kindBoundsUptoCard : Claim7 := { stood := { row := kindBoundsUptoRow, standIns := [], harness := (true, "b3d5c23625cf229ddb3708441f9329bd14598dba263f88f85847ebf2b76ef773"), looks := true }, kinds := [], alts := [], laidByText := true, laidKinds := [.data, .data, .data, .sentinel, .sentinel, .data], laidTests := true, laidLooks := .later }
def KindBoundsUptoCardSaid : Prop := Claim7.holds Tryz.pinned (.plain (OpenSpec.upto kindBoundsSpec)) kindBoundsUptoCard

/-- THE SECOND FORM's CARD OF 'rubriclaw11.KindBlanks'. -/
def kindBlanksUptoCard : Claim7 := { stood := { row := kindBlanksUptoRow, standIns := [], harness := (true, "b3d5c23625cf229ddb3708441f9329bd14598dba263f88f85847ebf2b76ef773"), looks := true }, kinds := [], alts := [], laidByText := true, laidKinds := [.data, .data, .data, .sentinel, .sentinel, .data], laidTests := true, laidLooks := .later }
def KindBlanksUptoCardSaid : Prop := Claim7.holds Tryz.pinned (.plain (OpenSpec.upto kindBlanksSpec)) kindBlanksUptoCard
end Rows
end Go.Proofs.YtgaegajcejpmdaaGreatDoor
