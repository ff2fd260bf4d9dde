/-
  DERIVED. GIVEN WITH THE SEED: THE CARDS: each row of YtjcgnbmpnaapdabDoorRows.lean that lists a variable, with what it lists TIED to the program's text (the seventh form; the later family's looks); each row that meets fmt, with fmt's text TOLD by the authors' own Lean function (tested against real Go, not proved from fmt's source: count such statements apart). THE CARD IS WHAT COUNTS. Prove the row's statement (the work); the ties are given (YtjcgnbmpnaapdabDoorTie.lean); close each card by the builder's one call (the guide's Derived/Test/ToyasCard.lean, 'card_holds'). Laid BY PROGRAM, IN A SANDBOX (cutbox-door.mjs). By AI agents, Wed Nov 11 2026. No macro, syntax, notation, axiom, sorry.
-/
import Derived.Test.YtjcgnbmpnaapdabDoorRows
import GoSem.ClaimSeven
namespace Go.Proofs.YtjcgnbmpnaapdabDoor
namespace Rows

/-- THE TIED CARD OF 'rubriclaw2.XmlDeep'. -/
def xmlDeepCard : Claim7 := { stood := { row := xmlDeepRow, standIns := [], harness := (true, "e4a22cb74fdd9630af411043cf40ec17b0239f7591c388edd2aff6f0ee5a98ac"), looks := true }, kinds := [], alts := [], laidByText := true, laidKinds := [.data, .data, .data, .pinned, .pinned], laidTests := true, laidLooks := .later }
def XmlDeepCardSaid : Prop := Claim7.holds Tryd.pinned (.plain (OpenSpec.ofChange xmlDeepSpec)) xmlDeepCard

/-- THE TIED CARD OF 'rubriclaw2.XmlMismatch'. -/
def xmlMismatchCard : Claim7 := { stood := { row := xmlMismatchRow, standIns := [], harness := (true, "e4a22cb74fdd9630af411043cf40ec17b0239f7591c388edd2aff6f0ee5a98ac"), looks := true }, kinds := [], alts := [], laidByText := true, laidKinds := [.data, .data, .data, .pinned, .pinned], laidTests := true, laidLooks := .later }
def XmlMismatchCardSaid : Prop := Claim7.holds Tryd.pinned (.plain (OpenSpec.ofChange xmlMismatchSpec)) xmlMismatchCard

/-- THE SECOND FORM's CARD OF 'rubriclaw2.XmlDeep'. -/
def xmlDeepUptoCard : Claim7 := { stood := { row := xmlDeepUptoRow, standIns := [], harness := (true, "e4a22cb74fdd9630af411043cf40ec17b0239f7591c388edd2aff6f0ee5a98ac"), looks := true }, kinds := [], alts := [], laidByText := true, laidKinds := [.data, .data, .data, .pinned, .pinned], laidTests := true, laidLooks := .later }
def XmlDeepUptoCardSaid : Prop := Claim7.holds Tryd.pinned (.plain (OpenSpec.upto xmlDeepSpec)) xmlDeepUptoCard

/-- THE SECOND FORM's CARD OF 'rubriclaw2.XmlMismatch'. -/
def xmlMismatchUptoCard : Claim7 := { stood := { row := xmlMismatchUptoRow, standIns := [], harness := (true, "e4a22cb74fdd9630af411043cf40ec17b0239f7591c388edd2aff6f0ee5a98ac"), looks := true }, kinds := [], alts := [], laidByText := true, laidKinds := [.data, .data, .data, .pinned, .pinned], laidTests := true, laidLooks := .later }
def XmlMismatchUptoCardSaid : Prop := Claim7.holds Tryd.pinned (.plain (OpenSpec.upto xmlMismatchSpec)) xmlMismatchUptoCard
end Rows
end Go.Proofs.YtjcgnbmpnaapdabDoor
