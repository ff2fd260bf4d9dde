/-
  NARROWER THAN 'FOR EVERY INPUT', by the rows' own cells (each row's printed sentence says how): WildTexts: laid · WildPairs: laid · WildSubs: laid · WildSpaces: laid.
  DERIVED. THE GIVEN ROWS OF THIS SEAT. 4 by the template 'for every input the law returns true; each argument reads behind the call as it read before'; 0 by the template 'total and deterministic' (their statements: YtknfipcegmajaaaDoorTotals.lean).
  GIVEN WITH THE SEED: the statements are not yours to turn. If you find one false, say at which input.
  Laid BY PROGRAM, IN A SANDBOX (cutbox-rows.mjs): the forced cells as the released guide's own fill.sh prints them over the translation c90d1bf1abcc6359… (all of the seat's roots in one cut). By AI agents, Wed Nov 11 2026. No macro, syntax, notation, axiom, sorry.
-/
import Derived.Test.YtknfipcegmajaaaDoorChecked
import GoSem.PinnedTables
import GoSem.Claim
import GoSem.ClaimJoined
import GoSem.ClaimMapViews
import Derived.JoinedTies
import Derived.KernelRfl
namespace Go.Proofs.YtknfipcegmajaaaDoor
/- THE CELL 'sum', in the pinned program and in every row, IS THE sha256 OF THE DUMP (.gsa) THAT YtknfipcegmajaaaDoorProg.lean LOADS. Nothing in Lean hashes anything: it is a label: what it is worth is what the hold of that sum in a sandbox is worth. -/
noncomputable def Tryd.pinned : Pinned := { name := "ytknfipcegmajaaadoor", sum := "c90d1bf1abcc6359877b88e65d461d06da2173091c1f65af774b620a4ccce80b", checked := Tryd.checked }
namespace Rows
def none {H : Type} : Left H := { results := [], args := [] }

/- WHAT THE LISTED PACKAGE-LEVEL VARIABLES READ AS WHEN THE CALL BEGINS. Each datum BY PROGRAM (the guide's laid-datum.mjs) off the statement by which the dump's own 'gosem.cut.vars' lays the variable. In a bare row this is a premise. The card (YtknfipcegmajaaaDoorCards.lean) ties it to the program's text. -/
def laid_unicode_utf8_acceptRanges {H : Type} : DataW H := .agg [.agg [.lit (.int .u8 128), .lit (.int .u8 191)], .agg [.lit (.int .u8 160), .lit (.int .u8 191)], .agg [.lit (.int .u8 128), .lit (.int .u8 159)], .agg [.lit (.int .u8 144), .lit (.int .u8 191)], .agg [.lit (.int .u8 128), .lit (.int .u8 143)], .agg [.lit (.int .u8 0), .lit (.int .u8 0)], .agg [.lit (.int .u8 0), .lit (.int .u8 0)], .agg [.lit (.int .u8 0), .lit (.int .u8 0)], .agg [.lit (.int .u8 0), .lit (.int .u8 0)], .agg [.lit (.int .u8 0), .lit (.int .u8 0)], .agg [.lit (.int .u8 0), .lit (.int .u8 0)], .agg [.lit (.int .u8 0), .lit (.int .u8 0)], .agg [.lit (.int .u8 0), .lit (.int .u8 0)], .agg [.lit (.int .u8 0), .lit (.int .u8 0)], .agg [.lit (.int .u8 0), .lit (.int .u8 0)], .agg [.lit (.int .u8 0), .lit (.int .u8 0)]]
/-- One of Go's own tables, pinned by name: the form's constant. -/
def laid_unicode_utf8_first : DataW Unit := Go.Pinned.utf8First

/-- 'rubriclaw14.WildTexts': WHATEVER THE INPUT: true; the input reads as it did. -/
def wildTextsSpec : ChangeSpec := { name := "wildTexts", fn := fun _ => fun
  | [d1, d2, d3] => { results := [.lit (.bool true)], args := [d1, d2, d3] }
  | _ => none }
def wildTextsRow : OpenClaim := { program := "ytknfipcegmajaaadoor", sum := "c90d1bf1abcc6359877b88e65d461d06da2173091c1f65af774b620a4ccce80b", func := "rubric/rubriclaw14.WildTexts", spec := "wildTexts", inPlace := ["internal/bytealg.CountString", "internal/bytealg.IndexByteString", "internal/bytealg.IndexString"], recurses := true, named := ["unicode/utf8.first", "unicode/utf8.acceptRanges", "internal/bytealg.MaxLen"], apart := false, laid := [("unicode/utf8.acceptRanges", laid_unicode_utf8_acceptRanges), ("unicode/utf8.first", laid_unicode_utf8_first)] }
def WildTextsSaid : Prop := wildTextsRow.holds Tryd.pinned (OpenSpec.ofChange wildTextsSpec)

/-- ITS FALSE NEIGHBOUR: 'it returns false'. Refute it at one input. -/
def wildTextsWrong : ChangeSpec := { name := "wildTexts", fn := fun _ => fun
  | [d1, d2, d3] => { results := [.lit (.bool false)], args := [d1, d2, d3] }
  | _ => none }
def WildTextsWrongFalsely : Prop := wildTextsRow.holds Tryd.pinned (OpenSpec.ofChange wildTextsWrong)

/-- 'rubriclaw14.WildPairs': WHATEVER THE INPUT: true; the input reads as it did. -/
def wildPairsSpec : ChangeSpec := { name := "wildPairs", fn := fun _ => fun
  | [d1, d2, d3] => { results := [.lit (.bool true)], args := [d1, d2, d3] }
  | _ => none }
def wildPairsRow : OpenClaim := { program := "ytknfipcegmajaaadoor", sum := "c90d1bf1abcc6359877b88e65d461d06da2173091c1f65af774b620a4ccce80b", func := "rubric/rubriclaw14.WildPairs", spec := "wildPairs", inPlace := ["internal/bytealg.CountString", "internal/bytealg.IndexByteString", "internal/bytealg.IndexString"], recurses := true, named := ["unicode/utf8.first", "unicode/utf8.acceptRanges", "internal/bytealg.MaxLen"], apart := false, laid := [("unicode/utf8.acceptRanges", laid_unicode_utf8_acceptRanges), ("unicode/utf8.first", laid_unicode_utf8_first)] }
def WildPairsSaid : Prop := wildPairsRow.holds Tryd.pinned (OpenSpec.ofChange wildPairsSpec)

/-- ITS FALSE NEIGHBOUR: 'it returns false'. Refute it at one input. -/
def wildPairsWrong : ChangeSpec := { name := "wildPairs", fn := fun _ => fun
  | [d1, d2, d3] => { results := [.lit (.bool false)], args := [d1, d2, d3] }
  | _ => none }
def WildPairsWrongFalsely : Prop := wildPairsRow.holds Tryd.pinned (OpenSpec.ofChange wildPairsWrong)

/-- 'rubriclaw14.WildSubs': WHATEVER THE INPUT: true; the input reads as it did. -/
def wildSubsSpec : ChangeSpec := { name := "wildSubs", fn := fun _ => fun
  | [d1, d2, d3] => { results := [.lit (.bool true)], args := [d1, d2, d3] }
  | _ => none }
def wildSubsRow : OpenClaim := { program := "ytknfipcegmajaaadoor", sum := "c90d1bf1abcc6359877b88e65d461d06da2173091c1f65af774b620a4ccce80b", func := "rubric/rubriclaw14.WildSubs", spec := "wildSubs", inPlace := ["internal/bytealg.CountString", "internal/bytealg.IndexByteString", "internal/bytealg.IndexString"], recurses := true, named := ["unicode/utf8.first", "unicode/utf8.acceptRanges", "internal/bytealg.MaxLen"], apart := false, laid := [("unicode/utf8.acceptRanges", laid_unicode_utf8_acceptRanges), ("unicode/utf8.first", laid_unicode_utf8_first)] }
def WildSubsSaid : Prop := wildSubsRow.holds Tryd.pinned (OpenSpec.ofChange wildSubsSpec)

/-- ITS FALSE NEIGHBOUR: 'it returns false'. Refute it at one input. -/
def wildSubsWrong : ChangeSpec := { name := "wildSubs", fn := fun _ => fun
  | [d1, d2, d3] => { results := [.lit (.bool false)], args := [d1, d2, d3] }
  | _ => none }
def WildSubsWrongFalsely : Prop := wildSubsRow.holds Tryd.pinned (OpenSpec.ofChange wildSubsWrong)

/-- 'rubriclaw14.WildSpaces': WHATEVER THE INPUT: true; the input reads as it did. -/
def wildSpacesSpec : ChangeSpec := { name := "wildSpaces", fn := fun _ => fun
  | [d1, d2, d3, d4] => { results := [.lit (.bool true)], args := [d1, d2, d3, d4] }
  | _ => none }
def wildSpacesRow : OpenClaim := { program := "ytknfipcegmajaaadoor", sum := "c90d1bf1abcc6359877b88e65d461d06da2173091c1f65af774b620a4ccce80b", func := "rubric/rubriclaw14.WildSpaces", spec := "wildSpaces", inPlace := ["internal/bytealg.CountString", "internal/bytealg.IndexByteString", "internal/bytealg.IndexString"], recurses := true, named := ["unicode/utf8.first", "unicode/utf8.acceptRanges", "internal/bytealg.MaxLen"], apart := false, laid := [("unicode/utf8.acceptRanges", laid_unicode_utf8_acceptRanges), ("unicode/utf8.first", laid_unicode_utf8_first)] }
def WildSpacesSaid : Prop := wildSpacesRow.holds Tryd.pinned (OpenSpec.ofChange wildSpacesSpec)

/-- ITS FALSE NEIGHBOUR: 'it returns false'. Refute it at one input. -/
def wildSpacesWrong : ChangeSpec := { name := "wildSpaces", fn := fun _ => fun
  | [d1, d2, d3, d4] => { results := [.lit (.bool false)], args := [d1, d2, d3, d4] }
  | _ => none }
def WildSpacesWrongFalsely : Prop := wildSpacesRow.holds Tryd.pinned (OpenSpec.ofChange wildSpacesWrong)

/- THE SECOND FORM. 'bulk': how many values and letters a reading holds, each counted each time it is reached (what is shared counts as often as it is met; a slice's spare places count too). A statement '..UptoSaid' is the law's where the arguments, and the package variables that the reading takes, are together of bulk at most 1048576: NARROWER than '..Said'. Prove '..Said' where nothing that the law and all that it calls make is longer than what came in: it says more and counts as full. Else prove '..UptoSaid'. A law counts once. -/
mutual
def uptoBulk {H : Type} : DataW H → Nat
  | .lit (.string bytes) => bytes.length + 1
  | .lit _ => 1
  | .nil => 1
  | .ptr d => uptoBulk d + 1
  | .slice elems spare => uptoBulkAll elems + uptoBulkAll spare + 1
  | .agg parts => uptoBulkAll parts + 1
  | .iface _ d => uptoBulk d + 1
  | .map entries => uptoBulkEntries entries + 1
  | .held _ => 1
def uptoBulkAll {H : Type} : List (DataW H) → Nat
  | [] => 0
  | d :: r => uptoBulk d + uptoBulkAll r
def uptoBulkEntries {H : Type} : List (Lit × DataW H) → Nat
  | [] => 0
  | x :: r => uptoBulkEntry x + uptoBulkEntries r
def uptoBulkEntry {H : Type} : Lit × DataW H → Nat
  | (.string bytes, d) => bytes.length + uptoBulk d + 1
  | (_, d) => uptoBulk d + 1
 end
def uptoSmall : (H : Type) → List (DataW H) → Bool := fun _ ds => decide (uptoBulkAll ds ≤ 1048576)
def OpenSpec.upto (s : _root_.Go.ChangeSpec) : _root_.Go.OpenSpec := { _root_.Go.OpenSpec.ofChange s with cond := some uptoSmall }

/-- 'rubriclaw14.WildTexts', WHERE WHAT IT READS IS OF BULK AT MOST 1048576: true; the input reads as it did. -/
def wildTextsUptoRow : OpenClaim := { program := "ytknfipcegmajaaadoor", sum := "c90d1bf1abcc6359877b88e65d461d06da2173091c1f65af774b620a4ccce80b", func := "rubric/rubriclaw14.WildTexts", spec := "wildTexts", inPlace := ["internal/bytealg.CountString", "internal/bytealg.IndexByteString", "internal/bytealg.IndexString"], recurses := true, named := ["unicode/utf8.first", "unicode/utf8.acceptRanges", "internal/bytealg.MaxLen"], apart := false, laid := [("unicode/utf8.acceptRanges", laid_unicode_utf8_acceptRanges), ("unicode/utf8.first", laid_unicode_utf8_first)], narrowed := true }
def WildTextsUptoSaid : Prop := wildTextsUptoRow.holds Tryd.pinned (OpenSpec.upto wildTextsSpec)

/-- 'rubriclaw14.WildPairs', WHERE WHAT IT READS IS OF BULK AT MOST 1048576: true; the input reads as it did. -/
def wildPairsUptoRow : OpenClaim := { program := "ytknfipcegmajaaadoor", sum := "c90d1bf1abcc6359877b88e65d461d06da2173091c1f65af774b620a4ccce80b", func := "rubric/rubriclaw14.WildPairs", spec := "wildPairs", inPlace := ["internal/bytealg.CountString", "internal/bytealg.IndexByteString", "internal/bytealg.IndexString"], recurses := true, named := ["unicode/utf8.first", "unicode/utf8.acceptRanges", "internal/bytealg.MaxLen"], apart := false, laid := [("unicode/utf8.acceptRanges", laid_unicode_utf8_acceptRanges), ("unicode/utf8.first", laid_unicode_utf8_first)], narrowed := true }
def WildPairsUptoSaid : Prop := wildPairsUptoRow.holds Tryd.pinned (OpenSpec.upto wildPairsSpec)

/-- 'rubriclaw14.WildSubs', WHERE WHAT IT READS IS OF BULK AT MOST 1048576: true; the input reads as it did. -/
def wildSubsUptoRow : OpenClaim := { program := "ytknfipcegmajaaadoor", sum := "c90d1bf1abcc6359877b88e65d461d06da2173091c1f65af774b620a4ccce80b", func := "rubric/rubriclaw14.WildSubs", spec := "wildSubs", inPlace := ["internal/bytealg.CountString", "internal/bytealg.IndexByteString", "internal/bytealg.IndexString"], recurses := true, named := ["unicode/utf8.first", "unicode/utf8.acceptRanges", "internal/bytealg.MaxLen"], apart := false, laid := [("unicode/utf8.acceptRanges", laid_unicode_utf8_acceptRanges), ("unicode/utf8.first", laid_unicode_utf8_first)], narrowed := true }
def WildSubsUptoSaid : Prop := wildSubsUptoRow.holds Tryd.pinned (OpenSpec.upto wildSubsSpec)

/-- 'rubriclaw14.WildSpaces', WHERE WHAT IT READS IS OF BULK AT MOST 1048576: true; the input reads as it did. -/
def wildSpacesUptoRow : OpenClaim := { program := "ytknfipcegmajaaadoor", sum := "c90d1bf1abcc6359877b88e65d461d06da2173091c1f65af774b620a4ccce80b", func := "rubric/rubriclaw14.WildSpaces", spec := "wildSpaces", inPlace := ["internal/bytealg.CountString", "internal/bytealg.IndexByteString", "internal/bytealg.IndexString"], recurses := true, named := ["unicode/utf8.first", "unicode/utf8.acceptRanges", "internal/bytealg.MaxLen"], apart := false, laid := [("unicode/utf8.acceptRanges", laid_unicode_utf8_acceptRanges), ("unicode/utf8.first", laid_unicode_utf8_first)], narrowed := true }
def WildSpacesUptoSaid : Prop := wildSpacesUptoRow.holds Tryd.pinned (OpenSpec.upto wildSpacesSpec)

end Rows
end Go.Proofs.YtknfipcegmajaaaDoor
