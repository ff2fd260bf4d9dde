/-
  NARROWER THAN 'FOR EVERY INPUT', by the rows' own cells (each row's printed sentence says how): KindTables: laid · KindTexts: laid · KindPairs: laid · KindBounds: laid · KindBlanks: laid.
  DERIVED. THE GIVEN ROWS OF THIS SEAT. 5 by the template 'for every input the law returns true; each argument reads behind the call as it read before'; 0 by the template 'total and deterministic' (their statements: YtgaegajcejpmdaaGreatDoorTotals.lean).
  GIVEN WITH THE SEED: the statements are not yours to turn. If you find one false, say at which input.
  Laid BY PROGRAM, IN A SANDBOX (cutbox-rows.mjs): the forced cells as the released guide's own fill.sh prints them over the translation 44be35244374c91d… (all of the seat's roots in one cut). By AI agents, Wed Nov 11 2026. No macro, syntax, notation, axiom, sorry.
-/
import Derived.Test.YtgaegajcejpmdaaGreatDoorChecked
import GoSem.Claim
import GoSem.ClaimJoined
import GoSem.ClaimMapViews
import Derived.JoinedTies
import Derived.KernelRfl
namespace Go.Proofs.YtgaegajcejpmdaaGreatDoor
/- THE CELL 'sum', in the pinned program and in every row, IS THE sha256 OF THE DUMP (.gsa) THAT YtgaegajcejpmdaaGreatDoorProg.lean LOADS. Nothing in Lean hashes anything: it is a label: what it is worth is what the hold of that sum in a sandbox is worth. -/
noncomputable def Tryz.pinned : Pinned := { name := "ytgaegajcejpmdaagreatdoor", sum := "44be35244374c91ddfa5c49f619d3843a188583fcfd9a3ff5f8c19c0b3f73e04", checked := Tryz.checked }
namespace Rows
def none {H : Type} : Left H := { results := [], args := [] }

/- WHAT THE LISTED PACKAGE-LEVEL VARIABLES READ AS WHEN THE CALL BEGINS. Each datum BY PROGRAM (the guide's laid-datum.mjs) off the statement by which the dump's own 'gosem.cut.vars' lays the variable. In a bare row this is a premise. The card (YtgaegajcejpmdaaGreatDoorCards.lean) ties it to the program's text. -/
def laid_math_bits_deBruijn32tab {H : Type} : DataW H := .agg [.lit (.int .u8 0), .lit (.int .u8 1), .lit (.int .u8 28), .lit (.int .u8 2), .lit (.int .u8 29), .lit (.int .u8 14), .lit (.int .u8 24), .lit (.int .u8 3), .lit (.int .u8 30), .lit (.int .u8 22), .lit (.int .u8 20), .lit (.int .u8 15), .lit (.int .u8 25), .lit (.int .u8 17), .lit (.int .u8 4), .lit (.int .u8 8), .lit (.int .u8 31), .lit (.int .u8 27), .lit (.int .u8 13), .lit (.int .u8 23), .lit (.int .u8 21), .lit (.int .u8 19), .lit (.int .u8 16), .lit (.int .u8 7), .lit (.int .u8 26), .lit (.int .u8 12), .lit (.int .u8 18), .lit (.int .u8 6), .lit (.int .u8 11), .lit (.int .u8 5), .lit (.int .u8 10), .lit (.int .u8 9)]
def laid_math_bits_deBruijn64tab {H : Type} : DataW H := .agg [.lit (.int .u8 0), .lit (.int .u8 1), .lit (.int .u8 56), .lit (.int .u8 2), .lit (.int .u8 57), .lit (.int .u8 49), .lit (.int .u8 28), .lit (.int .u8 3), .lit (.int .u8 61), .lit (.int .u8 58), .lit (.int .u8 42), .lit (.int .u8 50), .lit (.int .u8 38), .lit (.int .u8 29), .lit (.int .u8 17), .lit (.int .u8 4), .lit (.int .u8 62), .lit (.int .u8 47), .lit (.int .u8 59), .lit (.int .u8 36), .lit (.int .u8 45), .lit (.int .u8 43), .lit (.int .u8 51), .lit (.int .u8 22), .lit (.int .u8 53), .lit (.int .u8 39), .lit (.int .u8 33), .lit (.int .u8 30), .lit (.int .u8 24), .lit (.int .u8 18), .lit (.int .u8 12), .lit (.int .u8 5), .lit (.int .u8 63), .lit (.int .u8 55), .lit (.int .u8 48), .lit (.int .u8 27), .lit (.int .u8 60), .lit (.int .u8 41), .lit (.int .u8 37), .lit (.int .u8 16), .lit (.int .u8 46), .lit (.int .u8 35), .lit (.int .u8 44), .lit (.int .u8 21), .lit (.int .u8 52), .lit (.int .u8 32), .lit (.int .u8 23), .lit (.int .u8 11), .lit (.int .u8 54), .lit (.int .u8 26), .lit (.int .u8 40), .lit (.int .u8 15), .lit (.int .u8 34), .lit (.int .u8 20), .lit (.int .u8 31), .lit (.int .u8 10), .lit (.int .u8 25), .lit (.int .u8 14), .lit (.int .u8 19), .lit (.int .u8 9), .lit (.int .u8 13), .lit (.int .u8 8), .lit (.int .u8 7), .lit (.int .u8 6)]
def laid_internal_strconv_uint64pow10 {H : Type} : DataW H := .agg [.lit (.int .u64 1), .lit (.int .u64 10), .lit (.int .u64 100), .lit (.int .u64 1000), .lit (.int .u64 10000), .lit (.int .u64 100000), .lit (.int .u64 1000000), .lit (.int .u64 10000000), .lit (.int .u64 100000000), .lit (.int .u64 1000000000), .lit (.int .u64 10000000000), .lit (.int .u64 100000000000), .lit (.int .u64 1000000000000), .lit (.int .u64 10000000000000), .lit (.int .u64 100000000000000), .lit (.int .u64 1000000000000000), .lit (.int .u64 10000000000000000), .lit (.int .u64 100000000000000000), .lit (.int .u64 1000000000000000000), .lit (.int .u64 10000000000000000000)]
def laid_strconv_ErrRange {H : Type} : DataW H := .iface "*errors.errorString" (.ptr (.agg [.lit (.string [118, 97, 108, 117, 101, 32, 111, 117, 116, 32, 111, 102, 32, 114, 97, 110, 103, 101])]))
def laid_strconv_ErrSyntax {H : Type} : DataW H := .iface "*errors.errorString" (.ptr (.agg [.lit (.string [105, 110, 118, 97, 108, 105, 100, 32, 115, 121, 110, 116, 97, 120])]))
def laid_rubric_kind_names {H : Type} : DataW H := .agg [.lit (.string []), .lit (.string [115, 116, 114, 105, 110, 103]), .lit (.string [110, 111, 114, 109, 97, 108, 105, 122, 101, 100, 83, 116, 114, 105, 110, 103]), .lit (.string [116, 111, 107, 101, 110]), .lit (.string [78, 77, 84, 79, 75, 69, 78]), .lit (.string [78, 97, 109, 101]), .lit (.string [78, 67, 78, 97, 109, 101]), .lit (.string [73, 68]), .lit (.string [73, 68, 82, 69, 70]), .lit (.string [98, 111, 111, 108, 101, 97, 110]), .lit (.string [100, 101, 99, 105, 109, 97, 108]), .lit (.string [105, 110, 116, 101, 103, 101, 114]), .lit (.string [110, 111, 110, 80, 111, 115, 105, 116, 105, 118, 101, 73, 110, 116, 101, 103, 101, 114]), .lit (.string [110, 101, 103, 97, 116, 105, 118, 101, 73, 110, 116, 101, 103, 101, 114]), .lit (.string [110, 111, 110, 78, 101, 103, 97, 116, 105, 118, 101, 73, 110, 116, 101, 103, 101, 114]), .lit (.string [112, 111, 115, 105, 116, 105, 118, 101, 73, 110, 116, 101, 103, 101, 114]), .lit (.string [108, 111, 110, 103]), .lit (.string [105, 110, 116]), .lit (.string [115, 104, 111, 114, 116]), .lit (.string [98, 121, 116, 101]), .lit (.string [117, 110, 115, 105, 103, 110, 101, 100, 76, 111, 110, 103]), .lit (.string [117, 110, 115, 105, 103, 110, 101, 100, 73, 110, 116]), .lit (.string [117, 110, 115, 105, 103, 110, 101, 100, 83, 104, 111, 114, 116]), .lit (.string [117, 110, 115, 105, 103, 110, 101, 100, 66, 121, 116, 101]), .lit (.string [100, 97, 116, 101, 84, 105, 109, 101]), .lit (.string [100, 97, 116, 101]), .lit (.string [116, 105, 109, 101]), .lit (.string [103, 89, 101, 97, 114, 77, 111, 110, 116, 104]), .lit (.string [103, 89, 101, 97, 114]), .lit (.string [103, 77, 111, 110, 116, 104, 68, 97, 121]), .lit (.string [103, 68, 97, 121]), .lit (.string [103, 77, 111, 110, 116, 104]), .lit (.string [100, 117, 114, 97, 116, 105, 111, 110])]

/-- 'rubriclaw11.KindTables': WHATEVER THE INPUT: true; the input reads as it did. -/
def kindTablesSpec : ChangeSpec := { name := "kindTables", fn := fun _ => fun
  | [d1, d2, d3] => { results := [.lit (.bool true)], args := [d1, d2, d3] }
  | _ => none }
def kindTablesRow : OpenClaim := { program := "ytgaegajcejpmdaagreatdoor", sum := "44be35244374c91ddfa5c49f619d3843a188583fcfd9a3ff5f8c19c0b3f73e04", func := "rubric/rubriclaw11.KindTables", spec := "kindTables", inPlace := ["internal/bytealg.IndexByteString", "internal/bytealg.IndexString", "internal/bytealg.Compare", "internal/abi.NoEscape", "internal/bytealg.MakeNoZero"], unfollowed := true, recurses := true, named := ["rubric/kind.names", "internal/bytealg.MaxLen", "internal/strconv.uint64pow10", "math/bits.deBruijn32tab", "math/bits.deBruijn64tab", "strconv.ErrSyntax", "strconv.ErrRange"], apart := false, laid := [("math/bits.deBruijn32tab", laid_math_bits_deBruijn32tab), ("math/bits.deBruijn64tab", laid_math_bits_deBruijn64tab), ("internal/strconv.uint64pow10", laid_internal_strconv_uint64pow10), ("strconv.ErrRange", laid_strconv_ErrRange), ("strconv.ErrSyntax", laid_strconv_ErrSyntax), ("rubric/kind.names", laid_rubric_kind_names)] }
def KindTablesSaid : Prop := kindTablesRow.holds Tryz.pinned (OpenSpec.ofChange kindTablesSpec)

/-- ITS FALSE NEIGHBOUR: 'it returns false'. Refute it at one input. -/
def kindTablesWrong : ChangeSpec := { name := "kindTables", fn := fun _ => fun
  | [d1, d2, d3] => { results := [.lit (.bool false)], args := [d1, d2, d3] }
  | _ => none }
def KindTablesWrongFalsely : Prop := kindTablesRow.holds Tryz.pinned (OpenSpec.ofChange kindTablesWrong)

/-- 'rubriclaw11.KindTexts': WHATEVER THE INPUT: true; the input reads as it did. -/
def kindTextsSpec : ChangeSpec := { name := "kindTexts", fn := fun _ => fun
  | [d1, d2] => { results := [.lit (.bool true)], args := [d1, d2] }
  | _ => none }
def kindTextsRow : OpenClaim := { program := "ytgaegajcejpmdaagreatdoor", sum := "44be35244374c91ddfa5c49f619d3843a188583fcfd9a3ff5f8c19c0b3f73e04", func := "rubric/rubriclaw11.KindTexts", spec := "kindTexts", inPlace := ["internal/bytealg.IndexByteString", "internal/bytealg.IndexString", "internal/bytealg.Compare", "internal/abi.NoEscape", "internal/bytealg.MakeNoZero"], unfollowed := true, recurses := true, named := ["rubric/kind.names", "internal/bytealg.MaxLen", "internal/strconv.uint64pow10", "math/bits.deBruijn32tab", "math/bits.deBruijn64tab", "strconv.ErrSyntax", "strconv.ErrRange"], apart := false, laid := [("math/bits.deBruijn32tab", laid_math_bits_deBruijn32tab), ("math/bits.deBruijn64tab", laid_math_bits_deBruijn64tab), ("internal/strconv.uint64pow10", laid_internal_strconv_uint64pow10), ("strconv.ErrRange", laid_strconv_ErrRange), ("strconv.ErrSyntax", laid_strconv_ErrSyntax), ("rubric/kind.names", laid_rubric_kind_names)] }
def KindTextsSaid : Prop := kindTextsRow.holds Tryz.pinned (OpenSpec.ofChange kindTextsSpec)

/-- ITS FALSE NEIGHBOUR: 'it returns false'. Refute it at one input. -/
def kindTextsWrong : ChangeSpec := { name := "kindTexts", fn := fun _ => fun
  | [d1, d2] => { results := [.lit (.bool false)], args := [d1, d2] }
  | _ => none }
def KindTextsWrongFalsely : Prop := kindTextsRow.holds Tryz.pinned (OpenSpec.ofChange kindTextsWrong)

/-- 'rubriclaw11.KindPairs': WHATEVER THE INPUT: true; the input reads as it did. -/
def kindPairsSpec : ChangeSpec := { name := "kindPairs", fn := fun _ => fun
  | [d1, d2, d3, d4] => { results := [.lit (.bool true)], args := [d1, d2, d3, d4] }
  | _ => none }
def kindPairsRow : OpenClaim := { program := "ytgaegajcejpmdaagreatdoor", sum := "44be35244374c91ddfa5c49f619d3843a188583fcfd9a3ff5f8c19c0b3f73e04", func := "rubric/rubriclaw11.KindPairs", spec := "kindPairs", inPlace := ["internal/bytealg.IndexByteString", "internal/bytealg.IndexString", "internal/bytealg.Compare", "internal/abi.NoEscape", "internal/bytealg.MakeNoZero"], unfollowed := true, recurses := true, named := ["rubric/kind.names", "internal/bytealg.MaxLen", "internal/strconv.uint64pow10", "math/bits.deBruijn32tab", "math/bits.deBruijn64tab", "strconv.ErrSyntax", "strconv.ErrRange"], apart := false, laid := [("math/bits.deBruijn32tab", laid_math_bits_deBruijn32tab), ("math/bits.deBruijn64tab", laid_math_bits_deBruijn64tab), ("internal/strconv.uint64pow10", laid_internal_strconv_uint64pow10), ("strconv.ErrRange", laid_strconv_ErrRange), ("strconv.ErrSyntax", laid_strconv_ErrSyntax), ("rubric/kind.names", laid_rubric_kind_names)] }
def KindPairsSaid : Prop := kindPairsRow.holds Tryz.pinned (OpenSpec.ofChange kindPairsSpec)

/-- ITS FALSE NEIGHBOUR: 'it returns false'. Refute it at one input. -/
def kindPairsWrong : ChangeSpec := { name := "kindPairs", fn := fun _ => fun
  | [d1, d2, d3, d4] => { results := [.lit (.bool false)], args := [d1, d2, d3, d4] }
  | _ => none }
def KindPairsWrongFalsely : Prop := kindPairsRow.holds Tryz.pinned (OpenSpec.ofChange kindPairsWrong)

/-- 'rubriclaw11.KindBounds': WHATEVER THE INPUT: true; the input reads as it did. -/
def kindBoundsSpec : ChangeSpec := { name := "kindBounds", fn := fun _ => fun
  | [d] => { results := [.lit (.bool true)], args := [d] }
  | _ => none }
def kindBoundsRow : OpenClaim := { program := "ytgaegajcejpmdaagreatdoor", sum := "44be35244374c91ddfa5c49f619d3843a188583fcfd9a3ff5f8c19c0b3f73e04", func := "rubric/rubriclaw11.KindBounds", spec := "kindBounds", inPlace := ["internal/bytealg.IndexByteString", "internal/bytealg.IndexString", "internal/bytealg.Compare", "internal/abi.NoEscape", "internal/bytealg.MakeNoZero"], unfollowed := true, recurses := true, named := ["rubric/kind.names", "internal/bytealg.MaxLen", "internal/strconv.uint64pow10", "math/bits.deBruijn32tab", "math/bits.deBruijn64tab", "strconv.ErrSyntax", "strconv.ErrRange"], apart := false, laid := [("math/bits.deBruijn32tab", laid_math_bits_deBruijn32tab), ("math/bits.deBruijn64tab", laid_math_bits_deBruijn64tab), ("internal/strconv.uint64pow10", laid_internal_strconv_uint64pow10), ("strconv.ErrRange", laid_strconv_ErrRange), ("strconv.ErrSyntax", laid_strconv_ErrSyntax), ("rubric/kind.names", laid_rubric_kind_names)] }
def KindBoundsSaid : Prop := kindBoundsRow.holds Tryz.pinned (OpenSpec.ofChange kindBoundsSpec)

/-- ITS FALSE NEIGHBOUR: 'it returns false'. Refute it at one input. -/
def kindBoundsWrong : ChangeSpec := { name := "kindBounds", fn := fun _ => fun
  | [d] => { results := [.lit (.bool false)], args := [d] }
  | _ => none }
def KindBoundsWrongFalsely : Prop := kindBoundsRow.holds Tryz.pinned (OpenSpec.ofChange kindBoundsWrong)

/-- 'rubriclaw11.KindBlanks': WHATEVER THE INPUT: true; the input reads as it did. -/
def kindBlanksSpec : ChangeSpec := { name := "kindBlanks", fn := fun _ => fun
  | [d1, d2, d3] => { results := [.lit (.bool true)], args := [d1, d2, d3] }
  | _ => none }
def kindBlanksRow : OpenClaim := { program := "ytgaegajcejpmdaagreatdoor", sum := "44be35244374c91ddfa5c49f619d3843a188583fcfd9a3ff5f8c19c0b3f73e04", func := "rubric/rubriclaw11.KindBlanks", spec := "kindBlanks", inPlace := ["internal/bytealg.IndexByteString", "internal/bytealg.IndexString", "internal/bytealg.Compare", "internal/abi.NoEscape", "internal/bytealg.MakeNoZero"], unfollowed := true, recurses := true, named := ["rubric/kind.names", "internal/bytealg.MaxLen", "internal/strconv.uint64pow10", "math/bits.deBruijn32tab", "math/bits.deBruijn64tab", "strconv.ErrSyntax", "strconv.ErrRange"], apart := false, laid := [("math/bits.deBruijn32tab", laid_math_bits_deBruijn32tab), ("math/bits.deBruijn64tab", laid_math_bits_deBruijn64tab), ("internal/strconv.uint64pow10", laid_internal_strconv_uint64pow10), ("strconv.ErrRange", laid_strconv_ErrRange), ("strconv.ErrSyntax", laid_strconv_ErrSyntax), ("rubric/kind.names", laid_rubric_kind_names)] }
def KindBlanksSaid : Prop := kindBlanksRow.holds Tryz.pinned (OpenSpec.ofChange kindBlanksSpec)

/-- ITS FALSE NEIGHBOUR: 'it returns false'. Refute it at one input. -/
def kindBlanksWrong : ChangeSpec := { name := "kindBlanks", fn := fun _ => fun
  | [d1, d2, d3] => { results := [.lit (.bool false)], args := [d1, d2, d3] }
  | _ => none }
def KindBlanksWrongFalsely : Prop := kindBlanksRow.holds Tryz.pinned (OpenSpec.ofChange kindBlanksWrong)

/- THE SECOND FORM. 'bulk': how many values and letters a reading holds, each counted each time it is reached (what is shared counts as often as it is met; a slice's spare places count too). A statement '..UptoSaid' is the law's where the arguments, and the package variables that the reading takes, are together of bulk at most 1048576: NARROWER than '..Said'. Prove '..Said' where nothing that the law and all that it calls make is longer than what came in: it says more and counts as full. Else prove '..UptoSaid'. A law counts once. -/
mutual
def uptoBulk {H : Type} : DataW H → Nat
  | .lit (.string bytes) => bytes.length + 1
  | .lit _ => 1
  | .nil => 1
  | .ptr d => uptoBulk d + 1
  | .slice elems spare => uptoBulkAll elems + uptoBulkAll spare + 1
  | .agg parts => uptoBulkAll parts + 1
  | .iface _ d => uptoBulk d + 1
  | .map entries => uptoBulkEntries entries + 1
  | .held _ => 1
def uptoBulkAll {H : Type} : List (DataW H) → Nat
  | [] => 0
  | d :: r => uptoBulk d + uptoBulkAll r
def uptoBulkEntries {H : Type} : List (Lit × DataW H) → Nat
  | [] => 0
  | x :: r => uptoBulkEntry x + uptoBulkEntries r
def uptoBulkEntry {H : Type} : Lit × DataW H → Nat
  | (.string bytes, d) => bytes.length + uptoBulk d + 1
  | (_, d) => uptoBulk d + 1
 end
def uptoSmall : (H : Type) → List (DataW H) → Bool := fun _ ds => decide (uptoBulkAll ds ≤ 1048576)
def OpenSpec.upto (s : _root_.Go.ChangeSpec) : _root_.Go.OpenSpec := { _root_.Go.OpenSpec.ofChange s with cond := some uptoSmall }

/-- 'rubriclaw11.KindTables', WHERE WHAT IT READS IS OF BULK AT MOST 1048576: true; the input reads as it did. -/
def kindTablesUptoRow : OpenClaim := { program := "ytgaegajcejpmdaagreatdoor", sum := "44be35244374c91ddfa5c49f619d3843a188583fcfd9a3ff5f8c19c0b3f73e04", func := "rubric/rubriclaw11.KindTables", spec := "kindTables", inPlace := ["internal/bytealg.IndexByteString", "internal/bytealg.IndexString", "internal/bytealg.Compare", "internal/abi.NoEscape", "internal/bytealg.MakeNoZero"], unfollowed := true, recurses := true, named := ["rubric/kind.names", "internal/bytealg.MaxLen", "internal/strconv.uint64pow10", "math/bits.deBruijn32tab", "math/bits.deBruijn64tab", "strconv.ErrSyntax", "strconv.ErrRange"], apart := false, laid := [("math/bits.deBruijn32tab", laid_math_bits_deBruijn32tab), ("math/bits.deBruijn64tab", laid_math_bits_deBruijn64tab), ("internal/strconv.uint64pow10", laid_internal_strconv_uint64pow10), ("strconv.ErrRange", laid_strconv_ErrRange), ("strconv.ErrSyntax", laid_strconv_ErrSyntax), ("rubric/kind.names", laid_rubric_kind_names)], narrowed := true }
def KindTablesUptoSaid : Prop := kindTablesUptoRow.holds Tryz.pinned (OpenSpec.upto kindTablesSpec)

/-- 'rubriclaw11.KindTexts', WHERE WHAT IT READS IS OF BULK AT MOST 1048576: true; the input reads as it did. -/
def kindTextsUptoRow : OpenClaim := { program := "ytgaegajcejpmdaagreatdoor", sum := "44be35244374c91ddfa5c49f619d3843a188583fcfd9a3ff5f8c19c0b3f73e04", func := "rubric/rubriclaw11.KindTexts", spec := "kindTexts", inPlace := ["internal/bytealg.IndexByteString", "internal/bytealg.IndexString", "internal/bytealg.Compare", "internal/abi.NoEscape", "internal/bytealg.MakeNoZero"], unfollowed := true, recurses := true, named := ["rubric/kind.names", "internal/bytealg.MaxLen", "internal/strconv.uint64pow10", "math/bits.deBruijn32tab", "math/bits.deBruijn64tab", "strconv.ErrSyntax", "strconv.ErrRange"], apart := false, laid := [("math/bits.deBruijn32tab", laid_math_bits_deBruijn32tab), ("math/bits.deBruijn64tab", laid_math_bits_deBruijn64tab), ("internal/strconv.uint64pow10", laid_internal_strconv_uint64pow10), ("strconv.ErrRange", laid_strconv_ErrRange), ("strconv.ErrSyntax", laid_strconv_ErrSyntax), ("rubric/kind.names", laid_rubric_kind_names)], narrowed := true }
def KindTextsUptoSaid : Prop := kindTextsUptoRow.holds Tryz.pinned (OpenSpec.upto kindTextsSpec)

/-- 'rubriclaw11.KindPairs', WHERE WHAT IT READS IS OF BULK AT MOST 1048576: true; the input reads as it did. -/
def kindPairsUptoRow : OpenClaim := { program := "ytgaegajcejpmdaagreatdoor", sum := "44be35244374c91ddfa5c49f619d3843a188583fcfd9a3ff5f8c19c0b3f73e04", func := "rubric/rubriclaw11.KindPairs", spec := "kindPairs", inPlace := ["internal/bytealg.IndexByteString", "internal/bytealg.IndexString", "internal/bytealg.Compare", "internal/abi.NoEscape", "internal/bytealg.MakeNoZero"], unfollowed := true, recurses := true, named := ["rubric/kind.names", "internal/bytealg.MaxLen", "internal/strconv.uint64pow10", "math/bits.deBruijn32tab", "math/bits.deBruijn64tab", "strconv.ErrSyntax", "strconv.ErrRange"], apart := false, laid := [("math/bits.deBruijn32tab", laid_math_bits_deBruijn32tab), ("math/bits.deBruijn64tab", laid_math_bits_deBruijn64tab), ("internal/strconv.uint64pow10", laid_internal_strconv_uint64pow10), ("strconv.ErrRange", laid_strconv_ErrRange), ("strconv.ErrSyntax", laid_strconv_ErrSyntax), ("rubric/kind.names", laid_rubric_kind_names)], narrowed := true }
def KindPairsUptoSaid : Prop := kindPairsUptoRow.holds Tryz.pinned (OpenSpec.upto kindPairsSpec)

/-- 'rubriclaw11.KindBounds', WHERE WHAT IT READS IS OF BULK AT MOST 1048576: true; the input reads as it did. -/
def kindBoundsUptoRow : OpenClaim := { program := "ytgaegajcejpmdaagreatdoor", sum := "44be35244374c91ddfa5c49f619d3843a188583fcfd9a3ff5f8c19c0b3f73e04", func := "rubric/rubriclaw11.KindBounds", spec := "kindBounds", inPlace := ["internal/bytealg.IndexByteString", "internal/bytealg.IndexString", "internal/bytealg.Compare", "internal/abi.NoEscape", "internal/bytealg.MakeNoZero"], unfollowed := true, recurses := true, named := ["rubric/kind.names", "internal/bytealg.MaxLen", "internal/strconv.uint64pow10", "math/bits.deBruijn32tab", "math/bits.deBruijn64tab", "strconv.ErrSyntax", "strconv.ErrRange"], apart := false, laid := [("math/bits.deBruijn32tab", laid_math_bits_deBruijn32tab), ("math/bits.deBruijn64tab", laid_math_bits_deBruijn64tab), ("internal/strconv.uint64pow10", laid_internal_strconv_uint64pow10), ("strconv.ErrRange", laid_strconv_ErrRange), ("strconv.ErrSyntax", laid_strconv_ErrSyntax), ("rubric/kind.names", laid_rubric_kind_names)], narrowed := true }
def KindBoundsUptoSaid : Prop := kindBoundsUptoRow.holds Tryz.pinned (OpenSpec.upto kindBoundsSpec)

/-- 'rubriclaw11.KindBlanks', WHERE WHAT IT READS IS OF BULK AT MOST 1048576: true; the input reads as it did. -/
def kindBlanksUptoRow : OpenClaim := { program := "ytgaegajcejpmdaagreatdoor", sum := "44be35244374c91ddfa5c49f619d3843a188583fcfd9a3ff5f8c19c0b3f73e04", func := "rubric/rubriclaw11.KindBlanks", spec := "kindBlanks", inPlace := ["internal/bytealg.IndexByteString", "internal/bytealg.IndexString", "internal/bytealg.Compare", "internal/abi.NoEscape", "internal/bytealg.MakeNoZero"], unfollowed := true, recurses := true, named := ["rubric/kind.names", "internal/bytealg.MaxLen", "internal/strconv.uint64pow10", "math/bits.deBruijn32tab", "math/bits.deBruijn64tab", "strconv.ErrSyntax", "strconv.ErrRange"], apart := false, laid := [("math/bits.deBruijn32tab", laid_math_bits_deBruijn32tab), ("math/bits.deBruijn64tab", laid_math_bits_deBruijn64tab), ("internal/strconv.uint64pow10", laid_internal_strconv_uint64pow10), ("strconv.ErrRange", laid_strconv_ErrRange), ("strconv.ErrSyntax", laid_strconv_ErrSyntax), ("rubric/kind.names", laid_rubric_kind_names)], narrowed := true }
def KindBlanksUptoSaid : Prop := kindBlanksUptoRow.holds Tryz.pinned (OpenSpec.upto kindBlanksSpec)

end Rows
end Go.Proofs.YtgaegajcejpmdaaGreatDoor
