/-
  NARROWER THAN 'FOR EVERY INPUT', by the rows' own cells (each row's printed sentence says how): LensTexts: loops, laid · LensSames: loops, laid · LensWalks: loops, laid · LensWords: laid · LensNests: loops, laid · LexParts: loops, laid · LexReads: laid · LexNames: laid · LexErrors: laid.
  DERIVED. THE GIVEN ROWS OF THIS SEAT. 9 by the template 'for every input the law returns true; each argument reads behind the call as it read before'; 0 by the template 'total and deterministic' (their statements: YtblpekljiilkjaaGreatDoorTotals.lean).
  GIVEN WITH THE SEED: the statements are not yours to turn. If you find one false, say at which input.
  Laid BY PROGRAM, IN A SANDBOX (cutbox-rows.mjs): the forced cells as the released guide's own fill.sh prints them over the translation a86de5c00b259b6c… (all of the seat's roots in one cut). By AI agents, Wed Nov 11 2026. No macro, syntax, notation, axiom, sorry.
-/
import Derived.Test.YtblpekljiilkjaaGreatDoorChecked
import GoSem.Claim
import GoSem.ClaimJoined
import GoSem.ClaimMapViews
import Derived.JoinedTies
import Derived.KernelRfl
namespace Go.Proofs.YtblpekljiilkjaaGreatDoor
/- THE CELL 'sum', in the pinned program and in every row, IS THE sha256 OF THE DUMP (.gsa) THAT YtblpekljiilkjaaGreatDoorProg.lean LOADS. Nothing in Lean hashes anything: it is a label: what it is worth is what the hold of that sum in a sandbox is worth. -/
noncomputable def Tryz.pinned : Pinned := { name := "ytblpekljiilkjaagreatdoor", sum := "a86de5c00b259b6c8f5a8e0f10eb3a8dffe8afa15ea41790885a967c8dbbff94", checked := Tryz.checked }
namespace Rows
def none {H : Type} : Left H := { results := [], args := [] }

/- WHAT THE LISTED PACKAGE-LEVEL VARIABLES READ AS WHEN THE CALL BEGINS. Each datum BY PROGRAM (the guide's laid-datum.mjs) off the statement by which the dump's own 'gosem.cut.vars' lays the variable. In a bare row this is a premise. The card (YtblpekljiilkjaaGreatDoorCards.lean) ties it to the program's text. -/
def laid_math_bits_deBruijn64tab {H : Type} : DataW H := .agg [.lit (.int .u8 0), .lit (.int .u8 1), .lit (.int .u8 56), .lit (.int .u8 2), .lit (.int .u8 57), .lit (.int .u8 49), .lit (.int .u8 28), .lit (.int .u8 3), .lit (.int .u8 61), .lit (.int .u8 58), .lit (.int .u8 42), .lit (.int .u8 50), .lit (.int .u8 38), .lit (.int .u8 29), .lit (.int .u8 17), .lit (.int .u8 4), .lit (.int .u8 62), .lit (.int .u8 47), .lit (.int .u8 59), .lit (.int .u8 36), .lit (.int .u8 45), .lit (.int .u8 43), .lit (.int .u8 51), .lit (.int .u8 22), .lit (.int .u8 53), .lit (.int .u8 39), .lit (.int .u8 33), .lit (.int .u8 30), .lit (.int .u8 24), .lit (.int .u8 18), .lit (.int .u8 12), .lit (.int .u8 5), .lit (.int .u8 63), .lit (.int .u8 55), .lit (.int .u8 48), .lit (.int .u8 27), .lit (.int .u8 60), .lit (.int .u8 41), .lit (.int .u8 37), .lit (.int .u8 16), .lit (.int .u8 46), .lit (.int .u8 35), .lit (.int .u8 44), .lit (.int .u8 21), .lit (.int .u8 52), .lit (.int .u8 32), .lit (.int .u8 23), .lit (.int .u8 11), .lit (.int .u8 54), .lit (.int .u8 26), .lit (.int .u8 40), .lit (.int .u8 15), .lit (.int .u8 34), .lit (.int .u8 20), .lit (.int .u8 31), .lit (.int .u8 10), .lit (.int .u8 25), .lit (.int .u8 14), .lit (.int .u8 19), .lit (.int .u8 9), .lit (.int .u8 13), .lit (.int .u8 8), .lit (.int .u8 7), .lit (.int .u8 6)]
def laid_periscope_lens_words {H : Type} : DataW H := .agg [.lit (.string []), .lit (.string []), .lit (.string [99, 111, 112, 121]), .lit (.string [107, 101, 121]), .lit (.string [99, 111, 110, 115, 116]), .lit (.string [100, 101, 108]), .lit (.string [105, 110, 115]), .lit (.string []), .lit (.string []), .lit (.string []), .lit (.string [115, 119, 97, 112]), .lit (.string []), .lit (.string [105, 110, 118]), .lit (.string [100, 105, 99, 116]), .lit (.string [108, 101, 102, 116]), .lit (.string [114, 105, 103, 104, 116]), .lit (.string [107, 101, 101, 112]), .lit (.string [110, 111, 114, 109])]

/-- 'periscopelaw10.LensTexts': WHATEVER THE INPUT: true; the input reads as it did. -/
def lensTextsSpec : ChangeSpec := { name := "lensTexts", fn := fun _ => fun
  | [d] => { results := [.lit (.bool true)], args := [d] }
  | _ => none }
def lensTextsRow : OpenClaim := { program := "ytblpekljiilkjaagreatdoor", sum := "a86de5c00b259b6c8f5a8e0f10eb3a8dffe8afa15ea41790885a967c8dbbff94", func := "periscope/periscopelaw10.LensTexts", spec := "lensTexts", inPlace := ["internal/bytealg.Compare", "internal/bytealg.IndexByteString"], unfollowed := true, recurses := true, named := ["math/bits.deBruijn64tab", "periscope/lens.words"], loops := true, apart := false, laid := [("math/bits.deBruijn64tab", laid_math_bits_deBruijn64tab), ("periscope/lens.words", laid_periscope_lens_words)] }
def LensTextsSaid : Prop := lensTextsRow.holds Tryz.pinned (OpenSpec.ofChange lensTextsSpec)

/-- ITS FALSE NEIGHBOUR: 'it returns false'. Refute it at one input. -/
def lensTextsWrong : ChangeSpec := { name := "lensTexts", fn := fun _ => fun
  | [d] => { results := [.lit (.bool false)], args := [d] }
  | _ => none }
def LensTextsWrongFalsely : Prop := lensTextsRow.holds Tryz.pinned (OpenSpec.ofChange lensTextsWrong)

/-- 'periscopelaw10.LensSames': WHATEVER THE INPUT: true; the input reads as it did. -/
def lensSamesSpec : ChangeSpec := { name := "lensSames", fn := fun _ => fun
  | [d1, d2, d3] => { results := [.lit (.bool true)], args := [d1, d2, d3] }
  | _ => none }
def lensSamesRow : OpenClaim := { program := "ytblpekljiilkjaagreatdoor", sum := "a86de5c00b259b6c8f5a8e0f10eb3a8dffe8afa15ea41790885a967c8dbbff94", func := "periscope/periscopelaw10.LensSames", spec := "lensSames", inPlace := ["internal/bytealg.Compare", "internal/bytealg.IndexByteString"], unfollowed := true, recurses := true, named := ["math/bits.deBruijn64tab", "periscope/lens.words"], loops := true, apart := false, laid := [("math/bits.deBruijn64tab", laid_math_bits_deBruijn64tab), ("periscope/lens.words", laid_periscope_lens_words)] }
def LensSamesSaid : Prop := lensSamesRow.holds Tryz.pinned (OpenSpec.ofChange lensSamesSpec)

/-- ITS FALSE NEIGHBOUR: 'it returns false'. Refute it at one input. -/
def lensSamesWrong : ChangeSpec := { name := "lensSames", fn := fun _ => fun
  | [d1, d2, d3] => { results := [.lit (.bool false)], args := [d1, d2, d3] }
  | _ => none }
def LensSamesWrongFalsely : Prop := lensSamesRow.holds Tryz.pinned (OpenSpec.ofChange lensSamesWrong)

/-- 'periscopelaw10.LensWalks': WHATEVER THE INPUT: true; the input reads as it did. -/
def lensWalksSpec : ChangeSpec := { name := "lensWalks", fn := fun _ => fun
  | [d1, d2] => { results := [.lit (.bool true)], args := [d1, d2] }
  | _ => none }
def lensWalksRow : OpenClaim := { program := "ytblpekljiilkjaagreatdoor", sum := "a86de5c00b259b6c8f5a8e0f10eb3a8dffe8afa15ea41790885a967c8dbbff94", func := "periscope/periscopelaw10.LensWalks", spec := "lensWalks", inPlace := ["internal/bytealg.Compare", "internal/bytealg.IndexByteString"], unfollowed := true, recurses := true, named := ["math/bits.deBruijn64tab", "periscope/lens.words"], loops := true, apart := false, laid := [("math/bits.deBruijn64tab", laid_math_bits_deBruijn64tab), ("periscope/lens.words", laid_periscope_lens_words)] }
def LensWalksSaid : Prop := lensWalksRow.holds Tryz.pinned (OpenSpec.ofChange lensWalksSpec)

/-- ITS FALSE NEIGHBOUR: 'it returns false'. Refute it at one input. -/
def lensWalksWrong : ChangeSpec := { name := "lensWalks", fn := fun _ => fun
  | [d1, d2] => { results := [.lit (.bool false)], args := [d1, d2] }
  | _ => none }
def LensWalksWrongFalsely : Prop := lensWalksRow.holds Tryz.pinned (OpenSpec.ofChange lensWalksWrong)

/-- 'periscopelaw10.LensWords': WHATEVER THE INPUT: true; the input reads as it did. -/
def lensWordsSpec : ChangeSpec := { name := "lensWords", fn := fun _ => fun
  | [d1, d2] => { results := [.lit (.bool true)], args := [d1, d2] }
  | _ => none }
def lensWordsRow : OpenClaim := { program := "ytblpekljiilkjaagreatdoor", sum := "a86de5c00b259b6c8f5a8e0f10eb3a8dffe8afa15ea41790885a967c8dbbff94", func := "periscope/periscopelaw10.LensWords", spec := "lensWords", inPlace := ["internal/bytealg.Compare", "internal/bytealg.IndexByteString"], unfollowed := true, recurses := true, named := ["math/bits.deBruijn64tab", "periscope/lens.words"], apart := false, laid := [("math/bits.deBruijn64tab", laid_math_bits_deBruijn64tab), ("periscope/lens.words", laid_periscope_lens_words)] }
def LensWordsSaid : Prop := lensWordsRow.holds Tryz.pinned (OpenSpec.ofChange lensWordsSpec)

/-- ITS FALSE NEIGHBOUR: 'it returns false'. Refute it at one input. -/
def lensWordsWrong : ChangeSpec := { name := "lensWords", fn := fun _ => fun
  | [d1, d2] => { results := [.lit (.bool false)], args := [d1, d2] }
  | _ => none }
def LensWordsWrongFalsely : Prop := lensWordsRow.holds Tryz.pinned (OpenSpec.ofChange lensWordsWrong)

/-- 'periscopelaw10.LensNests': WHATEVER THE INPUT: true; the input reads as it did. -/
def lensNestsSpec : ChangeSpec := { name := "lensNests", fn := fun _ => fun
  | [d] => { results := [.lit (.bool true)], args := [d] }
  | _ => none }
def lensNestsRow : OpenClaim := { program := "ytblpekljiilkjaagreatdoor", sum := "a86de5c00b259b6c8f5a8e0f10eb3a8dffe8afa15ea41790885a967c8dbbff94", func := "periscope/periscopelaw10.LensNests", spec := "lensNests", inPlace := ["internal/bytealg.Compare", "internal/bytealg.IndexByteString"], unfollowed := true, recurses := true, named := ["math/bits.deBruijn64tab", "periscope/lens.words"], loops := true, apart := false, laid := [("math/bits.deBruijn64tab", laid_math_bits_deBruijn64tab), ("periscope/lens.words", laid_periscope_lens_words)] }
def LensNestsSaid : Prop := lensNestsRow.holds Tryz.pinned (OpenSpec.ofChange lensNestsSpec)

/-- ITS FALSE NEIGHBOUR: 'it returns false'. Refute it at one input. -/
def lensNestsWrong : ChangeSpec := { name := "lensNests", fn := fun _ => fun
  | [d] => { results := [.lit (.bool false)], args := [d] }
  | _ => none }
def LensNestsWrongFalsely : Prop := lensNestsRow.holds Tryz.pinned (OpenSpec.ofChange lensNestsWrong)

/-- 'periscopelaw11.LexParts': WHATEVER THE INPUT: true; the input reads as it did. -/
def lexPartsSpec : ChangeSpec := { name := "lexParts", fn := fun _ => fun
  | [d] => { results := [.lit (.bool true)], args := [d] }
  | _ => none }
def lexPartsRow : OpenClaim := { program := "ytblpekljiilkjaagreatdoor", sum := "a86de5c00b259b6c8f5a8e0f10eb3a8dffe8afa15ea41790885a967c8dbbff94", func := "periscope/periscopelaw11.LexParts", spec := "lexParts", inPlace := ["internal/bytealg.IndexByteString", "internal/bytealg.IndexString", "internal/bytealg.Compare"], unfollowed := true, recurses := true, named := ["internal/bytealg.MaxLen", "math/bits.deBruijn64tab"], loops := true, apart := false, laid := [("math/bits.deBruijn64tab", laid_math_bits_deBruijn64tab)] }
def LexPartsSaid : Prop := lexPartsRow.holds Tryz.pinned (OpenSpec.ofChange lexPartsSpec)

/-- ITS FALSE NEIGHBOUR: 'it returns false'. Refute it at one input. -/
def lexPartsWrong : ChangeSpec := { name := "lexParts", fn := fun _ => fun
  | [d] => { results := [.lit (.bool false)], args := [d] }
  | _ => none }
def LexPartsWrongFalsely : Prop := lexPartsRow.holds Tryz.pinned (OpenSpec.ofChange lexPartsWrong)

/-- 'periscopelaw11.LexReads': WHATEVER THE INPUT: true; the input reads as it did. -/
def lexReadsSpec : ChangeSpec := { name := "lexReads", fn := fun _ => fun
  | [d] => { results := [.lit (.bool true)], args := [d] }
  | _ => none }
def lexReadsRow : OpenClaim := { program := "ytblpekljiilkjaagreatdoor", sum := "a86de5c00b259b6c8f5a8e0f10eb3a8dffe8afa15ea41790885a967c8dbbff94", func := "periscope/periscopelaw11.LexReads", spec := "lexReads", inPlace := ["internal/bytealg.IndexByteString", "internal/bytealg.IndexString", "internal/bytealg.Compare"], unfollowed := true, recurses := true, named := ["internal/bytealg.MaxLen", "math/bits.deBruijn64tab"], apart := false, laid := [("math/bits.deBruijn64tab", laid_math_bits_deBruijn64tab)] }
def LexReadsSaid : Prop := lexReadsRow.holds Tryz.pinned (OpenSpec.ofChange lexReadsSpec)

/-- ITS FALSE NEIGHBOUR: 'it returns false'. Refute it at one input. -/
def lexReadsWrong : ChangeSpec := { name := "lexReads", fn := fun _ => fun
  | [d] => { results := [.lit (.bool false)], args := [d] }
  | _ => none }
def LexReadsWrongFalsely : Prop := lexReadsRow.holds Tryz.pinned (OpenSpec.ofChange lexReadsWrong)

/-- 'periscopelaw11.LexNames': WHATEVER THE INPUT: true; the input reads as it did. -/
def lexNamesSpec : ChangeSpec := { name := "lexNames", fn := fun _ => fun
  | [d1, d2] => { results := [.lit (.bool true)], args := [d1, d2] }
  | _ => none }
def lexNamesRow : OpenClaim := { program := "ytblpekljiilkjaagreatdoor", sum := "a86de5c00b259b6c8f5a8e0f10eb3a8dffe8afa15ea41790885a967c8dbbff94", func := "periscope/periscopelaw11.LexNames", spec := "lexNames", inPlace := ["internal/bytealg.IndexByteString", "internal/bytealg.IndexString", "internal/bytealg.Compare"], unfollowed := true, recurses := true, named := ["internal/bytealg.MaxLen", "math/bits.deBruijn64tab"], apart := false, laid := [("math/bits.deBruijn64tab", laid_math_bits_deBruijn64tab)] }
def LexNamesSaid : Prop := lexNamesRow.holds Tryz.pinned (OpenSpec.ofChange lexNamesSpec)

/-- ITS FALSE NEIGHBOUR: 'it returns false'. Refute it at one input. -/
def lexNamesWrong : ChangeSpec := { name := "lexNames", fn := fun _ => fun
  | [d1, d2] => { results := [.lit (.bool false)], args := [d1, d2] }
  | _ => none }
def LexNamesWrongFalsely : Prop := lexNamesRow.holds Tryz.pinned (OpenSpec.ofChange lexNamesWrong)

/-- 'periscopelaw11.LexErrors': WHATEVER THE INPUT: true; the input reads as it did. -/
def lexErrorsSpec : ChangeSpec := { name := "lexErrors", fn := fun _ => fun
  | [d1, d2] => { results := [.lit (.bool true)], args := [d1, d2] }
  | _ => none }
def lexErrorsRow : OpenClaim := { program := "ytblpekljiilkjaagreatdoor", sum := "a86de5c00b259b6c8f5a8e0f10eb3a8dffe8afa15ea41790885a967c8dbbff94", func := "periscope/periscopelaw11.LexErrors", spec := "lexErrors", inPlace := ["internal/bytealg.IndexByteString", "internal/bytealg.IndexString", "internal/bytealg.Compare"], unfollowed := true, recurses := true, named := ["internal/bytealg.MaxLen", "math/bits.deBruijn64tab"], apart := false, laid := [("math/bits.deBruijn64tab", laid_math_bits_deBruijn64tab)] }
def LexErrorsSaid : Prop := lexErrorsRow.holds Tryz.pinned (OpenSpec.ofChange lexErrorsSpec)

/-- ITS FALSE NEIGHBOUR: 'it returns false'. Refute it at one input. -/
def lexErrorsWrong : ChangeSpec := { name := "lexErrors", fn := fun _ => fun
  | [d1, d2] => { results := [.lit (.bool false)], args := [d1, d2] }
  | _ => none }
def LexErrorsWrongFalsely : Prop := lexErrorsRow.holds Tryz.pinned (OpenSpec.ofChange lexErrorsWrong)

/- THE SECOND FORM. 'bulk': how many values and letters a reading holds, each counted each time it is reached (what is shared counts as often as it is met; a slice's spare places count too). A statement '..UptoSaid' is the law's where the arguments, and the package variables that the reading takes, are together of bulk at most 1048576: NARROWER than '..Said'. Prove '..Said' where nothing that the law and all that it calls make is longer than what came in: it says more and counts as full. Else prove '..UptoSaid'. A law counts once. -/
mutual
def uptoBulk {H : Type} : DataW H → Nat
  | .lit (.string bytes) => bytes.length + 1
  | .lit _ => 1
  | .nil => 1
  | .ptr d => uptoBulk d + 1
  | .slice elems spare => uptoBulkAll elems + uptoBulkAll spare + 1
  | .agg parts => uptoBulkAll parts + 1
  | .iface _ d => uptoBulk d + 1
  | .map entries => uptoBulkEntries entries + 1
  | .held _ => 1
def uptoBulkAll {H : Type} : List (DataW H) → Nat
  | [] => 0
  | d :: r => uptoBulk d + uptoBulkAll r
def uptoBulkEntries {H : Type} : List (Lit × DataW H) → Nat
  | [] => 0
  | x :: r => uptoBulkEntry x + uptoBulkEntries r
def uptoBulkEntry {H : Type} : Lit × DataW H → Nat
  | (.string bytes, d) => bytes.length + uptoBulk d + 1
  | (_, d) => uptoBulk d + 1
 end
def uptoSmall : (H : Type) → List (DataW H) → Bool := fun _ ds => decide (uptoBulkAll ds ≤ 1048576)
def OpenSpec.upto (s : _root_.Go.ChangeSpec) : _root_.Go.OpenSpec := { _root_.Go.OpenSpec.ofChange s with cond := some uptoSmall }

/-- 'periscopelaw10.LensTexts', WHERE WHAT IT READS IS OF BULK AT MOST 1048576: true; the input reads as it did. -/
def lensTextsUptoRow : OpenClaim := { program := "ytblpekljiilkjaagreatdoor", sum := "a86de5c00b259b6c8f5a8e0f10eb3a8dffe8afa15ea41790885a967c8dbbff94", func := "periscope/periscopelaw10.LensTexts", spec := "lensTexts", inPlace := ["internal/bytealg.Compare", "internal/bytealg.IndexByteString"], unfollowed := true, recurses := true, named := ["math/bits.deBruijn64tab", "periscope/lens.words"], loops := true, apart := false, laid := [("math/bits.deBruijn64tab", laid_math_bits_deBruijn64tab), ("periscope/lens.words", laid_periscope_lens_words)], narrowed := true }
def LensTextsUptoSaid : Prop := lensTextsUptoRow.holds Tryz.pinned (OpenSpec.upto lensTextsSpec)

/-- 'periscopelaw10.LensSames', WHERE WHAT IT READS IS OF BULK AT MOST 1048576: true; the input reads as it did. -/
def lensSamesUptoRow : OpenClaim := { program := "ytblpekljiilkjaagreatdoor", sum := "a86de5c00b259b6c8f5a8e0f10eb3a8dffe8afa15ea41790885a967c8dbbff94", func := "periscope/periscopelaw10.LensSames", spec := "lensSames", inPlace := ["internal/bytealg.Compare", "internal/bytealg.IndexByteString"], unfollowed := true, recurses := true, named := ["math/bits.deBruijn64tab", "periscope/lens.words"], loops := true, apart := false, laid := [("math/bits.deBruijn64tab", laid_math_bits_deBruijn64tab), ("periscope/lens.words", laid_periscope_lens_words)], narrowed := true }
def LensSamesUptoSaid : Prop := lensSamesUptoRow.holds Tryz.pinned (OpenSpec.upto lensSamesSpec)

/-- 'periscopelaw10.LensWalks', WHERE WHAT IT READS IS OF BULK AT MOST 1048576: true; the input reads as it did. -/
def lensWalksUptoRow : OpenClaim := { program := "ytblpekljiilkjaagreatdoor", sum := "a86de5c00b259b6c8f5a8e0f10eb3a8dffe8afa15ea41790885a967c8dbbff94", func := "periscope/periscopelaw10.LensWalks", spec := "lensWalks", inPlace := ["internal/bytealg.Compare", "internal/bytealg.IndexByteString"], unfollowed := true, recurses := true, named := ["math/bits.deBruijn64tab", "periscope/lens.words"], loops := true, apart := false, laid := [("math/bits.deBruijn64tab", laid_math_bits_deBruijn64tab), ("periscope/lens.words", laid_periscope_lens_words)], narrowed := true }
def LensWalksUptoSaid : Prop := lensWalksUptoRow.holds Tryz.pinned (OpenSpec.upto lensWalksSpec)

/-- 'periscopelaw10.LensWords', WHERE WHAT IT READS IS OF BULK AT MOST 1048576: true; the input reads as it did. -/
def lensWordsUptoRow : OpenClaim := { program := "ytblpekljiilkjaagreatdoor", sum := "a86de5c00b259b6c8f5a8e0f10eb3a8dffe8afa15ea41790885a967c8dbbff94", func := "periscope/periscopelaw10.LensWords", spec := "lensWords", inPlace := ["internal/bytealg.Compare", "internal/bytealg.IndexByteString"], unfollowed := true, recurses := true, named := ["math/bits.deBruijn64tab", "periscope/lens.words"], apart := false, laid := [("math/bits.deBruijn64tab", laid_math_bits_deBruijn64tab), ("periscope/lens.words", laid_periscope_lens_words)], narrowed := true }
def LensWordsUptoSaid : Prop := lensWordsUptoRow.holds Tryz.pinned (OpenSpec.upto lensWordsSpec)

/-- 'periscopelaw10.LensNests', WHERE WHAT IT READS IS OF BULK AT MOST 1048576: true; the input reads as it did. -/
def lensNestsUptoRow : OpenClaim := { program := "ytblpekljiilkjaagreatdoor", sum := "a86de5c00b259b6c8f5a8e0f10eb3a8dffe8afa15ea41790885a967c8dbbff94", func := "periscope/periscopelaw10.LensNests", spec := "lensNests", inPlace := ["internal/bytealg.Compare", "internal/bytealg.IndexByteString"], unfollowed := true, recurses := true, named := ["math/bits.deBruijn64tab", "periscope/lens.words"], loops := true, apart := false, laid := [("math/bits.deBruijn64tab", laid_math_bits_deBruijn64tab), ("periscope/lens.words", laid_periscope_lens_words)], narrowed := true }
def LensNestsUptoSaid : Prop := lensNestsUptoRow.holds Tryz.pinned (OpenSpec.upto lensNestsSpec)

/-- 'periscopelaw11.LexParts', WHERE WHAT IT READS IS OF BULK AT MOST 1048576: true; the input reads as it did. -/
def lexPartsUptoRow : OpenClaim := { program := "ytblpekljiilkjaagreatdoor", sum := "a86de5c00b259b6c8f5a8e0f10eb3a8dffe8afa15ea41790885a967c8dbbff94", func := "periscope/periscopelaw11.LexParts", spec := "lexParts", inPlace := ["internal/bytealg.IndexByteString", "internal/bytealg.IndexString", "internal/bytealg.Compare"], unfollowed := true, recurses := true, named := ["internal/bytealg.MaxLen", "math/bits.deBruijn64tab"], loops := true, apart := false, laid := [("math/bits.deBruijn64tab", laid_math_bits_deBruijn64tab)], narrowed := true }
def LexPartsUptoSaid : Prop := lexPartsUptoRow.holds Tryz.pinned (OpenSpec.upto lexPartsSpec)

/-- 'periscopelaw11.LexReads', WHERE WHAT IT READS IS OF BULK AT MOST 1048576: true; the input reads as it did. -/
def lexReadsUptoRow : OpenClaim := { program := "ytblpekljiilkjaagreatdoor", sum := "a86de5c00b259b6c8f5a8e0f10eb3a8dffe8afa15ea41790885a967c8dbbff94", func := "periscope/periscopelaw11.LexReads", spec := "lexReads", inPlace := ["internal/bytealg.IndexByteString", "internal/bytealg.IndexString", "internal/bytealg.Compare"], unfollowed := true, recurses := true, named := ["internal/bytealg.MaxLen", "math/bits.deBruijn64tab"], apart := false, laid := [("math/bits.deBruijn64tab", laid_math_bits_deBruijn64tab)], narrowed := true }
def LexReadsUptoSaid : Prop := lexReadsUptoRow.holds Tryz.pinned (OpenSpec.upto lexReadsSpec)

/-- 'periscopelaw11.LexNames', WHERE WHAT IT READS IS OF BULK AT MOST 1048576: true; the input reads as it did. -/
def lexNamesUptoRow : OpenClaim := { program := "ytblpekljiilkjaagreatdoor", sum := "a86de5c00b259b6c8f5a8e0f10eb3a8dffe8afa15ea41790885a967c8dbbff94", func := "periscope/periscopelaw11.LexNames", spec := "lexNames", inPlace := ["internal/bytealg.IndexByteString", "internal/bytealg.IndexString", "internal/bytealg.Compare"], unfollowed := true, recurses := true, named := ["internal/bytealg.MaxLen", "math/bits.deBruijn64tab"], apart := false, laid := [("math/bits.deBruijn64tab", laid_math_bits_deBruijn64tab)], narrowed := true }
def LexNamesUptoSaid : Prop := lexNamesUptoRow.holds Tryz.pinned (OpenSpec.upto lexNamesSpec)

/-- 'periscopelaw11.LexErrors', WHERE WHAT IT READS IS OF BULK AT MOST 1048576: true; the input reads as it did. -/
def lexErrorsUptoRow : OpenClaim := { program := "ytblpekljiilkjaagreatdoor", sum := "a86de5c00b259b6c8f5a8e0f10eb3a8dffe8afa15ea41790885a967c8dbbff94", func := "periscope/periscopelaw11.LexErrors", spec := "lexErrors", inPlace := ["internal/bytealg.IndexByteString", "internal/bytealg.IndexString", "internal/bytealg.Compare"], unfollowed := true, recurses := true, named := ["internal/bytealg.MaxLen", "math/bits.deBruijn64tab"], apart := false, laid := [("math/bits.deBruijn64tab", laid_math_bits_deBruijn64tab)], narrowed := true }
def LexErrorsUptoSaid : Prop := lexErrorsUptoRow.holds Tryz.pinned (OpenSpec.upto lexErrorsSpec)

end Rows
end Go.Proofs.YtblpekljiilkjaaGreatDoor
