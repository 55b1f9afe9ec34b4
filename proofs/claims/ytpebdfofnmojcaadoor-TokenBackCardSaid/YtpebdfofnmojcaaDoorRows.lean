/-
  NARROWER THAN 'FOR EVERY INPUT', by the rows' own cells (each row's printed sentence says how): TokenNames: laid · TokenBack: laid · TokenPlaces: laid · TokenBlanks: laid · TokenStrings: laid.
  DERIVED. THE GIVEN ROWS OF THIS SEAT. 5 by the template 'for every input the law returns true; each argument reads behind the call as it read before'; 0 by the template 'total and deterministic' (their statements: YtpebdfofnmojcaaDoorTotals.lean).
  GIVEN WITH THE SEED: the statements are not yours to turn. If you find one false, say at which input.
  Laid BY PROGRAM, IN A SANDBOX (cutbox-rows.mjs): the forced cells as the released guide's own fill.sh prints them over the translation b277f4eb22af5537… (all of the seat's roots in one cut). By AI agents, Wed Nov 11 2026. No macro, syntax, notation, axiom, sorry.
-/
import Derived.Test.YtpebdfofnmojcaaDoorChecked
import GoSem.PinnedTables
import GoSem.Claim
import GoSem.ClaimJoined
import GoSem.ClaimMapViews
import Derived.JoinedTies
import Derived.KernelRfl
namespace Go.Proofs.YtpebdfofnmojcaaDoor
/- THE CELL 'sum', in the pinned program and in every row, IS THE sha256 OF THE DUMP (.gsa) THAT YtpebdfofnmojcaaDoorProg.lean LOADS. Nothing in Lean hashes anything: it is a label: what it is worth is what the hold of that sum in a sandbox is worth. -/
noncomputable def Tryd.pinned : Pinned := { name := "ytpebdfofnmojcaadoor", sum := "b277f4eb22af553725530ae7ecd1023d116ef09a7f1d0a8ef3ffe26b4c5108aa", checked := Tryd.checked }
namespace Rows
def none {H : Type} : Left H := { results := [], args := [] }

/- WHAT THE LISTED PACKAGE-LEVEL VARIABLES READ AS WHEN THE CALL BEGINS. Each datum BY PROGRAM (the guide's laid-datum.mjs) off the statement by which the dump's own 'gosem.cut.vars' lays the variable. In a bare row this is a premise. The card (YtpebdfofnmojcaaDoorCards.lean) ties it to the program's text. -/
def laid_unicode_utf8_acceptRanges {H : Type} : DataW H := .agg [.agg [.lit (.int .u8 128), .lit (.int .u8 191)], .agg [.lit (.int .u8 160), .lit (.int .u8 191)], .agg [.lit (.int .u8 128), .lit (.int .u8 159)], .agg [.lit (.int .u8 144), .lit (.int .u8 191)], .agg [.lit (.int .u8 128), .lit (.int .u8 143)], .agg [.lit (.int .u8 0), .lit (.int .u8 0)], .agg [.lit (.int .u8 0), .lit (.int .u8 0)], .agg [.lit (.int .u8 0), .lit (.int .u8 0)], .agg [.lit (.int .u8 0), .lit (.int .u8 0)], .agg [.lit (.int .u8 0), .lit (.int .u8 0)], .agg [.lit (.int .u8 0), .lit (.int .u8 0)], .agg [.lit (.int .u8 0), .lit (.int .u8 0)], .agg [.lit (.int .u8 0), .lit (.int .u8 0)], .agg [.lit (.int .u8 0), .lit (.int .u8 0)], .agg [.lit (.int .u8 0), .lit (.int .u8 0)], .agg [.lit (.int .u8 0), .lit (.int .u8 0)]]
def laid_hackamore_token_keywords {H : Type} : DataW H := .agg [.lit (.string [97, 99, 116, 111, 114]), .lit (.string [97, 110, 100]), .lit (.string [97, 115]), .lit (.string [98, 101]), .lit (.string [98, 111, 120]), .lit (.string [98, 114, 101, 97, 107]), .lit (.string [99, 108, 97, 115, 115]), .lit (.string [99, 111, 110, 115, 117, 109, 101]), .lit (.string [99, 111, 110, 116, 105, 110, 117, 101]), .lit (.string [100, 111]), .lit (.string [101, 108, 115, 101]), .lit (.string [101, 108, 115, 101, 105, 102]), .lit (.string [101, 110, 100]), .lit (.string [101, 114, 114, 111, 114]), .lit (.string [102, 97, 108, 115, 101]), .lit (.string [102, 111, 114]), .lit (.string [102, 117, 110]), .lit (.string [105, 102]), .lit (.string [105, 102, 100, 101, 102]), .lit (.string [105, 110]), .lit (.string [105, 110, 116, 101, 114, 102, 97, 99, 101]), .lit (.string [105, 115]), .lit (.string [105, 115, 110, 116]), .lit (.string [105, 115, 111]), .lit (.string [108, 101, 116]), .lit (.string [109, 97, 116, 99, 104]), .lit (.string [110, 101, 119]), .lit (.string [110, 111, 116]), .lit (.string [111, 98, 106, 101, 99, 116]), .lit (.string [111, 114]), .lit (.string [112, 114, 105, 109, 105, 116, 105, 118, 101]), .lit (.string [114, 101, 99, 111, 118, 101, 114]), .lit (.string [114, 101, 102]), .lit (.string [114, 101, 112, 101, 97, 116]), .lit (.string [114, 101, 116, 117, 114, 110]), .lit (.string [116, 97, 103]), .lit (.string [116, 104, 101, 110]), .lit (.string [116, 104, 105, 115]), .lit (.string [116, 114, 97, 105, 116]), .lit (.string [116, 114, 110]), .lit (.string [116, 114, 117, 101]), .lit (.string [116, 114, 121]), .lit (.string [116, 121, 112, 101]), .lit (.string [117, 110, 116, 105, 108]), .lit (.string [117, 115, 101]), .lit (.string [118, 97, 108]), .lit (.string [118, 97, 114]), .lit (.string [119, 104, 101, 114, 101]), .lit (.string [119, 104, 105, 108, 101]), .lit (.string [119, 105, 116, 104]), .lit (.string [120, 111, 114])]
def laid_hackamore_token_symbols {H : Type} : DataW H := .agg [.lit (.string [60, 60]), .lit (.string [62, 62]), .lit (.string [61, 61]), .lit (.string [33, 61]), .lit (.string [60, 61]), .lit (.string [62, 61]), .lit (.string [61, 62]), .lit (.string [45, 62]), .lit (.string [46, 62]), .lit (.string [43, 63]), .lit (.string [45, 63]), .lit (.string [42, 63]), .lit (.string [47, 63]), .lit (.string [37, 63]), .lit (.string [35, 114, 101, 97, 100]), .lit (.string [35, 115, 101, 110, 100]), .lit (.string [35, 115, 104, 97, 114, 101]), .lit (.string [35, 97, 108, 105, 97, 115]), .lit (.string [35, 97, 110, 121]), .lit (.string [40]), .lit (.string [41]), .lit (.string [91]), .lit (.string [93]), .lit (.string [123]), .lit (.string [125]), .lit (.string [44]), .lit (.string [46]), .lit (.string [58]), .lit (.string [59]), .lit (.string [63]), .lit (.string [61]), .lit (.string [60]), .lit (.string [62]), .lit (.string [43]), .lit (.string [45]), .lit (.string [42]), .lit (.string [47]), .lit (.string [37]), .lit (.string [124]), .lit (.string [38]), .lit (.string [94]), .lit (.string [33]), .lit (.string [126])]
/-- One of Go's own tables, pinned by name: the form's constant. -/
def laid_unicode_utf8_first : DataW Unit := Go.Pinned.utf8First

/-- 'hackamorelaw01.TokenNames': WHATEVER THE INPUT: true; the input reads as it did. -/
def tokenNamesSpec : ChangeSpec := { name := "tokenNames", fn := fun _ => fun
  | [d] => { results := [.lit (.bool true)], args := [d] }
  | _ => none }
def tokenNamesRow : OpenClaim := { program := "ytpebdfofnmojcaadoor", sum := "b277f4eb22af553725530ae7ecd1023d116ef09a7f1d0a8ef3ffe26b4c5108aa", func := "hackamore/hackamorelaw01.TokenNames", spec := "tokenNames", inPlace := ["math/bits.Add64", "internal/bytealg.IndexByteString", "internal/bytealg.IndexString"], unfollowed := true, recurses := true, named := ["hackamore/token.keywords", "hackamore/token.symbols", "math/bits.divideError", "math/bits.overflowError", "internal/bytealg.MaxLen", "unicode/utf8.first", "unicode/utf8.acceptRanges"], apart := false, laid := [("unicode/utf8.acceptRanges", laid_unicode_utf8_acceptRanges), ("hackamore/token.keywords", laid_hackamore_token_keywords), ("hackamore/token.symbols", laid_hackamore_token_symbols), ("unicode/utf8.first", laid_unicode_utf8_first)] }
def TokenNamesSaid : Prop := tokenNamesRow.holds Tryd.pinned (OpenSpec.ofChange tokenNamesSpec)

/-- ITS FALSE NEIGHBOUR: 'it returns false'. Refute it at one input. -/
def tokenNamesWrong : ChangeSpec := { name := "tokenNames", fn := fun _ => fun
  | [d] => { results := [.lit (.bool false)], args := [d] }
  | _ => none }
def TokenNamesWrongFalsely : Prop := tokenNamesRow.holds Tryd.pinned (OpenSpec.ofChange tokenNamesWrong)

/-- 'hackamorelaw01.TokenBack': WHATEVER THE INPUT: true; the input reads as it did. -/
def tokenBackSpec : ChangeSpec := { name := "tokenBack", fn := fun _ => fun
  | [d] => { results := [.lit (.bool true)], args := [d] }
  | _ => none }
def tokenBackRow : OpenClaim := { program := "ytpebdfofnmojcaadoor", sum := "b277f4eb22af553725530ae7ecd1023d116ef09a7f1d0a8ef3ffe26b4c5108aa", func := "hackamore/hackamorelaw01.TokenBack", spec := "tokenBack", inPlace := ["math/bits.Add64", "internal/bytealg.IndexByteString", "internal/bytealg.IndexString"], unfollowed := true, recurses := true, named := ["hackamore/token.keywords", "hackamore/token.symbols", "math/bits.divideError", "math/bits.overflowError", "internal/bytealg.MaxLen", "unicode/utf8.first", "unicode/utf8.acceptRanges"], apart := false, laid := [("unicode/utf8.acceptRanges", laid_unicode_utf8_acceptRanges), ("hackamore/token.keywords", laid_hackamore_token_keywords), ("hackamore/token.symbols", laid_hackamore_token_symbols), ("unicode/utf8.first", laid_unicode_utf8_first)] }
def TokenBackSaid : Prop := tokenBackRow.holds Tryd.pinned (OpenSpec.ofChange tokenBackSpec)

/-- ITS FALSE NEIGHBOUR: 'it returns false'. Refute it at one input. -/
def tokenBackWrong : ChangeSpec := { name := "tokenBack", fn := fun _ => fun
  | [d] => { results := [.lit (.bool false)], args := [d] }
  | _ => none }
def TokenBackWrongFalsely : Prop := tokenBackRow.holds Tryd.pinned (OpenSpec.ofChange tokenBackWrong)

/-- 'hackamorelaw01.TokenPlaces': WHATEVER THE INPUT: true; the input reads as it did. -/
def tokenPlacesSpec : ChangeSpec := { name := "tokenPlaces", fn := fun _ => fun
  | [d1, d2] => { results := [.lit (.bool true)], args := [d1, d2] }
  | _ => none }
def tokenPlacesRow : OpenClaim := { program := "ytpebdfofnmojcaadoor", sum := "b277f4eb22af553725530ae7ecd1023d116ef09a7f1d0a8ef3ffe26b4c5108aa", func := "hackamore/hackamorelaw01.TokenPlaces", spec := "tokenPlaces", inPlace := ["math/bits.Add64", "internal/bytealg.IndexByteString", "internal/bytealg.IndexString"], unfollowed := true, recurses := true, named := ["hackamore/token.keywords", "hackamore/token.symbols", "math/bits.divideError", "math/bits.overflowError", "internal/bytealg.MaxLen", "unicode/utf8.first", "unicode/utf8.acceptRanges"], apart := false, laid := [("unicode/utf8.acceptRanges", laid_unicode_utf8_acceptRanges), ("hackamore/token.keywords", laid_hackamore_token_keywords), ("hackamore/token.symbols", laid_hackamore_token_symbols), ("unicode/utf8.first", laid_unicode_utf8_first)] }
def TokenPlacesSaid : Prop := tokenPlacesRow.holds Tryd.pinned (OpenSpec.ofChange tokenPlacesSpec)

/-- ITS FALSE NEIGHBOUR: 'it returns false'. Refute it at one input. -/
def tokenPlacesWrong : ChangeSpec := { name := "tokenPlaces", fn := fun _ => fun
  | [d1, d2] => { results := [.lit (.bool false)], args := [d1, d2] }
  | _ => none }
def TokenPlacesWrongFalsely : Prop := tokenPlacesRow.holds Tryd.pinned (OpenSpec.ofChange tokenPlacesWrong)

/-- 'hackamorelaw01.TokenBlanks': WHATEVER THE INPUT: true; the input reads as it did. -/
def tokenBlanksSpec : ChangeSpec := { name := "tokenBlanks", fn := fun _ => fun
  | [d1, d2, d3] => { results := [.lit (.bool true)], args := [d1, d2, d3] }
  | _ => none }
def tokenBlanksRow : OpenClaim := { program := "ytpebdfofnmojcaadoor", sum := "b277f4eb22af553725530ae7ecd1023d116ef09a7f1d0a8ef3ffe26b4c5108aa", func := "hackamore/hackamorelaw01.TokenBlanks", spec := "tokenBlanks", inPlace := ["math/bits.Add64", "internal/bytealg.IndexByteString", "internal/bytealg.IndexString"], unfollowed := true, recurses := true, named := ["hackamore/token.keywords", "hackamore/token.symbols", "math/bits.divideError", "math/bits.overflowError", "internal/bytealg.MaxLen", "unicode/utf8.first", "unicode/utf8.acceptRanges"], apart := false, laid := [("unicode/utf8.acceptRanges", laid_unicode_utf8_acceptRanges), ("hackamore/token.keywords", laid_hackamore_token_keywords), ("hackamore/token.symbols", laid_hackamore_token_symbols), ("unicode/utf8.first", laid_unicode_utf8_first)] }
def TokenBlanksSaid : Prop := tokenBlanksRow.holds Tryd.pinned (OpenSpec.ofChange tokenBlanksSpec)

/-- ITS FALSE NEIGHBOUR: 'it returns false'. Refute it at one input. -/
def tokenBlanksWrong : ChangeSpec := { name := "tokenBlanks", fn := fun _ => fun
  | [d1, d2, d3] => { results := [.lit (.bool false)], args := [d1, d2, d3] }
  | _ => none }
def TokenBlanksWrongFalsely : Prop := tokenBlanksRow.holds Tryd.pinned (OpenSpec.ofChange tokenBlanksWrong)

/-- 'hackamorelaw01.TokenStrings': WHATEVER THE INPUT: true; the input reads as it did. -/
def tokenStringsSpec : ChangeSpec := { name := "tokenStrings", fn := fun _ => fun
  | [d1, d2] => { results := [.lit (.bool true)], args := [d1, d2] }
  | _ => none }
def tokenStringsRow : OpenClaim := { program := "ytpebdfofnmojcaadoor", sum := "b277f4eb22af553725530ae7ecd1023d116ef09a7f1d0a8ef3ffe26b4c5108aa", func := "hackamore/hackamorelaw01.TokenStrings", spec := "tokenStrings", inPlace := ["math/bits.Add64", "internal/bytealg.IndexByteString", "internal/bytealg.IndexString"], unfollowed := true, recurses := true, named := ["unicode/utf8.first", "unicode/utf8.acceptRanges", "hackamore/token.keywords", "hackamore/token.symbols", "math/bits.divideError", "math/bits.overflowError", "internal/bytealg.MaxLen"], apart := false, laid := [("unicode/utf8.acceptRanges", laid_unicode_utf8_acceptRanges), ("hackamore/token.keywords", laid_hackamore_token_keywords), ("hackamore/token.symbols", laid_hackamore_token_symbols), ("unicode/utf8.first", laid_unicode_utf8_first)] }
def TokenStringsSaid : Prop := tokenStringsRow.holds Tryd.pinned (OpenSpec.ofChange tokenStringsSpec)

/-- ITS FALSE NEIGHBOUR: 'it returns false'. Refute it at one input. -/
def tokenStringsWrong : ChangeSpec := { name := "tokenStrings", fn := fun _ => fun
  | [d1, d2] => { results := [.lit (.bool false)], args := [d1, d2] }
  | _ => none }
def TokenStringsWrongFalsely : Prop := tokenStringsRow.holds Tryd.pinned (OpenSpec.ofChange tokenStringsWrong)

/- THE SECOND FORM. 'bulk': how many values and letters a reading holds, each counted each time it is reached (what is shared counts as often as it is met; a slice's spare places count too). A statement '..UptoSaid' is the law's where the arguments, and the package variables that the reading takes, are together of bulk at most 1048576: NARROWER than '..Said'. Prove '..Said' where nothing that the law and all that it calls make is longer than what came in: it says more and counts as full. Else prove '..UptoSaid'. A law counts once. -/
mutual
def uptoBulk {H : Type} : DataW H → Nat
  | .lit (.string bytes) => bytes.length + 1
  | .lit _ => 1
  | .nil => 1
  | .ptr d => uptoBulk d + 1
  | .slice elems spare => uptoBulkAll elems + uptoBulkAll spare + 1
  | .agg parts => uptoBulkAll parts + 1
  | .iface _ d => uptoBulk d + 1
  | .map entries => uptoBulkEntries entries + 1
  | .held _ => 1
def uptoBulkAll {H : Type} : List (DataW H) → Nat
  | [] => 0
  | d :: r => uptoBulk d + uptoBulkAll r
def uptoBulkEntries {H : Type} : List (Lit × DataW H) → Nat
  | [] => 0
  | x :: r => uptoBulkEntry x + uptoBulkEntries r
def uptoBulkEntry {H : Type} : Lit × DataW H → Nat
  | (.string bytes, d) => bytes.length + uptoBulk d + 1
  | (_, d) => uptoBulk d + 1
 end
def uptoSmall : (H : Type) → List (DataW H) → Bool := fun _ ds => decide (uptoBulkAll ds ≤ 1048576)
def OpenSpec.upto (s : _root_.Go.ChangeSpec) : _root_.Go.OpenSpec := { _root_.Go.OpenSpec.ofChange s with cond := some uptoSmall }

/-- 'hackamorelaw01.TokenNames', WHERE WHAT IT READS IS OF BULK AT MOST 1048576: true; the input reads as it did. -/
def tokenNamesUptoRow : OpenClaim := { program := "ytpebdfofnmojcaadoor", sum := "b277f4eb22af553725530ae7ecd1023d116ef09a7f1d0a8ef3ffe26b4c5108aa", func := "hackamore/hackamorelaw01.TokenNames", spec := "tokenNames", inPlace := ["math/bits.Add64", "internal/bytealg.IndexByteString", "internal/bytealg.IndexString"], unfollowed := true, recurses := true, named := ["hackamore/token.keywords", "hackamore/token.symbols", "math/bits.divideError", "math/bits.overflowError", "internal/bytealg.MaxLen", "unicode/utf8.first", "unicode/utf8.acceptRanges"], apart := false, laid := [("unicode/utf8.acceptRanges", laid_unicode_utf8_acceptRanges), ("hackamore/token.keywords", laid_hackamore_token_keywords), ("hackamore/token.symbols", laid_hackamore_token_symbols), ("unicode/utf8.first", laid_unicode_utf8_first)], narrowed := true }
def TokenNamesUptoSaid : Prop := tokenNamesUptoRow.holds Tryd.pinned (OpenSpec.upto tokenNamesSpec)

/-- 'hackamorelaw01.TokenBack', WHERE WHAT IT READS IS OF BULK AT MOST 1048576: true; the input reads as it did. -/
def tokenBackUptoRow : OpenClaim := { program := "ytpebdfofnmojcaadoor", sum := "b277f4eb22af553725530ae7ecd1023d116ef09a7f1d0a8ef3ffe26b4c5108aa", func := "hackamore/hackamorelaw01.TokenBack", spec := "tokenBack", inPlace := ["math/bits.Add64", "internal/bytealg.IndexByteString", "internal/bytealg.IndexString"], unfollowed := true, recurses := true, named := ["hackamore/token.keywords", "hackamore/token.symbols", "math/bits.divideError", "math/bits.overflowError", "internal/bytealg.MaxLen", "unicode/utf8.first", "unicode/utf8.acceptRanges"], apart := false, laid := [("unicode/utf8.acceptRanges", laid_unicode_utf8_acceptRanges), ("hackamore/token.keywords", laid_hackamore_token_keywords), ("hackamore/token.symbols", laid_hackamore_token_symbols), ("unicode/utf8.first", laid_unicode_utf8_first)], narrowed := true }
def TokenBackUptoSaid : Prop := tokenBackUptoRow.holds Tryd.pinned (OpenSpec.upto tokenBackSpec)

/-- 'hackamorelaw01.TokenPlaces', WHERE WHAT IT READS IS OF BULK AT MOST 1048576: true; the input reads as it did. -/
def tokenPlacesUptoRow : OpenClaim := { program := "ytpebdfofnmojcaadoor", sum := "b277f4eb22af553725530ae7ecd1023d116ef09a7f1d0a8ef3ffe26b4c5108aa", func := "hackamore/hackamorelaw01.TokenPlaces", spec := "tokenPlaces", inPlace := ["math/bits.Add64", "internal/bytealg.IndexByteString", "internal/bytealg.IndexString"], unfollowed := true, recurses := true, named := ["hackamore/token.keywords", "hackamore/token.symbols", "math/bits.divideError", "math/bits.overflowError", "internal/bytealg.MaxLen", "unicode/utf8.first", "unicode/utf8.acceptRanges"], apart := false, laid := [("unicode/utf8.acceptRanges", laid_unicode_utf8_acceptRanges), ("hackamore/token.keywords", laid_hackamore_token_keywords), ("hackamore/token.symbols", laid_hackamore_token_symbols), ("unicode/utf8.first", laid_unicode_utf8_first)], narrowed := true }
def TokenPlacesUptoSaid : Prop := tokenPlacesUptoRow.holds Tryd.pinned (OpenSpec.upto tokenPlacesSpec)

/-- 'hackamorelaw01.TokenBlanks', WHERE WHAT IT READS IS OF BULK AT MOST 1048576: true; the input reads as it did. -/
def tokenBlanksUptoRow : OpenClaim := { program := "ytpebdfofnmojcaadoor", sum := "b277f4eb22af553725530ae7ecd1023d116ef09a7f1d0a8ef3ffe26b4c5108aa", func := "hackamore/hackamorelaw01.TokenBlanks", spec := "tokenBlanks", inPlace := ["math/bits.Add64", "internal/bytealg.IndexByteString", "internal/bytealg.IndexString"], unfollowed := true, recurses := true, named := ["hackamore/token.keywords", "hackamore/token.symbols", "math/bits.divideError", "math/bits.overflowError", "internal/bytealg.MaxLen", "unicode/utf8.first", "unicode/utf8.acceptRanges"], apart := false, laid := [("unicode/utf8.acceptRanges", laid_unicode_utf8_acceptRanges), ("hackamore/token.keywords", laid_hackamore_token_keywords), ("hackamore/token.symbols", laid_hackamore_token_symbols), ("unicode/utf8.first", laid_unicode_utf8_first)], narrowed := true }
def TokenBlanksUptoSaid : Prop := tokenBlanksUptoRow.holds Tryd.pinned (OpenSpec.upto tokenBlanksSpec)

/-- 'hackamorelaw01.TokenStrings', WHERE WHAT IT READS IS OF BULK AT MOST 1048576: true; the input reads as it did. -/
def tokenStringsUptoRow : OpenClaim := { program := "ytpebdfofnmojcaadoor", sum := "b277f4eb22af553725530ae7ecd1023d116ef09a7f1d0a8ef3ffe26b4c5108aa", func := "hackamore/hackamorelaw01.TokenStrings", spec := "tokenStrings", inPlace := ["math/bits.Add64", "internal/bytealg.IndexByteString", "internal/bytealg.IndexString"], unfollowed := true, recurses := true, named := ["unicode/utf8.first", "unicode/utf8.acceptRanges", "hackamore/token.keywords", "hackamore/token.symbols", "math/bits.divideError", "math/bits.overflowError", "internal/bytealg.MaxLen"], apart := false, laid := [("unicode/utf8.acceptRanges", laid_unicode_utf8_acceptRanges), ("hackamore/token.keywords", laid_hackamore_token_keywords), ("hackamore/token.symbols", laid_hackamore_token_symbols), ("unicode/utf8.first", laid_unicode_utf8_first)], narrowed := true }
def TokenStringsUptoSaid : Prop := tokenStringsUptoRow.holds Tryd.pinned (OpenSpec.upto tokenStringsSpec)

end Rows
end Go.Proofs.YtpebdfofnmojcaaDoor
