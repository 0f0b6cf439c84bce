/-
  NARROWER THAN 'FOR EVERY INPUT', by the rows' own cells (each row's printed sentence says how): CondParses: laid · CondTexts: laid · CondHolds: laid · CondOne: laid · CondMoves: laid.
  DERIVED. THE GIVEN ROWS OF THIS SEAT. 5 by the template 'for every input the law returns true; each argument reads behind the call as it read before'; 0 by the template 'total and deterministic' (their statements: YtmaapdmbkhoigaaDoorTotals.lean).
  GIVEN WITH THE SEED: the statements are not yours to turn. If you find one false, say at which input.
  Laid BY PROGRAM, IN A SANDBOX (cutbox-rows.mjs): the forced cells as the released guide's own fill.sh prints them over the translation ea1fe41960d79aab… (all of the seat's roots in one cut). By AI agents, Wed Nov 11 2026. No macro, syntax, notation, axiom, sorry.
-/
import Derived.Test.YtmaapdmbkhoigaaDoorChecked
import GoSem.PinnedTables
import GoSem.Claim
import GoSem.ClaimJoined
import GoSem.ClaimMapViews
import Derived.JoinedTies
import Derived.KernelRfl
namespace Go.Proofs.YtmaapdmbkhoigaaDoor
/- THE CELL 'sum', in the pinned program and in every row, IS THE sha256 OF THE DUMP (.gsa) THAT YtmaapdmbkhoigaaDoorProg.lean LOADS. Nothing in Lean hashes anything: it is a label: what it is worth is what the hold of that sum in a sandbox is worth. -/
noncomputable def Tryd.pinned : Pinned := { name := "ytmaapdmbkhoigaadoor", sum := "ea1fe41960d79aabd57008926d246f15d149581b81664d5a757de3d3fe935771", checked := Tryd.checked }
namespace Rows
def none {H : Type} : Left H := { results := [], args := [] }

/- WHAT THE LISTED PACKAGE-LEVEL VARIABLES READ AS WHEN THE CALL BEGINS. Each datum BY PROGRAM (the guide's laid-datum.mjs) off the statement by which the dump's own 'gosem.cut.vars' lays the variable. In a bare row this is a premise. The card (YtmaapdmbkhoigaaDoorCards.lean) ties it to the program's text. -/
def laid_math_bits_deBruijn32tab {H : Type} : DataW H := .agg [.lit (.int .u8 0), .lit (.int .u8 1), .lit (.int .u8 28), .lit (.int .u8 2), .lit (.int .u8 29), .lit (.int .u8 14), .lit (.int .u8 24), .lit (.int .u8 3), .lit (.int .u8 30), .lit (.int .u8 22), .lit (.int .u8 20), .lit (.int .u8 15), .lit (.int .u8 25), .lit (.int .u8 17), .lit (.int .u8 4), .lit (.int .u8 8), .lit (.int .u8 31), .lit (.int .u8 27), .lit (.int .u8 13), .lit (.int .u8 23), .lit (.int .u8 21), .lit (.int .u8 19), .lit (.int .u8 16), .lit (.int .u8 7), .lit (.int .u8 26), .lit (.int .u8 12), .lit (.int .u8 18), .lit (.int .u8 6), .lit (.int .u8 11), .lit (.int .u8 5), .lit (.int .u8 10), .lit (.int .u8 9)]
def laid_unicode_utf8_acceptRanges {H : Type} : DataW H := .agg [.agg [.lit (.int .u8 128), .lit (.int .u8 191)], .agg [.lit (.int .u8 160), .lit (.int .u8 191)], .agg [.lit (.int .u8 128), .lit (.int .u8 159)], .agg [.lit (.int .u8 144), .lit (.int .u8 191)], .agg [.lit (.int .u8 128), .lit (.int .u8 143)], .agg [.lit (.int .u8 0), .lit (.int .u8 0)], .agg [.lit (.int .u8 0), .lit (.int .u8 0)], .agg [.lit (.int .u8 0), .lit (.int .u8 0)], .agg [.lit (.int .u8 0), .lit (.int .u8 0)], .agg [.lit (.int .u8 0), .lit (.int .u8 0)], .agg [.lit (.int .u8 0), .lit (.int .u8 0)], .agg [.lit (.int .u8 0), .lit (.int .u8 0)], .agg [.lit (.int .u8 0), .lit (.int .u8 0)], .agg [.lit (.int .u8 0), .lit (.int .u8 0)], .agg [.lit (.int .u8 0), .lit (.int .u8 0)], .agg [.lit (.int .u8 0), .lit (.int .u8 0)]]
def laid_numerary_cond_signs {H : Type} : DataW H := .agg [.lit (.string [60]), .lit (.string [60, 61]), .lit (.string [62]), .lit (.string [62, 61]), .lit (.string [61]), .lit (.string [60, 62])]
/-- One of Go's own tables, pinned by name: the form's constant. -/
def laid_unicode_utf8_first : DataW Unit := Go.Pinned.utf8First

/-- 'numerarylaw13.CondParses': WHATEVER THE INPUT: true; the input reads as it did. -/
def condParsesSpec : ChangeSpec := { name := "condParses", fn := fun _ => fun
  | [d] => { results := [.lit (.bool true)], args := [d] }
  | _ => none }
def condParsesRow : OpenClaim := { program := "ytmaapdmbkhoigaadoor", sum := "ea1fe41960d79aabd57008926d246f15d149581b81664d5a757de3d3fe935771", func := "numerary/numerarylaw13.CondParses", spec := "condParses", inPlace := ["internal/bytealg.IndexByteString", "internal/bytealg.IndexString"], recurses := true, named := ["numerary/cond.signs", "internal/bytealg.MaxLen", "unicode/utf8.first", "unicode/utf8.acceptRanges", "math/bits.deBruijn32tab"], apart := false, laid := [("math/bits.deBruijn32tab", laid_math_bits_deBruijn32tab), ("unicode/utf8.acceptRanges", laid_unicode_utf8_acceptRanges), ("numerary/cond.signs", laid_numerary_cond_signs), ("unicode/utf8.first", laid_unicode_utf8_first)] }
def CondParsesSaid : Prop := condParsesRow.holds Tryd.pinned (OpenSpec.ofChange condParsesSpec)

/-- ITS FALSE NEIGHBOUR: 'it returns false'. Refute it at one input. -/
def condParsesWrong : ChangeSpec := { name := "condParses", fn := fun _ => fun
  | [d] => { results := [.lit (.bool false)], args := [d] }
  | _ => none }
def CondParsesWrongFalsely : Prop := condParsesRow.holds Tryd.pinned (OpenSpec.ofChange condParsesWrong)

/-- 'numerarylaw13.CondTexts': WHATEVER THE INPUT: true; the input reads as it did. -/
def condTextsSpec : ChangeSpec := { name := "condTexts", fn := fun _ => fun
  | [d1, d2, d3] => { results := [.lit (.bool true)], args := [d1, d2, d3] }
  | _ => none }
def condTextsRow : OpenClaim := { program := "ytmaapdmbkhoigaadoor", sum := "ea1fe41960d79aabd57008926d246f15d149581b81664d5a757de3d3fe935771", func := "numerary/numerarylaw13.CondTexts", spec := "condTexts", inPlace := ["internal/bytealg.IndexByteString", "internal/bytealg.IndexString"], recurses := true, named := ["numerary/cond.signs", "internal/bytealg.MaxLen", "unicode/utf8.first", "unicode/utf8.acceptRanges", "math/bits.deBruijn32tab"], apart := false, laid := [("math/bits.deBruijn32tab", laid_math_bits_deBruijn32tab), ("unicode/utf8.acceptRanges", laid_unicode_utf8_acceptRanges), ("numerary/cond.signs", laid_numerary_cond_signs), ("unicode/utf8.first", laid_unicode_utf8_first)] }
def CondTextsSaid : Prop := condTextsRow.holds Tryd.pinned (OpenSpec.ofChange condTextsSpec)

/-- ITS FALSE NEIGHBOUR: 'it returns false'. Refute it at one input. -/
def condTextsWrong : ChangeSpec := { name := "condTexts", fn := fun _ => fun
  | [d1, d2, d3] => { results := [.lit (.bool false)], args := [d1, d2, d3] }
  | _ => none }
def CondTextsWrongFalsely : Prop := condTextsRow.holds Tryd.pinned (OpenSpec.ofChange condTextsWrong)

/-- 'numerarylaw13.CondHolds': WHATEVER THE INPUT: true; the input reads as it did. -/
def condHoldsSpec : ChangeSpec := { name := "condHolds", fn := fun _ => fun
  | [d1, d2] => { results := [.lit (.bool true)], args := [d1, d2] }
  | _ => none }
def condHoldsRow : OpenClaim := { program := "ytmaapdmbkhoigaadoor", sum := "ea1fe41960d79aabd57008926d246f15d149581b81664d5a757de3d3fe935771", func := "numerary/numerarylaw13.CondHolds", spec := "condHolds", inPlace := ["internal/bytealg.IndexByteString", "internal/bytealg.IndexString"], recurses := true, named := ["numerary/cond.signs", "internal/bytealg.MaxLen", "unicode/utf8.first", "unicode/utf8.acceptRanges", "math/bits.deBruijn32tab"], apart := false, laid := [("math/bits.deBruijn32tab", laid_math_bits_deBruijn32tab), ("unicode/utf8.acceptRanges", laid_unicode_utf8_acceptRanges), ("numerary/cond.signs", laid_numerary_cond_signs), ("unicode/utf8.first", laid_unicode_utf8_first)] }
def CondHoldsSaid : Prop := condHoldsRow.holds Tryd.pinned (OpenSpec.ofChange condHoldsSpec)

/-- ITS FALSE NEIGHBOUR: 'it returns false'. Refute it at one input. -/
def condHoldsWrong : ChangeSpec := { name := "condHolds", fn := fun _ => fun
  | [d1, d2] => { results := [.lit (.bool false)], args := [d1, d2] }
  | _ => none }
def CondHoldsWrongFalsely : Prop := condHoldsRow.holds Tryd.pinned (OpenSpec.ofChange condHoldsWrong)

/-- 'numerarylaw13.CondOne': WHATEVER THE INPUT: true; the input reads as it did. -/
def condOneSpec : ChangeSpec := { name := "condOne", fn := fun _ => fun
  | [d] => { results := [.lit (.bool true)], args := [d] }
  | _ => none }
def condOneRow : OpenClaim := { program := "ytmaapdmbkhoigaadoor", sum := "ea1fe41960d79aabd57008926d246f15d149581b81664d5a757de3d3fe935771", func := "numerary/numerarylaw13.CondOne", spec := "condOne", inPlace := ["internal/bytealg.IndexByteString", "internal/bytealg.IndexString"], recurses := true, named := ["numerary/cond.signs", "internal/bytealg.MaxLen", "unicode/utf8.first", "unicode/utf8.acceptRanges", "math/bits.deBruijn32tab"], apart := false, laid := [("math/bits.deBruijn32tab", laid_math_bits_deBruijn32tab), ("unicode/utf8.acceptRanges", laid_unicode_utf8_acceptRanges), ("numerary/cond.signs", laid_numerary_cond_signs), ("unicode/utf8.first", laid_unicode_utf8_first)] }
def CondOneSaid : Prop := condOneRow.holds Tryd.pinned (OpenSpec.ofChange condOneSpec)

/-- ITS FALSE NEIGHBOUR: 'it returns false'. Refute it at one input. -/
def condOneWrong : ChangeSpec := { name := "condOne", fn := fun _ => fun
  | [d] => { results := [.lit (.bool false)], args := [d] }
  | _ => none }
def CondOneWrongFalsely : Prop := condOneRow.holds Tryd.pinned (OpenSpec.ofChange condOneWrong)

/-- 'numerarylaw13.CondMoves': WHATEVER THE INPUT: true; the input reads as it did. -/
def condMovesSpec : ChangeSpec := { name := "condMoves", fn := fun _ => fun
  | [d1, d2, d3] => { results := [.lit (.bool true)], args := [d1, d2, d3] }
  | _ => none }
def condMovesRow : OpenClaim := { program := "ytmaapdmbkhoigaadoor", sum := "ea1fe41960d79aabd57008926d246f15d149581b81664d5a757de3d3fe935771", func := "numerary/numerarylaw13.CondMoves", spec := "condMoves", inPlace := ["internal/bytealg.IndexByteString", "internal/bytealg.IndexString"], recurses := true, named := ["numerary/cond.signs", "internal/bytealg.MaxLen", "unicode/utf8.first", "unicode/utf8.acceptRanges", "math/bits.deBruijn32tab"], apart := false, laid := [("math/bits.deBruijn32tab", laid_math_bits_deBruijn32tab), ("unicode/utf8.acceptRanges", laid_unicode_utf8_acceptRanges), ("numerary/cond.signs", laid_numerary_cond_signs), ("unicode/utf8.first", laid_unicode_utf8_first)] }
def CondMovesSaid : Prop := condMovesRow.holds Tryd.pinned (OpenSpec.ofChange condMovesSpec)

/-- ITS FALSE NEIGHBOUR: 'it returns false'. Refute it at one input. -/
def condMovesWrong : ChangeSpec := { name := "condMoves", fn := fun _ => fun
  | [d1, d2, d3] => { results := [.lit (.bool false)], args := [d1, d2, d3] }
  | _ => none }
def CondMovesWrongFalsely : Prop := condMovesRow.holds Tryd.pinned (OpenSpec.ofChange condMovesWrong)

/- THE SECOND FORM. 'bulk': how many values and letters a reading holds, each counted each time it is reached (what is shared counts as often as it is met; a slice's spare places count too). A statement '..UptoSaid' is the law's where the arguments, and the package variables that the reading takes, are together of bulk at most 1048576: NARROWER than '..Said'. Prove '..Said' where nothing that the law and all that it calls make is longer than what came in: it says more and counts as full. Else prove '..UptoSaid'. A law counts once. -/
mutual
def uptoBulk {H : Type} : DataW H → Nat
  | .lit (.string bytes) => bytes.length + 1
  | .lit _ => 1
  | .nil => 1
  | .ptr d => uptoBulk d + 1
  | .slice elems spare => uptoBulkAll elems + uptoBulkAll spare + 1
  | .agg parts => uptoBulkAll parts + 1
  | .iface _ d => uptoBulk d + 1
  | .map entries => uptoBulkEntries entries + 1
  | .held _ => 1
def uptoBulkAll {H : Type} : List (DataW H) → Nat
  | [] => 0
  | d :: r => uptoBulk d + uptoBulkAll r
def uptoBulkEntries {H : Type} : List (Lit × DataW H) → Nat
  | [] => 0
  | x :: r => uptoBulkEntry x + uptoBulkEntries r
def uptoBulkEntry {H : Type} : Lit × DataW H → Nat
  | (.string bytes, d) => bytes.length + uptoBulk d + 1
  | (_, d) => uptoBulk d + 1
 end
def uptoSmall : (H : Type) → List (DataW H) → Bool := fun _ ds => decide (uptoBulkAll ds ≤ 1048576)
def OpenSpec.upto (s : _root_.Go.ChangeSpec) : _root_.Go.OpenSpec := { _root_.Go.OpenSpec.ofChange s with cond := some uptoSmall }

/-- 'numerarylaw13.CondParses', WHERE WHAT IT READS IS OF BULK AT MOST 1048576: true; the input reads as it did. -/
def condParsesUptoRow : OpenClaim := { program := "ytmaapdmbkhoigaadoor", sum := "ea1fe41960d79aabd57008926d246f15d149581b81664d5a757de3d3fe935771", func := "numerary/numerarylaw13.CondParses", spec := "condParses", inPlace := ["internal/bytealg.IndexByteString", "internal/bytealg.IndexString"], recurses := true, named := ["numerary/cond.signs", "internal/bytealg.MaxLen", "unicode/utf8.first", "unicode/utf8.acceptRanges", "math/bits.deBruijn32tab"], apart := false, laid := [("math/bits.deBruijn32tab", laid_math_bits_deBruijn32tab), ("unicode/utf8.acceptRanges", laid_unicode_utf8_acceptRanges), ("numerary/cond.signs", laid_numerary_cond_signs), ("unicode/utf8.first", laid_unicode_utf8_first)], narrowed := true }
def CondParsesUptoSaid : Prop := condParsesUptoRow.holds Tryd.pinned (OpenSpec.upto condParsesSpec)

/-- 'numerarylaw13.CondTexts', WHERE WHAT IT READS IS OF BULK AT MOST 1048576: true; the input reads as it did. -/
def condTextsUptoRow : OpenClaim := { program := "ytmaapdmbkhoigaadoor", sum := "ea1fe41960d79aabd57008926d246f15d149581b81664d5a757de3d3fe935771", func := "numerary/numerarylaw13.CondTexts", spec := "condTexts", inPlace := ["internal/bytealg.IndexByteString", "internal/bytealg.IndexString"], recurses := true, named := ["numerary/cond.signs", "internal/bytealg.MaxLen", "unicode/utf8.first", "unicode/utf8.acceptRanges", "math/bits.deBruijn32tab"], apart := false, laid := [("math/bits.deBruijn32tab", laid_math_bits_deBruijn32tab), ("unicode/utf8.acceptRanges", laid_unicode_utf8_acceptRanges), ("numerary/cond.signs", laid_numerary_cond_signs), ("unicode/utf8.first", laid_unicode_utf8_first)], narrowed := true }
def CondTextsUptoSaid : Prop := condTextsUptoRow.holds Tryd.pinned (OpenSpec.upto condTextsSpec)

/-- 'numerarylaw13.CondHolds', WHERE WHAT IT READS IS OF BULK AT MOST 1048576: true; the input reads as it did. -/
def condHoldsUptoRow : OpenClaim := { program := "ytmaapdmbkhoigaadoor", sum := "ea1fe41960d79aabd57008926d246f15d149581b81664d5a757de3d3fe935771", func := "numerary/numerarylaw13.CondHolds", spec := "condHolds", inPlace := ["internal/bytealg.IndexByteString", "internal/bytealg.IndexString"], recurses := true, named := ["numerary/cond.signs", "internal/bytealg.MaxLen", "unicode/utf8.first", "unicode/utf8.acceptRanges", "math/bits.deBruijn32tab"], apart := false, laid := [("math/bits.deBruijn32tab", laid_math_bits_deBruijn32tab), ("unicode/utf8.acceptRanges", laid_unicode_utf8_acceptRanges), ("numerary/cond.signs", laid_numerary_cond_signs), ("unicode/utf8.first", laid_unicode_utf8_first)], narrowed := true }
def CondHoldsUptoSaid : Prop := condHoldsUptoRow.holds Tryd.pinned (OpenSpec.upto condHoldsSpec)

/-- 'numerarylaw13.CondOne', WHERE WHAT IT READS IS OF BULK AT MOST 1048576: true; the input reads as it did. -/
def condOneUptoRow : OpenClaim := { program := "ytmaapdmbkhoigaadoor", sum := "ea1fe41960d79aabd57008926d246f15d149581b81664d5a757de3d3fe935771", func := "numerary/numerarylaw13.CondOne", spec := "condOne", inPlace := ["internal/bytealg.IndexByteString", "internal/bytealg.IndexString"], recurses := true, named := ["numerary/cond.signs", "internal/bytealg.MaxLen", "unicode/utf8.first", "unicode/utf8.acceptRanges", "math/bits.deBruijn32tab"], apart := false, laid := [("math/bits.deBruijn32tab", laid_math_bits_deBruijn32tab), ("unicode/utf8.acceptRanges", laid_unicode_utf8_acceptRanges), ("numerary/cond.signs", laid_numerary_cond_signs), ("unicode/utf8.first", laid_unicode_utf8_first)], narrowed := true }
def CondOneUptoSaid : Prop := condOneUptoRow.holds Tryd.pinned (OpenSpec.upto condOneSpec)

/-- 'numerarylaw13.CondMoves', WHERE WHAT IT READS IS OF BULK AT MOST 1048576: true; the input reads as it did. -/
def condMovesUptoRow : OpenClaim := { program := "ytmaapdmbkhoigaadoor", sum := "ea1fe41960d79aabd57008926d246f15d149581b81664d5a757de3d3fe935771", func := "numerary/numerarylaw13.CondMoves", spec := "condMoves", inPlace := ["internal/bytealg.IndexByteString", "internal/bytealg.IndexString"], recurses := true, named := ["numerary/cond.signs", "internal/bytealg.MaxLen", "unicode/utf8.first", "unicode/utf8.acceptRanges", "math/bits.deBruijn32tab"], apart := false, laid := [("math/bits.deBruijn32tab", laid_math_bits_deBruijn32tab), ("unicode/utf8.acceptRanges", laid_unicode_utf8_acceptRanges), ("numerary/cond.signs", laid_numerary_cond_signs), ("unicode/utf8.first", laid_unicode_utf8_first)], narrowed := true }
def CondMovesUptoSaid : Prop := condMovesUptoRow.holds Tryd.pinned (OpenSpec.upto condMovesSpec)

end Rows
end Go.Proofs.YtmaapdmbkhoigaaDoor
