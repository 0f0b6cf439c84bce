/-
  No cell of these rows narrows 'for every input' (looked for: loops, veiled, ifaces, maps, wideKeys, modest, calm, conditions, laid).
  DERIVED. THE GIVEN ROWS OF THIS SEAT. 4 by the template 'for every input the law returns true; each argument reads behind the call as it read before'; 0 by the template 'total and deterministic' (their statements: YtlkjajediboihaaTotals.lean).
  GIVEN WITH THE SEED: the statements are not yours to turn. If you find one false, say at which input.
  Laid BY PROGRAM, IN A SANDBOX (cutbox-rows.mjs): the forced cells as the released guide's own fill.sh prints them over the translation d30fb0b351734116… (all of the seat's roots in one cut). By AI agents, Wed Nov 11 2026. No macro, syntax, notation, axiom, sorry.
-/
import Derived.Test.YtlkjajediboihaaChecked
import GoSem.Claim
import GoSem.ClaimJoined
import GoSem.ClaimMapViews
import Derived.JoinedTies
import Derived.KernelRfl
namespace Go.Proofs.Ytlkjajediboihaa
/- THE CELL 'sum', in the pinned program and in every row, IS THE sha256 OF THE DUMP (.gsa) THAT YtlkjajediboihaaProg.lean LOADS. Nothing in Lean hashes anything: it is a label: what it is worth is what the hold of that sum in a sandbox is worth. -/
noncomputable def Try.pinned : Pinned := { name := "ytlkjajediboihaa", sum := "d30fb0b3517341163f151a38f7a7ed36030ccaf1692265811859c769cee205ec", checked := Try.checked }
namespace Rows
def none {H : Type} : Left H := { results := [], args := [] }

/-- 'numerarylaw03.TimesMul': WHATEVER THE INPUT: true; the input reads as it did. -/
def timesMulSpec : ChangeSpec := { name := "timesMul", fn := fun _ => fun
  | [d1, d2, d3] => { results := [.lit (.bool true)], args := [d1, d2, d3] }
  | _ => none }
def timesMulRow : OpenClaim := { program := "ytlkjajediboihaa", sum := "d30fb0b3517341163f151a38f7a7ed36030ccaf1692265811859c769cee205ec", func := "numerary/numerarylaw03.TimesMul", spec := "timesMul", recurses := true, apart := false }
def TimesMulSaid : Prop := timesMulRow.holds Try.pinned (OpenSpec.ofChange timesMulSpec)

/-- ITS FALSE NEIGHBOUR: 'it returns false'. Refute it at one input. -/
def timesMulWrong : ChangeSpec := { name := "timesMul", fn := fun _ => fun
  | [d1, d2, d3] => { results := [.lit (.bool false)], args := [d1, d2, d3] }
  | _ => none }
def TimesMulWrongFalsely : Prop := timesMulRow.holds Try.pinned (OpenSpec.ofChange timesMulWrong)

/-- 'numerarylaw03.TimesPow': WHATEVER THE INPUT: true; the input reads as it did. -/
def timesPowSpec : ChangeSpec := { name := "timesPow", fn := fun _ => fun
  | [d1, d2] => { results := [.lit (.bool true)], args := [d1, d2] }
  | _ => none }
def timesPowRow : OpenClaim := { program := "ytlkjajediboihaa", sum := "d30fb0b3517341163f151a38f7a7ed36030ccaf1692265811859c769cee205ec", func := "numerary/numerarylaw03.TimesPow", spec := "timesPow", recurses := true, apart := false }
def TimesPowSaid : Prop := timesPowRow.holds Try.pinned (OpenSpec.ofChange timesPowSpec)

/-- ITS FALSE NEIGHBOUR: 'it returns false'. Refute it at one input. -/
def timesPowWrong : ChangeSpec := { name := "timesPow", fn := fun _ => fun
  | [d1, d2] => { results := [.lit (.bool false)], args := [d1, d2] }
  | _ => none }
def TimesPowWrongFalsely : Prop := timesPowRow.holds Try.pinned (OpenSpec.ofChange timesPowWrong)

/-- 'numerarylaw03.TimesLaws': WHATEVER THE INPUT: true; the input reads as it did. -/
def timesLawsSpec : ChangeSpec := { name := "timesLaws", fn := fun _ => fun
  | [d1, d2, d3] => { results := [.lit (.bool true)], args := [d1, d2, d3] }
  | _ => none }
def timesLawsRow : OpenClaim := { program := "ytlkjajediboihaa", sum := "d30fb0b3517341163f151a38f7a7ed36030ccaf1692265811859c769cee205ec", func := "numerary/numerarylaw03.TimesLaws", spec := "timesLaws", recurses := true, apart := false }
def TimesLawsSaid : Prop := timesLawsRow.holds Try.pinned (OpenSpec.ofChange timesLawsSpec)

/-- ITS FALSE NEIGHBOUR: 'it returns false'. Refute it at one input. -/
def timesLawsWrong : ChangeSpec := { name := "timesLaws", fn := fun _ => fun
  | [d1, d2, d3] => { results := [.lit (.bool false)], args := [d1, d2, d3] }
  | _ => none }
def TimesLawsWrongFalsely : Prop := timesLawsRow.holds Try.pinned (OpenSpec.ofChange timesLawsWrong)

/-- 'numerarylaw03.TimesSquares': WHATEVER THE INPUT: true; the input reads as it did. -/
def timesSquaresSpec : ChangeSpec := { name := "timesSquares", fn := fun _ => fun
  | [d1, d2] => { results := [.lit (.bool true)], args := [d1, d2] }
  | _ => none }
def timesSquaresRow : OpenClaim := { program := "ytlkjajediboihaa", sum := "d30fb0b3517341163f151a38f7a7ed36030ccaf1692265811859c769cee205ec", func := "numerary/numerarylaw03.TimesSquares", spec := "timesSquares", recurses := true, apart := false }
def TimesSquaresSaid : Prop := timesSquaresRow.holds Try.pinned (OpenSpec.ofChange timesSquaresSpec)

/-- ITS FALSE NEIGHBOUR: 'it returns false'. Refute it at one input. -/
def timesSquaresWrong : ChangeSpec := { name := "timesSquares", fn := fun _ => fun
  | [d1, d2] => { results := [.lit (.bool false)], args := [d1, d2] }
  | _ => none }
def TimesSquaresWrongFalsely : Prop := timesSquaresRow.holds Try.pinned (OpenSpec.ofChange timesSquaresWrong)

/- THE SECOND FORM. 'bulk': how many values and letters a reading holds, each counted each time it is reached (what is shared counts as often as it is met; a slice's spare places count too). A statement '..UptoSaid' is the law's where the arguments, and the package variables that the reading takes, are together of bulk at most 1048576: NARROWER than '..Said'. Prove '..Said' where nothing that the law and all that it calls make is longer than what came in: it says more and counts as full. Else prove '..UptoSaid'. A law counts once. -/
mutual
def uptoBulk {H : Type} : DataW H → Nat
  | .lit (.string bytes) => bytes.length + 1
  | .lit _ => 1
  | .nil => 1
  | .ptr d => uptoBulk d + 1
  | .slice elems spare => uptoBulkAll elems + uptoBulkAll spare + 1
  | .agg parts => uptoBulkAll parts + 1
  | .iface _ d => uptoBulk d + 1
  | .map entries => uptoBulkEntries entries + 1
  | .held _ => 1
def uptoBulkAll {H : Type} : List (DataW H) → Nat
  | [] => 0
  | d :: r => uptoBulk d + uptoBulkAll r
def uptoBulkEntries {H : Type} : List (Lit × DataW H) → Nat
  | [] => 0
  | x :: r => uptoBulkEntry x + uptoBulkEntries r
def uptoBulkEntry {H : Type} : Lit × DataW H → Nat
  | (.string bytes, d) => bytes.length + uptoBulk d + 1
  | (_, d) => uptoBulk d + 1
 end
def uptoSmall : (H : Type) → List (DataW H) → Bool := fun _ ds => decide (uptoBulkAll ds ≤ 1048576)
def OpenSpec.upto (s : _root_.Go.ChangeSpec) : _root_.Go.OpenSpec := { _root_.Go.OpenSpec.ofChange s with cond := some uptoSmall }

/-- 'numerarylaw03.TimesMul', WHERE WHAT IT READS IS OF BULK AT MOST 1048576: true; the input reads as it did. -/
def timesMulUptoRow : OpenClaim := { program := "ytlkjajediboihaa", sum := "d30fb0b3517341163f151a38f7a7ed36030ccaf1692265811859c769cee205ec", func := "numerary/numerarylaw03.TimesMul", spec := "timesMul", recurses := true, apart := false, narrowed := true }
def TimesMulUptoSaid : Prop := timesMulUptoRow.holds Try.pinned (OpenSpec.upto timesMulSpec)

/-- 'numerarylaw03.TimesPow', WHERE WHAT IT READS IS OF BULK AT MOST 1048576: true; the input reads as it did. -/
def timesPowUptoRow : OpenClaim := { program := "ytlkjajediboihaa", sum := "d30fb0b3517341163f151a38f7a7ed36030ccaf1692265811859c769cee205ec", func := "numerary/numerarylaw03.TimesPow", spec := "timesPow", recurses := true, apart := false, narrowed := true }
def TimesPowUptoSaid : Prop := timesPowUptoRow.holds Try.pinned (OpenSpec.upto timesPowSpec)

/-- 'numerarylaw03.TimesLaws', WHERE WHAT IT READS IS OF BULK AT MOST 1048576: true; the input reads as it did. -/
def timesLawsUptoRow : OpenClaim := { program := "ytlkjajediboihaa", sum := "d30fb0b3517341163f151a38f7a7ed36030ccaf1692265811859c769cee205ec", func := "numerary/numerarylaw03.TimesLaws", spec := "timesLaws", recurses := true, apart := false, narrowed := true }
def TimesLawsUptoSaid : Prop := timesLawsUptoRow.holds Try.pinned (OpenSpec.upto timesLawsSpec)

/-- 'numerarylaw03.TimesSquares', WHERE WHAT IT READS IS OF BULK AT MOST 1048576: true; the input reads as it did. -/
def timesSquaresUptoRow : OpenClaim := { program := "ytlkjajediboihaa", sum := "d30fb0b3517341163f151a38f7a7ed36030ccaf1692265811859c769cee205ec", func := "numerary/numerarylaw03.TimesSquares", spec := "timesSquares", recurses := true, apart := false, narrowed := true }
def TimesSquaresUptoSaid : Prop := timesSquaresUptoRow.holds Try.pinned (OpenSpec.upto timesSquaresSpec)

end Rows
end Go.Proofs.Ytlkjajediboihaa
