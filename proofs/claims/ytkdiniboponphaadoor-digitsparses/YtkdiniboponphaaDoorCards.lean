/-
  DERIVED. GIVEN WITH THE SEED: THE CARDS: each row of YtkdiniboponphaaDoorRows.lean that lists a variable, with what it lists TIED to the program's text (the seventh form; the later family's looks); each row that meets fmt, with fmt's text TOLD by the authors' own Lean function (tested against real Go, not proved from fmt's source: count such statements apart). THE CARD IS WHAT COUNTS. Prove the row's statement (the work); the ties are given (YtkdiniboponphaaDoorTie.lean); close each card by the builder's one call (the guide's Derived/Test/ToyasCard.lean, 'card_holds'). Laid BY PROGRAM, IN A SANDBOX (cutbox-door.mjs). By AI agents, Wed Nov 11 2026. No macro, syntax, notation, axiom, sorry.
-/
import Derived.Test.YtkdiniboponphaaDoorRows
import GoSem.ClaimSeven
namespace Go.Proofs.YtkdiniboponphaaDoor
namespace Rows

/-- THE TIED CARD OF 'numerarylaw06.DigitsTexts'. -/
def digitsTextsCard : Claim7 := { stood := { row := digitsTextsRow, standIns := [], harness := (true, "f1b0e29f1726e4b53a10f242441e3315cd56dd88da6453c0187fc88237217e4d"), looks := false }, kinds := [], alts := [], laidByText := true, laidKinds := [.data, .data, .data, .data, .pinned], laidTests := true, laidLooks := .later }
def DigitsTextsCardSaid : Prop := Claim7.holds Tryd.pinned (.plain (OpenSpec.ofChange digitsTextsSpec)) digitsTextsCard

/-- THE TIED CARD OF 'numerarylaw06.DigitsParses'. -/
def digitsParsesCard : Claim7 := { stood := { row := digitsParsesRow, standIns := [], harness := (true, "f1b0e29f1726e4b53a10f242441e3315cd56dd88da6453c0187fc88237217e4d"), looks := false }, kinds := [], alts := [], laidByText := true, laidKinds := [.data, .data, .data, .data, .pinned], laidTests := true, laidLooks := .later }
def DigitsParsesCardSaid : Prop := Claim7.holds Tryd.pinned (.plain (OpenSpec.ofChange digitsParsesSpec)) digitsParsesCard

/-- THE TIED CARD OF 'numerarylaw06.DigitsBack'. -/
def digitsBackCard : Claim7 := { stood := { row := digitsBackRow, standIns := [], harness := (true, "f1b0e29f1726e4b53a10f242441e3315cd56dd88da6453c0187fc88237217e4d"), looks := false }, kinds := [], alts := [], laidByText := true, laidKinds := [.data, .data, .data, .data, .pinned], laidTests := true, laidLooks := .later }
def DigitsBackCardSaid : Prop := Claim7.holds Tryd.pinned (.plain (OpenSpec.ofChange digitsBackSpec)) digitsBackCard

/-- THE TIED CARD OF 'numerarylaw06.DigitsPads'. -/
def digitsPadsCard : Claim7 := { stood := { row := digitsPadsRow, standIns := [], harness := (true, "f1b0e29f1726e4b53a10f242441e3315cd56dd88da6453c0187fc88237217e4d"), looks := false }, kinds := [], alts := [], laidByText := true, laidKinds := [.data, .data, .data, .data, .pinned], laidTests := true, laidLooks := .later }
def DigitsPadsCardSaid : Prop := Claim7.holds Tryd.pinned (.plain (OpenSpec.ofChange digitsPadsSpec)) digitsPadsCard

/-- THE TIED CARD OF 'numerarylaw06.DigitsJoin'. -/
def digitsJoinCard : Claim7 := { stood := { row := digitsJoinRow, standIns := [], harness := (true, "f1b0e29f1726e4b53a10f242441e3315cd56dd88da6453c0187fc88237217e4d"), looks := false }, kinds := [], alts := [], laidByText := true, laidKinds := [.data, .data, .data, .data, .pinned], laidTests := true, laidLooks := .later }
def DigitsJoinCardSaid : Prop := Claim7.holds Tryd.pinned (.plain (OpenSpec.ofChange digitsJoinSpec)) digitsJoinCard

/-- THE SECOND FORM's CARD OF 'numerarylaw06.DigitsTexts'. -/
def digitsTextsUptoCard : Claim7 := { stood := { row := digitsTextsUptoRow, standIns := [], harness := (true, "f1b0e29f1726e4b53a10f242441e3315cd56dd88da6453c0187fc88237217e4d"), looks := false }, kinds := [], alts := [], laidByText := true, laidKinds := [.data, .data, .data, .data, .pinned], laidTests := true, laidLooks := .later }
def DigitsTextsUptoCardSaid : Prop := Claim7.holds Tryd.pinned (.plain (OpenSpec.upto digitsTextsSpec)) digitsTextsUptoCard

/-- THE SECOND FORM's CARD OF 'numerarylaw06.DigitsParses'. -/
def digitsParsesUptoCard : Claim7 := { stood := { row := digitsParsesUptoRow, standIns := [], harness := (true, "f1b0e29f1726e4b53a10f242441e3315cd56dd88da6453c0187fc88237217e4d"), looks := false }, kinds := [], alts := [], laidByText := true, laidKinds := [.data, .data, .data, .data, .pinned], laidTests := true, laidLooks := .later }
def DigitsParsesUptoCardSaid : Prop := Claim7.holds Tryd.pinned (.plain (OpenSpec.upto digitsParsesSpec)) digitsParsesUptoCard

/-- THE SECOND FORM's CARD OF 'numerarylaw06.DigitsBack'. -/
def digitsBackUptoCard : Claim7 := { stood := { row := digitsBackUptoRow, standIns := [], harness := (true, "f1b0e29f1726e4b53a10f242441e3315cd56dd88da6453c0187fc88237217e4d"), looks := false }, kinds := [], alts := [], laidByText := true, laidKinds := [.data, .data, .data, .data, .pinned], laidTests := true, laidLooks := .later }
def DigitsBackUptoCardSaid : Prop := Claim7.holds Tryd.pinned (.plain (OpenSpec.upto digitsBackSpec)) digitsBackUptoCard

/-- THE SECOND FORM's CARD OF 'numerarylaw06.DigitsPads'. -/
def digitsPadsUptoCard : Claim7 := { stood := { row := digitsPadsUptoRow, standIns := [], harness := (true, "f1b0e29f1726e4b53a10f242441e3315cd56dd88da6453c0187fc88237217e4d"), looks := false }, kinds := [], alts := [], laidByText := true, laidKinds := [.data, .data, .data, .data, .pinned], laidTests := true, laidLooks := .later }
def DigitsPadsUptoCardSaid : Prop := Claim7.holds Tryd.pinned (.plain (OpenSpec.upto digitsPadsSpec)) digitsPadsUptoCard

/-- THE SECOND FORM's CARD OF 'numerarylaw06.DigitsJoin'. -/
def digitsJoinUptoCard : Claim7 := { stood := { row := digitsJoinUptoRow, standIns := [], harness := (true, "f1b0e29f1726e4b53a10f242441e3315cd56dd88da6453c0187fc88237217e4d"), looks := false }, kinds := [], alts := [], laidByText := true, laidKinds := [.data, .data, .data, .data, .pinned], laidTests := true, laidLooks := .later }
def DigitsJoinUptoCardSaid : Prop := Claim7.holds Tryd.pinned (.plain (OpenSpec.upto digitsJoinSpec)) digitsJoinUptoCard
end Rows
end Go.Proofs.YtkdiniboponphaaDoor
