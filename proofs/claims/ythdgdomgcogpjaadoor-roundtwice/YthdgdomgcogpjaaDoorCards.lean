/-
  DERIVED. GIVEN WITH THE SEED: THE CARDS: each row of YthdgdomgcogpjaaDoorRows.lean that lists a variable, with what it lists TIED to the program's text (the seventh form; the later family's looks); each row that meets fmt, with fmt's text TOLD by the authors' own Lean function (tested against real Go, not proved from fmt's source: count such statements apart). THE CARD IS WHAT COUNTS. Prove the row's statement (the work); the ties are given (YthdgdomgcogpjaaDoorTie.lean); close each card by the builder's one call (the guide's Derived/Test/ToyasCard.lean, 'card_holds'). Laid BY PROGRAM, IN A SANDBOX (cutbox-door.mjs). By AI agents, Wed Nov 11 2026. No macro, syntax, notation, axiom, sorry.
-/
import Derived.Test.YthdgdomgcogpjaaDoorRows
import GoSem.ClaimSeven
namespace Go.Proofs.YthdgdomgcogpjaaDoor
namespace Rows

/-- THE TIED CARD OF 'numerarylaw09.RoundAt'. -/
def roundAtCard : Claim7 := { stood := { row := roundAtRow, standIns := [], harness := (true, "e11e1e6969dccdcfee8ae86ed4b4bd0f7b0f4e9de1adb864bd25d625c28b9f57"), looks := false }, kinds := [], alts := [], laidByText := true, laidKinds := [.data, .data, .data], laidTests := true, laidLooks := .later }
def RoundAtCardSaid : Prop := Claim7.holds Tryd.pinned (.plain (OpenSpec.ofChange roundAtSpec)) roundAtCard

/-- THE TIED CARD OF 'numerarylaw09.RoundTo'. -/
def roundToCard : Claim7 := { stood := { row := roundToRow, standIns := [], harness := (true, "e11e1e6969dccdcfee8ae86ed4b4bd0f7b0f4e9de1adb864bd25d625c28b9f57"), looks := false }, kinds := [], alts := [], laidByText := true, laidKinds := [.data, .data, .data], laidTests := true, laidLooks := .later }
def RoundToCardSaid : Prop := Claim7.holds Tryd.pinned (.plain (OpenSpec.ofChange roundToSpec)) roundToCard

/-- THE TIED CARD OF 'numerarylaw09.RoundNear'. -/
def roundNearCard : Claim7 := { stood := { row := roundNearRow, standIns := [], harness := (true, "e11e1e6969dccdcfee8ae86ed4b4bd0f7b0f4e9de1adb864bd25d625c28b9f57"), looks := false }, kinds := [], alts := [], laidByText := true, laidKinds := [.data, .data, .data], laidTests := true, laidLooks := .later }
def RoundNearCardSaid : Prop := Claim7.holds Tryd.pinned (.plain (OpenSpec.ofChange roundNearSpec)) roundNearCard

/-- THE TIED CARD OF 'numerarylaw09.RoundSteps'. -/
def roundStepsCard : Claim7 := { stood := { row := roundStepsRow, standIns := [], harness := (true, "e11e1e6969dccdcfee8ae86ed4b4bd0f7b0f4e9de1adb864bd25d625c28b9f57"), looks := false }, kinds := [], alts := [], laidByText := true, laidKinds := [.data, .data, .data], laidTests := true, laidLooks := .later }
def RoundStepsCardSaid : Prop := Claim7.holds Tryd.pinned (.plain (OpenSpec.ofChange roundStepsSpec)) roundStepsCard

/-- THE TIED CARD OF 'numerarylaw09.RoundTwice'. -/
def roundTwiceCard : Claim7 := { stood := { row := roundTwiceRow, standIns := [], harness := (true, "e11e1e6969dccdcfee8ae86ed4b4bd0f7b0f4e9de1adb864bd25d625c28b9f57"), looks := false }, kinds := [], alts := [], laidByText := true, laidKinds := [.data, .data, .data], laidTests := true, laidLooks := .later }
def RoundTwiceCardSaid : Prop := Claim7.holds Tryd.pinned (.plain (OpenSpec.ofChange roundTwiceSpec)) roundTwiceCard

/-- THE SECOND FORM's CARD OF 'numerarylaw09.RoundAt'. -/
def roundAtUptoCard : Claim7 := { stood := { row := roundAtUptoRow, standIns := [], harness := (true, "e11e1e6969dccdcfee8ae86ed4b4bd0f7b0f4e9de1adb864bd25d625c28b9f57"), looks := false }, kinds := [], alts := [], laidByText := true, laidKinds := [.data, .data, .data], laidTests := true, laidLooks := .later }
def RoundAtUptoCardSaid : Prop := Claim7.holds Tryd.pinned (.plain (OpenSpec.upto roundAtSpec)) roundAtUptoCard

/-- THE SECOND FORM's CARD OF 'numerarylaw09.RoundTo'. -/
def roundToUptoCard : Claim7 := { stood := { row := roundToUptoRow, standIns := [], harness := (true, "e11e1e6969dccdcfee8ae86ed4b4bd0f7b0f4e9de1adb864bd25d625c28b9f57"), looks := false }, kinds := [], alts := [], laidByText := true, laidKinds := [.data, .data, .data], laidTests := true, laidLooks := .later }
def RoundToUptoCardSaid : Prop := Claim7.holds Tryd.pinned (.plain (OpenSpec.upto roundToSpec)) roundToUptoCard

/-- THE SECOND FORM's CARD OF 'numerarylaw09.RoundNear'. -/
def roundNearUptoCard : Claim7 := { stood := { row := roundNearUptoRow, standIns := [], harness := (true, "e11e1e6969dccdcfee8ae86ed4b4bd0f7b0f4e9de1adb864bd25d625c28b9f57"), looks := false }, kinds := [], alts := [], laidByText := true, laidKinds := [.data, .data, .data], laidTests := true, laidLooks := .later }
def RoundNearUptoCardSaid : Prop := Claim7.holds Tryd.pinned (.plain (OpenSpec.upto roundNearSpec)) roundNearUptoCard

/-- THE SECOND FORM's CARD OF 'numerarylaw09.RoundSteps'. -/
def roundStepsUptoCard : Claim7 := { stood := { row := roundStepsUptoRow, standIns := [], harness := (true, "e11e1e6969dccdcfee8ae86ed4b4bd0f7b0f4e9de1adb864bd25d625c28b9f57"), looks := false }, kinds := [], alts := [], laidByText := true, laidKinds := [.data, .data, .data], laidTests := true, laidLooks := .later }
def RoundStepsUptoCardSaid : Prop := Claim7.holds Tryd.pinned (.plain (OpenSpec.upto roundStepsSpec)) roundStepsUptoCard

/-- THE SECOND FORM's CARD OF 'numerarylaw09.RoundTwice'. -/
def roundTwiceUptoCard : Claim7 := { stood := { row := roundTwiceUptoRow, standIns := [], harness := (true, "e11e1e6969dccdcfee8ae86ed4b4bd0f7b0f4e9de1adb864bd25d625c28b9f57"), looks := false }, kinds := [], alts := [], laidByText := true, laidKinds := [.data, .data, .data], laidTests := true, laidLooks := .later }
def RoundTwiceUptoCardSaid : Prop := Claim7.holds Tryd.pinned (.plain (OpenSpec.upto roundTwiceSpec)) roundTwiceUptoCard
end Rows
end Go.Proofs.YthdgdomgcogpjaaDoor
