/-
  DERIVED. GIVEN WITH THE SEED: THE CARDS: each row of YtammjgieocgelaaGreatDoorRows.lean that lists a variable, with what it lists TIED to the program's text (the seventh form; the later family's looks); each row that meets fmt, with fmt's text TOLD by the authors' own Lean function (tested against real Go, not proved from fmt's source: count such statements apart). THE CARD IS WHAT COUNTS. Prove the row's statement (the work); the ties are given (YtammjgieocgelaaGreatDoorTie.lean); close each card by the builder's one call (the guide's Derived/Test/ToyasCard.lean, 'card_holds'). Laid BY PROGRAM, IN A SANDBOX (cutbox-door.mjs). By AI agents, Wed Nov 11 2026. No macro, syntax, notation, axiom, sorry.
-/
import Derived.Test.YtammjgieocgelaaGreatDoorRows
import GoSem.ClaimSeven
namespace Go.Proofs.YtammjgieocgelaaGreatDoor
namespace Rows

/-- THE TIED CARD OF 'numerarylaw10.ShortDigits'. -/
def shortDigitsCard : Claim7 := { stood := { row := shortDigitsRow, standIns := [], harness := (true, "bce3528fa30dd3948a67382532dc000c08920dc4508fe8115fe2b7d4f182933c"), looks := false }, kinds := [], alts := [], laidByText := true, laidKinds := [.data, .data, .data, .data, .pinned], laidTests := true, laidLooks := .later }
def ShortDigitsCardSaid : Prop := Claim7.holds Tryz.pinned (.plain (OpenSpec.ofChange shortDigitsSpec)) shortDigitsCard

/-- THE TIED CARD OF 'numerarylaw10.ShortPlain'. -/
def shortPlainCard : Claim7 := { stood := { row := shortPlainRow, standIns := [], harness := (true, "bce3528fa30dd3948a67382532dc000c08920dc4508fe8115fe2b7d4f182933c"), looks := false }, kinds := [], alts := [], laidByText := true, laidKinds := [.data, .data, .data, .data, .pinned], laidTests := true, laidLooks := .later }
def ShortPlainCardSaid : Prop := Claim7.holds Tryz.pinned (.plain (OpenSpec.ofChange shortPlainSpec)) shortPlainCard

/-- THE TIED CARD OF 'numerarylaw10.ShortBack'. -/
def shortBackCard : Claim7 := { stood := { row := shortBackRow, standIns := [], harness := (true, "bce3528fa30dd3948a67382532dc000c08920dc4508fe8115fe2b7d4f182933c"), looks := false }, kinds := [], alts := [], laidByText := true, laidKinds := [.data, .data, .data, .data, .pinned], laidTests := true, laidLooks := .later }
def ShortBackCardSaid : Prop := Claim7.holds Tryz.pinned (.plain (OpenSpec.ofChange shortBackSpec)) shortBackCard

/-- THE TIED CARD OF 'numerarylaw10.ShortNear'. -/
def shortNearCard : Claim7 := { stood := { row := shortNearRow, standIns := [], harness := (true, "bce3528fa30dd3948a67382532dc000c08920dc4508fe8115fe2b7d4f182933c"), looks := false }, kinds := [], alts := [], laidByText := true, laidKinds := [.data, .data, .data, .data, .pinned], laidTests := true, laidLooks := .later }
def ShortNearCardSaid : Prop := Claim7.holds Tryz.pinned (.plain (OpenSpec.ofChange shortNearSpec)) shortNearCard

/-- THE TIED CARD OF 'numerarylaw10.ShortLess'. -/
def shortLessCard : Claim7 := { stood := { row := shortLessRow, standIns := [], harness := (true, "bce3528fa30dd3948a67382532dc000c08920dc4508fe8115fe2b7d4f182933c"), looks := false }, kinds := [], alts := [], laidByText := true, laidKinds := [.data, .data, .data, .data, .pinned], laidTests := true, laidLooks := .later }
def ShortLessCardSaid : Prop := Claim7.holds Tryz.pinned (.plain (OpenSpec.ofChange shortLessSpec)) shortLessCard

/-- THE SECOND FORM's CARD OF 'numerarylaw10.ShortDigits'. -/
def shortDigitsUptoCard : Claim7 := { stood := { row := shortDigitsUptoRow, standIns := [], harness := (true, "bce3528fa30dd3948a67382532dc000c08920dc4508fe8115fe2b7d4f182933c"), looks := false }, kinds := [], alts := [], laidByText := true, laidKinds := [.data, .data, .data, .data, .pinned], laidTests := true, laidLooks := .later }
def ShortDigitsUptoCardSaid : Prop := Claim7.holds Tryz.pinned (.plain (OpenSpec.upto shortDigitsSpec)) shortDigitsUptoCard

/-- THE SECOND FORM's CARD OF 'numerarylaw10.ShortPlain'. -/
def shortPlainUptoCard : Claim7 := { stood := { row := shortPlainUptoRow, standIns := [], harness := (true, "bce3528fa30dd3948a67382532dc000c08920dc4508fe8115fe2b7d4f182933c"), looks := false }, kinds := [], alts := [], laidByText := true, laidKinds := [.data, .data, .data, .data, .pinned], laidTests := true, laidLooks := .later }
def ShortPlainUptoCardSaid : Prop := Claim7.holds Tryz.pinned (.plain (OpenSpec.upto shortPlainSpec)) shortPlainUptoCard

/-- THE SECOND FORM's CARD OF 'numerarylaw10.ShortBack'. -/
def shortBackUptoCard : Claim7 := { stood := { row := shortBackUptoRow, standIns := [], harness := (true, "bce3528fa30dd3948a67382532dc000c08920dc4508fe8115fe2b7d4f182933c"), looks := false }, kinds := [], alts := [], laidByText := true, laidKinds := [.data, .data, .data, .data, .pinned], laidTests := true, laidLooks := .later }
def ShortBackUptoCardSaid : Prop := Claim7.holds Tryz.pinned (.plain (OpenSpec.upto shortBackSpec)) shortBackUptoCard

/-- THE SECOND FORM's CARD OF 'numerarylaw10.ShortNear'. -/
def shortNearUptoCard : Claim7 := { stood := { row := shortNearUptoRow, standIns := [], harness := (true, "bce3528fa30dd3948a67382532dc000c08920dc4508fe8115fe2b7d4f182933c"), looks := false }, kinds := [], alts := [], laidByText := true, laidKinds := [.data, .data, .data, .data, .pinned], laidTests := true, laidLooks := .later }
def ShortNearUptoCardSaid : Prop := Claim7.holds Tryz.pinned (.plain (OpenSpec.upto shortNearSpec)) shortNearUptoCard

/-- THE SECOND FORM's CARD OF 'numerarylaw10.ShortLess'. -/
def shortLessUptoCard : Claim7 := { stood := { row := shortLessUptoRow, standIns := [], harness := (true, "bce3528fa30dd3948a67382532dc000c08920dc4508fe8115fe2b7d4f182933c"), looks := false }, kinds := [], alts := [], laidByText := true, laidKinds := [.data, .data, .data, .data, .pinned], laidTests := true, laidLooks := .later }
def ShortLessUptoCardSaid : Prop := Claim7.holds Tryz.pinned (.plain (OpenSpec.upto shortLessSpec)) shortLessUptoCard
end Rows
end Go.Proofs.YtammjgieocgelaaGreatDoor
