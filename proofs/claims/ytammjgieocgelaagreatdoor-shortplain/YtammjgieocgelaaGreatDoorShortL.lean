/- From the listed tables' data to their cells (layer 10's rows). -/
import Derived.Test.YtammjgieocgelaaGreatDoorPackB
import Derived.Test.YtammjgieocgelaaGreatDoorPackE
import Derived.ProofKit
import Derived.LaidMore
import Derived.Stop.Joined
import Derived.Stop.LaidErr
import Derived.Lib.LaidTab
namespace Go.Proofs.YtammjgieocgelaaGreatDoor
open Go.RowKit

theorem lead_tab {W : World} (h : laidMetH Tryz.prog Rows.shortDigitsRow.laid W) : Tab W := by
  rw [MakeChecks.laidMetH_plain _ _ _ (by kernel_rfl)] at h
  have hT := Lib.tabIs_of_head (zs := [0, 1, 28, 2, 29, 14, 24, 3, 30, 22, 20, 15, 25, 17, 4, 8, 31, 27, 13, 23, 21, 19, 16, 7, 26, 12, 18, 6, 11, 5, 10, 9]) (k := .u8) (g := 0) (t := 158) (e := 5) (n := 32) (by kernel_rfl) (by kernel_rfl) Tryz.underlying158 Tryz.underlying5 (by kernel_rfl) (by kernel_rfl) h
  intro j hj
  rw [hT.cell (g := 0) (by kernel_rfl) j hj]
  have hall : ∀ j, j < 32 → ([0, 1, 28, 2, 29, 14, 24, 3, 30, 22, 20, 15, 25, 17, 4, 8, 31, 27, 13, 23, 21, 19, 16, 7, 26, 12, 18, 6, 11, 5, 10, 9] : List Int).getD j 0 = ((Lib.deBruijn32tab.getD j 0 : Nat) : Int) := by decide
  rw [hall j hj]

theorem lead_pt {W : World} (h : laidMetH Tryz.prog Rows.shortDigitsRow.laid W) : PT W := by
  rw [MakeChecks.laidMetH_plain _ _ _ (by kernel_rfl)] at h
  have h2 := laidMet.tail (laidMet.tail h)
  have hT := Lib.tabIs_of_head (zs := [1, 10, 100, 1000, 10000, 100000, 1000000, 10000000, 100000000, 1000000000, 10000000000, 100000000000, 1000000000000, 10000000000000, 100000000000000, 1000000000000000, 10000000000000000, 100000000000000000, 1000000000000000000, 10000000000000000000]) (k := .u64) (g := 2) (t := 170) (e := 22) (n := 20) (by kernel_rfl) (by kernel_rfl) Tryz.underlying170 Tryz.underlying22 (by kernel_rfl) (by kernel_rfl) h2
  have e : Lib.pow10Tab = [1, 10, 100, 1000, 10000, 100000, 1000000, 10000000, 100000000, 1000000000, 10000000000, 100000000000, 1000000000000, 10000000000000, 100000000000000, 1000000000000000, 10000000000000000, 100000000000000000, 1000000000000000000, 10000000000000000000] := by kernel_rfl
  unfold PT
  rw [e]
  exact hT

/-- Both tables. -/
def Led (w : World) : Prop := Tab w ∧ PT w
theorem Led.fr {w w' : World} (h : Led w) (f : Fr w w') : Led w' := ⟨h.1.fr f, h.2.fr f⟩
theorem lead_of_laid {W : World} (h : laidMetH Tryz.prog Rows.shortDigitsRow.laid W) : Led W := ⟨lead_tab h, lead_pt h⟩
end Go.Proofs.YtammjgieocgelaaGreatDoor
