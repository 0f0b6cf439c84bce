/- From the listed table's datum to its cells. -/
import Derived.Test.YtimglhbllcjpbaaDoorTensA
import Derived.ProofKit
import Derived.LaidMore
import Derived.Stop.Joined
import Derived.Lib.LaidTab
namespace Go.Proofs.YtimglhbllcjpbaaDoor
open Go.RowKit

theorem lead_of_laid {W : World} (h : laidMetH Tryd.prog Rows.ratioMakesRow.laid W) : Tab W := by
  rw [MakeChecks.laidMetH_plain _ _ _ (by kernel_rfl)] at h
  have hT := Lib.tabIs_of_head (zs := [0, 1, 28, 2, 29, 14, 24, 3, 30, 22, 20, 15, 25, 17, 4, 8, 31, 27, 13, 23, 21, 19, 16, 7, 26, 12, 18, 6, 11, 5, 10, 9]) (k := .u8) (g := 0) (t := 97) (e := 5) (n := 32) (by kernel_rfl) (by kernel_rfl) Tryd.underlying97 Tryd.underlying5 (by kernel_rfl) (by kernel_rfl) h
  intro j hj
  rw [hT.cell (g := 0) (by kernel_rfl) j hj]
  have hall : ∀ j, j < 32 → ([0, 1, 28, 2, 29, 14, 24, 3, 30, 22, 20, 15, 25, 17, 4, 8, 31, 27, 13, 23, 21, 19, 16, 7, 26, 12, 18, 6, 11, 5, 10, 9] : List Int).getD j 0 = ((Lib.deBruijn32tab.getD j 0 : Nat) : Int) := by decide
  rw [hall j hj]
end Go.Proofs.YtimglhbllcjpbaaDoor
