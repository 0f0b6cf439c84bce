/- kinds, small, begins. -/
import Derived.Test.YtaokmegoheofjaaDoorTokA
namespace Go.Proofs.YtaokmegoheofjaaDoor
set_option linter.unusedVariables false
set_option linter.unusedSimpArgs false
open Go.RowKit Go.Maps

set_option maxHeartbeats 4000000 in
set_option maxRecDepth 100000 in
theorem kinds_any (w : World) : Calls Tryd.prog 16 #[] w fun e w' => e = .returned (.map (some w.heap.size)) ∧ IsKinds w' w.heap.size ∧ Fr w w' := by
  have hmm := @run_makeMap Tryd.prog
  have hown := World.ownsMap_made w Tryd.prog 5 (plainElem (H := Unit) Tryd.prog 37)
  have hF : Fr w (w.alloc (.map #[] 0)) := Fr.alloc _ _
  go_enter Tryd.func16, Tryd.ntmps16
  go_wp2_with fail
  iterate 48 (
    refine upon_insert 46 5 37 key8 Tryd.underlying46 hown (by unfold maxLen; omega) (keyOf_int_mk Tryd.underlying5 rfl) (plainElem_int Tryd.underlying37 rfl) ?_
    intro w1 h1 g1
    replace hF : Fr w w1 := Below.grown hF g1 hF.size (fun j hj => by cases hj; exact Nat.le_refl _)
    replace hown := h1
    clear g1 h1
    go_wp2_with fail)
  go_ret
  exact ⟨rfl, hown.mono (by omega), hF⟩
end Go.Proofs.YtaokmegoheofjaaDoor
