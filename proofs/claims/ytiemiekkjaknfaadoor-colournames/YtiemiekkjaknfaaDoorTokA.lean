/- How the walks of layer 11 tell tokens; the map of kinds, small letters, words. -/
import Derived.Test.YtiemiekkjaknfaaDoorRunesD
import Derived.Test.YtiemiekkjaknfaaDoorTokP
import Derived.Maps.Own
import Derived.Laws.AppendOwn
import Derived.Laws.ResultCell
namespace Go.Proofs.YtiemiekkjaknfaaDoor
set_option linter.unusedVariables false
set_option linter.unusedSimpArgs false
open Go.RowKit Go.Maps

theorem hide {p : Prop} (h : p) : Hid p := h
theorem Fr.drewN (w : World) (n : Nat) : Fr w (w.drewN n) := below_drewN (Below.refl _ _) _
theorem Fr.alloc (w : World) (o : Obj) : Fr w (w.alloc o) := by unfold Fr; go_grown
theorem fr_cell {w w' : World} {a : Addr} {v : Value} (k : Fr w w') (h : w.cell? a = some v) : w'.cell? a = some v := (Below.cell k (cell_lt h)).trans h

theorem var_free {w w1 : World} {o : Array Value} {t : TypeId} (f : Fr (w.alloc (.cells o t)) w1) (j : Nat) : w1.frozen? ⟨w.heap.size, j, none⟩ = false := by
  have hb := f.block w.heap.size (by simp)
  have hn := heap_alloc_new w (.cells o t)
  rw [hn] at hb
  simp [World.frozen?, hb]

end Go.Proofs.YtiemiekkjaknfaaDoor
