/- Walks of the small functions of layer 1. -/
import Derived.Test.YtiemiekkjaknfaaDoorRows
import Derived.Test.YtiemiekkjaknfaaDoorRunesP
import Derived.Handy
import Derived.WalkSpells
import Derived.WalkLawsBesides
import Derived.Laws.BytesArg
import Derived.Deep.OwnRows
namespace Go.Proofs.YtiemiekkjaknfaaDoor
set_option linter.unusedVariables false
set_option linter.unusedSimpArgs false
open Go.RowKit

def Fr (w w' : World) : Prop := Below w.heap.size w w'
theorem Fr.refl (w : World) : Fr w w := Below.refl _ _
theorem Fr.trans {a b c : World} (h : Fr a b) (k : Fr b c) : Fr a c := Below.trans h (Below.mono k h.size)

theorem cell_lt {w : World} {a : Addr} {v : Value} (h : w.cell? a = some v) : a.block < w.heap.size := by
  rcases Nat.lt_or_ge a.block w.heap.size with k | k
  · exact k
  · simp [World.cell?, Array.getElem?_eq_none k] at h

theorem conv1 (w : World) (a : Int) : (convert 41 9 (.slice (some ⟨w.heap.size, 0, none⟩) 1 1)).run Tryd.prog (w.alloc (.cells #[.int .u8 a] 5)) = .ok (.string (strOfNums [a])) (w.alloc (.cells #[.int .u8 a] 5)) :=
  run_convert_bytes_arg _ 41 5 Tryd.underlying41 Tryd.underlying5 _ 0 1 1 [a] rfl (fun i hi => by
    match i, hi with
    | 0, _ => simp [go_sem]) 9 Tryd.underlying9
theorem conv2 (w : World) (a b : Int) : (convert 41 9 (.slice (some ⟨w.heap.size, 0, none⟩) 2 2)).run Tryd.prog (w.alloc (.cells #[.int .u8 a, .int .u8 b] 5)) = .ok (.string (strOfNums [a, b])) (w.alloc (.cells #[.int .u8 a, .int .u8 b] 5)) :=
  run_convert_bytes_arg _ 41 5 Tryd.underlying41 Tryd.underlying5 _ 0 2 2 [a, b] rfl (fun i hi => by
    match i, hi with
    | 0, _ => simp [go_sem]
    | 1, _ => simp [go_sem]) 9 Tryd.underlying9
theorem conv3 (w : World) (a b c : Int) : (convert 41 9 (.slice (some ⟨w.heap.size, 0, none⟩) 3 3)).run Tryd.prog (w.alloc (.cells #[.int .u8 a, .int .u8 b, .int .u8 c] 5)) = .ok (.string (strOfNums [a, b, c])) (w.alloc (.cells #[.int .u8 a, .int .u8 b, .int .u8 c] 5)) :=
  run_convert_bytes_arg _ 41 5 Tryd.underlying41 Tryd.underlying5 _ 0 3 3 [a, b, c] rfl (fun i hi => by
    match i, hi with
    | 0, _ => simp [go_sem]
    | 1, _ => simp [go_sem]
    | 2, _ => simp [go_sem]) 9 Tryd.underlying9
theorem conv4 (w : World) (a b c d : Int) : (convert 41 9 (.slice (some ⟨w.heap.size, 0, none⟩) 4 4)).run Tryd.prog (w.alloc (.cells #[.int .u8 a, .int .u8 b, .int .u8 c, .int .u8 d] 5)) = .ok (.string (strOfNums [a, b, c, d])) (w.alloc (.cells #[.int .u8 a, .int .u8 b, .int .u8 c, .int .u8 d] 5)) :=
  run_convert_bytes_arg _ 41 5 Tryd.underlying41 Tryd.underlying5 _ 0 4 4 [a, b, c, d] rfl (fun i hi => by
    match i, hi with
    | 0, _ => simp [go_sem]
    | 1, _ => simp [go_sem]
    | 2, _ => simp [go_sem]
    | 3, _ => simp [go_sem]) 9 Tryd.underlying9
theorem info5 : (Tryd.prog.info? 5).map (fun i => (i.zero, i.size, i.bytes)) = some (some (.int .u8 0), 1, 1) := by kernel_rfl
theorem mk1 (w : World) : (Instr.makeSlice 41 (.int .i64 1) (.int .i64 1)).run Tryd.prog w = .ok (.slice (some ⟨w.heap.size, 0, none⟩) 1 1) (w.alloc (.cells #[.int .u8 0] 5)) :=
  (Array.ext' (toList_madeCells_one (.int .u8 0) 1) : madeCells #[.int .u8 0] 1 = #[.int .u8 0]) ▸ run_make_row' 41 5 (.int .u8 0) 1 Tryd.underlying41 info5 rfl .i64 .i64 1 (by decide) (by decide) w
theorem mk2 (w : World) : (Instr.makeSlice 41 (.int .i64 2) (.int .i64 2)).run Tryd.prog w = .ok (.slice (some ⟨w.heap.size, 0, none⟩) 2 2) (w.alloc (.cells #[.int .u8 0, .int .u8 0] 5)) :=
  (Array.ext' (toList_madeCells_one (.int .u8 0) 2) : madeCells #[.int .u8 0] 2 = #[.int .u8 0, .int .u8 0]) ▸ run_make_row' 41 5 (.int .u8 0) 1 Tryd.underlying41 info5 rfl .i64 .i64 2 (by decide) (by decide) w
theorem mk3 (w : World) : (Instr.makeSlice 41 (.int .i64 3) (.int .i64 3)).run Tryd.prog w = .ok (.slice (some ⟨w.heap.size, 0, none⟩) 3 3) (w.alloc (.cells #[.int .u8 0, .int .u8 0, .int .u8 0] 5)) :=
  (Array.ext' (toList_madeCells_one (.int .u8 0) 3) : madeCells #[.int .u8 0] 3 = #[.int .u8 0, .int .u8 0, .int .u8 0]) ▸ run_make_row' 41 5 (.int .u8 0) 1 Tryd.underlying41 info5 rfl .i64 .i64 3 (by decide) (by decide) w
theorem mk4 (w : World) : (Instr.makeSlice 41 (.int .i64 4) (.int .i64 4)).run Tryd.prog w = .ok (.slice (some ⟨w.heap.size, 0, none⟩) 4 4) (w.alloc (.cells #[.int .u8 0, .int .u8 0, .int .u8 0, .int .u8 0] 5)) :=
  (Array.ext' (toList_madeCells_one (.int .u8 0) 4) : madeCells #[.int .u8 0] 4 = #[.int .u8 0, .int .u8 0, .int .u8 0, .int .u8 0]) ▸ run_make_row' 41 5 (.int .u8 0) 1 Tryd.underlying41 info5 rfl .i64 .i64 4 (by decide) (by decide) w
attribute [local go_sem] conv1 conv2 conv3 conv4 mk1 mk2 mk3 mk4



end Go.Proofs.YtiemiekkjaknfaaDoor
