/- The document's low and begins. -/
import Derived.Test.YtiemiekkjaknfaaDoorTokI
import Derived.Lib.ConvBytes
import Derived.Lib.AtoiErrMem
namespace Go.Proofs.YtiemiekkjaknfaaDoor
set_option linter.unusedVariables false
set_option linter.unusedSimpArgs false
open Go.RowKit

/-- A row of bytes that may be written. -/
def Bs (w : World) (B n : Nat) (f : Nat → Int) : Prop := B < w.heap.size ∧ ∀ j, j < n → w.cell? ⟨B, j, none⟩ = some (.int .u8 (f j)) ∧ w.frozen? ⟨B, j, none⟩ = false
theorem Bs.set {w : World} {B n : Nat} {f : Nat → Int} (h : Bs w B n f) (i : Nat) (hi : i < n) (x : Int) : Bs (w.setCell ⟨B, i, none⟩ (.int .u8 x)) B n (fun j => if j = i then x else f j) := by
  refine ⟨by simpa using h.1, fun j hj => ⟨?_, ?_⟩⟩
  · by_cases hji : j = i
    · subst hji; simp only [if_pos]; exact set_same (h.2 j hj).1
    · simp only [hji, if_false]; exact set_other (fun e => hji e.symm) (h.2 j hj).1
  · rw [World.frozen?_setCell]; exact (h.2 j hj).2

theorem conv_bs (w : World) (s : ByteArray) : ∃ (cap : Nat) (W : World), (convert 9 41 (.string s)).run Tryd.prog w = .ok (.slice (some ⟨w.heap.size, 0, none⟩) s.size cap) W ∧ Fr w W ∧ Bs W w.heap.size s.size (bt s) := by
  refine ⟨_, _, Lib.run_convert_string_bytes (P := Tryd.prog) w 9 41 5 s (u := .string) Tryd.underlying9 Tryd.underlying41 Tryd.underlying5, Lib.bytesWorld_below w _ s, by rw [Lib.bytesWorld_size]; omega, fun j hj => ⟨?_, ?_⟩⟩
  · rw [Lib.bytesWorld_cell w _ s j hj]
    congr 2
    have h1 := bt_get s j hj
    have hj' : j < s.data.toList.length := by rw [← Lib.size_eq]; exact hj
    unfold ints at h1
    rw [List.getElem?_map, List.getElem?_eq_getElem hj'] at h1
    simp only [Option.map_some, Option.some.injEq] at h1
    rw [← h1]
    simp [List.getD, List.getElem?_eq_getElem hj']
  · have hn := Lib.bytesWorld_at_new w 5 s
    have hsz : s.size ≤ (Lib.bytesCells w 5 s).size := by
      have hc := Lib.bytesWorld_cell w 5 s j hj
      simp [Lib.bytesCells]
    have h1 : ¬ ((Lib.bytesCells w 5 s).size ≤ j) := by omega
    simp [World.frozen?, hn]
    omega

def lowF (s : ByteArray) (k j : Nat) : Int := if j < k then lowB (bt s j) else bt s j

theorem ints_bt (s : ByteArray) : ints s = (List.range s.size).map (bt s) := by
  apply List.ext_getElem?
  intro i
  by_cases h : i < s.size
  · rw [bt_get s i h, List.getElem?_map, List.getElem?_range h]; rfl
  · rw [List.getElem?_eq_none (by rw [ints_length]; omega), List.getElem?_eq_none (by simp; omega)]

end Go.Proofs.YtiemiekkjaknfaaDoor
