/- The walks of runes.scan, runes.Right and runes.All. -/
import Derived.Test.YtiemiekkjaknfaaDoorRunesC
import Derived.Lib.Strings
namespace Go.Proofs.YtiemiekkjaknfaaDoor
set_option linter.unusedVariables false
set_option linter.unusedSimpArgs false
open Go.RowKit


theorem ints_extract (s : ByteArray) (a b : Nat) : ints (s.extract a b) = ((ints s).drop a).take (b - a) := by
  simp only [ints, Go.Lib.extract_data, List.map_take, List.map_drop]
theorem ints_from (s : ByteArray) (k : Nat) : ints (s.extract k s.size) = (ints s).drop k := by
  rw [ints_extract]
  exact List.take_of_length_le (by rw [List.length_drop, ints_length]; omega)
theorem size_from (s : ByteArray) (k : Nat) (h : s.size ≤ maxLen) : (s.extract k s.size).size ≤ maxLen := by
  have := ints_length (s.extract k s.size)
  rw [ints_from, List.length_drop, ints_length] at this
  omega
theorem drop_range (s : ByteArray) (k : Nat) : ∀ x ∈ (ints s).drop k, 0 ≤ x ∧ x ≤ 255 := fun x hx => ints_range s x (List.mem_of_mem_drop hx)

/-- One sign more: what the rest of a text tells. -/
theorem rest_step (l : List Int) (hl : ∀ x ∈ l, 0 ≤ x ∧ x ≤ 255) (k : Nat) (m : Int) (t : List Int) (hm : rsize m ≠ 0) (h : l.drop k = nums m ++ t) :
    l.drop (k + (nums m).length) = t ∧ (rall (l.drop k)).1 = m :: (rall t).1 ∧ (rall (l.drop k)).2 = (nums m).length + (rall t).2 ∧ k + (nums m).length ≤ l.length := by
  have ht : ∀ x ∈ t, 0 ≤ x ∧ x ≤ 255 := fun x hx => hl x (List.mem_of_mem_drop (i := k) (by rw [h]; simp [hx]))
  have e := rall_nums m hm t ht
  have hlen := congrArg List.length h
  rw [List.length_drop, List.length_append] at hlen
  have hp := nums_pos m
  refine ⟨?_, by rw [h, e], by rw [h, e], by omega⟩
  rw [← List.drop_drop, h, List.drop_left]

theorem beq_cast (a b : Nat) : ((a : Int) == (b : Int)) = decide (a = b) := by
  rw [Bool.eq_iff_iff]; simp; omega

/-- The row behind i rounds: the first i signs, then noughts. -/
def rowF (L : List Int) (i j : Nat) : Value := if j < i then .int .i64 (L.getD j 0) else .int .i64 0

theorem info3 : (Tryd.prog.info? 3).map (fun i => (i.zero, i.size, i.bytes)) = some (some (.int .i64 0), 1, 8) := by kernel_rfl

end Go.Proofs.YtiemiekkjaknfaaDoor
