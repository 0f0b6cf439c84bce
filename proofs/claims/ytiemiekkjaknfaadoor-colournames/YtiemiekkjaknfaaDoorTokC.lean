/- small, begins, power, behind, date; the map of kinds is asked. -/
import Derived.Test.YtiemiekkjaknfaaDoorTokB
import Derived.Deep.QuietTactic
import Derived.BigQuiet
import Derived.WalkSmall
namespace Go.Proofs.YtiemiekkjaknfaaDoor
set_option linter.unusedVariables false
set_option linter.unusedSimpArgs false
open Go.RowKit Go.Maps

theorem set_same {w : World} {a : Addr} {u v : Value} (h : w.cell? a = some u) : (w.setCell a v).cell? a = some v := World.cell?_setCell_same w a v h
theorem set_other {w : World} {b i j : Nat} {u v : Value} (hij : i ≠ j) (h : w.cell? ⟨b, j, none⟩ = some u) : (w.setCell ⟨b, i, none⟩ v).cell? ⟨b, j, none⟩ = some u := by
  rw [World.cell?_setCell_other w _ _ v (fun e => hij (by injection e))]
  exact h

theorem low_range {c : Int} (h0 : 0 ≤ c) (h1 : c ≤ 255) : 0 ≤ lowB c ∧ lowB c ≤ 255 := by
  unfold lowB; split <;> omega
/-- The k-th byte of a text. -/
def bt (s : ByteArray) (k : Nat) : Int := (ints s)[k]?.getD 0
theorem bt_at (s : ByteArray) (k : Nat) (h : k < s.size) : (s[k].toNat : Int) = bt s k := at_ints s k h
theorem bt_range (s : ByteArray) (k : Nat) (h : k < s.size) : 0 ≤ bt s k ∧ bt s k ≤ 255 := by
  have := bt_at s k h
  have := s[k].toNat_lt
  omega
theorem bt_get (s : ByteArray) (k : Nat) (h : k < s.size) : (ints s)[k]? = some (bt s k) := by
  have h' : k < (ints s).length := by rw [ints_length]; exact h
  unfold bt
  rw [List.getElem?_eq_getElem h']
  rfl
theorem take_bt (s : ByteArray) (k : Nat) (h : k < s.size) : (ints s).take (k + 1) = (ints s).take k ++ [bt s k] := by
  rw [List.take_add_one, bt_get s k h]
  rfl
theorem drop_bt (s : ByteArray) (k : Nat) (h : k < s.size) : (ints s).drop k = bt s k :: (ints s).drop (k + 1) := by
  have h' : k < (ints s).length := by rw [ints_length]; exact h
  rw [List.drop_eq_getElem_cons h']
  have := bt_get s k h
  rw [List.getElem?_eq_getElem h'] at this
  simp at this
  rw [this]

end Go.Proofs.YtiemiekkjaknfaaDoor
