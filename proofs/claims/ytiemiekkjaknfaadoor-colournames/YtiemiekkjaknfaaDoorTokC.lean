/- small, begins, power, behind, date; the map of kinds is asked. -/
import Derived.Test.YtiemiekkjaknfaaDoorTokB
import Derived.Deep.QuietTactic
import Derived.BigQuiet
import Derived.WalkSmall
namespace Go.Proofs.YtiemiekkjaknfaaDoor
set_option linter.unusedVariables false
set_option linter.unusedSimpArgs false
open Go.RowKit Go.Maps

theorem set_same {w : World} {a : Addr} {u v : Value} (h : w.cell? a = some u) : (w.setCell a v).cell? a = some v := World.cell?_setCell_same w a v h
theorem set_other {w : World} {b i j : Nat} {u v : Value} (hij : i ≠ j) (h : w.cell? ⟨b, j, none⟩ = some u) : (w.setCell ⟨b, i, none⟩ v).cell? ⟨b, j, none⟩ = some u := by
  rw [World.cell?_setCell_other w _ _ v (fun e => hij (by injection e))]
  exact h

theorem fr_put4 {w w1 : World} {o : Obj} (f : Fr (w.alloc o) w1) (v0 v1 v2 v3 : Value) :
    Fr w ((((w1.setCell ⟨w.heap.size, 0, none⟩ v0).setCell ⟨w.heap.size, 1, none⟩ v1).setCell ⟨w.heap.size, 2, none⟩ v2).setCell ⟨w.heap.size, 3, none⟩ v3) :=
  Below.setCell (Below.setCell (Below.setCell (Below.setCell ((Fr.alloc w o).trans f) (by simp) _) (by simp) _) (by simp) _) (by simp) _

def litI : DataW Unit → Option Int
  | .lit (.int .i64 n) => some n
  | _ => none
theorem kind_look : ∀ c : Fin 128, litI ((kindD 48).atKey (.int .u8 (lowB c)) (.lit (.int .i64 0))) = some (kindB c) := by decide +kernel

theorem low_range {c : Int} (h0 : 0 ≤ c) (h1 : c ≤ 255) : 0 ≤ lowB c ∧ lowB c ≤ 255 := by
  unfold lowB; split <;> omega
theorem wf8 {c : Int} (h0 : 0 ≤ c) (h1 : c ≤ 255) : (Lit.int .u8 c).wf = true := by
  have ht : ∀ x : Fin 256, (Lit.int .u8 (x : Nat)).wf = true := by decide +kernel
  have := ht ⟨c.toNat, by omega⟩
  rwa [show (((⟨c.toNat, by omega⟩ : Fin 256) : Nat) : Int) = c by simp; omega] at this

/-- The k-th byte of a text. -/
def bt (s : ByteArray) (k : Nat) : Int := (ints s)[k]?.getD 0
theorem bt_at (s : ByteArray) (k : Nat) (h : k < s.size) : (s[k].toNat : Int) = bt s k := at_ints s k h
theorem bt_range (s : ByteArray) (k : Nat) (h : k < s.size) : 0 ≤ bt s k ∧ bt s k ≤ 255 := by
  have := bt_at s k h
  have := s[k].toNat_lt
  omega
theorem bt_get (s : ByteArray) (k : Nat) (h : k < s.size) : (ints s)[k]? = some (bt s k) := by
  have h' : k < (ints s).length := by rw [ints_length]; exact h
  unfold bt
  rw [List.getElem?_eq_getElem h']
  rfl
theorem take_bt (s : ByteArray) (k : Nat) (h : k < s.size) : (ints s).take (k + 1) = (ints s).take k ++ [bt s k] := by
  rw [List.take_add_one, bt_get s k h]
  rfl
theorem drop_bt (s : ByteArray) (k : Nat) (h : k < s.size) : (ints s).drop k = bt s k :: (ints s).drop (k + 1) := by
  have h' : k < (ints s).length := by rw [ints_length]; exact h
  rw [List.drop_eq_getElem_cons h']
  have := bt_get s k h
  rw [List.getElem?_eq_getElem h'] at this
  simp at this
  rw [this]

theorem pre_of (wd l : List Int) (h : (l.take wd.length).map lowB = wd.map lowB) : preL (wd.map lowB) l := by
  unfold preL
  rw [List.length_map]
  exact h

end Go.Proofs.YtiemiekkjaknfaaDoor
