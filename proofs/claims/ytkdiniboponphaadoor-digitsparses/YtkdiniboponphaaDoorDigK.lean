/- The law DigitsParses. -/
import Derived.Test.YtkdiniboponphaaDoorDigJ
import Derived.Test.YtkdiniboponphaaDoorDecG
import Derived.Test.YtkdiniboponphaaDoorDecM
namespace Go.Proofs.YtkdiniboponphaaDoor
set_option linter.unusedVariables false
set_option linter.unusedSimpArgs false
open Go.RowKit

attribute [local go_sem] World.cell?_alloc_some
/-- The digits from the end. -/
def fromEnd (l : List UInt8) (q : Nat) : Int := ((l.getD (l.length - 1 - q) 0).toNat : Int) - 48
def rowZ (l : List UInt8) (k : Nat) : List Value := (List.range k).map (fun q => Value.int .i64 (fromEnd l q))
theorem rowZ_snoc (l : List UInt8) (k : Nat) : rowZ l k ++ [Value.int .i64 (fromEnd l k)] = rowZ l (k + 1) := by
  unfold rowZ
  rw [List.range_succ, List.map_append]
  rfl
/-- All from place j on are digits, and there is one. -/
def okF (l : List UInt8) (j : Nat) : Bool := !l.isEmpty && (l.drop j).all (fun b => decide (48 ≤ b.toNat) && decide (b.toNat ≤ 57))
theorem okF_step {l : List UInt8} {j : Nat} {b : UInt8} (h : l[j]? = some b) : okF l j = (okF l (j + 1) && (decide (48 ≤ b.toNat) && decide (b.toNat ≤ 57))) := by
  unfold okF
  have hj : j < l.length := (List.getElem?_eq_some_iff.1 h).1
  rw [List.drop_eq_getElem_cons hj, List.all_cons, (List.getElem?_eq_some_iff.1 h).2]
  generalize (!l.isEmpty) = p
  generalize (List.drop (j + 1) l).all _ = q
  generalize decide (48 ≤ b.toNat) = r
  generalize decide (b.toNat ≤ 57) = t
  cases p <;> cases q <;> cases r <;> cases t <;> rfl
theorem okF_zero (l : List UInt8) : okF l 0 = true ↔ l ≠ [] ∧ AllD l := by
  unfold okF AllD
  simp
theorem dg_valD : ∀ l, AllD l → ∀ q, q < l.length → (dg 10 (valD l) q : Int) = fromEnd l q := by
  refine snocRec (fun _ q h => by simp at h) ?_
  intro l b ih h q hq
  rw [allD_append] at h
  have hb := h.2 b (by simp)
  have e : valD (l ++ [b]) = 10 * valD l + (b.toNat - 48) := by rw [valD_snoc, Nat.mul_comm]
  rw [List.length_append, List.length_singleton] at hq
  cases q with
  | zero =>
    have e1 : dg 10 (valD (l ++ [b])) 0 = b.toNat - 48 := by
      unfold dg
      rw [Nat.pow_zero, Nat.div_one, e]
      omega
    rw [e1]
    unfold fromEnd
    rw [List.length_append, List.length_singleton, Nat.add_sub_cancel, Nat.sub_zero]
    simp
    omega
  | succ q =>
    have e1 : dg 10 (valD (l ++ [b])) (q + 1) = dg 10 (valD l) q := by
      unfold dg
      rw [Nat.pow_succ, Nat.mul_comm, ← Nat.div_div_eq_div_mul, e]
      congr 2
      omega
    rw [e1, ih h.1 q (by omega)]
    unfold fromEnd
    rw [List.length_append, List.length_singleton, Nat.add_sub_cancel]
    have h1 : l.length - (q + 1) = l.length - 1 - q := by omega
    rw [h1]
    have h2 : l.length - 1 - q < l.length := by omega
    simp only [List.getD_eq_getElem?_getD, List.getElem?_append_left h2]
theorem rowZ_dec {l : List UInt8} (h : AllD l) : rowZ l l.length = rowOf .i64 l.length (dg 10 (valD l)) := by
  unfold rowZ rowOf
  refine List.map_congr_left ?_
  intro q hq
  rw [dg_valD l h q (List.mem_range.1 hq)]
end Go.Proofs.YtkdiniboponphaaDoor
