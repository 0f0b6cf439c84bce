/- Layer 13's laws: digits that a law writes; seven truths in a row; one of below, same, above. -/
import Derived.Test.YtmaapdmbkhoigaaDoorCondN
import Derived.Test.YtmaapdmbkhoigaaDoorPackF
namespace Go.Proofs.YtmaapdmbkhoigaaDoor
set_option linter.unusedVariables false
set_option linter.unusedSimpArgs false
open Go.RowKit
open Go.Lib (trimLeftB trimRightB decDigits)

/-- The digits of a number, of 0 none. -/
def dD (x : Nat) : List UInt8 := if x = 0 then [] else decDigits x
theorem dD_zero : dD 0 = [] := rfl
theorem dD_step {x : Nat} (h : x ≠ 0) : dD x = dD (x / 10) ++ [UInt8.ofNat (48 + x % 10)] := by
  unfold dD
  rw [if_neg h]
  by_cases h10 : x < 10
  · rw [if_pos (by omega), Lib.decDigits_one h10, show x % 10 = x by omega]; rfl
  · rw [if_neg (by omega), decDigits_ten h10]
theorem dD_all (x : Nat) : AllD (dD x) := by
  unfold dD; split
  · exact allD_nil
  · exact dec_all x
theorem dD_len {x : Nat} (h : x < 4294967296) : (dD x).length ≤ 11 := by
  unfold dD; split
  · simp
  · rw [Lib.decDigits_length]
    exact ndig_le (k := 10) (by omega)
theorem dD_trim (x : Nat) : trimLeftB (dD x) 48 = dD x := by
  unfold dD; split
  · rfl
  · next h =>
    have h2 := fun e => h ((dec_head x).1 e)
    unfold trimLeftB
    cases hd : decDigits x with
    | nil => rfl
    | cons a l =>
      rw [hd] at h2
      rw [List.dropWhile_cons_of_neg (by simpa using h2)]
/-- The condition that a law makes of two numbers may be. -/
theorem may_made (k : Nat) (h1 : 1 ≤ k) (h6 : k ≤ 6) (g : Bool) (x y : Nat) (hx : x < 4294967296) (hy : y < 4294967296) : mayD k (g && !(dD x ++ trimRightB (dD y) 48).isEmpty) (dD x) (trimRightB (dD y) 48) = true := by
  refine may_of k _ _ _ h1 h6 (dD_all x) (trimRight_all (dD_all y)) (Nat.le_trans (dD_len hx) (by omega)) (Nat.le_trans (trimRight_le _) (Nat.le_trans (dD_len hy) (by omega))) (dD_trim x) (trimRight_twice _) ?_
  intro h e
  rw [e] at h
  simp at h

/-- Seven truths in a row, made since W0. -/
def Row7 (W0 w : World) (h : Nat) (f : Nat → Bool) : Prop := (∀ i, i < 7 → w.cell? ⟨h, i, none⟩ = some (.bool (f i))) ∧ (∀ o, w.frozen? ⟨h, o, none⟩ = false) ∧ W0.heap.size ≤ h
theorem Row7.fr {W0 w w' : World} {h : Nat} {f : Nat → Bool} (r : Row7 W0 w h f) (k : Fr w w') : Row7 W0 w' h f := by
  refine ⟨fun i hi => fr_cell k (r.1 i hi), fun o => ?_, r.2.2⟩
  have hb := k.block h (cell_lt (r.1 0 (by omega)))
  have := r.2.1 o
  unfold World.frozen? at *
  rw [hb]; exact this
theorem Row7.new {W0 w : World} (k : Fr W0 w) (t : TypeId) : Row7 W0 (w.alloc (.cells #[.bool false, .bool false, .bool false, .bool false, .bool false, .bool false, .bool false] t)) w.heap.size (fun _ => false) := by
  refine ⟨fun i hi => ?_, fun o => by simp [go_sem], k.size⟩
  have hc : i = 0 ∨ i = 1 ∨ i = 2 ∨ i = 3 ∨ i = 4 ∨ i = 5 ∨ i = 6 := by omega
  rcases hc with rfl | rfl | rfl | rfl | rfl | rfl | rfl <;> simp [go_sem]
theorem Row7.set {W0 w : World} {h : Nat} {f : Nat → Bool} (r : Row7 W0 w h f) (j : Nat) (hj : j < 7) (x : Bool) : Row7 W0 (w.setCell ⟨h, j, none⟩ (.bool x)) h (fun i => if i = j then x else f i) := by
  refine ⟨fun i hi => ?_, fun o => by simpa using r.2.1 o, r.2.2⟩
  show _ = some (Value.bool (if i = j then x else f i))
  by_cases e : i = j
  · subst e; rw [if_pos rfl]; exact c_same (r.1 i hi)
  · rw [if_neg e]; exact c_other (fun e2 => e e2.symm) (r.1 i hi)
theorem Row7.fit {W0 w : World} {h : Nat} {f : Nat → Bool} (r : Row7 W0 w h f) (k : Fr W0 w) (o : Nat) (u : Value) : Fr W0 (w.setCell ⟨h, o, none⟩ u) := Below.setCell k r.2.2 _
theorem Row7.far {W0 w : World} {h b o : Nat} {f : Nat → Bool} (r : Row7 W0 w h f) (hne : b ≠ h) (u : Value) : Row7 W0 (w.setCell ⟨b, o, none⟩ u) h f := by
  refine ⟨fun i hi => ?_, fun o => by simpa using r.2.1 o, r.2.2⟩
  rw [World.cell?_setCell_other w _ _ u (fun e => hne (by injection e))]
  exact r.1 i hi

theorem Row7.same {W0 w : World} {h : Nat} {f g : Nat → Bool} (r : Row7 W0 w h f) (e : ∀ i, i < 7 → f i = g i) : Row7 W0 w h g := ⟨fun i hi => by rw [← e i hi]; exact r.1 i hi, r.2⟩
theorem Quad.far1 {W0 w : World} {b b' o : Nat} {v0 v1 v2 v3 : Value} (h : Quad W0 w b v0 v1 v2 v3) (hne : b' ≠ b) (u : Value) : Quad W0 (w.setCell ⟨b', o, none⟩ u) b v0 v1 v2 v3 := h.far hne u

/-- Of a condition that may be, and bits that are a number: just one of below, the same and above. -/
theorem hB_three (O : Int) : (hB 1 O = true ∧ hB 2 O = true ∧ hB 3 O = false ∧ hB 4 O = false ∧ hB 5 O = false ∧ hB 6 O = true) ∨ (hB 1 O = false ∧ hB 2 O = true ∧ hB 3 O = false ∧ hB 4 O = true ∧ hB 5 O = true ∧ hB 6 O = false) ∨ (hB 1 O = false ∧ hB 2 O = false ∧ hB 3 O = true ∧ hB 4 O = true ∧ hB 5 O = false ∧ hB 6 O = true) := by
  rcases Int.lt_trichotomy O 0 with h | h | h
  · left; simp [hB]; omega
  · right; left; subst h; decide
  · right; right; simp [hB]; omega
theorem hV_is {n : Bool} {W P : List UInt8} {b : Nat} (hm : ∀ k, 1 ≤ k → k ≤ 6 → mayD k n W P = true) (hc : bC b ≤ 1) : ∃ O : Int, ∀ k, 1 ≤ k → k ≤ 6 → hV k n W P b = hB k O := by
  refine ⟨ordZ (bG b) n (magZ b (valD (W ++ P)) P.length), fun k h1 h6 => ?_⟩
  unfold hV
  rw [hm k h1 h6, decide_eq_true hc]; rfl
theorem hV_not {n : Bool} {W P : List UInt8} {b : Nat} (hc : 1 < bC b) (k : Nat) : hV k n W P b = false := by
  unfold hV
  rw [decide_eq_false (by omega)]; simp
end Go.Proofs.YtmaapdmbkhoigaaDoor
