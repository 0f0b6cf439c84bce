/- Rounding: texts of rounded numbers (plain maths). -/
import Derived.Test.YthdgdomgcogpjaaDoorDigD
import Derived.Test.YthdgdomgcogpjaaDoorRoundP
namespace Go.Proofs.YthdgdomgcogpjaaDoor
set_option linter.unusedVariables false
set_option linter.unusedSimpArgs false
open Go.Lib (decDigits)

theorem padD_len (n : Nat) (l : List UInt8) : (padD n l).length = max n l.length := by
  unfold padD
  rw [List.length_append, List.length_replicate]
  omega
theorem padD_long {n : Nat} {l : List UInt8} (h : n ≤ l.length) : padD n l = l := by
  unfold padD
  rw [show n - l.length = 0 by omega]
  rfl
theorem padD_one {n : Nat} {l : List UInt8} (h : l.length ≤ n) : padD (n + 1) l = 48 :: padD n l := by
  unfold padD
  rw [show n + 1 - l.length = (n - l.length) + 1 by omega]
  rfl
theorem padD_nought {n : Nat} (h : 1 ≤ n) : padD n [48] = padD n [] := by
  unfold padD
  simp only [List.length_singleton, List.length_nil, Nat.sub_zero, List.append_nil]
  obtain ⟨m, rfl⟩ : ∃ m, n = m + 1 := ⟨n - 1, by omega⟩
  rw [Nat.add_sub_cancel, List.replicate_succ']
theorem dec_zero : decDigits 0 = [48] := by rw [Lib.decDigits_one (by decide)]; rfl
/-- The decimals of a number, of 0 none. -/
def textD (P : Nat) : List UInt8 := if P = 0 then [] else decDigits P
def fixD (p P : Nat) : List UInt8 := padD p (textD P)
/-- Whole ones, and those behind the point. -/
def wD (p P : Nat) : List UInt8 := (fixD p P).take ((fixD p P).length - p)
def fD (p P : Nat) : List UInt8 := (fixD p P).drop ((fixD p P).length - p)
theorem fixD_len (p P : Nat) : p ≤ (fixD p P).length := by unfold fixD; rw [padD_len]; omega
theorem fD_len (p P : Nat) : (fD p P).length = p := by
  have := fixD_len p P
  unfold fD
  rw [List.length_drop]
  omega
theorem wD_fD (p P : Nat) : wD p P ++ fD p P = fixD p P := List.take_append_drop _ _
theorem textD_all (P : Nat) : AllD (textD P) := by
  unfold textD
  split
  · exact allD_nil
  · exact dec_all P
theorem textD_val (P : Nat) : valD (textD P) = P := by
  unfold textD
  split
  · rename_i h; rw [h]; rfl
  · exact dec_val P
theorem fixD_all (p P : Nat) : AllD (fixD p P) := by
  unfold fixD padD
  rw [allD_append]
  exact ⟨allD_zeros _, textD_all P⟩
theorem fixD_val (p P : Nat) : valD (fixD p P) = P := by
  unfold fixD padD
  rw [valD_pad, textD_val]
theorem dec_head_ne {P : Nat} (h : P ≠ 0) : (decDigits P).head? ≠ some 48 := fun e => h ((dec_head P).1 e)
theorem wD_head (p P : Nat) : (wD p P).head? ≠ some 48 := by
  by_cases c : (textD P).length ≤ p
  · have e : wD p P = [] := by
      unfold wD fixD
      rw [padD_len, show max p (textD P).length - p = 0 by omega, List.take_zero]
    rw [e]
    simp
  · have e : wD p P = (textD P).take ((textD P).length - p) := by
      unfold wD fixD
      rw [padD_long (by omega)]
    have h0 : P ≠ 0 := by
      rintro rfl
      exact c (by unfold textD; rw [if_pos rfl]; simp)
    have e2 : textD P = decDigits P := if_neg h0
    rw [e, e2]
    rw [e2] at c
    have := dec_head_ne h0
    generalize decDigits P = l at *
    cases l with
    | nil => simp
    | cons a l =>
      rw [show (a :: l).length - p = ((a :: l).length - p - 1) + 1 by omega, List.take_succ_cons]
      exact this
/-- The program's way: one place more, a single nought ahead left out. -/
theorem at_cut (p P : Nat) : (if (padD (p + 1) (decDigits P)).take ((padD (p + 1) (decDigits P)).length - p) = [48] then [] else (padD (p + 1) (decDigits P)).take ((padD (p + 1) (decDigits P)).length - p)) = wD p P ∧ (padD (p + 1) (decDigits P)).drop ((padD (p + 1) (decDigits P)).length - p) = fD p P := by
  by_cases c : (decDigits P).length ≤ p
  · have e1 : padD p (decDigits P) = fixD p P := by
      unfold fixD textD
      split
      · rename_i h
        subst h
        rw [dec_zero] at c ⊢
        exact padD_nought c
      · rfl
    have el : (fixD p P).length = p := by rw [← e1, padD_len]; omega
    have ew : wD p P = [] := by unfold wD; rw [el, Nat.sub_self, List.take_zero]
    have ef : fD p P = fixD p P := by unfold fD; rw [el, Nat.sub_self, List.drop_zero]
    rw [padD_one c, e1, ew, ef, List.length_cons, el, show p + 1 - p = 1 by omega]
    exact ⟨if_pos rfl, rfl⟩
  · rw [padD_long (n := p + 1) (by omega)]
    by_cases h : P = 0
    · subst h
      rw [dec_zero] at c ⊢
      simp only [List.length_singleton] at c ⊢
      obtain rfl : p = 0 := by omega
      exact ⟨rfl, rfl⟩
    · have e2 : fixD p P = decDigits P := by
        unfold fixD textD
        rw [if_neg h, padD_long (by omega)]
      have hh := dec_head_ne h
      unfold wD fD
      rw [e2]
      refine ⟨if_neg ?_, rfl⟩
      intro e
      apply hh
      generalize decDigits P = l at *
      cases l with
      | nil => simp at c
      | cons a l =>
        rw [show (a :: l).length - p = ((a :: l).length - p - 1) + 1 by omega, List.take_succ_cons] at e
        injection e with e _
        rw [e]; rfl
theorem fixD_size {p P k : Nat} (hp : p ≤ k) (h : (decDigits P).length ≤ k) : (fixD p P).length ≤ k := by
  unfold fixD
  rw [padD_len]
  have : (textD P).length ≤ k := by
    unfold textD
    split
    · simp
    · exact h
  omega

/-- Rounded to c digits: their text, and the power of ten. -/
def sciD (c R : Nat) : List UInt8 := (decDigits R).take c
def sciE (c R : Nat) (E : Int) : Int := if c < (decDigits R).length then E + 1 else E
/-- How many decimals: as many as the document's digits. -/
theorem dec_len {R n : Nat} (h1 : 10 ^ n ≤ R) (h2 : R < 10 ^ (n + 1)) : (decDigits R).length = n + 1 := by
  rw [Lib.decDigits_length]
  induction n generalizing R with
  | zero => rw [Lib.nDigits_small (by simpa using h2)]
  | succ n ih =>
    have h10 : 10 ≤ R := Nat.le_trans (by rw [Nat.pow_succ]; have : 0 < 10 ^ n := Nat.pow_pos (by decide); omega) h1
    rw [Lib.nDigits, dif_neg (by omega), ih (R := R / 10)]
    · exact (Nat.le_div_iff_mul_le (by decide)).2 (by rw [← Nat.pow_succ]; exact h1)
    · exact Nat.div_lt_of_lt_mul (by rw [Nat.mul_comm, ← Nat.pow_succ]; exact h2)
theorem dec_len_ten (n : Nat) : (decDigits (10 ^ n)).length = n + 1 := dec_len (Nat.le_refl _) (Nat.pow_lt_pow_right (by decide) (by omega))
end Go.Proofs.YthdgdomgcogpjaaDoor
