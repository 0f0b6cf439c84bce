/- Plain maths of rounding: decimals of a value, so many digits. -/
import Derived.Test.YthdgdomgcogpjaaDoorRoundP
namespace Go.Proofs.YthdgdomgcogpjaaDoor
set_option linter.unusedVariables false

theorem ten_ne (k : Nat) : 10 ^ k ≠ 0 := Nat.ne_of_gt (Nat.pow_pos (by omega))
/-- A value's decimals and its quotient are the same number. -/
theorem val_fives (m a k : Nat) : m * 2 ^ a * 10 ^ k = m * 2 ^ a * 5 ^ k * 2 ^ k := by
  rw [show (10 : Nat) = 5 * 2 by rfl, Nat.mul_pow, Nat.mul_assoc (m * 2 ^ a)]
/-- D decimals, k of them behind the point, rounded to j of them (j may be below 0). -/
theorem to_cut (D k : Nat) (j : Int) : rndN (D * 10 ^ j.toNat) (10 ^ k * 10 ^ (-j).toNat) = if (k : Int) ≤ j then D * 10 ^ (j - k).toNat else rndN D (10 ^ ((k : Int) - j).toNat) := by
  split
  · rename_i h
    rw [show (-j).toNat = 0 by omega, Nat.pow_zero, Nat.mul_one, cut_more (by omega), show (j - k).toNat = j.toNat - k by omega]
  · rename_i h
    rw [← rnd_scale (a := D) (k := 10 ^ j.toNat) (ten_ne _) (ten_ne _), ← Nat.pow_add, ← Nat.pow_add, show ((k : Int) - j).toNat + j.toNat = k + (-j).toNat by omega]
/-- The power of ten of decimals' first digit. -/
theorem expD_low {D k : Nat} {e : Int} (h0 : D ≠ 0) (he : e = (nlen 10 D : Int) - 1 - k) : 10 ^ k * 10 ^ e.toNat ≤ D * 10 ^ (-e).toNat := by
  have h1 := nlen_low (B := 10) (by omega) D h0
  have h2 := nlen_pos (B := 10) (by omega) h0
  generalize nlen 10 D = L at *
  rw [← Nat.pow_add, show k + e.toNat = (L - 1) + (-e).toNat by omega, Nat.pow_add]
  exact Nat.mul_le_mul_right _ h1
theorem expD_high {D k : Nat} {e : Int} (h0 : D ≠ 0) (he : e = (nlen 10 D : Int) - 1 - k) : D * 10 ^ (-(e + 1)).toNat < 10 ^ k * 10 ^ (e + 1).toNat := by
  have h1 := lt_nlen (B := 10) (by omega) D
  have h2 := nlen_pos (B := 10) (by omega) h0
  generalize nlen 10 D = L at *
  rw [← Nat.pow_add, show k + (e + 1).toNat = L + (-(e + 1)).toNat by omega, Nat.pow_add]
  exact Nat.mul_lt_mul_of_pos_right h1 (Nat.pow_pos (by omega))
/-- Rounded to n + 1 digits: what is told lies between 10 to n and 10 to n + 1. -/
theorem toD_bounds {a b n : Nat} {e : Int} (hb : b ≠ 0) (h1 : b * 10 ^ e.toNat ≤ a * 10 ^ (-e).toNat) (h2 : a * 10 ^ (-(e + 1)).toNat < b * 10 ^ (e + 1).toNat) :
    10 ^ n ≤ rndN (a * 10 ^ ((n : Int) - e).toNat) (b * 10 ^ (-((n : Int) - e)).toNat) ∧ rndN (a * 10 ^ ((n : Int) - e).toNat) (b * 10 ^ (-((n : Int) - e)).toNat) ≤ 10 ^ (n + 1) := by
  refine to_bounds (Nat.mul_ne_zero hb (ten_ne _)) ?_ ?_
  · -- 10^n * (b * 10^-j) * 10^(-e) = b * 10^e * (10^j ..)
    have k1 : n + (-((n : Int) - e)).toNat + (-e).toNat = e.toNat + ((n : Int) - e).toNat := by omega
    refine Nat.le_of_mul_le_mul_right (c := 10 ^ (-e).toNat) ?_ (Nat.pow_pos (by omega))
    have e1 : 10 ^ n * (b * 10 ^ (-((n : Int) - e)).toNat) * 10 ^ (-e).toNat = b * 10 ^ (n + (-((n : Int) - e)).toNat + (-e).toNat) := by rw [Nat.pow_add, Nat.pow_add]; ac_rfl
    have e2 : a * 10 ^ ((n : Int) - e).toNat * 10 ^ (-e).toNat = a * 10 ^ (-e).toNat * 10 ^ ((n : Int) - e).toNat := by ac_rfl
    rw [e1, e2, k1, Nat.pow_add, ← Nat.mul_assoc]
    exact Nat.mul_le_mul_right _ h1
  · have k1 : (n + 1) + (-((n : Int) - e)).toNat + (-(e + 1)).toNat = (e + 1).toNat + ((n : Int) - e).toNat := by omega
    refine Nat.lt_of_mul_lt_mul_right (a := 10 ^ (-(e + 1)).toNat) ?_
    have e1 : 10 ^ (n + 1) * (b * 10 ^ (-((n : Int) - e)).toNat) * 10 ^ (-(e + 1)).toNat = b * 10 ^ ((n + 1) + (-((n : Int) - e)).toNat + (-(e + 1)).toNat) := by rw [Nat.pow_add _ _ (-(e + 1)).toNat, Nat.pow_add _ (n + 1)]; ac_rfl
    have e2 : a * 10 ^ ((n : Int) - e).toNat * 10 ^ (-(e + 1)).toNat = a * 10 ^ (-(e + 1)).toNat * 10 ^ ((n : Int) - e).toNat := by ac_rfl
    rw [e1, e2, k1, Nat.pow_add, ← Nat.mul_assoc]
    exact Nat.mul_lt_mul_of_pos_right h2 (Nat.pow_pos (by omega))
/-- With a place more nothing is farther: c steps of ten small ones are as many of those. -/
theorem rnd_finer {a b : Nat} (hb : b ≠ 0) : 10 * ((a - b * rndN a b) + (b * rndN a b - a)) ≥ (a * 10 - b * rndN (a * 10) b) + (b * rndN (a * 10) b - a * 10) := by
  have := rnd_near (a := a * 10) hb (rndN a b * 10)
  have e : b * (rndN a b * 10) = b * rndN a b * 10 := by ac_rfl
  rw [e] at this
  omega
end Go.Proofs.YthdgdomgcogpjaaDoor
