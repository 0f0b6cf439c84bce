/- The parts of 64 bits make a value: they are those of its own bits. -/
import Derived.Test.YtmaapdmbkhoigaaDoorPackF
namespace Go.Proofs.YtmaapdmbkhoigaaDoor
set_option linter.unusedVariables false
set_option linter.unusedSimpArgs false
open Go.RowKit

theorem or_top {u : Nat} (h : u < 9223372036854775808) : u ||| 9223372036854775808 = u + 9223372036854775808 := by
  have := Nat.two_pow_add_eq_or_of_lt (i := 63) (b := u) (by omega) 1
  rw [Nat.mul_one, show (2 : Nat) ^ 63 = 9223372036854775808 by rfl] at this
  rw [Nat.or_comm]
  omega
theorem tried_of {b : Nat} (hb : b < 18446744073709551616) (h : bC b ≠ 3) : triedN (bC b) (bN b) (bM b) (bX b) = b := by
  have e0 : bE b = b / 4503599627370496 % 2048 := rfl
  have f0 : bF b = b % 4503599627370496 := rfl
  unfold bC at h
  have hN : bN b = bS b := by
    unfold bN
    rw [if_neg]
    rintro ⟨h1, h2⟩
    rw [if_pos h1, if_neg h2] at h
    omega
  have hU : unsN (bC b) (bM b) (bX b) = b % 9223372036854775808 := by
    unfold unsN bC bM bX joinN
    generalize bE b = E at *
    generalize bF b = F at *
    by_cases h1 : E = 2047
    · by_cases h2 : F = 0
      · rw [if_pos h1, if_pos h2]
        rw [show ((2 : Nat) : Int) = 2 by rfl, if_neg (by omega), if_pos rfl]
        omega
      · rw [if_pos h1, if_neg h2] at h
        omega
    · simp only [h1, if_false]
      by_cases h2 : E = 0
      · by_cases h3 : F = 0
        · simp only [h2, h3, and_self, if_true]
          simp only [show ((0 : Nat) : Int) = 0 by rfl, show ¬ ((0 : Int) = 1) by omega, show ¬ ((0 : Int) = 2) by omega, show ¬ ((0 : Int) = 3) by omega, if_false]
          omega
        · simp only [h2, h3, and_false, if_true, if_false, show ((1 : Nat) : Int) = 1 by rfl]
          omega
      · simp only [h2, false_and, if_true, if_false, show ((1 : Nat) : Int) = 1 by rfl]
        omega
  unfold triedN
  rw [hU, hN]
  unfold bS
  by_cases s : 9223372036854775808 ≤ b
  · rw [decide_eq_true s, if_pos rfl, or_top (by omega)]
    omega
  · rw [decide_eq_false s, if_neg (by decide)]
    omega
theorem ok_of {b : Nat} (hb : b < 18446744073709551616) (h : bC b ≠ 3) : okN (bC b) (bN b) (bM b) (bX b) = true := by
  unfold okN
  rw [tried_of hb h]
  simp

theorem bM_lt (b : Nat) : bM b < 9007199254740992 := by
  unfold bM bF
  split
  · omega
  · split <;> omega
theorem bX_low (b : Nat) : -1074 ≤ bX b ∧ bX b ≤ 971 := by
  have lE : bE b < 2048 := Nat.mod_lt _ (by omega)
  unfold bX
  split
  · omega
  · split
    · split <;> omega
    · omega
end Go.Proofs.YtmaapdmbkhoigaaDoor
