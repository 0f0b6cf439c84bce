/- The law BitsMakes. -/
import Derived.Test.YtphoimjjhcjniaaBitsG
namespace Go.Proofs.Ytphoimjjhcjniaa
set_option linter.unusedVariables false
set_option linter.unusedSimpArgs false
open Go.RowKit

/-- Whether some bits have a value, as the law tells it. -/
def mayN (C : Int) (n : Bool) (M : Nat) (X : Int) : Bool :=
  if C = 0 ∨ C = 2 then decide (M = 0 ∧ X = 0) else if C = 3 then decide (M = 0 ∧ X = 0 ∧ n = false)
  else if C = 1 then decide ((4503599627370496 ≤ M ∧ M < 9007199254740992 ∧ -1074 ≤ X ∧ X ≤ 971) ∨ (1 ≤ M ∧ M < 4503599627370496 ∧ X = -1074)) else false

theorem class_may {T : Nat} (h : bC T = 1) : (4503599627370496 ≤ bM T ∧ bM T < 9007199254740992 ∧ -1074 ≤ bX T ∧ bX T ≤ 971) ∨ (1 ≤ bM T ∧ bM T < 4503599627370496 ∧ bX T = -1074) := by
  have lE : bE T < 2048 := Nat.mod_lt _ (by omega)
  have lF : bF T < 4503599627370496 := Nat.mod_lt _ (by omega)
  unfold bC at h
  unfold bM bX
  generalize bE T = E at *
  generalize bF T = F at *
  by_cases h1 : E = 2047
  · rw [if_pos h1] at h
    split at h <;> omega
  · rw [if_neg h1] at h
    rw [if_neg h1, if_neg h1]
    by_cases h2 : E = 0
    · by_cases h3 : F = 0
      · rw [if_pos ⟨h2, h3⟩] at h
        omega
      · right
        rw [if_pos h2, if_pos h2, if_neg h3]
        omega
    · left
      rw [if_neg h2, if_neg h2]
      omega
theorem join_fields {u M : Nat} {X : Int} (hm : (4503599627370496 ≤ M ∧ M < 9007199254740992 ∧ -1074 ≤ X ∧ X ≤ 971) ∨ (1 ≤ M ∧ M < 4503599627370496 ∧ X = -1074)) (hu : u % 9223372036854775808 = (X + 1074).toNat * 4503599627370496 + M) :
    bC u = 1 ∧ bM u = M ∧ bX u = X ∧ bN u = bS u := by
  have e0 : bE u = u / 4503599627370496 % 2048 := rfl
  have f0 : bF u = u % 4503599627370496 := rfl
  unfold bC bM bX bN
  generalize bE u = E at *
  generalize bF u = F at *
  have h1 : E ≠ 2047 := by omega
  rcases hm with hm | hm
  · have h2 : E ≠ 0 := by omega
    simp only [h1, h2, if_false, false_and]
    refine ⟨trivial, by omega, by omega, trivial⟩
  · have h2 : E = 0 := by omega
    have h3 : F ≠ 0 := by omega
    subst h2
    simp only [show ¬ (0 : Nat) = 2047 by omega, h3, if_false, if_true, false_and, and_false]
    refine ⟨trivial, by omega, by omega, trivial⟩
theorem dec_zero (M : Nat) (X : Int) : (decide ((0 : Int) = (M : Int)) && decide ((0 : Int) = X)) = (decide (M = 0) && decide (X = 0)) := by
  congr 1
  · exact decide_eq_decide.2 (by omega)
  · exact decide_eq_decide.2 (by omega)
theorem ok_may {C : Int} {n : Bool} {M : Nat} {X : Int} (h0 : 0 ≤ C) (h4 : C ≤ 4) : okN C n M X = mayN C n M X := by
  rcases (by omega : C = 0 ∨ C = 1 ∨ C = 2 ∨ C = 3 ∨ C = 4) with rfl | rfl | rfl | rfl | rfl
  · have r1 : unsN 0 M X = 0 := rfl
    cases n
    · have t : triedN 0 false M X = 0 := r1
      unfold okN mayN
      rw [t]
      simp [show bC 0 = 0 by rfl, show bN 0 = false by rfl, show bM 0 = 0 by rfl, show bX 0 = 0 by rfl]
      try exact dec_zero M X
    · have t : triedN 0 true M X = 9223372036854775808 := by
        show unsN 0 M X ||| 9223372036854775808 = 9223372036854775808
        rw [r1]; rfl
      unfold okN mayN
      rw [t]
      simp [show bC 9223372036854775808 = 0 by rfl, show bN 9223372036854775808 = true by rfl, show bM 9223372036854775808 = 0 by rfl, show bX 9223372036854775808 = 0 by rfl]
      try exact dec_zero M X
  · have hr : mayN 1 n M X = decide ((4503599627370496 ≤ M ∧ M < 9007199254740992 ∧ -1074 ≤ X ∧ X ≤ 971) ∨ (1 ≤ M ∧ M < 4503599627370496 ∧ X = -1074)) := rfl
    rw [hr]
    by_cases hm : (4503599627370496 ≤ M ∧ M < 9007199254740992 ∧ -1074 ≤ X ∧ X ≤ 971) ∨ (1 ≤ M ∧ M < 4503599627370496 ∧ X = -1074)
    · rw [decide_eq_true hm]
      have hj : joinN M X = (X + 1074).toNat * 4503599627370496 + M := by unfold joinN; omega
      have hu : unsN 1 M X = (X + 1074).toNat * 4503599627370496 + M := hj
      have lu : unsN 1 M X < 9223372036854775808 := by rw [hu]; omega
      have ht : triedN 1 n M X % 9223372036854775808 = (X + 1074).toNat * 4503599627370496 + M ∧ bS (triedN 1 n M X) = n := by
        unfold triedN bS
        cases n
        · rw [if_neg (by decide)]
          exact ⟨by omega, decide_eq_false (by omega)⟩
        · rw [if_pos rfl, or_top lu]
          exact ⟨by omega, decide_eq_true (by omega)⟩
      obtain ⟨g1, g2, g3, g4⟩ := join_fields hm ht.1
      unfold okN
      rw [g1, g2, g3, g4, ht.2]
      simp
    · rw [decide_eq_false hm]
      unfold okN
      refine decide_eq_false ?_
      rintro ⟨k1, k2, k3, k4⟩
      have := class_may (T := triedN 1 n M X) (by omega)
      rw [k4] at this
      omega
  · have r1 : unsN 2 M X = 9218868437227405312 := rfl
    cases n
    · have t : triedN 2 false M X = 9218868437227405312 := r1
      unfold okN mayN
      rw [t]
      simp [show bC 9218868437227405312 = 2 by rfl, show bN 9218868437227405312 = false by rfl, show bM 9218868437227405312 = 0 by rfl, show bX 9218868437227405312 = 0 by rfl]
      try exact dec_zero M X
    · have t : triedN 2 true M X = 18442240474082181120 := by
        show unsN 2 M X ||| 9223372036854775808 = 18442240474082181120
        rw [r1]; rfl
      unfold okN mayN
      rw [t]
      simp [show bC 18442240474082181120 = 2 by rfl, show bN 18442240474082181120 = true by rfl, show bM 18442240474082181120 = 0 by rfl, show bX 18442240474082181120 = 0 by rfl]
      try exact dec_zero M X
  · have r1 : unsN 3 M X = 9221120237041090560 := rfl
    cases n
    · have t : triedN 3 false M X = 9221120237041090560 := r1
      unfold okN mayN
      rw [t]
      simp [show bC 9221120237041090560 = 3 by rfl, show bN 9221120237041090560 = false by rfl, show bM 9221120237041090560 = 0 by rfl, show bX 9221120237041090560 = 0 by rfl]
      try exact dec_zero M X
    · have t : triedN 3 true M X = 18444492273895866368 := by
        show unsN 3 M X ||| 9223372036854775808 = 18444492273895866368
        rw [r1]; rfl
      unfold okN mayN
      rw [t]
      simp [show bC 18444492273895866368 = 3 by rfl, show bN 18444492273895866368 = false by rfl, show bM 18444492273895866368 = 0 by rfl, show bX 18444492273895866368 = 0 by rfl]
      try exact dec_zero M X
  · have r1 : unsN 4 M X = 0 := rfl
    cases n
    · have t : triedN 4 false M X = 0 := r1
      unfold okN mayN
      rw [t]
      simp [show bC 0 = 0 by rfl, show bN 0 = false by rfl, show bM 0 = 0 by rfl, show bX 0 = 0 by rfl]
      try exact dec_zero M X
    · have t : triedN 4 true M X = 9223372036854775808 := by
        show unsN 4 M X ||| 9223372036854775808 = 9223372036854775808
        rw [r1]; rfl
      unfold okN mayN
      rw [t]
      simp [show bC 9223372036854775808 = 0 by rfl, show bN 9223372036854775808 = true by rfl, show bM 9223372036854775808 = 0 by rfl, show bX 9223372036854775808 = 0 by rfl]
      try exact dec_zero M X
theorem ok_fields {C : Int} {n : Bool} {M : Nat} {X : Int} (h : okN C n M X = true) : (bC (triedN C n M X) : Int) = C ∧ bN (triedN C n M X) = n ∧ (bM (triedN C n M X) : Int) = M ∧ bX (triedN C n M X) = X := by
  unfold okN at h
  exact of_decide_eq_true h
end Go.Proofs.Ytphoimjjhcjniaa
