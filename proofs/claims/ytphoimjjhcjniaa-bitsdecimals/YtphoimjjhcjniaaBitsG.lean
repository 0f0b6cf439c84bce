/- The law BitsValues. -/
import Derived.Test.YtphoimjjhcjniaaBitsF
namespace Go.Proofs.Ytphoimjjhcjniaa
set_option linter.unusedVariables false
set_option linter.unusedSimpArgs false
open Go.RowKit

theorem or_top {u : Nat} (h : u < 9223372036854775808) : u ||| 9223372036854775808 = u + 9223372036854775808 := by
  have := Nat.two_pow_add_eq_or_of_lt (i := 63) (b := u) (by omega) 1
  rw [Nat.mul_one, show (2 : Nat) ^ 63 = 9223372036854775808 by rfl] at this
  rw [Nat.or_comm]
  omega
theorem tried_of {b : Nat} (hb : b < 18446744073709551616) (h : bC b ≠ 3) : triedN (bC b) (bN b) (bM b) (bX b) = b := by
  have e0 : bE b = b / 4503599627370496 % 2048 := rfl
  have f0 : bF b = b % 4503599627370496 := rfl
  unfold bC at h
  have hN : bN b = bS b := by
    unfold bN
    rw [if_neg]
    rintro ⟨h1, h2⟩
    rw [if_pos h1, if_neg h2] at h
    omega
  have hU : unsN (bC b) (bM b) (bX b) = b % 9223372036854775808 := by
    unfold unsN bC bM bX joinN
    generalize bE b = E at *
    generalize bF b = F at *
    by_cases h1 : E = 2047
    · by_cases h2 : F = 0
      · rw [if_pos h1, if_pos h2]
        rw [show ((2 : Nat) : Int) = 2 by rfl, if_neg (by omega), if_pos rfl]
        omega
      · rw [if_pos h1, if_neg h2] at h
        omega
    · simp only [h1, if_false]
      by_cases h2 : E = 0
      · by_cases h3 : F = 0
        · simp only [h2, h3, and_self, if_true]
          simp only [show ((0 : Nat) : Int) = 0 by rfl, show ¬ ((0 : Int) = 1) by omega, show ¬ ((0 : Int) = 2) by omega, show ¬ ((0 : Int) = 3) by omega, if_false]
          omega
        · simp only [h2, h3, and_false, if_true, if_false, show ((1 : Nat) : Int) = 1 by rfl]
          omega
      · simp only [h2, false_and, if_true, if_false, show ((1 : Nat) : Int) = 1 by rfl]
        omega
  unfold triedN
  rw [hU, hN]
  unfold bS
  by_cases s : 9223372036854775808 ≤ b
  · rw [decide_eq_true s, if_pos rfl, or_top (by omega)]
    omega
  · rw [decide_eq_false s, if_neg (by decide)]
    omega
theorem ok_of {b : Nat} (hb : b < 18446744073709551616) (h : bC b ≠ 3) : okN (bC b) (bN b) (bM b) (bX b) = true := by
  unfold okN
  rw [tried_of hb h]
  simp
theorem none_of {b : Nat} (h : bC b = 3) : bN b = false ∧ bM b = 0 ∧ bX b = 0 := by
  unfold bC at h
  have h1 : bE b = 2047 ∧ bF b ≠ 0 := by
    by_cases h1 : bE b = 2047
    · rw [if_pos h1] at h
      by_cases h2 : bF b = 0
      · rw [if_pos h2] at h; omega
      · exact ⟨h1, h2⟩
    · rw [if_neg h1] at h
      split at h <;> omega
  unfold bN bM bX
  rw [if_pos h1, if_pos h1.1, if_pos h1.1]
  exact ⟨rfl, rfl, rfl⟩
theorem none_ok : okN 3 false 0 0 = true := by rfl
theorem none_tried : triedN 3 false 0 0 = 9221120237041090560 := by rfl

set_option maxHeartbeats 2000000 in
set_option maxRecDepth 4000 in
theorem law_BitsValues (b : Int) (w : World) (h : (Lit.int .u64 b).wf = true) :
    Calls Try.prog 3 #[.int .u64 b] w fun e w' => e = .returned (.bool true) ∧ Fr w w' := by
  obtain ⟨n, rfl, hn⟩ := u64_nat h
  clear h
  have HO := hide (fun w => of_any7 n w hn)
  have HR := hide (fun w => refOf_any7 n w hn)
  obtain ⟨want, hw⟩ : ∃ want : Nat, (if bC n = 3 then 9221120237041090560 else n) = want := ⟨_, rfl⟩
  have HB : Hid (∀ w, Calls Try.prog 11 #[bval n] w fun e w' => e = .returned (.tuple #[.int .u64 (want : Int), .bool true]) ∧ Fr w w') := by
    refine hide (fun w => ?_)
    unfold bval
    have m0 := bM_lt n
    obtain ⟨x0, x1⟩ := bX_bd n
    have := vbits_any (bC n) (bN n) (bM n) (bX n) w (by omega) (by omega) (by omega)
    by_cases c : bC n = 3
    · obtain ⟨e1, e2, e3⟩ := none_of c
      rw [c, e1, e2, e3] at this ⊢
      rw [if_pos c] at hw
      rw [show ((3 : Nat) : Int) = 3 by rfl, none_ok, none_tried, if_pos rfl] at this
      rw [← hw]
      exact this
    · rw [ok_of hn c, tried_of hn c, if_pos rfl] at this
      rw [if_neg c] at hw
      rw [← hw]
      exact this
  have hwi : (bC n = 3 ∧ want = 9221120237041090560) ∨ (((bC n : Int) == 3) = false ∧ want = n) := by
    by_cases c : bC n = 3
    · rw [if_pos c] at hw
      exact .inl ⟨c, hw.symm⟩
    · rw [if_neg c] at hw
      exact .inr ⟨by simp only [beq_eq_false_iff_ne]; omega, hw.symm⟩
  unfold bval at HO HR HB
  have HW := hide hwi
  generalize bC n = C at *
  generalize bN n = N at *
  generalize bM n = M at *
  generalize bX n = X at *
  obtain ⟨B, hB⟩ : ∃ B : Int, (n : Int) = B := ⟨_, rfl⟩
  rw [hB] at HO HR ⊢
  have HBB := hide hB
  clear hB hw hwi hn
  go_enter Try.func3, Try.ntmps3
  go_wp2_with fail
  refine (HO.out _).mono ?_
  rintro e w1 ⟨rfl, f1⟩
  go_wp2_with fail
  refine (HR.out _).mono ?_
  rintro e w2 ⟨rfl, f2⟩
  have F := hide (f1.trans f2)
  clear f1 f2 HO HR
  go_wp2_with fail
  obtain ⟨W, hW⟩ : ∃ W, W = (w2.alloc (Obj.cells #[.int .i64 (C : Int), .bool N, .int .u64 (M : Int), .int .i64 X] 25)).alloc (Obj.cells #[.int .i64 (C : Int), .bool N, .int .u64 (M : Int), .int .i64 X] 28) := ⟨_, rfl⟩
  have fW : Fr w2 W := by rw [hW]; exact (Fr.alloc _ _).trans (Fr.alloc _ _)
  have g0 : W.cell? ⟨w2.heap.size + 1, 0, none⟩ = some (.int .i64 (C : Int)) := by rw [hW]; simp [go_sem]
  rw [← hW]
  clear hW
  refine (HB.out _).mono ?_
  rintro e w3 ⟨rfl, f3⟩
  have F := hide ((F.out.trans fW).trans f3)
  have g0 := fr_cell f3 g0
  clear fW f3 HB
  rcases HW.out with ⟨rfl, rfl⟩ | ⟨hc, rfl⟩
  · go_wp2_with fail
    refine (wakes_any _).mono ?_
    rintro e w4 ⟨rfl, f4⟩
    go_wp2_with fail
    go_ret
    exact ⟨rfl, F.out.trans f4⟩
  · rw [HBB.out]
    go_wp2_with fail
    refine (wakes_any _).mono ?_
    rintro e w4 ⟨rfl, f4⟩
    go_wp2_with fail
    go_ret
    exact ⟨rfl, F.out.trans f4⟩
end Go.Proofs.Ytphoimjjhcjniaa
