/- The law BitsNext. -/
import Derived.Test.YtphoimjjhcjniaaBitsE
namespace Go.Proofs.Ytphoimjjhcjniaa
set_option linter.unusedVariables false
set_option linter.unusedSimpArgs false
open Go.RowKit

theorem u64_nat {b : Int} (h : (Lit.int .u64 b).wf = true) : ∃ n : Nat, b = n ∧ n < 18446744073709551616 := by
  simp [Lit.wf, IntKind.min, IntKind.max, IntKind.bits, IntKind.signed] at h
  exact ⟨b.toNat, by omega, by omega⟩
theorem next_cases {b : Nat} (hb : b < 9218868437227405312) : (bC (b + 1) = 2) ∨ (bC (b + 1) = 1 ∧ bX b < bX (b + 1)) ∨ (bC (b + 1) = 1 ∧ bX (b + 1) ≤ bX b ∧ bM (b + 1) = bM b + 1) := by
  have e0 : bE b = b / 4503599627370496 := by unfold bE; omega
  have e1 : bE (b + 1) = (b + 1) / 4503599627370496 := by unfold bE; omega
  have f0 : bF b = b % 4503599627370496 := rfl
  have f1 : bF (b + 1) = (b + 1) % 4503599627370496 := rfl
  unfold bC bX bM
  generalize bE b = E at *
  generalize bF b = F at *
  generalize bE (b + 1) = E1 at *
  generalize bF (b + 1) = F1 at *
  by_cases h1 : E1 = 2047
  · left
    rw [if_pos h1, if_pos (by omega)]
  · right
    rw [if_neg h1, if_neg (by omega), if_neg h1, if_neg h1, if_neg (show ¬ E = 2047 by omega), if_neg (show ¬ E = 2047 by omega)]
    by_cases h2 : E1 = 0
    · right
      rw [if_pos h2, if_neg (by omega), if_pos h2, if_pos (show E = 0 by omega), if_pos (show E = 0 by omega)]
      refine ⟨rfl, ?_, by omega⟩
      split <;> omega
    · rw [if_neg h2, if_neg h2]
      by_cases h3 : E = 0
      · right
        rw [if_pos h3, if_pos h3]
        refine ⟨rfl, ?_, by omega⟩
        split <;> omega
      · rw [if_neg h3, if_neg h3]
        by_cases h4 : E1 = E
        · right
          exact ⟨rfl, by omega, by omega⟩
        · left
          exact ⟨rfl, by omega⟩
theorem bC_lt (b : Nat) : bC b < 4 := by
  unfold bC
  split
  · split <;> omega
  · split <;> omega
theorem bM_lt (b : Nat) : bM b < 9007199254740992 := by
  unfold bM bF
  split
  · omega
  · split <;> omega
theorem bX_bd (b : Nat) : -1074 ≤ bX b ∧ bX b ≤ 971 := by
  unfold bX bE
  split
  · omega
  · split
    · split <;> omega
    · omega

set_option maxHeartbeats 2000000 in
set_option maxRecDepth 4000 in
theorem law_BitsNext (b : Int) (w : World) (h : (Lit.int .u64 b).wf = true) :
    Calls Try.prog 7 #[.int .u64 b] w fun e w' => e = .returned (.bool true) ∧ Fr w w' := by
  obtain ⟨n, rfl, hn⟩ := u64_nat h
  clear h
  have HN := hide (fun w => next_any n w hn)
  by_cases c : n < 9218868437227405312
  · have HO := hide (fun w => of_any7 n w hn)
    have HO1 := hide (fun w => of_any7 (n + 1) w (by omega))
    have cs := next_cases c
    have m0 := bM_lt n
    have m1 := bM_lt (n + 1)
    obtain ⟨x0, x1⟩ := bX_bd n
    obtain ⟨x2, x3⟩ := bX_bd (n + 1)
    unfold bval at HO HO1
    rw [if_pos c, decide_eq_true c] at HN
    rw [show (((n + 1 : Nat) : Int)) = (n : Int) + 1 by omega] at HO1
    obtain ⟨B, hB⟩ : ∃ B : Int, (n : Int) = B := ⟨_, rfl⟩
    rw [hB] at HN HO HO1 ⊢
    have B0 : 0 ≤ B := by omega
    have B1 : B < 9218868437227405312 := by omega
    generalize bC n = C0 at *
    generalize bN n = N0 at *
    generalize bM n = M0 at *
    generalize bX n = X0 at *
    generalize bC (n + 1) = C1 at *
    generalize bN (n + 1) = N1 at *
    generalize bM (n + 1) = M1 at *
    generalize bX (n + 1) = X1 at *
    clear hB hn c
    go_enter Try.func7, Try.ntmps7
    go_wp2_with fail
    refine (HN.out _).mono ?_
    rintro e w1 ⟨rfl, f1⟩
    go_wp2_with fail
    refine (HO.out _).mono ?_
    rintro e w2 ⟨rfl, f2⟩
    go_wp2_with fail
    refine (HO1.out _).mono ?_
    rintro e w3 ⟨rfl, f3⟩
    have F := hide ((f1.trans f2).trans f3)
    clear f1 f2 f3 HN HO HO1
    have CS := hide cs
    clear cs
    go_wp2_with fail
    obtain ⟨W, hW⟩ : ∃ W, W = (w3.alloc (Obj.cells #[.int .i64 (C0 : Int), .bool N0, .int .u64 (M0 : Int), .int .i64 X0] 25)).alloc (Obj.cells #[.int .i64 (C1 : Int), .bool N1, .int .u64 (M1 : Int), .int .i64 X1] 25) := ⟨_, rfl⟩
    have fW : Fr w3 W := by rw [hW]; exact (Fr.alloc _ _).trans (Fr.alloc _ _)
    have d0 : W.cell? ⟨w3.heap.size, 0, none⟩ = some (.int .i64 (C0 : Int)) := by rw [hW]; simp [go_sem]
    have d2 : W.cell? ⟨w3.heap.size, 2, none⟩ = some (.int .u64 (M0 : Int)) := by rw [hW]; simp [go_sem]
    have d3 : W.cell? ⟨w3.heap.size, 3, none⟩ = some (.int .i64 X0) := by rw [hW]; simp [go_sem]
    have g0 : W.cell? ⟨w3.heap.size + 1, 0, none⟩ = some (.int .i64 (C1 : Int)) := by rw [hW]; simp [go_sem]
    have g2 : W.cell? ⟨w3.heap.size + 1, 2, none⟩ = some (.int .u64 (M1 : Int)) := by rw [hW]; simp [go_sem]
    have g3 : W.cell? ⟨w3.heap.size + 1, 3, none⟩ = some (.int .i64 X1) := by rw [hW]; simp [go_sem]
    rw [← hW]
    clear hW
    refine (wakes_any _).mono ?_
    rintro e w4 ⟨rfl, f4⟩
    have d0 := fr_cell f4 d0
    have d2 := fr_cell f4 d2
    have d3 := fr_cell f4 d3
    have g0 := fr_cell f4 g0
    have g2 := fr_cell f4 g2
    have g3 := fr_cell f4 g3
    have F := hide ((F.out.trans fW).trans f4)
    clear fW f4
    rcases CS.out with rfl | ⟨rfl, hX⟩ | ⟨rfl, hX, rfl⟩
    · go_wp2_with fail
      go_ret
      exact ⟨rfl, F.out⟩
    · go_wp2_with fail
      go_ret
      exact ⟨rfl, F.out⟩
    · have hM : ((M0 + 1 : Nat) : Int) = (M0 : Int) + 1 := by omega
      rw [hM] at g2
      go_wp2_with fail
      go_ret
      exact ⟨rfl, F.out⟩
  · rw [if_neg c, decide_eq_false c] at HN
    obtain ⟨B, hB⟩ : ∃ B : Int, (n : Int) = B := ⟨_, rfl⟩
    rw [hB] at HN ⊢
    have B0 : 9218868437227405312 ≤ B := by omega
    have B1 : B < 18446744073709551616 := by omega
    clear hB hn c
    go_enter Try.func7, Try.ntmps7
    go_wp2_with fail
    refine (HN.out _).mono ?_
    rintro e w1 ⟨rfl, f1⟩
    go_wp2_with fail
    refine (wakes_any _).mono ?_
    rintro e w2 ⟨rfl, f2⟩
    go_wp2_with fail
    go_ret
    exact ⟨rfl, f1.trans f2⟩
end Go.Proofs.Ytphoimjjhcjniaa
