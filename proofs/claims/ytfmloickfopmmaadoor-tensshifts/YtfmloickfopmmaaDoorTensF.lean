/- of; the law TensPowers. -/
import Derived.Test.YtfmloickfopmmaaDoorTensD
import Derived.Test.YtfmloickfopmmaaDoorDecO
namespace Go.Proofs.YtfmloickfopmmaaDoor
set_option linter.unusedVariables false
set_option linter.unusedSimpArgs false
open Go.RowKit

attribute [local go_sem] World.cell?_alloc_some
set_option maxHeartbeats 400000 in
theorem ofLaw_any (va : Value) (x : Nat) (w : World) (ha : IsNat w va x) (hx : nlen 4294967296 x ≤ 1000) :
    Calls Tryd.prog 7 #[va] w fun e w' => ∃ v, e = .returned v ∧ IsDec w' v x ∧ Fr w w' := by
  have HA := hide ha
  obtain ⟨a, ca, rfl, a2, a3, a4⟩ := ha
  clear a4
  go_enter Tryd.func7, Tryd.ntmps7
  go_wp2_with fail
  refine (limbs_any _ x _ (HA.out.fr (Fr.alloc _ _)) (by omega)).mono ?_
  rintro e w1 ⟨v1, rfl, hown, f1⟩
  obtain ⟨a1, c1, rfl, _, _, _⟩ := own_form hown
  have hcs := own_cs hown
  clear hown
  go_wp2_with fail
  refine (refMade_any x _ c1 a1 _ (lt_nlen b32 x) hx hcs).mono ?_
  rintro e w2 ⟨v2, rfl, h2, f2⟩
  have H2 := hide h2
  clear h2 hcs
  go_wp2_with fail
  go_ret
  exact ⟨_, rfl, H2, ((Fr.alloc _ _).trans f1).trans f2⟩

theorem nl_tens (N : Nat) : nlen 10 (10 ^ N) = N + 1 :=
  nlen_eq ten2 (Nat.pow_lt_pow_right (by omega) (by omega)) (.inr (Nat.pow_le_pow_right (by omega) (by omega)))
theorem dg_tens_top (N : Nat) : dg 10 (10 ^ N) N = 1 := by
  unfold dg; rw [Nat.div_self (Nat.pow_pos (by omega))]
theorem dg_tens_low {N j : Nat} (h : j < N) : dg 10 (10 ^ N) j = 0 := by
  unfold dg
  obtain ⟨d, rfl⟩ : ∃ d, N = j + (d + 1) := ⟨N - j - 1, by omega⟩
  rw [Nat.pow_add, Nat.mul_div_cancel_left _ (Nat.pow_pos (by omega)), Nat.pow_succ, Nat.mul_mod_left]
theorem i64_bd {x : Int} (h : (Lit.int .i64 x).wf = true) : -9223372036854775808 ≤ x ∧ x ≤ 9223372036854775807 := by
  simp [Lit.wf, IntKind.min, IntKind.max, IntKind.signed, IntKind.bits] at h
  omega

set_option maxHeartbeats 1000000 in
theorem law_TensPowers (k : Int) (w : World) (h0 : (Lit.int .i64 k).wf = true) (hT : Tab w) :
    Calls Tryd.prog 3 #[.int .i64 k] w fun e w' => e = .returned (.bool true) ∧ Fr w w' := by
  obtain ⟨kb0, kb1⟩ := i64_bd h0
  have HT := hide hT
  clear h0 hT
  obtain ⟨N, hN, hN2⟩ : ∃ N : Nat, (k ≤ 0 → N = 0) ∧ (0 ≤ k → k % 700 = (N : Int)) := ⟨(if k ≤ 0 then 0 else (k % 700).toNat), fun h => by rw [if_pos h], fun h => by split <;> omega⟩
  have hN3 : N < 700 := by
    by_cases c : k ≤ 0
    · have := hN c; omega
    · have := hN2 (by omega); omega
  have nl : nlen 4294967296 (10 ^ N) ≤ 1000 := Nat.le_trans (nlen_pow (n := 1) (by rw [nlten]; omega) N) (by omega)
  have HN := hide hN
  have HN2 := hide hN2
  clear hN hN2
  go_enter Tryd.func3, Tryd.ntmps3
  by_cases c : k ≤ 0
  · have hn0 := HN.out c
    subst hn0
    go_wp2_with fail
    refine (tenc_any 0 (10 ^ 0) _ (by omega) (by omega) rfl).mono ?_
    rintro e w1 ⟨a1, c1, rfl, h1, f1⟩
    go_wp2_with fail
    refine (ofLaw_any _ _ _ h1 nl).mono ?_
    rintro e w2 ⟨v2, rfl, i2, f2⟩
    obtain ⟨a, cap, rfl, b2, b3, b4⟩ := i2
    rw [nl_tens] at b2 b4 ⊢
    rcases b4 with b4 | ⟨b, off, rfl, hb, hc⟩
    · omega
    have ctop := hc 0 (by omega)
    rw [dg_tens_top, Nat.add_zero] at ctop
    have HC := hide hc
    have F := hide (f1.trans f2)
    clear hc h1 f1 f2
    unfold maxLen at b3
    go_wp2_with fail
    go_loop [31] (fun s => ∃ i : Nat, i ≤ 0 ∧ s = .int .i64 i) (fun s => 0 - (intOf s).toNat)
    case atStart => exact ⟨0, by omega, rfl⟩
    case round =>
      obtain ⟨i, hi, rfl⟩ := hrel
      by_cases cc : i < 0
      · omega
      · obtain rfl : i = 0 := by omega
        go_wp2_with fail
        refine (ten_any k _ (by omega) (by omega)).mono ?_
        rintro e w3 ⟨a3, c3, rfl, h3, f3⟩
        rw [show (k : Int).toNat = 0 by omega, Nat.pow_zero] at h3 ⊢
        have F3 := hide (F.out.trans f3)
        clear f3
        go_wp2_with fail
        refine (small_any _ _ _ h3).mono ?_
        rintro e w4 ⟨rfl, f4⟩
        rw [if_pos (by omega), decide_eq_true (by omega)]
        have F4 := hide (F3.out.trans f4)
        clear f4 h3
        go_wp2_with fail
        refine (wakes_any _ (Tab.fr HT.out F4.out)).mono ?_
        rintro e w5 ⟨rfl, f5⟩
        go_wp2_with fail
        go_ret
        exact ⟨rfl, F4.out.trans f5⟩
  · have hn0 := HN2.out (by omega)
    go_wp2_with fail
    refine (tenc_any N (10 ^ N) _ (by omega) (by omega) (by rw [Int.toNat_natCast])).mono ?_
    rintro e w1 ⟨a1, c1, rfl, h1, f1⟩
    go_wp2_with fail
    refine (ofLaw_any _ _ _ h1 nl).mono ?_
    rintro e w2 ⟨v2, rfl, i2, f2⟩
    obtain ⟨a, cap, rfl, b2, b3, b4⟩ := i2
    rw [nl_tens] at b2 b4 ⊢
    rcases b4 with b4 | ⟨b, off, rfl, hb, hc⟩
    · omega
    have ctop := hc N (by omega)
    rw [dg_tens_top] at ctop
    have HC := hide hc
    have F := hide (f1.trans f2)
    clear hc h1 f1 f2
    unfold maxLen at b3
    go_wp2_with fail
    go_loop [31] (fun s => ∃ i : Nat, i ≤ N ∧ s = .int .i64 i) (fun s => N - (intOf s).toNat)
    case atStart => exact ⟨0, by omega, rfl⟩
    case round =>
      obtain ⟨i, hi, rfl⟩ := hrel
      by_cases cc : i < N
      · have hci := HC.out i (by omega)
        rw [dg_tens_low cc] at hci
        go_wp2_with fail
        go_round
        case rel => exact ⟨i + 1, by omega, by go_num⟩
        case measure => simp [intOf]; omega
      · obtain rfl : i = N := by omega
        go_wp2_with fail
        refine (ten_any 0 _ (by omega) (by omega)).mono ?_
        rintro e w3 ⟨a3, c3, rfl, h3, f3⟩
        rw [show (0 : Int).toNat = 0 by omega, Nat.pow_zero] at h3 ⊢
        have F3 := hide (F.out.trans f3)
        clear f3
        go_wp2_with fail
        refine (small_any _ _ _ h3).mono ?_
        rintro e w4 ⟨rfl, f4⟩
        rw [if_pos (by omega), decide_eq_true (by omega)]
        have F4 := hide (F3.out.trans f4)
        clear f4 h3
        go_wp2_with fail
        refine (wakes_any _ (Tab.fr HT.out F4.out)).mono ?_
        rintro e w5 ⟨rfl, f5⟩
        go_wp2_with fail
        go_ret
        exact ⟨rfl, F4.out.trans f5⟩
end Go.Proofs.YtfmloickfopmmaaDoor
