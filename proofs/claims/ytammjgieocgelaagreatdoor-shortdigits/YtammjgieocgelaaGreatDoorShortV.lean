/- Layer 10: what is told of a value of 64 bits (plain maths). -/
import Derived.Test.YtammjgieocgelaaGreatDoorShortP
namespace Go.Proofs.YtammjgieocgelaaGreatDoor
set_option linter.unusedVariables false
set_option linter.unusedSimpArgs false
open Go.Lib (decDigits trimRightB)

def vE (b : Nat) : Int := (nlen 10 (vDec b) : Int) - 1 - vK b
def sR (b c : Nat) : Nat := sciR (vNum b) (vDen b) (vE b) c
def sD (b c : Nat) : List UInt8 := sciD c (sR b c)
def sE (b c : Nat) : Int := sciE c (sR b c) (vE b)
def told (b c : Nat) : Bool := toldB (vNum b) (vDen b) (vE b) (b % 9223372036854775808) c

theorem class_one {b : Nat} (hb : b < 18446744073709551616) (h : bC b = 1) : bE b ≠ 2047 ∧ ¬ (bE b = 0 ∧ bF b = 0) ∧ 0 < bM b ∧ ∃ u, b % 9223372036854775808 = u + 1 ∧ u + 1 < 9218868437227405312 := by
  have e0 : bE b = b / 4503599627370496 % 2048 := rfl
  have f0 : bF b = b % 4503599627370496 := rfl
  have h1 : bE b ≠ 2047 := by
    intro e
    unfold bC at h
    rw [if_pos e] at h
    split at h <;> omega
  have h2 : ¬ (bE b = 0 ∧ bF b = 0) := by
    intro e
    unfold bC at h
    rw [if_neg h1, if_pos e] at h
    omega
  refine ⟨h1, h2, ?_, b % 9223372036854775808 - 1, by omega, by omega⟩
  unfold bM
  rw [if_neg h1]
  split
  · omega
  · omega
theorem bM_mod {b : Nat} (hb : b < 18446744073709551616) : bM (b % 9223372036854775808) = bM b ∧ bX (b % 9223372036854775808) = bX b := by
  have h1 : bE (b % 9223372036854775808) = bE b := by unfold bE; omega
  have h2 : bF (b % 9223372036854775808) = bF b := by unfold bF; omega
  unfold bM bX
  rw [h1, h2]
  exact ⟨rfl, rfl⟩
theorem vNum_mod {b : Nat} (hb : b < 18446744073709551616) : vNum (b % 9223372036854775808) = vNum b ∧ vDen (b % 9223372036854775808) = vDen b := by
  obtain ⟨h1, h2⟩ := bM_mod hb
  unfold vNum vDen
  rw [h1, h2]
  exact ⟨rfl, rfl⟩
theorem vDec_mod {b : Nat} (hb : b < 18446744073709551616) : vDec (b % 9223372036854775808) = vDec b ∧ vK (b % 9223372036854775808) = vK b := by
  obtain ⟨h1, h2⟩ := bM_mod hb
  unfold vDec vK
  rw [h1, h2]
  exact ⟨rfl, rfl⟩
/-- Bounds. -/
theorem v_facts (b : Nat) : SameN (vNum b) (vDen b) (vDec b) (vK b) ∧ nlen 2 (vNum b) ≤ 1100 ∧ nlen 2 (vDen b) ≤ 1100 ∧ nlen 4294967296 (vNum b) ≤ 1000 ∧ nlen 4294967296 (vDen b) ≤ 1000 ∧ vK b ≤ 1074 ∧ (nlen 10 (vDec b) : Int) ≤ 1100 ∧ (nlen 10 (vDec b) : Int) - vK b ≤ 1000 := by
  have hx := bX_low b
  obtain ⟨h1, h2, h3, h4, h5, h6⟩ := value_facts (bM b) (bX b) (bM_lt b) hx.1 hx.2 (vNum b) (vDen b) (vDec b) rfl rfl rfl
  have hk : vK b = (-bX b).toNat := rfl
  rw [← hk] at h1 h6
  exact ⟨h1, h2, h3, h4, h5, by omega, by omega, by omega⟩
theorem vDec_ne {b : Nat} (h : 0 < bM b) : vDec b ≠ 0 := by
  unfold vDec
  exact Nat.ne_of_gt (Nat.mul_pos (Nat.mul_pos h (Nat.pow_pos (by omega))) (Nat.pow_pos (by omega)))
theorem vE_facts {b : Nat} (hb : b < 18446744073709551616) (h : bC b = 1) : IsExp (vNum b) (vDen b) (vE b) ∧ -1100 ≤ vE b ∧ vE b ≤ 1000 := by
  obtain ⟨_, _, hm, _⟩ := class_one hb h
  obtain ⟨h1, _, _, _, _, h6, h7, h8⟩ := v_facts b
  have hne := vDec_ne hm
  have hnp := nlen_pos (B := 10) (by omega) hne
  refine ⟨exp_same h1 hne rfl, ?_, ?_⟩ <;> unfold vE <;> omega
/-- A value's quotient in units of 2^-1074. -/
theorem v_units {b T : Nat} (hT : 2 ^ 1074 = T) (hb : b < 18446744073709551616) (h : bC b = 1) : vNum b * T = bV (b % 9223372036854775808) * vDen b := by
  obtain ⟨_, _, _, u, hu, hu2⟩ := class_one hb h
  have := v_bV (b := b % 9223372036854775808) (by omega)
  rw [(vNum_mod hb).1, (vNum_mod hb).2, hT] at this
  exact this
theorem s_cut {b c : Nat} (hc : 1 ≤ c) : cutN (vDec b) (vK b) ((c : Int) - 1 - vE b) = sR b c := by
  obtain ⟨h1, _⟩ := v_facts b
  rw [← to_same (E := vE b) hc h1, to_j hc h1.1]
  rfl
theorem s_rnd {b c : Nat} (hc : 1 ≤ c) : rndN (vNum b * 10 ^ (-vE b).toNat * 10 ^ (c - 1)) (vDen b * 10 ^ (vE b).toNat) = sR b c := by
  obtain ⟨h1, _⟩ := v_facts b
  rw [to_j hc h1.1]
  rfl
theorem s_facts {b c : Nat} (hb : b < 18446744073709551616) (h : bC b = 1) (hc : 1 ≤ c) : (sD b c).length = c ∧ AllD (sD b c) ∧ (sD b c).head? ≠ some 48 ∧ (vE b ≤ sE b c ∧ sE b c ≤ vE b + 1) ∧ nlen 10 (sR b c) ≤ c + 1 := by
  obtain ⟨hE, _, _⟩ := vE_facts hb h
  obtain ⟨h1, _⟩ := v_facts b
  obtain ⟨a1, a2, a3, a4⟩ := sciR_facts hc h1.1 hE
  refine ⟨a1, a2, a3, a4, nlen_le ten2 ?_⟩
  have := (to_range hc h1.1 hE).2
  refine Nat.lt_of_le_of_lt this ?_
  exact Nat.pow_lt_pow_right (by omega) (by omega)
theorem told_dec (b c : Nat) : told b c = decide (backN (sD b c) (sE b c) = b % 9223372036854775808) := rfl
theorem some_T : ∃ T, 2 ^ 1074 = T ∧ 0 < T := by
  have k : ∀ c : Nat, 0 < 2 ^ c := fun c => Nat.pow_pos (by omega)
  exact ⟨_, rfl, k 1074⟩
theorem told_at17 {b : Nat} (hb : b < 18446744073709551616) (h : bC b = 1) : told b 17 = true := by
  obtain ⟨T, hT, hT0⟩ := some_T
  obtain ⟨_, _, _, u, hu, hu2⟩ := class_one hb h
  obtain ⟨hE, _, _⟩ := vE_facts hb h
  obtain ⟨h1, _⟩ := v_facts b
  have hv := v_units hT hb h
  unfold told
  rw [hu] at hv ⊢
  exact told_17 hT hT0 h1.1 hE hu2 hv
theorem told_shorter {b c : Nat} (hb : b < 18446744073709551616) (h : bC b = 1) (hc : 1 ≤ c) (ht : told b (c + 1) = true) (l : List UInt8) (hl : sD b (c + 1) = l ++ [48]) : told b c = true := by
  obtain ⟨T, hT, hT0⟩ := some_T
  obtain ⟨_, _, _, u, hu, hu2⟩ := class_one hb h
  obtain ⟨hE, _, _⟩ := vE_facts hb h
  obtain ⟨h1, _⟩ := v_facts b
  unfold told at ht ⊢
  rw [hu] at ht ⊢
  exact told_less hT hc h1.1 hE hu2 ht l hl
/-- The search: where it ends. -/
theorem told_end {b c n : Nat} (c1 : 1 ≤ c) (c2 : c ≤ 17) (hno : ∀ j, 1 ≤ j → j < c → told b j = false) (hyes : c < 17 → told b c = true) (n1 : 1 ≤ n) (n2 : n < 17) (hF : ∀ j, 1 ≤ j → j < n → told b j = false) (ht : told b n = true) : n = c := by
  rcases Nat.lt_trichotomy n c with h | h | h
  · rw [hno n n1 h] at ht; cases ht
  · exact h
  · have := hF c c1 h
    rw [hyes (by omega)] at this
    cases this
theorem told_all {b c : Nat} (c1 : 1 ≤ c) (c2 : c ≤ 17) (hyes : c < 17 → told b c = true) (hF : ∀ j, 1 ≤ j → j < 17 → told b j = false) : c = 17 := by
  rcases Nat.lt_or_ge c 17 with h | h
  · have := hF c c1 h
    rw [hyes h] at this
    cases this
  · omega
end Go.Proofs.YtammjgieocgelaaGreatDoor
