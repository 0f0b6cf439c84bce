/- Plain maths of layer 7: values of 64 bits as whole numbers of 2^-1074, and the bits nearest to a quotient. -/
import Derived.Test.YtphoimjjhcjniaaTensP
namespace Go.Proofs.Ytphoimjjhcjniaa
set_option linter.unusedVariables false

/-- The value of bits without a sign, in units of 2 to -1074; 2^1024 of Infinite. -/
def bV (b : Nat) : Nat := if b < 4503599627370496 then b else (b % 4503599627370496 + 4503599627370496) * 2 ^ (b / 4503599627370496 - 1)

theorem bV_form (b : Nat) : ∃ e M, b = e * 4503599627370496 + M ∧ M < 9007199254740992 ∧ (4503599627370496 ≤ M ∨ e = 0) ∧ bV b = M * 2 ^ e ∧ bV (b + 1) = (M + 1) * 2 ^ e := by
  by_cases h : b < 4503599627370496
  · refine ⟨0, b, by omega, by omega, .inr rfl, ?_, ?_⟩
    · unfold bV; rw [if_pos h, Nat.pow_zero, Nat.mul_one]
    · unfold bV
      by_cases h1 : b + 1 < 4503599627370496
      · rw [if_pos h1, Nat.pow_zero, Nat.mul_one]
      · rw [if_neg h1, show (b + 1) / 4503599627370496 - 1 = 0 by omega, show (b + 1) % 4503599627370496 + 4503599627370496 = b + 1 by omega]
  · refine ⟨b / 4503599627370496 - 1, b % 4503599627370496 + 4503599627370496, by omega, by omega, .inl (by omega), ?_, ?_⟩
    · unfold bV; rw [if_neg h]
    · unfold bV
      rw [if_neg (by omega)]
      by_cases h1 : b % 4503599627370496 + 1 < 4503599627370496
      · rw [show (b + 1) / 4503599627370496 - 1 = b / 4503599627370496 - 1 by omega, show (b + 1) % 4503599627370496 + 4503599627370496 = b % 4503599627370496 + 4503599627370496 + 1 by omega]
      · rw [show (b + 1) / 4503599627370496 - 1 = (b / 4503599627370496 - 1) + 1 by omega, show (b + 1) % 4503599627370496 + 4503599627370496 = 4503599627370496 by omega, show b % 4503599627370496 + 4503599627370496 + 1 = 4503599627370496 * 2 by omega, Nat.pow_succ]
        ac_rfl
theorem bV_zero : bV 0 = 0 := by unfold bV; rfl
theorem bV_step (b : Nat) : bV b < bV (b + 1) := by
  obtain ⟨e, M, _, _, _, h1, h2⟩ := bV_form b
  rw [h1, h2, Nat.add_mul]
  have : 0 < 2 ^ e := Nat.pow_pos (by omega)
  omega
theorem bV_lt {a b : Nat} (h : a < b) : bV a < bV b := by
  induction b with
  | zero => omega
  | succ b ih =>
    by_cases c : a = b
    · subst c; exact bV_step _
    · exact Nat.lt_trans (ih (by omega)) (bV_step b)
theorem bV_le {a b : Nat} (h : a ≤ b) : bV a ≤ bV b := by
  by_cases c : a = b
  · subst c; exact Nat.le_refl _
  · exact Nat.le_of_lt (bV_lt (by omega))

def topB (x y : Nat) : Int := if x * 2 ^ (-((nlen 2 x : Int) - nlen 2 y)).toNat < y * 2 ^ ((nlen 2 x : Int) - nlen 2 y).toNat then (nlen 2 x : Int) - nlen 2 y - 1 else (nlen 2 x : Int) - nlen 2 y
def wholeN (a b : Nat) : Nat := if 2 * (a % b) < b then a / b else if 2 * (a % b) = b then a / b + a / b % 2 else a / b + 1
def expN (x y : Nat) : Int := max (topB x y - 52) (-1074)
def nearN (x y : Nat) : Nat := if x = 0 then 0 else if 971 < expN x y then 9218868437227405312 else (expN x y + 1074).toNat * 4503599627370496 + wholeN (x * 2 ^ (-expN x y).toNat) (y * 2 ^ (expN x y).toNat)

/-- Both terms of a quotient raised: a common factor. -/
theorem scale (k : Int) (K N : Nat) (h : k = (K : Int) - N) : ∃ c, 0 < c ∧ ∀ x y : Nat, x * 2 ^ N = x * 2 ^ (-k).toNat * c ∧ y * 2 ^ K = y * 2 ^ k.toNat * c := by
  by_cases hk : K ≤ N
  · refine ⟨2 ^ K, Nat.pow_pos (by omega), fun x y => ?_⟩
    rw [show (-k).toNat = N - K by omega, show k.toNat = 0 by omega, Nat.mul_assoc, ← Nat.pow_add, show N - K + K = N by omega]
    simp
  · refine ⟨2 ^ N, Nat.pow_pos (by omega), fun x y => ?_⟩
    rw [show (-k).toNat = 0 by omega, show k.toNat = K - N by omega, Nat.mul_assoc y, ← Nat.pow_add, show K - N + N = K by omega]
    simp

theorem topB_spec {x y : Nat} (hx : 0 < x) (hy : 0 < y) (K N : Nat) (h : topB x y = (K : Int) - N) : y * 2 ^ K ≤ x * 2 ^ N ∧ x * 2 ^ N < y * 2 ^ (K + 1) := by
  have x1 := lt_nlen (B := 2) (by omega) x
  have x0 := nlen_low (B := 2) (by omega) x (by omega)
  have y1 := lt_nlen (B := 2) (by omega) y
  have y0 := nlen_low (B := 2) (by omega) y (by omega)
  have px := nlen_pos (B := 2) (by omega) (show x ≠ 0 by omega)
  have py := nlen_pos (B := 2) (by omega) (show y ≠ 0 by omega)
  unfold topB at h
  generalize nlen 2 x = lx at *
  generalize nlen 2 y = ly at *
  split at h
  · rename_i hc
    obtain ⟨c, c0, hs⟩ := scale ((lx : Int) - ly) (K + 1) N (by omega)
    have hs := hs x y
    refine ⟨?_, ?_⟩
    · have a1 : y * 2 ^ K ≤ 2 ^ ly * 2 ^ K := Nat.mul_le_mul_right _ (by omega)
      have a2 : 2 ^ (lx - 1) * 2 ^ N ≤ x * 2 ^ N := Nat.mul_le_mul_right _ x0
      rw [← Nat.pow_add] at a1 a2
      rw [show ly + K = lx - 1 + N by omega] at a1
      omega
    · rw [hs.1, hs.2]
      exact Nat.mul_lt_mul_of_pos_right hc c0
  · rename_i hc
    obtain ⟨c, c0, hs⟩ := scale ((lx : Int) - ly) K N (by omega)
    have hs := hs x y
    refine ⟨?_, ?_⟩
    · rw [hs.1, hs.2]
      exact Nat.mul_le_mul_right _ (by omega)
    · have a1 : x * 2 ^ N < 2 ^ lx * 2 ^ N := Nat.mul_lt_mul_of_pos_right x1 (Nat.pow_pos (by omega))
      have a2 : 2 ^ (ly - 1) * 2 ^ (K + 1) ≤ y * 2 ^ (K + 1) := Nat.mul_le_mul_right _ y0
      rw [← Nat.pow_add] at a1 a2
      rw [show ly - 1 + (K + 1) = lx + N by omega] at a2
      omega

theorem pow2_mono {a b : Nat} (h : a ≤ b) (y : Nat) : y * 2 ^ a ≤ y * 2 ^ b := Nat.mul_le_mul_left _ (Nat.pow_le_pow_right (by omega) h)
theorem expN_eq {x y e M : Nat} (hx : 0 < x) (hy : 0 < y) (hM : M < 9007199254740992) (hM0 : 4503599627370496 ≤ M ∨ e = 0) (h1 : M * 2 ^ e * y ≤ x * 2 ^ 1074) (h2 : x * 2 ^ 1074 < (M + 1) * 2 ^ e * y) : expN x y = (e : Int) - 1074 := by
  have u : x * 2 ^ 1074 < y * 2 ^ (e + 53) := by
    refine Nat.lt_of_lt_of_le h2 ?_
    rw [Nat.pow_add, Nat.mul_assoc, Nat.mul_comm y (2 ^ e * 2 ^ 53), Nat.mul_comm (2 ^ e) (2 ^ 53), Nat.mul_assoc]
    exact Nat.mul_le_mul_right _ (by omega)
  unfold expN
  have hmax : ∀ a b c : Int, (a = c ∧ b ≤ c) ∨ (a ≤ c ∧ b = c) → max a b = c := by intro a b c; omega
  refine hmax _ _ _ ?_
  by_cases ht : -1074 ≤ topB x y
  · have hs := topB_spec hx hy (topB x y + 1074).toNat 1074 (by omega)
    obtain ⟨T, hT⟩ : ∃ T, (topB x y + 1074).toNat = T := ⟨_, rfl⟩
    rw [hT] at hs
    have b1 : T ≤ e + 52 := by
      apply Nat.le_of_not_lt
      intro hc
      have := pow2_mono (show e + 53 ≤ T by omega) y
      omega
    rcases hM0 with hM0 | he
    · have l : y * 2 ^ (e + 52) ≤ x * 2 ^ 1074 := by
        refine Nat.le_trans ?_ h1
        rw [Nat.pow_add, Nat.mul_assoc, Nat.mul_comm y (2 ^ e * 2 ^ 52), Nat.mul_comm (2 ^ e) (2 ^ 52), Nat.mul_assoc]
        exact Nat.mul_le_mul_right _ (by omega)
      have b2 : e + 52 ≤ T := by
        apply Nat.le_of_not_lt
        intro hc
        have := pow2_mono (show T + 1 ≤ e + 52 by omega) y
        omega
      omega
    · omega
  · rcases hM0 with hM0 | he
    · exfalso
      have hs := topB_spec hx hy 0 (-topB x y).toNat (by omega)
      have e1 : (-topB x y).toNat = 1074 + ((-topB x y).toNat - 1074) := by omega
      have e2 : ∀ N d : Nat, x * 2 ^ (N + d) = x * 2 ^ N * 2 ^ d := fun N d => by rw [Nat.pow_add, ← Nat.mul_assoc]
      rw [e1, e2] at hs
      have p : 1 ≤ 2 ^ ((-topB x y).toNat - 1074) := Nat.pow_pos (by omega)
      have l : x * 2 ^ 1074 * 1 ≤ x * 2 ^ 1074 * 2 ^ ((-topB x y).toNat - 1074) := Nat.mul_le_mul_left _ p
      have q : 1 ≤ 2 ^ e := Nat.pow_pos (by omega)
      have l2 : 2 * 1 * y ≤ M * 2 ^ e * y := Nat.mul_le_mul_right _ (Nat.mul_le_mul (by omega) q)
      omega
    · omega

theorem wholeN_eq {a b M : Nat} (h1 : M * b ≤ a) (h2 : a < (M + 1) * b) : wholeN a b = if 2 * a < (2 * M + 1) * b then M else if 2 * a = (2 * M + 1) * b then M + M % 2 else M + 1 := by
  have d : a / b = M := by
    apply Nat.div_eq_of_lt_le
    · exact h1
    · exact h2
  have r : a % b = a - M * b := by
    have := Nat.div_add_mod a b
    rw [d, Nat.mul_comm] at this
    omega
  have e : (2 * M + 1) * b = 2 * (M * b) + b := by rw [Nat.add_mul, Nat.mul_assoc, Nat.one_mul]
  unfold wholeN
  rw [d, r, e]
  split <;> split <;> (try split) <;> (try split) <;> omega

/-- Of a number from one value of bits up to the next one the nearer one's bits are told, of two as near the even one's. -/
theorem near_spec {x y b : Nat} (hy : 0 < y) (hb : b < 9218868437227405312) (h1 : bV b * y ≤ x * 2 ^ 1074) (h2 : x * 2 ^ 1074 < bV (b + 1) * y) :
    nearN x y = if 2 * (x * 2 ^ 1074) < (bV b + bV (b + 1)) * y then b else if 2 * (x * 2 ^ 1074) = (bV b + bV (b + 1)) * y then b + b % 2 else b + 1 := by
  by_cases hx : x = 0
  · subst hx
    generalize 2 ^ 1074 = P at h1 h2 ⊢
    rw [Nat.zero_mul] at h1 h2 ⊢
    have b0 : b = 0 := by
      apply Nat.eq_zero_of_not_pos
      intro hc
      have := bV_lt hc
      rw [bV_zero] at this
      have := Nat.mul_pos this hy
      omega
    subst b0
    have p : 0 < (bV 0 + bV (0 + 1)) * y := Nat.mul_pos (by have := bV_step 0; omega) hy
    rw [if_pos (by omega)]
    unfold nearN
    rw [if_pos rfl]
  · obtain ⟨e, M, rfl, hM, hM0, v0, v1⟩ := bV_form b
    rw [v0] at h1
    rw [v1] at h2
    have he := expN_eq (by omega) hy hM hM0 h1 h2
    obtain ⟨c, c0, hs⟩ := scale ((e : Int) - 1074) e 1074 rfl
    have hs := hs x y
    unfold nearN
    rw [if_neg hx, he, if_neg (by omega), show ((e : Int) - 1074 + 1074).toNat = e by omega]
    obtain ⟨A, hA⟩ : ∃ A, x * 2 ^ (-((e : Int) - 1074)).toNat = A := ⟨_, rfl⟩
    obtain ⟨D, hD⟩ : ∃ D, y * 2 ^ ((e : Int) - 1074).toNat = D := ⟨_, rfl⟩
    rw [hA, hD] at hs
    rw [hA, hD, v0, v1]
    have m0 : ∀ k, k * 2 ^ e * y = k * D * c := by
      intro k
      rw [Nat.mul_assoc, Nat.mul_comm (2 ^ e) y, hs.2, Nat.mul_assoc]
    rw [m0, hs.1] at h1 h2
    have q1 : M * D ≤ A := Nat.le_of_mul_le_mul_right h1 c0
    have q2 : A < (M + 1) * D := Nat.lt_of_mul_lt_mul_right h2
    rw [wholeN_eq q1 q2, ← Nat.add_mul, m0, hs.1, show M + (M + 1) = 2 * M + 1 by omega, ← Nat.mul_assoc]
    have k1 : (2 * A * c < (2 * M + 1) * D * c) ↔ 2 * A < (2 * M + 1) * D := ⟨fun h => Nat.lt_of_mul_lt_mul_right h, fun h => Nat.mul_lt_mul_of_pos_right h c0⟩
    have k2 : (2 * A * c = (2 * M + 1) * D * c) ↔ 2 * A = (2 * M + 1) * D := ⟨fun h => Nat.eq_of_mul_eq_mul_right c0 h, fun h => by rw [h]⟩
    simp only [k1, k2]
    split
    · rfl
    · split
      · omega
      · omega

theorem near_exact {x y b : Nat} (hy : 0 < y) (hb : b < 9218868437227405312) (h : x * 2 ^ 1074 = bV b * y) : nearN x y = b := by
  have l := Nat.mul_lt_mul_of_pos_right (bV_step b) hy
  rw [near_spec hy hb (by omega) (by omega), if_pos]
  rw [Nat.add_mul]
  omega

theorem near_all {x y m : Nat} (hm : x * 2 ^ 1074 < bV m * y) : ∃ b, b < m ∧ bV b * y ≤ x * 2 ^ 1074 ∧ x * 2 ^ 1074 < bV (b + 1) * y := by
  induction m with
  | zero => rw [bV_zero, Nat.zero_mul] at hm; omega
  | succ m ih =>
    by_cases c : x * 2 ^ 1074 < bV m * y
    · obtain ⟨b, h⟩ := ih c
      exact ⟨b, by omega, h.2⟩
    · exact ⟨m, by omega, by omega, hm⟩

/-- No neighbour is nearer; one as near only to even bits. -/
theorem near_sides {x y m : Nat} (hy : 0 < y) (hmm : m < 9218868437227405312) (hm : x * 2 ^ 1074 < bV m * y) :
    nearN x y ≤ m ∧ (2 * (x * 2 ^ 1074) ≤ (bV (nearN x y) + bV (nearN x y + 1)) * y ∧ (2 * (x * 2 ^ 1074) = (bV (nearN x y) + bV (nearN x y + 1)) * y → nearN x y % 2 = 0)) ∧
      (∀ c, nearN x y = c + 1 → (bV c + bV (c + 1)) * y ≤ 2 * (x * 2 ^ 1074) ∧ (2 * (x * 2 ^ 1074) = (bV c + bV (c + 1)) * y → nearN x y % 2 = 0)) := by
  obtain ⟨b, hb, h1, h2⟩ := near_all hm
  have hn := near_spec hy (by omega) h1 h2
  have up : bV (b + 1) * y < bV (b + 1 + 1) * y := Nat.mul_lt_mul_of_pos_right (bV_step _) hy
  have e2 := Nat.add_mul (bV b) (bV (b + 1)) y
  have e3 := Nat.add_mul (bV (b + 1)) (bV (b + 1 + 1)) y
  have low : ∀ c, b = c + 1 → bV c * y < bV b * y := by
    intro c hc; subst hc; exact Nat.mul_lt_mul_of_pos_right (bV_step _) hy
  have isB : nearN x y = b → 2 * (x * 2 ^ 1074) ≤ (bV b + bV (b + 1)) * y → (2 * (x * 2 ^ 1074) = (bV b + bV (b + 1)) * y → b % 2 = 0) →
      nearN x y ≤ m ∧ (2 * (x * 2 ^ 1074) ≤ (bV (nearN x y) + bV (nearN x y + 1)) * y ∧ (2 * (x * 2 ^ 1074) = (bV (nearN x y) + bV (nearN x y + 1)) * y → nearN x y % 2 = 0)) ∧
      (∀ c, nearN x y = c + 1 → (bV c + bV (c + 1)) * y ≤ 2 * (x * 2 ^ 1074) ∧ (2 * (x * 2 ^ 1074) = (bV c + bV (c + 1)) * y → nearN x y % 2 = 0)) := by
    intro e a1 a2
    rw [e]
    refine ⟨by omega, ⟨a1, a2⟩, fun c hc => ?_⟩
    have := low c hc
    have e4 := Nat.add_mul (bV c) (bV (c + 1)) y
    rw [← hc] at e4 ⊢
    exact ⟨by omega, fun h => by omega⟩
  have isS : nearN x y = b + 1 → (bV b + bV (b + 1)) * y ≤ 2 * (x * 2 ^ 1074) → (2 * (x * 2 ^ 1074) = (bV b + bV (b + 1)) * y → (b + 1) % 2 = 0) →
      nearN x y ≤ m ∧ (2 * (x * 2 ^ 1074) ≤ (bV (nearN x y) + bV (nearN x y + 1)) * y ∧ (2 * (x * 2 ^ 1074) = (bV (nearN x y) + bV (nearN x y + 1)) * y → nearN x y % 2 = 0)) ∧
      (∀ c, nearN x y = c + 1 → (bV c + bV (c + 1)) * y ≤ 2 * (x * 2 ^ 1074) ∧ (2 * (x * 2 ^ 1074) = (bV c + bV (c + 1)) * y → nearN x y % 2 = 0)) := by
    intro e a1 a2
    rw [e]
    refine ⟨by omega, ⟨by omega, fun h => by omega⟩, fun c hc => ?_⟩
    obtain rfl : c = b := by omega
    exact ⟨a1, a2⟩
  split at hn
  · exact isB hn (by omega) (fun h => by omega)
  · split at hn
    · by_cases p : b % 2 = 0
      · exact isB (by omega) (by omega) (fun _ => p)
      · exact isS (by omega) (by omega) (fun _ => by omega)
    · exact isS hn (by omega) (fun h => by omega)
end Go.Proofs.Ytphoimjjhcjniaa
