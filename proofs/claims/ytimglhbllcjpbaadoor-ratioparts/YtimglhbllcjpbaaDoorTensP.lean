/- Plain maths of layer 5: noughts at a number's end in base two, shifts by whole limbs and by bits. -/
import Derived.Test.YtimglhbllcjpbaaDoorQuotP
import Derived.Lib.TrailingZeros
namespace Go.Proofs.YtimglhbllcjpbaaDoor
set_option linter.unusedVariables false

theorem b32' : 2 ≤ 4294967296 := by decide

/-- How many noughts stand at the end of x in base two; of 0 none. -/
def tz (x : Nat) : Nat := if h : x = 0 ∨ x % 2 = 1 then 0 else tz (x / 2) + 1
  termination_by x
  decreasing_by omega

theorem tz_zero : tz 0 = 0 := by unfold tz; simp
theorem tz_odd {x : Nat} (h : x % 2 = 1) : tz x = 0 := by unfold tz; rw [dif_pos (.inr h)]
theorem tz_even {x : Nat} (h : x ≠ 0) : tz (2 * x) = tz x + 1 := by
  rw [tz, dif_neg (by omega), show 2 * x / 2 = x by omega]
theorem tz_pow (k m : Nat) : tz (2 ^ k * (2 * m + 1)) = k := by
  induction k with
  | zero => rw [Nat.pow_zero, Nat.one_mul]; exact tz_odd (by omega)
  | succ k ih =>
    have hp : 0 < 2 ^ k * (2 * m + 1) := Nat.mul_pos (Nat.pow_pos (by omega)) (by omega)
    rw [show 2 ^ (k + 1) * (2 * m + 1) = 2 * (2 ^ k * (2 * m + 1)) by rw [Nat.pow_succ]; ac_rfl, tz_even (by omega), ih]
theorem tz_form {x : Nat} (h : x ≠ 0) : ∃ m, x = 2 ^ tz x * (2 * m + 1) := by
  induction x using Nat.strongRecOn with
  | _ x ih =>
    by_cases ho : x % 2 = 1
    · exact ⟨x / 2, by rw [tz_odd ho, Nat.pow_zero, Nat.one_mul]; omega⟩
    · have e : x = 2 * (x / 2) := by omega
      obtain ⟨m, hm⟩ := ih (x / 2) (by omega) (by omega)
      refine ⟨m, ?_⟩
      have e2 : tz x = tz (x / 2) + 1 := by rw [← tz_even (by omega), ← e]
      rw [e2, show 2 ^ (tz (x / 2) + 1) * (2 * m + 1) = 2 * (2 ^ tz (x / 2) * (2 * m + 1)) by rw [Nat.pow_succ]; ac_rfl, ← hm]
      exact e
theorem tz_up {x : Nat} (h : x ≠ 0) (k : Nat) : tz (x * 2 ^ k) = tz x + k := by
  obtain ⟨m, hm⟩ := tz_form h
  have e : x * 2 ^ k = 2 ^ (tz x + k) * (2 * m + 1) := by
    rw [Nat.pow_add]
    conv => lhs; rw [hm]
    ac_rfl
  rw [e, tz_pow]
theorem mod_pow {x : Nat} (h : x ≠ 0) (k : Nat) : x % 2 ^ k ≠ 0 ↔ tz x < k := by
  obtain ⟨m, hm⟩ := tz_form h
  generalize tz x = t at *
  subst hm
  constructor
  · intro h1
    rcases Nat.lt_or_ge t k with l | l
    · exact l
    · obtain ⟨d, rfl⟩ : ∃ d, t = k + d := ⟨t - k, by omega⟩
      exact absurd (by rw [Nat.pow_add, Nat.mul_assoc, Nat.mul_mod_right]) h1
  · intro l h1
    obtain ⟨d, rfl⟩ : ∃ d, k = t + (d + 1) := ⟨k - t - 1, by omega⟩
    rw [Nat.pow_add, Nat.mul_mod_mul_left] at h1
    have hp : 0 < 2 ^ t := Nat.pow_pos (by omega)
    rcases Nat.mul_eq_zero.1 h1 with h2 | h2
    · omega
    · have h3 := Nat.div_add_mod (2 * m + 1) (2 ^ (d + 1))
      rw [h2, Nat.pow_succ] at h3
      have h4 : 2 ^ d * 2 * ((2 * m + 1) / (2 ^ d * 2)) = 2 * (2 ^ d * ((2 * m + 1) / (2 ^ d * 2))) := by ac_rfl
      omega
theorem down_odd {x : Nat} (h : x ≠ 0) : x / 2 ^ tz x % 2 = 1 := by
  obtain ⟨m, hm⟩ := tz_form h
  generalize tz x = t at *
  subst hm
  rw [Nat.mul_div_cancel_left _ (Nat.pow_pos (by omega))]
  omega
theorem mod_own {x : Nat} (h : x ≠ 0) : x % 2 ^ tz x = 0 := by
  rcases Nat.eq_zero_or_pos (x % 2 ^ tz x) with l | l
  · exact l
  · have := (mod_pow h (tz x)).1 (by omega); omega

/-- The first limb that isn't 0. -/
theorem tz_limb {x i : Nat} (h : x % 4294967296 ^ i = 0) (hd : dg 4294967296 x i ≠ 0) : tz x = i * 32 + Lib.ctz 32 (dg 4294967296 x i) ∧ Lib.ctz 32 (dg 4294967296 x i) < 32 := by
  have hl := dg_lt b32' x i
  obtain ⟨m, hm, hk⟩ := Lib.ctzFrom_spec 32 (dg 4294967296 x i) (by omega) (by omega)
  have e : Lib.ctz 32 (dg 4294967296 x i) = Lib.ctzFrom 32 (dg 4294967296 x i) := by simp [Lib.ctz, hd]
  rw [e]
  refine ⟨?_, hk⟩
  generalize Lib.ctzFrom 32 (dg 4294967296 x i) = c at *
  have h1 := Nat.div_add_mod x (4294967296 ^ i)
  rw [h, Nat.add_zero, div_step b32' x i, hm] at h1
  generalize x / 4294967296 ^ (i + 1) = q at *
  obtain ⟨d, hcd⟩ : ∃ d, c + (d + 1) = 32 := ⟨31 - c, by omega⟩
  have h32 : (4294967296 : Nat) = 2 ^ 32 := by decide
  have e2 : 4294967296 * q + 2 ^ c * (2 * m + 1) = 2 ^ c * (2 * (2 ^ d * q + m) + 1) := by
    rw [h32, ← hcd, Nat.pow_add, Nat.pow_succ]
    have : 2 ^ c * (2 ^ d * 2) * q = 2 ^ c * (2 * (2 ^ d * q)) := by ac_rfl
    rw [this, ← Nat.mul_add]
    congr 1
    omega
  rw [e2] at h1
  have e3 : 4294967296 ^ i * (2 ^ c * (2 * (2 ^ d * q + m) + 1)) = 2 ^ (i * 32 + c) * (2 * (2 ^ d * q + m) + 1) := by
    rw [h32, ← Nat.pow_mul, Nat.pow_add, Nat.mul_comm 32 i]
    ac_rfl
  rw [e3] at h1
  rw [← h1, tz_pow]
theorem low_none {x i : Nat} (h : x % 4294967296 ^ i = 0) (hd : dg 4294967296 x i = 0) : x % 4294967296 ^ (i + 1) = 0 := by
  rw [mod_step, h, hd, Nat.mul_zero]

/-- A power of two: whole limbs, and the rest. -/
theorem pow_limbs (k : Nat) : 2 ^ k = 4294967296 ^ (k / 32) * 2 ^ (k % 32) := by
  have h32 : (4294967296 : Nat) = 2 ^ 32 := by decide
  rw [h32, ← Nat.pow_mul, ← Nat.pow_add]
  congr 1
  omega
theorem dg_shift (y s j : Nat) : dg 4294967296 (y * 4294967296 ^ s) j = if j < s then 0 else dg 4294967296 y (j - s) := by
  unfold dg
  split
  · rename_i h
    obtain ⟨d, rfl⟩ : ∃ d, s = j + (d + 1) := ⟨s - j - 1, by omega⟩
    rw [Nat.pow_add, show y * (4294967296 ^ j * 4294967296 ^ (d + 1)) = 4294967296 ^ j * (y * 4294967296 ^ (d + 1)) by ac_rfl, Nat.mul_div_cancel_left _ (Nat.pow_pos (by omega)), Nat.pow_succ, ← Nat.mul_assoc, Nat.mul_mod_left]
  · rename_i h
    obtain ⟨d, rfl⟩ : ∃ d, j = s + d := ⟨j - s, by omega⟩
    rw [Nat.pow_add, ← Nat.div_div_eq_div_mul, Nat.mul_div_cancel _ (Nat.pow_pos (by omega)), Nat.add_sub_cancel_left]
theorem dg_drop (x s j : Nat) : dg 4294967296 (x / 4294967296 ^ s) j = dg 4294967296 x (s + j) := by
  unfold dg
  rw [Nat.div_div_eq_div_mul, ← Nat.pow_add]
theorem up_val (x k : Nat) : x * 2 ^ k = x * 2 ^ (k % 32) * 4294967296 ^ (k / 32) := by
  rw [pow_limbs k]; ac_rfl
theorem down_val {x n : Nat} (k : Nat) (h : x < 4294967296 ^ n) : x / 2 ^ k = x / 4294967296 ^ (min (k / 32) n) / 2 ^ (k % 32) := by
  rcases Nat.lt_or_ge n (k / 32) with l | l
  · rw [Nat.min_eq_right (by omega), Nat.div_eq_of_lt h, Nat.zero_div, pow_limbs k, ← Nat.div_div_eq_div_mul, Nat.div_eq_of_lt (Nat.lt_of_lt_of_le h (Nat.pow_le_pow_right (by omega) (by omega))), Nat.zero_div]
  · rw [Nat.min_eq_left l, pow_limbs k, Nat.div_div_eq_div_mul]
theorem drop_lt {x n s : Nat} (h : x < 4294967296 ^ n) (hs : s ≤ n) : x / 4294967296 ^ s < 4294967296 ^ (n - s) := by
  rw [Nat.div_lt_iff_lt_mul (Nat.pow_pos (by omega)), ← Nat.pow_add]
  rwa [show n - s + s = n by omega]
/-- How long a number times a power of two is. -/
theorem nlen_up2 {x : Nat} (h : x ≠ 0) (k : Nat) : nlen 2 (x * 2 ^ k) = nlen 2 x + k := by
  have h1 := lt_nlen (B := 2) (by omega) x
  have h2 := nlen_low (B := 2) (by omega) x h
  have h3 := nlen_pos (B := 2) (by omega) h
  refine nlen_eq (by omega) ?_ (.inr ?_)
  · rw [Nat.pow_add]; exact Nat.mul_lt_mul_of_pos_right h1 (Nat.pow_pos (by omega))
  · rw [show nlen 2 x + k - 1 = nlen 2 x - 1 + k by omega, Nat.pow_add]; exact Nat.mul_le_mul_right _ h2
theorem up_lt {x n k : Nat} (h : x < 4294967296 ^ n) : x * 2 ^ k < 4294967296 ^ (k / 32 + n + 1) := by
  have h32 : (4294967296 : Nat) = 2 ^ 32 := by decide
  have h2 : 2 ^ k ≤ 4294967296 ^ (k / 32 + 1) := by
    rw [h32, ← Nat.pow_mul]; exact Nat.pow_le_pow_right (by omega) (by omega)
  rw [show k / 32 + n + 1 = n + (k / 32 + 1) by omega, Nat.pow_add]
  exact Nat.lt_of_lt_of_le (Nat.mul_lt_mul_of_pos_right h (Nat.pow_pos (by omega))) (Nat.mul_le_mul_left _ h2)
theorem nl_up {x n k : Nat} (h : nlen 4294967296 x ≤ n) : nlen 4294967296 (x * 2 ^ k) ≤ k / 32 + n + 1 := nlen_le b32' (up_lt (lt_of_nlen b32' h))
theorem nl_down {x n : Nat} (k : Nat) (h : nlen 4294967296 x ≤ n) : nlen 4294967296 (x / 2 ^ k) ≤ n := Nat.le_trans (nlen_mono b32' (Nat.div_le_self _ _)) h
end Go.Proofs.YtimglhbllcjpbaaDoor
