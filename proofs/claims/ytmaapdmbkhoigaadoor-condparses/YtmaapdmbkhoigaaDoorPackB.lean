/- PackB: several texts in one. -/
import Derived.Test.YtmaapdmbkhoigaaDoorPackA
import Derived.Lib.TrailingZeros
import Derived.Laws.BitsAllLaws
import Derived.Deep.RegionHeld3
/- Long division, digit by digit: plain maths. -/
namespace Go.Proofs.YtmaapdmbkhoigaaDoor
set_option linter.unusedVariables false

theorem dg_plus {B p b m j : Nat} (hj : j < m) : dg B (p + b * B ^ m) j = dg B p j := by
  refine dg_congr ?_
  obtain ⟨d, rfl⟩ : ∃ d, m = j + 1 + d := ⟨m - (j + 1), by omega⟩
  rw [Nat.pow_add, show p + b * (B ^ (j + 1) * B ^ d) = p + B ^ (j + 1) * (b * B ^ d) by ac_rfl, Nat.add_mul_mod_self_left]
/-- A row times a limb, taken from a row: one place. -/
theorem take_step {B p q y k i N t b : Nat} (hB : 2 ≤ B) (h : q + k * B ^ i * y = p + b * B ^ (i + N + 1)) (ht : t ≤ N) :
    mcarry B q y k i t + (k * dg B y t + dg B q (i + t)) = dg B p (i + t) + B * mcarry B q y k i (t + 1) := by
  rw [mul_step hB, h, dg_plus (by omega)]
theorem take_end {B p q y k i N b : Nat} (hB : 2 ≤ B) (h : q + k * B ^ i * y = p + b * B ^ (i + N + 1)) (hp : p < B ^ (i + N + 1)) (hq : q < B ^ (i + N + 1)) (hy : y < B ^ N) : mcarry B q y k i (N + 1) = b := by
  unfold mcarry
  have hy' : y < B ^ (N + 1) := Nat.lt_of_lt_of_le hy (Nat.pow_le_pow_right (by omega) (by omega))
  rw [show i + (N + 1) = i + N + 1 by omega, Nat.mod_eq_of_lt hq, Nat.mod_eq_of_lt hy', h, Nat.add_mul_div_right _ _ (pow_pos' hB _), Nat.div_eq_of_lt hp, Nat.zero_add]
theorem take_low {B p q y k i N j b : Nat} (h : q + k * B ^ i * y = p + b * B ^ (i + N + 1)) (hj : j < i) : dg B q j = dg B p j := by
  rw [← mul_low (p := q) (y := y) (k := k) hj, h, dg_plus (by omega)]
theorem take_high {B p q i N j : Nat} (hB : 2 ≤ B) (hp : p < B ^ (i + N + 1)) (hq : q < B ^ (i + N + 1)) (hj : i + N < j) : dg B q j = dg B p j := by
  rw [dg_out (Nat.lt_of_lt_of_le hp (Nat.pow_le_pow_right (by omega) (by omega))), dg_out (Nat.lt_of_lt_of_le hq (Nat.pow_le_pow_right (by omega) (by omega)))]

/-- What is left of p less m, wrapped round at T. -/
def wrapv (T p m : Nat) : Nat := if m ≤ p then p - m else p + T - m
def wrapb (p m : Nat) : Nat := if m ≤ p then 0 else 1
theorem wrapv_lt {T p m : Nat} (hp : p < T) (hm : m ≤ T) : wrapv T p m < T := by unfold wrapv; split <;> omega
theorem wrapv_eq {T p m : Nat} (hm : m ≤ T) : wrapv T p m + m = p + wrapb p m * T := by
  unfold wrapv wrapb; split
  · omega
  · omega
theorem wrapv_back {T p m s : Nat} (hp : p < T) (hm : m + s ≤ T) (h : p < m + s) : wrapv T p (m + s) + s = wrapv T p m + (1 - wrapb p m) * T := by
  unfold wrapv wrapb
  rw [if_neg (by omega)]
  split
  · omega
  · omega
/-- A digit that is guessed is never too small. -/
theorem guess_ge {B p y i N : Nat} (hB : 2 ≤ B) (hp : p < B ^ (i + N + 1 + 1)) (hy : y < B ^ (N + 1)) (hy0 : B ^ N ≤ y) (h : p < B ^ i * y * B) :
    p / (B ^ i * y) ≤ min ((dg B p (i + N + 1) * B + dg B p (i + N)) / dg B y N) (B - 1) := by
  have e1 : dg B y N = y / B ^ N := by
    unfold dg
    exact Nat.mod_eq_of_lt ((Nat.div_lt_iff_lt_mul (pow_pos' hB N)).2 (by rw [Nat.pow_succ, Nat.mul_comm] at hy; exact hy))
  have e2 : dg B p (i + N + 1) * B + dg B p (i + N) = p / B ^ (i + N) := by
    rw [div_step hB p (i + N)]
    have : dg B p (i + N + 1) = p / B ^ (i + N + 1) := by
      unfold dg
      exact Nat.mod_eq_of_lt ((Nat.div_lt_iff_lt_mul (pow_pos' hB _)).2 (by rw [Nat.pow_succ, Nat.mul_comm] at hp; exact hp))
    rw [this, Nat.mul_comm]
  rw [e1, e2]
  have hs : 0 < B ^ i * y := Nat.mul_pos (pow_pos' hB i) (Nat.lt_of_lt_of_le (pow_pos' hB N) hy0)
  obtain ⟨q, hq⟩ : ∃ q, p / (B ^ i * y) = q := ⟨_, rfl⟩
  have h1 : q * (B ^ i * y) ≤ p := by rw [← hq]; exact Nat.div_mul_le_self _ _
  have h2 : q < B := by rw [← hq, Nat.div_lt_iff_lt_mul hs, Nat.mul_comm]; exact h
  rw [hq]
  refine Nat.le_min.2 ⟨?_, by omega⟩
  have h3 : 0 < y / B ^ N := Nat.div_pos hy0 (pow_pos' hB N)
  rw [Nat.le_div_iff_mul_le h3, Nat.le_div_iff_mul_le (pow_pos' hB _)]
  have h4 : y / B ^ N * B ^ N ≤ y := Nat.div_mul_le_self _ _
  have h5 : q * (y / B ^ N) * B ^ (i + N) = q * (B ^ i * (y / B ^ N * B ^ N)) := by rw [Nat.pow_add]; ac_rfl
  rw [h5]
  exact Nat.le_trans (Nat.mul_le_mul_left _ (Nat.mul_le_mul_left _ h4)) h1
theorem top_pos {B y N : Nat} (hB : 2 ≤ B) (hy : y < B ^ (N + 1)) (hy0 : B ^ N ≤ y) : 0 < dg B y N := by
  rcases Nat.eq_zero_or_pos (dg B y N) with h | h
  · have := lt_of_dg hy h; omega
  · exact h
/-- A round of the whole quotient. -/
theorem div_round_d {B : Nat} (x y i : Nat) : x % (B ^ (i + 1) * y) / (B ^ i * y) = dg B (x / y) i := by
  rw [show B ^ (i + 1) * y = B ^ i * y * B by rw [Nat.pow_succ]; ac_rfl, Nat.mod_mul_right_div_self]
  unfold dg
  rw [Nat.div_div_eq_div_mul, Nat.mul_comm y]
theorem div_round_r {B : Nat} (x y i : Nat) : x % (B ^ (i + 1) * y) % (B ^ i * y) = x % (B ^ i * y) := by
  rw [show B ^ (i + 1) * y = B ^ i * y * B by rw [Nat.pow_succ]; ac_rfl]
  exact Nat.mod_mul_right_mod _ _ _
theorem div_few {B x y n m : Nat} (hB : 2 ≤ B) (hx : x < B ^ (n + m)) (hy : B ^ n ≤ y) : x / y < B ^ m := by
  have hy0 : 0 < y := Nat.lt_of_lt_of_le (pow_pos' hB n) hy
  rw [Nat.div_lt_iff_lt_mul hy0]
  refine Nat.lt_of_lt_of_le hx ?_
  rw [Nat.pow_add, Nat.mul_comm]
  exact Nat.mul_le_mul_left _ hy

/-- A number raised by a power of two, in one limb more. -/
theorem raise_lt {x k N : Nat} (hx : x < 4294967296 ^ N) (hk : k < 4294967296) : x * k < 4294967296 ^ (N + 1) := by
  rw [Nat.pow_succ]
  rcases Nat.eq_zero_or_pos k with h | h
  · subst h; rw [Nat.mul_zero]; exact Nat.mul_pos (Nat.pow_pos (by omega)) (by omega)
  · exact Nat.mul_lt_mul_of_lt_of_le hx (by omega) (by omega)
theorem raise_top {x k N : Nat} (hx : x < 4294967296 ^ N) (hk : k < 4294967296) : tcarry 4294967296 x k N = dg 4294967296 (x * k) N := by
  rw [tcarry_end _ _ _ hx]
  unfold dg
  rw [Nat.mod_eq_of_lt]
  rw [Nat.div_lt_iff_lt_mul (Nat.pow_pos (by omega))]
  have := raise_lt hx hk
  rwa [Nat.pow_succ, Nat.mul_comm (4294967296 ^ N)] at this
theorem pow2_le {u : Nat} (h : u ≤ 31) : 2 ^ u ≤ 2147483648 := Nat.pow_le_pow_right (n := 2) (j := 31) (by decide) h
theorem raise_or {c d u : Nat} (hu : u ≤ 31) (hc : c < 2 ^ u) : c ||| d * 2 ^ u % 4294967296 = c + d * 2 ^ u % 4294967296 ∧ c + d * 2 ^ u % 4294967296 < 4294967296 := by
  have e : (4294967296 : Nat) = 2 ^ u * 2 ^ (32 - u) := by rw [← Nat.pow_add, show u + (32 - u) = 32 by omega]
  have e2 : d * 2 ^ u % 4294967296 = 2 ^ u * (d % 2 ^ (32 - u)) := by rw (config := {occs := .pos [1]}) [e]; rw [Nat.mul_comm d, Nat.mul_mod_mul_left]
  refine ⟨?_, ?_⟩
  · rw [e2, Nat.or_comm, ← Nat.two_pow_add_eq_or_of_lt hc, Nat.add_comm]
  · have h1 := Nat.mod_lt d (Nat.pow_pos (by omega) : 0 < 2 ^ (32 - u))
    have h2 : 2 ^ u * (d % 2 ^ (32 - u) + 1) ≤ 2 ^ u * 2 ^ (32 - u) := Nat.mul_le_mul_left _ h1
    rw [← e, Nat.mul_add, Nat.mul_one] at h2
    omega
theorem lower_step (x d i : Nat) (hd : d ≤ 31) : dg 4294967296 (x / 2 ^ d) i = (4294967296 * dg 4294967296 x (i + 1) + dg 4294967296 x i) / 2 ^ d % 4294967296 := by
  have e1 : x / 2 ^ d / 4294967296 ^ i = x / 4294967296 ^ i / 2 ^ d := by rw [Nat.div_div_eq_div_mul, Nat.div_div_eq_div_mul, Nat.mul_comm]
  have e2 : x / 4294967296 ^ (i + 1) = x / 4294967296 ^ i / 4294967296 := by rw [Nat.pow_succ, Nat.div_div_eq_div_mul]
  unfold dg
  rw [e1, e2]
  generalize x / 4294967296 ^ i = z
  have e3 : 4294967296 * (z / 4294967296 % 4294967296) + z % 4294967296 = z % (4294967296 * 4294967296) := by omega
  rw [e3]
  obtain ⟨e, he⟩ : ∃ e, (4294967296 : Nat) * 4294967296 = 2 ^ d * (4294967296 * e) := by
    refine ⟨2 ^ (32 - d), ?_⟩
    have : (4294967296 : Nat) = 2 ^ d * 2 ^ (32 - d) := by rw [← Nat.pow_add, show d + (32 - d) = 32 by omega]
    rw (config := {occs := .pos [2]}) [this]
    ac_rfl
  rw [he, Nat.mod_mul_right_div_self]
  exact (Nat.mod_mul_right_mod _ _ _).symm
/-- The divisor's last limb has all its bits. -/
theorem raise_fits (y N : Nat) (hy : y < 4294967296 ^ (N + 1)) (hy0 : 4294967296 ^ N ≤ y) (u t : Nat) (ht : nlen 2 (dg 4294967296 y N) = t) (hut : u + t = 32) (hb : nlen 2 y = N * 32 + t) : y * 2 ^ u < 4294967296 ^ (N + 1) := by
  have h1 := lt_nlen (B := 2) (by omega) y
  rw [hb] at h1
  have h2 : (4294967296 : Nat) ^ (N + 1) = 2 ^ (N * 32 + t) * 2 ^ u := by
    rw [← Nat.pow_add, show N * 32 + t + u = 32 * (N + 1) by omega, Nat.pow_mul]
  rw [h2]
  exact Nat.mul_lt_mul_of_pos_right h1 (Nat.pow_pos (by omega))
end Go.Proofs.YtmaapdmbkhoigaaDoor

/- Plain maths of layer 5: noughts at a number's end in base two, shifts by whole limbs and by bits. -/
namespace Go.Proofs.YtmaapdmbkhoigaaDoor
set_option linter.unusedVariables false

theorem b32' : 2 ≤ 4294967296 := by decide

/-- How many noughts stand at the end of x in base two, f of them at most. -/
def tzF : Nat → Nat → Nat
  | 0, _ => 0
  | f + 1, x => if x = 0 ∨ x % 2 = 1 then 0 else tzF f (x / 2) + 1
/-- How many noughts stand at the end of x in base two; of 0 none. -/
def tz (x : Nat) : Nat := tzF x x

theorem tz_zero : tz 0 = 0 := rfl
theorem tz_odd {x : Nat} (h : x % 2 = 1) : tz x = 0 := by
  obtain ⟨f, hf⟩ : ∃ f, x = f + 1 := ⟨x - 1, by omega⟩
  have e : tz x = tzF (f + 1) x := by unfold tz; rw [← hf]
  rw [e, tzF, if_pos (.inr h)]
theorem tzF_any : ∀ (f g x : Nat), x ≤ f → x ≤ g → tzF f x = tzF g x := by
  intro f
  induction f with
  | zero =>
    intro g x h1 h2
    have : x = 0 := by omega
    subst this
    cases g with
    | zero => rfl
    | succ g => simp [tzF]
  | succ f ih =>
    intro g x h1 h2
    cases g with
    | zero =>
      have : x = 0 := by omega
      subst this
      simp [tzF]
    | succ g =>
      unfold tzF
      by_cases hx : x = 0 ∨ x % 2 = 1
      · rw [if_pos hx, if_pos hx]
      · rw [if_neg hx, if_neg hx, ih g (x / 2) (by omega) (by omega)]
theorem tz_even {x : Nat} (h : x ≠ 0) : tz (2 * x) = tz x + 1 := by
  obtain ⟨f, hf⟩ : ∃ f, 2 * x = f + 1 := ⟨2 * x - 1, by omega⟩
  have e : tz (2 * x) = tzF (f + 1) (2 * x) := by unfold tz; rw [← hf]
  rw [e, tzF, if_neg (by omega), show 2 * x / 2 = x by omega, tzF_any f x x (by omega) (by omega)]
  rfl
theorem tz_pow (k m : Nat) : tz (2 ^ k * (2 * m + 1)) = k := by
  induction k with
  | zero => rw [Nat.pow_zero, Nat.one_mul]; exact tz_odd (by omega)
  | succ k ih =>
    have hp : 0 < 2 ^ k * (2 * m + 1) := Nat.mul_pos (Nat.pow_pos (by omega)) (by omega)
    rw [show 2 ^ (k + 1) * (2 * m + 1) = 2 * (2 ^ k * (2 * m + 1)) by rw [Nat.pow_succ]; ac_rfl, tz_even (by omega), ih]
theorem tz_form {x : Nat} (h : x ≠ 0) : ∃ m, x = 2 ^ tz x * (2 * m + 1) := by
  induction x using Nat.strongRecOn with
  | _ x ih =>
    by_cases ho : x % 2 = 1
    · exact ⟨x / 2, by rw [tz_odd ho, Nat.pow_zero, Nat.one_mul]; omega⟩
    · have e : x = 2 * (x / 2) := by omega
      obtain ⟨m, hm⟩ := ih (x / 2) (by omega) (by omega)
      refine ⟨m, ?_⟩
      have e2 : tz x = tz (x / 2) + 1 := by rw [← tz_even (by omega), ← e]
      rw [e2, show 2 ^ (tz (x / 2) + 1) * (2 * m + 1) = 2 * (2 ^ tz (x / 2) * (2 * m + 1)) by rw [Nat.pow_succ]; ac_rfl, ← hm]
      exact e
theorem mod_pow {x : Nat} (h : x ≠ 0) (k : Nat) : x % 2 ^ k ≠ 0 ↔ tz x < k := by
  obtain ⟨m, hm⟩ := tz_form h
  generalize tz x = t at *
  subst hm
  constructor
  · intro h1
    rcases Nat.lt_or_ge t k with l | l
    · exact l
    · obtain ⟨d, rfl⟩ : ∃ d, t = k + d := ⟨t - k, by omega⟩
      exact absurd (by rw [Nat.pow_add, Nat.mul_assoc, Nat.mul_mod_right]) h1
  · intro l h1
    obtain ⟨d, rfl⟩ : ∃ d, k = t + (d + 1) := ⟨k - t - 1, by omega⟩
    rw [Nat.pow_add, Nat.mul_mod_mul_left] at h1
    have hp : 0 < 2 ^ t := Nat.pow_pos (by omega)
    rcases Nat.mul_eq_zero.1 h1 with h2 | h2
    · omega
    · have h3 := Nat.div_add_mod (2 * m + 1) (2 ^ (d + 1))
      rw [h2, Nat.pow_succ] at h3
      have h4 : 2 ^ d * 2 * ((2 * m + 1) / (2 ^ d * 2)) = 2 * (2 ^ d * ((2 * m + 1) / (2 ^ d * 2))) := by ac_rfl
      omega
theorem down_odd {x : Nat} (h : x ≠ 0) : x / 2 ^ tz x % 2 = 1 := by
  obtain ⟨m, hm⟩ := tz_form h
  generalize tz x = t at *
  subst hm
  rw [Nat.mul_div_cancel_left _ (Nat.pow_pos (by omega))]
  omega
theorem mod_own {x : Nat} (h : x ≠ 0) : x % 2 ^ tz x = 0 := by
  rcases Nat.eq_zero_or_pos (x % 2 ^ tz x) with l | l
  · exact l
  · have := (mod_pow h (tz x)).1 (by omega); omega

/-- The first limb that isn't 0. -/
theorem tz_limb {x i : Nat} (h : x % 4294967296 ^ i = 0) (hd : dg 4294967296 x i ≠ 0) : tz x = i * 32 + Lib.ctz 32 (dg 4294967296 x i) ∧ Lib.ctz 32 (dg 4294967296 x i) < 32 := by
  have hl := dg_lt b32' x i
  obtain ⟨m, hm, hk⟩ := Lib.ctzFrom_spec 32 (dg 4294967296 x i) (by omega) (by omega)
  have e : Lib.ctz 32 (dg 4294967296 x i) = Lib.ctzFrom 32 (dg 4294967296 x i) := by simp [Lib.ctz, hd]
  rw [e]
  refine ⟨?_, hk⟩
  generalize Lib.ctzFrom 32 (dg 4294967296 x i) = c at *
  have h1 := Nat.div_add_mod x (4294967296 ^ i)
  rw [h, Nat.add_zero, div_step b32' x i, hm] at h1
  generalize x / 4294967296 ^ (i + 1) = q at *
  obtain ⟨d, hcd⟩ : ∃ d, c + (d + 1) = 32 := ⟨31 - c, by omega⟩
  have h32 : (4294967296 : Nat) = 2 ^ 32 := by decide
  have e2 : 4294967296 * q + 2 ^ c * (2 * m + 1) = 2 ^ c * (2 * (2 ^ d * q + m) + 1) := by
    rw [h32, ← hcd, Nat.pow_add, Nat.pow_succ]
    have : 2 ^ c * (2 ^ d * 2) * q = 2 ^ c * (2 * (2 ^ d * q)) := by ac_rfl
    rw [this, ← Nat.mul_add]
    congr 1
    omega
  rw [e2] at h1
  have e3 : 4294967296 ^ i * (2 ^ c * (2 * (2 ^ d * q + m) + 1)) = 2 ^ (i * 32 + c) * (2 * (2 ^ d * q + m) + 1) := by
    rw [h32, ← Nat.pow_mul, Nat.pow_add, Nat.mul_comm 32 i]
    ac_rfl
  rw [e3] at h1
  rw [← h1, tz_pow]
theorem low_none {x i : Nat} (h : x % 4294967296 ^ i = 0) (hd : dg 4294967296 x i = 0) : x % 4294967296 ^ (i + 1) = 0 := by
  rw [mod_step, h, hd, Nat.mul_zero]

/-- A power of two: whole limbs, and the rest. -/
theorem pow_limbs (k : Nat) : 2 ^ k = 4294967296 ^ (k / 32) * 2 ^ (k % 32) := by
  have h32 : (4294967296 : Nat) = 2 ^ 32 := by decide
  rw [h32, ← Nat.pow_mul, ← Nat.pow_add]
  congr 1
  omega
theorem dg_shift (y s j : Nat) : dg 4294967296 (y * 4294967296 ^ s) j = if j < s then 0 else dg 4294967296 y (j - s) := by
  unfold dg
  split
  · rename_i h
    obtain ⟨d, rfl⟩ : ∃ d, s = j + (d + 1) := ⟨s - j - 1, by omega⟩
    rw [Nat.pow_add, show y * (4294967296 ^ j * 4294967296 ^ (d + 1)) = 4294967296 ^ j * (y * 4294967296 ^ (d + 1)) by ac_rfl, Nat.mul_div_cancel_left _ (Nat.pow_pos (by omega)), Nat.pow_succ, ← Nat.mul_assoc, Nat.mul_mod_left]
  · rename_i h
    obtain ⟨d, rfl⟩ : ∃ d, j = s + d := ⟨j - s, by omega⟩
    rw [Nat.pow_add, ← Nat.div_div_eq_div_mul, Nat.mul_div_cancel _ (Nat.pow_pos (by omega)), Nat.add_sub_cancel_left]
theorem dg_drop (x s j : Nat) : dg 4294967296 (x / 4294967296 ^ s) j = dg 4294967296 x (s + j) := by
  unfold dg
  rw [Nat.div_div_eq_div_mul, ← Nat.pow_add]
theorem up_val (x k : Nat) : x * 2 ^ k = x * 2 ^ (k % 32) * 4294967296 ^ (k / 32) := by
  rw [pow_limbs k]; ac_rfl
theorem down_val {x n : Nat} (k : Nat) (h : x < 4294967296 ^ n) : x / 2 ^ k = x / 4294967296 ^ (min (k / 32) n) / 2 ^ (k % 32) := by
  rcases Nat.lt_or_ge n (k / 32) with l | l
  · rw [Nat.min_eq_right (by omega), Nat.div_eq_of_lt h, Nat.zero_div, pow_limbs k, ← Nat.div_div_eq_div_mul, Nat.div_eq_of_lt (Nat.lt_of_lt_of_le h (Nat.pow_le_pow_right (by omega) (by omega))), Nat.zero_div]
  · rw [Nat.min_eq_left l, pow_limbs k, Nat.div_div_eq_div_mul]
theorem drop_lt {x n s : Nat} (h : x < 4294967296 ^ n) (hs : s ≤ n) : x / 4294967296 ^ s < 4294967296 ^ (n - s) := by
  rw [Nat.div_lt_iff_lt_mul (Nat.pow_pos (by omega)), ← Nat.pow_add]
  rwa [show n - s + s = n by omega]
theorem up_lt {x n k : Nat} (h : x < 4294967296 ^ n) : x * 2 ^ k < 4294967296 ^ (k / 32 + n + 1) := by
  have h32 : (4294967296 : Nat) = 2 ^ 32 := by decide
  have h2 : 2 ^ k ≤ 4294967296 ^ (k / 32 + 1) := by
    rw [h32, ← Nat.pow_mul]; exact Nat.pow_le_pow_right (by omega) (by omega)
  rw [show k / 32 + n + 1 = n + (k / 32 + 1) by omega, Nat.pow_add]
  exact Nat.lt_of_lt_of_le (Nat.mul_lt_mul_of_pos_right h (Nat.pow_pos (by omega))) (Nat.mul_le_mul_left _ h2)
end Go.Proofs.YtmaapdmbkhoigaaDoor

/- TrailingZeros32, Noughts. -/
namespace Go.Proofs.YtmaapdmbkhoigaaDoor
set_option linter.unusedVariables false
set_option linter.unusedSimpArgs false
open Go.RowKit

/-- The library's table, as it is laid. -/
def Tab (w : World) : Prop := ∀ j, j < 32 → w.cell? ⟨4, j, none⟩ = some (.int .u8 ((Lib.deBruijn32tab.getD j 0 : Nat) : Int))
theorem Tab.fr {w w' : World} (h : Tab w) (f : Fr w w') : Tab w' := fun j hj => fr_cell f (h j hj)

theorem and_u32_nat (a b : Nat) (ha : a < 4294967296) (hb : b < 4294967296) : bits .and .u32 (a : Int) (b : Int) = ((a &&& b : Nat) : Int) := by
  have hx : a &&& b < 2 ^ 32 := Nat.and_lt_two_pow _ (by omega)
  have h1 : (BitVec.ofInt 32 (a : Int)).toNat = a := by
    rw [BitVec.ofInt_natCast, BitVec.toNat_ofNat]; exact Nat.mod_eq_of_lt (by omega)
  have h2 : (BitVec.ofInt 32 (b : Int)).toNat = b := by
    rw [BitVec.ofInt_natCast, BitVec.toNat_ofNat]; exact Nat.mod_eq_of_lt (by omega)
  have hw : ∀ n : Int, IntKind.u32.wrap n = n % 4294967296 := fun n => by simp [IntKind.wrap, IntKind.signed, IntKind.bits]
  show IntKind.u32.wrap ((BitVec.ofInt 32 (a : Int) &&& BitVec.ofInt 32 (b : Int)).toNat : Int) = _
  rw [BitVec.toNat_and, h1, h2, hw]
  omega

set_option maxHeartbeats 1000000 in
set_option maxRecDepth 4000 in
theorem tz32_core (x k idx : Nat) (w : World) (hx0 : ((x : Int) == 0) = false)
    (key : bits BinOp.and IntKind.u32 (x : Int) (-(x : Int) % 4294967296) * 125613361 % 4294967296 / 134217728 = (idx : Int))
    (hi : idx < 32) (hk : k < 32) (hcell : w.cell? ⟨4, idx, none⟩ = some (.int .u8 k)) :
    Calls Tryd.prog 105 #[.int .u32 x] w fun e w' => e = .returned (.int .i64 k) ∧ w' = w := by
  go_enter Tryd.func105, Tryd.ntmps105
  go_wp2_with (simp only [key])
  go_ret
  exact ⟨rfl, rfl⟩

theorem tz32_key (x a : Nat) (hx : x < 4294967296) (hx0 : x ≠ 0) (hlow : x &&& (4294967296 - x) = a) :
    bits BinOp.and IntKind.u32 (x : Int) (-(x : Int) % 4294967296) * 125613361 % 4294967296 / 134217728 = ((a * 125613361 % 4294967296 / 134217728 : Nat) : Int) := by
  have e1 : -(x : Int) % 4294967296 = ((4294967296 - x : Nat) : Int) := by omega
  rw [e1, and_u32_nat x _ hx (by omega), hlow]
  omega

theorem tz32_any (x : Nat) (w : World) (hx : x < 4294967296) (hx0 : x ≠ 0) (hT : Tab w) :
    Calls Tryd.prog 105 #[.int .u32 x] w fun e w' => e = .returned (.int .i64 (Lib.ctz 32 x)) ∧ w' = w := by
  obtain ⟨hlow, hk⟩ := Lib.lowest_bit 32 x hx0 hx
  obtain ⟨hi, htab⟩ := Lib.deBruijn32_at _ hk
  have hcell := hT _ hi
  rw [htab] at hcell
  exact tz32_core x _ _ w (by simp; omega) (tz32_key x _ hx hx0 hlow) hi hk hcell

set_option maxHeartbeats 1000000 in
set_option maxRecDepth 4000 in
theorem noughts_any (v : Value) (x : Nat) (w : World) (hT : Tab w) (h : IsNat w v x) (hn : nlen 4294967296 x ≤ 100000000000) :
    Calls Tryd.prog 89 #[v] w fun e w' => e = .returned (.int .i64 (tz x : Int)) ∧ Fr w w' := by
  have H := hide h
  have HT := hide hT
  obtain ⟨a, cap, rfl, h2, h3, h4⟩ := h
  clear h4 hT
  have hx := hide (lt_nlen b32 x)
  go_enter Tryd.func89, Tryd.ntmps89
  go_wp2_with fail
  refine (limbs_lm _ x _ (IsNat.fr H.out (Fr.alloc _ _)) (by omega)).mono ?_
  rintro e w1 ⟨a1, c1, rfl, n1, l1, f1⟩
  have F1 := hide ((Fr.alloc _ _).trans f1)
  have HL := hide l1.1
  clear l1 f1
  generalize hN : nlen 4294967296 x = N at *
  clear hN
  go_wp2_with fail
  go_loop [8] (fun s => ∃ i : Nat, i ≤ N ∧ s = .int .i64 i ∧ Hid (x % 4294967296 ^ i = 0)) (fun s => N - (intOf s).toNat)
  case atStart => exact ⟨0, by omega, rfl, by unfold Hid; rw [Nat.pow_zero, Nat.mod_one]⟩
  case round =>
    obtain ⟨i, hi, rfl, HI⟩ := hrel
    by_cases c : i < N
    · rcases HL.out with h0 | ⟨b, off, rfl, hb, hc⟩
      · omega
      · have hci := hc i c
        have hlt := dg_lt b32 x i
        by_cases c0 : dg 4294967296 x i = 0
        · have HI2 := hide (low_none HI.out c0)
          rw [c0] at hci
          clear c0 hlt hc
          go_wp2_with fail
          go_round
          case rel => exact ⟨i + 1, by omega, by go_num, HI2⟩
          case measure => simp [intOf]; omega
        · have hz := tz_limb HI.out c0
          have K := hide (tz32_any (dg 4294967296 x i) w1 hlt c0 (Tab.fr HT.out F1.out))
          have HZ := hide hz.1
          have hz2 := hz.2
          clear hz hc
          generalize dg 4294967296 x i = d at *
          generalize Lib.ctz 32 d = t at *
          go_wp2_with fail
          refine K.out.mono ?_
          rintro e w2 ⟨rfl, rfl⟩
          go_wp2_with fail
          go_ret
          exact ⟨by rw [HZ.out]; simp, F1.out⟩
    · obtain rfl : i = N := by omega
      have e : x = 0 := by have := HI.out; rwa [Nat.mod_eq_of_lt hx.out] at this
      have HE := hide e
      clear e
      go_wp2_with fail
      go_ret
      exact ⟨by rw [HE.out, tz_zero]; rfl, F1.out⟩
end Go.Proofs.YtmaapdmbkhoigaaDoor

/- Up. -/
namespace Go.Proofs.YtmaapdmbkhoigaaDoor
set_option linter.unusedVariables false
set_option linter.unusedSimpArgs false
open Go.RowKit

set_option maxHeartbeats 1000000 in
set_option maxRecDepth 4000 in
theorem up_none (v : Value) (x : Nat) (k : Int) (w : World) (h : IsNat w v x) (hn : nlen 4294967296 x ≤ 100000000000) (k0 : -9223372036854775808 ≤ k) (hk : k ≤ 0) :
    Calls Tryd.prog 50 #[v, .int .i64 k] w fun e w' => e = .returned v ∧ Fr w w' := by
  have H := hide h
  obtain ⟨a, cap, rfl, h2, h3, h4⟩ := h
  clear h4
  go_enter Tryd.func50, Tryd.ntmps50
  go_wp2_with fail
  obtain ⟨W, hW⟩ : ∃ W, W = (w.alloc (Obj.cells #[Value.slice a (nlen 4294967296 x) cap] 78)).alloc (Obj.cells #[Value.slice none 0 0] 78) := ⟨_, rfl⟩
  have fW : Fr w W := by rw [hW]; exact (Fr.alloc _ _).trans (Fr.alloc _ _)
  have c2 : W.cell? ⟨w.heap.size, 0, none⟩ = some (.slice a (nlen 4294967296 x) cap) := by rw [hW]; simp [go_sem]
  have c4 : W.cell? ⟨w.heap.size + 1, 0, none⟩ = some (.slice none 0 0) := by rw [hW]; simp [go_sem]
  have z4 : W.frozen? ⟨w.heap.size + 1, 0, none⟩ = false := by rw [hW]; simp [go_sem]
  rw [← hW]
  clear hW
  refine (limbs_lm _ x _ (IsNat.fr H.out fW) (by omega)).mono ?_
  rintro e w1 ⟨a1, c1, rfl, n1, l1, f1⟩
  have z4 := fr_free f1 c4 z4
  have c4 := fr_cell f1 c4
  have c2 := fr_cell f1 c2
  have F := fW.trans f1
  clear fW f1 l1
  go_wp2_with fail
  (try simp only [Exit.inBlock, Exit.then])
  refine bodyPost_ret (results_nat rfl _ _ (w.heap.size + 1) (.slice a (nlen 4294967296 x) cap) rfl ?_) rfl ?_
  · go_simp
  · exact ⟨rfl, Below.setCell F (by simp) _⟩

set_option maxHeartbeats 1000000 in
set_option maxRecDepth 4000 in
theorem up_zero (v : Value) (k : Int) (w : World) (h : IsNat w v 0) (k0 : 1 ≤ k) :
    Calls Tryd.prog 50 #[v, .int .i64 k] w fun e w' => e = .returned v ∧ Fr w w' := by
  have H := hide h
  obtain ⟨a, cap, rfl, h2, h3, h4⟩ := h
  clear h4
  rw [nlen_zero] at h2 H ⊢
  go_enter Tryd.func50, Tryd.ntmps50
  go_wp2_with fail
  obtain ⟨W, hW⟩ : ∃ W, W = (w.alloc (Obj.cells #[Value.slice a 0 cap] 78)).alloc (Obj.cells #[Value.slice none 0 0] 78) := ⟨_, rfl⟩
  have fW : Fr w W := by rw [hW]; exact (Fr.alloc _ _).trans (Fr.alloc _ _)
  have c2 : W.cell? ⟨w.heap.size, 0, none⟩ = some (.slice a 0 cap) := by rw [hW]; simp [go_sem]
  have c4 : W.cell? ⟨w.heap.size + 1, 0, none⟩ = some (.slice none 0 0) := by rw [hW]; simp [go_sem]
  have z4 : W.frozen? ⟨w.heap.size + 1, 0, none⟩ = false := by rw [hW]; simp [go_sem]
  rw [← hW]
  clear hW
  refine (limbs_lm _ 0 _ (IsNat.fr H.out fW) (by rw [nlen_zero]; omega)).mono ?_
  rintro e w1 ⟨a1, c1, rfl, n1, l1, f1⟩
  rw [nlen_zero]
  have z4 := fr_free f1 c4 z4
  have c4 := fr_cell f1 c4
  have c2 := fr_cell f1 c2
  have F := fW.trans f1
  clear fW f1 l1
  go_wp2_with fail
  (try simp only [Exit.inBlock, Exit.then])
  refine bodyPost_ret (results_nat rfl _ _ (w.heap.size + 1) (.slice a 0 cap) rfl ?_) rfl ?_
  · go_simp
  · exact ⟨rfl, Below.setCell F (by simp) _⟩

/-- The row behind i rounds: s noughts, the first i digits of the product, the carry, then noughts. -/
def rowTS (s x k i j : Nat) : Value := .int .u32 ((if j < s then 0 else if j < s + i then dg 4294967296 (x * k) (j - s) else if j = s + i then tcarry 4294967296 x k i else 0 : Nat) : Int)

set_option maxHeartbeats 2000000 in
set_option maxRecDepth 4000 in
theorem up_some (v : Value) (x k : Nat) (w : World) (h : IsNat w v x) (hx0 : x ≠ 0) (hn : nlen 4294967296 x ≤ 100000000000) (k0 : 1 ≤ k) (k1 : k ≤ 100000000000) :
    Calls Tryd.prog 50 #[v, .int .i64 k] w fun e w' => ∃ a c, e = .returned (.agg #[.slice a (nlen 4294967296 (x * 2 ^ k)) c]) ∧ IsNat w' (.agg #[.slice a (nlen 4294967296 (x * 2 ^ k)) c]) (x * 2 ^ k) ∧ Fr w w' := by
  have H := hide h
  obtain ⟨a, cap, rfl, h2, h3, h4⟩ := h
  clear h4
  have hx := hide (lt_nlen b32 x)
  have hp := nlen_pos b32 hx0
  have HV := hide (up_val x k)
  have HU := hide (up_lt (k := k) hx.out)
  obtain ⟨s, hs⟩ : ∃ s, k / 32 = s := ⟨_, rfl⟩
  obtain ⟨u, hu⟩ : ∃ u, k % 32 = u := ⟨_, rfl⟩
  rw [hs, hu] at HV
  rw [hs] at HU
  have hu31 : u ≤ 31 := by omega
  have hsk : s ≤ 100000000000 := by omega
  have ek : (k : Int) / 32 = (s : Int) := by omega
  have eu : (k : Int) % 32 = (u : Int) := by omega
  clear hs hu
  go_enter Tryd.func50, Tryd.ntmps50
  go_wp2_with fail
  obtain ⟨W, hW⟩ : ∃ W, W = (w.alloc (Obj.cells #[Value.slice a (nlen 4294967296 x) cap] 78)).alloc (Obj.cells #[Value.slice none 0 0] 78) := ⟨_, rfl⟩
  have fW : Fr w W := by rw [hW]; exact (Fr.alloc _ _).trans (Fr.alloc _ _)
  have c4 : W.cell? ⟨w.heap.size + 1, 0, none⟩ = some (.slice none 0 0) := by rw [hW]; simp [go_sem]
  have z4 : W.frozen? ⟨w.heap.size + 1, 0, none⟩ = false := by rw [hW]; simp [go_sem]
  rw [← hW]
  clear hW
  refine (limbs_lm _ x _ (IsNat.fr H.out fW) (by omega)).mono ?_
  rintro e w1 ⟨a1, c1, rfl, n1, l1, f1⟩
  have L1 := hide l1
  have z4 := fr_free f1 c4 z4
  have c4 := fr_cell f1 c4
  have F := hide (fW.trans f1)
  have HC : Hid (Cs .u32 w1 a1 (nlen 4294967296 x) (dg 4294967296 x)) := L1.out.1
  clear fW f1 l1 H L1
  generalize nlen 4294967296 x = n at *
  have hn0 : ((n : Int) == 0) = false := by
    have : n ≠ 0 := by omega
    simp [this]
  obtain ⟨M, hM⟩ : ∃ M : Nat, s + n + 1 = M := ⟨_, rfl⟩
  have hmk := run_make_row' (P := Tryd.prog) 76 47 (.int .u32 0) 4 Tryd.underlying76 info32 rfl .i64 .i64 M (by omega) (by omega)
  go_wp2_with fail
  rw [eu]
  have e : (s : Int) + (n : Int) + 1 = (M : Int) := by omega
  rw [e]
  clear e eu ek
  rw [hmk]
  simp only [Result.andThen]
  rw [Oper.upon_value]
  clear hmk
  go_wp2_with fail
  go_loopw [34] (fun s34 wr => ∃ i : Nat, i ≤ n ∧ s34 = .int .i64 i ∧ wr.rowIs w1.heap.size 47 M (rowTS s x (2 ^ u) i) ∧ Hid (Fr w1 wr)) (fun s34 _ => n - (intOf s34).toNat)
  case atStart =>
    refine ⟨0, by omega, rfl, ?_, Fr.alloc _ _⟩
    refine (World.rowIs_made w1 (.int .u32 0) M 47).congr (fun j hj => ?_)
    unfold rowTS
    rw [tcarry_zero]
    by_cases h1 : j < s
    · rw [if_pos h1]; rfl
    · rw [if_neg h1, if_neg (by omega)]
      split <;> rfl
  case round =>
    obtain ⟨i, hi, rfl, hrw, hF⟩ := hrel
    by_cases hc : i < n
    · have hst := times_step b32 x (2 ^ u) i
      have hcl := tcarry_lt b32 x (2 ^ u) i (Nat.pow_pos (by omega))
      have hku := pow2_le hu31
      have lx := dg_lt b32 x i
      have lq := dg_lt b32 (x * 2 ^ u) i
      have hcx := Cs.fr HC.out hF.out
      have hcp := hrw.cell (i := s + i) (by omega)
      have hcp1 := hrw.cell (i := s + i + 1) (by omega)
      have hfz := hrw.frozen (s + i)
      have hfz1 := hrw.frozen (s + i + 1)
      have HR := hide hrw
      rw [rowTS, if_neg (by omega), if_neg (by omega), if_pos rfl] at hcp
      rw [rowTS, if_neg (by omega), if_neg (by omega), if_neg (by omega)] at hcp1
      clear hrw
      obtain ⟨ho1, ho2⟩ := raise_or (d := dg 4294967296 x i) hu31 hcl
      have hdk : dg 4294967296 x i * 2 ^ u ≤ 4294967295 * 2147483648 := Nat.mul_le_mul (by omega) hku
      have v1 : Hid (bits BinOp.or IntKind.u32 (tcarry 4294967296 x (2 ^ u) i : Int) (IntKind.u64.wrap ((dg 4294967296 x i : Int) * 2 ^ u) % 4294967296) = (dg 4294967296 (x * 2 ^ u) i : Int)) := by
        unfold Hid
        have e : ((dg 4294967296 x i : Int) * 2 ^ u) = ((dg 4294967296 x i * 2 ^ u : Nat) : Int) := by simp
        rw [e, IntKind.wrap_u64]
        have e2 : ((dg 4294967296 x i * 2 ^ u : Nat) : Int) % 18446744073709551616 % 4294967296 = ((dg 4294967296 x i * 2 ^ u % 4294967296 : Nat) : Int) := by omega
        rw [e2, u32_or_nat _ _ (by omega) (by omega), ho1]
        omega
      have v2 : Hid (IntKind.u64.wrap ((dg 4294967296 x i : Int) * 2 ^ u) / 4294967296 % 4294967296 = (tcarry 4294967296 x (2 ^ u) (i + 1) : Int)) := by
        unfold Hid
        have e : ((dg 4294967296 x i : Int) * 2 ^ u) = ((dg 4294967296 x i * 2 ^ u : Nat) : Int) := by simp
        rw [e, IntKind.wrap_u64]
        omega
      clear ho1 ho2 hdk hst
      rcases hcx with h0 | ⟨b, off, rfl, hb, hcell⟩
      · omega
      · have hcx := hcell i hc
        clear hcell
        go_wp2_with fail
        go_roundw
        case rel =>
          rw [v1.out, v2.out]
          refine ⟨i + 1, by omega, by go_num, ?_, ?_⟩
          · refine ((HR.out.set (s + i) _).set (s + i + 1) _).congr ?_
            intro j hj
            unfold rowTS
            by_cases h1 : j = s + i + 1
            · subst h1; rw [if_pos rfl, if_neg (by omega), if_neg (by omega), if_pos (by omega)]
            · rw [if_neg h1]
              by_cases h2 : j = s + i
              · subst h2; rw [if_pos rfl, if_neg (by omega), if_pos (by omega), Nat.add_sub_cancel_left]
              · rw [if_neg h2]
                by_cases h3 : j < s
                · rw [if_pos h3, if_pos h3]
                · rw [if_neg h3, if_neg h3]
                  by_cases h4 : j < s + i
                  · rw [if_pos h4, if_pos (by omega)]
                  · rw [if_neg h4, if_neg h2, if_neg (by omega), if_neg (by omega)]
          · exact Below.setCell (Below.setCell hF.out (by simp) _) (by simp) _
        case measure => simp [intOf]; omega
    · have e : i = n := by omega
      subst e
      have ht := raise_top (k := 2 ^ u) hx.out (by have := pow2_le hu31; omega)
      have CR : Hid (Cs .u32 wr (some ⟨w1.heap.size, 0, none⟩) M (dg 4294967296 (x * 2 ^ k))) := by
        refine .inr ⟨_, 0, rfl, hrw.lt, fun j hj => ?_⟩
        rw [Nat.zero_add, hrw.cell hj, rowTS, HV.out, dg_shift]
        by_cases h1 : j < s
        · rw [if_pos h1, if_pos h1]
        · rw [if_neg h1, if_neg h1]
          by_cases h2 : j < s + i
          · rw [if_pos h2]
          · obtain rfl : j = s + i := by omega
            rw [if_neg h2, if_pos rfl, ht, Nat.add_sub_cancel_left]
      have HL : Hid (x * 2 ^ k < 4294967296 ^ M) := by rw [← hM]; exact HU.out
      have z4 := fr_free hF.out c4 z4
      have c4 := fr_cell hF.out c4
      clear ht hrw
      go_wp2_with fail
      refine (made_any M M (some ⟨w1.heap.size, 0, none⟩) _ (x * 2 ^ k) _ (by omega) CR.out HL.out (fun j _ => rfl)).mono ?_
      rintro e w2 ⟨a2, c2', rfl, hl2, i2, f2⟩
      have I2 := hide i2
      have FF := hide ((F.out.trans hF.out).trans f2)
      have z4 := fr_free f2 c4 z4
      have c4 := fr_cell f2 c4
      have sz := hF.out.size
      have s4 := cell_lt c4
      have sw := F.out.size
      have HL2 := hide hl2
      clear i2 f2 hl2
      unfold natVal
      go_wp2_with fail
      (try simp only [Exit.inBlock, Exit.then])
      refine bodyPost_ret (results_nat rfl _ _ (w.heap.size + 1) (.slice (natA (x * 2 ^ k) a2) (nlen 4294967296 (x * 2 ^ k)) (natC (x * 2 ^ k) c2')) rfl ?_) rfl ?_
      · go_simp
      · refine ⟨_, _, rfl, ?_, Below.setCell FF.out (by simp) _⟩
        have hb1 : w.heap.size + 1 < wr.heap.size := cell_lt (by assumption : wr.cell? ⟨w.heap.size + 1, 0, none⟩ = _)
        exact IsNat.put I2.out _ _ (fun g off s e => by have := HL2.out g off s (natA_some e); simp; omega)

theorem up_any (v : Value) (x : Nat) (k : Int) (w : World) (h : IsNat w v x) (hn : nlen 4294967296 x ≤ 100000000000) (k0 : -9223372036854775808 ≤ k) (k1 : k ≤ 100000000000) :
    Calls Tryd.prog 50 #[v, .int .i64 k] w fun e w' => ∃ a c, e = .returned (.agg #[.slice a (nlen 4294967296 (x * 2 ^ k.toNat)) c]) ∧ IsNat w' (.agg #[.slice a (nlen 4294967296 (x * 2 ^ k.toNat)) c]) (x * 2 ^ k.toNat) ∧ Fr w w' := by
  by_cases c : k ≤ 0
  · refine (up_none v x k w h hn k0 c).mono ?_
    rintro e w' ⟨rfl, f⟩
    have e0 : x * 2 ^ k.toNat = x := by rw [show k.toNat = 0 by omega, Nat.pow_zero, Nat.mul_one]
    rw [e0]
    have h' := h.fr f
    obtain ⟨a, cap, rfl, _⟩ := h
    exact ⟨a, cap, rfl, h', f⟩
  · by_cases hx : x = 0
    · subst hx
      refine (up_zero v k w h (by omega)).mono ?_
      rintro e w' ⟨rfl, f⟩
      rw [Nat.zero_mul]
      have h' := h.fr f
      obtain ⟨a, cap, rfl, _⟩ := h
      exact ⟨a, cap, rfl, h', f⟩
    · have := up_some v x k.toNat w h hx hn (by omega) (by omega)
      rwa [Int.toNat_of_nonneg (by omega)] at this
end Go.Proofs.YtmaapdmbkhoigaaDoor

/- LeadingZeros32, raised, lowered. -/
namespace Go.Proofs.YtmaapdmbkhoigaaDoor
set_option linter.unusedVariables false
set_option linter.unusedSimpArgs false
open Go.RowKit

set_option maxHeartbeats 400000 in
set_option maxRecDepth 4000 in
theorem lz32_any (x : Int) (w : World) (h0 : 0 ≤ x) (h1 : x ≤ 4294967295) :
    Calls Tryd.prog 92 #[.int .u32 x] w fun e w' => e = .returned (.int .i64 (32 - (nlen 2 x.toNat : Int))) ∧ w' = w := by
  have hb : nlen 2 x.toNat ≤ 32 := nlen_le (by omega) (by omega)
  have K := hide (len32_any x w h0 h1)
  go_enter Tryd.func92, Tryd.ntmps92
  go_wp2_with fail
  refine K.out.mono ?_
  rintro e w1 ⟨rfl, rfl⟩
  go_wp2_with fail
  go_ret
  exact ⟨rfl, rfl⟩

/-- The row behind i rounds of a raise: the first i digits of the product, then the carry, then noughts. -/
def rowT (x k i j : Nat) : Value := .int .u32 ((if j < i then dg 4294967296 (x * k) j else if j = i then tcarry 4294967296 x k i else 0 : Nat) : Int)

set_option maxHeartbeats 1000000 in
set_option maxRecDepth 4000 in
theorem raised_any (a : Option Addr) (n c x u : Nat) (w : World) (hn : n ≤ 100000000001) (hu : u ≤ 31) (hcs : Cs .u32 w a n (dg 4294967296 x)) (hx : x < 4294967296 ^ n) :
    Calls Tryd.prog 93 #[.slice a n c, .int .i64 u] w fun e w' => e = .returned (.slice (some ⟨w.heap.size, 0, none⟩) (n + 1) (n + 1)) ∧ w'.rowIs w.heap.size 47 (n + 1) (fun j => .int .u32 (dg 4294967296 (x * 2 ^ u) j : Int)) ∧ Fr w w' := by
  have HX := hide hx
  have HC := hide hcs
  clear hx hcs
  obtain ⟨M, hM⟩ : ∃ M : Nat, n + 1 = M := ⟨_, rfl⟩
  have hmk := run_make_row' (P := Tryd.prog) 76 47 (.int .u32 0) 4 Tryd.underlying76 info32 rfl .i64 .i64 M (by omega) (by omega)
  go_enter Tryd.func93, Tryd.ntmps93
  go_wp2_with fail
  have e : (n : Int) + 1 = (M : Int) := by omega
  rw [e]
  clear e
  rw [hmk]
  simp only [Result.andThen]
  rw [Oper.upon_value]
  clear hmk
  go_wp2_with fail
  go_loopw [15] (fun s15 wr => ∃ i : Nat, i ≤ n ∧ s15 = .int .i64 i ∧ wr.rowIs w.heap.size 47 M (rowT x (2 ^ u) i) ∧ Hid (Fr w wr)) (fun s15 _ => n - (intOf s15).toNat)
  case atStart =>
    refine ⟨0, by omega, rfl, ?_, Fr.alloc _ _⟩
    refine (World.rowIs_made w (.int .u32 0) M 47).congr (fun j hj => ?_)
    unfold rowT
    rw [if_neg (by omega), tcarry_zero]
    split <;> rfl
  case round =>
    obtain ⟨i, hi, rfl, hrw, hF⟩ := hrel
    by_cases hc : i < n
    · have hst := times_step b32 x (2 ^ u) i
      have hcl := tcarry_lt b32 x (2 ^ u) i (Nat.pow_pos (by omega))
      have hku := pow2_le hu
      have lx := dg_lt b32 x i
      have lq := dg_lt b32 (x * 2 ^ u) i
      have hcx := Cs.fr HC.out hF.out
      have hcp := hrw.cell (i := i) (by omega)
      have hcp1 := hrw.cell (i := i + 1) (by omega)
      have hfz := hrw.frozen i
      have hfz1 := hrw.frozen (i + 1)
      have HR := hide hrw
      rw [rowT, if_neg (by omega), if_pos rfl] at hcp
      rw [rowT, if_neg (by omega), if_neg (by omega)] at hcp1
      clear hrw
      obtain ⟨ho1, ho2⟩ := raise_or (d := dg 4294967296 x i) hu hcl
      have hdk : dg 4294967296 x i * 2 ^ u ≤ 4294967295 * 2147483648 := Nat.mul_le_mul (by omega) hku
      have v1 : Hid (bits BinOp.or IntKind.u32 (tcarry 4294967296 x (2 ^ u) i : Int) (IntKind.u64.wrap ((dg 4294967296 x i : Int) * 2 ^ u) % 4294967296) = (dg 4294967296 (x * 2 ^ u) i : Int)) := by
        unfold Hid
        have e : ((dg 4294967296 x i : Int) * 2 ^ u) = ((dg 4294967296 x i * 2 ^ u : Nat) : Int) := by simp
        rw [e, IntKind.wrap_u64]
        have e2 : ((dg 4294967296 x i * 2 ^ u : Nat) : Int) % 18446744073709551616 % 4294967296 = ((dg 4294967296 x i * 2 ^ u % 4294967296 : Nat) : Int) := by omega
        rw [e2, u32_or_nat _ _ (by omega) (by omega), ho1]
        omega
      have v2 : Hid (IntKind.u64.wrap ((dg 4294967296 x i : Int) * 2 ^ u) / 4294967296 % 4294967296 = (tcarry 4294967296 x (2 ^ u) (i + 1) : Int)) := by
        unfold Hid
        have e : ((dg 4294967296 x i : Int) * 2 ^ u) = ((dg 4294967296 x i * 2 ^ u : Nat) : Int) := by simp
        rw [e, IntKind.wrap_u64]
        omega
      clear ho1 ho2 hdk hst
      rcases hcx with h0 | ⟨b, off, rfl, hb, hcell⟩
      · omega
      · have hcx := hcell i hc
        clear hcell
        go_wp2_with fail
        go_roundw
        case rel =>
          rw [v1.out, v2.out]
          refine ⟨i + 1, by omega, by go_num, ?_, ?_⟩
          · refine ((HR.out.set i _).set (i + 1) _).congr ?_
            intro j hj
            unfold rowT
            by_cases h1 : j = i + 1
            · subst h1; rw [if_pos rfl, if_neg (by omega), if_pos rfl]
            · rw [if_neg h1]
              by_cases h2 : j = i
              · subst h2; rw [if_pos rfl, if_pos (by omega)]
              · rw [if_neg h2]
                by_cases h3 : j < i
                · rw [if_pos h3, if_pos (by omega)]
                · rw [if_neg h3, if_neg h2, if_neg (by omega), if_neg h1]
          · exact Below.setCell (Below.setCell hF.out (by simp) _) (by simp) _
        case measure => simp [intOf]; omega
    · have e : i = n := by omega
      subst e
      have ht := raise_top (k := 2 ^ u) HX.out (by have := pow2_le hu; omega)
      have HR := hide hrw
      clear hrw
      go_wp2_with fail
      go_ret
      refine ⟨by rw [hM]; rfl, ?_, hF.out⟩
      rw [hM]
      refine HR.out.congr ?_
      intro j hj
      unfold rowT
      by_cases h1 : j < i
      · rw [if_pos h1]
      · obtain rfl : j = i := by omega
        rw [if_neg h1, if_pos rfl, ht]

/-- The row behind a loop that goes down: noughts below k, digits from k on. -/
def rowU (f : Nat → Nat) (k j : Nat) : Value := .int .u32 ((if k ≤ j then f j else 0 : Nat) : Int)
theorem rowU_set {w : World} {g n i : Nat} {t : TypeId} {f : Nat → Nat} (h : w.rowIs g t n (rowU f (i + 1))) (d : Int) (hd : d = f i) : (w.setCell ⟨g, i, none⟩ (.int .u32 d)).rowIs g t n (rowU f i) := by
  refine (h.set i (.int .u32 d)).congr ?_
  intro j hj
  unfold rowU
  by_cases hji : j = i
  · subst hji; rw [if_pos rfl, if_pos (by omega), hd]
  · rw [if_neg hji]
    by_cases hlt2 : i + 1 ≤ j
    · rw [if_pos hlt2, if_pos (by omega)]
    · rw [if_neg hlt2, if_neg (by omega)]
theorem rowU_cs {w : World} {g n : Nat} {t : TypeId} {f : Nat → Nat} (h : w.rowIs g t n (rowU f 0)) : Cs .u32 w (some ⟨g, 0, none⟩) n f := by
  refine .inr ⟨g, 0, rfl, h.lt, fun j hj => ?_⟩
  rw [Nat.zero_add, h.cell hj, rowU, if_pos (by omega)]
theorem rowU_made (f : Nat → Nat) (n j : Nat) (hj : j < n) : Value.int .u32 0 = rowU f n j := by
  unfold rowU; rw [if_neg (by omega)]; rfl

set_option maxHeartbeats 1000000 in
set_option maxRecDepth 4000 in
theorem lowered_any (a : Option Addr) (n c x u : Nat) (w : World) (hn : n ≤ 100000000002) (hu : u ≤ 31) (hcs : Cs .u32 w a n (dg 4294967296 x)) (hx : x < 4294967296 ^ n) :
    Calls Tryd.prog 95 #[.slice a n c, .int .i64 u] w fun e w' => ∃ c', e = .returned (.slice (some ⟨w.heap.size, 0, none⟩) n c') ∧ Cs .u32 w' (some ⟨w.heap.size, 0, none⟩) n (dg 4294967296 (x / 2 ^ u)) ∧ Fr w w' := by
  have HX := hide hx
  have HC := hide hcs
  clear hx hcs
  have hmk := run_make_row' (P := Tryd.prog) 76 47 (.int .u32 0) 4 Tryd.underlying76 info32 rfl .i64 .i64 n (by omega) (by omega)
  go_enter Tryd.func95, Tryd.ntmps95
  go_wp2_with fail
  go_loopw [6, 7] (fun s6 s7 wr => ∃ k : Nat, k ≤ n ∧ s7 = .int .i64 ((k : Int) - 1) ∧ s6 = .int .u64 ((4294967296 * dg 4294967296 x (k + 1) + dg 4294967296 x k : Nat) : Int) ∧ wr.rowIs w.heap.size 47 n (rowU (dg 4294967296 (x / 2 ^ u)) k) ∧ Hid (Fr w wr)) (fun _ s7 _ => (intOf s7 + 1).toNat)
  case atStart =>
    refine ⟨n, by omega, by go_num, ?_, ?_, Fr.alloc _ _⟩
    · rw [dg_out HX.out, dg_out (Nat.lt_of_lt_of_le HX.out (Nat.pow_le_pow_right (by omega) (by omega)))]; rfl
    · exact (World.rowIs_made w (.int .u32 0) n 47).congr (fun j hj => rowU_made _ _ _ hj)
  case round =>
    obtain ⟨k, hk, rfl, rfl, hrw, hF⟩ := hrel
    by_cases c0 : k = 0
    · subst c0
      have HR := hide (rowU_cs hrw)
      clear hrw
      go_wp2_with fail
      go_ret
      exact ⟨_, rfl, HR.out, hF.out⟩
    · obtain ⟨k, rfl⟩ : ∃ j, k = j + 1 := ⟨k - 1, by omega⟩
      have e0 : ((k + 1 : Nat) : Int) - 1 = (k : Int) := by omega
      rw [e0]
      clear e0
      have hst := lower_step x u k hu
      have l2 := dg_lt b32 x (k + 1 + 1)
      have l1 := dg_lt b32 x (k + 1)
      have l0 := dg_lt b32 x k
      have lq := dg_lt b32 (x / 2 ^ u) k
      have hcx := Cs.fr HC.out hF.out
      have hcp := hrw.cell (i := k) (by omega)
      have hfz := hrw.frozen k
      have HR := hide hrw
      rw [rowU, if_neg (by omega)] at hcp
      clear hrw
      obtain ⟨Wd, hWd⟩ : ∃ Wd, 4294967296 * dg 4294967296 x (k + 1 + 1) + dg 4294967296 x (k + 1) = Wd := ⟨_, rfl⟩
      obtain ⟨We, hWe⟩ : ∃ We, 4294967296 * dg 4294967296 x (k + 1) + dg 4294967296 x k = We := ⟨_, rfl⟩
      have v0 : IntKind.u64.wrap (IntKind.u64.wrap ((Wd : Int) * 4294967296) + (dg 4294967296 x k : Int)) = (We : Int) := by
        rw [IntKind.wrap_u64, IntKind.wrap_u64]; omega
      have hWb : Wd < 18446744073709551616 := by omega
      have hWc : We < 18446744073709551616 := by omega
      rw [hWe] at hst
      rw [hWd]
      have HWe := hide hWe
      have HST := hide hst
      clear hWd hWe hst
      rcases hcx with h0 | ⟨b, off, rfl, hb, hcell⟩
      · omega
      · have hcx := hcell k (by omega)
        clear hcell
        go_wp2_with fail
        go_roundw
        case rel =>
          refine ⟨k, by omega, by go_num, ?_, ?_, ?_⟩
          · rw [HWe.out]
          · refine rowU_set HR.out _ ?_
            rw [HST.out]; simp
          · exact Below.setCell hF.out (by simp) _
        case measure => simp [intOf]
end Go.Proofs.YtmaapdmbkhoigaaDoor

/- takeRow, giveRow, guess, takeDigit. -/
namespace Go.Proofs.YtmaapdmbkhoigaaDoor
set_option linter.unusedVariables false
set_option linter.unusedSimpArgs false
open Go.RowKit

/-- Nothing but block g has changed. -/
def Ex (g : Nat) (w w' : World) : Prop := w'.os = w.os ∧ w'.tape = w.tape ∧ w'.output = w.output ∧ w.heap.size ≤ w'.heap.size ∧ ∀ k, k < w.heap.size → k ≠ g → w'.heap[k]? = w.heap[k]?
theorem Ex.refl (g : Nat) (w : World) : Ex g w w := ⟨rfl, rfl, rfl, Nat.le_refl _, fun _ _ _ => rfl⟩
theorem Ex.of_fr {w w' : World} (g : Nat) (f : Fr w w') : Ex g w w' := ⟨f.os, f.tape, f.output, f.size, fun k hk _ => f.block k hk⟩
theorem Ex.trans {g : Nat} {w w' w2 : World} (h : Ex g w w') (k : Ex g w' w2) : Ex g w w2 :=
  ⟨k.1.trans h.1, k.2.1.trans h.2.1, k.2.2.1.trans h.2.2.1, Nat.le_trans h.2.2.2.1 k.2.2.2.1, fun j hj hg => (k.2.2.2.2 j (Nat.lt_of_lt_of_le hj h.2.2.2.1) hg).trans (h.2.2.2.2 j hj hg)⟩
theorem Ex.set {g : Nat} {w w' : World} (h : Ex g w w') (j : Nat) (v : Value) : Ex g w (w'.setCell ⟨g, j, none⟩ v) := by
  obtain ⟨h1, h2, h3, h4, h5⟩ := h
  refine ⟨h1, h2, h3, by simpa using h4, fun k hk hg => ?_⟩
  rw [Below.heap_setCell w' _ v k hg]
  exact h5 k hk hg
theorem Ex.cell {g : Nat} {w w' : World} (h : Ex g w w') {a : Addr} {v : Value} (hc : w.cell? a = some v) (hne : a.block ≠ g) : w'.cell? a = some v := by
  have := h.2.2.2.2 a.block (cell_lt hc) hne
  unfold World.cell? at *
  rw [this]; exact hc
theorem Ex.fr {g : Nat} {w0 w w' : World} (h : Ex g w w') (f : Fr w0 w) (hg : w0.heap.size ≤ g) : Fr w0 w' :=
  ⟨h.1.trans f.os, h.2.1.trans f.tape, h.2.2.1.trans f.output, Nat.le_trans f.size h.2.2.2.1, fun k hk => (h.2.2.2.2 k (Nat.lt_of_lt_of_le hk f.size) (by omega)).trans (f.block k hk)⟩
theorem Cs.ex {g : Nat} {k : IntKind} {w w' : World} {a : Option Addr} {n : Nat} {f : Nat → Nat} (h : Cs k w a n f) (e : Ex g w w') (hne : ∀ b off s, a = some ⟨b, off, s⟩ → b ≠ g) : Cs k w' a n f := by
  rcases h with h | ⟨b, off, h1, h2, h3⟩
  · exact .inl h
  · exact .inr ⟨b, off, h1, Nat.lt_of_lt_of_le h2 e.2.2.2.1, fun j hj => e.cell (h3 j hj) (hne _ _ _ h1)⟩
theorem drewN_fr (w : World) (n : Nat) : Fr w (w.drewN n) := ⟨rfl, rfl, rfl, Nat.le_refl _, fun _ _ => rfl⟩
theorem rowM_done {w : World} {g M p q i N : Nat} {t : TypeId} (h : w.rowIs g t M (rowM p q i (i + N + 1))) (lo : ∀ j, j < i → dg 4294967296 q j = dg 4294967296 p j) (hi : ∀ j, i + N < j → dg 4294967296 q j = dg 4294967296 p j) : w.rowIs g t M (fun j => .int .u32 (dg 4294967296 q j : Int)) := by
  refine h.congr ?_
  intro j hj
  unfold rowM
  by_cases h1 : i ≤ j ∧ j < i + N + 1
  · rw [if_pos h1]
  · rw [if_neg h1]
    rcases Nat.lt_or_ge j i with h2 | h2
    · rw [lo j h2]
    · rw [hi j (by omega)]

set_option maxHeartbeats 1000000 in
set_option maxRecDepth 4000 in
theorem takeRow_any (g M i N cp p q y k b c : Nat) (a : Option Addr) (w : World) (hrow : w.rowIs g 47 M (fun j => .int .u32 (dg 4294967296 p j : Int))) (hp : p < 4294967296 ^ (i + N + 1)) (hq : q < 4294967296 ^ (i + N + 1)) (hLM : i + N + 1 ≤ M) (hM : M ≤ 1000000000000)
    (hy : y < 4294967296 ^ N) (hk : k < 4294967296) (hb : b ≤ 1) (he : q + k * 4294967296 ^ i * y = p + b * 4294967296 ^ (i + N + 1)) (hcs : Cs .u32 w a N (dg 4294967296 y)) (hne : ∀ b off s, a = some ⟨b, off, s⟩ → b ≠ g) :
    Calls Tryd.prog 107 #[.slice (some ⟨g, i, none⟩) (N + 1) cp, .slice a N c, .int .u32 k] w fun e w' => e = .returned (.bool (decide (b = 1))) ∧ w'.rowIs g 47 M (fun j => .int .u32 (dg 4294967296 q j : Int)) ∧ Ex g w w' := by
  have HP := hide hp
  have HQ := hide hq
  have HY := hide hy
  have HC := hide hcs
  have HR := hide hrow
  have HN := hide hne
  have HE := hide he
  clear hp hq hy hcs hrow hne he
  go_enter Tryd.func107, Tryd.ntmps107
  go_wp2_with fail
  go_loopw [7, 14] (fun s7 s14 wr => ∃ t : Nat, t ≤ N ∧ s14 = .int .i64 t ∧ s7 = .int .u64 (mcarry 4294967296 q y k i t : Int) ∧ wr.rowIs g 47 M (rowM p q i (i + t)) ∧ Hid (Ex g w wr)) (fun _ s14 _ => N - (intOf s14).toNat)
  case atStart =>
    refine ⟨0, by omega, rfl, by rw [mcarry_zero _ _ _ _ _ b32]; rfl, ?_, Ex.refl _ _⟩
    exact HR.out.congr (fun j hj => (rowM_none _ _ _ _ (by omega) j).symm)
  case round =>
    obtain ⟨t, ht, rfl, rfl, hrw, hF⟩ := hrel
    have hst := take_step b32 HE.out ht
    have hcl := mcarry_lt (p := q) (y := y) (i := i) (t := t) b32 hk
    have lp := dg_lt b32 p (i + t)
    have lq := dg_lt b32 q (i + t)
    have hcp := hrw.cell (i := i + t) (by omega)
    have hfz := hrw.frozen (i + t)
    have HR2 := hide hrw
    rw [rowM, if_neg (by omega)] at hcp
    clear hrw
    by_cases hc : t < N
    · have ly := dg_lt b32 y t
      have hcy := Cs.ex HC.out hF.out HN.out
      rcases hcy with h0 | ⟨b', off, rfl, hb', hcell⟩
      · omega
      · have hcy := hcell t hc
        clear hcell
        have hkd : k * dg 4294967296 y t ≤ 4294967295 * 4294967295 := Nat.mul_le_mul (by omega) (by omega)
        obtain ⟨d1, HD⟩ : ∃ d1, dg 4294967296 q (i + t) = d1 := ⟨_, rfl⟩
        obtain ⟨c1, HC1⟩ : ∃ c1, mcarry 4294967296 q y k i (t + 1) = c1 := ⟨_, rfl⟩
        rw [HD] at lq
        rw [HD, HC1] at hst
        have HD := hide HD
        have HC1 := hide HC1
        generalize dg 4294967296 y t = dy at *
        generalize dg 4294967296 p (i + t) = dp at *
        generalize mcarry 4294967296 q y k i t = c0 at *
        obtain ⟨kd, hkde⟩ : ∃ kd, k * dy = kd := ⟨_, rfl⟩
        rw [hkde] at hkd hst
        have hkz : (k : Int) * (dy : Int) = (kd : Int) := by rw [← hkde]; simp
        obtain ⟨S, hS⟩ : ∃ S : Nat, S = c0 + kd := ⟨_, rfl⟩
        have e1 : IntKind.u64.wrap ((c0 : Int) + IntKind.u64.wrap (kd : Int)) = (S : Int) := by rw [IntKind.wrap_u64, IntKind.wrap_u64]; omega
        have hSl : S < 18446744073709551616 := by omega
        have v : ((dp : Int) < (S : Int) % 4294967296 ∧ Hid ((c1 : Int) = (S : Int) / 4294967296 + 1 ∧ (dp : Int) + 4294967296 = d1 + (S : Int) % 4294967296)) ∨ ((S : Int) % 4294967296 ≤ (dp : Int) ∧ Hid ((c1 : Int) = (S : Int) / 4294967296 ∧ (dp : Int) = d1 + (S : Int) % 4294967296)) := by unfold Hid; omega
        have HS := hide hS
        clear hst hkd hkde hS
        rcases v with ⟨v1, v2⟩ | ⟨v1, v2⟩
        · go_wp2_with fail
          go_roundw
          case rel =>
            have := v2.out
            refine ⟨t + 1, by omega, by go_num, ?_, ?_, ?_⟩
            · rw [HC1.out]; congr 1; simp only [IntKind.wrap_u64] at *; omega
            · rw [show i + (t + 1) = i + t + 1 by omega]; exact rowM_set HR2.out (by omega) _ (by rw [HD.out]; simp only [IntKind.wrap_u64] at *; omega)
            · exact hF.out.set _ _
          case measure => simp [intOf]; omega
        · go_wp2_with fail
          go_roundw
          case rel =>
            have := v2.out
            refine ⟨t + 1, by omega, by go_num, ?_, ?_, ?_⟩
            · rw [HC1.out]; congr 1; simp only [IntKind.wrap_u64] at *; omega
            · rw [show i + (t + 1) = i + t + 1 by omega]; exact rowM_set HR2.out (by omega) _ (by rw [HD.out]; simp only [IntKind.wrap_u64] at *; omega)
            · exact hF.out.set _ _
          case measure => simp [intOf]; omega
    · have e : t = N := by omega
      subst e
      have hend := take_end b32 HE.out HP.out HQ.out HY.out
      rw [hend, dg_out HY.out, Nat.mul_zero, Nat.zero_add] at hst
      have LO := hide (fun j (hj : j < i) => take_low HE.out hj)
      have HI := hide (fun j (hj : i + t < j) => take_high b32 HP.out HQ.out hj)
      obtain ⟨d1, HD⟩ : ∃ d1, dg 4294967296 q (i + t) = d1 := ⟨_, rfl⟩
      rw [HD] at lq hst
      have HD := hide HD
      generalize dg 4294967296 p (i + t) = dp at *
      generalize mcarry 4294967296 q y k i t = c0 at *
      clear hend
      rcases (by omega : b = 0 ∨ b = 1) with rfl | rfl
      · have v1 : (c0 : Int) ≤ dp := by omega
        have v2 : Hid ((dp : Int) = d1 + c0) := by unfold Hid; omega
        clear hst
        go_wp2_with fail
        go_ret
        refine ⟨by have v4 : ¬ dp < c0 := by omega
                   simp [v4], rowM_done (rowM_set HR2.out (by omega) _ ?_) LO.out HI.out, hF.out.set _ _⟩
        have := v2.out
        rw [HD.out]; omega
      · have v1 : (dp : Int) < c0 := by omega
        have v2 : Hid ((dp : Int) + 4294967296 = d1 + c0) := by unfold Hid; omega
        clear hst
        go_wp2_with fail
        go_ret
        refine ⟨by have v4 : dp < c0 := by omega
                   simp [v4], rowM_done (rowM_set HR2.out (by omega) _ ?_) LO.out HI.out, hF.out.set _ _⟩
        have := v2.out
        rw [HD.out]; simp only [IntKind.wrap_u64]; omega

set_option maxHeartbeats 1000000 in
set_option maxRecDepth 4000 in
theorem giveRow_any (g M i N cp p q y b c : Nat) (a : Option Addr) (w : World) (hrow : w.rowIs g 47 M (fun j => .int .u32 (dg 4294967296 p j : Int))) (hp : p < 4294967296 ^ (i + N + 1)) (hq : q < 4294967296 ^ (i + N + 1)) (hLM : i + N + 1 ≤ M) (hM : M ≤ 1000000000000)
    (hy : y < 4294967296 ^ N) (hb : b ≤ 1) (he : p + 1 * 4294967296 ^ i * y = q + b * 4294967296 ^ (i + N + 1)) (hcs : Cs .u32 w a N (dg 4294967296 y)) (hne : ∀ b off s, a = some ⟨b, off, s⟩ → b ≠ g) :
    Calls Tryd.prog 108 #[.slice (some ⟨g, i, none⟩) (N + 1) cp, .slice a N c] w fun e w' => e = .returned (.bool (decide (b = 1))) ∧ w'.rowIs g 47 M (fun j => .int .u32 (dg 4294967296 q j : Int)) ∧ Ex g w w' := by
  have HP := hide hp
  have HQ := hide hq
  have HY := hide hy
  have HC := hide hcs
  have HR := hide hrow
  have HN := hide hne
  have HE := hide he
  clear hp hq hy hcs hrow hne he
  go_enter Tryd.func108, Tryd.ntmps108
  go_wp2_with fail
  go_loopw [5, 10] (fun s5 s10 wr => ∃ t : Nat, t ≤ N ∧ s10 = .int .i64 t ∧ s5 = .int .u64 (mcarry 4294967296 p y 1 i t : Int) ∧ wr.rowIs g 47 M (rowM p q i (i + t)) ∧ Hid (Ex g w wr)) (fun _ s10 _ => N - (intOf s10).toNat)
  case atStart =>
    refine ⟨0, by omega, rfl, by rw [mcarry_zero _ _ _ _ _ b32]; rfl, ?_, Ex.refl _ _⟩
    exact HR.out.congr (fun j hj => (rowM_none _ _ _ _ (by omega) j).symm)
  case round =>
    obtain ⟨t, ht, rfl, rfl, hrw, hF⟩ := hrel
    have hst := take_step b32 HE.out ht
    have hcl := mcarry_lt (k := 1) (p := p) (y := y) (i := i) (t := t) b32 (by omega)
    have lp := dg_lt b32 p (i + t)
    have lq := dg_lt b32 q (i + t)
    have hcp := hrw.cell (i := i + t) (by omega)
    have hfz := hrw.frozen (i + t)
    have HR2 := hide hrw
    rw [rowM, if_neg (by omega)] at hcp
    clear hrw
    by_cases hc : t < N
    · have ly := dg_lt b32 y t
      have hcy := Cs.ex HC.out hF.out HN.out
      rcases hcy with h0 | ⟨b', off, rfl, hb', hcell⟩
      · omega
      · have hcy := hcell t hc
        clear hcell
        obtain ⟨d1, HD⟩ : ∃ d1, dg 4294967296 q (i + t) = d1 := ⟨_, rfl⟩
        obtain ⟨c1, HC1⟩ : ∃ c1, mcarry 4294967296 p y 1 i (t + 1) = c1 := ⟨_, rfl⟩
        rw [HD] at lq
        rw [HD, HC1] at hst
        have HD := hide HD
        have HC1 := hide HC1
        generalize dg 4294967296 y t = dy at *
        generalize dg 4294967296 p (i + t) = dp at *
        generalize mcarry 4294967296 p y 1 i t = c0 at *
        have HS := hide hst
        have hS1 : (c0 : Int) + (dp + dy) < 18446744073709551616 := by omega
        clear hst
        go_wp2_with fail
        go_roundw
        case rel =>
          have := HS.out
          refine ⟨t + 1, by omega, by go_num, ?_, ?_, ?_⟩
          · rw [HC1.out]; congr 1; omega
          · rw [show i + (t + 1) = i + t + 1 by omega]; exact rowM_set HR2.out (by omega) _ (by rw [HD.out]; omega)
          · exact hF.out.set _ _
        case measure => simp [intOf]; omega
    · have e : t = N := by omega
      subst e
      have hend := take_end b32 HE.out HQ.out HP.out HY.out
      rw [hend, dg_out HY.out, Nat.mul_zero, Nat.zero_add] at hst
      have LO := hide (fun j (hj : j < i) => (take_low HE.out hj).symm)
      have HI := hide (fun j (hj : i + t < j) => take_high b32 HP.out HQ.out hj)
      obtain ⟨d1, HD⟩ : ∃ d1, dg 4294967296 q (i + t) = d1 := ⟨_, rfl⟩
      rw [HD] at lq hst
      have HD := hide HD
      generalize dg 4294967296 p (i + t) = dp at *
      generalize mcarry 4294967296 p y 1 i t = c0 at *
      clear hend
      rcases (by omega : b = 0 ∨ b = 1) with rfl | rfl
      · have v1 : ((c0 : Int) + dp) / 4294967296 = 0 := by omega
        have v2 : Hid ((c0 : Int) + dp = d1) := by unfold Hid; omega
        have v3 : (c0 : Int) + dp < 18446744073709551616 := by omega
        clear hst
        go_wp2_with fail
        go_ret
        refine ⟨by simp, rowM_done (rowM_set HR2.out (by omega) _ ?_) LO.out HI.out, hF.out.set _ _⟩
        have := v2.out
        rw [HD.out]; omega
      · have v1 : ((c0 : Int) + dp) / 4294967296 = 1 := by omega
        have v2 : Hid ((c0 : Int) + dp = d1 + 4294967296) := by unfold Hid; omega
        have v3 : (c0 : Int) + dp < 18446744073709551616 := by omega
        clear hst
        go_wp2_with fail
        go_ret
        refine ⟨by simp, rowM_done (rowM_set HR2.out (by omega) _ ?_) LO.out HI.out, hF.out.set _ _⟩
        have := v2.out
        rw [HD.out]; omega

set_option maxHeartbeats 1000000 in
set_option maxRecDepth 4000 in
theorem guess_any (g M i n cp p y c : Nat) (a : Option Addr) (w : World) (hrow : w.rowIs g 47 M (fun j => .int .u32 (dg 4294967296 p j : Int))) (hLM : i + n + 1 + 1 ≤ M) (hM : M ≤ 1000000000000)
    (ht : 0 < dg 4294967296 y n) (hcs : Cs .u32 w a (n + 1) (dg 4294967296 y)) :
    Calls Tryd.prog 106 #[.slice (some ⟨g, i, none⟩) (n + 1 + 1) cp, .slice a (n + 1) c] w fun e w' => e = .returned (.int .u32 ((min ((dg 4294967296 p (i + n + 1) * 4294967296 + dg 4294967296 p (i + n)) / dg 4294967296 y n) 4294967295 : Nat) : Int)) ∧ Fr w w' := by
  have l1 := dg_lt b32 p (i + n + 1)
  have l0 := dg_lt b32 p (i + n)
  have ly := dg_lt b32 y n
  have hc1 := hrow.cell (i := i + n + 1) (by omega)
  have hc0 := hrow.cell (i := i + n) (by omega)
  rcases hcs with h0 | ⟨b', off, rfl, hb', hcell⟩
  · omega
  have hcy := hcell n (by omega)
  clear hcell hrow
  generalize dg 4294967296 p (i + n + 1) = d1 at *
  generalize dg 4294967296 p (i + n) = d0 at *
  generalize dg 4294967296 y n = dy at *
  rw [show i + n + 1 = i + (n + 1) by omega] at hc1
  go_enter Tryd.func106, Tryd.ntmps106
  go_wp2_with fail
  go_quiet (fail)
  obtain ⟨Wd, hWd⟩ : ∃ Wd : Nat, d1 * 4294967296 + d0 = Wd := ⟨_, rfl⟩
  have e1 : (d1 : Int) * 4294967296 + (d0 : Int) = (Wd : Int) := by omega
  rw [e1]
  have hWb : Wd < 18446744073709551616 := by omega
  have HW := hide hWd
  clear e1 hWd hc0 hc1
  have hcy : (w.drewN nq).cell? ⟨b', off + n, none⟩ = some (.int .u32 dy) := hcy
  obtain ⟨Q, hQ⟩ : ∃ Q : Nat, Wd / dy = Q := ⟨_, rfl⟩
  have hQz : (Wd : Int) / (dy : Int) = (Q : Int) := by rw [← hQ]; simp
  have hQb : Q ≤ Wd := by rw [← hQ]; exact Nat.div_le_self _ _
  have HQ := hide hQ
  clear hQ
  by_cases hm : (Q : Int) ≤ 4294967295
  · go_wp2_with fail
    go_ret
    refine ⟨?_, drewN_fr _ _⟩
    rw [HW.out, HQ.out, show min Q 4294967295 = Q by omega]
    rfl
  · go_wp2_with fail
    go_ret
    refine ⟨?_, drewN_fr _ _⟩
    rw [HW.out, HQ.out, show min Q 4294967295 = 4294967295 by omega]
    rfl
end Go.Proofs.YtmaapdmbkhoigaaDoor

/- takeDigit. -/
namespace Go.Proofs.YtmaapdmbkhoigaaDoor
set_option linter.unusedVariables false
set_option linter.unusedSimpArgs false
open Go.RowKit

theorem wrapb_le (p m : Nat) : wrapb p m ≤ 1 := by unfold wrapb; split <;> omega
theorem wrapb_one {p m : Nat} (h : p < m) : wrapb p m = 1 := by unfold wrapb; rw [if_neg (by omega)]
theorem wrapb_nil {p m : Nat} (h : m ≤ p) : wrapb p m = 0 := by unfold wrapb; rw [if_pos h]

set_option maxHeartbeats 1000000 in
set_option maxRecDepth 4000 in
theorem takeDigit_any (g M i n cp p y c : Nat) (a : Option Addr) (w : World) (hrow : w.rowIs g 47 M (fun j => .int .u32 (dg 4294967296 p j : Int))) (hp : p < 4294967296 ^ i * y * 4294967296) (hLM : i + n + 1 + 1 ≤ M) (hM : M ≤ 1000000000000)
    (hy : y < 4294967296 ^ (n + 1)) (hy0 : 4294967296 ^ n ≤ y) (hcs : Cs .u32 w a (n + 1) (dg 4294967296 y)) (hne : ∀ b off s, a = some ⟨b, off, s⟩ → b ≠ g) :
    Calls Tryd.prog 94 #[.slice (some ⟨g, i, none⟩) (n + 1 + 1) cp, .slice a (n + 1) c] w fun e w' => e = .returned (.int .u32 (p / (4294967296 ^ i * y) : Nat)) ∧ w'.rowIs g 47 M (fun j => .int .u32 (dg 4294967296 (p % (4294967296 ^ i * y)) j : Int)) ∧ Ex g w w' := by
  have hs0 : 0 < 4294967296 ^ i * y := Nat.mul_pos (pow_pos' b32 i) (Nat.lt_of_lt_of_le (pow_pos' b32 n) hy0)
  have hT : ∀ d, d < 4294967296 → d * (4294967296 ^ i * y) ≤ 4294967296 ^ (i + (n + 1) + 1) := fun d hd => by
    rw [show 4294967296 ^ (i + (n + 1) + 1) = 4294967296 * (4294967296 ^ i * 4294967296 ^ (n + 1)) by rw [Nat.pow_succ, Nat.pow_add]; ac_rfl]
    exact Nat.mul_le_mul (by omega) (Nat.mul_le_mul_left _ (by omega))
  have hpT : p < 4294967296 ^ (i + (n + 1) + 1) := by
    refine Nat.lt_of_lt_of_le hp ?_
    rw [show 4294967296 ^ (i + (n + 1) + 1) = 4294967296 ^ i * 4294967296 ^ (n + 1) * 4294967296 by rw [Nat.pow_succ, Nat.pow_add]]
    exact Nat.mul_le_mul_right _ (Nat.mul_le_mul_left _ (by omega))
  have hge : p / (4294967296 ^ i * y) ≤ min ((dg 4294967296 p (i + n + 1) * 4294967296 + dg 4294967296 p (i + n)) / dg 4294967296 y n) 4294967295 := guess_ge b32 hpT hy hy0 hp
  have htop := top_pos b32 hy hy0
  have HG := hide (guess_any g M i n cp p y c a w hrow hLM hM htop hcs)
  have hglt := hrow.lt
  obtain ⟨G, hG⟩ : ∃ G, min ((dg 4294967296 p (i + n + 1) * 4294967296 + dg 4294967296 p (i + n)) / dg 4294967296 y n) 4294967295 = G := ⟨_, rfl⟩
  have hGb : G ≤ 4294967295 := by omega
  rw [hG] at hge HG
  have HPT := hide hpT
  have HT := hide hT
  have HY := hide hy
  have HC := hide hcs
  have HR := hide hrow
  have HN := hide hne
  have HS0 := hide hs0
  have HGE := hide hge
  clear hpT hT hy hcs hrow hne hs0 hge hp hy0 hG htop
  go_enter Tryd.func94, Tryd.ntmps94
  go_wp2_with fail
  refine HG.out.mono ?_
  rintro e w1 ⟨rfl, f1⟩
  have hr1 := hide (HR.out.of_block (f1.block _ HR.out.lt))
  have hc1 := hide (HC.out.fr f1)
  have F1 : Hid (Ex g w w1) := Ex.of_fr g f1
  go_wp2_with fail
  refine (takeRow_any g M i (n + 1) cp p (wrapv (4294967296 ^ (i + (n + 1) + 1)) p (G * (4294967296 ^ i * y))) y G (wrapb p (G * (4294967296 ^ i * y))) c a w1 hr1.out HPT.out (wrapv_lt HPT.out (HT.out G (by omega))) (by omega) hM HY.out (by omega) (wrapb_le _ _) (by rw [Nat.mul_assoc]; exact wrapv_eq (HT.out G (by omega))) hc1.out HN.out).mono ?_
  rintro e w2 ⟨rfl, r2, f2⟩
  have HR2 := hide r2
  have F2 : Hid (Ex g w w2) := Ex.trans F1.out f2
  clear HG HR hr1 hc1 F1 f1 f2 r2
  go_wp2_with fail
  go_loopw [5, 6] (fun s5 s6 wr => ∃ d : Nat, d ≤ G ∧ s5 = .int .u32 d ∧ s6 = .bool (decide (wrapb p (d * (4294967296 ^ i * y)) = 1)) ∧ Hid (p / (4294967296 ^ i * y) ≤ d) ∧ Hid (wr.rowIs g 47 M (fun j => .int .u32 (dg 4294967296 (wrapv (4294967296 ^ (i + (n + 1) + 1)) p (d * (4294967296 ^ i * y))) j : Int))) ∧ Hid (Ex g w wr)) (fun s5 _ _ => (intOf s5).toNat)
  case atStart => exact ⟨G, by omega, rfl, rfl, HGE, HR2, F2⟩
  case round =>
    obtain ⟨d, hd, rfl, rfl, hge, hr, hF⟩ := hrel
    by_cases hc : p < d * (4294967296 ^ i * y)
    · rw [wrapb_one hc]
      obtain ⟨d, rfl⟩ : ∃ k, d = k + 1 := ⟨d - 1, by
        rcases Nat.eq_zero_or_pos d with h | h
        · rw [h, Nat.zero_mul] at hc; omega
        · omega⟩
      have hlt : p / (4294967296 ^ i * y) ≤ d := by have := (Nat.div_lt_iff_lt_mul HS0.out).2 hc; omega
      have HLT := hide hlt
      have HCC := hide hc
      clear hlt hc
      go_wp2_with fail
      have hcc := HCC.out
      have ht2 := HT.out (d + 1) (by omega)
      have hr' := hr.out
      rw [Nat.succ_mul] at hcc ht2 hr'
      refine (giveRow_any g M i (n + 1) cp _ (wrapv (4294967296 ^ (i + (n + 1) + 1)) p (d * (4294967296 ^ i * y))) y (1 - wrapb p (d * (4294967296 ^ i * y))) c a wr hr' (wrapv_lt HPT.out ht2) (wrapv_lt HPT.out (HT.out d (by omega))) (by omega) hM HY.out (by omega) (by rw [Nat.one_mul]; exact wrapv_back HPT.out ht2 hcc) (HC.out.ex hF.out HN.out) HN.out).mono ?_
      rintro e w3 ⟨rfl, r3, f3⟩
      have HR3 := hide r3
      have F3 : Hid (Ex g w w3) := Ex.trans hF.out f3
      have hw1 := wrapb_le p (d * (4294967296 ^ i * y))
      have hdec : Hid ((!decide (1 - wrapb p (d * (4294967296 ^ i * y)) = 1)) = decide (wrapb p (d * (4294967296 ^ i * y)) = 1)) := by
        unfold Hid
        rcases (by omega : wrapb p (d * (4294967296 ^ i * y)) = 0 ∨ wrapb p (d * (4294967296 ^ i * y)) = 1) with h | h <;> rw [h] <;> rfl
      generalize hB : decide (1 - wrapb p (d * (4294967296 ^ i * y)) = 1) = B1 at *
      clear hr r3 f3 hr' hcc ht2 hw1
      go_wp2_with fail
      go_roundw
      case rel => exact ⟨d, by omega, by go_num, by rw [hdec.out], HLT, HR3, F3⟩
      case measure => simp [intOf]
    · have hle : d * (4294967296 ^ i * y) ≤ p := by omega
      rw [wrapb_nil hle]
      have hd2 : d ≤ p / (4294967296 ^ i * y) := (Nat.le_div_iff_mul_le HS0.out).2 hle
      have hde : d = p / (4294967296 ^ i * y) := Nat.le_antisymm hd2 hge.out
      have hv : wrapv (4294967296 ^ (i + (n + 1) + 1)) p (d * (4294967296 ^ i * y)) = p % (4294967296 ^ i * y) := by
        unfold wrapv
        rw [if_pos hle, hde]
        have := Nat.div_add_mod p (4294967296 ^ i * y)
        rw [Nat.mul_comm] at this
        omega
      have HV := hide hv
      have HDE := hide hde
      clear hle hd2 hde hv hc
      go_wp2_with fail
      go_ret
      refine ⟨by rw [← HDE.out]; rfl, ?_, hF.out⟩
      rw [← HV.out]
      exact hr.out
end Go.Proofs.YtmaapdmbkhoigaaDoor

/- Div. -/
namespace Go.Proofs.YtmaapdmbkhoigaaDoor
set_option linter.unusedVariables false
set_option linter.unusedSimpArgs false
open Go.RowKit

/-- Two Nats and a bool that are handed back, the Nats through their cells. -/
theorem results_nat2_ok {fn : Func} {p p' u : Tmp} (h : fn.results = #[.cell p 78, .cell p' 78, .tmp u]) (tmps : Array Value) (w : World) (b b' : Nat) (v v' : Value) (hp : tmps.getD p undef = .pointer (some ⟨b, 0, none⟩)) (hp' : tmps.getD p' undef = .pointer (some ⟨b', 0, none⟩)) (hc : w.cell? ⟨b, 0, none⟩ = some v) (hc' : w.cell? ⟨b', 0, none⟩ = some v') :
    (results fn tmps).run Tryd.prog w = .ok (.tuple #[.agg #[v], .agg #[v'], tmps.getD u undef]) w := by
  have hp1 : tmps[p]?.getD undef = .pointer (some ⟨b, 0, none⟩) := by simpa using hp
  have hp2 : tmps[p']?.getD undef = .pointer (some ⟨b', 0, none⟩) := by simpa using hp'
  simp [results, h, hp1, hp2]
  go_simp
set_option maxHeartbeats 1000000 in
set_option maxRecDepth 4000 in
theorem div_no (va vb : Value) (x : Nat) (w : World) (ha : IsNat w va x) (hb : IsNat w vb 0) :
    Calls Tryd.prog 70 #[va, vb] w fun e w' => e = .returned (.tuple #[.agg #[.slice none 0 0], .agg #[.slice none 0 0], .bool false]) ∧ Fr w w' := by
  have HB := hide hb
  obtain ⟨a, ca, rfl, a2, a3, a4⟩ := ha
  obtain ⟨b, cb, rfl, b2, b3, b4⟩ := hb
  clear a4 b4
  go_enter Tryd.func70, Tryd.ntmps70
  go_wp2_with fail
  obtain ⟨W, hW⟩ : ∃ W, W = (((w.alloc (Obj.cells #[Value.slice a (nlen 4294967296 x) ca] 78)).alloc (Obj.cells #[Value.slice b (nlen 4294967296 0) cb] 78)).alloc (Obj.cells #[Value.slice none 0 0] 78)).alloc (Obj.cells #[Value.slice none 0 0] 78) := ⟨_, rfl⟩
  have fW : Fr w W := by rw [hW]; exact (((Fr.alloc _ _).trans (Fr.alloc _ _)).trans (Fr.alloc _ _)).trans (Fr.alloc _ _)
  have c4 : W.cell? ⟨w.heap.size + 1 + 1, 0, none⟩ = some (.slice none 0 0) := by rw [hW]; simp [go_sem]
  have z4 : W.frozen? ⟨w.heap.size + 1 + 1, 0, none⟩ = false := by rw [hW]; simp [go_sem]
  have c5 : W.cell? ⟨w.heap.size + 1 + 1 + 1, 0, none⟩ = some (.slice none 0 0) := by rw [hW]; simp [go_sem]
  have z5 : W.frozen? ⟨w.heap.size + 1 + 1 + 1, 0, none⟩ = false := by rw [hW]; simp [go_sem]
  rw [← hW]
  clear hW
  refine (limbs_lm _ 0 _ (IsNat.fr HB.out fW) (by rw [nlen_zero]; omega)).mono ?_
  rintro e w1 ⟨a1, c1, rfl, n1, l1, f1⟩
  rw [nlen_zero] at *
  have z4 := fr_free f1 c4 z4
  have c4 := fr_cell f1 c4
  have z5 := fr_free f1 c5 z5
  have c5 := fr_cell f1 c5
  have F := fW.trans f1
  clear fW f1 l1
  go_wp2_with fail
  (try simp only [Exit.inBlock, Exit.then])
  refine bodyPost_ret (results_nat2_ok rfl _ _ (w.heap.size + 1 + 1) (w.heap.size + 1 + 1 + 1) (.slice none 0 0) (.slice none 0 0) rfl rfl ?_ ?_) rfl ?_
  · go_simp
  · go_simp
  · exact ⟨rfl, Below.setCell (Below.setCell F (by simp; omega) _) (by simp; omega) _⟩

/-- The limbs of a raised divisor, without the last one, which is a nought. -/
theorem rowIs_cs {w : World} {g n m : Nat} {t : TypeId} {f : Nat → Nat} (h : w.rowIs g t n (fun j => .int .u32 (f j : Int))) (hm : m ≤ n) : Cs .u32 w (some ⟨g, 0, none⟩) m f :=
  .inr ⟨g, 0, rfl, h.lt, fun j hj => by rw [Nat.zero_add]; exact h.cell (by omega)⟩

set_option maxHeartbeats 2000000 in
set_option maxRecDepth 4000 in
theorem div_yes (va vb : Value) (x y : Nat) (w : World) (ha : IsNat w va x) (hb : IsNat w vb y) (hx : nlen 4294967296 x ≤ 100000000000) (hy : nlen 4294967296 y ≤ 100000000000) (hy0 : y ≠ 0) :
    Calls Tryd.prog 70 #[va, vb] w fun e w' => ∃ a c a' c', e = .returned (.tuple #[.agg #[.slice a (nlen 4294967296 (x / y)) c], .agg #[.slice a' (nlen 4294967296 (x % y)) c'], .bool true]) ∧ Res w w' a c (x / y) ∧ Res w w' a' c' (x % y) := by
  have HA := hide ha
  have HB := hide hb
  obtain ⟨a, ca, rfl, a2, a3, a4⟩ := ha
  obtain ⟨b, cb, rfl, b2, b3, b4⟩ := hb
  clear a4 b4
  have hyp := nlen_pos b32 hy0
  obtain ⟨n, hn⟩ : ∃ n, nlen 4294967296 y = n + 1 := ⟨nlen 4294967296 y - 1, by omega⟩
  have ly := lt_nlen b32 y
  have lw := nlen_low b32 y hy0
  rw [hn] at ly lw
  simp only [Nat.add_sub_cancel] at lw
  have hbt := bits_top y n ly lw
  have htp := top_pos b32 ly lw
  have htl := dg_lt b32 y n
  have ht0 := nlen_pos (B := 2) (by omega) (x := dg 4294967296 y n) (by omega)
  have ht1 : nlen 2 (dg 4294967296 y n) ≤ 32 := nlen_le (by omega) (by omega)
  obtain ⟨u, hu⟩ : ∃ u, u + nlen 2 (dg 4294967296 y n) = 32 := ⟨32 - nlen 2 (dg 4294967296 y n), by omega⟩
  have hfit := raise_fits y n ly lw u _ rfl hu hbt
  have hlow : 4294967296 ^ n ≤ y * 2 ^ u := Nat.le_trans lw (Nat.le_mul_of_pos_right _ (Nat.pow_pos (by omega)))
  have lx := lt_nlen b32 x
  have LX := hide lx
  have LY := hide ly
  have LW := hide lw
  have HFIT := hide hfit
  have HLOW := hide hlow
  have hu31 : u ≤ 31 := by omega
  have hz : (32 : Int) - (nlen 2 (dg 4294967296 y n) : Int) = (u : Int) := by omega
  have HZ := hide hz
  clear hbt ht0 ht1 hfit hlow lw ly lx hz hu htp
  rw [hn] at hy b2 HB ⊢
  go_enter Tryd.func70, Tryd.ntmps70
  go_wp2_with fail
  obtain ⟨W, hW⟩ : ∃ W, W = (((w.alloc (Obj.cells #[Value.slice a (nlen 4294967296 x) ca] 78)).alloc (Obj.cells #[Value.slice b (n + 1) cb] 78)).alloc (Obj.cells #[Value.slice none 0 0] 78)).alloc (Obj.cells #[Value.slice none 0 0] 78) := ⟨_, rfl⟩
  have fW : Fr w W := by rw [hW]; exact (((Fr.alloc _ _).trans (Fr.alloc _ _)).trans (Fr.alloc _ _)).trans (Fr.alloc _ _)
  have c2 : W.cell? ⟨w.heap.size, 0, none⟩ = some (.slice a (nlen 4294967296 x) ca) := by rw [hW]; simp [go_sem]
  have c4 : W.cell? ⟨w.heap.size + 1 + 1, 0, none⟩ = some (.slice none 0 0) := by rw [hW]; simp [go_sem]
  have z4 : W.frozen? ⟨w.heap.size + 1 + 1, 0, none⟩ = false := by rw [hW]; simp [go_sem]
  have c5 : W.cell? ⟨w.heap.size + 1 + 1 + 1, 0, none⟩ = some (.slice none 0 0) := by rw [hW]; simp [go_sem]
  have z5 : W.frozen? ⟨w.heap.size + 1 + 1 + 1, 0, none⟩ = false := by rw [hW]; simp [go_sem]
  rw [← hW]
  clear hW
  have hl := limbs_lm _ y _ (IsNat.fr HB.out fW) (by omega)
  rw [hn] at hl
  refine hl.mono ?_
  rintro e w1 ⟨a1, c1, rfl, n1, l1, f1⟩
  have L1 := hide l1
  have C1 : Hid (Cs .u32 w1 a1 (n + 1) (dg 4294967296 y)) := by have := l1.1; rw [hn] at this; exact this
  have F1 := hide f1
  have c2 := fr_cell f1 c2
  clear l1 hl f1
  rcases C1.out with h0 | ⟨g0, off0, rfl, hg0, hcell⟩
  · omega
  have hct := hcell n (by omega)
  clear hcell
  go_wp2_with fail
  refine (lz32_any _ _ (by omega) (by omega)).mono ?_
  rintro e w2 ⟨rfl, rfl⟩
  rw [Int.toNat_natCast, HZ.out]
  clear hct
  go_wp2_with fail
  refine (raised_any _ (n + 1) c1 y u _ (by omega) hu31 C1.out LY.out).mono ?_
  rintro e w3 ⟨rfl, r3, f3⟩
  have R3 := hide r3
  have F3 := hide (F1.out.trans f3)
  have c2 := fr_cell f3 c2
  clear r3 L1 C1 F1
  go_wp2_with fail
  refine (limbs_lm _ x _ (IsNat.fr HA.out (fW.trans F3.out)) (by omega)).mono ?_
  rintro e w4 ⟨a4, c4', rfl, n4, l4, f4⟩
  have L4 := hide l4
  clear l4
  go_wp2_with fail
  refine (raised_any _ (nlen 4294967296 x) c4' x u _ (by omega) hu31 L4.out.1 LX.out).mono ?_
  rintro e w5 ⟨rfl, r5, f5⟩
  have R5 := hide r5
  have F4 := hide (F3.out.trans f4)
  have hg12 : w2.heap.size < w4.heap.size := Nat.lt_of_lt_of_le R3.out.lt f4.size
  have R4 := hide (R3.out.of_block (f4.block _ R3.out.lt))
  have CY := hide (rowIs_cs R4.out (m := n + 1) (by omega))
  have z4 := fr_free F4.out c4 z4
  have c4 := fr_cell F4.out c4
  have z5 := fr_free F4.out c5 z5
  have c5 := fr_cell F4.out c5
  have FW := hide (fW.trans F4.out)
  have F5 := hide f5
  clear r5 L4 f4 F3 F4 R3 R4 c2 f3 f5 fW
  obtain ⟨M, hM⟩ : ∃ M, nlen 4294967296 x + 1 = M := ⟨_, rfl⟩
  obtain ⟨K, hK⟩ : ∃ K : Nat, nlen 4294967296 x - n = K := ⟨_, rfl⟩
  have hKx : x / y < 4294967296 ^ K := div_few b32 (Nat.lt_of_lt_of_le LX.out (Nat.pow_le_pow_right (by omega) (by omega : nlen 4294967296 x ≤ n + K))) LW.out
  have hxK : x * 2 ^ u < 4294967296 ^ K * (y * 2 ^ u) := by
    rw [← Nat.mul_assoc]
    exact Nat.mul_lt_mul_of_pos_right ((Nat.div_lt_iff_lt_mul (by omega)).1 hKx) (Nat.pow_pos (by omega))
  have HKX := hide hKx
  have HXK := hide hxK
  clear hKx hxK
  rw [hM] at R5
  have hmk : ∀ z : Int, z = (K : Int) → ∀ w : World, (Sem.run Tryd.prog (Instr.makeSlice 76 (.int .i64 z) (.int .i64 z)) w) = .ok (.slice (some ⟨w.heap.size, 0, none⟩) K K) (w.alloc (.cells (madeCells #[.int .u32 0] K) 47)) := fun z e w => by
    subst e
    exact run_make_row' (P := Tryd.prog) 76 47 (.int .u32 0) 4 Tryd.underlying76 info32 rfl .i64 .i64 K (by omega) (by omega) w
  have HMK := hide hmk
  clear hmk
  go_wp2_with fail
  all_goals (
    rw [HMK.out _ (by omega)]
    simp only [Result.andThen]
    rw [Oper.upon_value]
    go_wp2_with fail
    go_loopw [13] (fun s13 wr => ∃ k : Nat, k ≤ K ∧ s13 = .int .i64 ((k : Int) - 1) ∧ Hid (wr.rowIs w5.heap.size 47 K (rowU (dg 4294967296 (x / y)) k)) ∧ Hid (wr.rowIs w4.heap.size 47 M (fun j => .int .u32 (dg 4294967296 (x * 2 ^ u % (4294967296 ^ k * (y * 2 ^ u))) j : Int))) ∧ Hid (Fr w4 wr)) (fun s13 _ => (intOf s13 + 1).toNat)
    case atStart =>
      refine ⟨K, by omega, by go_num, ?_, ?_, ?_⟩
      · exact (World.rowIs_made w5 (.int .u32 0) K 47).congr (fun j hj => rowU_made _ _ _ hj)
      · rw [Nat.mod_eq_of_lt HXK.out]
        exact R5.out.of_block ((Fr.alloc w5 _).block _ R5.out.lt)
      · exact F5.out.trans (Fr.alloc _ _)
    case round =>
      obtain ⟨k, hk, rfl, hq, hr, hF⟩ := hrel
      have hg23 : w4.heap.size < w5.heap.size := R5.out.lt
      by_cases c0 : k = 0
      · subst c0
        have z4 := fr_free hF.out c4 z4
        have c4 := fr_cell hF.out c4
        have z5 := fr_free hF.out c5 z5
        have c5 := fr_cell hF.out c5
        have hr0 := hr.out
        rw [Nat.pow_zero, Nat.one_mul, Nat.mul_mod_mul_right] at hr0
        have CR := hide (rowIs_cs hr0 (Nat.le_refl M))
        have hrl : x % y * 2 ^ u < 4294967296 ^ M := by
          rw [← hM]
          refine raise_lt (Nat.lt_of_le_of_lt (Nat.mod_le _ _) LX.out) (by have := pow2_le hu31; omega)
        have HRL := hide hrl
        have CQ := hide (rowU_cs hq.out)
        clear hr0 hrl
        go_wp2_with fail
        refine (made_any K K (some ⟨w5.heap.size, 0, none⟩) _ (x / y) _ (by omega) CQ.out HKX.out (fun j _ => rfl)).mono ?_
        rintro e w6 ⟨a6, c6, rfl, hl6, h6, f6⟩
        have H6 := hide h6
        have HL6 := hide hl6
        have CR6 := hide (CR.out.fr f6)
        have F6 := hide (hF.out.trans f6)
        clear h6 hl6
        go_wp2_with fail
        refine (lowered_any _ M M (x % y * 2 ^ u) u _ (by omega) hu31 CR6.out HRL.out).mono ?_
        rintro e w7 ⟨c7, rfl, h7, f7⟩
        rw [Nat.mul_div_cancel _ (Nat.pow_pos (by omega))] at h7
        have H7 := hide h7
        have F7 := hide (F6.out.trans f7)
        have H67 := hide (IsNat.fr H6.out f7)
        have s7 := f7.size
        clear h7
        go_wp2_with fail
        have hrl2 : x % y < 4294967296 ^ M := Nat.lt_of_lt_of_le (Nat.lt_of_le_of_lt (Nat.mod_le _ _) LX.out) (Nat.pow_le_pow_right (by omega) (by omega))
        refine (made_any M c7 _ _ (x % y) _ (by omega) H7.out hrl2 (fun j _ => rfl)).mono ?_
        rintro e w8 ⟨a8, c8, rfl, hl8, h8, f8⟩
        have H8 := hide h8
        have HL8 := hide hl8
        have F8 := hide (F7.out.trans f8)
        have H68 := hide (IsNat.fr H67.out f8)
        have ff := (f6.trans f7).trans f8
        have z4 := fr_free ff c4 z4
        have c4 := fr_cell ff c4
        have z5 := fr_free ff c5 z5
        have c5 := fr_cell ff c5
        have s6 := f6.size
        have sW := FW.out.size
        have sr := hF.out.size
        have s8 := cell_lt c5
        have s9 := cell_lt (fr_cell (Fr.refl w4) (by assumption : w4.cell? ⟨w.heap.size + 1 + 1 + 1, 0, none⟩ = _))
        simp only [] at s9
        clear h8 hl8 hrl2
        unfold natVal
        go_wp2_with fail
        (try simp only [Exit.inBlock, Exit.then])
        refine bodyPost_ret (results_nat2_ok rfl _ _ (w.heap.size + 1 + 1) (w.heap.size + 1 + 1 + 1) (.slice (natA (x / y) a6) (nlen 4294967296 (x / y)) (natC (x / y) c6)) (.slice (natA (x % y) a8) (nlen 4294967296 (x % y)) (natC (x % y) c8)) rfl rfl ?_ ?_) rfl ?_
        · go_simp
        · go_simp
        · have FF : Fr w ((w8.setCell ⟨w.heap.size + 1 + 1, 0, none⟩ (.slice (natA (x / y) a6) (nlen 4294967296 (x / y)) (natC (x / y) c6))).setCell ⟨w.heap.size + 1 + 1 + 1, 0, none⟩ (.slice (natA (x % y) a8) (nlen 4294967296 (x % y)) (natC (x % y) c8))) := Below.setCell (Below.setCell (FW.out.trans F8.out) (by simp; omega) _) (by simp; omega) _
          refine ⟨_, _, _, _, rfl, ⟨?_, fun g off s e => ?_, FF⟩, ⟨?_, fun g off s e => ?_, FF⟩⟩
          · refine IsNat.put (IsNat.put H68.out _ _ (fun g off s e => ?_)) _ _ (fun g off s e => ?_)
            · have := HL6.out g off s (natA_some e); simp; omega
            · have := HL6.out g off s (natA_some e); simp; omega
          · have := HL6.out g off s (natA_some e); omega
          · refine IsNat.put (IsNat.put H8.out _ _ (fun g off s e => ?_)) _ _ (fun g off s e => ?_)
            · have := HL8.out g off s (natA_some e); simp; omega
            · have := HL8.out g off s (natA_some e); simp; omega
          · have := HL8.out g off s (natA_some e); omega
      · obtain ⟨k, rfl⟩ : ∃ j, k = j + 1 := ⟨k - 1, by omega⟩
        have e0 : ((k + 1 : Nat) : Int) - 1 = (k : Int) := by omega
        rw [e0]
        clear e0
        try (exfalso; omega)
        all_goals (
          have hMk : k + n + 1 + 1 ≤ M := by omega
          go_wp2_with fail
          rw [show k + (n + 1) + 1 - k = n + 1 + 1 by omega]
          have hp : x * 2 ^ u % (4294967296 ^ (k + 1) * (y * 2 ^ u)) < 4294967296 ^ k * (y * 2 ^ u) * 4294967296 := by
            rw [show 4294967296 ^ k * (y * 2 ^ u) * 4294967296 = 4294967296 ^ (k + 1) * (y * 2 ^ u) by rw [Nat.pow_succ]; ac_rfl]
            exact Nat.mod_lt _ (Nat.mul_pos (pow_pos' b32 _) (Nat.lt_of_lt_of_le (pow_pos' b32 n) HLOW.out))
          refine (takeDigit_any w4.heap.size M k n (M - k) _ (y * 2 ^ u) (n + 1 + 1) (some ⟨w2.heap.size, 0, none⟩) wr hr.out hp hMk (by omega) HFIT.out HLOW.out (CY.out.fr hF.out) (fun b off s e => by simp at e; omega)).mono ?_
          rintro e w6 ⟨rfl, r6, f6⟩
          rw [div_round_r] at r6
          rw [div_round_d, Nat.mul_div_mul_right _ _ (Nat.pow_pos (by omega))]
          have HR6 := hide r6
          have hqq := hq.out.of_block (f6.2.2.2.2 _ hq.out.lt (by omega))
          have lq := dg_lt b32 (x / y) k
          have hcq := hqq.cell (i := k) (by omega)
          have hfq := hqq.frozen k
          have HQ6 := hide hqq
          have F6 := hide (f6.fr hF.out (Nat.le_refl _))
          rw [rowU, if_neg (by omega)] at hcq
          clear r6 f6 hqq hp
          go_wp2_with fail
          go_roundw
          case rel =>
            refine ⟨k, by omega, by go_num, ?_, ?_, ?_⟩
            · exact rowU_set HQ6.out _ rfl
            · exact HR6.out.of_block (Below.heap_setCell w6 _ _ _ (by simp; omega))
            · exact Below.setCell F6.out (by simp; omega) _
          case measure => simp [intOf]))
end Go.Proofs.YtmaapdmbkhoigaaDoor

/- Half. -/
namespace Go.Proofs.YtmaapdmbkhoigaaDoor
set_option linter.unusedVariables false
set_option linter.unusedSimpArgs false
open Go.RowKit

attribute [local go_sem] World.cell?_alloc_some
theorem nl_div {x y n : Nat} (h : nlen 4294967296 x ≤ n) : nlen 4294967296 (x / y) ≤ n := Nat.le_trans (nlen_mono b32 (Nat.div_le_self x y)) h
theorem nl_mod {x y n : Nat} (h : nlen 4294967296 x ≤ n) : nlen 4294967296 (x % y) ≤ n := Nat.le_trans (nlen_mono b32 (Nat.mod_le x y)) h

end Go.Proofs.YtmaapdmbkhoigaaDoor

/- Gcd. -/
namespace Go.Proofs.YtmaapdmbkhoigaaDoor
set_option linter.unusedVariables false
set_option linter.unusedSimpArgs false
open Go.RowKit

attribute [local go_sem] World.cell?_alloc_some
/-- The number of the first n digits. -/
def sumD (f : Nat → Nat) : Nat → Nat
  | 0 => 0
  | n + 1 => sumD f n + 4294967296 ^ n * f n
theorem sumD_dg (x : Nat) : ∀ n, sumD (dg 4294967296 x) n = x % 4294967296 ^ n
  | 0 => by simp [sumD, Nat.mod_one]
  | n + 1 => by rw [sumD, sumD_dg x n, mod_step]
theorem sumD_congr {f h : Nat → Nat} : ∀ n, (∀ j, j < n → f j = h j) → sumD f n = sumD h n
  | 0, _ => rfl
  | n + 1, e => by rw [sumD, sumD, sumD_congr n (fun j hj => e j (by omega)), e n (by omega)]
def limbAt (w : World) (a : Option Addr) (j : Nat) : Nat :=
  match a with
  | some ⟨b, off, none⟩ => (match w.cell? ⟨b, off + j, none⟩ with
    | some (.int _ z) => z.toNat
    | _ => 0)
  | _ => 0
/-- The number that a variable's cell has. -/
def readN (w : World) (b : Nat) : Nat :=
  match w.cell? ⟨b, 0, none⟩ with
  | some (.slice a n _) => sumD (limbAt w a) n
  | _ => 0
theorem readN_of {w : World} {b c x : Nat} {a : Option Addr} (h : w.cell? ⟨b, 0, none⟩ = some (.slice a (nlen 4294967296 x) c)) (hN : IsNat w (.agg #[.slice a (nlen 4294967296 x) c]) x) : readN w b = x := by
  unfold readN
  rw [h]
  obtain ⟨a', c', h1, h2, h3, h4⟩ := hN
  simp only [Value.agg.injEq] at h1
  have h1' : a = a' := by injection h1 with h1; injection h1 with h1; injection h1
  subst h1'
  simp only []
  have e : sumD (limbAt w a) (nlen 4294967296 x) = sumD (dg 4294967296 x) (nlen 4294967296 x) := by
    refine sumD_congr _ (fun j hj => ?_)
    rcases h4 with h0 | ⟨g, off, rfl, hg, hc⟩
    · omega
    · simp only [limbAt, hc j hj, Int.toNat_natCast]
  rw [e, sumD_dg, Nat.mod_eq_of_lt (lt_nlen b32 x)]
/-- A Nat's limbs lie in none of three cells. -/
def Far (w : World) (a : Option Addr) (n : Nat) : Prop := n = 0 ∨ ∀ g off s, a = some ⟨g, off, s⟩ → g < w.heap.size ∨ w.heap.size + 2 < g
theorem isNat_far {w : World} {a : Option Addr} {c x : Nat} (h : IsNat w (.agg #[.slice a (nlen 4294967296 x) c]) x) : Far w a (nlen 4294967296 x) := by
  obtain ⟨a', c', h1, h2, h3, h4⟩ := h
  simp only [Value.agg.injEq] at h1
  have h1' : a = a' := by injection h1 with h1; injection h1 with h1; injection h1
  subst h1'
  rcases h4 with h0 | ⟨g, off, rfl, hg, _⟩
  · exact .inl h0
  · refine .inr (fun g' off' s e => .inl ?_)
    simp only [Option.some.injEq, Addr.mk.injEq] at e
    omega
theorem IsNat.far {w0 w : World} {x c : Nat} {a : Option Addr} (h : IsNat w (.agg #[.slice a (nlen 4294967296 x) c]) x) (hf : Far w0 a (nlen 4294967296 x)) (p : Addr) (u : Value) (h1 : w0.heap.size ≤ p.block) (h2 : p.block ≤ w0.heap.size + 2) : IsNat (w.setCell p u) (.agg #[.slice a (nlen 4294967296 x) c]) x := by
  rcases hf with h0 | hf
  · have e : x = 0 := nlen_nil b32 h0
    subst e
    obtain ⟨a', c', g1, g2, g3, g4⟩ := h
    exact ⟨a', c', g1, g2, g3, .inl (nlen_zero _)⟩
  · exact h.put p u (fun g off s e => by have := hf g off s e; omega)

set_option maxHeartbeats 2000000 in
set_option maxRecDepth 4000 in
theorem gcd_any (va vb : Value) (x y : Nat) (w : World) (ha : IsNat w va x) (hb : IsNat w vb y) (hx : nlen 4294967296 x ≤ 100000000000) (hy : nlen 4294967296 y ≤ 100000000000) :
    Calls Tryd.prog 91 #[va, vb] w fun e w' => ∃ a c, e = .returned (.agg #[.slice a (nlen 4294967296 (Nat.gcd x y)) c]) ∧ IsNat w' (.agg #[.slice a (nlen 4294967296 (Nat.gcd x y)) c]) (Nat.gcd x y) ∧ Fr w w' := by
  have HA := hide ha
  have HB := hide hb
  obtain ⟨a, ca, rfl, a2, a3, a4⟩ := ha
  obtain ⟨b, cb, rfl, b2, b3, b4⟩ := hb
  clear a4 b4
  go_enter Tryd.func91, Tryd.ntmps91
  go_wp2_with fail
  go_loopw [8] (fun s8 wr => ∃ (p q : Nat) (ap aq : Option Addr) (cp cq : Nat), Hid (Nat.gcd p q = Nat.gcd x y) ∧ nlen 4294967296 p ≤ 100000000000 ∧ nlen 4294967296 q ≤ 100000000000 ∧
      wr.cell? ⟨w.heap.size, 0, none⟩ = some (.slice ap (nlen 4294967296 p) cp) ∧ wr.cell? ⟨w.heap.size + 1, 0, none⟩ = some (.slice aq (nlen 4294967296 q) cq) ∧ wr.cell? ⟨w.heap.size + 1 + 1, 0, none⟩ = some (.slice none 0 0) ∧
      wr.frozen? ⟨w.heap.size, 0, none⟩ = false ∧ wr.frozen? ⟨w.heap.size + 1, 0, none⟩ = false ∧ wr.frozen? ⟨w.heap.size + 1 + 1, 0, none⟩ = false ∧
      Hid (IsNat wr (.agg #[.slice ap (nlen 4294967296 p) cp]) p) ∧ Hid (IsNat wr (.agg #[.slice aq (nlen 4294967296 q) cq]) q) ∧ Hid (Far w ap (nlen 4294967296 p)) ∧ Hid (Far w aq (nlen 4294967296 q)) ∧ Hid (Fr w wr)) (fun _ wr => readN wr (w.heap.size + 1))
  case atStart =>
    have fW : Fr w (((w.alloc (Obj.cells #[Value.slice a (nlen 4294967296 x) ca] 78)).alloc (Obj.cells #[Value.slice b (nlen 4294967296 y) cb] 78)).alloc (Obj.cells #[Value.slice none 0 0] 78)) := ((Fr.alloc _ _).trans (Fr.alloc _ _)).trans (Fr.alloc _ _)
    exact ⟨x, y, a, b, ca, cb, rfl, hx, hy, by simp [go_sem], by simp [go_sem], by simp [go_sem], by simp [go_sem], by simp [go_sem], by simp [go_sem], IsNat.fr HA.out fW, IsNat.fr HB.out fW, isNat_far HA.out, isNat_far HB.out, fW⟩
  case round =>
    obtain ⟨p, q, ap, aq, cp, cq, hg, np, nq, c2, c3, c4, z2, z3, z4, ip, iq, rp, rq, hF⟩ := hrel
    by_cases hq : q = 0
    · subst hq
      go_wp2_with fail
      refine (div_no _ _ p _ ip.out iq.out).mono ?_
      rintro e w1 ⟨rfl, f1⟩
      have z2 := fr_free f1 c2 z2
      have c2 := fr_cell f1 c2
      have z4 := fr_free f1 c4 z4
      have c4 := fr_cell f1 c4
      have ip := hide (IsNat.fr ip.out f1)
      have hF := hide (hF.out.trans f1)
      have za : ∀ o o', ((w1.alloc o).alloc o').frozen? ⟨w.heap.size + 1 + 1, 0, none⟩ = false := fun o o' => fr_free ((Fr.alloc w1 o).trans (Fr.alloc _ o')) c4 z4
      clear f1
      go_wp2_with fail
      (try simp only [Exit.inBlock, Exit.then])
      have hgg := hg.out
      rw [Nat.gcd_zero_right] at hgg
      rw [← hgg]
      have fa : ∀ o o', Fr w1 ((w1.alloc o).alloc o') := fun o o' => (Fr.alloc _ _).trans (Fr.alloc _ _)
      refine bodyPost_ret (results_nat rfl _ _ (w.heap.size + 1 + 1) (.slice ap (nlen 4294967296 p) cp) rfl ?_) rfl ?_
      · exact World.cell?_setCell_same _ _ _ (fr_cell (fa _ _) c4)
      · refine ⟨_, _, rfl, ?_, ?_⟩
        · exact IsNat.far (IsNat.fr ip.out (fa _ _)) rp.out _ _ (by simp; omega) (by simp)
        · exact Below.setCell (hF.out.trans (fa _ _)) (by simp; omega) _
    · go_wp2_with fail
      refine (div_yes _ _ p q _ ip.out iq.out np nq hq).mono ?_
      rintro e w1 ⟨aw, cw, ar, cr, rfl, ⟨iw, lw, f1⟩, ⟨ir, lr, _⟩⟩
      go_wp2_with fail
      obtain ⟨W2, hW2⟩ : ∃ W2, W2 = (w1.alloc (Obj.cells #[Value.slice aw (nlen 4294967296 (p / q)) cw] 78)).alloc (Obj.cells #[Value.slice ar (nlen 4294967296 (p % q)) cr] 78) := ⟨_, rfl⟩
      have f2 : Fr w1 W2 := by rw [hW2]; exact (Fr.alloc _ _).trans (Fr.alloc _ _)
      have c6 : W2.cell? ⟨w1.heap.size + 1, 0, none⟩ = some (.slice ar (nlen 4294967296 (p % q)) cr) := by rw [hW2]; simp [go_sem]
      rw [← hW2]
      clear hW2
      have f3 := f1.trans f2
      have sr := cell_lt c4
      simp only [] at sr
      have s1 := f1.size
      have Z2 := fr_free f3 c2 z2
      have C2 := fr_cell f3 c2
      have Z3 := fr_free f3 c3 z3
      have C3 := fr_cell f3 c3
      have Z4 := fr_free f3 c4 z4
      have C4 := fr_cell f3 c4
      have IQ := hide (IsNat.fr iq.out f3)
      have IR := hide (IsNat.fr ir f2)
      have RR : Hid (Far w ar (nlen 4294967296 (p % q))) := .inr (fun g off s e => by have := lr g off s e; omega)
      have FF := hide (hF.out.trans f3)
      have nr : nlen 4294967296 (p % q) ≤ 100000000000 := nl_mod np
      have hm0 := hide (readN_of c3 iq.out)
      clear f1 f2 f3 iw ir lw lr ip iq
      refine wp_region_held_drew (S := (fun w' => w'.cell? ⟨w1.heap.size + 1, 0, none⟩ = some (.slice ar (nlen 4294967296 (p % q)) cr))) (by kernel_rfl) ?_ (fun hHeld => ?_)
      · exact c6
      refine wpAnyH_take (i := 1) (v := ?_) rfl (by kernel_rfl) (by kernel_rfl) (by kernel_rfl) (fun _ _ _ h => h) (Or.inl ⟨by rfl, ?_⟩) (by assumption) ?_
      rotate_left
      · (intro w hSw; (try dsimp only at hSw); go_simp; try with_reducible rfl)
      (try simp only [Act.put, List.getElem_toArray, List.getElem_cons_zero, List.getElem_cons_succ, List.setIfInBounds_toArray, List.set_cons_zero, List.set_cons_succ])
      refine wpAnyH_ready (rs := [0]) (by kernel_rfl) (by simp) ?_
      refine AllReadyH.cons rfl (fun K hK => ?_) AllReadyH.nil
      go_simp
      (try go_wp2_with fail)
      refine hK.out _ _ ?_ (fun hHeld => ?_)
      · (try dsimp only)
        exact c6
      clear hK K
      (try simp only [Act.put, List.getElem_toArray, List.getElem_cons_zero, List.getElem_cons_succ, List.setIfInBounds_toArray, List.set_cons_zero, List.set_cons_succ])
      refine wpAnyH_ready (rs := [2]) (by kernel_rfl) (by simp) ?_
      refine AllReadyH.cons rfl (fun K hK => ?_) AllReadyH.nil
      go_simp
      (try go_wp2_with fail)
      refine hK.out _ _ ?_ (fun hHeld => ?_)
      · (try dsimp only)
        exact (World.cell?_setCell_other _ _ _ _ (fun h => by injection h with h1 h2 h3; omega)).trans c6
      clear hK K
      (try simp only [Act.put, List.getElem_toArray, List.getElem_cons_zero, List.getElem_cons_succ, List.setIfInBounds_toArray, List.set_cons_zero, List.set_cons_succ])
      refine wpAnyH_ready (rs := [3]) (by kernel_rfl) (by simp) ?_
      refine AllReadyH.cons rfl (fun K hK => ?_) AllReadyH.nil
      go_simp
      (try go_wp2_with fail)
      refine hK.out _ _ ?_ (fun hHeld => ?_)
      · (try dsimp only)
        exact ((World.cell?_setCell_other _ _ _ _ (fun h => by injection h with h1 h2 h3; omega)).trans (World.cell?_setCell_other _ _ _ _ (fun h => by injection h with h1 h2 h3; omega))).trans c6
      clear hK K
      (try simp only [Act.put, List.getElem_toArray, List.getElem_cons_zero, List.getElem_cons_succ, List.setIfInBounds_toArray, List.set_cons_zero, List.set_cons_succ])
      refine wpAnyH_done (by kernel_rfl) ?_ _
      obtain ⟨W4, hW4⟩ : ∃ W4, W4 = ((W2.setCell ⟨w.heap.size, 0, none⟩ (Value.slice aq (nlen 4294967296 q) cq)).setCell ⟨w.heap.size + 1, 0, none⟩ (Value.slice ar (nlen 4294967296 (p % q)) cr)).drew := ⟨_, rfl⟩
      have d2 : W4.cell? ⟨w.heap.size, 0, none⟩ = some (.slice aq (nlen 4294967296 q) cq) := by
        rw [hW4]
        exact (World.cell?_setCell_other _ _ _ _ (fun h => by injection h with h1 h2 h3; omega)).trans (World.cell?_setCell_same _ _ _ C2)
      have d3 : W4.cell? ⟨w.heap.size + 1, 0, none⟩ = some (.slice ar (nlen 4294967296 (p % q)) cr) := by
        rw [hW4]
        exact World.cell?_setCell_same _ _ _ ((World.cell?_setCell_other _ _ _ _ (fun h => by injection h with h1 h2 h3; omega)).trans C3)
      have d4 : W4.cell? ⟨w.heap.size + 1 + 1, 0, none⟩ = some (.slice none 0 0) := by
        rw [hW4]
        exact ((World.cell?_setCell_other _ _ _ _ (fun h => by injection h with h1 h2 h3; omega)).trans (World.cell?_setCell_other _ _ _ _ (fun h => by injection h with h1 h2 h3; omega))).trans C4
      have y2 : W4.frozen? ⟨w.heap.size, 0, none⟩ = false := by rw [hW4]; simpa using Z2
      have y3 : W4.frozen? ⟨w.heap.size + 1, 0, none⟩ = false := by rw [hW4]; simpa using Z3
      have y4 : W4.frozen? ⟨w.heap.size + 1 + 1, 0, none⟩ = false := by rw [hW4]; simpa using Z4
      have jq : IsNat W4 (.agg #[.slice aq (nlen 4294967296 q) cq]) q := by
        rw [hW4]
        exact IsNat.fr (IsNat.far (IsNat.far IQ.out rq.out _ _ (by simp) (by simp)) rq.out _ _ (by simp) (by simp)) (Fr.drew _)
      have jr : IsNat W4 (.agg #[.slice ar (nlen 4294967296 (p % q)) cr]) (p % q) := by
        rw [hW4]
        exact IsNat.fr (IsNat.far (IsNat.far IR.out RR.out _ _ (by simp) (by simp)) RR.out _ _ (by simp) (by simp)) (Fr.drew _)
      have F4 : Fr w W4 := by
        rw [hW4]
        exact Fr.trans (Below.setCell (Below.setCell FF.out (by simp) _) (by simp) _) (Fr.drew _)
      rw [← hW4]
      have hm1 := hide (readN_of d3 jr)
      have JQ := hide jq
      have JR := hide jr
      have HF4 := hide F4
      clear hW4 jq jr F4 Z2 Z3 Z4 C2 C3 C4 c6 IQ IR FF hHeld
      go_wp2_with fail
      go_roundw
      case rel => exact ⟨q, p % q, aq, ar, cq, cr, by have := hg.out; rw [Nat.gcd_comm q, ← Nat.gcd_rec, Nat.gcd_comm]; exact this, nq, nr, d2, d3, d4, y2, y3, y4, JQ, JR, rq, RR, HF4⟩
      case measure =>
        rw [hm0.out, hm1.out]
        exact Nat.mod_lt _ (by omega)
end Go.Proofs.YtmaapdmbkhoigaaDoor

/- Down, at a seat that holds quot, too; contracts with the answer's number told. -/
namespace Go.Proofs.YtmaapdmbkhoigaaDoor
set_option linter.unusedVariables false
set_option linter.unusedSimpArgs false
open Go.RowKit

theorem Ex.free {g : Nat} {w w' : World} (h : Ex g w w') {a : Addr} {v : Value} (hc : w.cell? a = some v) (hf : w.frozen? a = false) (hne : a.block ≠ g) : w'.frozen? a = false := by
  have := h.2.2.2.2 a.block (cell_lt hc) hne
  unfold World.frozen? at *
  rw [this]; exact hf
/-- A row of one's own, to be written: its numbers. -/
def Mine (w : World) (g n : Nat) (f : Nat → Nat) : Prop := ∀ q, q < n → w.cell? ⟨g, q, none⟩ = some (.int .u32 (f q : Int)) ∧ w.frozen? ⟨g, q, none⟩ = false
theorem own_mine {w : World} {base n c : Nat} {a : Option Addr} {f : Nat → Nat} (h : w.ownsRow base 47 1 (.slice a n c) n (rowOf .u32 n f)) (hn : 0 < n) :
    ∃ g, a = some ⟨g, 0, none⟩ ∧ base ≤ g ∧ g < w.heap.size ∧ n ≤ c ∧ c ≤ maxLen ∧ Mine w g n f := by
  rcases h.2 with ⟨hv, hn⟩ | ⟨g, cap, cur, hv, hb, hh, h1, h2, _⟩
  · omega
  · simp only [Value.slice.injEq] at hv
    obtain ⟨rfl, _, rfl⟩ := hv
    refine ⟨g, rfl, hb, ?_, h1, h2, fun q hq => ⟨?_, h.frozenAt q⟩⟩
    · rcases Nat.lt_or_ge g w.heap.size with k | k
      · exact k
      · simp [Array.getElem?_eq_none k] at hh
    · rw [h.cellAt q (by omega)]
      exact rowOf_at hq
theorem Mine.set {w : World} {g n : Nat} {f f' : Nat → Nat} (h : Mine w g n f) (j : Nat) (hj : j < n) (z : Int) (hz : z = f' j) (he : ∀ q, q < n → q ≠ j → f q = f' q) : Mine (w.setCell ⟨g, j, none⟩ (.int .u32 z)) g n f' := by
  intro q hq
  obtain ⟨hy, hf⟩ := h q hq
  refine ⟨?_, ?_⟩
  · by_cases e : q = j
    · subst e; rw [← hz]; exact World.cell?_setCell_same _ _ _ hy
    · rw [← he q hq e]; exact (World.cell?_setCell_other w _ _ _ (fun h => e (by injection h with _ h; exact h.symm))).trans hy
  · simpa using hf
theorem Mine.fr {w w' : World} {g n : Nat} {f : Nat → Nat} (h : Mine w g n f) (k : Fr w w') : Mine w' g n f := fun q hq => by
  obtain ⟨hy, hf⟩ := h q hq
  exact ⟨fr_cell k hy, fr_free k hy hf⟩

set_option maxHeartbeats 1000000 in
set_option maxRecDepth 4000 in
theorem down_none (v : Value) (x : Nat) (k : Int) (w : World) (h : IsNat w v x) (k0 : -9223372036854775808 ≤ k) (hk : k ≤ 0) :
    Calls Tryd.prog 90 #[v, .int .i64 k] w fun e w' => e = .returned (.tuple #[v, .bool false]) ∧ Fr w w' := by
  obtain ⟨a, cap, rfl, h2, h3, h4⟩ := h
  clear h4
  generalize nlen 4294967296 x = n at *
  go_enter Tryd.func90, Tryd.ntmps90
  go_wp2_with fail
  (try simp only [Exit.inBlock, Exit.then])
  refine bodyPost_ret (results_nat_ok rfl _ _ (w.heap.size + 1) (.slice a n cap) rfl ?_) rfl ?_
  · go_simp
  · exact ⟨rfl, (Fr.alloc _ _).trans (Fr.alloc _ _)⟩

/-- The row behind a loop that goes down: the new digits from place t + j on, below it the old ones. -/
def rowW (x y t u j q : Nat) : Nat := if t + j ≤ q then dg 4294967296 (y / 2 ^ u) (q - t) else dg 4294967296 x q

set_option maxHeartbeats 2000000 in
set_option maxRecDepth 4000 in
theorem down_some (v : Value) (x k : Nat) (w : World) (hT : Tab w) (h : IsNat w v x) (hx0 : x ≠ 0) (hn : nlen 4294967296 x ≤ 100000000000) (k0 : 1 ≤ k) (k1 : k ≤ 9223372036854775807) :
    Calls Tryd.prog 90 #[v, .int .i64 k] w fun e w' => ∃ a c, e = .returned (.tuple #[.agg #[.slice a (nlen 4294967296 (x / 2 ^ k)) c], .bool (decide (x % 2 ^ k ≠ 0))]) ∧ IsNat w' (.agg #[.slice a (nlen 4294967296 (x / 2 ^ k)) c]) (x / 2 ^ k) ∧ Fr w w' := by
  have H := hide h
  have HT := hide hT
  obtain ⟨a, cap, rfl, h2, h3, h4⟩ := h
  clear h4 hT
  have hx := hide (lt_nlen b32 x)
  have hp := nlen_pos b32 hx0
  have HV := hide (down_val k hx.out)
  have HM := hide (mod_pow hx0 k)
  have HD := hide (drop_lt (s := min (k / 32) (nlen 4294967296 x)) hx.out (by omega))
  have hmin : min (k / 32) (nlen 4294967296 x) ≤ nlen 4294967296 x := by omega
  obtain ⟨t, ht⟩ : ∃ t, min (k / 32) (nlen 4294967296 x) = t := ⟨_, rfl⟩
  obtain ⟨s, hs⟩ : ∃ s, k / 32 = s := ⟨_, rfl⟩
  obtain ⟨u, hu⟩ : ∃ u, k % 32 = u := ⟨_, rfl⟩
  rw [ht, hu] at HV
  rw [ht] at HD hmin
  rw [hs] at ht
  have hu31 : u ≤ 31 := by omega
  have ek : (k : Int) / 32 = (s : Int) := by omega
  have eu : (k : Int) % 32 = (u : Int) := by omega
  clear hs hu
  go_enter Tryd.func90, Tryd.ntmps90
  go_wp2_with fail
  obtain ⟨W, hW⟩ : ∃ W, W = (w.alloc (Obj.cells #[Value.slice a (nlen 4294967296 x) cap] 78)).alloc (Obj.cells #[Value.slice none 0 0] 78) := ⟨_, rfl⟩
  have fW : Fr w W := by rw [hW]; exact (Fr.alloc _ _).trans (Fr.alloc _ _)
  have sW : W.heap.size = w.heap.size + 2 := by rw [hW]; simp
  have c2 : W.cell? ⟨w.heap.size, 0, none⟩ = some (.slice a (nlen 4294967296 x) cap) := by rw [hW]; simp [go_sem]
  have c4 : W.cell? ⟨w.heap.size + 1, 0, none⟩ = some (.slice none 0 0) := by rw [hW]; simp [go_sem]
  have z4 : W.frozen? ⟨w.heap.size + 1, 0, none⟩ = false := by rw [hW]; simp [go_sem]
  rw [← hW]
  clear hW
  refine (limbs_any _ x _ (IsNat.fr H.out fW) (by omega)).mono ?_
  rintro e w1 ⟨v1, rfl, o1, f1⟩
  obtain ⟨a1, c1, rfl, _, _, _⟩ := own_form o1
  obtain ⟨g, rfl, hg1, hg2, hc1, hc2, m1⟩ := own_mine o1 hp
  have z4 := fr_free f1 c4 z4
  have c4 := fr_cell f1 c4
  have c2 := fr_cell f1 c2
  have F := hide (fW.trans f1)
  have M1 := hide m1
  have hn0 : (0 : Int) < (nlen 4294967296 x : Int) := by omega
  clear fW f1 o1 m1
  go_wp2_with fail
  refine (noughts_any _ x _ (Tab.fr HT.out F.out) (IsNat.fr H.out F.out) hn).mono ?_
  rintro e w2 ⟨rfl, f2⟩
  have z4 := fr_free f2 c4 z4
  have c4 := fr_cell f2 c4
  have F := hide (F.out.trans f2)
  have M2 := hide (M1.out.fr f2)
  have hg2 := Nat.lt_of_lt_of_le hg2 f2.size
  clear f2 M1 H HT c2
  generalize nlen 4294967296 x = n at *
  generalize tz x = Z at *
  have hg0 : w.heap.size + 1 < g := by omega
  have HB : Hid (decide (Z < k) = decide (x % 2 ^ k ≠ 0)) := by
    unfold Hid
    exact decide_eq_decide.2 HM.out.symm
  by_cases hA : n ≤ s
  · have hq0 : x / 2 ^ k = 0 := by
      rw [HV.out, show t = n by omega, Nat.div_eq_of_lt hx.out, Nat.zero_div]
    have HQ := hide hq0
    clear hq0
    go_wp2_with fail
    all_goals (try (exfalso; omega))
    all_goals (
      refine wp_loop_rounds 1 ?_
      rw [rounds_succ]
      go_wp2_with fail
      refine (made_any 0 _ _ (dg 4294967296 0) 0 _ (by omega) (.inl rfl) (by decide) (fun j hj => rfl)).mono ?_
      rintro e w3 ⟨a3, c3, rfl, hl3, i3, f3⟩
      have z4 := fr_free f3 c4 z4
      have c4 := fr_cell f3 c4
      have I3 := hide i3
      have HL3 := hide hl3
      have FF := hide (F.out.trans f3)
      have s2 := F.out.size
      clear i3 hl3 f3
      unfold natVal
      go_wp2_with fail
      (try simp only [Exit.inBlock, Exit.then])
      refine bodyPost_ret (results_nat_ok rfl _ _ (w.heap.size + 1) (.slice (natA 0 a3) (nlen 4294967296 0) (natC 0 c3)) rfl ?_) rfl ?_
      · go_simp
      · rw [HQ.out, ← HB.out]
        refine ⟨_, _, rfl, ?_, Below.setCell FF.out (by simp) _⟩
        exact IsNat.put I3.out _ _ (fun g off s e => by have := HL3.out g off s (natA_some e); simp; omega))
  · obtain rfl : t = s := by omega
    obtain ⟨L, rfl⟩ : ∃ L, n = t + L := ⟨n - t, by omega⟩
    rw [Nat.add_sub_cancel_left] at HD
    obtain ⟨y, hy⟩ : ∃ y, x / 4294967296 ^ t = y := ⟨_, rfl⟩
    have HY : Hid (∀ j, dg 4294967296 y j = dg 4294967296 x (t + j)) := by
      unfold Hid; intro j; rw [← hy, dg_drop]
    rw [hy] at HV HD
    clear hy ht
    have hLp : 0 < L := by omega
    have hc1n : ¬ c1 = t := by omega
    have eL : ((t + L : Nat) : Int) = (t : Int) + L := by omega
    have hsub : (t + L - t) = L := by omega
    go_wp2_with fail
    all_goals (try (exfalso; omega))
    go_loopw [11, 12] (fun s11 s12 wr => ∃ j : Nat, j ≤ L ∧ s12 = .int .i64 ((j : Int) - 1) ∧ s11 = .int .u64 ((4294967296 * dg 4294967296 y (j + 1) + dg 4294967296 y j : Nat) : Int) ∧ Hid (Mine wr g (t + L) (rowW x y t u j)) ∧ Hid (Ex g w2 wr)) (fun _ s12 _ => (intOf s12 + 1).toNat)
    case atStart =>
      refine ⟨L, by omega, by go_num, ?_, ?_, Ex.refl _ _⟩
      · rw [dg_out HD.out, dg_out (Nat.lt_of_lt_of_le HD.out (Nat.pow_le_pow_right (by omega) (by omega)))]; rfl
      · intro q hq
        have := M2.out q hq
        rwa [rowW, if_neg (by omega)]
    case round =>
      obtain ⟨j, hj, rfl, rfl, hrw, hE⟩ := hrel
      by_cases c0 : j = 0
      · subst c0
        have CR : Hid (Cs .u32 wr (some ⟨g, t, none⟩) L (dg 4294967296 (x / 2 ^ k))) := by
          refine .inr ⟨g, t, rfl, Nat.lt_of_lt_of_le hg2 hE.out.2.2.2.1, fun q hq => ?_⟩
          have := (hrw.out (t + q) (by omega)).1
          rwa [rowW, if_pos (by omega), Nat.add_sub_cancel_left, ← HV.out] at this
        have HL : Hid (x / 2 ^ k < 4294967296 ^ L) := by
          unfold Hid; rw [HV.out]; exact Nat.lt_of_le_of_lt (Nat.div_le_self _ _) HD.out
        have z4 := hE.out.free c4 z4 (by simp; omega)
        have c4 := hE.out.cell c4 (by simp; omega)
        have FR := hide (hE.out.fr F.out (by omega))
        clear hrw
        go_wp2_with fail
        refine (made_any L (c1 - t) (some ⟨g, t, none⟩) _ (x / 2 ^ k) _ (by omega) CR.out HL.out (fun j _ => rfl)).mono ?_
        rintro e w3 ⟨a3, c3, rfl, hl3, i3, f3⟩
        have z4 := fr_free f3 c4 z4
        have c4 := fr_cell f3 c4
        have I3 := hide i3
        have HL3 := hide hl3
        have FF := hide (FR.out.trans f3)
        have s2 := hE.out.2.2.2.1
        clear i3 hl3 f3
        unfold natVal
        go_wp2_with fail
        (try simp only [Exit.inBlock, Exit.then])
        refine bodyPost_ret (results_nat_ok rfl _ _ (w.heap.size + 1) (.slice (natA (x / 2 ^ k) a3) (nlen 4294967296 (x / 2 ^ k)) (natC (x / 2 ^ k) c3)) rfl ?_) rfl ?_
        · go_simp
        · rw [← HB.out]
          refine ⟨_, _, rfl, ?_, Below.setCell FF.out (by simp) _⟩
          exact IsNat.put I3.out _ _ (fun g off s e => by have := HL3.out g off s (natA_some e); simp; omega)
      · obtain ⟨j, rfl⟩ : ∃ i, j = i + 1 := ⟨j - 1, by omega⟩
        have e0 : ((j + 1 : Nat) : Int) - 1 = (j : Int) := by omega
        rw [e0]
        clear e0
        have hst := lower_step y u j hu31
        have l2 := dg_lt b32 y (j + 1 + 1)
        have l1 := dg_lt b32 y (j + 1)
        have l0 := dg_lt b32 y j
        have lq := dg_lt b32 (y / 2 ^ u) j
        obtain ⟨hcx, hfz⟩ := hrw.out (t + j) (by omega)
        rw [rowW, if_neg (by omega), ← HY.out j] at hcx
        obtain ⟨Wd, hWd⟩ : ∃ Wd, 4294967296 * dg 4294967296 y (j + 1 + 1) + dg 4294967296 y (j + 1) = Wd := ⟨_, rfl⟩
        obtain ⟨We, hWe⟩ : ∃ We, 4294967296 * dg 4294967296 y (j + 1) + dg 4294967296 y j = We := ⟨_, rfl⟩
        have v0 : IntKind.u64.wrap (IntKind.u64.wrap ((Wd : Int) * 4294967296) + (dg 4294967296 y j : Int)) = (We : Int) := by
          rw [IntKind.wrap_u64, IntKind.wrap_u64]; omega
        have hWb : Wd < 18446744073709551616 := by omega
        have hWc : We < 18446744073709551616 := by omega
        rw [hWe] at hst
        rw [hWd]
        have HWe := hide hWe
        have HST := hide hst
        clear hWd hWe hst
        go_wp2_with fail
        go_roundw
        case rel =>
          refine ⟨j, by omega, by go_num, ?_, ?_, ?_⟩
          · rw [HWe.out]
          · refine hrw.out.set (t + j) (by omega) _ ?_ ?_
            · rw [rowW, if_pos (by omega), Nat.add_sub_cancel_left, HST.out]; simp
            · intro q hq hne
              unfold rowW
              by_cases h1 : t + (j + 1) ≤ q
              · rw [if_pos h1, if_pos (by omega)]
              · rw [if_neg h1, if_neg (by omega)]
          · exact hE.out.set _ _
        case measure => simp [intOf]

set_option maxHeartbeats 1000000 in
set_option maxRecDepth 4000 in
theorem down_zero (v : Value) (k : Nat) (w : World) (h : IsNat w v 0) (k0 : 1 ≤ k) (k1 : k ≤ 9223372036854775807) :
    Calls Tryd.prog 90 #[v, .int .i64 k] w fun e w' => ∃ a c, e = .returned (.tuple #[.agg #[.slice a (nlen 4294967296 0) c], .bool false]) ∧ IsNat w' (.agg #[.slice a (nlen 4294967296 0) c]) 0 ∧ Fr w w' := by
  have H := hide h
  obtain ⟨a, cap, rfl, h2, h3, h4⟩ := h
  clear h4
  rw [nlen_zero] at h2 H ⊢
  obtain ⟨s, hs⟩ : ∃ s, k / 32 = s := ⟨_, rfl⟩
  obtain ⟨u, hu⟩ : ∃ u, k % 32 = u := ⟨_, rfl⟩
  have ek : (k : Int) / 32 = (s : Int) := by omega
  have eu : (k : Int) % 32 = (u : Int) := by omega
  clear hs hu
  go_enter Tryd.func90, Tryd.ntmps90
  go_wp2_with fail
  obtain ⟨W, hW⟩ : ∃ W, W = (w.alloc (Obj.cells #[Value.slice a 0 cap] 78)).alloc (Obj.cells #[Value.slice none 0 0] 78) := ⟨_, rfl⟩
  have fW : Fr w W := by rw [hW]; exact (Fr.alloc _ _).trans (Fr.alloc _ _)
  have c4 : W.cell? ⟨w.heap.size + 1, 0, none⟩ = some (.slice none 0 0) := by rw [hW]; simp [go_sem]
  have z4 : W.frozen? ⟨w.heap.size + 1, 0, none⟩ = false := by rw [hW]; simp [go_sem]
  rw [← hW]
  clear hW
  refine (limbs_any _ 0 _ (IsNat.fr H.out fW) (by rw [nlen_zero]; omega)).mono ?_
  rintro e w1 ⟨v1, rfl, o1, f1⟩
  rw [nlen_zero] at o1
  have hv : ∃ a1 c1, v1 = .slice a1 0 c1 ∧ c1 ≤ maxLen ∧ (a1 = none → c1 = 0) := by
    rcases o1.2 with ⟨rfl, _⟩ | ⟨g, cap, cur, rfl, hb, hh, h1, h2, _⟩
    · exact ⟨_, _, rfl, by omega, fun _ => rfl⟩
    · exact ⟨_, _, rfl, h2, fun e => by cases e⟩
  obtain ⟨a1, c1, rfl, hc1, hc0⟩ := hv
  have z4 := fr_free f1 c4 z4
  have c4 := fr_cell f1 c4
  have F := hide (fW.trans f1)
  clear fW f1 o1 H
  unfold maxLen at hc1
  have hmk : ∀ (wv : World) (p : Option Addr) (c : Nat), Hid (Calls Tryd.prog 72 #[.slice p 0 c] wv fun e w' => ∃ a' cap', e = .returned (natVal 0 a' cap') ∧ (∀ g off s, a' = some ⟨g, off, s⟩ → wv.heap.size < g) ∧ IsNat w' (natVal 0 a' cap') 0 ∧ Fr wv w') :=
    fun wv p c => made_any 0 c p (dg 4294967296 0) 0 wv (by omega) (.inl rfl) (by decide) (fun j hj => rfl)
  have HMK := hide hmk
  clear hmk
  rcases a1 with _ | ad
  · obtain rfl := hc0 rfl
    clear hc0
    go_wp2_with fail
    all_goals (try (exfalso; omega))
    all_goals (
      refine wp_loop_rounds 1 ?_
      rw [rounds_succ]
      go_wp2_with fail
      refine (HMK.out _ _ _).out.mono ?_
      rintro e w3 ⟨a3, c3, rfl, hl3, i3, f3⟩
      have z4 := fr_free f3 c4 z4
      have c4 := fr_cell f3 c4
      have I3 := hide i3
      have HL3 := hide hl3
      have FF := hide (F.out.trans f3)
      have s2 := cell_lt (by assumption : w1.cell? ⟨w.heap.size + 1, 0, none⟩ = _)
      simp only [] at s2
      clear i3 hl3 f3
      unfold natVal
      rw [nlen_zero]
      go_wp2_with fail
      (try simp only [Exit.inBlock, Exit.then])
      refine bodyPost_ret (results_nat_ok rfl _ _ (w.heap.size + 1) (.slice (natA 0 a3) 0 (natC 0 c3)) rfl ?_) rfl ?_
      · go_simp
      · refine ⟨_, _, rfl, ?_, Below.setCell FF.out (by simp) _⟩
        have := I3.out
        unfold natVal at this
        rw [nlen_zero] at this
        exact IsNat.put this _ _ (fun g off s e => by have := HL3.out g off s (natA_some e); simp; omega))
  · clear hc0
    obtain ⟨g, off, sp⟩ := ad
    go_wp2_with fail
    all_goals (try (exfalso; omega))
    all_goals (
      refine wp_loop_rounds 1 ?_
      rw [rounds_succ]
      go_wp2_with fail
      refine (HMK.out _ _ _).out.mono ?_
      rintro e w3 ⟨a3, c3, rfl, hl3, i3, f3⟩
      have z4 := fr_free f3 c4 z4
      have c4 := fr_cell f3 c4
      have I3 := hide i3
      have HL3 := hide hl3
      have FF := hide (F.out.trans f3)
      have s2 := cell_lt (by assumption : w1.cell? ⟨w.heap.size + 1, 0, none⟩ = _)
      simp only [] at s2
      clear i3 hl3 f3
      unfold natVal
      rw [nlen_zero]
      go_wp2_with fail
      (try simp only [Exit.inBlock, Exit.then])
      refine bodyPost_ret (results_nat_ok rfl _ _ (w.heap.size + 1) (.slice (natA 0 a3) 0 (natC 0 c3)) rfl ?_) rfl ?_
      · go_simp
      · refine ⟨_, _, rfl, ?_, Below.setCell FF.out (by simp) _⟩
        have := I3.out
        unfold natVal at this
        rw [nlen_zero] at this
        exact IsNat.put this _ _ (fun g off s e => by have := HL3.out g off s (natA_some e); simp; omega))

theorem down_any (v : Value) (x : Nat) (k : Int) (w : World) (hT : Tab w) (h : IsNat w v x) (hn : nlen 4294967296 x ≤ 100000000000) (k0 : -9223372036854775808 ≤ k) (k1 : k ≤ 9223372036854775807) :
    Calls Tryd.prog 90 #[v, .int .i64 k] w fun e w' => ∃ a c, e = .returned (.tuple #[.agg #[.slice a (nlen 4294967296 (x / 2 ^ k.toNat)) c], .bool (decide (x % 2 ^ k.toNat ≠ 0))]) ∧ IsNat w' (.agg #[.slice a (nlen 4294967296 (x / 2 ^ k.toNat)) c]) (x / 2 ^ k.toNat) ∧ Fr w w' := by
  by_cases c : k ≤ 0
  · refine (down_none v x k w h k0 c).mono ?_
    rintro e w' ⟨rfl, f⟩
    have e0 : x / 2 ^ k.toNat = x := by rw [show k.toNat = 0 by omega, Nat.pow_zero, Nat.div_one]
    have e1 : decide (x % 2 ^ k.toNat ≠ 0) = false := by rw [show k.toNat = 0 by omega, Nat.pow_zero, Nat.mod_one]; rfl
    rw [e0, e1]
    have h' := h.fr f
    obtain ⟨a, cap, rfl, _⟩ := h
    exact ⟨a, cap, rfl, h', f⟩
  · by_cases hx : x = 0
    · subst hx
      have := down_zero v k.toNat w h (by omega) (by omega)
      rw [Int.toNat_of_nonneg (by omega)] at this
      have e1 : decide (0 % 2 ^ k.toNat ≠ 0) = false := by rw [Nat.zero_mod]; rfl
      rw [Nat.zero_div, e1]
      exact this
    · have := down_some v x k.toNat w hT h hx hn (by omega) (by omega)
      rwa [Int.toNat_of_nonneg (by omega)] at this

theorem nlen_pow {x n : Nat} (h : nlen 4294967296 x ≤ n) : ∀ j, nlen 4294967296 (x ^ j) ≤ n * j + 1 := by
  intro j
  induction j with
  | zero => rw [Nat.pow_zero, nl1]; omega
  | succ j ih =>
    rw [Nat.pow_succ]
    have := nlen_mul b32 ih h
    rw [Nat.mul_succ]
    omega
theorem nlten : nlen 4294967296 10 = 1 := nlen_eq b32 (by decide) (.inr (by decide))

set_option maxHeartbeats 1000000 in
set_option maxRecDepth 4000 in
theorem ten_any (k : Int) (w : World) (k0 : -9223372036854775808 ≤ k) (k1 : k ≤ 100000) :
    Calls Tryd.prog 55 #[.int .i64 k] w fun e w' => ∃ a c, e = .returned (.agg #[.slice a (nlen 4294967296 (10 ^ k.toNat)) c]) ∧ IsNat w' (.agg #[.slice a (nlen 4294967296 (10 ^ k.toNat)) c]) (10 ^ k.toNat) ∧ Fr w w' := by
  have HB : Hid (∀ j, j ≤ max 1 k.toNat → nlen 4294967296 (10 ^ j) ≤ 100000000000) := by
    unfold Hid
    intro j hj
    have := nlen_pow (x := 10) (n := 1) (by rw [nlten]; omega) j
    omega
  go_enter Tryd.func55, Tryd.ntmps55
  go_wp2_with fail
  refine (of_int 10 _ (by omega) (by omega)).mono ?_
  rintro e w1 ⟨a1, c1, rfl, h1, _, f1⟩
  have H1 := hide h1
  have z4 := var_free f1
  have c4 := var_cell f1
  have F := hide ((Fr.alloc _ _).trans f1)
  clear f1 h1
  go_wp2_with fail
  refine (pow_any k.toNat k _ _ _ (Nat.le_refl _) k0 (by omega) H1.out (by simpa using HB.out)).mono ?_
  rintro e w2 ⟨a2, c2, rfl, h2, l2, f2⟩
  have z4 := fr_free f2 c4 z4
  have c4 := fr_cell f2 c4
  have FF := hide (F.out.trans f2)
  have H2 := hide h2
  have L2 := hide l2
  have s1 := cell_lt (by assumption : w1.cell? ⟨w.heap.size, 0, none⟩ = _)
  simp only [] at s1
  clear h2 l2 f2
  rw [show (10 : Int).toNat = 10 by rfl] at *
  go_wp2_with fail
  (try simp only [Exit.inBlock, Exit.then])
  refine bodyPost_ret (results_nat rfl _ _ w.heap.size (.slice a2 (nlen 4294967296 (10 ^ k.toNat)) c2) rfl ?_) rfl ?_
  · go_simp
  · refine ⟨_, _, rfl, ?_, Below.setCell FF.out (by simp) _⟩
    exact IsNat.put H2.out _ _ (fun g off s e => by have := L2.out g off s e; simp; omega)
theorem wsm {x : Nat} (h : x < 18446744073709551616) : nlen 4294967296 x ≤ 2 := nlen_le b32 h
theorem ofc_any (n : Int) (x : Nat) (w : World) (e : n = x) (h : x < 18446744073709551616) : Calls Tryd.prog 51 #[.int .u64 n] w fun e w' => ∃ a c, e = .returned (.agg #[.slice a (nlen 4294967296 x) c]) ∧ Res w w' a c x := by
  subst e
  have := of_int (x : Int) w (by omega) (by omega)
  rwa [Int.toNat_natCast] at this
/-- The same with the numbers told. -/
theorem tenc_any (k : Int) (P : Nat) (w : World) (h0 : 0 ≤ k) (h1 : k ≤ 100000) (e : 10 ^ k.toNat = P) :
    Calls Tryd.prog 55 #[.int .i64 k] w fun e w' => ∃ a c, e = .returned (.agg #[.slice a (nlen 4294967296 P) c]) ∧ IsNat w' (.agg #[.slice a (nlen 4294967296 P) c]) P ∧ Fr w w' := by
  subst e
  exact ten_any k w (by omega) h1
theorem upc_any (v : Value) (x : Nat) (k : Int) (P : Nat) (w : World) (h : IsNat w v x) (hn : nlen 4294967296 x ≤ 100000000000) (k0 : -9223372036854775808 ≤ k) (k1 : k ≤ 100000000000) (e : x * 2 ^ k.toNat = P) :
    Calls Tryd.prog 50 #[v, .int .i64 k] w fun e w' => ∃ a c, e = .returned (.agg #[.slice a (nlen 4294967296 P) c]) ∧ IsNat w' (.agg #[.slice a (nlen 4294967296 P) c]) P ∧ Fr w w' := by
  subst e
  exact up_any v x k w h hn k0 k1
theorem downc_any (v : Value) (x : Nat) (k : Int) (P : Nat) (b : Bool) (w : World) (hT : Tab w) (h : IsNat w v x) (hn : nlen 4294967296 x ≤ 100000000000) (k0 : -9223372036854775808 ≤ k) (k1 : k ≤ 9223372036854775807) (e : x / 2 ^ k.toNat = P) (eb : decide (x % 2 ^ k.toNat ≠ 0) = b) :
    Calls Tryd.prog 90 #[v, .int .i64 k] w fun e w' => ∃ a c, e = .returned (.tuple #[.agg #[.slice a (nlen 4294967296 P) c], .bool b]) ∧ IsNat w' (.agg #[.slice a (nlen 4294967296 P) c]) P ∧ Fr w w' := by
  subst e
  subst eb
  exact down_any v x k w hT h hn k0 k1
theorem noughtsc_any (v : Value) (x : Nat) (Z : Int) (w : World) (hT : Tab w) (h : IsNat w v x) (hn : nlen 4294967296 x ≤ 100000000000) (e : (tz x : Int) = Z) :
    Calls Tryd.prog 89 #[v] w fun e w' => e = .returned (.int .i64 Z) ∧ Fr w w' := by
  subst e
  exact noughts_any v x w hT h hn

end Go.Proofs.YtmaapdmbkhoigaaDoor
