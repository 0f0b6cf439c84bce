/- Long division, digit by digit: plain maths. -/
import Derived.Test.YtimglhbllcjpbaaDoorTimesP
namespace Go.Proofs.YtimglhbllcjpbaaDoor
set_option linter.unusedVariables false

theorem dg_plus {B p b m j : Nat} (hj : j < m) : dg B (p + b * B ^ m) j = dg B p j := by
  refine dg_congr ?_
  obtain ⟨d, rfl⟩ : ∃ d, m = j + 1 + d := ⟨m - (j + 1), by omega⟩
  rw [Nat.pow_add, show p + b * (B ^ (j + 1) * B ^ d) = p + B ^ (j + 1) * (b * B ^ d) by ac_rfl, Nat.add_mul_mod_self_left]
/-- A row times a limb, taken from a row: one place. -/
theorem take_step {B p q y k i N t b : Nat} (hB : 2 ≤ B) (h : q + k * B ^ i * y = p + b * B ^ (i + N + 1)) (ht : t ≤ N) :
    mcarry B q y k i t + (k * dg B y t + dg B q (i + t)) = dg B p (i + t) + B * mcarry B q y k i (t + 1) := by
  rw [mul_step hB, h, dg_plus (by omega)]
theorem take_end {B p q y k i N b : Nat} (hB : 2 ≤ B) (h : q + k * B ^ i * y = p + b * B ^ (i + N + 1)) (hp : p < B ^ (i + N + 1)) (hq : q < B ^ (i + N + 1)) (hy : y < B ^ N) : mcarry B q y k i (N + 1) = b := by
  unfold mcarry
  have hy' : y < B ^ (N + 1) := Nat.lt_of_lt_of_le hy (Nat.pow_le_pow_right (by omega) (by omega))
  rw [show i + (N + 1) = i + N + 1 by omega, Nat.mod_eq_of_lt hq, Nat.mod_eq_of_lt hy', h, Nat.add_mul_div_right _ _ (pow_pos' hB _), Nat.div_eq_of_lt hp, Nat.zero_add]
theorem take_low {B p q y k i N j b : Nat} (h : q + k * B ^ i * y = p + b * B ^ (i + N + 1)) (hj : j < i) : dg B q j = dg B p j := by
  rw [← mul_low (p := q) (y := y) (k := k) hj, h, dg_plus (by omega)]
theorem take_high {B p q i N j : Nat} (hB : 2 ≤ B) (hp : p < B ^ (i + N + 1)) (hq : q < B ^ (i + N + 1)) (hj : i + N < j) : dg B q j = dg B p j := by
  rw [dg_out (Nat.lt_of_lt_of_le hp (Nat.pow_le_pow_right (by omega) (by omega))), dg_out (Nat.lt_of_lt_of_le hq (Nat.pow_le_pow_right (by omega) (by omega)))]

/-- What is left of p less m, wrapped round at T. -/
def wrapv (T p m : Nat) : Nat := if m ≤ p then p - m else p + T - m
def wrapb (p m : Nat) : Nat := if m ≤ p then 0 else 1
theorem wrapv_lt {T p m : Nat} (hp : p < T) (hm : m ≤ T) : wrapv T p m < T := by unfold wrapv; split <;> omega
theorem wrapv_eq {T p m : Nat} (hm : m ≤ T) : wrapv T p m + m = p + wrapb p m * T := by
  unfold wrapv wrapb; split
  · omega
  · omega
theorem wrapv_back {T p m s : Nat} (hp : p < T) (hm : m + s ≤ T) (h : p < m + s) : wrapv T p (m + s) + s = wrapv T p m + (1 - wrapb p m) * T := by
  unfold wrapv wrapb
  rw [if_neg (by omega)]
  split
  · omega
  · omega
/-- A digit that is guessed is never too small. -/
theorem guess_ge {B p y i N : Nat} (hB : 2 ≤ B) (hp : p < B ^ (i + N + 1 + 1)) (hy : y < B ^ (N + 1)) (hy0 : B ^ N ≤ y) (h : p < B ^ i * y * B) :
    p / (B ^ i * y) ≤ min ((dg B p (i + N + 1) * B + dg B p (i + N)) / dg B y N) (B - 1) := by
  have e1 : dg B y N = y / B ^ N := by
    unfold dg
    exact Nat.mod_eq_of_lt ((Nat.div_lt_iff_lt_mul (pow_pos' hB N)).2 (by rw [Nat.pow_succ, Nat.mul_comm] at hy; exact hy))
  have e2 : dg B p (i + N + 1) * B + dg B p (i + N) = p / B ^ (i + N) := by
    rw [div_step hB p (i + N)]
    have : dg B p (i + N + 1) = p / B ^ (i + N + 1) := by
      unfold dg
      exact Nat.mod_eq_of_lt ((Nat.div_lt_iff_lt_mul (pow_pos' hB _)).2 (by rw [Nat.pow_succ, Nat.mul_comm] at hp; exact hp))
    rw [this, Nat.mul_comm]
  rw [e1, e2]
  have hs : 0 < B ^ i * y := Nat.mul_pos (pow_pos' hB i) (Nat.lt_of_lt_of_le (pow_pos' hB N) hy0)
  obtain ⟨q, hq⟩ : ∃ q, p / (B ^ i * y) = q := ⟨_, rfl⟩
  have h1 : q * (B ^ i * y) ≤ p := by rw [← hq]; exact Nat.div_mul_le_self _ _
  have h2 : q < B := by rw [← hq, Nat.div_lt_iff_lt_mul hs, Nat.mul_comm]; exact h
  rw [hq]
  refine Nat.le_min.2 ⟨?_, by omega⟩
  have h3 : 0 < y / B ^ N := Nat.div_pos hy0 (pow_pos' hB N)
  rw [Nat.le_div_iff_mul_le h3, Nat.le_div_iff_mul_le (pow_pos' hB _)]
  have h4 : y / B ^ N * B ^ N ≤ y := Nat.div_mul_le_self _ _
  have h5 : q * (y / B ^ N) * B ^ (i + N) = q * (B ^ i * (y / B ^ N * B ^ N)) := by rw [Nat.pow_add]; ac_rfl
  rw [h5]
  exact Nat.le_trans (Nat.mul_le_mul_left _ (Nat.mul_le_mul_left _ h4)) h1
theorem top_pos {B y N : Nat} (hB : 2 ≤ B) (hy : y < B ^ (N + 1)) (hy0 : B ^ N ≤ y) : 0 < dg B y N := by
  rcases Nat.eq_zero_or_pos (dg B y N) with h | h
  · have := lt_of_dg hy h; omega
  · exact h
/-- A round of the whole quotient. -/
theorem div_round_d {B : Nat} (x y i : Nat) : x % (B ^ (i + 1) * y) / (B ^ i * y) = dg B (x / y) i := by
  rw [show B ^ (i + 1) * y = B ^ i * y * B by rw [Nat.pow_succ]; ac_rfl, Nat.mod_mul_right_div_self]
  unfold dg
  rw [Nat.div_div_eq_div_mul, Nat.mul_comm y]
theorem div_round_r {B : Nat} (x y i : Nat) : x % (B ^ (i + 1) * y) % (B ^ i * y) = x % (B ^ i * y) := by
  rw [show B ^ (i + 1) * y = B ^ i * y * B by rw [Nat.pow_succ]; ac_rfl]
  exact Nat.mod_mul_right_mod _ _ _
theorem div_few {B x y n m : Nat} (hB : 2 ≤ B) (hx : x < B ^ (n + m)) (hy : B ^ n ≤ y) : x / y < B ^ m := by
  have hy0 : 0 < y := Nat.lt_of_lt_of_le (pow_pos' hB n) hy
  rw [Nat.div_lt_iff_lt_mul hy0]
  refine Nat.lt_of_lt_of_le hx ?_
  rw [Nat.pow_add, Nat.mul_comm]
  exact Nat.mul_le_mul_left _ hy

/-- A number raised by a power of two, in one limb more. -/
theorem raise_lt {x k N : Nat} (hx : x < 4294967296 ^ N) (hk : k < 4294967296) : x * k < 4294967296 ^ (N + 1) := by
  rw [Nat.pow_succ]
  rcases Nat.eq_zero_or_pos k with h | h
  · subst h; rw [Nat.mul_zero]; exact Nat.mul_pos (Nat.pow_pos (by omega)) (by omega)
  · exact Nat.mul_lt_mul_of_lt_of_le hx (by omega) (by omega)
theorem raise_top {x k N : Nat} (hx : x < 4294967296 ^ N) (hk : k < 4294967296) : tcarry 4294967296 x k N = dg 4294967296 (x * k) N := by
  rw [tcarry_end _ _ _ hx]
  unfold dg
  rw [Nat.mod_eq_of_lt]
  rw [Nat.div_lt_iff_lt_mul (Nat.pow_pos (by omega))]
  have := raise_lt hx hk
  rwa [Nat.pow_succ, Nat.mul_comm (4294967296 ^ N)] at this
theorem pow2_le {u : Nat} (h : u ≤ 31) : 2 ^ u ≤ 2147483648 := Nat.pow_le_pow_right (n := 2) (j := 31) (by decide) h
theorem raise_or {c d u : Nat} (hu : u ≤ 31) (hc : c < 2 ^ u) : c ||| d * 2 ^ u % 4294967296 = c + d * 2 ^ u % 4294967296 ∧ c + d * 2 ^ u % 4294967296 < 4294967296 := by
  have e : (4294967296 : Nat) = 2 ^ u * 2 ^ (32 - u) := by rw [← Nat.pow_add, show u + (32 - u) = 32 by omega]
  have e2 : d * 2 ^ u % 4294967296 = 2 ^ u * (d % 2 ^ (32 - u)) := by rw (config := {occs := .pos [1]}) [e]; rw [Nat.mul_comm d, Nat.mul_mod_mul_left]
  refine ⟨?_, ?_⟩
  · rw [e2, Nat.or_comm, ← Nat.two_pow_add_eq_or_of_lt hc, Nat.add_comm]
  · have h1 := Nat.mod_lt d (Nat.pow_pos (by omega) : 0 < 2 ^ (32 - u))
    have h2 : 2 ^ u * (d % 2 ^ (32 - u) + 1) ≤ 2 ^ u * 2 ^ (32 - u) := Nat.mul_le_mul_left _ h1
    rw [← e, Nat.mul_add, Nat.mul_one] at h2
    omega
theorem lower_step (x d i : Nat) (hd : d ≤ 31) : dg 4294967296 (x / 2 ^ d) i = (4294967296 * dg 4294967296 x (i + 1) + dg 4294967296 x i) / 2 ^ d % 4294967296 := by
  have e1 : x / 2 ^ d / 4294967296 ^ i = x / 4294967296 ^ i / 2 ^ d := by rw [Nat.div_div_eq_div_mul, Nat.div_div_eq_div_mul, Nat.mul_comm]
  have e2 : x / 4294967296 ^ (i + 1) = x / 4294967296 ^ i / 4294967296 := by rw [Nat.pow_succ, Nat.div_div_eq_div_mul]
  unfold dg
  rw [e1, e2]
  generalize x / 4294967296 ^ i = z
  have e3 : 4294967296 * (z / 4294967296 % 4294967296) + z % 4294967296 = z % (4294967296 * 4294967296) := by omega
  rw [e3]
  obtain ⟨e, he⟩ : ∃ e, (4294967296 : Nat) * 4294967296 = 2 ^ d * (4294967296 * e) := by
    refine ⟨2 ^ (32 - d), ?_⟩
    have : (4294967296 : Nat) = 2 ^ d * 2 ^ (32 - d) := by rw [← Nat.pow_add, show d + (32 - d) = 32 by omega]
    rw (config := {occs := .pos [2]}) [this]
    ac_rfl
  rw [he, Nat.mod_mul_right_div_self]
  exact (Nat.mod_mul_right_mod _ _ _).symm
/-- The divisor's last limb has all its bits. -/
theorem raise_fits (y N : Nat) (hy : y < 4294967296 ^ (N + 1)) (hy0 : 4294967296 ^ N ≤ y) (u t : Nat) (ht : nlen 2 (dg 4294967296 y N) = t) (hut : u + t = 32) (hb : nlen 2 y = N * 32 + t) : y * 2 ^ u < 4294967296 ^ (N + 1) := by
  have h1 := lt_nlen (B := 2) (by omega) y
  rw [hb] at h1
  have h2 : (4294967296 : Nat) ^ (N + 1) = 2 ^ (N * 32 + t) * 2 ^ u := by
    rw [← Nat.pow_add, show N * 32 + t + u = 32 * (N + 1) by omega, Nat.pow_mul]
  rw [h2]
  exact Nat.mul_lt_mul_of_pos_right h1 (Nat.pow_pos (by omega))
end Go.Proofs.YtimglhbllcjpbaaDoor
