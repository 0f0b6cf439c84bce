/- A row times a limb, added to a row from a place on: plain maths. -/
import Derived.Test.YtimglhbllcjpbaaDoorNatP
namespace Go.Proofs.YtimglhbllcjpbaaDoor
set_option linter.unusedVariables false

/-- The carry behind t limbs of y, times k, added to p from place i on. -/
def mcarry (B p y k i t : Nat) : Nat := (p % B ^ (i + t) + k * B ^ i * (y % B ^ t)) / B ^ (i + t)

theorem mcarry_zero (B p y k i : Nat) (hB : 2 ≤ B) : mcarry B p y k i 0 = 0 := by
  unfold mcarry
  rw [Nat.pow_zero, Nat.mod_one, Nat.mul_zero, Nat.add_zero, Nat.add_zero]
  exact Nat.div_eq_of_lt (Nat.mod_lt _ (pow_pos' hB i))
theorem mcarry_lt {B p y k i t : Nat} (hB : 2 ≤ B) (hk : k < B) : mcarry B p y k i t < B := by
  unfold mcarry
  have h1 := Nat.mod_lt p (pow_pos' hB (i + t))
  have h2 := Nat.mod_lt y (pow_pos' hB t)
  rw [Nat.div_lt_iff_lt_mul (pow_pos' hB _)]
  have h3 : k * B ^ i * (y % B ^ t) ≤ (B - 1) * B ^ i * B ^ t := Nat.mul_le_mul (Nat.mul_le_mul_right _ (by omega)) (by omega)
  rw [Nat.mul_assoc (B - 1), ← Nat.pow_add] at h3
  have h4 : B * B ^ (i + t) = (B - 1) * B ^ (i + t) + B ^ (i + t) := by
    have : B = (B - 1) + 1 := by omega
    rw (config := {occs := .pos [1]}) [this]
    rw [Nat.succ_mul]
  omega
theorem mul_step {B : Nat} (hB : 2 ≤ B) (p y k i t : Nat) :
    mcarry B p y k i t + (k * dg B y t + dg B p (i + t)) = dg B (p + k * B ^ i * y) (i + t) + B * mcarry B p y k i (t + 1) := by
  have hD := pow_pos' hB (i + t)
  obtain ⟨D, hDe⟩ : ∃ D, B ^ (i + t) = D := ⟨_, rfl⟩
  obtain ⟨S, hS⟩ : ∃ S, mcarry B p y k i t + (k * dg B y t + dg B p (i + t)) = S := ⟨_, rfl⟩
  obtain ⟨A, hA⟩ : ∃ A, p % B ^ (i + t) + k * B ^ i * (y % B ^ t) = A := ⟨_, rfl⟩
  have hc : mcarry B p y k i t = A / D := by unfold mcarry; rw [hA, hDe]
  have hn : p % B ^ (i + (t + 1)) + k * B ^ i * (y % B ^ (t + 1)) = A % D + D * S := by
    rw [show i + (t + 1) = i + t + 1 by omega, mod_step p (i + t), mod_step y t, Nat.mul_add, ← hS, hc]
    have e1 : k * B ^ i * (B ^ t * dg B y t) = D * (k * dg B y t) := by rw [← hDe, Nat.pow_add]; ac_rfl
    rw [e1]
    have e2 := Nat.div_add_mod A D
    rw [Nat.mul_add, Nat.mul_add, hDe]
    rw [hDe] at hA
    omega
  have hr := Nat.mod_lt A (hDe ▸ hD : 0 < D)
  have hc1 : mcarry B p y k i (t + 1) = S / B := by
    unfold mcarry
    rw [hn, show i + (t + 1) = i + t + 1 by omega, Nat.pow_succ, hDe, ← Nat.div_div_eq_div_mul, Nat.add_mul_div_left _ _ (by omega), Nat.div_eq_of_lt hr, Nat.zero_add]
  have hq : ∃ z, p + k * B ^ i * y = A % D + D * (S + B * z) := by
    refine ⟨p / B ^ (i + t + 1) + k * (y / B ^ (t + 1)), ?_⟩
    have e1 := Nat.div_add_mod p (B ^ (i + t + 1))
    have e2 := Nat.div_add_mod y (B ^ (t + 1))
    have e3 : k * B ^ i * y = k * B ^ i * (B ^ (t + 1) * (y / B ^ (t + 1))) + k * B ^ i * (y % B ^ (t + 1)) := by rw [← Nat.mul_add, e2]
    have e4 : k * B ^ i * (B ^ (t + 1) * (y / B ^ (t + 1))) = D * (B * (k * (y / B ^ (t + 1)))) := by generalize y / B ^ (t + 1) = u; rw [← hDe, Nat.pow_add B i t, Nat.pow_succ]; ac_rfl
    have e5 : B ^ (i + t + 1) * (p / B ^ (i + t + 1)) = D * (B * (p / B ^ (i + t + 1))) := by rw [Nat.pow_succ, hDe]; ac_rfl
    rw [show i + (t + 1) = i + t + 1 by omega] at hn
    rw [Nat.mul_add B, Nat.mul_add, Nat.mul_add]
    omega
  obtain ⟨z, hz⟩ := hq
  have hd : dg B (p + k * B ^ i * y) (i + t) = S % B := by
    unfold dg
    rw [hz, hDe, Nat.add_mul_div_left _ _ (by omega), Nat.div_eq_of_lt hr, Nat.zero_add, Nat.add_mul_mod_self_left]
  rw [hS, hd, hc1]
  have := Nat.div_add_mod S B
  omega
theorem mul_lt {B p y k i N : Nat} (hB : 2 ≤ B) (hp : p < B ^ (i + N)) (hy : y < B ^ N) (hk : k < B) : p + k * B ^ i * y < B ^ (i + N + 1) := by
  have h3 : k * B ^ i * y ≤ (B - 1) * B ^ i * B ^ N := Nat.mul_le_mul (Nat.mul_le_mul_right _ (by omega)) (by omega)
  rw [Nat.mul_assoc (B - 1), ← Nat.pow_add] at h3
  have h4 : B ^ (i + N) * B = (B - 1) * B ^ (i + N) + B ^ (i + N) := by
    have : B = (B - 1) + 1 := by omega
    rw [Nat.mul_comm]
    rw (config := {occs := .pos [1]}) [this]
    rw [Nat.succ_mul]
  rw [Nat.pow_succ]
  omega
theorem mul_end {B p y k i N : Nat} (hB : 2 ≤ B) (hp : p < B ^ (i + N)) (hy : y < B ^ N) (hk : k < B) : mcarry B p y k i N = dg B (p + k * B ^ i * y) (i + N) := by
  unfold mcarry dg
  rw [Nat.mod_eq_of_lt hp, Nat.mod_eq_of_lt hy, Nat.mod_eq_of_lt]
  rw [Nat.div_lt_iff_lt_mul (pow_pos' hB _), Nat.mul_comm B, ← Nat.pow_succ]
  exact mul_lt hB hp hy hk
theorem mul_low {B p y k i j : Nat} (hj : j < i) : dg B (p + k * B ^ i * y) j = dg B p j := by
  refine dg_congr ?_
  obtain ⟨d, rfl⟩ : ∃ d, i = j + 1 + d := ⟨i - (j + 1), by omega⟩
  rw [Nat.pow_add, show p + k * (B ^ (j + 1) * B ^ d) * y = p + B ^ (j + 1) * (k * B ^ d * y) by ac_rfl, Nat.add_mul_mod_self_left]
theorem mul_high {B p y k i N j : Nat} (hB : 2 ≤ B) (hp : p < B ^ (i + N)) (hy : y < B ^ N) (hk : k < B) (hj : i + N < j) : dg B (p + k * B ^ i * y) j = dg B p j := by
  rw [dg_out (Nat.lt_of_lt_of_le (mul_lt hB hp hy hk) (Nat.pow_le_pow_right (by omega) (by omega))), dg_out (Nat.lt_of_lt_of_le hp (Nat.pow_le_pow_right (by omega) (by omega)))]
/-- A round of the whole product. -/
theorem mul_round {B : Nat} (x y i : Nat) : x % B ^ i * y + dg B x i * B ^ i * y = x % B ^ (i + 1) * y := by
  rw [mod_step, Nat.add_mul, Nat.mul_comm (dg B x i)]
theorem part_lt {B : Nat} (hB : 2 ≤ B) (x y i N : Nat) (hy : y < B ^ N) : x % B ^ i * y < B ^ (i + N) := by
  rw [Nat.pow_add]
  have h1 := Nat.mod_lt x (pow_pos' hB i)
  rcases Nat.eq_zero_or_pos (x % B ^ i) with h | h
  · rw [h, Nat.zero_mul]; exact Nat.mul_pos (pow_pos' hB i) (pow_pos' hB N)
  · exact Nat.mul_lt_mul_of_lt_of_lt h1 hy
theorem nlen_mul {B x y n m : Nat} (hB : 2 ≤ B) (hx : nlen B x ≤ n) (hy : nlen B y ≤ m) : nlen B (x * y) ≤ n + m := by
  refine nlen_le hB ?_
  have := part_lt hB x y n m (lt_of_nlen hB hy)
  rwa [Nat.mod_eq_of_lt (lt_of_nlen hB hx)] at this
end Go.Proofs.YtimglhbllcjpbaaDoor
