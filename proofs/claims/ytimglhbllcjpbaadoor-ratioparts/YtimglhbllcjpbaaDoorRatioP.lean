/- Plain maths of quotients: lowest terms. -/
import Derived.Test.YtimglhbllcjpbaaDoorTensP
import Derived.Test.YtimglhbllcjpbaaDoorTimesP
import Derived.Test.YtimglhbllcjpbaaDoorNatD
namespace Go.Proofs.YtimglhbllcjpbaaDoor
set_option linter.unusedVariables false

/-- The lowest terms of n / d. -/
def rN (n d : Nat) : Nat := n / Nat.gcd n d
def rD (n d : Nat) : Nat := d / Nat.gcd n d
/-- The lower one as it is kept: 0 of 0. -/
def rZ (n d : Nat) : Nat := if n = 0 then 0 else rD n d

theorem gcd_pos_right {n d : Nat} (h : d ≠ 0) : 0 < Nat.gcd n d := Nat.gcd_pos_of_pos_right n (by omega)
theorem rN_mul {n d : Nat} : rN n d * Nat.gcd n d = n := Nat.div_mul_cancel (Nat.gcd_dvd_left n d)
theorem rD_mul {n d : Nat} : rD n d * Nat.gcd n d = d := Nat.div_mul_cancel (Nat.gcd_dvd_right n d)
theorem rD_pos {n d : Nat} (h : d ≠ 0) : rD n d ≠ 0 := by
  intro e
  have := @rD_mul n d
  rw [e, Nat.zero_mul] at this
  omega
theorem rN_zero {n d : Nat} (h : d ≠ 0) : rN n d = 0 ↔ n = 0 := by
  constructor
  · intro e
    have := @rN_mul n d
    rw [e, Nat.zero_mul] at this
    omega
  · rintro rfl; unfold rN; rw [Nat.zero_div]
theorem rD_zero {d : Nat} (h : d ≠ 0) : rD 0 d = 1 := by unfold rD; rw [Nat.gcd_zero_left]; exact Nat.div_self (by omega)
theorem rN_le (n d : Nat) : rN n d ≤ n := Nat.div_le_self _ _
theorem rD_le (n d : Nat) : rD n d ≤ d := Nat.div_le_self _ _
theorem rZ_le (n d : Nat) : rZ n d ≤ d := by unfold rZ; split; omega; exact rD_le n d
theorem rgcd {n d : Nat} (h : d ≠ 0) : Nat.gcd (rN n d) (rD n d) = 1 := by
  have hg := gcd_pos_right (n := n) h
  have h1 : Nat.gcd (rN n d * Nat.gcd n d) (rD n d * Nat.gcd n d) = Nat.gcd n d := by rw [rN_mul, rD_mul]
  rw [Nat.gcd_mul_right] at h1
  have h2 : Nat.gcd (rN n d) (rD n d) * Nat.gcd n d = 1 * Nat.gcd n d := by omega
  exact Nat.eq_of_mul_eq_mul_right hg h2
theorem rN_scale {n d k : Nat} (hk : k ≠ 0) : rN (n * k) (d * k) = rN n d := by
  unfold rN; rw [Nat.gcd_mul_right]; exact Nat.mul_div_mul_right _ _ (by omega)
theorem rD_scale {n d k : Nat} (hk : k ≠ 0) : rD (n * k) (d * k) = rD n d := by
  unfold rD; rw [Nat.gcd_mul_right]; exact Nat.mul_div_mul_right _ _ (by omega)
theorem rN_same {n d n' d' : Nat} (h : d ≠ 0) (h' : d' ≠ 0) (e : n * d' = n' * d) : rN n d = rN n' d' := by
  rw [← rN_scale (n := n) (d := d) h', ← rN_scale (n := n') (d := d') h, e, Nat.mul_comm d d']
theorem rD_same {n d n' d' : Nat} (h : d ≠ 0) (h' : d' ≠ 0) (e : n * d' = n' * d) : rD n d = rD n' d' := by
  rw [← rD_scale (n := n) (d := d) h', ← rD_scale (n := n') (d := d') h, e, Nat.mul_comm d d']
theorem same_nought {n d n' d' : Nat} (h : d ≠ 0) (h' : d' ≠ 0) (e : n * d' = n' * d) : n = 0 ↔ n' = 0 := by
  constructor
  · rintro rfl
    rw [Nat.zero_mul] at e
    rcases Nat.mul_eq_zero.1 e.symm with e | e
    · exact e
    · exact absurd e h
  · rintro rfl
    rw [Nat.zero_mul] at e
    rcases Nat.mul_eq_zero.1 e with e | e
    · exact e
    · exact absurd e h'
theorem rZ_same {n d n' d' : Nat} (h : d ≠ 0) (h' : d' ≠ 0) (e : n * d' = n' * d) : rZ n d = rZ n' d' := by
  have := same_nought h h' e
  unfold rZ
  by_cases c : n = 0
  · rw [if_pos c, if_pos (this.1 c)]
  · rw [if_neg c, if_neg (fun k => c (this.2 k)), rD_same h h' e]
theorem gcd_odd {u v k : Nat} (hu : u % 2 = 1) : Nat.gcd u (v * 2 ^ k) = Nat.gcd u v := by
  have h2 : Nat.Coprime 2 u := by
    unfold Nat.Coprime
    rw [Nat.gcd_rec, hu, Nat.gcd_one_left]
  have : Nat.Coprime (2 ^ k) u := Nat.Coprime.pow_left k h2
  exact this.gcd_mul_right_cancel_right v
theorem gcd_twos {u v a b : Nat} (hu : u % 2 = 1) (hv : v % 2 = 1) : Nat.gcd (u * 2 ^ a) (v * 2 ^ b) = Nat.gcd u v * 2 ^ (min a b) := by
  rcases Nat.le_total a b with h | h
  · obtain ⟨c, rfl⟩ : ∃ c, b = c + a := ⟨b - a, by omega⟩
    rw [Nat.pow_add, ← Nat.mul_assoc, Nat.gcd_mul_right, gcd_odd hu, Nat.min_eq_left (by omega)]
  · obtain ⟨c, rfl⟩ : ∃ c, a = c + b := ⟨a - b, by omega⟩
    rw [Nat.pow_add, ← Nat.mul_assoc, Nat.gcd_mul_right, Nat.gcd_comm, gcd_odd hv, Nat.gcd_comm, Nat.min_eq_right (by omega)]
theorem gcd_shared {x y : Nat} (hx : x ≠ 0) (hy : y ≠ 0) : Nat.gcd (x / 2 ^ tz x) (y / 2 ^ tz y) * 2 ^ (min (tz x) (tz y)) = Nat.gcd x y := by
  rw [← gcd_twos (down_odd hx) (down_odd hy)]
  rw [Nat.div_mul_cancel (Nat.dvd_of_mod_eq_zero (mod_own hx)), Nat.div_mul_cancel (Nat.dvd_of_mod_eq_zero (mod_own hy))]
theorem cmpZ_scale {x y k : Nat} (hk : k ≠ 0) : cmpZ (x * k) (y * k) = cmpZ x y := by
  unfold cmpZ
  have h1 : x * k < y * k ↔ x < y := Nat.mul_lt_mul_right (by omega)
  have h2 : x * k = y * k ↔ x = y := ⟨fun e => Nat.eq_of_mul_eq_mul_right (by omega) e, fun e => by rw [e]⟩
  simp only [h1, h2]
end Go.Proofs.YtimglhbllcjpbaaDoor
