/- Plain maths of rounding: to the next whole number, of two as near the greater one; decimals that are cut. -/
import Derived.Test.YthdgdomgcogpjaaDoorPackC
namespace Go.Proofs.YthdgdomgcogpjaaDoor
set_option linter.unusedVariables false

/-- The whole number next to a / b, of two as near the greater one. -/
def rndN (a b : Nat) : Nat := if a % b + a % b < b then a / b else a / b + 1

theorem rnd_unique {a b c : Nat} (hb : b ≠ 0) (h1 : 2 * (b * c) ≤ 2 * a + b) (h2 : 2 * a + b < 2 * (b * c) + 2 * b) : rndN a b = c := by
  have hd := Nat.div_add_mod a b
  have hm := Nat.mod_lt a (by omega : 0 < b)
  unfold rndN
  generalize a % b = r at *
  generalize a / b = q at *
  subst hd
  split
  · rename_i h
    rcases Nat.lt_trichotomy q c with k | k | k
    · obtain ⟨t, rfl⟩ : ∃ t, c = q + 1 + t := ⟨c - q - 1, by omega⟩
      have : b * (q + 1 + t) = b * q + b + b * t := by rw [Nat.mul_add, Nat.mul_add, Nat.mul_one]
      omega
    · exact k
    · obtain ⟨t, rfl⟩ : ∃ t, q = c + 1 + t := ⟨q - c - 1, by omega⟩
      have : b * (c + 1 + t) = b * c + b + b * t := by rw [Nat.mul_add, Nat.mul_add, Nat.mul_one]
      omega
  · rename_i h
    rcases Nat.lt_trichotomy (q + 1) c with k | k | k
    · obtain ⟨t, rfl⟩ : ∃ t, c = q + 1 + 1 + t := ⟨c - q - 2, by omega⟩
      have : b * (q + 1 + 1 + t) = b * q + b + b + b * t := by rw [Nat.mul_add, Nat.mul_add, Nat.mul_add, Nat.mul_one]
      omega
    · exact k
    · obtain ⟨t, rfl⟩ : ∃ t, q = c + t := ⟨q - c, by omega⟩
      have : b * (c + t) = b * c + b * t := Nat.mul_add _ _ _
      omega
theorem rnd_spec {a b : Nat} (hb : b ≠ 0) : 2 * (b * rndN a b) ≤ 2 * a + b ∧ 2 * a + b < 2 * (b * rndN a b) + 2 * b := by
  have hd := Nat.div_add_mod a b
  have hm := Nat.mod_lt a (by omega : 0 < b)
  unfold rndN
  generalize a % b = r at *
  generalize a / b = q at *
  subst hd
  split
  · omega
  · have : b * (q + 1) = b * q + b := by rw [Nat.mul_add, Nat.mul_one]
    omega
theorem rnd_scale {a b k : Nat} (hb : b ≠ 0) (hk : k ≠ 0) : rndN (a * k) (b * k) = rndN a b := by
  obtain ⟨h1, h2⟩ := rnd_spec (a := a) hb
  generalize rndN a b = c at *
  have e1 : 2 * (b * k * c) = 2 * (b * c) * k := by ac_rfl
  have e2 : 2 * (a * k) + b * k = (2 * a + b) * k := by rw [Nat.add_mul]; ac_rfl
  have e3 : 2 * (b * k * c) + 2 * (b * k) = (2 * (b * c) + 2 * b) * k := by rw [Nat.add_mul, e1]; ac_rfl
  refine rnd_unique (Nat.mul_ne_zero hb hk) ?_ ?_
  · rw [e1, e2]; exact Nat.mul_le_mul_right k h1
  · rw [e2, e3]; exact Nat.mul_lt_mul_of_pos_right h2 (by omega)
theorem rnd_same {a b a' b' : Nat} (hb : b ≠ 0) (hb' : b' ≠ 0) (e : a * b' = a' * b) : rndN a b = rndN a' b' := by
  rw [← rnd_scale (a := a) hb hb', ← rnd_scale (a := a') hb' hb, e, Nat.mul_comm b b']
theorem rnd_whole {q b : Nat} (hb : b ≠ 0) : rndN (q * b) b = q := by
  refine rnd_unique hb ?_ ?_
  · have : b * q = q * b := Nat.mul_comm _ _
    omega
  · have : b * q = q * b := Nat.mul_comm _ _
    omega
theorem rnd_one (q : Nat) : rndN q 1 = q := by have := rnd_whole (q := q) (b := 1) (by omega); rwa [Nat.mul_one] at this
/-- No multiple of b is nearer to a than the one that is told. -/
theorem rnd_near {a b : Nat} (hb : b ≠ 0) (j : Nat) : (a - b * rndN a b) + (b * rndN a b - a) ≤ (a - b * j) + (b * j - a) := by
  obtain ⟨h1, h2⟩ := rnd_spec (a := a) hb
  generalize rndN a b = c at *
  rcases Nat.lt_trichotomy j c with k | k | k
  · obtain ⟨t, rfl⟩ : ∃ t, c = j + 1 + t := ⟨c - j - 1, by omega⟩
    have : b * (j + 1 + t) = b * j + b + b * t := by rw [Nat.mul_add, Nat.mul_add, Nat.mul_one]
    omega
  · subst k; exact Nat.le_refl _
  · obtain ⟨t, rfl⟩ : ∃ t, j = c + 1 + t := ⟨j - c - 1, by omega⟩
    have : b * (c + 1 + t) = b * c + b + b * t := by rw [Nat.mul_add, Nat.mul_add, Nat.mul_one]
    omega
/-- Half a step at most; below it less than that. -/
theorem rnd_half {a b : Nat} (hb : b ≠ 0) : 2 * ((a - b * rndN a b) + (b * rndN a b - a)) ≤ b ∧ (2 * ((a - b * rndN a b) + (b * rndN a b - a)) = b → a < b * rndN a b) := by
  obtain ⟨h1, h2⟩ := rnd_spec (a := a) hb
  generalize rndN a b = c at *
  constructor <;> omega
theorem rnd_mono {a a' b : Nat} (hb : b ≠ 0) (h : a ≤ a') : rndN a b ≤ rndN a' b := by
  obtain ⟨h1, h2⟩ := rnd_spec (a := a) hb
  obtain ⟨h3, h4⟩ := rnd_spec (a := a') hb
  generalize rndN a b = c at *
  generalize rndN a' b = c' at *
  rcases Nat.lt_or_ge c' c with k | k
  · obtain ⟨t, rfl⟩ : ∃ t, c = c' + 1 + t := ⟨c - c' - 1, by omega⟩
    have : b * (c' + 1 + t) = b * c' + b + b * t := by rw [Nat.mul_add, Nat.mul_add, Nat.mul_one]
    omega
  · exact k
theorem rnd_le {a b q : Nat} (hb : b ≠ 0) (h : a ≤ q * b) : rndN a b ≤ q := by
  have := rnd_mono hb h
  rwa [rnd_whole hb] at this
theorem le_rnd {a b q : Nat} (hb : b ≠ 0) (h : q * b ≤ a) : q ≤ rndN a b := by
  have := rnd_mono hb h
  rwa [rnd_whole hb] at this

/-- Decimals D, cut behind the n last ones, carried where the first one that falls is 5 or more. -/
theorem cut_rnd (D n : Nat) : D / 10 ^ (n + 1) + (if 5 ≤ dg 10 D n then 1 else 0) = rndN D (10 ^ (n + 1)) := by
  have hp : 0 < 10 ^ n := Nat.pow_pos (by omega)
  have e : 10 ^ (n + 1) = 10 ^ n * 10 := Nat.pow_succ 10 n
  have hd := Nat.div_add_mod D (10 ^ n * 10)
  have hm := Nat.mod_lt D (by omega : 0 < 10 ^ n * 10)
  have hdg : dg 10 D n = D % (10 ^ n * 10) / 10 ^ n := by
    unfold dg
    rw [Nat.mod_mul_right_div_self]
  rw [e, hdg]
  unfold rndN
  have hr := Nat.div_add_mod (D % (10 ^ n * 10)) (10 ^ n)
  have hs := Nat.mod_lt (D % (10 ^ n * 10)) hp
  generalize D % (10 ^ n * 10) = r at *
  generalize r / 10 ^ n = u at *
  generalize r % 10 ^ n = v at *
  generalize 10 ^ n = T at *
  by_cases c : 5 ≤ u
  · rw [if_pos c, if_neg]
    have : T * u ≥ T * 5 := Nat.mul_le_mul_left T c
    omega
  · rw [if_neg c, if_pos]
    · omega
    · have : T * u ≤ T * 4 := Nat.mul_le_mul_left T (by omega)
      omega

/-- D decimals with k behind the point, rounded to p of them: as many steps of 10 to -p. -/
theorem cut_fewer {D k p : Nat} (h : p < k) : rndN (D * 10 ^ p) (10 ^ k) = rndN D (10 ^ (k - p)) := by
  have hp : 10 ^ p ≠ 0 := Nat.ne_of_gt (Nat.pow_pos (by omega))
  have hq : 10 ^ (k - p) ≠ 0 := Nat.ne_of_gt (Nat.pow_pos (by omega))
  rw [← rnd_scale (a := D) hq hp, ← Nat.pow_add, Nat.sub_add_cancel (by omega)]
theorem cut_more {D k p : Nat} (h : k ≤ p) : rndN (D * 10 ^ p) (10 ^ k) = D * 10 ^ (p - k) := by
  have hk : 10 ^ k ≠ 0 := Nat.ne_of_gt (Nat.pow_pos (by omega))
  have e : D * 10 ^ p = D * 10 ^ (p - k) * 10 ^ k := by rw [Nat.mul_assoc, ← Nat.pow_add, Nat.sub_add_cancel h]
  rw [e, rnd_whole hk]

/-- Rounded to n digits: what is told lies between 10 to n - 1 and 10 to n. -/
theorem to_bounds {a b n : Nat} (hb : b ≠ 0) (h1 : 10 ^ n * b ≤ a) (h2 : a < 10 ^ (n + 1) * b) : 10 ^ n ≤ rndN a b ∧ rndN a b ≤ 10 ^ (n + 1) := ⟨le_rnd hb h1, rnd_le hb (Nat.le_of_lt h2)⟩

/-- The power of ten of a quotient's first digit is told by one place alone. -/
theorem exp_unique {a b : Nat} {e f : Int} (hb : b ≠ 0) (h1 : b * 10 ^ e.toNat ≤ a * 10 ^ (-e).toNat) (h2 : a * 10 ^ (-(e + 1)).toNat < b * 10 ^ (e + 1).toNat) (h3 : b * 10 ^ f.toNat ≤ a * 10 ^ (-f).toNat) (h4 : a * 10 ^ (-(f + 1)).toNat < b * 10 ^ (f + 1).toNat) : e = f := by
  have key : ∀ e f : Int, e < f → a * 10 ^ (-(e + 1)).toNat < b * 10 ^ (e + 1).toNat → b * 10 ^ f.toNat ≤ a * 10 ^ (-f).toNat → False := by
    intro e f hef h2 h3
    obtain ⟨t, ht⟩ : ∃ t : Nat, f = e + 1 + t := ⟨(f - e - 1).toNat, by omega⟩
    have hP : ∀ k : Nat, 0 < 10 ^ k := fun k => Nat.pow_pos (by omega)
    -- b * 10^(e+1)+ * 10^(-f)+ ≤ b * 10^f+ * 10^(-(e+1))+ ≤ a * 10^(-f)+ * 10^(-(e+1))+ < b * 10^(e+1)+ * 10^(-f)+
    have s1 : (e + 1).toNat + (-f).toNat ≤ f.toNat + (-(e + 1)).toNat := by omega
    have s2 : 10 ^ ((e + 1).toNat + (-f).toNat) ≤ 10 ^ (f.toNat + (-(e + 1)).toNat) := Nat.pow_le_pow_right (by omega) s1
    rw [Nat.pow_add, Nat.pow_add] at s2
    have m1 := hP (-f).toNat
    have m2 := hP (-(e + 1)).toNat
    generalize 10 ^ (e + 1).toNat = A1 at *
    generalize 10 ^ (-f).toNat = A2 at *
    generalize 10 ^ f.toNat = A3 at *
    generalize 10 ^ (-(e + 1)).toNat = A4 at *
    have i1 : b * (A1 * A2) ≤ b * (A3 * A4) := Nat.mul_le_mul_left b s2
    have i2 : b * A3 * A4 ≤ a * A2 * A4 := Nat.mul_le_mul_right A4 h3
    have i3 : a * A4 * A2 < b * A1 * A2 := Nat.mul_lt_mul_of_pos_right h2 m1
    have j1 : b * (A3 * A4) = b * A3 * A4 := by ac_rfl
    have j2 : a * A2 * A4 = a * A4 * A2 := by ac_rfl
    have j3 : b * (A1 * A2) = b * A1 * A2 := by ac_rfl
    omega
  rcases Int.lt_trichotomy e f with k | k | k
  · exact absurd (key e f k h2 h3) id
  · exact k
  · exact absurd (key f e k h4 h1) id
/-- It doesn't hang on the terms. -/
theorem exp_low {a b a' b' : Nat} {e : Int} (hb : b ≠ 0) (hb' : b' ≠ 0) (h : a * b' = a' * b) (h1 : b * 10 ^ e.toNat ≤ a * 10 ^ (-e).toNat) : b' * 10 ^ e.toNat ≤ a' * 10 ^ (-e).toNat := by
  generalize 10 ^ e.toNat = A at *
  generalize 10 ^ (-e).toNat = B at *
  have i1 : b * A * b' ≤ a * B * b' := Nat.mul_le_mul_right b' h1
  have j1 : a * B * b' = a' * B * b := by rw [show a * B * b' = a * b' * B by ac_rfl, h]; ac_rfl
  have j2 : b * A * b' = b' * A * b := by ac_rfl
  rw [j1, j2] at i1
  exact Nat.le_of_mul_le_mul_right i1 (by omega)
theorem exp_high {a b a' b' : Nat} {e : Int} (hb : b ≠ 0) (hb' : b' ≠ 0) (h : a * b' = a' * b) (h1 : a * 10 ^ (-e).toNat < b * 10 ^ e.toNat) : a' * 10 ^ (-e).toNat < b' * 10 ^ e.toNat := by
  rcases Nat.lt_or_ge (a' * 10 ^ (-e).toNat) (b' * 10 ^ e.toNat) with k | k
  · exact k
  · have := exp_low (a := a') (b := b') (a' := a) (b' := b) (e := e) hb' hb h.symm k
    omega
end Go.Proofs.YthdgdomgcogpjaaDoor
