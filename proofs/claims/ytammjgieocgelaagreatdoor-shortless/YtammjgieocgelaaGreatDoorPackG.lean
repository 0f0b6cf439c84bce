/- PackG: several texts in one. -/
import Derived.Test.YtammjgieocgelaaGreatDoorPackC
import Derived.Test.YtammjgieocgelaaGreatDoorPackE
import Derived.Test.YtammjgieocgelaaGreatDoorPackF
import Derived.Test.YtammjgieocgelaaGreatDoorPackD
/- Plain maths of rounding: to the next whole number, of two as near the greater one; decimals that are cut. -/
namespace Go.Proofs.YtammjgieocgelaaGreatDoor
set_option linter.unusedVariables false

/-- The whole number next to a / b, of two as near the greater one. -/
def rndN (a b : Nat) : Nat := if a % b + a % b < b then a / b else a / b + 1

theorem rnd_unique {a b c : Nat} (hb : b ≠ 0) (h1 : 2 * (b * c) ≤ 2 * a + b) (h2 : 2 * a + b < 2 * (b * c) + 2 * b) : rndN a b = c := by
  have hd := Nat.div_add_mod a b
  have hm := Nat.mod_lt a (by omega : 0 < b)
  unfold rndN
  generalize a % b = r at *
  generalize a / b = q at *
  subst hd
  split
  · rename_i h
    rcases Nat.lt_trichotomy q c with k | k | k
    · obtain ⟨t, rfl⟩ : ∃ t, c = q + 1 + t := ⟨c - q - 1, by omega⟩
      have : b * (q + 1 + t) = b * q + b + b * t := by rw [Nat.mul_add, Nat.mul_add, Nat.mul_one]
      omega
    · exact k
    · obtain ⟨t, rfl⟩ : ∃ t, q = c + 1 + t := ⟨q - c - 1, by omega⟩
      have : b * (c + 1 + t) = b * c + b + b * t := by rw [Nat.mul_add, Nat.mul_add, Nat.mul_one]
      omega
  · rename_i h
    rcases Nat.lt_trichotomy (q + 1) c with k | k | k
    · obtain ⟨t, rfl⟩ : ∃ t, c = q + 1 + 1 + t := ⟨c - q - 2, by omega⟩
      have : b * (q + 1 + 1 + t) = b * q + b + b + b * t := by rw [Nat.mul_add, Nat.mul_add, Nat.mul_add, Nat.mul_one]
      omega
    · exact k
    · obtain ⟨t, rfl⟩ : ∃ t, q = c + t := ⟨q - c, by omega⟩
      have : b * (c + t) = b * c + b * t := Nat.mul_add _ _ _
      omega
theorem rnd_spec {a b : Nat} (hb : b ≠ 0) : 2 * (b * rndN a b) ≤ 2 * a + b ∧ 2 * a + b < 2 * (b * rndN a b) + 2 * b := by
  have hd := Nat.div_add_mod a b
  have hm := Nat.mod_lt a (by omega : 0 < b)
  unfold rndN
  generalize a % b = r at *
  generalize a / b = q at *
  subst hd
  split
  · omega
  · have : b * (q + 1) = b * q + b := by rw [Nat.mul_add, Nat.mul_one]
    omega
theorem rnd_scale {a b k : Nat} (hb : b ≠ 0) (hk : k ≠ 0) : rndN (a * k) (b * k) = rndN a b := by
  obtain ⟨h1, h2⟩ := rnd_spec (a := a) hb
  generalize rndN a b = c at *
  have e1 : 2 * (b * k * c) = 2 * (b * c) * k := by ac_rfl
  have e2 : 2 * (a * k) + b * k = (2 * a + b) * k := by rw [Nat.add_mul]; ac_rfl
  have e3 : 2 * (b * k * c) + 2 * (b * k) = (2 * (b * c) + 2 * b) * k := by rw [Nat.add_mul, e1]; ac_rfl
  refine rnd_unique (Nat.mul_ne_zero hb hk) ?_ ?_
  · rw [e1, e2]; exact Nat.mul_le_mul_right k h1
  · rw [e2, e3]; exact Nat.mul_lt_mul_of_pos_right h2 (by omega)
theorem rnd_same {a b a' b' : Nat} (hb : b ≠ 0) (hb' : b' ≠ 0) (e : a * b' = a' * b) : rndN a b = rndN a' b' := by
  rw [← rnd_scale (a := a) hb hb', ← rnd_scale (a := a') hb' hb, e, Nat.mul_comm b b']
theorem rnd_whole {q b : Nat} (hb : b ≠ 0) : rndN (q * b) b = q := by
  refine rnd_unique hb ?_ ?_
  · have : b * q = q * b := Nat.mul_comm _ _
    omega
  · have : b * q = q * b := Nat.mul_comm _ _
    omega
theorem rnd_one (q : Nat) : rndN q 1 = q := by have := rnd_whole (q := q) (b := 1) (by omega); rwa [Nat.mul_one] at this
/-- No multiple of b is nearer to a than the one that is told. -/
theorem rnd_near {a b : Nat} (hb : b ≠ 0) (j : Nat) : (a - b * rndN a b) + (b * rndN a b - a) ≤ (a - b * j) + (b * j - a) := by
  obtain ⟨h1, h2⟩ := rnd_spec (a := a) hb
  generalize rndN a b = c at *
  rcases Nat.lt_trichotomy j c with k | k | k
  · obtain ⟨t, rfl⟩ : ∃ t, c = j + 1 + t := ⟨c - j - 1, by omega⟩
    have : b * (j + 1 + t) = b * j + b + b * t := by rw [Nat.mul_add, Nat.mul_add, Nat.mul_one]
    omega
  · subst k; exact Nat.le_refl _
  · obtain ⟨t, rfl⟩ : ∃ t, j = c + 1 + t := ⟨j - c - 1, by omega⟩
    have : b * (c + 1 + t) = b * c + b + b * t := by rw [Nat.mul_add, Nat.mul_add, Nat.mul_one]
    omega
/-- Half a step at most; below it less than that. -/
theorem rnd_half {a b : Nat} (hb : b ≠ 0) : 2 * ((a - b * rndN a b) + (b * rndN a b - a)) ≤ b ∧ (2 * ((a - b * rndN a b) + (b * rndN a b - a)) = b → a < b * rndN a b) := by
  obtain ⟨h1, h2⟩ := rnd_spec (a := a) hb
  generalize rndN a b = c at *
  constructor <;> omega
theorem rnd_mono {a a' b : Nat} (hb : b ≠ 0) (h : a ≤ a') : rndN a b ≤ rndN a' b := by
  obtain ⟨h1, h2⟩ := rnd_spec (a := a) hb
  obtain ⟨h3, h4⟩ := rnd_spec (a := a') hb
  generalize rndN a b = c at *
  generalize rndN a' b = c' at *
  rcases Nat.lt_or_ge c' c with k | k
  · obtain ⟨t, rfl⟩ : ∃ t, c = c' + 1 + t := ⟨c - c' - 1, by omega⟩
    have : b * (c' + 1 + t) = b * c' + b + b * t := by rw [Nat.mul_add, Nat.mul_add, Nat.mul_one]
    omega
  · exact k
theorem rnd_le {a b q : Nat} (hb : b ≠ 0) (h : a ≤ q * b) : rndN a b ≤ q := by
  have := rnd_mono hb h
  rwa [rnd_whole hb] at this
theorem le_rnd {a b q : Nat} (hb : b ≠ 0) (h : q * b ≤ a) : q ≤ rndN a b := by
  have := rnd_mono hb h
  rwa [rnd_whole hb] at this

/-- Decimals D, cut behind the n last ones, carried where the first one that falls is 5 or more. -/
theorem cut_rnd (D n : Nat) : D / 10 ^ (n + 1) + (if 5 ≤ dg 10 D n then 1 else 0) = rndN D (10 ^ (n + 1)) := by
  have hp : 0 < 10 ^ n := Nat.pow_pos (by omega)
  have e : 10 ^ (n + 1) = 10 ^ n * 10 := Nat.pow_succ 10 n
  have hd := Nat.div_add_mod D (10 ^ n * 10)
  have hm := Nat.mod_lt D (by omega : 0 < 10 ^ n * 10)
  have hdg : dg 10 D n = D % (10 ^ n * 10) / 10 ^ n := by
    unfold dg
    rw [Nat.mod_mul_right_div_self]
  rw [e, hdg]
  unfold rndN
  have hr := Nat.div_add_mod (D % (10 ^ n * 10)) (10 ^ n)
  have hs := Nat.mod_lt (D % (10 ^ n * 10)) hp
  generalize D % (10 ^ n * 10) = r at *
  generalize r / 10 ^ n = u at *
  generalize r % 10 ^ n = v at *
  generalize 10 ^ n = T at *
  by_cases c : 5 ≤ u
  · rw [if_pos c, if_neg]
    have : T * u ≥ T * 5 := Nat.mul_le_mul_left T c
    omega
  · rw [if_neg c, if_pos]
    · omega
    · have : T * u ≤ T * 4 := Nat.mul_le_mul_left T (by omega)
      omega

/-- D decimals with k behind the point, rounded to p of them: as many steps of 10 to -p. -/
theorem cut_fewer {D k p : Nat} (h : p < k) : rndN (D * 10 ^ p) (10 ^ k) = rndN D (10 ^ (k - p)) := by
  have hp : 10 ^ p ≠ 0 := Nat.ne_of_gt (Nat.pow_pos (by omega))
  have hq : 10 ^ (k - p) ≠ 0 := Nat.ne_of_gt (Nat.pow_pos (by omega))
  rw [← rnd_scale (a := D) hq hp, ← Nat.pow_add, Nat.sub_add_cancel (by omega)]
theorem cut_more {D k p : Nat} (h : k ≤ p) : rndN (D * 10 ^ p) (10 ^ k) = D * 10 ^ (p - k) := by
  have hk : 10 ^ k ≠ 0 := Nat.ne_of_gt (Nat.pow_pos (by omega))
  have e : D * 10 ^ p = D * 10 ^ (p - k) * 10 ^ k := by rw [Nat.mul_assoc, ← Nat.pow_add, Nat.sub_add_cancel h]
  rw [e, rnd_whole hk]

/-- Rounded to n digits: what is told lies between 10 to n - 1 and 10 to n. -/
theorem to_bounds {a b n : Nat} (hb : b ≠ 0) (h1 : 10 ^ n * b ≤ a) (h2 : a < 10 ^ (n + 1) * b) : 10 ^ n ≤ rndN a b ∧ rndN a b ≤ 10 ^ (n + 1) := ⟨le_rnd hb h1, rnd_le hb (Nat.le_of_lt h2)⟩

/-- The power of ten of a quotient's first digit is told by one place alone. -/
theorem exp_unique {a b : Nat} {e f : Int} (hb : b ≠ 0) (h1 : b * 10 ^ e.toNat ≤ a * 10 ^ (-e).toNat) (h2 : a * 10 ^ (-(e + 1)).toNat < b * 10 ^ (e + 1).toNat) (h3 : b * 10 ^ f.toNat ≤ a * 10 ^ (-f).toNat) (h4 : a * 10 ^ (-(f + 1)).toNat < b * 10 ^ (f + 1).toNat) : e = f := by
  have key : ∀ e f : Int, e < f → a * 10 ^ (-(e + 1)).toNat < b * 10 ^ (e + 1).toNat → b * 10 ^ f.toNat ≤ a * 10 ^ (-f).toNat → False := by
    intro e f hef h2 h3
    obtain ⟨t, ht⟩ : ∃ t : Nat, f = e + 1 + t := ⟨(f - e - 1).toNat, by omega⟩
    have hP : ∀ k : Nat, 0 < 10 ^ k := fun k => Nat.pow_pos (by omega)
    -- b * 10^(e+1)+ * 10^(-f)+ ≤ b * 10^f+ * 10^(-(e+1))+ ≤ a * 10^(-f)+ * 10^(-(e+1))+ < b * 10^(e+1)+ * 10^(-f)+
    have s1 : (e + 1).toNat + (-f).toNat ≤ f.toNat + (-(e + 1)).toNat := by omega
    have s2 : 10 ^ ((e + 1).toNat + (-f).toNat) ≤ 10 ^ (f.toNat + (-(e + 1)).toNat) := Nat.pow_le_pow_right (by omega) s1
    rw [Nat.pow_add, Nat.pow_add] at s2
    have m1 := hP (-f).toNat
    have m2 := hP (-(e + 1)).toNat
    generalize 10 ^ (e + 1).toNat = A1 at *
    generalize 10 ^ (-f).toNat = A2 at *
    generalize 10 ^ f.toNat = A3 at *
    generalize 10 ^ (-(e + 1)).toNat = A4 at *
    have i1 : b * (A1 * A2) ≤ b * (A3 * A4) := Nat.mul_le_mul_left b s2
    have i2 : b * A3 * A4 ≤ a * A2 * A4 := Nat.mul_le_mul_right A4 h3
    have i3 : a * A4 * A2 < b * A1 * A2 := Nat.mul_lt_mul_of_pos_right h2 m1
    have j1 : b * (A3 * A4) = b * A3 * A4 := by ac_rfl
    have j2 : a * A2 * A4 = a * A4 * A2 := by ac_rfl
    have j3 : b * (A1 * A2) = b * A1 * A2 := by ac_rfl
    omega
  rcases Int.lt_trichotomy e f with k | k | k
  · exact absurd (key e f k h2 h3) id
  · exact k
  · exact absurd (key f e k h4 h1) id
/-- It doesn't hang on the terms. -/
theorem exp_low {a b a' b' : Nat} {e : Int} (hb : b ≠ 0) (hb' : b' ≠ 0) (h : a * b' = a' * b) (h1 : b * 10 ^ e.toNat ≤ a * 10 ^ (-e).toNat) : b' * 10 ^ e.toNat ≤ a' * 10 ^ (-e).toNat := by
  generalize 10 ^ e.toNat = A at *
  generalize 10 ^ (-e).toNat = B at *
  have i1 : b * A * b' ≤ a * B * b' := Nat.mul_le_mul_right b' h1
  have j1 : a * B * b' = a' * B * b := by rw [show a * B * b' = a * b' * B by ac_rfl, h]; ac_rfl
  have j2 : b * A * b' = b' * A * b := by ac_rfl
  rw [j1, j2] at i1
  exact Nat.le_of_mul_le_mul_right i1 (by omega)
theorem exp_high {a b a' b' : Nat} {e : Int} (hb : b ≠ 0) (hb' : b' ≠ 0) (h : a * b' = a' * b) (h1 : a * 10 ^ (-e).toNat < b * 10 ^ e.toNat) : a' * 10 ^ (-e).toNat < b' * 10 ^ e.toNat := by
  rcases Nat.lt_or_ge (a' * 10 ^ (-e).toNat) (b' * 10 ^ e.toNat) with k | k
  · exact k
  · have := exp_low (a := a') (b := b') (a' := a) (b' := b) (e := e) hb' hb h.symm k
    omega
end Go.Proofs.YtammjgieocgelaaGreatDoor

/- Plain maths of rounding: decimals of a value, so many digits. -/
namespace Go.Proofs.YtammjgieocgelaaGreatDoor
set_option linter.unusedVariables false

theorem ten_ne (k : Nat) : 10 ^ k ≠ 0 := Nat.ne_of_gt (Nat.pow_pos (by omega))
/-- A value's decimals and its quotient are the same number. -/
theorem val_fives (m a k : Nat) : m * 2 ^ a * 10 ^ k = m * 2 ^ a * 5 ^ k * 2 ^ k := by
  rw [show (10 : Nat) = 5 * 2 by rfl, Nat.mul_pow, Nat.mul_assoc (m * 2 ^ a)]
/-- D decimals, k of them behind the point, rounded to j of them (j may be below 0). -/
theorem to_cut (D k : Nat) (j : Int) : rndN (D * 10 ^ j.toNat) (10 ^ k * 10 ^ (-j).toNat) = if (k : Int) ≤ j then D * 10 ^ (j - k).toNat else rndN D (10 ^ ((k : Int) - j).toNat) := by
  split
  · rename_i h
    rw [show (-j).toNat = 0 by omega, Nat.pow_zero, Nat.mul_one, cut_more (by omega), show (j - k).toNat = j.toNat - k by omega]
  · rename_i h
    rw [← rnd_scale (a := D) (k := 10 ^ j.toNat) (ten_ne _) (ten_ne _), ← Nat.pow_add, ← Nat.pow_add, show ((k : Int) - j).toNat + j.toNat = k + (-j).toNat by omega]
/-- The power of ten of decimals' first digit. -/
theorem expD_low {D k : Nat} {e : Int} (h0 : D ≠ 0) (he : e = (nlen 10 D : Int) - 1 - k) : 10 ^ k * 10 ^ e.toNat ≤ D * 10 ^ (-e).toNat := by
  have h1 := nlen_low (B := 10) (by omega) D h0
  have h2 := nlen_pos (B := 10) (by omega) h0
  generalize nlen 10 D = L at *
  rw [← Nat.pow_add, show k + e.toNat = (L - 1) + (-e).toNat by omega, Nat.pow_add]
  exact Nat.mul_le_mul_right _ h1
theorem expD_high {D k : Nat} {e : Int} (h0 : D ≠ 0) (he : e = (nlen 10 D : Int) - 1 - k) : D * 10 ^ (-(e + 1)).toNat < 10 ^ k * 10 ^ (e + 1).toNat := by
  have h1 := lt_nlen (B := 10) (by omega) D
  have h2 := nlen_pos (B := 10) (by omega) h0
  generalize nlen 10 D = L at *
  rw [← Nat.pow_add, show k + (e + 1).toNat = L + (-(e + 1)).toNat by omega, Nat.pow_add]
  exact Nat.mul_lt_mul_of_pos_right h1 (Nat.pow_pos (by omega))
/-- Rounded to n + 1 digits: what is told lies between 10 to n and 10 to n + 1. -/
theorem toD_bounds {a b n : Nat} {e : Int} (hb : b ≠ 0) (h1 : b * 10 ^ e.toNat ≤ a * 10 ^ (-e).toNat) (h2 : a * 10 ^ (-(e + 1)).toNat < b * 10 ^ (e + 1).toNat) :
    10 ^ n ≤ rndN (a * 10 ^ ((n : Int) - e).toNat) (b * 10 ^ (-((n : Int) - e)).toNat) ∧ rndN (a * 10 ^ ((n : Int) - e).toNat) (b * 10 ^ (-((n : Int) - e)).toNat) ≤ 10 ^ (n + 1) := by
  refine to_bounds (Nat.mul_ne_zero hb (ten_ne _)) ?_ ?_
  · -- 10^n * (b * 10^-j) * 10^(-e) = b * 10^e * (10^j ..)
    have k1 : n + (-((n : Int) - e)).toNat + (-e).toNat = e.toNat + ((n : Int) - e).toNat := by omega
    refine Nat.le_of_mul_le_mul_right (c := 10 ^ (-e).toNat) ?_ (Nat.pow_pos (by omega))
    have e1 : 10 ^ n * (b * 10 ^ (-((n : Int) - e)).toNat) * 10 ^ (-e).toNat = b * 10 ^ (n + (-((n : Int) - e)).toNat + (-e).toNat) := by rw [Nat.pow_add, Nat.pow_add]; ac_rfl
    have e2 : a * 10 ^ ((n : Int) - e).toNat * 10 ^ (-e).toNat = a * 10 ^ (-e).toNat * 10 ^ ((n : Int) - e).toNat := by ac_rfl
    rw [e1, e2, k1, Nat.pow_add, ← Nat.mul_assoc]
    exact Nat.mul_le_mul_right _ h1
  · have k1 : (n + 1) + (-((n : Int) - e)).toNat + (-(e + 1)).toNat = (e + 1).toNat + ((n : Int) - e).toNat := by omega
    refine Nat.lt_of_mul_lt_mul_right (a := 10 ^ (-(e + 1)).toNat) ?_
    have e1 : 10 ^ (n + 1) * (b * 10 ^ (-((n : Int) - e)).toNat) * 10 ^ (-(e + 1)).toNat = b * 10 ^ ((n + 1) + (-((n : Int) - e)).toNat + (-(e + 1)).toNat) := by rw [Nat.pow_add _ _ (-(e + 1)).toNat, Nat.pow_add _ (n + 1)]; ac_rfl
    have e2 : a * 10 ^ ((n : Int) - e).toNat * 10 ^ (-(e + 1)).toNat = a * 10 ^ (-(e + 1)).toNat * 10 ^ ((n : Int) - e).toNat := by ac_rfl
    rw [e1, e2, k1, Nat.pow_add, ← Nat.mul_assoc]
    exact Nat.mul_lt_mul_of_pos_right h2 (Nat.pow_pos (by omega))
/-- With a place more nothing is farther: c steps of ten small ones are as many of those. -/
theorem rnd_finer {a b : Nat} (hb : b ≠ 0) : 10 * ((a - b * rndN a b) + (b * rndN a b - a)) ≥ (a * 10 - b * rndN (a * 10) b) + (b * rndN (a * 10) b - a * 10) := by
  have := rnd_near (a := a * 10) hb (rndN a b * 10)
  have e : b * (rndN a b * 10) = b * rndN a b * 10 := by ac_rfl
  rw [e] at this
  omega
end Go.Proofs.YtammjgieocgelaaGreatDoor

/- Rounding: isNought, whole, quotient, power. -/
namespace Go.Proofs.YtammjgieocgelaaGreatDoor
set_option linter.unusedVariables false
set_option linter.unusedSimpArgs false
open Go.RowKit

attribute [local go_sem] World.cell?_alloc_some
theorem rnd_low {n d : Nat} (hd : d ≠ 0) : halfN (rN n d) (rD n d) = rndN n d := by
  have hg := gcd_pos_right (n := n) hd
  have e : rndN (rN n d) (rD n d) = rndN n d := by
    rw [← rnd_scale (a := rN n d) (k := Nat.gcd n d) (rD_pos hd) (by omega), rN_mul, rD_mul]
  exact e

set_option maxHeartbeats 1000000 in
set_option maxRecDepth 4000 in
theorem isNoughtR_any (v : Value) (n d : Nat) (w : World) (h : IsRat w v n d) (h1 : nlen 4294967296 n ≤ 1000000) :
    Calls Tryz.prog 68 #[v] w fun e w' => e = .returned (.bool (decide (n = 0))) ∧ Fr w w' := by
  have HA := hide h
  obtain ⟨a, N, ca, b, M, cb, rfl⟩ := h.form
  have hd := h.1
  have np1 : nlen 4294967296 (rN n d) ≤ 1000000 := nl_le h1 (rN_le _ _)
  have e0 : decide (n = 0) = ((nlen 2 (rN n d) : Int) == 0) := by
    by_cases c : n = 0
    · have c' := (rN_zero hd).2 c
      rw [c', nlen_zero, decide_eq_true c]; rfl
    · have c' : rN n d ≠ 0 := fun k => c ((rN_zero hd).1 k)
      have := nlen_pos (B := 2) (by omega) c'
      have h : nlen 2 (rN n d) ≠ 0 := by omega
      simp [h, c]
  rw [e0]
  have TA : Hid (∀ wz, Fr w wz → Calls Tryz.prog 67 #[.agg #[.slice a N ca, .slice b M cb]] wz fun e w' => ∃ a c b k, e = .returned (.tuple #[.agg #[.slice a (nlen 4294967296 (rN n d)) c], .agg #[.slice b (nlen 4294967296 (rD n d)) k]]) ∧ IsNat w' (.agg #[.slice a (nlen 4294967296 (rN n d)) c]) (rN n d) ∧ IsNat w' (.agg #[.slice b (nlen 4294967296 (rD n d)) k]) (rD n d) ∧ Fr wz w') := fun wz f => terms_rat _ n d wz (HA.out.fr f) (by omega)
  generalize rN n d = p at *
  generalize rD n d = q at *
  clear HA h h1 e0
  go_enter Tryz.func68, Tryz.ntmps68
  go_wp2_with fail
  obtain ⟨W, hW⟩ : ∃ W, W = (w.alloc (Obj.cells #[Value.slice a N ca, Value.slice b M cb] 55)) := ⟨_, rfl⟩
  have fW : Fr w W := by rw [hW]; exact (Fr.alloc w (Obj.cells #[Value.slice a N ca, Value.slice b M cb] 55))
  rw [← hW]
  clear hW
  refine (TA.out _ fW).mono ?_
  rintro e w1 ⟨ap, cp, aq, cq, rfl, ip, iq, f1⟩
  have FW := hide (fW.trans f1)
  clear fW f1 TA
  go_wp2_with fail
  obtain ⟨W1, hW1⟩ : ∃ W, W = ((w1.alloc (Obj.cells #[Value.slice ap (nlen 4294967296 p) cp] 53)).alloc (Obj.cells #[Value.slice aq (nlen 4294967296 q) cq] 53)) := ⟨_, rfl⟩
  have f1 : Fr w1 W1 := by rw [hW1]; exact ((Fr.alloc w1 (Obj.cells #[Value.slice ap (nlen 4294967296 p) cp] 53)).trans (Fr.alloc _ (Obj.cells #[Value.slice aq (nlen 4294967296 q) cq] 53)))
  have s4 : Slot w1 W1 (w1.heap.size) (.slice ap (nlen 4294967296 p) cp) := by
    rw [hW1]; simpa using (Slot.new (Fr.refl w1) ap (nlen 4294967296 p) cp 53).fr (Fr.alloc _ _)
  have s5 : Slot w1 W1 (w1.heap.size + 1) (.slice aq (nlen 4294967296 q) cq) := by
    rw [hW1]; simpa using Slot.new (Fr.alloc w1 (Obj.cells #[Value.slice ap (nlen 4294967296 p) cp] 53)) aq (nlen 4294967296 q) cq 53
  rw [← hW1]
  clear hW1
  refine (bits_any _ p _ (ip.fr f1) (by omega)).mono ?_
  rintro e w2 ⟨rfl, f2⟩
  have FW := hide (FW.out.trans (f1.trans f2))
  clear s4 s5 f1 f2 ip iq
  go_wp2_with fail
  go_ret
  exact ⟨rfl, FW.out⟩

set_option maxHeartbeats 1000000 in
set_option maxRecDepth 4000 in
theorem whole_any (v : Value) (n d : Nat) (w : World) (h : IsRat w v n d) (h1 : nlen 4294967296 n ≤ 1000000) (k1 : nlen 4294967296 d ≤ 1000000) (P : Nat) (eP : rndN n d = P) :
    Calls Tryz.prog 71 #[v] w fun e w' => ∃ a c, e = .returned (.agg #[.slice a (nlen 4294967296 P) c]) ∧ IsNat w' (.agg #[.slice a (nlen 4294967296 P) c]) P ∧ Fr w w' := by
  have HA := hide h
  obtain ⟨a, N, ca, b, M, cb, rfl⟩ := h.form
  have hd := h.1
  have np1 : nlen 4294967296 (rN n d) ≤ 1000000 := nl_le h1 (rN_le _ _)
  have nq1 : nlen 4294967296 (rD n d) ≤ 1000000 := nl_le k1 (rD_le _ _)
  have hq0 := rD_pos (n := n) hd
  rw [← rnd_low hd] at eP
  have TA : Hid (∀ wz, Fr w wz → Calls Tryz.prog 67 #[.agg #[.slice a N ca, .slice b M cb]] wz fun e w' => ∃ a c b k, e = .returned (.tuple #[.agg #[.slice a (nlen 4294967296 (rN n d)) c], .agg #[.slice b (nlen 4294967296 (rD n d)) k]]) ∧ IsNat w' (.agg #[.slice a (nlen 4294967296 (rN n d)) c]) (rN n d) ∧ IsNat w' (.agg #[.slice b (nlen 4294967296 (rD n d)) k]) (rD n d) ∧ Fr wz w') := fun wz f => terms_rat _ n d wz (HA.out.fr f) (by omega)
  generalize rN n d = p at *
  generalize rD n d = q at *
  have EP := hide eP
  clear HA h eP h1 k1
  go_enter Tryz.func71, Tryz.ntmps71
  go_wp2_with fail
  obtain ⟨W, hW⟩ : ∃ W, W = ((w.alloc (Obj.cells #[Value.slice a N ca, Value.slice b M cb] 55)).alloc (Obj.cells #[Value.slice none 0 0] 53)) := ⟨_, rfl⟩
  have fW : Fr w W := by rw [hW]; exact ((Fr.alloc w (Obj.cells #[Value.slice a N ca, Value.slice b M cb] 55)).trans (Fr.alloc _ (Obj.cells #[Value.slice none 0 0] 53)))
  have s2 : Slot w W (w.heap.size + 1) (.slice none 0 0) := by
    rw [hW]; simpa using Slot.new (Fr.alloc w (Obj.cells #[Value.slice a N ca, Value.slice b M cb] 55)) none 0 0 53
  rw [← hW]
  clear hW
  refine (TA.out _ fW).mono ?_
  rintro e w1 ⟨ap, cp, aq, cq, rfl, ip, iq, f1⟩
  have S2 := hide (s2.fr f1)
  have FW := hide (fW.trans f1)
  have l1 := cell_lt S2.out.1
  simp only [] at l1
  clear s2 fW f1 TA
  go_wp2_with fail
  obtain ⟨W1, hW1⟩ : ∃ W, W = ((w1.alloc (Obj.cells #[Value.slice ap (nlen 4294967296 p) cp] 53)).alloc (Obj.cells #[Value.slice aq (nlen 4294967296 q) cq] 53)) := ⟨_, rfl⟩
  have f1 : Fr w1 W1 := by rw [hW1]; exact ((Fr.alloc w1 (Obj.cells #[Value.slice ap (nlen 4294967296 p) cp] 53)).trans (Fr.alloc _ (Obj.cells #[Value.slice aq (nlen 4294967296 q) cq] 53)))
  have s4 : Slot w1 W1 (w1.heap.size) (.slice ap (nlen 4294967296 p) cp) := by
    rw [hW1]; simpa using (Slot.new (Fr.refl w1) ap (nlen 4294967296 p) cp 53).fr (Fr.alloc _ _)
  have s5 : Slot w1 W1 (w1.heap.size + 1) (.slice aq (nlen 4294967296 q) cq) := by
    rw [hW1]; simpa using Slot.new (Fr.alloc w1 (Obj.cells #[Value.slice ap (nlen 4294967296 p) cp] 53)) aq (nlen 4294967296 q) cq 53
  rw [← hW1]
  clear hW1
  have IP := hide (ip.fr f1)
  have IQ := hide (iq.fr f1)
  have S2 := hide (S2.out.fr f1)
  have FW := hide (FW.out.trans f1)
  clear s4 s5 f1 ip iq
  refine (half_yes _ _ p q _ IP.out IQ.out (by omega) (by omega) hq0).mono ?_
  rintro e w2 ⟨ax, cx, rfl, ix, _, f2⟩
  rw [EP.out] at ix ⊢
  have S2 := hide (S2.out.fr f2)
  have FW := hide (FW.out.trans f2)
  have IX := hide ix
  have l2 := cell_lt S2.out.1
  simp only [] at l2
  clear f2 IP IQ ix
  have q2 := S2.out.1
  have za : ∀ o, (w2.alloc o).frozen? ⟨w.heap.size + 1, 0, none⟩ = false := fun o => (S2.out.fr (Fr.alloc _ o)).2.1
  go_wp2_with fail
  have IX := hide (S2.out.nat IX.out (.slice ax (nlen 4294967296 P) cx))
  have FW := hide (S2.out.set_fr FW.out (.slice ax (nlen 4294967296 P) cx))
  have S2 := hide (S2.out.set ax (nlen 4294967296 P) cx)
  have S2 := hide (S2.out.fr (Fr.alloc _ (Obj.cells #[Value.slice ax (nlen 4294967296 P) cx] 53)))
  have IX := hide (IX.out.fr (Fr.alloc _ (Obj.cells #[Value.slice ax (nlen 4294967296 P) cx] 53)))
  have FW := hide (FW.out.trans (Fr.alloc _ (Obj.cells #[Value.slice ax (nlen 4294967296 P) cx] 53)))
  exact bodyPost_ret (results_nat rfl _ _ (w.heap.size + 1) _ rfl S2.out.1) rfl ⟨_, _, rfl, IX.out, FW.out⟩

set_option maxHeartbeats 1000000 in
set_option maxRecDepth 4000 in
theorem quotient_any (va vb : Value) (x y : Nat) (w : World) (hT : Tab w) (ha : IsNat w va x) (hb : IsNat w vb y) (hx : nlen 4294967296 x ≤ 1000000) (hy : nlen 4294967296 y ≤ 1000000) (hy0 : y ≠ 0) :
    Calls Tryz.prog 120 #[va, vb] w fun e w' => ∃ v, e = .returned v ∧ IsRat w' v x y ∧ Fr w w' := by
  have HA := hide ha
  have HB := hide hb
  have HT := hide hT
  obtain ⟨a, ca, rfl, a2, a3, a4⟩ := ha
  obtain ⟨b, cb, rfl, b2, b3, b4⟩ := hb
  clear a4 b4 hT
  go_enter Tryz.func120, Tryz.ntmps120
  go_wp2_with fail
  obtain ⟨W, hW⟩ : ∃ W, W = (((w.alloc (Obj.cells #[Value.slice a (nlen 4294967296 x) ca] 53)).alloc (Obj.cells #[Value.slice b (nlen 4294967296 y) cb] 53)).alloc (Obj.cells #[Value.slice none 0 0, Value.slice none 0 0] 55)) := ⟨_, rfl⟩
  have fW : Fr w W := by rw [hW]; exact (((Fr.alloc w (Obj.cells #[Value.slice a (nlen 4294967296 x) ca] 53)).trans (Fr.alloc _ (Obj.cells #[Value.slice b (nlen 4294967296 y) cb] 53))).trans (Fr.alloc _ (Obj.cells #[Value.slice none 0 0, Value.slice none 0 0] 55)))
  have s4 : Slot2 w W (w.heap.size + 1 + 1) (.slice none 0 0) (.slice none 0 0) := by
    rw [hW]; simpa using Slot2.new ((Fr.alloc w (Obj.cells #[Value.slice a (nlen 4294967296 x) ca] 53)).trans (Fr.alloc _ (Obj.cells #[Value.slice b (nlen 4294967296 y) cb] 53))) none 0 0 none 0 0 55
  rw [← hW]
  clear hW
  refine (ofR_yes _ _ x y _ (Tab.fr HT.out fW) (HA.out.fr fW) (HB.out.fr fW) hx hy hy0).mono ?_
  rintro e w1 ⟨v, rfl, ir, f1⟩
  have S4 := hide (s4.fr f1)
  have FW := hide (fW.trans f1)
  have RV := hide ir
  obtain ⟨u1, u2, u3, u4, u5, u6, rfl⟩ := ir.form
  have l1 := cell_lt S4.out.1
  simp only [] at l1
  have q4 := S4.out.1
  have q4' := S4.out.2.1
  have z4 := S4.out.2.2.1 0
  have z4' := S4.out.2.2.1 1
  have za : ∀ o, (w1.alloc o).frozen? ⟨w.heap.size + 1 + 1, 0, none⟩ = false := fun o => (S4.out.fr (Fr.alloc _ o)).2.2.1 0
  have zb : ∀ o, (w1.alloc o).frozen? ⟨w.heap.size + 1 + 1, 1, none⟩ = false := fun o => (S4.out.fr (Fr.alloc _ o)).2.2.1 1
  clear s4 fW f1 ir
  go_wp2_with fail
  have q_ := S4.out.1
  have q2_ := S4.out.2.1
  have z_ := S4.out.2.2.1 0
  have z2_ := S4.out.2.2.1 1
  have RV := hide (S4.out.rat RV.out u1 u2 u3 (.slice u4 u5 u6))
  have FW := hide (S4.out.set_fr FW.out (.slice u1 u2 u3) (.slice u4 u5 u6))
  have S4 := hide (S4.out.set u1 u2 u3 u4 u5 u6)
  have S4 := hide (S4.out.fr (Fr.alloc _ (Obj.cells #[Value.slice u1 u2 u3, Value.slice u4 u5 u6] 55)))
  have RV := hide (RV.out.fr (Fr.alloc _ (Obj.cells #[Value.slice u1 u2 u3, Value.slice u4 u5 u6] 55)))
  have FW := hide (FW.out.trans (Fr.alloc _ (Obj.cells #[Value.slice u1 u2 u3, Value.slice u4 u5 u6] 55)))
  refine bodyPost_ret (results_rat rfl _ _ (w.heap.size + 1 + 1) (.slice u1 u2 u3) (.slice u4 u5 u6) rfl ?_ ?_) rfl ?_
  · exact S4.out.1
  · exact S4.out.2.1
  · exact ⟨_, rfl, RV.out, FW.out⟩

theorem ten_pow_lt {j m : Nat} (hj : j ≤ m) (hm : 0 < m) : 10 ^ j < 4294967296 ^ m := Nat.lt_of_le_of_lt (Nat.pow_le_pow_right (by omega) hj) (Nat.pow_lt_pow_left (by omega) (by omega))
theorem nl_ten_m {A j m : Nat} (h : 10 ^ j = A) (hj : j ≤ m) (hm : 0 < m) : nlen 4294967296 A ≤ m := by
  subst h
  exact nlen_le b32 (ten_pow_lt hj hm)
theorem nl_ten {A j : Nat} (h : 10 ^ j = A) (hj : j ≤ 100000) : nlen 4294967296 A ≤ 100000 := nl_ten_m h hj (by omega)

set_option maxHeartbeats 1000000 in
set_option maxRecDepth 4000 in
theorem power_any (k : Int) (A B : Nat) (w : World) (hT : Tab w) (k0 : -100000 ≤ k) (kl : k ≤ 100000) (eA : 10 ^ k.toNat = A) (eB : 10 ^ (-k).toNat = B) :
    Calls Tryz.prog 99 #[.int .i64 k] w fun e w' => ∃ v, e = .returned v ∧ IsRat w' v A B ∧ Fr w w' := by
  have HT := hide hT
  have nA := nl_ten eA (by omega)
  have nB := nl_ten eB (by omega)
  have hB0 : B ≠ 0 := by rw [← eB]; exact ten_ne _
  have EA := hide eA
  have EB := hide eB
  clear eA eB hT
  go_enter Tryz.func99, Tryz.ntmps99
  go_wp2_with fail
  obtain ⟨W, hW⟩ : ∃ W, W = (w.alloc (Obj.cells #[Value.slice none 0 0, Value.slice none 0 0] 55)) := ⟨_, rfl⟩
  have fW : Fr w W := by rw [hW]; exact (Fr.alloc w (Obj.cells #[Value.slice none 0 0, Value.slice none 0 0] 55))
  have s4 : Slot2 w W (w.heap.size) (.slice none 0 0) (.slice none 0 0) := by
    rw [hW]; simpa using Slot2.new (Fr.refl w) none 0 0 none 0 0 55
  rw [← hW]
  clear hW
  refine (tend_any k A _ (by omega) (by omega) EA.out).mono ?_
  rintro e w1 ⟨a, ca, rfl, ia, f1⟩
  have S4 := hide (s4.fr f1)
  have FW := hide (fW.trans f1)
  have IA := hide ia
  clear s4 fW f1 ia
  go_wp2_with fail
  refine (tend_any (-k) B _ (by omega) (by omega) EB.out).mono ?_
  rintro e w2 ⟨b, cb, rfl, ib, f2⟩
  have S4 := hide (S4.out.fr f2)
  have FW := hide (FW.out.trans f2)
  have IA := hide (IA.out.fr f2)
  have IB := hide ib
  clear f2 ib
  go_wp2_with fail
  refine (quotient_any _ _ A B _ (Tab.fr HT.out FW.out) IA.out IB.out (by omega) (by omega) hB0).mono ?_
  rintro e w3 ⟨v, rfl, ir, f3⟩
  have S4 := hide (S4.out.fr f3)
  have FW := hide (FW.out.trans f3)
  have RV := hide ir
  obtain ⟨u1, u2, u3, u4, u5, u6, rfl⟩ := ir.form
  clear f3 ir
  have q4 := S4.out.1
  have q4' := S4.out.2.1
  have z4 := S4.out.2.2.1 0
  have z4' := S4.out.2.2.1 1
  go_wp2_with fail
  have q_ := S4.out.1
  have q2_ := S4.out.2.1
  have z_ := S4.out.2.2.1 0
  have z2_ := S4.out.2.2.1 1
  have RV := hide (S4.out.rat RV.out u1 u2 u3 (.slice u4 u5 u6))
  have FW := hide (S4.out.set_fr FW.out (.slice u1 u2 u3) (.slice u4 u5 u6))
  have S4 := hide (S4.out.set u1 u2 u3 u4 u5 u6)
  exact bodyPost_ret (results_rat rfl _ _ (w.heap.size) _ _ rfl S4.out.1 S4.out.2.1) rfl ⟨_, rfl, RV.out, FW.out⟩
end Go.Proofs.YtammjgieocgelaaGreatDoor

/- Rounding: firstExp, Exp. -/
namespace Go.Proofs.YtammjgieocgelaaGreatDoor
set_option linter.unusedVariables false
set_option linter.unusedSimpArgs false
open Go.RowKit

attribute [local go_sem] World.cell?_alloc_some
/-- The power of ten of a quotient's first digit. -/
def IsExp (n d : Nat) (e : Int) : Prop := d * 10 ^ e.toNat ≤ n * 10 ^ (-e).toNat ∧ n * 10 ^ (-(e + 1)).toNat < d * 10 ^ (e + 1).toNat
theorem exp_key {a b : Nat} {e f : Int} (hef : e < f) (h2 : a * 10 ^ (-(e + 1)).toNat < b * 10 ^ (e + 1).toNat) (h3 : b * 10 ^ f.toNat ≤ a * 10 ^ (-f).toNat) : False := by
  obtain ⟨t, ht⟩ : ∃ t : Nat, f = e + 1 + t := ⟨(f - e - 1).toNat, by omega⟩
  have hP : ∀ k : Nat, 0 < 10 ^ k := fun k => Nat.pow_pos (by omega)
  have s1 : (e + 1).toNat + (-f).toNat ≤ f.toNat + (-(e + 1)).toNat := by omega
  have s2 : 10 ^ ((e + 1).toNat + (-f).toNat) ≤ 10 ^ (f.toNat + (-(e + 1)).toNat) := Nat.pow_le_pow_right (by omega) s1
  rw [Nat.pow_add, Nat.pow_add] at s2
  have m1 := hP (-f).toNat
  have m2 := hP (-(e + 1)).toNat
  generalize 10 ^ (e + 1).toNat = A1 at *
  generalize 10 ^ (-f).toNat = A2 at *
  generalize 10 ^ f.toNat = A3 at *
  generalize 10 ^ (-(e + 1)).toNat = A4 at *
  have i1 : b * (A1 * A2) ≤ b * (A3 * A4) := Nat.mul_le_mul_left b s2
  have i2 : b * A3 * A4 ≤ a * A2 * A4 := Nat.mul_le_mul_right A4 h3
  have i3 : a * A4 * A2 < b * A1 * A2 := Nat.mul_lt_mul_of_pos_right h2 m1
  have j1 : b * (A3 * A4) = b * A3 * A4 := by ac_rfl
  have j2 : a * A2 * A4 = a * A4 * A2 := by ac_rfl
  have j3 : b * (A1 * A2) = b * A1 * A2 := by ac_rfl
  omega
theorem IsExp.lt {n d : Nat} {E k : Int} (h : IsExp n d E) : n * 10 ^ (-k).toNat < 10 ^ k.toNat * d ↔ E < k := by
  rw [Nat.mul_comm (10 ^ k.toNat) d]
  constructor
  · intro hl
    rcases Int.lt_or_le E k with c | c
    · exact c
    · exfalso
      refine exp_key (a := n) (b := d) (e := k - 1) (f := E) (by omega) ?_ h.1
      rw [show k - 1 + 1 = k by omega]
      exact hl
  · intro hk
    rcases Nat.lt_or_ge (n * 10 ^ (-k).toNat) (d * 10 ^ k.toNat) with c | c
    · exact c
    · exact absurd (exp_key hk h.2 c) id
theorem IsExp.ne {n d : Nat} {E : Int} (hd : d ≠ 0) (h : IsExp n d E) : n ≠ 0 := by
  rintro rfl
  have h1 := h.1
  rw [Nat.zero_mul] at h1
  have h2 : 0 < d * 10 ^ E.toNat := Nat.mul_pos (by omega) (Nat.pow_pos (by omega))
  omega
theorem IsExp.same {a b a' b' : Nat} {e : Int} (hb : b ≠ 0) (hb' : b' ≠ 0) (h : a * b' = a' * b) (k : IsExp a b e) : IsExp a' b' e := ⟨exp_low hb hb' h k.1, exp_high hb hb' h k.2⟩

set_option maxHeartbeats 2000000 in
set_option maxRecDepth 4000 in
theorem firstExp_any (v : Value) (n d : Nat) (t E : Int) (w : World) (hT : Tab w) (h : IsRat w v n d) (h1 : nlen 4294967296 n ≤ 1000) (k1 : nlen 4294967296 d ≤ 1000) (t0 : -3000 ≤ t) (t1 : t ≤ 3000) (hE : IsExp n d E) (E0 : -1500 ≤ E) (E1 : E ≤ 1500) :
    Calls Tryz.prog 69 #[v, .int .i64 t] w fun e w' => e = .returned (.int .i64 E) ∧ Fr w w' := by
  have HA := hide h
  have HT := hide hT
  obtain ⟨a, N, ca, b, M, cb, rfl⟩ := h.form
  have CMP : Hid (∀ k : Int, n * 10 ^ (-k).toNat < 10 ^ k.toNat * d ↔ E < k) := fun k => hE.lt
  clear h hT hE
  obtain ⟨q, hq, q0, q1⟩ : ∃ q : Int, Int.tdiv (t * 30103) 100000 = q ∧ -1500 ≤ q ∧ q ≤ 1500 := by
    refine ⟨_, rfl, ?_, ?_⟩
    · rcases Int.lt_or_le t 0 with c | c
      · have := Int.neg_tdiv (-(t * 30103)) 100000
        rw [Int.neg_neg] at this
        rw [this, Int.tdiv_eq_ediv_of_nonneg (by omega)]
        omega
      · rw [Int.tdiv_eq_ediv_of_nonneg (by omega)]
        omega
    · rcases Int.lt_or_le t 0 with c | c
      · have := Int.neg_tdiv (-(t * 30103)) 100000
        rw [Int.neg_neg] at this
        rw [this, Int.tdiv_eq_ediv_of_nonneg (by omega)]
        omega
      · rw [Int.tdiv_eq_ediv_of_nonneg (by omega)]
        omega
  have hqw : IntKind.i64.wrap q = q := by simp only [IntKind.wrap_i64]; omega
  go_enter Tryz.func69, Tryz.ntmps69
  go_wp2_with fail
  obtain ⟨W, hW⟩ : ∃ W, W = (w.alloc (Obj.cells #[Value.slice a N ca, Value.slice b M cb] 55)) := ⟨_, rfl⟩
  have fW : Fr w W := by rw [hW]; exact (Fr.alloc w (Obj.cells #[Value.slice a N ca, Value.slice b M cb] 55))
  have s2 : Slot2 w W (w.heap.size) (.slice a N ca) (.slice b M cb) := by
    rw [hW]; simpa using Slot2.new (Fr.refl w) a N ca b M cb 55
  rw [← hW]
  clear hW
  have S2 := hide s2
  have FW := hide fW
  clear s2 fW
  go_loopw [5] (fun s5 wr => ∃ k : Int, -1500 ≤ k ∧ k ≤ 1500 ∧ s5 = .int .i64 k ∧ Hid (Slot2 w wr w.heap.size (.slice a N ca) (.slice b M cb)) ∧ Hid (Fr w wr)) (fun s5 _ => (intOf s5 + 1500).toNat)
  case atStart => exact ⟨q, q0, q1, by go_num, S2, FW⟩
  case round =>
    obtain ⟨k, k0, kl, rfl, S2, FW⟩ := hrel
    obtain ⟨A, hA⟩ : ∃ A, 10 ^ (k).toNat = A := ⟨_, rfl⟩
    obtain ⟨B, hB⟩ : ∃ B, 10 ^ (-(k)).toNat = B := ⟨_, rfl⟩
    have c := CMP.out (k)
    rw [hA, hB] at c
    have nA := nl_ten hA (by omega)
    have nB := nl_ten hB (by omega)
    have HAe := hide hA
    have HBe := hide hB
    clear hA hB
    have HR := hide (HA.out.fr FW.out)
    have HT1 := hide (Tab.fr HT.out FW.out)
    by_cases hk : E < k
    · have EZ : Hid (cmpZ (n * B) (A * d) = -1) := if_pos (c.2 (by omega))
      clear c
      have q2 := S2.out.1
      have q2' := S2.out.2.1
      have HR := hide (HR.out.fr (Fr.drew _))
      have S2 := hide (S2.out.fr (Fr.drew _))
      have HT1 := hide (HT1.out.fr (Fr.drew _))
      have FW := hide (FW.out.trans (Fr.drew _))
      go_wp2_with fail
      refine wp_region_held_drew (S := (fun w' => w'.cell? ⟨w.heap.size, 0, none⟩ = some (.slice a N ca) ∧ w'.cell? ⟨w.heap.size, 1, none⟩ = some (.slice b M cb))) (by kernel_rfl) ?_ (fun hHeld => ?_)
      · exact ⟨S2.out.1, S2.out.2.1⟩
      obtain ⟨wd, hwd⟩ : ∃ wd, wd = wr.drew := ⟨_, rfl⟩
      rw [← hwd] at hHeld HR S2 HT1 FW ⊢
      clear hwd
      refine wpAnyH_take (i := 0) (v := ?_) rfl (by kernel_rfl) (by kernel_rfl) (by kernel_rfl) (fun _ _ _ h => h) (Or.inl ⟨by rfl, ?_⟩) (by assumption) ?_
      rotate_left
      · (intro w hSw; (try dsimp only at hSw); go_simp; try with_reducible rfl)
      (try simp only [Act.put, List.getElem_toArray, List.getElem_cons_zero, List.getElem_cons_succ, List.setIfInBounds_toArray, List.set_cons_zero, List.set_cons_succ])
      refine wpAnyH_take (i := 1) (v := ?_) rfl (by kernel_rfl) (by kernel_rfl) (by kernel_rfl) (fun _ _ _ h => h) (Or.inl ⟨by rfl, ?_⟩) (by assumption) ?_
      rotate_left
      · (intro w hSw; (try dsimp only at hSw); go_simp; try with_reducible rfl)
      (try simp only [Act.put, List.getElem_toArray, List.getElem_cons_zero, List.getElem_cons_succ, List.setIfInBounds_toArray, List.set_cons_zero, List.set_cons_succ])
      refine wpAnyH_ready (rs := [2]) (by kernel_rfl) (by simp) ?_
      refine AllReadyH.cons rfl (fun K hK => ?_) AllReadyH.nil
      go_simp
      refine (power_any k A B _ HT1.out (by omega) (by omega) HAe.out HBe.out).mono ?_
      rintro e wn ⟨v, rfl, ir, fy⟩
      have IV := hide ir
      have HR := hide (HR.out.fr fy)
      have S2 := hide (S2.out.fr fy)
      have HT1 := hide (HT1.out.fr fy)
      have FW := hide (FW.out.trans fy)
      obtain ⟨u1, u2, u3, u4, u5, u6, rfl⟩ := ir.form
      clear ir fy
      (try go_wp2_with fail)
      refine hK.out _ _ ?_ (fun hHeld => ?_)
      · (try dsimp only)
        exact ⟨S2.out.1, S2.out.2.1⟩
      clear hK K
      (try simp only [Act.put, List.getElem_toArray, List.getElem_cons_zero, List.getElem_cons_succ, List.setIfInBounds_toArray, List.set_cons_zero, List.set_cons_succ])
      refine wpAnyH_ready (rs := [3]) (by kernel_rfl) (by simp) ?_
      refine AllReadyH.cons rfl (fun K hK => ?_) AllReadyH.nil
      go_simp
      refine (cmpR_any _ _ n d A B _ HT1.out HR.out IV.out (by omega) (by omega) (by omega) (by omega) _ EZ.out).mono ?_
      rintro e wn ⟨rfl, fy⟩
      have HR := hide (HR.out.fr fy)
      have S2 := hide (S2.out.fr fy)
      have HT1 := hide (HT1.out.fr fy)
      have FW := hide (FW.out.trans fy)
      clear fy
      (try go_wp2_with fail)
      refine hK.out _ _ ?_ (fun hHeld => ?_)
      · (try dsimp only)
        exact ⟨S2.out.1, S2.out.2.1⟩
      clear hK K
      (try simp only [Act.put, List.getElem_toArray, List.getElem_cons_zero, List.getElem_cons_succ, List.setIfInBounds_toArray, List.set_cons_zero, List.set_cons_succ])
      refine wpAnyH_take (i := 4) (v := ?_) rfl (by kernel_rfl) (by kernel_rfl) (by kernel_rfl) (fun _ _ _ h => h) (Or.inl ⟨by rfl, ?_⟩) (by assumption) ?_
      rotate_left
      · (intro w hSw; (try dsimp only at hSw); go_simp; try with_reducible rfl)
      (try simp only [Act.put, List.getElem_toArray, List.getElem_cons_zero, List.getElem_cons_succ, List.setIfInBounds_toArray, List.set_cons_zero, List.set_cons_succ])
      refine wpAnyH_done (by kernel_rfl) ?_ _
      go_wp2_with fail
      go_roundw
      case rel => exact ⟨k - 1, by omega, by omega, by go_num, S2, FW⟩
      case measure => simp [intOf]; omega
    · obtain ⟨Z, hZ, hz0⟩ : ∃ Z, cmpZ (n * B) (A * d) = Z ∧ 0 ≤ Z := by
        refine ⟨_, rfl, ?_⟩
        have cn : ¬ n * B < A * d := fun hl => by have := c.1 hl; omega
        unfold cmpZ
        rw [if_neg cn]
        split <;> omega
      have EZ := hide hZ
      have hzd : decide (Z < 0) = false := decide_eq_false (by omega)
      have hzg : decide (0 ≤ Z) = true := decide_eq_true (by omega)
      clear c hZ
      have q2 := S2.out.1
      have q2' := S2.out.2.1
      have HR := hide (HR.out.fr (Fr.drew _))
      have S2 := hide (S2.out.fr (Fr.drew _))
      have HT1 := hide (HT1.out.fr (Fr.drew _))
      have FW := hide (FW.out.trans (Fr.drew _))
      go_wp2_with fail
      refine wp_region_held_drew (S := (fun w' => w'.cell? ⟨w.heap.size, 0, none⟩ = some (.slice a N ca) ∧ w'.cell? ⟨w.heap.size, 1, none⟩ = some (.slice b M cb))) (by kernel_rfl) ?_ (fun hHeld => ?_)
      · exact ⟨S2.out.1, S2.out.2.1⟩
      obtain ⟨wd, hwd⟩ : ∃ wd, wd = wr.drew := ⟨_, rfl⟩
      rw [← hwd] at hHeld HR S2 HT1 FW ⊢
      clear hwd
      refine wpAnyH_take (i := 0) (v := ?_) rfl (by kernel_rfl) (by kernel_rfl) (by kernel_rfl) (fun _ _ _ h => h) (Or.inl ⟨by rfl, ?_⟩) (by assumption) ?_
      rotate_left
      · (intro w hSw; (try dsimp only at hSw); go_simp; try with_reducible rfl)
      (try simp only [Act.put, List.getElem_toArray, List.getElem_cons_zero, List.getElem_cons_succ, List.setIfInBounds_toArray, List.set_cons_zero, List.set_cons_succ])
      refine wpAnyH_take (i := 1) (v := ?_) rfl (by kernel_rfl) (by kernel_rfl) (by kernel_rfl) (fun _ _ _ h => h) (Or.inl ⟨by rfl, ?_⟩) (by assumption) ?_
      rotate_left
      · (intro w hSw; (try dsimp only at hSw); go_simp; try with_reducible rfl)
      (try simp only [Act.put, List.getElem_toArray, List.getElem_cons_zero, List.getElem_cons_succ, List.setIfInBounds_toArray, List.set_cons_zero, List.set_cons_succ])
      refine wpAnyH_ready (rs := [2]) (by kernel_rfl) (by simp) ?_
      refine AllReadyH.cons rfl (fun K hK => ?_) AllReadyH.nil
      go_simp
      refine (power_any k A B _ HT1.out (by omega) (by omega) HAe.out HBe.out).mono ?_
      rintro e wn ⟨v, rfl, ir, fy⟩
      have IV := hide ir
      have HR := hide (HR.out.fr fy)
      have S2 := hide (S2.out.fr fy)
      have HT1 := hide (HT1.out.fr fy)
      have FW := hide (FW.out.trans fy)
      obtain ⟨u1, u2, u3, u4, u5, u6, rfl⟩ := ir.form
      clear ir fy
      (try go_wp2_with fail)
      refine hK.out _ _ ?_ (fun hHeld => ?_)
      · (try dsimp only)
        exact ⟨S2.out.1, S2.out.2.1⟩
      clear hK K
      (try simp only [Act.put, List.getElem_toArray, List.getElem_cons_zero, List.getElem_cons_succ, List.setIfInBounds_toArray, List.set_cons_zero, List.set_cons_succ])
      refine wpAnyH_ready (rs := [3]) (by kernel_rfl) (by simp) ?_
      refine AllReadyH.cons rfl (fun K hK => ?_) AllReadyH.nil
      go_simp
      refine (cmpR_any _ _ n d A B _ HT1.out HR.out IV.out (by omega) (by omega) (by omega) (by omega) _ EZ.out).mono ?_
      rintro e wn ⟨rfl, fy⟩
      have HR := hide (HR.out.fr fy)
      have S2 := hide (S2.out.fr fy)
      have HT1 := hide (HT1.out.fr fy)
      have FW := hide (FW.out.trans fy)
      clear fy
      (try go_wp2_with fail)
      refine hK.out _ _ ?_ (fun hHeld => ?_)
      · (try dsimp only)
        exact ⟨S2.out.1, S2.out.2.1⟩
      clear hK K
      (try simp only [Act.put, List.getElem_toArray, List.getElem_cons_zero, List.getElem_cons_succ, List.setIfInBounds_toArray, List.set_cons_zero, List.set_cons_succ])
      refine wpAnyH_take (i := 4) (v := ?_) rfl (by kernel_rfl) (by kernel_rfl) (by kernel_rfl) (fun _ _ _ h => h) (Or.inl ⟨by rfl, ?_⟩) (by assumption) ?_
      rotate_left
      · (intro w hSw; (try dsimp only at hSw); go_simp; try with_reducible rfl)
      (try simp only [Act.put, List.getElem_toArray, List.getElem_cons_zero, List.getElem_cons_succ, List.setIfInBounds_toArray, List.set_cons_zero, List.set_cons_succ])
      refine wpAnyH_done (by kernel_rfl) ?_ _
      go_wp2_with fail
      obtain ⟨V, rfl⟩ : ∃ V, V = wn := ⟨_, rfl⟩
      clear HR HT1 HAe HBe EZ hzd hzg hz0 hHeld nA nB IV
      go_loopw [5] (fun s5 wr => ∃ k : Int, -1500 ≤ k ∧ k ≤ E ∧ s5 = .int .i64 k ∧ Hid (Slot2 w wr w.heap.size (.slice a N ca) (.slice b M cb)) ∧ Hid (Fr w wr)) (fun s5 _ => (E - intOf s5).toNat)
      case atStart => exact ⟨k, k0, by omega, rfl, S2, FW⟩
      case round =>
        clear S2 FW
        obtain ⟨k, k0, kl, rfl, S2, FW⟩ := hrel
        have hw1 : IntKind.i64.wrap (k + 1) = k + 1 := by simp only [IntKind.wrap_i64]; omega
        obtain ⟨A, hA⟩ : ∃ A, 10 ^ (k + 1).toNat = A := ⟨_, rfl⟩
        obtain ⟨B, hB⟩ : ∃ B, 10 ^ (-(k + 1)).toNat = B := ⟨_, rfl⟩
        have c := CMP.out (k + 1)
        rw [hA, hB] at c
        have nA := nl_ten hA (by omega)
        have nB := nl_ten hB (by omega)
        have HAe := hide hA
        have HBe := hide hB
        clear hA hB
        have HR := hide (HA.out.fr FW.out)
        have HT1 := hide (Tab.fr HT.out FW.out)
        by_cases hk : k < E
        · obtain ⟨Z, hZ, hz0⟩ : ∃ Z, cmpZ (n * B) (A * d) = Z ∧ 0 ≤ Z := by
            refine ⟨_, rfl, ?_⟩
            have cn : ¬ n * B < A * d := fun hl => by have := c.1 hl; omega
            unfold cmpZ
            rw [if_neg cn]
            split <;> omega
          have EZ := hide hZ
          have hzd : decide (Z < 0) = false := decide_eq_false (by omega)
          have hzg : decide (0 ≤ Z) = true := decide_eq_true (by omega)
          clear c hZ
          have q2 := S2.out.1
          have q2' := S2.out.2.1
          have HR := hide (HR.out.fr (Fr.drew _))
          have S2 := hide (S2.out.fr (Fr.drew _))
          have HT1 := hide (HT1.out.fr (Fr.drew _))
          have FW := hide (FW.out.trans (Fr.drew _))
          go_wp2_with fail
          refine wp_region_held_drew (S := (fun w' => w'.cell? ⟨w.heap.size, 0, none⟩ = some (.slice a N ca) ∧ w'.cell? ⟨w.heap.size, 1, none⟩ = some (.slice b M cb))) (by kernel_rfl) ?_ (fun hHeld => ?_)
          · exact ⟨S2.out.1, S2.out.2.1⟩
          obtain ⟨wd, hwd⟩ : ∃ wd, wd = wr.drew := ⟨_, rfl⟩
          rw [← hwd] at hHeld HR S2 HT1 FW ⊢
          clear hwd
          refine wpAnyH_take (i := 0) (v := ?_) rfl (by kernel_rfl) (by kernel_rfl) (by kernel_rfl) (fun _ _ _ h => h) (Or.inl ⟨by rfl, ?_⟩) (by assumption) ?_
          rotate_left
          · (intro w hSw; (try dsimp only at hSw); go_simp; try with_reducible rfl)
          (try simp only [Act.put, List.getElem_toArray, List.getElem_cons_zero, List.getElem_cons_succ, List.setIfInBounds_toArray, List.set_cons_zero, List.set_cons_succ])
          refine wpAnyH_take (i := 1) (v := ?_) rfl (by kernel_rfl) (by kernel_rfl) (by kernel_rfl) (fun _ _ _ h => h) (Or.inl ⟨by rfl, ?_⟩) (by assumption) ?_
          rotate_left
          · (intro w hSw; (try dsimp only at hSw); go_simp; try with_reducible rfl)
          (try simp only [Act.put, List.getElem_toArray, List.getElem_cons_zero, List.getElem_cons_succ, List.setIfInBounds_toArray, List.set_cons_zero, List.set_cons_succ])
          refine wpAnyH_take (i := 2) (v := ?_) rfl (by kernel_rfl) (by kernel_rfl) (by kernel_rfl) (fun _ _ _ h => h) (Or.inl ⟨by rfl, ?_⟩) (by assumption) ?_
          rotate_left
          · (intro w hSw; (try dsimp only at hSw); go_simp; try with_reducible rfl)
          (try simp only [Act.put, List.getElem_toArray, List.getElem_cons_zero, List.getElem_cons_succ, List.setIfInBounds_toArray, List.set_cons_zero, List.set_cons_succ])
          refine wpAnyH_ready (rs := [3]) (by kernel_rfl) (by simp) ?_
          refine AllReadyH.cons rfl (fun K hK => ?_) AllReadyH.nil
          go_simp
          refine (power_any (k + 1) A B _ HT1.out (by omega) (by omega) HAe.out HBe.out).mono ?_
          rintro e wn ⟨v, rfl, ir, fy⟩
          have IV := hide ir
          have HR := hide (HR.out.fr fy)
          have S2 := hide (S2.out.fr fy)
          have HT1 := hide (HT1.out.fr fy)
          have FW := hide (FW.out.trans fy)
          obtain ⟨u1, u2, u3, u4, u5, u6, rfl⟩ := ir.form
          clear ir fy
          (try go_wp2_with fail)
          refine hK.out _ _ ?_ (fun hHeld => ?_)
          · (try dsimp only)
            exact ⟨S2.out.1, S2.out.2.1⟩
          clear hK K
          (try simp only [Act.put, List.getElem_toArray, List.getElem_cons_zero, List.getElem_cons_succ, List.setIfInBounds_toArray, List.set_cons_zero, List.set_cons_succ])
          refine wpAnyH_ready (rs := [4]) (by kernel_rfl) (by simp) ?_
          refine AllReadyH.cons rfl (fun K hK => ?_) AllReadyH.nil
          go_simp
          refine (cmpR_any _ _ n d A B _ HT1.out HR.out IV.out (by omega) (by omega) (by omega) (by omega) _ EZ.out).mono ?_
          rintro e wn ⟨rfl, fy⟩
          have HR := hide (HR.out.fr fy)
          have S2 := hide (S2.out.fr fy)
          have HT1 := hide (HT1.out.fr fy)
          have FW := hide (FW.out.trans fy)
          clear fy
          (try go_wp2_with fail)
          refine hK.out _ _ ?_ (fun hHeld => ?_)
          · (try dsimp only)
            exact ⟨S2.out.1, S2.out.2.1⟩
          clear hK K
          (try simp only [Act.put, List.getElem_toArray, List.getElem_cons_zero, List.getElem_cons_succ, List.setIfInBounds_toArray, List.set_cons_zero, List.set_cons_succ])
          refine wpAnyH_take (i := 5) (v := ?_) rfl (by kernel_rfl) (by kernel_rfl) (by kernel_rfl) (fun _ _ _ h => h) (Or.inl ⟨by rfl, ?_⟩) (by assumption) ?_
          rotate_left
          · (intro w hSw; (try dsimp only at hSw); go_simp; try with_reducible rfl)
          (try simp only [Act.put, List.getElem_toArray, List.getElem_cons_zero, List.getElem_cons_succ, List.setIfInBounds_toArray, List.set_cons_zero, List.set_cons_succ])
          refine wpAnyH_done (by kernel_rfl) ?_ _
          go_wp2_with fail
          go_roundw
          case rel => exact ⟨k + 1, by omega, by omega, by go_num, S2, FW⟩
          case measure => simp [intOf]; omega
        · have EZ : Hid (cmpZ (n * B) (A * d) = -1) := if_pos (c.2 (by omega))
          clear c
          have q2 := S2.out.1
          have q2' := S2.out.2.1
          have HR := hide (HR.out.fr (Fr.drew _))
          have S2 := hide (S2.out.fr (Fr.drew _))
          have HT1 := hide (HT1.out.fr (Fr.drew _))
          have FW := hide (FW.out.trans (Fr.drew _))
          go_wp2_with fail
          refine wp_region_held_drew (S := (fun w' => w'.cell? ⟨w.heap.size, 0, none⟩ = some (.slice a N ca) ∧ w'.cell? ⟨w.heap.size, 1, none⟩ = some (.slice b M cb))) (by kernel_rfl) ?_ (fun hHeld => ?_)
          · exact ⟨S2.out.1, S2.out.2.1⟩
          obtain ⟨wd, hwd⟩ : ∃ wd, wd = wr.drew := ⟨_, rfl⟩
          rw [← hwd] at hHeld HR S2 HT1 FW ⊢
          clear hwd
          refine wpAnyH_take (i := 0) (v := ?_) rfl (by kernel_rfl) (by kernel_rfl) (by kernel_rfl) (fun _ _ _ h => h) (Or.inl ⟨by rfl, ?_⟩) (by assumption) ?_
          rotate_left
          · (intro w hSw; (try dsimp only at hSw); go_simp; try with_reducible rfl)
          (try simp only [Act.put, List.getElem_toArray, List.getElem_cons_zero, List.getElem_cons_succ, List.setIfInBounds_toArray, List.set_cons_zero, List.set_cons_succ])
          refine wpAnyH_take (i := 1) (v := ?_) rfl (by kernel_rfl) (by kernel_rfl) (by kernel_rfl) (fun _ _ _ h => h) (Or.inl ⟨by rfl, ?_⟩) (by assumption) ?_
          rotate_left
          · (intro w hSw; (try dsimp only at hSw); go_simp; try with_reducible rfl)
          (try simp only [Act.put, List.getElem_toArray, List.getElem_cons_zero, List.getElem_cons_succ, List.setIfInBounds_toArray, List.set_cons_zero, List.set_cons_succ])
          refine wpAnyH_take (i := 2) (v := ?_) rfl (by kernel_rfl) (by kernel_rfl) (by kernel_rfl) (fun _ _ _ h => h) (Or.inl ⟨by rfl, ?_⟩) (by assumption) ?_
          rotate_left
          · (intro w hSw; (try dsimp only at hSw); go_simp; try with_reducible rfl)
          (try simp only [Act.put, List.getElem_toArray, List.getElem_cons_zero, List.getElem_cons_succ, List.setIfInBounds_toArray, List.set_cons_zero, List.set_cons_succ])
          refine wpAnyH_ready (rs := [3]) (by kernel_rfl) (by simp) ?_
          refine AllReadyH.cons rfl (fun K hK => ?_) AllReadyH.nil
          go_simp
          refine (power_any (k + 1) A B _ HT1.out (by omega) (by omega) HAe.out HBe.out).mono ?_
          rintro e wn ⟨v, rfl, ir, fy⟩
          have IV := hide ir
          have HR := hide (HR.out.fr fy)
          have S2 := hide (S2.out.fr fy)
          have HT1 := hide (HT1.out.fr fy)
          have FW := hide (FW.out.trans fy)
          obtain ⟨u1, u2, u3, u4, u5, u6, rfl⟩ := ir.form
          clear ir fy
          (try go_wp2_with fail)
          refine hK.out _ _ ?_ (fun hHeld => ?_)
          · (try dsimp only)
            exact ⟨S2.out.1, S2.out.2.1⟩
          clear hK K
          (try simp only [Act.put, List.getElem_toArray, List.getElem_cons_zero, List.getElem_cons_succ, List.setIfInBounds_toArray, List.set_cons_zero, List.set_cons_succ])
          refine wpAnyH_ready (rs := [4]) (by kernel_rfl) (by simp) ?_
          refine AllReadyH.cons rfl (fun K hK => ?_) AllReadyH.nil
          go_simp
          refine (cmpR_any _ _ n d A B _ HT1.out HR.out IV.out (by omega) (by omega) (by omega) (by omega) _ EZ.out).mono ?_
          rintro e wn ⟨rfl, fy⟩
          have HR := hide (HR.out.fr fy)
          have S2 := hide (S2.out.fr fy)
          have HT1 := hide (HT1.out.fr fy)
          have FW := hide (FW.out.trans fy)
          clear fy
          (try go_wp2_with fail)
          refine hK.out _ _ ?_ (fun hHeld => ?_)
          · (try dsimp only)
            exact ⟨S2.out.1, S2.out.2.1⟩
          clear hK K
          (try simp only [Act.put, List.getElem_toArray, List.getElem_cons_zero, List.getElem_cons_succ, List.setIfInBounds_toArray, List.set_cons_zero, List.set_cons_succ])
          refine wpAnyH_take (i := 5) (v := ?_) rfl (by kernel_rfl) (by kernel_rfl) (by kernel_rfl) (fun _ _ _ h => h) (Or.inl ⟨by rfl, ?_⟩) (by assumption) ?_
          rotate_left
          · (intro w hSw; (try dsimp only at hSw); go_simp; try with_reducible rfl)
          (try simp only [Act.put, List.getElem_toArray, List.getElem_cons_zero, List.getElem_cons_succ, List.setIfInBounds_toArray, List.set_cons_zero, List.set_cons_succ])
          refine wpAnyH_done (by kernel_rfl) ?_ _
          go_wp2_with fail
          go_ret
          exact ⟨by rw [show k = E by omega]; rfl, FW.out⟩
end Go.Proofs.YtammjgieocgelaaGreatDoor

/- Rounding: Exp. -/
namespace Go.Proofs.YtammjgieocgelaaGreatDoor
set_option linter.unusedVariables false
set_option linter.unusedSimpArgs false
open Go.RowKit

attribute [local go_sem] World.cell?_alloc_some
set_option maxHeartbeats 1000000 in
set_option maxRecDepth 4000 in
theorem expR_no (v : Value) (n d : Nat) (w : World) (h : IsRat w v n d) (h1 : nlen 4294967296 n ≤ 1000) (k1 : nlen 4294967296 d ≤ 1000) (b1 : nlen 2 n ≤ 3000) (b2 : nlen 2 d ≤ 3000) (h0 : n = 0) :
    Calls Tryz.prog 44 #[v] w fun e w' => e = .returned (.tuple #[.int .i64 0, .bool false]) ∧ Fr w w' := by
  have HA := hide h
  obtain ⟨a, N, ca, b, M, cb, rfl⟩ := h.form
  have hd := h.1
  have np1 : nlen 4294967296 (rN n d) ≤ 1000 := nl_le h1 (rN_le _ _)
  have nq1 : nlen 4294967296 (rD n d) ≤ 1000 := nl_le k1 (rD_le _ _)
  have bp1 : nlen 2 (rN n d) ≤ 3000 := Nat.le_trans (nlen_mono (by omega) (rN_le _ _)) b1
  have bq1 : nlen 2 (rD n d) ≤ 3000 := Nat.le_trans (nlen_mono (by omega) (rD_le _ _)) b2
  have TA : Hid (∀ wz, Fr w wz → Calls Tryz.prog 67 #[.agg #[.slice a N ca, .slice b M cb]] wz fun e w' => ∃ a c b k, e = .returned (.tuple #[.agg #[.slice a (nlen 4294967296 (rN n d)) c], .agg #[.slice b (nlen 4294967296 (rD n d)) k]]) ∧ IsNat w' (.agg #[.slice a (nlen 4294967296 (rN n d)) c]) (rN n d) ∧ IsNat w' (.agg #[.slice b (nlen 4294967296 (rD n d)) k]) (rD n d) ∧ Fr wz w') := fun wz f => terms_rat _ n d wz (HA.out.fr f) (by omega)
  generalize rN n d = p at *
  generalize rD n d = q at *
  clear h
  go_enter Tryz.func44, Tryz.ntmps44
  go_wp2_with fail
  obtain ⟨W, hW⟩ : ∃ W, W = (w.alloc (Obj.cells #[Value.slice a N ca, Value.slice b M cb] 55)) := ⟨_, rfl⟩
  have fW : Fr w W := by rw [hW]; exact (Fr.alloc w (Obj.cells #[Value.slice a N ca, Value.slice b M cb] 55))
  have s1 : Slot2 w W (w.heap.size) (.slice a N ca) (.slice b M cb) := by
    rw [hW]; simpa using Slot2.new (Fr.refl w) a N ca b M cb 55
  rw [← hW]
  clear hW
  refine (TA.out _ fW).mono ?_
  rintro e w1 ⟨ap, cp, aq, cq, rfl, ip, iq, f1⟩
  have S1 := hide (s1.fr f1)
  have FW := hide (fW.trans f1)
  have l1 := cell_lt S1.out.1
  simp only [] at l1
  clear s1 fW f1 TA
  go_wp2_with fail
  obtain ⟨W1, hW1⟩ : ∃ W, W = ((w1.alloc (Obj.cells #[Value.slice ap (nlen 4294967296 p) cp] 53)).alloc (Obj.cells #[Value.slice aq (nlen 4294967296 q) cq] 53)) := ⟨_, rfl⟩
  have f1 : Fr w1 W1 := by rw [hW1]; exact ((Fr.alloc w1 (Obj.cells #[Value.slice ap (nlen 4294967296 p) cp] 53)).trans (Fr.alloc _ (Obj.cells #[Value.slice aq (nlen 4294967296 q) cq] 53)))
  have s4 : Slot w1 W1 (w1.heap.size) (.slice ap (nlen 4294967296 p) cp) := by
    rw [hW1]; simpa using (Slot.new (Fr.refl w1) ap (nlen 4294967296 p) cp 53).fr (Fr.alloc _ _)
  have s5 : Slot w1 W1 (w1.heap.size + 1) (.slice aq (nlen 4294967296 q) cq) := by
    rw [hW1]; simpa using Slot.new (Fr.alloc w1 (Obj.cells #[Value.slice ap (nlen 4294967296 p) cp] 53)) aq (nlen 4294967296 q) cq 53
  rw [← hW1]
  clear hW1
  have IP := hide (ip.fr f1)
  have IQ := hide (iq.fr f1)
  have S1 := hide (S1.out.fr f1)
  have FW := hide (FW.out.trans f1)
  have cA : ∀ p : FrBox W1, p.now.cell? ⟨w1.heap.size, 0, none⟩ = _ := fun p => fr_cell p.fr s4.1
  have cB : ∀ p : FrBox W1, p.now.cell? ⟨w1.heap.size + 1, 0, none⟩ = _ := fun p => fr_cell p.fr s5.1
  have kA : Hid (∀ z : FrBox W1, Calls Tryz.prog 53 #[.agg #[.slice ap (nlen 4294967296 p) cp]] z.now fun e w'' => e = .returned (.int .i64 (nlen 2 p : Int)) ∧ ∃ z : FrBox W1, w'' = z.now) := fun z => Calls.fr_of (bits_any _ p _ (IP.out.fr z.fr) (by omega))
  have kB : Hid (∀ z : FrBox W1, Calls Tryz.prog 53 #[.agg #[.slice aq (nlen 4294967296 q) cq]] z.now fun e w'' => e = .returned (.int .i64 (nlen 2 q : Int)) ∧ ∃ z : FrBox W1, w'' = z.now) := fun z => Calls.fr_of (bits_any _ q _ (IQ.out.fr z.fr) (by omega))
  clear s4 s5 f1 ip iq IP IQ
  generalize nlen 2 p = x at *
  generalize nlen 2 q = y at *
  have hwx : IntKind.i64.wrap ((x : Int) - y) = (x : Int) - y := by simp only [IntKind.wrap_i64]; omega
  have nb := FrBox.some W1
  go_wp2_with fail
  refine wp_region_fr (by kernel_rfl) (by kernel_rfl) ?_
  repeat (quiet_step (first | with_reducible exact kA.out _ | with_reducible exact kB.out _))
  refine wpQuiet_nil ?_
  intro wq hq
  obtain ⟨z, hz⟩ := hq
  have fq := z.fr
  rw [← hz] at fq
  have S1 := hide (S1.out.fr fq)
  have FW := hide (FW.out.trans fq)
  clear hz cA cB kA kB nb z fq
  have q1 := S1.out.1
  have q1' := S1.out.2.1
  go_wp2_with fail
  refine (isNoughtR_any _ n d _ (HA.out.fr FW.out) (by omega)).mono ?_
  rintro e w3 ⟨rfl, f3⟩
  have S1 := hide (S1.out.fr f3)
  have FW := hide (FW.out.trans f3)
  clear f3 q1 q1'
  have q1 := S1.out.1
  have q1' := S1.out.2.1
  rw [decide_eq_true h0]
  go_wp2_with fail
  go_ret2
  exact ⟨rfl, FW.out⟩

set_option maxHeartbeats 1000000 in
set_option maxRecDepth 4000 in
theorem expR_yes (v : Value) (n d : Nat) (w : World) (h : IsRat w v n d) (h1 : nlen 4294967296 n ≤ 1000) (k1 : nlen 4294967296 d ≤ 1000) (b1 : nlen 2 n ≤ 3000) (b2 : nlen 2 d ≤ 3000) (hT : Tab w) (E : Int) (hE : IsExp n d E) (E0 : -1500 ≤ E) (E1 : E ≤ 1500) :
    Calls Tryz.prog 44 #[v] w fun e w' => e = .returned (.tuple #[.int .i64 E, .bool true]) ∧ Fr w w' := by
  have HE := hide hE
  have HT := hide hT
  have hn0 : n ≠ 0 := hE.ne h.1
  clear hE hT
  have HA := hide h
  obtain ⟨a, N, ca, b, M, cb, rfl⟩ := h.form
  have hd := h.1
  have np1 : nlen 4294967296 (rN n d) ≤ 1000 := nl_le h1 (rN_le _ _)
  have nq1 : nlen 4294967296 (rD n d) ≤ 1000 := nl_le k1 (rD_le _ _)
  have bp1 : nlen 2 (rN n d) ≤ 3000 := Nat.le_trans (nlen_mono (by omega) (rN_le _ _)) b1
  have bq1 : nlen 2 (rD n d) ≤ 3000 := Nat.le_trans (nlen_mono (by omega) (rD_le _ _)) b2
  have TA : Hid (∀ wz, Fr w wz → Calls Tryz.prog 67 #[.agg #[.slice a N ca, .slice b M cb]] wz fun e w' => ∃ a c b k, e = .returned (.tuple #[.agg #[.slice a (nlen 4294967296 (rN n d)) c], .agg #[.slice b (nlen 4294967296 (rD n d)) k]]) ∧ IsNat w' (.agg #[.slice a (nlen 4294967296 (rN n d)) c]) (rN n d) ∧ IsNat w' (.agg #[.slice b (nlen 4294967296 (rD n d)) k]) (rD n d) ∧ Fr wz w') := fun wz f => terms_rat _ n d wz (HA.out.fr f) (by omega)
  generalize rN n d = p at *
  generalize rD n d = q at *
  clear h
  go_enter Tryz.func44, Tryz.ntmps44
  go_wp2_with fail
  obtain ⟨W, hW⟩ : ∃ W, W = (w.alloc (Obj.cells #[Value.slice a N ca, Value.slice b M cb] 55)) := ⟨_, rfl⟩
  have fW : Fr w W := by rw [hW]; exact (Fr.alloc w (Obj.cells #[Value.slice a N ca, Value.slice b M cb] 55))
  have s1 : Slot2 w W (w.heap.size) (.slice a N ca) (.slice b M cb) := by
    rw [hW]; simpa using Slot2.new (Fr.refl w) a N ca b M cb 55
  rw [← hW]
  clear hW
  refine (TA.out _ fW).mono ?_
  rintro e w1 ⟨ap, cp, aq, cq, rfl, ip, iq, f1⟩
  have S1 := hide (s1.fr f1)
  have FW := hide (fW.trans f1)
  have l1 := cell_lt S1.out.1
  simp only [] at l1
  clear s1 fW f1 TA
  go_wp2_with fail
  obtain ⟨W1, hW1⟩ : ∃ W, W = ((w1.alloc (Obj.cells #[Value.slice ap (nlen 4294967296 p) cp] 53)).alloc (Obj.cells #[Value.slice aq (nlen 4294967296 q) cq] 53)) := ⟨_, rfl⟩
  have f1 : Fr w1 W1 := by rw [hW1]; exact ((Fr.alloc w1 (Obj.cells #[Value.slice ap (nlen 4294967296 p) cp] 53)).trans (Fr.alloc _ (Obj.cells #[Value.slice aq (nlen 4294967296 q) cq] 53)))
  have s4 : Slot w1 W1 (w1.heap.size) (.slice ap (nlen 4294967296 p) cp) := by
    rw [hW1]; simpa using (Slot.new (Fr.refl w1) ap (nlen 4294967296 p) cp 53).fr (Fr.alloc _ _)
  have s5 : Slot w1 W1 (w1.heap.size + 1) (.slice aq (nlen 4294967296 q) cq) := by
    rw [hW1]; simpa using Slot.new (Fr.alloc w1 (Obj.cells #[Value.slice ap (nlen 4294967296 p) cp] 53)) aq (nlen 4294967296 q) cq 53
  rw [← hW1]
  clear hW1
  have IP := hide (ip.fr f1)
  have IQ := hide (iq.fr f1)
  have S1 := hide (S1.out.fr f1)
  have FW := hide (FW.out.trans f1)
  have cA : ∀ p : FrBox W1, p.now.cell? ⟨w1.heap.size, 0, none⟩ = _ := fun p => fr_cell p.fr s4.1
  have cB : ∀ p : FrBox W1, p.now.cell? ⟨w1.heap.size + 1, 0, none⟩ = _ := fun p => fr_cell p.fr s5.1
  have kA : Hid (∀ z : FrBox W1, Calls Tryz.prog 53 #[.agg #[.slice ap (nlen 4294967296 p) cp]] z.now fun e w'' => e = .returned (.int .i64 (nlen 2 p : Int)) ∧ ∃ z : FrBox W1, w'' = z.now) := fun z => Calls.fr_of (bits_any _ p _ (IP.out.fr z.fr) (by omega))
  have kB : Hid (∀ z : FrBox W1, Calls Tryz.prog 53 #[.agg #[.slice aq (nlen 4294967296 q) cq]] z.now fun e w'' => e = .returned (.int .i64 (nlen 2 q : Int)) ∧ ∃ z : FrBox W1, w'' = z.now) := fun z => Calls.fr_of (bits_any _ q _ (IQ.out.fr z.fr) (by omega))
  clear s4 s5 f1 ip iq IP IQ
  generalize nlen 2 p = x at *
  generalize nlen 2 q = y at *
  have hwx : IntKind.i64.wrap ((x : Int) - y) = (x : Int) - y := by simp only [IntKind.wrap_i64]; omega
  have nb := FrBox.some W1
  go_wp2_with fail
  refine wp_region_fr (by kernel_rfl) (by kernel_rfl) ?_
  repeat (quiet_step (first | with_reducible exact kA.out _ | with_reducible exact kB.out _))
  refine wpQuiet_nil ?_
  intro wq hq
  obtain ⟨z, hz⟩ := hq
  have fq := z.fr
  rw [← hz] at fq
  have S1 := hide (S1.out.fr fq)
  have FW := hide (FW.out.trans fq)
  clear hz cA cB kA kB nb z fq
  have q1 := S1.out.1
  have q1' := S1.out.2.1
  go_wp2_with fail
  refine (isNoughtR_any _ n d _ (HA.out.fr FW.out) (by omega)).mono ?_
  rintro e w3 ⟨rfl, f3⟩
  have S1 := hide (S1.out.fr f3)
  have FW := hide (FW.out.trans f3)
  clear f3 q1 q1'
  have q1 := S1.out.1
  have q1' := S1.out.2.1
  rw [decide_eq_false hn0]
  go_wp2_with fail
  refine (firstExp_any _ n d _ E _ (Tab.fr HT.out FW.out) (HA.out.fr FW.out) (by omega) (by omega) (by omega) (by omega) HE.out E0 E1).mono ?_
  rintro e w4 ⟨rfl, f4⟩
  have FW := hide (FW.out.trans f4)
  clear f4 S1 q1 q1'
  go_wp2_with fail
  go_ret2
  exact ⟨rfl, FW.out⟩
end Go.Proofs.YtammjgieocgelaaGreatDoor

/- Rounding: texts of rounded numbers (plain maths). -/
namespace Go.Proofs.YtammjgieocgelaaGreatDoor
set_option linter.unusedVariables false
set_option linter.unusedSimpArgs false
open Go.Lib (decDigits)

theorem padD_len (n : Nat) (l : List UInt8) : (padD n l).length = max n l.length := by
  unfold padD
  rw [List.length_append, List.length_replicate]
  omega
theorem padD_long {n : Nat} {l : List UInt8} (h : n ≤ l.length) : padD n l = l := by
  unfold padD
  rw [show n - l.length = 0 by omega]
  rfl
theorem padD_one {n : Nat} {l : List UInt8} (h : l.length ≤ n) : padD (n + 1) l = 48 :: padD n l := by
  unfold padD
  rw [show n + 1 - l.length = (n - l.length) + 1 by omega]
  rfl
theorem padD_nought {n : Nat} (h : 1 ≤ n) : padD n [48] = padD n [] := by
  unfold padD
  simp only [List.length_singleton, List.length_nil, Nat.sub_zero, List.append_nil]
  obtain ⟨m, rfl⟩ : ∃ m, n = m + 1 := ⟨n - 1, by omega⟩
  rw [Nat.add_sub_cancel, List.replicate_succ']
theorem dec_zero : decDigits 0 = [48] := by rw [Lib.decDigits_one (by decide)]; rfl
/-- The decimals of a number, of 0 none. -/
def textD (P : Nat) : List UInt8 := if P = 0 then [] else decDigits P
def fixD (p P : Nat) : List UInt8 := padD p (textD P)
/-- Whole ones, and those behind the point. -/
def wD (p P : Nat) : List UInt8 := (fixD p P).take ((fixD p P).length - p)
def fD (p P : Nat) : List UInt8 := (fixD p P).drop ((fixD p P).length - p)
theorem fixD_len (p P : Nat) : p ≤ (fixD p P).length := by unfold fixD; rw [padD_len]; omega
theorem fD_len (p P : Nat) : (fD p P).length = p := by
  have := fixD_len p P
  unfold fD
  rw [List.length_drop]
  omega
theorem wD_fD (p P : Nat) : wD p P ++ fD p P = fixD p P := List.take_append_drop _ _
theorem textD_all (P : Nat) : AllD (textD P) := by
  unfold textD
  split
  · exact allD_nil
  · exact dec_all P
theorem textD_val (P : Nat) : valD (textD P) = P := by
  unfold textD
  split
  · rename_i h; rw [h]; rfl
  · exact dec_val P
theorem fixD_all (p P : Nat) : AllD (fixD p P) := by
  unfold fixD padD
  rw [allD_append]
  exact ⟨allD_zeros _, textD_all P⟩
theorem fixD_val (p P : Nat) : valD (fixD p P) = P := by
  unfold fixD padD
  rw [valD_pad, textD_val]
theorem dec_head_ne {P : Nat} (h : P ≠ 0) : (decDigits P).head? ≠ some 48 := fun e => h ((dec_head P).1 e)
theorem wD_head (p P : Nat) : (wD p P).head? ≠ some 48 := by
  by_cases c : (textD P).length ≤ p
  · have e : wD p P = [] := by
      unfold wD fixD
      rw [padD_len, show max p (textD P).length - p = 0 by omega, List.take_zero]
    rw [e]
    simp
  · have e : wD p P = (textD P).take ((textD P).length - p) := by
      unfold wD fixD
      rw [padD_long (by omega)]
    have h0 : P ≠ 0 := by
      rintro rfl
      exact c (by unfold textD; rw [if_pos rfl]; simp)
    have e2 : textD P = decDigits P := if_neg h0
    rw [e, e2]
    rw [e2] at c
    have := dec_head_ne h0
    generalize decDigits P = l at *
    cases l with
    | nil => simp
    | cons a l =>
      rw [show (a :: l).length - p = ((a :: l).length - p - 1) + 1 by omega, List.take_succ_cons]
      exact this
/-- The program's way: one place more, a single nought ahead left out. -/
theorem at_cut (p P : Nat) : (if (padD (p + 1) (decDigits P)).take ((padD (p + 1) (decDigits P)).length - p) = [48] then [] else (padD (p + 1) (decDigits P)).take ((padD (p + 1) (decDigits P)).length - p)) = wD p P ∧ (padD (p + 1) (decDigits P)).drop ((padD (p + 1) (decDigits P)).length - p) = fD p P := by
  by_cases c : (decDigits P).length ≤ p
  · have e1 : padD p (decDigits P) = fixD p P := by
      unfold fixD textD
      split
      · rename_i h
        subst h
        rw [dec_zero] at c ⊢
        exact padD_nought c
      · rfl
    have el : (fixD p P).length = p := by rw [← e1, padD_len]; omega
    have ew : wD p P = [] := by unfold wD; rw [el, Nat.sub_self, List.take_zero]
    have ef : fD p P = fixD p P := by unfold fD; rw [el, Nat.sub_self, List.drop_zero]
    rw [padD_one c, e1, ew, ef, List.length_cons, el, show p + 1 - p = 1 by omega]
    exact ⟨if_pos rfl, rfl⟩
  · rw [padD_long (n := p + 1) (by omega)]
    by_cases h : P = 0
    · subst h
      rw [dec_zero] at c ⊢
      simp only [List.length_singleton] at c ⊢
      obtain rfl : p = 0 := by omega
      exact ⟨rfl, rfl⟩
    · have e2 : fixD p P = decDigits P := by
        unfold fixD textD
        rw [if_neg h, padD_long (by omega)]
      have hh := dec_head_ne h
      unfold wD fD
      rw [e2]
      refine ⟨if_neg ?_, rfl⟩
      intro e
      apply hh
      generalize decDigits P = l at *
      cases l with
      | nil => simp at c
      | cons a l =>
        rw [show (a :: l).length - p = ((a :: l).length - p - 1) + 1 by omega, List.take_succ_cons] at e
        injection e with e _
        rw [e]; rfl
theorem fixD_size {p P k : Nat} (hp : p ≤ k) (h : (decDigits P).length ≤ k) : (fixD p P).length ≤ k := by
  unfold fixD
  rw [padD_len]
  have : (textD P).length ≤ k := by
    unfold textD
    split
    · simp
    · exact h
  omega

/-- Rounded to c digits: their text, and the power of ten. -/
def sciD (c R : Nat) : List UInt8 := (decDigits R).take c
def sciE (c R : Nat) (E : Int) : Int := if c < (decDigits R).length then E + 1 else E
/-- How many decimals: as many as the document's digits. -/
theorem dec_len {R n : Nat} (h1 : 10 ^ n ≤ R) (h2 : R < 10 ^ (n + 1)) : (decDigits R).length = n + 1 := by
  rw [Lib.decDigits_length]
  induction n generalizing R with
  | zero => rw [Lib.nDigits_small (by simpa using h2)]
  | succ n ih =>
    have h10 : 10 ≤ R := Nat.le_trans (by rw [Nat.pow_succ]; have : 0 < 10 ^ n := Nat.pow_pos (by decide); omega) h1
    rw [Lib.nDigits, dif_neg (by omega), ih (R := R / 10)]
    · exact (Nat.le_div_iff_mul_le (by decide)).2 (by rw [← Nat.pow_succ]; exact h1)
    · exact Nat.div_lt_of_lt_mul (by rw [Nat.mul_comm, ← Nat.pow_succ]; exact h2)
theorem dec_len_ten (n : Nat) : (decDigits (10 ^ n)).length = n + 1 := dec_len (Nat.le_refl _) (Nat.pow_lt_pow_right (by decide) (by omega))
end Go.Proofs.YtammjgieocgelaaGreatDoor

/- Rounding: sci, To. -/
namespace Go.Proofs.YtammjgieocgelaaGreatDoor
set_option linter.unusedVariables false
set_option linter.unusedSimpArgs false
open Go.RowKit
open Go.Lib (decDigits)

attribute [local go_sem] World.cell?_alloc_some
/-- A variable of two cells, made behind W0. -/
def Two (W0 w : World) (b : Nat) (u v : Value) : Prop := w.cell? ⟨b, 0, none⟩ = some u ∧ w.cell? ⟨b, 1, none⟩ = some v ∧ (∀ o, w.frozen? ⟨b, o, none⟩ = false) ∧ W0.heap.size ≤ b
theorem Two.fr {W0 w w' : World} {b : Nat} {u v : Value} (h : Two W0 w b u v) (f : Fr w w') : Two W0 w' b u v := by
  refine ⟨fr_cell f h.1, fr_cell f h.2.1, fun o => ?_, h.2.2.2⟩
  have hb := f.block b (cell_lt h.1)
  have := h.2.2.1 o
  unfold World.frozen? at *
  rw [hb]; exact this
theorem Two.new {W0 w : World} (f : Fr W0 w) (u v : Value) (t : TypeId) : Two W0 (w.alloc (.cells #[u, v] t)) w.heap.size u v := ⟨by simp [go_sem], by simp [go_sem], fun o => by simp [go_sem], f.size⟩
theorem Two.set {W0 w : World} {b : Nat} {u v : Value} (h : Two W0 w b u v) (u' v' : Value) : Two W0 ((w.setCell ⟨b, 0, none⟩ u').setCell ⟨b, 1, none⟩ v') b u' v' := by
  have e1 : (w.setCell ⟨b, 0, none⟩ u').cell? ⟨b, 1, none⟩ = some v := (World.cell?_setCell_other _ _ _ _ (fun e => by injection e with _ e; omega)).trans h.2.1
  refine ⟨(World.cell?_setCell_other _ _ _ _ (fun e => by injection e with _ e; omega)).trans (World.cell?_setCell_same _ _ _ h.1), World.cell?_setCell_same _ _ _ e1, fun o => by simpa using h.2.2.1 o, h.2.2.2⟩
theorem Two.set0 {W0 w : World} {b : Nat} {u v : Value} (h : Two W0 w b u v) (u' : Value) : Two W0 (w.setCell ⟨b, 0, none⟩ u') b u' v :=
  ⟨World.cell?_setCell_same _ _ _ h.1, (World.cell?_setCell_other _ _ _ _ (fun e => by injection e with _ e; omega)).trans h.2.1, fun o => by simpa using h.2.2.1 o, h.2.2.2⟩
theorem Two.set_fr {W0 w : World} {b : Nat} {u v : Value} (h : Two W0 w b u v) (f : Fr W0 w) (v1 v2 : Value) : Fr W0 ((w.setCell ⟨b, 0, none⟩ v1).setCell ⟨b, 1, none⟩ v2) := Below.setCell (Below.setCell f h.2.2.2 _) h.2.2.2 _
theorem Two.set0_fr {W0 w : World} {b : Nat} {u v : Value} (h : Two W0 w b u v) (f : Fr W0 w) (v1 : Value) : Fr W0 (w.setCell ⟨b, 0, none⟩ v1) := Below.setCell f h.2.2.2 _
theorem results_sci {fn : Func} {p : Tmp} (h : fn.results = #[.cell p 27]) (tmps : Array Value) (w : World) (b : Nat) (v0 v1 : Value) (hp : tmps.getD p undef = .pointer (some ⟨b, 0, none⟩)) (hc : w.cell? ⟨b, 0, none⟩ = some v0) (hc' : w.cell? ⟨b, 1, none⟩ = some v1) :
    (results fn tmps).run Tryz.prog w = .ok (.agg #[v0, v1]) w := by
  have hp1 : tmps[p]?.getD undef = .pointer (some ⟨b, 0, none⟩) := by simpa using hp
  simp [results, h, hp1]
  go_simp
theorem results_sci_ok {fn : Func} {p u : Tmp} (h : fn.results = #[.cell p 27, .tmp u]) (tmps : Array Value) (w : World) (b : Nat) (v0 v1 : Value) (hp : tmps.getD p undef = .pointer (some ⟨b, 0, none⟩)) (hc : w.cell? ⟨b, 0, none⟩ = some v0) (hc' : w.cell? ⟨b, 1, none⟩ = some v1) :
    (results fn tmps).run Tryz.prog w = .ok (.tuple #[.agg #[v0, v1], tmps.getD u undef]) w := by
  have hp1 : tmps[p]?.getD undef = .pointer (some ⟨b, 0, none⟩) := by simpa using hp
  simp [results, h, hp1]
  go_simp
theorem nl_le2 {x y n : Nat} (h : nlen 4294967296 x ≤ n) (k : nlen 4294967296 y ≤ n) : nlen 4294967296 (x * y) ≤ n + n := nlen_mul b32 h k

set_option maxHeartbeats 1000000 in
set_option maxRecDepth 4000 in
theorem sci_any (v : Value) (n d : Nat) (E : Int) (c : Nat) (w : World) (hT : Tab w) (hP : PT w) (h : IsRat w v n d) (h1 : nlen 4294967296 n ≤ 1000) (k1 : nlen 4294967296 d ≤ 1000) (E0 : -1500 ≤ E) (E1 : E ≤ 1500) (c0 : 1 ≤ c) (c1 : c ≤ 400) (R : Nat) (eR : rndN (n * 10 ^ (-E).toNat * 10 ^ (c - 1)) (d * 10 ^ E.toNat) = R) :
    Calls Tryz.prog 45 #[v, .int .i64 E, .int .i64 c] w fun e w' => e = .returned (.agg #[.string (bs (sciD c R)), .int .i64 (sciE c R E)]) ∧ Fr w w' := by
  have HA := hide h
  have HT := hide hT
  have HP := hide hP
  obtain ⟨a, N, ca, b, M, cb, rfl⟩ := h.form
  obtain ⟨A, hA⟩ : ∃ A, 10 ^ (-E).toNat = A := ⟨_, rfl⟩
  obtain ⟨B, hB⟩ : ∃ B, 10 ^ (-(-E)).toNat = B := ⟨_, rfl⟩
  obtain ⟨C, hC⟩ : ∃ C, 10 ^ (c - 1) = C := ⟨_, rfl⟩
  have nA := nl_ten_m (m := 1500) hA (by omega) (by omega)
  have nB := nl_ten_m (m := 1500) hB (by omega) (by omega)
  have nC := nl_ten_m (m := 400) hC (by omega) (by omega)
  have hB' : 10 ^ E.toNat = B := by rw [← hB, Int.neg_neg]
  have hA0 : 0 < A := by rw [← hA]; exact Nat.pow_pos (by omega)
  have hB0 : 0 < B := by rw [← hB]; exact Nat.pow_pos (by omega)
  rw [hA, hC, hB'] at eR
  have hC2 : 10 ^ (((c : Nat) : Int) - 1).toNat = C := by rw [← hC, show (((c : Nat) : Int) - 1).toNat = c - 1 by omega]
  have hC3 : 10 ^ (-(((c : Nat) : Int) - 1)).toNat = 1 := by rw [show (-(((c : Nat) : Int) - 1)).toNat = 0 by omega]
  have nX : nlen 4294967296 (n * A) ≤ 2500 := nlen_mul b32 h1 nA
  have nY : nlen 4294967296 (d * B) ≤ 2500 := nlen_mul b32 k1 nB
  have nZ : nlen 4294967296 (n * A * C) ≤ 2900 := nlen_mul b32 nX nC
  have hd := h.1
  have nR : nlen 4294967296 R ≤ 3000 := by
    have hle : R ≤ n * A * C + 1 := by
      rw [← eR]
      unfold rndN
      have := Nat.div_le_self (n * A * C) (d * B)
      split <;> omega
    have h2 : nlen 4294967296 (n * A * C + 1) ≤ 2901 := nl_sum nZ (Nat.le_trans (nlen_le b32 (show 1 < 4294967296 ^ 1 by decide)) (by omega))
    exact Nat.le_trans (nlen_mono b32 hle) (by omega)
  have EA := hide hA
  have EB := hide hB
  have EC2 := hide hC2
  have EC3 := hide hC3
  have ER : Hid (rndN (n * A * C) (d * B * 1) = R) := by rw [Nat.mul_one]; exact eR
  obtain ⟨T, hTx⟩ : ∃ T, bs (decDigits R) = T := ⟨_, rfl⟩
  have TX : Hid (∀ w v, IsNat w v R → PT w → Calls Tryz.prog 70 #[v] w fun e w' => e = .returned (.string T) ∧ Fr w w') := by
    rw [← hTx]
    exact fun w v h hP => text_any v R w h (by omega) hP
  have zT : T.size ≤ 100000 := by rw [← hTx]; exact Nat.le_trans (dec_size nR) (by omega)
  obtain ⟨SD, hSD⟩ : ∃ SD, bs (sciD c R) = SD := ⟨_, rfl⟩
  obtain ⟨SE, hSE⟩ : ∃ SE, sciE c R E = SE := ⟨_, rfl⟩
  rw [hSD, hSE]
  have FIN : Hid ((T.size : Int) ≤ c → T = SD ∧ E = SE) := by
    intro hl
    rw [← hSD, ← hSE]
    have hl' : (decDigits R).length ≤ c := by rw [← bs_size, hTx]; omega
    unfold sciD sciE
    rw [List.take_of_length_le hl', if_neg (by omega), hTx]
    exact ⟨rfl, rfl⟩
  have FIN2 : Hid ((c : Int) < T.size → SD = T.extract 0 c ∧ SE = E + 1) := by
    intro hl
    rw [← hSD, ← hSE]
    have hl' : c < (decDigits R).length := by rw [← bs_size, hTx]; omega
    unfold sciD sciE
    rw [if_pos hl']
    refine ⟨?_, rfl⟩
    have := (cut_data T c (by omega)).1
    rw [bs_eta (T.extract 0 c), this, ← hTx, bs_data]
  clear hA hB hC hB' eR hC2 hC3 hTx h hT hP hSD hSE
  go_enter Tryz.func45, Tryz.ntmps45
  go_wp2_with fail
  obtain ⟨W, hW⟩ : ∃ W, W = ((w.alloc (Obj.cells #[Value.slice a N ca, Value.slice b M cb] 55)).alloc (Obj.cells #[Value.string ⟨#[]⟩, Value.int .i64 0] 27)) := ⟨_, rfl⟩
  have fW : Fr w W := by rw [hW]; exact (Fr.alloc w (Obj.cells #[Value.slice a N ca, Value.slice b M cb] 55)).trans (Fr.alloc _ (Obj.cells #[Value.string ⟨#[]⟩, Value.int .i64 0] 27))
  have s1 : Slot2 w W w.heap.size (.slice a N ca) (.slice b M cb) := by
    rw [hW]; simpa using (Slot2.new (Fr.refl w) a N ca b M cb 55).fr (Fr.alloc _ _)
  have r2 : Two w W (w.heap.size + 1) (Value.string ⟨#[]⟩) (Value.int .i64 0) := by
    rw [hW]; simpa using Two.new (Fr.alloc w (Obj.cells #[Value.slice a N ca, Value.slice b M cb] 55)) (Value.string ⟨#[]⟩) (Value.int .i64 0) 27
  rw [← hW]
  clear hW
  have S1 := hide s1
  have R2 := hide r2
  have FW := hide fW
  clear s1 r2 fW
  refine (scaleR_any _ n d (-E) A B _ (Tab.fr HT.out FW.out) (HA.out.fr FW.out) (by omega) (by omega) (by omega) (by omega) EA.out EB.out).mono ?_
  rintro e w1 ⟨v1, rfl, i1, f1⟩
  obtain ⟨u1, u2, u3, u4, u5, u6, rfl⟩ := i1.form
  have I1 := hide i1
  have R2 := hide (R2.out.fr f1)
  have FW := hide (FW.out.trans f1)
  clear i1 f1 S1
  go_wp2_with fail
  refine (scaleR_any _ (n * A) (d * B) ((c : Int) - 1) C 1 _ (Tab.fr HT.out FW.out) I1.out (by omega) (by omega) (by omega) (by omega) EC2.out EC3.out).mono ?_
  rintro e w2 ⟨v2, rfl, i2, f2⟩
  obtain ⟨u1, u2, u3, u4, u5, u6, rfl⟩ := i2.form
  have I2 := hide i2
  have R2 := hide (R2.out.fr f2)
  have FW := hide (FW.out.trans f2)
  clear i2 f2 I1
  go_wp2_with fail
  refine (whole_any _ (n * A * C) (d * B * 1) _ I2.out (by omega) (by rw [Nat.mul_one]; omega) R ER.out).mono ?_
  rintro e w3 ⟨a3, c3, rfl, i3, f3⟩
  have I3 := hide i3
  have R2 := hide (R2.out.fr f3)
  have FW := hide (FW.out.trans f3)
  clear i3 f3 I2
  go_wp2_with fail
  refine (TX.out _ _ I3.out (PT.fr HP.out FW.out)).mono ?_
  rintro e w4 ⟨rfl, f4⟩
  have R2 := hide (R2.out.fr f4)
  have FW := hide (FW.out.trans f4)
  clear f4 I3 TX
  have q2 := R2.out.1
  have q2' := R2.out.2.1
  have z2 := R2.out.2.2.1 0
  have z2' := R2.out.2.2.1 1
  by_cases hl : (T.size : Int) ≤ c
  · obtain ⟨e1, e2⟩ := FIN.out hl
    subst e2
    subst e1
    go_wp2_with fail
    (try simp only [Exit.inBlock, Exit.then])
    have FW := hide (R2.out.set_fr FW.out (.string T) (.int .i64 E))
    have R2 := hide (R2.out.set (.string T) (.int .i64 E))
    exact bodyPost_ret (results_sci rfl _ _ (w.heap.size + 1) _ _ rfl R2.out.1 R2.out.2.1) rfl ⟨rfl, FW.out⟩
  · obtain ⟨e1, e2⟩ := FIN2.out (by omega)
    subst e2
    subst e1
    have hcT : (c : Int) ≤ T.size := by omega
    go_wp2_with fail
    (try simp only [Exit.inBlock, Exit.then])
    have FW := hide (R2.out.set_fr FW.out (.string (T.extract 0 c)) (.int .i64 (E + 1)))
    have R2 := hide (R2.out.set (.string (T.extract 0 c)) (.int .i64 (E + 1)))
    exact bodyPost_ret (results_sci rfl _ _ (w.heap.size + 1) _ _ rfl R2.out.1 R2.out.2.1) rfl ⟨rfl, FW.out⟩
end Go.Proofs.YtammjgieocgelaaGreatDoor

/- Rounding: To, At. -/
namespace Go.Proofs.YtammjgieocgelaaGreatDoor
set_option linter.unusedVariables false
set_option linter.unusedSimpArgs false
open Go.RowKit
open Go.Lib (decDigits)

attribute [local go_sem] World.cell?_alloc_some
set_option maxHeartbeats 1000000 in
theorem toR_zero (v : Value) (n d : Nat) (w : World) (h : IsRat w v n d) (h1 : nlen 4294967296 n ≤ 1000) (k1 : nlen 4294967296 d ≤ 1000) (b1 : nlen 2 n ≤ 3000) (b2 : nlen 2 d ≤ 3000) (c : Int) (c0 : -9223372036854775808 ≤ c) (c1 : c ≤ 9223372036854775807) (h0 : n = 0) :
    Calls Tryz.prog 24 #[v, .int .i64 c] w fun e w' => e = .returned (.tuple #[.agg #[.string ⟨#[]⟩, .int .i64 0], .bool false]) ∧ Fr w w' := by
  have HA := hide h
  obtain ⟨a, N, ca, b, M, cb, rfl⟩ := h.form
  clear h
  go_enter Tryz.func24, Tryz.ntmps24
  go_wp2_with fail
  obtain ⟨W, hW⟩ : ∃ W, W = ((w.alloc (Obj.cells #[Value.slice a N ca, Value.slice b M cb] 55)).alloc (Obj.cells #[Value.string ⟨#[]⟩, Value.int .i64 0] 27)) := ⟨_, rfl⟩
  have fW : Fr w W := by rw [hW]; exact (Fr.alloc w (Obj.cells #[Value.slice a N ca, Value.slice b M cb] 55)).trans (Fr.alloc _ (Obj.cells #[Value.string ⟨#[]⟩, Value.int .i64 0] 27))
  have s1 : Slot2 w W w.heap.size (.slice a N ca) (.slice b M cb) := by
    rw [hW]; simpa using (Slot2.new (Fr.refl w) a N ca b M cb 55).fr (Fr.alloc _ _)
  have r2 : Two w W (w.heap.size + 1) (Value.string ⟨#[]⟩) (Value.int .i64 0) := by
    rw [hW]; simpa using Two.new (Fr.alloc w (Obj.cells #[Value.slice a N ca, Value.slice b M cb] 55)) (Value.string ⟨#[]⟩) (Value.int .i64 0) 27
  rw [← hW]
  clear hW
  have S1 := hide s1
  have R2 := hide r2
  have FW := hide fW
  clear s1 r2 fW
  refine (expR_no _ n d _ (HA.out.fr FW.out) h1 k1 b1 b2 h0).mono ?_
  rintro e w1 ⟨rfl, f1⟩
  have S1 := hide (S1.out.fr f1)
  have R2 := hide (R2.out.fr f1)
  have FW := hide (FW.out.trans f1)
  clear f1
  have q1 := S1.out.1
  have q1' := S1.out.2.1
  have q2 := R2.out.1
  have q2' := R2.out.2.1
  have z2 := R2.out.2.2.1 0
  have z2' := R2.out.2.2.1 1
  go_wp2_with fail
  (try simp only [Exit.inBlock, Exit.then])
  have FW := hide (R2.out.set_fr FW.out (Value.string ⟨#[]⟩) (Value.int .i64 0))
  have R2 := hide (R2.out.set (Value.string ⟨#[]⟩) (Value.int .i64 0))
  exact bodyPost_ret (results_sci_ok rfl _ _ (w.heap.size + 1) _ _ rfl R2.out.1 R2.out.2.1) rfl ⟨rfl, FW.out⟩

set_option maxHeartbeats 1000000 in
theorem toR_out (v : Value) (n d : Nat) (w : World) (h : IsRat w v n d) (h1 : nlen 4294967296 n ≤ 1000) (k1 : nlen 4294967296 d ≤ 1000) (b1 : nlen 2 n ≤ 3000) (b2 : nlen 2 d ≤ 3000) (hT : Tab w) (E : Int) (hE : IsExp n d E) (E0 : -1500 ≤ E) (E1 : E ≤ 1500) (c : Int) (c0 : -9223372036854775808 ≤ c) (c1 : c ≤ 9223372036854775807) (hc : c < 1 ∨ 400 < c) :
    Calls Tryz.prog 24 #[v, .int .i64 c] w fun e w' => e = .returned (.tuple #[.agg #[.string ⟨#[]⟩, .int .i64 0], .bool false]) ∧ Fr w w' := by
  have HT := hide hT
  have HE := hide hE
  clear hT hE
  have HA := hide h
  obtain ⟨a, N, ca, b, M, cb, rfl⟩ := h.form
  clear h
  go_enter Tryz.func24, Tryz.ntmps24
  go_wp2_with fail
  obtain ⟨W, hW⟩ : ∃ W, W = ((w.alloc (Obj.cells #[Value.slice a N ca, Value.slice b M cb] 55)).alloc (Obj.cells #[Value.string ⟨#[]⟩, Value.int .i64 0] 27)) := ⟨_, rfl⟩
  have fW : Fr w W := by rw [hW]; exact (Fr.alloc w (Obj.cells #[Value.slice a N ca, Value.slice b M cb] 55)).trans (Fr.alloc _ (Obj.cells #[Value.string ⟨#[]⟩, Value.int .i64 0] 27))
  have s1 : Slot2 w W w.heap.size (.slice a N ca) (.slice b M cb) := by
    rw [hW]; simpa using (Slot2.new (Fr.refl w) a N ca b M cb 55).fr (Fr.alloc _ _)
  have r2 : Two w W (w.heap.size + 1) (Value.string ⟨#[]⟩) (Value.int .i64 0) := by
    rw [hW]; simpa using Two.new (Fr.alloc w (Obj.cells #[Value.slice a N ca, Value.slice b M cb] 55)) (Value.string ⟨#[]⟩) (Value.int .i64 0) 27
  rw [← hW]
  clear hW
  have S1 := hide s1
  have R2 := hide r2
  have FW := hide fW
  clear s1 r2 fW
  refine (expR_yes _ n d _ (HA.out.fr FW.out) h1 k1 b1 b2 (Tab.fr HT.out FW.out) E HE.out E0 E1).mono ?_
  rintro e w1 ⟨rfl, f1⟩
  have S1 := hide (S1.out.fr f1)
  have R2 := hide (R2.out.fr f1)
  have FW := hide (FW.out.trans f1)
  clear f1
  have q1 := S1.out.1
  have q1' := S1.out.2.1
  have q2 := R2.out.1
  have q2' := R2.out.2.1
  have z2 := R2.out.2.2.1 0
  have z2' := R2.out.2.2.1 1
  rcases hc with hc | hc
  · go_wp2_with fail
    (try simp only [Exit.inBlock, Exit.then])
    have FW := hide (R2.out.set_fr FW.out (Value.string ⟨#[]⟩) (Value.int .i64 0))
    have R2 := hide (R2.out.set (Value.string ⟨#[]⟩) (Value.int .i64 0))
    exact bodyPost_ret (results_sci_ok rfl _ _ (w.heap.size + 1) _ _ rfl R2.out.1 R2.out.2.1) rfl ⟨rfl, FW.out⟩
  · have hc' : ¬ c < 1 := by omega
    go_wp2_with fail
    (try simp only [Exit.inBlock, Exit.then])
    have FW := hide (R2.out.set_fr FW.out (Value.string ⟨#[]⟩) (Value.int .i64 0))
    have R2 := hide (R2.out.set (Value.string ⟨#[]⟩) (Value.int .i64 0))
    exact bodyPost_ret (results_sci_ok rfl _ _ (w.heap.size + 1) _ _ rfl R2.out.1 R2.out.2.1) rfl ⟨rfl, FW.out⟩

set_option maxHeartbeats 1000000 in
theorem toR_yes (v : Value) (n d : Nat) (w : World) (h : IsRat w v n d) (h1 : nlen 4294967296 n ≤ 1000) (k1 : nlen 4294967296 d ≤ 1000) (b1 : nlen 2 n ≤ 3000) (b2 : nlen 2 d ≤ 3000) (hT : Tab w) (hP : PT w) (E : Int) (hE : IsExp n d E) (E0 : -1500 ≤ E) (E1 : E ≤ 1500) (c : Nat) (c0 : 1 ≤ c) (c1 : c ≤ 400) (R : Nat) (eR : rndN (n * 10 ^ (-E).toNat * 10 ^ (c - 1)) (d * 10 ^ E.toNat) = R) (SD : ByteArray) (SE : Int) (hSD : bs (sciD c R) = SD) (hSE : sciE c R E = SE) :
    Calls Tryz.prog 24 #[v, .int .i64 c] w fun e w' => e = .returned (.tuple #[.agg #[.string SD, .int .i64 SE], .bool true]) ∧ Fr w w' := by
  have HT := hide hT
  have HP := hide hP
  have HE := hide hE
  have HSC : Hid (∀ w' , Fr w w' → Calls Tryz.prog 45 #[v, .int .i64 E, .int .i64 c] w' fun e w'' => e = .returned (.agg #[.string SD, .int .i64 SE]) ∧ Fr w' w'') := by
    intro w' f
    have := sci_any v n d E c w' (Tab.fr hT f) (PT.fr hP f) (h.fr f) h1 k1 E0 E1 c0 c1 R eR
    rwa [hSD, hSE] at this
  clear hT hP hE eR hSD hSE
  have HA := hide h
  obtain ⟨a, N, ca, b, M, cb, rfl⟩ := h.form
  clear h
  go_enter Tryz.func24, Tryz.ntmps24
  go_wp2_with fail
  obtain ⟨W, hW⟩ : ∃ W, W = ((w.alloc (Obj.cells #[Value.slice a N ca, Value.slice b M cb] 55)).alloc (Obj.cells #[Value.string ⟨#[]⟩, Value.int .i64 0] 27)) := ⟨_, rfl⟩
  have fW : Fr w W := by rw [hW]; exact (Fr.alloc w (Obj.cells #[Value.slice a N ca, Value.slice b M cb] 55)).trans (Fr.alloc _ (Obj.cells #[Value.string ⟨#[]⟩, Value.int .i64 0] 27))
  have s1 : Slot2 w W w.heap.size (.slice a N ca) (.slice b M cb) := by
    rw [hW]; simpa using (Slot2.new (Fr.refl w) a N ca b M cb 55).fr (Fr.alloc _ _)
  have r2 : Two w W (w.heap.size + 1) (Value.string ⟨#[]⟩) (Value.int .i64 0) := by
    rw [hW]; simpa using Two.new (Fr.alloc w (Obj.cells #[Value.slice a N ca, Value.slice b M cb] 55)) (Value.string ⟨#[]⟩) (Value.int .i64 0) 27
  rw [← hW]
  clear hW
  have S1 := hide s1
  have R2 := hide r2
  have FW := hide fW
  clear s1 r2 fW
  refine (expR_yes _ n d _ (HA.out.fr FW.out) h1 k1 b1 b2 (Tab.fr HT.out FW.out) E HE.out E0 E1).mono ?_
  rintro e w1 ⟨rfl, f1⟩
  have S1 := hide (S1.out.fr f1)
  have R2 := hide (R2.out.fr f1)
  have FW := hide (FW.out.trans f1)
  clear f1
  have q1 := S1.out.1
  have q1' := S1.out.2.1
  have q2 := R2.out.1
  have q2' := R2.out.2.1
  have z2 := R2.out.2.2.1 0
  have z2' := R2.out.2.2.1 1
  have hc0 : ¬ (c : Int) < 1 := by omega
  have hc1 : ¬ 400 < (c : Int) := by omega
  go_wp2_with fail
  refine (HSC.out _ FW.out).mono ?_
  rintro e w2 ⟨rfl, f1⟩
  clear q1 q1' q2 q2' z2 z2'
  have S1 := hide (S1.out.fr f1)
  have R2 := hide (R2.out.fr f1)
  have FW := hide (FW.out.trans f1)
  clear f1
  have q1 := S1.out.1
  have q1' := S1.out.2.1
  have q2 := R2.out.1
  have q2' := R2.out.2.1
  have z2 := R2.out.2.2.1 0
  have z2' := R2.out.2.2.1 1
  go_wp2_with fail
  (try simp only [Exit.inBlock, Exit.then])
  have FW := hide (R2.out.set_fr FW.out (Value.string SD) (Value.int .i64 SE))
  have R2 := hide (R2.out.set (Value.string SD) (Value.int .i64 SE))
  exact bodyPost_ret (results_sci_ok rfl _ _ (w.heap.size + 1) _ _ rfl R2.out.1 R2.out.2.1) rfl ⟨rfl, FW.out⟩

end Go.Proofs.YtammjgieocgelaaGreatDoor

/- Rounding: At. -/
namespace Go.Proofs.YtammjgieocgelaaGreatDoor
set_option linter.unusedVariables false
set_option linter.unusedSimpArgs false
open Go.RowKit
open Go.Lib (decDigits)

attribute [local go_sem] World.cell?_alloc_some

end Go.Proofs.YtammjgieocgelaaGreatDoor

/- Rounding: Step. -/
namespace Go.Proofs.YtammjgieocgelaaGreatDoor
set_option linter.unusedVariables false
set_option linter.unusedSimpArgs false
open Go.RowKit

attribute [local go_sem] World.cell?_alloc_some
theorem rat_turn {w : World} {v : Value} {n d x y : Nat} (h : IsRat w v x y) (e : x = rD n d) (e' : y = rN n d) (h0 : n ≠ 0) (hd : d ≠ 0) : IsRat w v d n := by
  refine h.same h0 ?_
  have a1 := @rN_mul n d
  have a2 := @rD_mul n d
  subst e e'
  generalize rN n d = P at *
  generalize rD n d = Q at *
  generalize Nat.gcd n d = G at *
  subst a1 a2
  ac_rfl

end Go.Proofs.YtammjgieocgelaaGreatDoor

/- The document's rounding: Cut. -/
namespace Go.Proofs.YtammjgieocgelaaGreatDoor
set_option linter.unusedVariables false
set_option linter.unusedSimpArgs false
open Go.RowKit
open Go.Lib (decDigits)

attribute [local go_sem] World.cell?_alloc_some
theorem nlen_div10 {x n : Nat} (hn : n < nlen 10 x) : nlen 10 (x / 10 ^ n) = nlen 10 x - n := by
  have h0 : x ≠ 0 := by rintro rfl; rw [nlen_zero] at hn; omega
  have h1 := lt_nlen (B := 10) (by omega) x
  have h2 := nlen_low (B := 10) (by omega) x h0
  generalize nlen 10 x = L at *
  refine nlen_eq ten2 ?_ (.inr ?_)
  · refine Nat.div_lt_of_lt_mul ?_
    rw [← Nat.pow_add, show n + (L - n) = L by omega]
    exact h1
  · refine (Nat.le_div_iff_mul_le (Nat.pow_pos (by omega))).2 ?_
    rw [← Nat.pow_add, show L - n - 1 + n = L - 1 by omega]
    exact h2
theorem dec_drop {w : World} {b off cap x n : Nat} (hx : nlen 10 x ≤ cap) (hcap : cap ≤ maxLen) (hb : b < w.heap.size) (hc : ∀ j, j < nlen 10 x → w.cell? ⟨b, off + j, none⟩ = some (.int .i64 (dg 10 x j : Int))) (hn : n < nlen 10 x) : IsDec w (.slice (some ⟨b, off + n, none⟩) (nlen 10 x - n) (cap - n)) (x / 10 ^ n) := by
  have hl : nlen 10 (x / 10 ^ n) = nlen 10 x - n := nlen_div10 hn
  refine ⟨some ⟨b, off + n, none⟩, cap - n, by rw [hl], by rw [hl]; omega, by omega, ?_⟩
  rw [hl]
  refine .inr ⟨b, off + n, rfl, hb, fun j hj => ?_⟩
  have := hc (n + j) (by omega)
  rw [show off + n + j = off + (n + j) by omega, this]
  have e : dg 10 (x / 10 ^ n) j = dg 10 x (n + j) := by
    unfold dg
    rw [Nat.div_div_eq_div_mul, ← Nat.pow_add]
  rw [e]
theorem dec_one (w : World) (t : TypeId) : IsDec (w.alloc (.cells #[.int .i64 1] t)) (.slice (some ⟨w.heap.size, 0, none⟩) 1 1) 1 := by
  have hl : nlen 10 1 = 1 := nlen_eq ten2 (by decide) (.inr (by decide))
  refine ⟨some ⟨w.heap.size, 0, none⟩, 1, by rw [hl], by rw [hl]; omega, by unfold maxLen; omega, ?_⟩
  rw [hl]
  refine .inr ⟨w.heap.size, 0, rfl, by simp, fun j hj => ?_⟩
  obtain rfl : j = 0 := by omega
  simp [go_sem]
  rfl
/-- Decimals D with k behind the point, rounded to p of them. -/
def cutN (D k : Nat) (p : Int) : Nat := if (k : Int) ≤ p then D * 10 ^ (p - k).toNat else rndN D (10 ^ ((k : Int) - p).toNat)
theorem dg_above {D n : Nat} (h : nlen 10 D ≤ n) : dg 10 D n = 0 := by
  unfold dg
  rw [Nat.div_eq_of_lt (lt_of_nlen ten2 h)]
theorem div_above {D n : Nat} (h : nlen 10 D ≤ n) : D / 10 ^ n = 0 := Nat.div_eq_of_lt (lt_of_nlen ten2 h)

set_option maxHeartbeats 1000000 in
set_option maxRecDepth 4000 in
theorem cut_less (a : Option Addr) (D ca k : Nat) (p : Int) (n : Nat) (w : World) (h : IsDec w (.slice a (nlen 10 D) ca) D) (hD : nlen 10 D ≤ 100000) (k1 : k ≤ 100000) (p0 : -100000 ≤ p) (hn : (k : Int) - p = ((n + 1 : Nat) : Int)) (R : Nat) (eR : rndN D (10 ^ (n + 1)) = R) :
    Calls Tryz.prog 30 #[.slice a (nlen 10 D) ca, .int .i64 k, .int .i64 p] w fun e w' => ∃ v, e = .returned v ∧ IsDec w' v R ∧ Fr w w' := by
  have HA := hide h
  obtain ⟨a', ca', e1, a2, a3, a4⟩ := h
  simp only [Value.slice.injEq] at e1
  obtain ⟨rfl, _, rfl⟩ := e1
  rw [← cut_rnd] at eR
  have hd9 := dg_lt ten2 D n
  have hgp : ¬ (k : Int) ≤ p := by omega
  rcases Nat.lt_trichotomy (n + 1) (nlen 10 D) with c | c | c
  · have HD : Hid (∃ b off, a = some ⟨b, off, none⟩ ∧ w.cell? ⟨b, off + n, none⟩ = some (.int .i64 (dg 10 D n : Int)) ∧ IsDec w (.slice (some ⟨b, off + (n + 1), none⟩) (nlen 10 D - (n + 1)) (ca - (n + 1))) (D / 10 ^ (n + 1))) := by
      rcases a4 with q | ⟨b, off, rfl, hb, hcs⟩
      · omega
      · exact ⟨b, off, rfl, hcs n (by omega), dec_drop a2 a3 hb hcs c⟩
    obtain ⟨b, off, rfl, hcell, hdr⟩ := HD.out
    have DR := hide hdr
    have nq : nlen 10 (D / 10 ^ (n + 1)) ≤ 100000 := by rw [nlen_div10 c]; omega
    clear hdr a4 HD HA
    generalize D / 10 ^ (n + 1) = Q at *
    generalize dg 10 D n = g at *
    generalize nlen 10 D = N at *
    unfold maxLen at a3
    have i1 : (k : Int) - p ≤ N := by omega
    have i2 : (k : Int) - p < N := by omega
    have i3 : (k : Int) - p - 1 = n := by omega
    have i4 : ((k : Int) - p).toNat = n + 1 := by omega
    have i5 : ¬ ca = n + 1 := by omega
    by_cases hu : 5 ≤ g
    · rw [if_pos hu] at eR
      subst eR
      have hu' : (5 : Int) ≤ g := by omega
      go_enter Tryz.func30, Tryz.ntmps30
      go_wp2_with fail
      refine (refAdd_any _ _ Q 1 _ (DR.out.fr (Fr.alloc _ _)) (dec_one _ _) (by first | omega | (rw [nlen_zero]; omega)) (Nat.le_trans (nlen_le ten2 (show 1 < 10 ^ 1 by decide)) (by omega))).mono ?_
      rintro e w1 ⟨v, rfl, iv, f1⟩
      have RV := hide iv
      have F := hide ((Fr.alloc _ _).trans f1)
      clear iv f1
      go_wp2_with fail
      go_ret
      exact ⟨_, rfl, RV.out, F.out⟩
    · rw [if_neg hu, Nat.add_zero] at eR
      subst eR
      have hu' : ¬ (5 : Int) ≤ g := by omega
      go_enter Tryz.func30, Tryz.ntmps30
      go_wp2_with fail
      go_ret
      exact ⟨_, rfl, DR.out, Fr.refl _⟩
  · have HD : Hid (∃ b off, a = some ⟨b, off, none⟩ ∧ w.cell? ⟨b, off + n, none⟩ = some (.int .i64 (dg 10 D n : Int))) := by
      rcases a4 with q | ⟨b, off, rfl, hb, hcs⟩
      · omega
      · exact ⟨b, off, rfl, hcs n (by omega)⟩
    obtain ⟨b, off, rfl, hcell⟩ := HD.out
    rw [div_above (by omega), Nat.zero_add] at eR
    clear a4 HD HA
    generalize dg 10 D n = g at *
    generalize nlen 10 D = N at *
    unfold maxLen at a3
    subst c
    have i3 : (k : Int) - p - 1 = n := by omega
    have i4 : ((k : Int) - p).toNat = n + 1 := by omega
    by_cases hu : 5 ≤ g
    · rw [if_pos hu] at eR
      subst eR
      have hu' : (5 : Int) ≤ g := by omega
      go_enter Tryz.func30, Tryz.ntmps30
      go_wp2_with fail
      refine (refAdd_any _ _ 0 1 _ (isDec_nil _) (dec_one _ _) (by first | omega | (rw [nlen_zero]; omega)) (Nat.le_trans (nlen_le ten2 (show 1 < 10 ^ 1 by decide)) (by omega))).mono ?_
      rintro e w1 ⟨v, rfl, iv, f1⟩
      have RV := hide iv
      have F := hide ((Fr.alloc _ _).trans f1)
      clear iv f1
      go_wp2_with fail
      go_ret
      exact ⟨_, rfl, RV.out, F.out⟩
    · rw [if_neg hu] at eR
      subst eR
      have hu' : ¬ (5 : Int) ≤ g := by omega
      go_enter Tryz.func30, Tryz.ntmps30
      go_wp2_with fail
      go_ret
      exact ⟨_, rfl, isDec_nil _, Fr.refl _⟩
  · rw [div_above (by omega), dg_above (by omega), Nat.zero_add, if_neg (by omega)] at eR
    subst eR
    clear a4 HA
    generalize nlen 10 D = N at *
    have i1 : ¬ (k : Int) - p ≤ N := by omega
    have i2 : ¬ (k : Int) - p < N := by omega
    go_enter Tryz.func30, Tryz.ntmps30
    go_wp2_with fail
    go_ret
    exact ⟨_, rfl, isDec_nil _, Fr.refl _⟩

set_option maxHeartbeats 1000000 in
set_option maxRecDepth 4000 in
theorem refCut_any (va : Value) (D k : Nat) (p : Int) (w : World) (h : IsDec w va D) (hD : nlen 10 D ≤ 100000) (k1 : k ≤ 100000) (p0 : -100000 ≤ p) (p1 : p ≤ 100000) (R : Nat) (eR : cutN D k p = R) :
    Calls Tryz.prog 30 #[va, .int .i64 k, .int .i64 p] w fun e w' => ∃ v, e = .returned v ∧ IsDec w' v R ∧ Fr w w' := by
  unfold cutN at eR
  by_cases c : (k : Int) ≤ p
  · rw [if_pos c] at eR
    have ER := hide eR
    have HA := hide h
    obtain ⟨a, ca, rfl, a2, a3, a4⟩ := h
    clear a4 eR
    go_enter Tryz.func30, Tryz.ntmps30
    go_wp2_with fail
    refine (refTens_any _ D (p - k) _ HA.out (by omega) (by omega) (by omega)).mono ?_
    rintro e w1 ⟨v, rfl, iv, f1⟩
    have RV : Hid (IsDec w1 v R) := by rw [← ER.out]; exact iv
    have F := hide f1
    clear iv f1
    go_wp2_with fail
    go_ret
    exact ⟨_, rfl, RV.out, F.out⟩
  · rw [if_neg c] at eR
    obtain ⟨n, hn⟩ : ∃ n : Nat, (k : Int) - p = ((n + 1 : Nat) : Int) := ⟨((k : Int) - p - 1).toNat, by omega⟩
    rw [hn, Int.toNat_natCast] at eR
    have HA := hide h
    obtain ⟨a, ca, rfl, a2, a3, a4⟩ := h
    exact cut_less a D ca k p n w HA.out hD k1 p0 hn R eR
end Go.Proofs.YtammjgieocgelaaGreatDoor

/- The document's rounding: At, Exp, To. -/
namespace Go.Proofs.YtammjgieocgelaaGreatDoor
set_option linter.unusedVariables false
set_option linter.unusedSimpArgs false
open Go.RowKit
open Go.Lib (decDigits)

attribute [local go_sem] World.cell?_alloc_some
def strLen (v : Value) : Nat := match v with | .string t => t.size | _ => 0
theorem fix_loop {t : ByteArray} {j p C : Nat} (h : t = bs (List.replicate j 48 ++ textD C)) (hj : j = 0 ∨ t.size ≤ p) (hp : p ≤ t.size) : t = bs (fixD p C) := by
  have hs : t.size = j + (textD C).length := by rw [h, bs_size, List.length_append, List.length_replicate]
  rw [h]
  unfold fixD padD
  rw [show j = p - (textD C).length by omega]

set_option maxHeartbeats 400000 in
theorem refExp_any (va : Value) (D k : Nat) (w : World) (h : IsDec w va D) (hD : nlen 10 D ≤ 100000) (k1 : k ≤ 100000) (E : Int) (hE : (nlen 10 D : Int) - 1 - k = E) :
    Calls Tryz.prog 29 #[va, .int .i64 k] w fun e w' => e = .returned (.int .i64 E) ∧ w' = w := by
  obtain ⟨a, ca, rfl, a2, a3, a4⟩ := h
  clear a4
  generalize nlen 10 D = N at *
  subst hE
  go_enter Tryz.func29, Tryz.ntmps29
  go_wp2_with fail
  go_ret
  exact ⟨rfl, rfl⟩

set_option maxHeartbeats 1000000 in
set_option maxRecDepth 4000 in
theorem refTo_round (va : Value) (D k c : Nat) (w : World) (h : IsDec w va D) (hD : nlen 10 D ≤ 10000) (k1 : k ≤ 10000) (c0 : 1 ≤ c) (c1 : c ≤ 400) (E : Int) (hE : (nlen 10 D : Int) - 1 - k = E) (R : Nat) (eR : cutN D k ((c : Int) - 1 - E) = R) (nR : nlen 10 R ≤ 20000) (SD : ByteArray) (SE : Int) (hSD : bs (sciD c R) = SD) (hSE : sciE c R E = SE) :
    Calls Tryz.prog 14 #[va, .int .i64 k, .int .i64 c] w fun e w' => e = .returned (.tuple #[.string SD, .int .i64 SE]) ∧ Fr w w' := by
  have HA := hide h
  have ER := hide eR
  have ER2 : Hid (c < nlen 10 D → cutN D (nlen 10 D - c) 0 = R) := by
    intro hl
    rw [← eR]
    unfold cutN
    rw [if_neg (by omega), if_neg (by omega)]
    congr 2
    omega
  obtain ⟨T, hTx⟩ : ∃ T, bs (decDigits R) = T := ⟨_, rfl⟩
  have TX : Hid (∀ w v, IsDec w v R → Calls Tryz.prog 31 #[v] w fun e w' => e = .returned (.string T) ∧ Fr w w') := by
    rw [← hTx]
    exact fun w v h => refText_any v R w h (by omega)
  have zT : T.size ≤ 100000 := by
    have := ndig_le (k := nlen 10 R) (x := R) (lt_nlen ten2 R)
    rw [← hTx, bs_size, Lib.decDigits_length]
    omega
  have FIN : Hid ((T.size : Int) ≤ c → T = SD ∧ E = SE) := by
    intro hl
    rw [← hSD, ← hSE]
    have hl' : (decDigits R).length ≤ c := by rw [← bs_size, hTx]; omega
    unfold sciD sciE
    rw [List.take_of_length_le hl', if_neg (by omega), hTx]
    exact ⟨rfl, rfl⟩
  have FIN2 : Hid ((c : Int) < T.size → SD = T.extract 0 c ∧ SE = E + 1) := by
    intro hl
    rw [← hSD, ← hSE]
    have hl' : c < (decDigits R).length := by rw [← bs_size, hTx]; omega
    unfold sciD sciE
    rw [if_pos hl']
    refine ⟨?_, rfl⟩
    have := (cut_data T c (by omega)).1
    rw [bs_eta (T.extract 0 c), this, ← hTx, bs_data]
  obtain ⟨a, ca, rfl, a2, a3, a4⟩ := h
  clear a4 eR hTx hSD hSE
  have HE := hide hE
  have nE0 : -10001 ≤ E := by omega
  have nE1 : E ≤ 10000 := by omega
  go_enter Tryz.func14, Tryz.ntmps14
  go_wp2_with fail
  refine (refExp_any _ D k _ HA.out (by omega) (by omega) E HE.out).mono ?_
  rintro e w1 ⟨rfl, rfl⟩
  go_wp2_with fail
  refine (refCut_any _ D k ((c : Int) - 1 - E) _ HA.out (by omega) (by omega) (by omega) (by omega) R ER.out).mono ?_
  rintro e w2 ⟨v2, rfl, i2, f2⟩
  have I2 := hide i2
  have F2 := hide f2
  have HA := hide (HA.out.fr f2)
  clear i2 f2
  by_cases hA : c < nlen 10 D
  · have hA' : (c : Int) < nlen 10 D := by omega
    have ER2 := hide (ER2.out hA)
    obtain ⟨j, hj⟩ : ∃ j : Nat, nlen 10 D - c = j := ⟨_, rfl⟩
    have hj' : (nlen 10 D : Int) - c = j := by omega
    rw [hj] at ER2
    by_cases hB : (c : Int) - 1 - E < 0
    · go_wp2_with fail
      refine (refCut_any _ D j 0 _ HA.out (by omega) (by omega) (by omega) (by omega) R ER2.out).mono ?_
      rintro e w4 ⟨v4, rfl, i4, f4⟩
      have I2 := hide i4
      have F2 := hide (F2.out.trans f4)
      clear i4 f4
      go_wp2_with fail
      refine (TX.out _ _ I2.out).mono ?_
      rintro e w3 ⟨rfl, f3⟩
      have F2 := hide (F2.out.trans f3)
      clear f3 TX I2
      by_cases hl : (T.size : Int) ≤ c
      · obtain ⟨e1, e2⟩ := FIN.out hl
        subst e2
        subst e1
        go_wp2_with fail
        go_ret2
        exact ⟨rfl, F2.out⟩
      · obtain ⟨e1, e2⟩ := FIN2.out (by omega)
        subst e2
        subst e1
        have hcT : (c : Int) ≤ T.size := by omega
        go_wp2_with fail
        go_ret2
        exact ⟨rfl, F2.out⟩
    · go_wp2_with fail
      refine (TX.out _ _ I2.out).mono ?_
      rintro e w3 ⟨rfl, f3⟩
      have F2 := hide (F2.out.trans f3)
      clear f3 TX I2
      by_cases hl : (T.size : Int) ≤ c
      · obtain ⟨e1, e2⟩ := FIN.out hl
        subst e2
        subst e1
        go_wp2_with fail
        go_ret2
        exact ⟨rfl, F2.out⟩
      · obtain ⟨e1, e2⟩ := FIN2.out (by omega)
        subst e2
        subst e1
        have hcT : (c : Int) ≤ T.size := by omega
        go_wp2_with fail
        go_ret2
        exact ⟨rfl, F2.out⟩
  · have hA' : ¬ (c : Int) < nlen 10 D := by omega
    by_cases hB : (c : Int) - 1 - E < 0
    · exfalso; omega
    · go_wp2_with fail
      refine (TX.out _ _ I2.out).mono ?_
      rintro e w3 ⟨rfl, f3⟩
      have F2 := hide (F2.out.trans f3)
      clear f3 TX I2
      by_cases hl : (T.size : Int) ≤ c
      · obtain ⟨e1, e2⟩ := FIN.out hl
        subst e2
        subst e1
        go_wp2_with fail
        go_ret2
        exact ⟨rfl, F2.out⟩
      · obtain ⟨e1, e2⟩ := FIN2.out (by omega)
        subst e2
        subst e1
        have hcT : (c : Int) ≤ T.size := by omega
        go_wp2_with fail
        go_ret2
        exact ⟨rfl, F2.out⟩

end Go.Proofs.YtammjgieocgelaaGreatDoor
