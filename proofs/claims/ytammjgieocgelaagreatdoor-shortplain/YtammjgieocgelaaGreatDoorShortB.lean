/- Ahead of layer 10: seventeen digits tell a value; noughts at the end (plain maths). -/
import Derived.Test.YtammjgieocgelaaGreatDoorShortA
import Derived.Test.YtammjgieocgelaaGreatDoorPackC
namespace Go.Proofs.YtammjgieocgelaaGreatDoor
set_option linter.unusedVariables false
set_option linter.unusedSimpArgs false

/-- The nearest bits hang on the number alone. -/
theorem near_same {x y x' y' c T : Nat} (hT : 2 ^ 1074 = T) (hy : 0 < y) (hy' : 0 < y') (hb : c + 1 < 9218868437227405312) (e : x * y' = x' * y) (h : nearN x y = c + 1) : nearN x' y' = c + 1 := by
  rw [near_iff hT hy hb] at h
  rw [near_iff hT hy' hb]
  have e1 : ∀ A : Nat, 2 * (x * T) * y' = 2 * (x' * T) * y ∧ A * y * y' = A * y' * y := by
    intro A
    refine ⟨?_, by ac_rfl⟩
    rw [show 2 * (x * T) * y' = 2 * T * (x * y') by ac_rfl, e]
    ac_rfl
  have lt1 : ∀ A : Nat, 2 * (x * T) < A * y → 2 * (x' * T) < A * y' := by
    intro A h
    obtain ⟨p1, p2⟩ := e1 A
    have := Nat.mul_lt_mul_of_pos_right h hy'
    rw [p1, p2] at this
    exact Nat.lt_of_mul_lt_mul_right this
  have lt2 : ∀ A : Nat, A * y < 2 * (x * T) → A * y' < 2 * (x' * T) := by
    intro A h
    obtain ⟨p1, p2⟩ := e1 A
    have := Nat.mul_lt_mul_of_pos_right h hy'
    rw [p1, p2] at this
    exact Nat.lt_of_mul_lt_mul_right this
  have eq1 : ∀ A : Nat, 2 * (x * T) = A * y → 2 * (x' * T) = A * y' := by
    intro A h
    obtain ⟨p1, p2⟩ := e1 A
    have : 2 * (x' * T) * y = A * y' * y := by rw [← p1, h, p2]
    exact Nat.eq_of_mul_eq_mul_right hy this
  obtain ⟨u, l⟩ := h
  refine ⟨?_, ?_⟩
  · rcases u with u | ⟨u, r⟩
    · exact .inl (lt1 _ u)
    · exact .inr ⟨eq1 _ u, r⟩
  · rcases l with l | ⟨l, r⟩
    · exact .inl (lt2 _ l)
    · exact .inr ⟨eq1 _ l, r⟩
/-- A unit of the seventeenth digit is less than the way to the next value. -/
theorem unit_less {u g M : Nat} (hg : 0 < g) (h : u * 10000000000000000 ≤ M * g) (hM : M ≤ 9007199254740992) : u < g := by
  rcases Nat.lt_or_ge u g with c | c
  · exact c
  · exfalso
    have h1 : g * 10000000000000000 ≤ u * 10000000000000000 := Nat.mul_le_mul_right _ c
    have h2 : M * g ≤ 9007199254740992 * g := Nat.mul_le_mul_right _ hM
    omega
/-- A value, rounded to seventeen digits, is told again. -/
theorem seventeen {n d c T : Nat} {E j : Int} (hT : 2 ^ 1074 = T) (hT0 : 0 < T) (hd : d ≠ 0) (hb : c + 1 < 9218868437227405312) (hv : n * T = bV (c + 1) * d) (hE : IsExp n d E) (hj : E = j + 16) (R : Nat) (hR : rndN (n * 10 ^ (-j).toNat) (d * 10 ^ j.toNat) = R) : nearN (R * 10 ^ j.toNat) (10 ^ (-j).toNat) = c + 1 := by
  have hV0 : 0 < 10 ^ (-j).toNat := Nat.pow_pos (by omega)
  have hU0 : 0 < 10 ^ j.toNat := Nat.pow_pos (by omega)
  obtain ⟨r1, r2⟩ := rnd_spec (a := n * 10 ^ (-j).toNat) (b := d * 10 ^ j.toNat) (Nat.mul_ne_zero hd (by omega))
  rw [hR] at r1 r2
  -- d U 10^16 ≤ n V
  have k0 : d * 10 ^ j.toNat * 10000000000000000 ≤ n * 10 ^ (-j).toNat := by
    have h1 := Nat.mul_le_mul_right (10 ^ (-j).toNat) hE.1
    have e1 : 10 ^ E.toNat * 10 ^ (-j).toNat = 10 ^ j.toNat * 10000000000000000 * 10 ^ (-E).toNat := by
      have e0 : 10 ^ (E.toNat + (-j).toNat) = 10 ^ (j.toNat + 16 + (-E).toNat) := by rw [show E.toNat + (-j).toNat = j.toNat + 16 + (-E).toNat by omega]
      rw [Nat.pow_add, Nat.pow_add, Nat.pow_add] at e0
      exact e0
    have hP : 0 < 10 ^ (-E).toNat := Nat.pow_pos (by omega)
    refine Nat.le_of_mul_le_mul_right (c := 10 ^ (-E).toNat) ?_ hP
    rw [show d * 10 ^ j.toNat * 10000000000000000 * 10 ^ (-E).toNat = d * (10 ^ j.toNat * 10000000000000000 * 10 ^ (-E).toNat) by ac_rfl, ← e1, ← Nat.mul_assoc]
    refine Nat.le_trans h1 (Nat.le_of_eq ?_)
    ac_rfl
  generalize 10 ^ (-j).toNat = V at *
  generalize 10 ^ j.toNat = U at *
  -- U T 10^16 ≤ v V
  have k1 : U * T * 10000000000000000 ≤ bV (c + 1) * V := by
    have h1 := Nat.mul_le_mul_right T k0
    rw [show n * V * T = n * T * V by ac_rfl, hv] at h1
    refine Nat.le_of_mul_le_mul_right (c := d) ?_ (by omega)
    refine Nat.le_trans (Nat.le_of_eq ?_) (Nat.le_trans h1 (Nat.le_of_eq ?_)) <;> ac_rfl
  obtain ⟨e, M, _, hM, _, f1, f2⟩ := bV_form (c + 1)
  obtain ⟨e', M', _, hM', _, g1, g2⟩ := bV_form c
  have up : U * T < 2 ^ e * V := by
    refine unit_less (M := M) (Nat.mul_pos (Nat.pow_pos (by omega)) hV0) ?_ (by omega)
    rw [f1] at k1
    rw [← Nat.mul_assoc]; exact k1
  have low : U * T < 2 ^ e' * V := by
    refine unit_less (M := M' + 1) (Nat.mul_pos (Nat.pow_pos (by omega)) hV0) ?_ (by omega)
    rw [g2] at k1
    rw [← Nat.mul_assoc]; exact k1
  have s1 : bV (c + 1 + 1) = bV (c + 1) + 2 ^ e := by rw [f2, f1, Nat.add_mul, Nat.one_mul]
  have s2 : bV (c + 1) = bV c + 2 ^ e' := by rw [g2, g1, Nat.add_mul, Nat.one_mul]
  rw [near_iff hT hV0 hb]
  have q1 := Nat.mul_le_mul_right T r1
  have q2 := Nat.mul_lt_mul_of_pos_right r2 hT0
  have hd0 : 0 < d := by omega
  have a1 : (2 * (n * V) + d * U) * T = (2 * (bV (c + 1) * V) + U * T) * d := by
    have p1 : 2 * (n * V) * T = 2 * (bV (c + 1) * V) * d := by
      rw [show 2 * (n * V) * T = 2 * V * (n * T) by ac_rfl, hv]
      ac_rfl
    have p2 : d * U * T = U * T * d := by ac_rfl
    rw [Nat.add_mul, Nat.add_mul, p1, p2]
  have a2 : 2 * (d * U * R) * T = 2 * (R * U * T) * d := by ac_rfl
  have a3 : (2 * (d * U * R) + 2 * (d * U)) * T = (2 * (R * U * T) + 2 * (U * T)) * d := by
    have p1 : 2 * (d * U * R) * T = 2 * (R * U * T) * d := by ac_rfl
    have p2 : 2 * (d * U) * T = 2 * (U * T) * d := by ac_rfl
    rw [Nat.add_mul, Nat.add_mul, p1, p2]
  rw [a1, a2] at q1
  rw [a1, a3] at q2
  have w1 := Nat.le_of_mul_le_mul_right q1 hd0
  have w2 := Nat.lt_of_mul_lt_mul_right q2
  have m1 : (bV (c + 1) + bV (c + 1 + 1)) * V = 2 * (bV (c + 1) * V) + 2 ^ e * V := by
    rw [s1, Nat.add_mul, Nat.add_mul]
    omega
  have m2 : (bV c + bV (c + 1)) * V + 2 ^ e' * V = 2 * (bV (c + 1) * V) := by
    have h3 : bV (c + 1) * V = (bV c + 2 ^ e') * V := by rw [← s2]
    rw [Nat.add_mul] at h3
    rw [Nat.add_mul]
    omega
  exact ⟨.inl (by omega), .inl (by omega)⟩
/-- A nought at the end: with one digit less it is the same number. -/
theorem tail_nought {a b q : Nat} (hb : b ≠ 0) (h : rndN a b = q * 10) : rndN a (b * 10) = q := by
  obtain ⟨h1, h2⟩ := rnd_spec (a := a) hb
  rw [h] at h1 h2
  have e : b * (q * 10) = b * 10 * q := by ac_rfl
  rw [e] at h1 h2
  refine rnd_unique (by omega) ?_ ?_ <;> omega
/-- The document's middle, in any decimals of both values. -/
theorem side_gen {X xk P pk Q qk most A B T : Nat} (hT : 0 < T) (hP : P * T = A * 10 ^ pk) (hQ : Q * T = B * 10 ^ qk) (h1 : xk ≤ most) (h2 : pk ≤ most) (h3 : qk ≤ most) :
    cmpZ (X * 10 ^ (most - xk) * 2) (P * 10 ^ (most - pk) + Q * 10 ^ (most - qk)) = cmpZ (2 * (X * T)) ((A + B) * 10 ^ xk) := by
  have hG : 10 ^ (most - xk) ≠ 0 := ten_ne _
  rw [← cmpZ_scale (x := X * 10 ^ (most - xk) * 2) (k := T) (by omega), ← cmpZ_scale (x := 2 * (X * T)) hG]
  have e1 : (P * 10 ^ (most - pk) + Q * 10 ^ (most - qk)) * T = (A + B) * 10 ^ xk * 10 ^ (most - xk) := by
    rw [Nat.add_mul, show P * 10 ^ (most - pk) * T = P * T * 10 ^ (most - pk) by ac_rfl, show Q * 10 ^ (most - qk) * T = Q * T * 10 ^ (most - qk) by ac_rfl, hP, hQ, Nat.mul_assoc, Nat.mul_assoc B, ← Nat.pow_add, ← Nat.pow_add, Nat.mul_assoc (A + B), ← Nat.pow_add, show pk + (most - pk) = most by omega, show qk + (most - qk) = most by omega, show xk + (most - xk) = most by omega, Nat.add_mul]
  rw [e1]
  congr 1
  ac_rfl
theorem inf_bV (c : Nat) (hc : c = 2046) : bV 9218868437227405312 = 4503599627370496 * 2 ^ c := by
  unfold bV
  rw [if_neg (by omega), show 9218868437227405312 % 4503599627370496 + 4503599627370496 = 4503599627370496 by omega, show 9218868437227405312 / 4503599627370496 - 1 = 2046 by omega, hc]
/-- Infinite's own number, as the document has it: 2 to 1024. -/
theorem inf_dec {T a : Nat} (hT : 2 ^ 1074 = T) (ha : a = 972) : 4503599627370496 * 2 ^ a * T = bV 9218868437227405312 * 10 ^ 0 := by
  have k : ∀ b c : Nat, b = 1074 → c = 2046 → 2 ^ b = T → bV 9218868437227405312 = 4503599627370496 * 2 ^ c → 4503599627370496 * 2 ^ a * T = bV 9218868437227405312 * 10 ^ 0 := by
    intro b c hb hc e1 e2
    rw [e2, ← e1, Nat.pow_zero, Nat.mul_one, Nat.mul_assoc, ← Nat.pow_add, show a + b = c by omega]
  exact k 1074 2046 rfl rfl hT (inf_bV 2046 rfl)
end Go.Proofs.YtammjgieocgelaaGreatDoor
