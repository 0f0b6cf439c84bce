/- Ahead of layer 10: the document's Near is layer 7's Nearest (plain maths). -/
import Derived.Test.YtammjgieocgelaaGreatDoorShortB
namespace Go.Proofs.YtammjgieocgelaaGreatDoor
set_option linter.unusedVariables false
set_option linter.unusedSimpArgs false

/-- A value's decimals, and how many of them stand behind the point. -/
def vDec (b : Nat) : Nat := bM b * 2 ^ (bX b).toNat * 5 ^ (-bX b).toNat
def vK (b : Nat) : Nat := (-bX b).toNat
theorem vDec_bV {b T : Nat} (hT : 2 ^ 1074 = T) (hb : b < 9218868437227405312) : vDec b * T = bV b * 10 ^ vK b := by
  have h := v_bV hb
  rw [hT] at h
  unfold vNum vDen at h
  unfold vDec vK
  generalize (-bX b).toNat = k at *
  generalize bM b * 2 ^ (bX b).toNat = N at *
  rw [show N * 5 ^ k * T = N * T * 5 ^ k by ac_rfl, h, show (10 : Nat) = 2 * 5 by rfl, Nat.mul_pow]
  ac_rfl
theorem cmpZ_lt0 {a b : Nat} : cmpZ a b < 0 ↔ a < b := by
  unfold cmpZ
  constructor
  · intro h
    rcases Nat.lt_or_ge a b with c | c
    · exact c
    · rw [if_neg (by omega)] at h
      split at h <;> omega
  · intro h
    rw [if_pos h]; omega
theorem cmpZ_gt0 {a b : Nat} : 0 < cmpZ a b ↔ b < a := by
  unfold cmpZ
  constructor
  · intro h
    rcases Nat.lt_or_ge b a with c | c
    · exact c
    · rcases Nat.lt_or_ge a b with k | k
      · rw [if_pos k] at h; omega
      · rw [if_neg (by omega), if_pos (by omega)] at h; omega
  · intro h
    rw [if_neg (by omega), if_neg (by omega)]; omega
theorem cmpZ_eq0 {a b : Nat} : cmpZ a b = 0 ↔ a = b := by
  unfold cmpZ
  constructor
  · intro h
    rcases Nat.lt_trichotomy a b with k | k | k
    · rw [if_pos k] at h; omega
    · exact k
    · rw [if_neg (by omega), if_neg (by omega)] at h; omega
  · intro h
    rw [if_neg (by omega), if_pos h]
/-- Both middles, in the document's decimals (Q, qk: those of the value above, of Infinite 2 to 1024): just then are the bits the nearest. -/
theorem near_doc {c X xk Q qk m1 m2 T : Nat} (hT : 2 ^ 1074 = T) (hT0 : 0 < T) (hb : c + 1 < 9218868437227405312) (hQ : Q * T = bV (c + 1 + 1) * 10 ^ qk) (a1 : xk ≤ m1) (a2 : vK (c + 1) ≤ m1) (a3 : qk ≤ m1) (b1 : xk ≤ m2) (b2 : vK (c + 1) ≤ m2) (b3 : vK c ≤ m2) (up low : Int) (hu : cmpZ (X * 10 ^ (m1 - xk) * 2) (vDec (c + 1) * 10 ^ (m1 - vK (c + 1)) + Q * 10 ^ (m1 - qk)) = up) (hl : cmpZ (X * 10 ^ (m2 - xk) * 2) (vDec (c + 1) * 10 ^ (m2 - vK (c + 1)) + vDec c * 10 ^ (m2 - vK c)) = low) :
    ((up < 0 ∨ (up = 0 ∧ (c + 1) % 2 = 0)) ∧ (0 < low ∨ (low = 0 ∧ (c + 1) % 2 = 0))) ↔ nearN X (10 ^ xk) = c + 1 := by
  have hy : 0 < 10 ^ xk := Nat.pow_pos (by omega)
  rw [near_iff hT hy hb, ← hu, ← hl, side_gen hT0 (vDec_bV hT hb) hQ a1 a2 a3, side_gen hT0 (vDec_bV hT hb) (vDec_bV hT (show c < 9218868437227405312 by omega)) b1 b2 b3, cmpZ_lt0, cmpZ_eq0, cmpZ_gt0, cmpZ_eq0, Nat.add_comm (bV (c + 1)) (bV c)]
/-- The same number, the same nearest bits, both ways. -/
theorem near_same_iff {x y x' y' c T : Nat} (hT : 2 ^ 1074 = T) (hy : 0 < y) (hy' : 0 < y') (hb : c + 1 < 9218868437227405312) (e : x * y' = x' * y) : nearN x y = c + 1 ↔ nearN x' y' = c + 1 :=
  ⟨near_same hT hy hy' hb e, near_same hT hy' hy hb e.symm⟩
/-- Digits that end with a nought: with one digit less the same number. -/
theorem less_same {n d R q : Nat} {j : Int} (hd : d ≠ 0) (hR : rndN (n * 10 ^ (-j).toNat) (d * 10 ^ j.toNat) = R) (h10 : R = q * 10) :
    rndN (n * 10 ^ (-(j + 1)).toNat) (d * 10 ^ (j + 1).toNat) = q ∧ R * 10 ^ j.toNat * 10 ^ (-(j + 1)).toNat = q * 10 ^ (j + 1).toNat * 10 ^ (-j).toNat := by
  have hr : 10 ^ (j + 1).toNat * 10 ^ (-j).toNat = 10 * 10 ^ j.toNat * 10 ^ (-(j + 1)).toNat := by
    have e0 : 10 ^ ((j + 1).toNat + (-j).toNat) = 10 ^ (1 + j.toNat + (-(j + 1)).toNat) := by rw [show (j + 1).toNat + (-j).toNat = 1 + j.toNat + (-(j + 1)).toNat by omega]
    rw [Nat.pow_add, Nat.pow_add, Nat.pow_add, Nat.pow_one] at e0
    exact e0
  have hb : d * 10 ^ j.toNat ≠ 0 := Nat.mul_ne_zero hd (ten_ne _)
  have hb' : d * 10 ^ (j + 1).toNat ≠ 0 := Nat.mul_ne_zero hd (ten_ne _)
  rw [h10] at hR
  have t := tail_nought hb hR
  constructor
  · rw [← t]
    refine rnd_same hb' (by omega) ?_
    rw [show n * 10 ^ (-(j + 1)).toNat * (d * 10 ^ j.toNat * 10) = n * d * (10 * 10 ^ j.toNat * 10 ^ (-(j + 1)).toNat) by ac_rfl, ← hr]
    ac_rfl
  · rw [h10, show q * 10 * 10 ^ j.toNat * 10 ^ (-(j + 1)).toNat = q * (10 * 10 ^ j.toNat * 10 ^ (-(j + 1)).toNat) by ac_rfl, ← hr]
    ac_rfl
end Go.Proofs.YtammjgieocgelaaGreatDoor
