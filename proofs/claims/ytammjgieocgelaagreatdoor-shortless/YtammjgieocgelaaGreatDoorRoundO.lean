/- RoundTwice: plain maths. -/
import Derived.Test.YtammjgieocgelaaGreatDoorPackG
namespace Go.Proofs.YtammjgieocgelaaGreatDoor
set_option linter.unusedVariables false
set_option linter.unusedSimpArgs false
open Go.Lib (decDigits)

theorem dec_last (x : Nat) : ∃ l t, decDigits x = l ++ [t] ∧ 48 ≤ t.toNat ∧ t.toNat ≤ 57 := by
  have hne := dec_ne x
  have hA := dec_all x
  refine ⟨(decDigits x).dropLast, (decDigits x).getLast hne, (List.dropLast_concat_getLast hne).symm, ?_⟩
  exact hA _ (List.getLast_mem hne)
/-- Just c digits, the first one not a nought; their number, times its power of ten, is what was rounded to. -/
theorem sci_facts {c R : Nat} {E : Int} (hc : 1 ≤ c) (h1 : 10 ^ (c - 1) ≤ R) (h2 : R ≤ 10 ^ c) :
    (sciD c R).length = c ∧ AllD (sciD c R) ∧ (sciD c R).head? ≠ some 48 ∧ (E ≤ sciE c R E ∧ sciE c R E ≤ E + 1) ∧
    valD (sciD c R) * 10 ^ (sciE c R E - c + 1).toNat * 10 ^ (-(E - c + 1)).toNat = R * 10 ^ (E - c + 1).toNat * 10 ^ (-(sciE c R E - c + 1)).toNat := by
  have hR0 : R ≠ 0 := by have : 0 < 10 ^ (c - 1) := Nat.pow_pos (by omega); omega
  have hall : AllD (sciD c R) := fun b hb => dec_all R b (List.mem_of_mem_take hb)
  have hhd : (sciD c R).head? ≠ some 48 := by
    have := dec_head_ne hR0
    unfold sciD
    rw [List.head?_take, if_neg (by omega)]
    exact this
  rcases Nat.lt_or_ge R (10 ^ c) with hlt | hge
  · have hl : (decDigits R).length = c := by
      have := dec_len (n := c - 1) h1 (by rw [show c - 1 + 1 = c by omega]; exact hlt)
      omega
    have e1 : sciD c R = decDigits R := List.take_of_length_le (by omega)
    have e2 : sciE c R E = E := if_neg (by omega)
    refine ⟨by rw [e1]; exact hl, hall, hhd, by rw [e2]; omega, ?_⟩
    rw [e1, e2, dec_val]
  · obtain rfl : R = 10 ^ c := by omega
    have hl := dec_len_ten c
    have e2 : sciE c (10 ^ c) E = E + 1 := if_pos (by omega)
    obtain ⟨l, t, hd, t0, t1⟩ := dec_last (10 ^ c)
    have hll : l.length = c := by rw [hd, List.length_append, List.length_singleton] at hl; omega
    have e1 : sciD c (10 ^ c) = l := by
      unfold sciD
      rw [hd, List.take_append_of_le_length (by omega), List.take_of_length_le (by omega)]
    have hv := dec_val (10 ^ c)
    rw [hd, valD_snoc] at hv
    have hp : 10 ^ c = 10 ^ (c - 1) * 10 := by rw [← Nat.pow_succ]; congr 1; omega
    have hv2 : valD l = 10 ^ (c - 1) := by omega
    refine ⟨by rw [e1]; exact hll, hall, hhd, by rw [e2]; omega, ?_⟩
    rw [e1, e2, hv2, ← Nat.pow_add, ← Nat.pow_add, ← Nat.pow_add, ← Nat.pow_add]
    congr 1
    omega
/-- The whole number that is told, by the power alone. -/
theorem to_j {n d c : Nat} {E : Int} (hc : 1 ≤ c) (hd : d ≠ 0) : rndN (n * 10 ^ (-E).toNat * 10 ^ (c - 1)) (d * 10 ^ E.toNat) = rndN (n * 10 ^ (-(E - c + 1)).toNat) (d * 10 ^ (E - c + 1).toNat) := by
  refine rnd_same (Nat.mul_ne_zero hd (ten_ne _)) (Nat.mul_ne_zero hd (ten_ne _)) ?_
  have s : (-E).toNat + (c - 1) + (E - c + 1).toNat = (-(E - c + 1)).toNat + E.toNat := by omega
  have s2 : 10 ^ (-E).toNat * 10 ^ (c - 1) * 10 ^ (E - c + 1).toNat = 10 ^ (-(E - c + 1)).toNat * 10 ^ E.toNat := by rw [← Nat.pow_add, ← Nat.pow_add, s, Nat.pow_add]
  rw [show n * 10 ^ (-E).toNat * 10 ^ (c - 1) * (d * 10 ^ (E - c + 1).toNat) = n * d * (10 ^ (-E).toNat * 10 ^ (c - 1) * 10 ^ (E - c + 1).toNat) by ac_rfl, s2]
  ac_rfl
theorem to_range {n d c : Nat} {E : Int} (hc : 1 ≤ c) (hd : d ≠ 0) (h : IsExp n d E) : 10 ^ (c - 1) ≤ rndN (n * 10 ^ (-(E - c + 1)).toNat) (d * 10 ^ (E - c + 1).toNat) ∧ rndN (n * 10 ^ (-(E - c + 1)).toNat) (d * 10 ^ (E - c + 1).toNat) ≤ 10 ^ c := by
  have := toD_bounds (n := c - 1) hd h.1 h.2
  rw [show (((c - 1 : Nat) : Int) - E) = -(E - c + 1) by omega, show - -(E - (c : Int) + 1) = E - c + 1 by omega, show c - 1 + 1 = c by omega] at this
  exact this
theorem away_eq (a b : Nat) : awayN a b = (a - b) + (b - a) := by unfold awayN; first | rfl | (split <;> omega)
theorem away_mul (a b k : Nat) : awayN a b * k = awayN (a * k) (b * k) := by
  rw [away_eq, away_eq, Nat.add_mul, Nat.sub_mul, Nat.sub_mul]
/-- With one digit more it is nearer, or as near. -/
theorem twice_le {n d C1 C2 : Nat} {j : Int} (hd : d ≠ 0) (h2 : rndN (n * 10 ^ (-(j - 1)).toNat) (d * 10 ^ (j - 1).toNat) = C2) :
    awayN (n * 10 ^ (-(j - 1)).toNat) (C2 * 10 ^ (j - 1).toNat * d) * (d * 10 ^ (-j).toNat) ≤ awayN (n * 10 ^ (-j).toNat) (C1 * 10 ^ j.toNat * d) * (d * 10 ^ (-(j - 1)).toNat) := by
  have hb : d * 10 ^ (j - 1).toNat ≠ 0 := Nat.mul_ne_zero hd (ten_ne _)
  have hn := rnd_near (a := n * 10 ^ (-(j - 1)).toNat) hb (10 * C1)
  rw [h2] at hn
  have hr : 10 ^ j.toNat * 10 ^ (-(j - 1)).toNat = 10 * 10 ^ (j - 1).toNat * 10 ^ (-j).toNat := by
    rw [← Nat.pow_add, show (10 : Nat) * 10 ^ (j - 1).toNat = 10 ^ ((j - 1).toNat + 1) by rw [Nat.pow_succ, Nat.mul_comm], ← Nat.pow_add]
    congr 1
    omega
  generalize 10 ^ (-(j - 1)).toNat = V' at *
  generalize 10 ^ (j - 1).toNat = U' at *
  generalize 10 ^ (-j).toNat = V at *
  generalize 10 ^ j.toNat = U at *
  have k1 : awayN (n * V') (C2 * U' * d) ≤ awayN (n * V') (10 * C1 * U' * d) := by
    rw [away_eq, away_eq, show C2 * U' * d = d * U' * C2 by ac_rfl, show 10 * C1 * U' * d = d * U' * (10 * C1) by ac_rfl]
    exact hn
  have k2 : awayN (n * V') (10 * C1 * U' * d) * V = awayN (n * V) (C1 * U * d) * V' := by
    rw [away_mul, away_mul]
    congr 1
    · ac_rfl
    · rw [show 10 * C1 * U' * d * V = C1 * d * (10 * U' * V) by ac_rfl, ← hr]
      ac_rfl
  have k3 := Nat.mul_le_mul_right (V * d) k1
  rw [show awayN (n * V') (C2 * U' * d) * (d * V) = awayN (n * V') (C2 * U' * d) * (V * d) by ac_rfl]
  refine Nat.le_trans k3 ?_
  rw [← Nat.mul_assoc, k2]
  exact Nat.le_of_eq (by ac_rfl)
end Go.Proofs.YtammjgieocgelaaGreatDoor
