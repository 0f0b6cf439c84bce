/- numerarylaw09: a value's quotient and its decimals are the same number (plain maths). -/
import Derived.Test.YtammjgieocgelaaGreatDoorRoundV
import Derived.Test.YtammjgieocgelaaGreatDoorPackG
namespace Go.Proofs.YtammjgieocgelaaGreatDoor
set_option linter.unusedVariables false
set_option linter.unusedSimpArgs false
open Go.RowKit

/-- The same number: n over d, and decimals D with k behind the point. -/
def SameN (n d D k : Nat) : Prop := d ≠ 0 ∧ n * 10 ^ k = D * d
theorem at_same {n d D k p : Nat} (h : SameN n d D k) : rndN (n * 10 ^ p) d = cutN D k p := by
  have e := to_cut D k (p : Int)
  rw [Int.toNat_natCast, show (-(p : Int)).toNat = 0 by omega, Nat.pow_zero, Nat.mul_one] at e
  unfold cutN
  rw [← e]
  refine rnd_same h.1 (ten_ne _) ?_
  rw [show n * 10 ^ p * 10 ^ k = n * 10 ^ k * 10 ^ p by ac_rfl, h.2]
  ac_rfl
theorem to_same {n d D k c : Nat} {E : Int} (hc : 1 ≤ c) (h : SameN n d D k) : rndN (n * 10 ^ (-E).toNat * 10 ^ (c - 1)) (d * 10 ^ E.toNat) = cutN D k ((c : Int) - 1 - E) := by
  have e := to_cut D k ((c : Int) - 1 - E)
  unfold cutN
  rw [← e]
  refine rnd_same (Nat.mul_ne_zero h.1 (ten_ne _)) (Nat.mul_ne_zero (ten_ne _) (ten_ne _)) ?_
  have s : (-E).toNat + (c - 1) + (-((c : Int) - 1 - E)).toNat = ((c : Int) - 1 - E).toNat + E.toNat := by omega
  have s2 : 10 ^ (-E).toNat * 10 ^ (c - 1) * 10 ^ (-((c : Int) - 1 - E)).toNat = 10 ^ ((c : Int) - 1 - E).toNat * 10 ^ E.toNat := by rw [← Nat.pow_add, ← Nat.pow_add, s, Nat.pow_add]
  rw [show n * 10 ^ (-E).toNat * 10 ^ (c - 1) * (10 ^ k * 10 ^ (-((c : Int) - 1 - E)).toNat) = n * 10 ^ k * (10 ^ (-E).toNat * 10 ^ (c - 1) * 10 ^ (-((c : Int) - 1 - E)).toNat) by ac_rfl, h.2, s2]
  ac_rfl
theorem exp_same {n d D k : Nat} {E : Int} (h : SameN n d D k) (h0 : D ≠ 0) (hE : (nlen 10 D : Int) - 1 - k = E) : IsExp n d E := by
  have a : IsExp D (10 ^ k) E := ⟨expD_low h0 hE.symm, expD_high h0 hE.symm⟩
  exact a.same (ten_ne _) h.1 h.2.symm
theorem zero_same {n d D k : Nat} (h : SameN n d D k) : n = 0 ↔ D = 0 := by
  have h2 := h.2
  constructor
  · intro e
    rw [e, Nat.zero_mul] at h2
    rcases Nat.mul_eq_zero.1 h2.symm with c | c
    · exact c
    · exact absurd c h.1
  · intro e
    rw [e, Nat.zero_mul] at h2
    rcases Nat.mul_eq_zero.1 h2 with c | c
    · exact c
    · exact absurd c (ten_ne _)
theorem nl2_of {x : Nat} {k : Nat} (h : x < 2 ^ k) : nlen 2 x ≤ k := nlen_le (by omega) h
theorem nl32_of {x k : Nat} (h : x < 2 ^ k) (hk : 0 < k) : nlen 4294967296 x ≤ k := nlen_le b32 (Nat.lt_of_lt_of_le h (Nat.pow_le_pow_left (by omega) _))
theorem nl32_exp {x e k : Nat} (h : x < 2 ^ e) (he : e ≤ 32 * k) : nlen 4294967296 x ≤ k := by
  refine nlen_le b32 (Nat.lt_of_lt_of_le h ?_)
  rw [show (4294967296 : Nat) = 2 ^ 32 by decide, ← Nat.pow_mul]
  exact Nat.pow_le_pow_right (by omega) he
/-- What is told of a value of 64 bits that is finite. -/
theorem value_facts (m : Nat) (x : Int) (hm : m < 9007199254740992) (x0 : -1074 ≤ x) (x1 : x ≤ 971) (n d D : Nat) (hn : m * 2 ^ x.toNat = n) (hd : 2 ^ (-x).toNat = d) (hD : m * 2 ^ x.toNat * 5 ^ (-x).toNat = D) :
    SameN n d D (-x).toNat ∧ nlen 2 n ≤ 1100 ∧ nlen 2 d ≤ 1100 ∧ nlen 4294967296 n ≤ 1000 ∧ nlen 4294967296 d ≤ 1000 ∧ (nlen 10 D : Int) ≤ 20 + x.toNat + (-x).toNat := by
  have d0 : d ≠ 0 := by rw [← hd]; exact Nat.ne_of_gt (Nat.pow_pos (by omega))
  have hmp : m < 2 ^ 53 := hm
  have n1 : n < 2 ^ (53 + x.toNat) := by rw [← hn, Nat.pow_add]; exact Nat.mul_lt_mul_of_pos_right hmp (Nat.pow_pos (by omega))
  have d1 : d < 2 ^ ((-x).toNat + 1) := by rw [← hd]; exact Nat.pow_lt_pow_right (by omega) (by omega)
  have hl : nlen 10 m ≤ 20 := nlen_le ten2 (Nat.lt_of_lt_of_le hm (by decide))
  have l1 := nlen10_pow (k := 2) hl (by omega) x.toNat
  have l2 := nlen10_pow (k := 5) l1 (by omega) (-x).toNat
  rw [hD] at l2
  have b1 := nl2_of n1
  have b2 := nl2_of d1
  have c1 : nlen 4294967296 n ≤ 32 := nl32_exp n1 (by omega)
  have c2 : nlen 4294967296 d ≤ 34 := nl32_exp d1 (by omega)
  refine ⟨⟨d0, ?_⟩, by omega, by omega, by omega, by omega, by omega⟩
  rw [← hn, ← hd, ← hD]
  exact val_fives m x.toNat (-x).toNat
theorem rnd_top {a b : Nat} : rndN a b ≤ a + 1 := by
  unfold rndN
  have := Nat.div_le_self a b
  split <;> omega
theorem nl10_succ {x n : Nat} (h : nlen 10 x ≤ n) : nlen 10 (x + 1) ≤ n + 1 := by
  refine nlen_le ten2 ?_
  have := lt_of_nlen ten2 h
  have hp : 0 < 10 ^ n := Nat.pow_pos (by omega)
  rw [Nat.pow_succ]
  omega
theorem nl10_ten {x n j : Nat} (h : nlen 10 x ≤ n) : nlen 10 (x * 10 ^ j) ≤ n + j := by
  refine nlen_le ten2 ?_
  rw [Nat.pow_add]
  exact Nat.mul_lt_mul_of_pos_right (lt_of_nlen ten2 h) (Nat.pow_pos (by omega))
theorem cut_size {D k N : Nat} {p : Int} (h : nlen 10 D ≤ N) : nlen 10 (cutN D k p) ≤ N + (p - k).toNat + 1 := by
  unfold cutN
  split
  · have := nl10_ten (j := (p - k).toNat) h
    omega
  · have := Nat.le_trans (nlen_mono ten2 (rnd_top (a := D) (b := 10 ^ ((k : Int) - p).toNat))) (nl10_succ h)
    omega
end Go.Proofs.YtammjgieocgelaaGreatDoor
