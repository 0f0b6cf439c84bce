/- Ahead of layer 10: the bits nearest to a number (plain maths). -/
import Derived.Test.YtammjgieocgelaaGreatDoorPackF
import Derived.Test.YtammjgieocgelaaGreatDoorPackG
namespace Go.Proofs.YtammjgieocgelaaGreatDoor
set_option linter.unusedVariables false
set_option linter.unusedSimpArgs false

def vNum (b : Nat) : Nat := bM b * 2 ^ (bX b).toNat
def vDen (b : Nat) : Nat := 2 ^ (-bX b).toNat
theorem pow_parts {m a b c : Nat} (h : a + b = c) : m * 2 ^ a * 2 ^ b = m * 2 ^ c := by rw [Nat.mul_assoc, ← Nat.pow_add, h]
theorem v_bV {b : Nat} (hb : b < 9218868437227405312) : vNum b * 2 ^ 1074 = bV b * vDen b := by
  have e0 : bE b = b / 4503599627370496 := by unfold bE; omega
  have f0 : bF b = b % 4503599627370496 := rfl
  unfold vNum vDen bV bM bX
  rw [← e0, ← f0]
  by_cases h1 : b < 4503599627370496
  · have hE : bE b = 0 := by omega
    have hF : bF b = b := by omega
    rw [hE, hF]
    simp only [show ¬ (0 : Nat) = 2047 by omega, if_false, if_true, h1]
    by_cases h2 : b = 0
    · subst h2
      generalize 2 ^ 1074 = P
      simp
    · rw [if_neg h2, show ((-1074 : Int)).toNat = 0 by rfl, show (-(-1074 : Int)).toNat = 1074 by rfl, Nat.pow_zero, Nat.mul_one]
  · have hE : bE b ≠ 0 := by omega
    have hE2 : bE b ≠ 2047 := by omega
    simp only [hE, hE2, if_false, h1]
    generalize bF b = F at *
    by_cases h2 : bE b ≤ 1075
    · rw [show ((bE b : Int) - 1075).toNat = 0 by omega, Nat.pow_zero, Nat.mul_one]
      have key : ∀ c : Nat, c = 1074 → (F + 4503599627370496) * 2 ^ c = (F + 4503599627370496) * 2 ^ (bE b - 1) * 2 ^ (-((bE b : Int) - 1075)).toNat := fun c hc => (pow_parts (by omega)).symm
      exact key 1074 rfl
    · rw [show (-((bE b : Int) - 1075)).toNat = 0 by omega, Nat.pow_zero, Nat.mul_one]
      have key : ∀ c : Nat, c = 1074 → (F + 4503599627370496) * 2 ^ ((bE b : Int) - 1075).toNat * 2 ^ c = (F + 4503599627370496) * 2 ^ (bE b - 1) := fun c hc => pow_parts (by omega)
      exact key 1074 rfl

/-- At or above the value of Infinite, Infinite is the nearest. -/
theorem near_inf {x y T : Nat} (hT : 2 ^ 1074 = T) (hy : 0 < y) (h : bV 9218868437227405312 * y ≤ x * T) : nearN x y = 9218868437227405312 := by
  have hv : ∀ c : Nat, c = 2046 → bV 9218868437227405312 = 4503599627370496 * 2 ^ c := by
    intro c hc
    unfold bV
    rw [if_neg (by omega), show 9218868437227405312 % 4503599627370496 + 4503599627370496 = 4503599627370496 by omega, show 9218868437227405312 / 4503599627370496 - 1 = 2046 by omega, hc]
  have hx : 0 < x := by
    rcases Nat.eq_zero_or_pos x with c | c
    · subst c
      rw [Nat.zero_mul] at h
      have h0 : 0 < bV 9218868437227405312 := by have := bV_lt (a := 0) (b := 9218868437227405312) (by omega); omega
      have := Nat.mul_pos h0 hy
      omega
    · exact c
  have ht : 1024 ≤ topB x y := by
    rcases Int.lt_or_le (topB x y) 1024 with c | c
    · exfalso
      obtain ⟨s, hs⟩ : ∃ s : Nat, s = (topB x y).natAbs := ⟨_, rfl⟩
      have sp := topB_spec hx hy (topB x y + (1074 + s)).toNat (1074 + s) (by omega)
      have h2 := sp.2
      have h3 : x * 2 ^ (1074 + s) < y * 2 ^ (2098 + s) := by
        refine Nat.lt_of_lt_of_le h2 (pow2_mono (by omega) y)
      have k : ∀ c : Nat, c = 1074 → 2 ^ c = T → x * 2 ^ (c + s) = x * T * 2 ^ s := by
        intro c hc e
        rw [Nat.pow_add, e, Nat.mul_assoc]
      rw [k 1074 rfl hT] at h3
      have k2 : ∀ c : Nat, c = 2098 → bV 9218868437227405312 = 2 ^ c → y * 2 ^ (c + s) = bV 9218868437227405312 * y * 2 ^ s := by
        intro c hc e
        rw [e, Nat.pow_add]
        ac_rfl
      have e3 : ∀ c : Nat, c = 2046 → bV 9218868437227405312 = 4503599627370496 * 2 ^ c → ∀ f, f = c + 52 → bV 9218868437227405312 = 2 ^ f := by
        intro c hc e f hf
        rw [e, hf, Nat.pow_add, Nat.mul_comm]
      rw [k2 2098 rfl (e3 2046 rfl (hv 2046 rfl) 2098 rfl)] at h3
      have := Nat.mul_le_mul_right (2 ^ s) h
      omega
    · exact c
  unfold nearN
  rw [if_neg (by omega), if_pos]
  unfold expN
  omega
/-- Just the bits between whose middles a number lies. -/
theorem near_iff {x y c T : Nat} (hT : 2 ^ 1074 = T) (hy : 0 < y) (hb : c + 1 < 9218868437227405312) :
    nearN x y = c + 1 ↔ ((2 * (x * T) < (bV (c + 1) + bV (c + 1 + 1)) * y ∨ (2 * (x * T) = (bV (c + 1) + bV (c + 1 + 1)) * y ∧ (c + 1) % 2 = 0)) ∧ ((bV c + bV (c + 1)) * y < 2 * (x * T) ∨ (2 * (x * T) = (bV c + bV (c + 1)) * y ∧ (c + 1) % 2 = 0))) := by
  have NS : ∀ {b : Nat}, b < 9218868437227405312 → bV b * y ≤ x * T → x * T < bV (b + 1) * y → nearN x y = if 2 * (x * T) < (bV b + bV (b + 1)) * y then b else if 2 * (x * T) = (bV b + bV (b + 1)) * y then b + b % 2 else b + 1 := by
    intro b h1 h2 h3
    rw [← hT] at h2 h3 ⊢
    exact near_spec hy h1 h2 h3
  have s1 := Nat.mul_lt_mul_of_pos_right (bV_step c) hy
  have s2 := Nat.mul_lt_mul_of_pos_right (bV_step (c + 1)) hy
  have m1 := Nat.add_mul (bV c) (bV (c + 1)) y
  have m2 := Nat.add_mul (bV (c + 1)) (bV (c + 1 + 1)) y
  constructor
  · intro hn
    rcases Nat.lt_or_ge (x * T) (bV 9218868437227405312 * y) with hl | hl
    · obtain ⟨b, b0, b1, b2⟩ : ∃ b, b < 9218868437227405312 ∧ bV b * y ≤ x * T ∧ x * T < bV (b + 1) * y := by
        rw [← hT] at hl ⊢
        exact near_all hl
      have e := NS b0 b1 b2
      rw [hn] at e
      have mb := Nat.add_mul (bV b) (bV (b + 1)) y
      -- b is c or c + 1
      split at e
      · rename_i k
        subst e
        exact ⟨.inl k, .inl (by omega)⟩
      · split at e
        · rename_i k1 k2
          rcases Nat.mod_two_eq_zero_or_one b with r | r
          · have : b = c + 1 := by omega
            subst this
            exact ⟨.inr ⟨k2, r⟩, .inl (by omega)⟩
          · have : b = c := by omega
            subst this
            exact ⟨.inl (by omega), .inr ⟨k2, by omega⟩⟩
        · have : b = c := by omega
          subst this
          exact ⟨.inl (by omega), .inl (by omega)⟩
    · rw [near_inf hT hy hl] at hn
      omega
  · rintro ⟨u, l⟩
    rcases Nat.lt_or_ge (x * T) (bV (c + 1) * y) with k | k
    · rw [NS (b := c) (by omega) (by omega) k]
      rcases l with l | ⟨l, le⟩
      · rw [if_neg (by omega), if_neg (by omega)]
      · rw [if_neg (by omega), if_pos l]
        omega
    · rw [NS (b := c + 1) hb k (by rcases u with u | ⟨u, _⟩ <;> omega)]
      rcases u with u | ⟨u, ue⟩
      · rw [if_pos u]
      · rw [if_neg (by omega), if_pos u]
        omega
end Go.Proofs.YtammjgieocgelaaGreatDoor
