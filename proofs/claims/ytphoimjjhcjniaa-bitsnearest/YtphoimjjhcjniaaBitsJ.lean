/- Numbers between two neighbours; products of three. -/
import Derived.Test.YtphoimjjhcjniaaBitsI
namespace Go.Proofs.Ytphoimjjhcjniaa
set_option linter.unusedVariables false
set_option linter.unusedSimpArgs false
open Go.RowKit

def threeF (x y k j : Nat) : Nat := if j = 0 then x else if j = 1 then y else k
theorem all3 (x y k P : Nat) (w : World) (a : Option Addr) (h : Nats w a 3 (threeF x y k)) (hx : nlen 4294967296 x ≤ 1000) (hy : nlen 4294967296 y ≤ 1000) (hk : nlen 4294967296 k ≤ 1000) (hP : x * y * k = P) :
    Calls Try.prog 15 #[.slice a 3 3] w fun e w' => ∃ a c, e = .returned (.agg #[.slice a (nlen 4294967296 P) c]) ∧ IsNat w' (.agg #[.slice a (nlen 4294967296 P) c]) P ∧ Fr w w' := by
  subst hP
  have e : prodN (threeF x y k) 3 = x * y * k := by
    show 1 * x * y * k = x * y * k
    rw [Nat.one_mul]
  have b1 : nlen 4294967296 (x * y) ≤ 2000 := nlen_mul b32 hx hy
  have b2 : nlen 4294967296 (x * y * k) ≤ 3000 := nlen_mul b32 b1 hk
  have := all_any a 3 3 (threeF x y k) w h (by omega) (fun j hj => by
    unfold threeF
    split
    · omega
    · split <;> omega) (fun j hj => by
    rcases j with _ | _ | _ | _ | j
    · show nlen 4294967296 1 ≤ _
      rw [nl1]; omega
    · show nlen 4294967296 (1 * x) ≤ _
      rw [Nat.one_mul]; omega
    · show nlen 4294967296 (1 * x * y) ≤ _
      rw [Nat.one_mul]; omega
    · rw [Nat.zero_add, e]; omega
    · omega)
  rw [e] at this
  refine this.mono ?_
  rintro e w' ⟨a, c, rfl, h1, h2, h3⟩
  exact ⟨a, c, rfl, h1, h3⟩

/-- Of a number between two neighbours, in parts, the nearer one's bits are told. -/
theorem near_between {B p r : Nat} (hB : B < 9218868437227405311) (hw : 0 < p + r) :
    nearN (vNum B * vDen (B + 1) * r + vNum (B + 1) * vDen B * p) (vDen B * vDen (B + 1) * (p + r)) = if p + r < 2 * p then B + 1 else if 2 * p = p + r then B + B % 2 else B := by
  have e0 := v_bV (b := B) (by omega)
  have e1 := v_bV (b := B + 1) (by omega)
  have g0 : 0 < vDen B * vDen (B + 1) := Nat.mul_pos (vDen_pos _) (vDen_pos _)
  have hs := bV_step B
  obtain ⟨X, hX⟩ : ∃ X, vNum B * vDen (B + 1) * r + vNum (B + 1) * vDen B * p = X := ⟨_, rfl⟩
  obtain ⟨g, hg⟩ : ∃ g, vDen B * vDen (B + 1) = g := ⟨_, rfl⟩
  obtain ⟨δ, hδ⟩ : ∃ δ, bV (B + 1) = bV B + δ := ⟨bV (B + 1) - bV B, by omega⟩
  rw [hX, hg]
  rw [hg] at g0
  have hd : 0 < g * δ := Nat.mul_pos g0 (by omega)
  have key : ∀ T, vNum B * T = bV B * vDen B → vNum (B + 1) * T = bV (B + 1) * vDen (B + 1) → X * T = bV B * (g * (p + r)) + g * δ * p := by
    intro T t0 t1
    rw [← hX, Nat.add_mul]
    have a1 : vNum B * vDen (B + 1) * r * T = bV B * g * r := by
      rw [← hg, show vNum B * vDen (B + 1) * r * T = vNum B * T * (vDen (B + 1) * r) by ac_rfl, t0]; ac_rfl
    have a2 : vNum (B + 1) * vDen B * p * T = bV (B + 1) * g * p := by
      rw [← hg, show vNum (B + 1) * vDen B * p * T = vNum (B + 1) * T * (vDen B * p) by ac_rfl, t1]; ac_rfl
    rw [a1, a2, hδ, Nat.add_mul, Nat.add_mul, Nat.mul_add g, Nat.mul_add, ← Nat.mul_assoc, ← Nat.mul_assoc, Nat.mul_comm δ g]
    omega
  have hXT := key _ e0 e1
  clear key
  have q0 : g * δ * (p + r) = g * δ * p + g * δ * r := Nat.mul_add _ _ _
  have u0 : bV (B + 1) * (g * (p + r)) = bV B * (g * (p + r)) + g * δ * (p + r) := by
    rw [hδ, Nat.add_mul, ← Nat.mul_assoc δ, Nat.mul_comm δ g]
  have y0 : 0 < g * (p + r) := Nat.mul_pos g0 hw
  by_cases hr : r = 0
  · subst hr
    rw [if_pos (by omega)]
    refine near_exact y0 (by omega) ?_
    rw [hXT, u0, Nat.add_zero]
  · have m0 : 0 < g * δ * r := Nat.mul_pos hd (by omega)
    have hn := near_spec (x := X) (b := B) y0 (by omega) (by rw [hXT]; omega) (by rw [hXT, u0]; omega)
    rw [hn, hXT, Nat.add_mul, u0]
    rw [q0]
    have c1 : p < r → g * δ * p < g * δ * r := fun h => Nat.mul_lt_mul_of_pos_left h hd
    have c2 : p = r → g * δ * p = g * δ * r := fun h => by rw [h]
    have c3 : r < p → g * δ * r < g * δ * p := fun h => Nat.mul_lt_mul_of_pos_left h hd
    generalize bV B * (g * (p + r)) = V at *
    rcases Nat.lt_trichotomy p r with h | h | h
    · have := c1 h
      rw [if_pos (by omega), if_neg (by omega), if_neg (by omega)]
    · have := c2 h
      rw [if_neg (by omega), if_pos (by omega), if_neg (by omega), if_pos (by omega)]
    · have := c3 h
      rw [if_neg (by omega), if_neg (by omega), if_pos (by omega)]
end Go.Proofs.Ytphoimjjhcjniaa
