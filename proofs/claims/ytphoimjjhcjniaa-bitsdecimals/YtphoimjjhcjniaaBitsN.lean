/- Plain maths of the law BitsDecimals. -/
import Derived.Test.YtphoimjjhcjniaaBitsI
import Derived.Test.YtphoimjjhcjniaaDecV
import Derived.Test.YtphoimjjhcjniaaDecG
namespace Go.Proofs.Ytphoimjjhcjniaa
set_option linter.unusedVariables false
set_option linter.unusedSimpArgs false
open Go.RowKit

/-- The number of m digits, the least significant one first. -/
def numD (f : Nat → Nat) (m : Nat) : Nat := valB 10 ((List.range m).map fun j => f j % 10)
theorem numD_lt (f : Nat → Nat) (m : Nat) : numD f m < 10 ^ m := by
  have := valB_lt (B := 10) ten2 ((List.range m).map fun j => f j % 10) (by
    intro d hd
    obtain ⟨j, _, rfl⟩ := List.mem_map.1 hd
    exact Nat.mod_lt _ (by omega))
  rw [List.length_map, List.length_range] at this
  exact this
theorem numD_dg (f : Nat → Nat) {m j : Nat} (h : j < m) : dg 10 (numD f m) j = f j % 10 := by
  have := dg_valB (B := 10) ten2 ((List.range m).map fun j => f j % 10) j (by
    intro d hd
    obtain ⟨j, _, rfl⟩ := List.mem_map.1 hd
    exact Nat.mod_lt _ (by omega))
  unfold numD
  rw [this, List.getD_eq_getElem?_getD, List.getElem?_map, List.getElem?_range h]
  rfl
theorem small_class {b : Nat} (h : b < 9218868437227405312) : bC b ≤ 1 ∧ bN b = false := by
  have e0 : bE b = b / 4503599627370496 := by unfold bE; omega
  refine ⟨?_, ?_⟩
  · unfold bC
    rw [if_neg (by omega)]
    split <;> omega
  · unfold bN bS
    rw [if_neg (fun hh => by have := hh.1; omega)]
    exact decide_eq_false (by omega)
/-- A value's decimals, and how many of them stand behind the point. -/
def decP (b : Nat) : Nat := bM b * 2 ^ (bX b).toNat * 5 ^ (-bX b).toNat
def decK (b : Nat) : Nat := (-bX b).toNat
theorem decP_bV {b : Nat} (hb : b < 9218868437227405312) (T : Nat) (hT : 2 ^ 1074 = T) : decP b * T = bV b * 10 ^ decK b := by
  have h := v_bV hb
  rw [hT] at h
  unfold vNum vDen at h
  unfold decP decK
  generalize (-bX b).toNat = k at *
  generalize bM b * 2 ^ (bX b).toNat = V at *
  rw [Nat.mul_right_comm, h, Nat.mul_assoc, ← Nat.mul_pow]
theorem cmpZ_scale {a b A B H G : Nat} (hH : 0 < H) (hG : 0 < G) (h1 : a * H = A * G) (h2 : b * H = B * G) : cmpZ a b = cmpZ A B := by
  unfold cmpZ
  rcases Nat.lt_trichotomy a b with h | h | h
  · have g : A < B := by
      have := Nat.mul_lt_mul_of_pos_right h hH
      rw [h1, h2] at this
      exact Nat.lt_of_mul_lt_mul_right this
    rw [if_pos h, if_pos g]
  · have g : A = B := by
      rw [h, h2] at h1
      exact (Nat.eq_of_mul_eq_mul_right hG h1).symm
    rw [if_neg (by omega), if_pos h, if_neg (by omega), if_pos g]
  · have g : B < A := by
      have := Nat.mul_lt_mul_of_pos_right h hH
      rw [h1, h2] at this
      exact Nat.lt_of_mul_lt_mul_right this
    rw [if_neg (by omega), if_neg (by omega), if_neg (by omega), if_neg (by omega)]
/-- Which side of the middle a number is on, told in decimals. -/
theorem side_dec {N c X xk most : Nat} (hN : N < 9218868437227405312) (hc : c < 9218868437227405312) (h1 : xk ≤ most) (h2 : decK N ≤ most) (h3 : decK c ≤ most) :
    cmpZ (X * 10 ^ (most - xk) * 2) (decP N * 10 ^ (most - decK N) + decP c * 10 ^ (most - decK c)) = cmpZ (2 * (X * 2 ^ 1074)) ((bV N + bV c) * 10 ^ xk) := by
  obtain ⟨T, hT, T0⟩ := some_pow 1074
  have a1 := decP_bV hN T hT
  have a2 := decP_bV hc T hT
  rw [hT]
  clear hT
  have pw : ∀ k, k ≤ most → (10 : Nat) ^ k * 10 ^ (most - k) = 10 ^ most := fun k h => by rw [← Nat.pow_add, Nat.add_sub_cancel' h]
  have Y0 : 0 < (10 : Nat) ^ xk := Nat.pow_pos (by omega)
  refine cmpZ_scale (H := 10 ^ xk * T) (G := 10 ^ most) (Nat.mul_pos Y0 T0) (Nat.pow_pos (by omega)) ?_ ?_
  · rw [← pw xk h1]
    ac_rfl
  · have b1 : decP N * 10 ^ (most - decK N) * (10 ^ xk * T) = bV N * 10 ^ xk * 10 ^ most := by
      rw [show decP N * 10 ^ (most - decK N) * (10 ^ xk * T) = decP N * T * 10 ^ (most - decK N) * 10 ^ xk by ac_rfl, a1, Nat.mul_assoc (bV N), pw _ h2]
      ac_rfl
    have b2 : decP c * 10 ^ (most - decK c) * (10 ^ xk * T) = bV c * 10 ^ xk * 10 ^ most := by
      rw [show decP c * 10 ^ (most - decK c) * (10 ^ xk * T) = decP c * T * 10 ^ (most - decK c) * 10 ^ xk by ac_rfl, a2, Nat.mul_assoc (bV c), pw _ h3]
      ac_rfl
    rw [Nat.add_mul, b1, b2, Nat.add_mul, Nat.add_mul]
/-- What is asked of a neighbour. -/
def Side (N c : Nat) (z : Int) : Prop := ((N < c ∧ z ≤ 0) ∨ (c < N ∧ 0 ≤ z)) ∧ (z = 0 → N % 2 = 0)
theorem cmpZ_le {a b : Nat} (h : a ≤ b) : cmpZ a b ≤ 0 := by
  unfold cmpZ
  split
  · omega
  · rw [if_pos (by omega)]; omega
theorem cmpZ_ge {a b : Nat} (h : b ≤ a) : 0 ≤ cmpZ a b := by
  unfold cmpZ
  rw [if_neg (by omega)]
  split <;> omega
theorem cmpZ_zero {a b : Nat} (h : cmpZ a b = 0) : a = b := by
  unfold cmpZ at h
  split at h
  · omega
  · split at h
    · assumption
    · omega
theorem near_small {X xk : Nat} (hX : X < 10 ^ 65) : X * 2 ^ 1074 < bV 5958262307011166208 * 10 ^ xk := by
  have e : ∀ n, n = 1074 → bV 5958262307011166208 = 4503599627370496 * 2 ^ 248 * 2 ^ n := by
    intro n hn
    unfold bV
    rw [if_neg (by omega), show 5958262307011166208 % 4503599627370496 + 4503599627370496 = 4503599627370496 by omega, show 5958262307011166208 / 4503599627370496 - 1 = 248 + n by omega, Nat.pow_add, Nat.mul_assoc]
  obtain ⟨T, hT, T0⟩ := some_pow 1074
  rw [e 1074 rfl, hT]
  clear hT e
  have h1 : X < 4503599627370496 * 2 ^ 248 := Nat.lt_of_lt_of_le hX (by decide)
  have h2 := Nat.mul_lt_mul_of_pos_right h1 T0
  have h3 : 4503599627370496 * 2 ^ 248 * T * 1 ≤ 4503599627370496 * 2 ^ 248 * T * 10 ^ xk := Nat.mul_le_mul_left _ (Nat.pow_pos (by omega))
  omega
theorem near_le {X xk : Nat} (hX : X < 10 ^ 65) : nearN X (10 ^ xk) ≤ 5958262307011166208 :=
  (near_sides (Nat.pow_pos (by omega)) (by omega) (near_small hX)).1
theorem side_up {X xk : Nat} (hX : X < 10 ^ 65) : Side (nearN X (10 ^ xk)) (nearN X (10 ^ xk) + 1) (cmpZ (2 * (X * 2 ^ 1074)) ((bV (nearN X (10 ^ xk)) + bV (nearN X (10 ^ xk) + 1)) * 10 ^ xk)) := by
  obtain ⟨_, ⟨h1, h2⟩, _⟩ := near_sides (Nat.pow_pos (by omega)) (by omega) (near_small (xk := xk) hX)
  exact ⟨.inl ⟨by omega, cmpZ_le h1⟩, fun h => h2 (cmpZ_zero h)⟩
theorem side_down {X xk c : Nat} (hX : X < 10 ^ 65) (hc : nearN X (10 ^ xk) = c + 1) : Side (nearN X (10 ^ xk)) c (cmpZ (2 * (X * 2 ^ 1074)) ((bV (nearN X (10 ^ xk)) + bV c) * 10 ^ xk)) := by
  obtain ⟨_, _, h3⟩ := near_sides (Nat.pow_pos (by omega)) (by omega) (near_small (xk := xk) hX)
  obtain ⟨h1, h2⟩ := h3 c hc
  rw [Nat.add_comm (bV c), ← hc] at h1 h2
  exact ⟨.inr ⟨by omega, cmpZ_ge h1⟩, fun h => h2 (cmpZ_zero h)⟩
/-- Both sides of the number that is told, and how they show in decimals. -/
theorem law_side {X xk Y N : Nat} (hX : X < 10 ^ 65) (hY : 10 ^ xk = Y) (hN : nearN X Y = N) :
    N ≤ 5958262307011166208 ∧ ∃ sd : Nat → Int, Side N (N + 1) (sd (N + 1)) ∧ (∀ c, N = c + 1 → Side N c (sd c)) ∧
      (∀ c most P pk Q qk : Nat, c < 9218868437227405312 → decP N = P → decK N = pk → decP c = Q → decK c = qk → xk ≤ most → pk ≤ most → qk ≤ most → sd c = cmpZ (X * 10 ^ (most - xk) * 2) (P * 10 ^ (most - pk) + Q * 10 ^ (most - qk))) := by
  subst hY
  subst hN
  refine ⟨near_le hX, fun c => cmpZ (2 * (X * 2 ^ 1074)) ((bV (nearN X (10 ^ xk)) + bV c) * 10 ^ xk), side_up hX, fun c hc => side_down hX hc, ?_⟩
  intro c most P pk Q qk lc hP hpk hQ hqk o1 o2 o3
  subst hP hpk hQ hqk
  have l := near_le (xk := xk) hX
  exact (side_dec (by omega) lc o1 o2 o3).symm
theorem Cs.put2 {k : IntKind} {w : World} {a : Option Addr} {n : Nat} {f : Nat → Nat} (h : Cs k w a n f) {p : Addr} {ao : Option Addr} {m c : Nat} (hc : w.cell? p = some (.slice ao m c)) (u : Value) : Cs k (w.setCell p u) a n f := by
  rcases h with h | ⟨g, off, rfl, hg, hcs⟩
  · exact .inl h
  · refine .inr ⟨g, off, rfl, by simpa using hg, fun j hj => ?_⟩
    rw [World.cell?_setCell_other w _ _ _ (fun e => ?_)]
    · exact hcs j hj
    · have q := hcs j hj
      rw [← e, hc] at q
      cases q
theorem IsDec.put2 {w : World} {v : Value} {x : Nat} (h : IsDec w v x) {p : Addr} {ao : Option Addr} {m c : Nat} (hc : w.cell? p = some (.slice ao m c)) (u : Value) : IsDec (w.setCell p u) v x := by
  obtain ⟨a, cap, h1, h2, h3, h4⟩ := h
  exact ⟨a, cap, h1, h2, h3, h4.put2 hc u⟩
theorem row_u8 {w : World} {a : Option Addr} {len cap : Nat} {zs : List Int} (h : IsRow .u8 w a len cap zs) :
    ∃ f : Nat → Nat, Cs .u8 w a len f ∧ (∀ j, f j ≤ 255) ∧ len ≤ cap ∧ cap ≤ maxLen ∧ (a = none → cap = 0) := by
  rcases h with ⟨rfl, rfl, rfl, rfl⟩ | ⟨y, rfl, hl, hm, hz, hcell, hwz⟩
  · exact ⟨fun _ => 0, .inl rfl, fun _ => Nat.zero_le _, by omega, by omega, fun _ => rfl⟩
  · have hb : ∀ j, 0 ≤ zs.getD j 0 ∧ zs.getD j 0 ≤ 255 := by
      intro j
      by_cases hj : j < zs.length
      · rw [List.getD_eq_getElem?_getD, List.getElem?_eq_getElem hj]
        have h := hwz zs[j] (List.getElem_mem hj)
        simp [Lit.wf, IntKind.min, IntKind.max, IntKind.signed, IntKind.bits] at h
        simp only [Option.getD_some]
        omega
      · rw [List.getD_eq_getElem?_getD, List.getElem?_eq_none (by omega)]
        simp
    refine ⟨fun j => (zs.getD j 0).toNat, ?_, fun j => by have := hb j; show (zs.getD j 0).toNat ≤ 255; omega, hl, hm, fun e => by cases e⟩
    by_cases hk0 : len = 0
    · exact .inl hk0
    · obtain ⟨b, off, spot⟩ := y
      have hc := hcell 0 (by omega)
      have hspot : spot = none := by simpa [Addr.add] using World.cell?_spot hc
      subst hspot
      have hcs : ∀ i, i < cap → w.cell? ⟨b, off + i, none⟩ = some (.int .u8 (zs.getD i 0)) := fun i hi => by
        have := hcell i (by omega)
        have e : (⟨b, off, none⟩ : Addr).add i = ⟨b, off + i, none⟩ := by unfold Addr.add; split <;> simp_all
        rwa [e] at this
      exact .inr ⟨b, off, rfl, cell_lt (hcs 0 (by omega)), fun j hj => by rw [Int.toNat_of_nonneg (hb j).1]; exact hcs j (by omega)⟩
end Go.Proofs.Ytphoimjjhcjniaa
