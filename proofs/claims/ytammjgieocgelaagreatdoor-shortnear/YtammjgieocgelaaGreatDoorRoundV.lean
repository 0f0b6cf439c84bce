/- numerarylaw09: value. -/
import Derived.Test.YtammjgieocgelaaGreatDoorPackF
import Derived.Test.YtammjgieocgelaaGreatDoorPackG
namespace Go.Proofs.YtammjgieocgelaaGreatDoor
set_option linter.unusedVariables false
set_option linter.unusedSimpArgs false
open Go.RowKit

attribute [local go_sem] World.cell?_alloc_some
theorem or_top {u : Nat} (h : u < 9223372036854775808) : u ||| 9223372036854775808 = u + 9223372036854775808 := by
  have := Nat.two_pow_add_eq_or_of_lt (i := 63) (b := u) (by omega) 1
  rw [Nat.mul_one, show (2 : Nat) ^ 63 = 9223372036854775808 by rfl] at this
  rw [Nat.or_comm]
  omega
theorem tried_of {b : Nat} (hb : b < 18446744073709551616) (h : bC b ≠ 3) : triedN (bC b) (bN b) (bM b) (bX b) = b := by
  have e0 : bE b = b / 4503599627370496 % 2048 := rfl
  have f0 : bF b = b % 4503599627370496 := rfl
  unfold bC at h
  have hN : bN b = bS b := by
    unfold bN
    rw [if_neg]
    rintro ⟨h1, h2⟩
    rw [if_pos h1, if_neg h2] at h
    omega
  have hU : unsN (bC b) (bM b) (bX b) = b % 9223372036854775808 := by
    unfold unsN bC bM bX joinN
    generalize bE b = E at *
    generalize bF b = F at *
    by_cases h1 : E = 2047
    · by_cases h2 : F = 0
      · rw [if_pos h1, if_pos h2]
        rw [show ((2 : Nat) : Int) = 2 by rfl, if_neg (by omega), if_pos rfl]
        omega
      · rw [if_pos h1, if_neg h2] at h
        omega
    · simp only [h1, if_false]
      by_cases h2 : E = 0
      · by_cases h3 : F = 0
        · simp only [h2, h3, and_self, if_true]
          simp only [show ((0 : Nat) : Int) = 0 by rfl, show ¬ ((0 : Int) = 1) by omega, show ¬ ((0 : Int) = 2) by omega, show ¬ ((0 : Int) = 3) by omega, if_false]
          omega
        · simp only [h2, h3, and_false, if_true, if_false, show ((1 : Nat) : Int) = 1 by rfl]
          omega
      · simp only [h2, false_and, if_true, if_false, show ((1 : Nat) : Int) = 1 by rfl]
        omega
  unfold triedN
  rw [hU, hN]
  unfold bS
  by_cases s : 9223372036854775808 ≤ b
  · rw [decide_eq_true s, if_pos rfl, or_top (by omega)]
    omega
  · rw [decide_eq_false s, if_neg (by decide)]
    omega
theorem ok_of {b : Nat} (hb : b < 18446744073709551616) (h : bC b ≠ 3) : okN (bC b) (bN b) (bM b) (bX b) = true := by
  unfold okN
  rw [tried_of hb h]
  simp

theorem bM_lt (b : Nat) : bM b < 9007199254740992 := by
  unfold bM bF
  split
  · omega
  · split <;> omega
theorem bX_low (b : Nat) : -1074 ≤ bX b ∧ bX b ≤ 971 := by
  have lE : bE b < 2048 := Nat.mod_lt _ (by omega)
  unfold bX
  split
  · omega
  · split
    · split <;> omega
    · omega
theorem results_val {fn : Func} {p u1 u2 u3 : Tmp} (h : fn.results = #[.cell p 55, .tmp u1, .tmp u2, .tmp u3]) (tmps : Array Value) (w : World) (b : Nat) (v0 v1 : Value) (hp : tmps.getD p undef = .pointer (some ⟨b, 0, none⟩)) (hc : w.cell? ⟨b, 0, none⟩ = some v0) (hc' : w.cell? ⟨b, 1, none⟩ = some v1) :
    (results fn tmps).run Tryz.prog w = .ok (.tuple #[.agg #[v0, v1], tmps.getD u1 undef, tmps.getD u2 undef, tmps.getD u3 undef]) w := by
  have hp1 : tmps[p]?.getD undef = .pointer (some ⟨b, 0, none⟩) := by simpa using hp
  simp [results, h, hp1]
  go_simp

theorem Slot2.dec {W0 w : World} {b : Nat} {u v : Value} (h : Slot2 W0 w b u v) {va : Value} {x : Nat} (k : IsDec w va x) (a : Option Addr) (n c : Nat) (u2 : Value) : IsDec ((w.setCell ⟨b, 0, none⟩ (.slice a n c)).setCell ⟨b, 1, none⟩ u2) va x := by
  have calm : ∀ {w : World} {p : Addr} {u : Value}, NoNum w p.block → IsDec w va x → IsDec (w.setCell p u) va x := by
    intro w p u hb h
    obtain ⟨a, c, rfl, h2, h3, h4⟩ := h
    refine ⟨a, c, rfl, h2, h3, ?_⟩
    by_cases h0 : nlen 10 x = 0
    · exact .inl h0
    · refine h4.set p u ?_
      rcases h4 with h4 | ⟨b, off, rfl, hb', hc⟩
      · omega
      · intro g off' s e
        rintro rfl
        simp only [Option.some.injEq, Addr.mk.injEq] at e
        obtain ⟨rfl, _, _⟩ := e
        exact hb _ _ _ (hc 0 (by omega))
  exact calm (p := ⟨b, 1, none⟩) (h.2.2.2.1.put h.1 _ _ _) (calm (p := ⟨b, 0, none⟩) h.2.2.2.1 k)

end Go.Proofs.YtammjgieocgelaaGreatDoor
