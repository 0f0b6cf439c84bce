/- The values of 64 bits: Of, and the document's Of. -/
import Derived.Test.YthdgdomgcogpjaaDoorPackB
import Derived.BigQuiet
import Derived.Deep.DeepCutAuto
namespace Go.Proofs.YthdgdomgcogpjaaDoor
set_option linter.unusedVariables false
set_option linter.unusedSimpArgs false
open Go.RowKit

def bE (b : Nat) : Nat := b / 4503599627370496 % 2048
def bF (b : Nat) : Nat := b % 4503599627370496
def bS (b : Nat) : Bool := decide (9223372036854775808 ≤ b)
def bC (b : Nat) : Nat := if bE b = 2047 then (if bF b = 0 then 2 else 3) else if bE b = 0 ∧ bF b = 0 then 0 else 1
def bN (b : Nat) : Bool := if bE b = 2047 ∧ bF b ≠ 0 then false else bS b
def bM (b : Nat) : Nat := if bE b = 2047 then 0 else if bE b = 0 then bF b else bF b + 4503599627370496
def bX (b : Nat) : Int := if bE b = 2047 then 0 else if bE b = 0 then (if bF b = 0 then 0 else -1074) else (bE b : Int) - 1075
def bval (b : Nat) : Value := .agg #[.int .i64 (bC b : Int), .bool (bN b), .int .u64 (bM b : Int), .int .i64 (bX b)]

theorem results_four {fn : Func} {p : Tmp} {t : TypeId} (ht : t = 69) (h : fn.results = #[.cell p t]) (tmps : Array Value) (w : World) (b : Nat) (v0 v1 v2 v3 : Value) (hp : tmps.getD p undef = .pointer (some ⟨b, 0, none⟩)) (h0 : w.cell? ⟨b, 0, none⟩ = some v0) (h1 : w.cell? ⟨b, 1, none⟩ = some v1) (h2 : w.cell? ⟨b, 2, none⟩ = some v2) (h3 : w.cell? ⟨b, 3, none⟩ = some v3) :
    (results fn tmps).run Tryd.prog w = .ok (.agg #[v0, v1, v2, v3]) w := by
  have hp' : tmps[p]?.getD undef = .pointer (some ⟨b, 0, none⟩) := by simpa using hp
  subst ht
  simp [results, h, hp']
  go_simp

theorem and_sign (b : Nat) (hb : b < 18446744073709551616) : bits .and .u64 (b : Int) 9223372036854775808 = if 9223372036854775808 ≤ b then 9223372036854775808 else 0 := by
  by_cases c : 9223372036854775808 ≤ b
  · rw [if_pos c]
    go_bits2
  · rw [if_neg c]
    go_bits2
theorem and_exp (b : Nat) (hb : b < 4096) : bits .and .u64 (b : Int) 2047 = ((b % 2048 : Nat) : Int) := by
  go_bits2
theorem and_frac (b : Nat) (hb : b < 18446744073709551616) : bits .and .u64 (b : Int) 4503599627370495 = ((b % 4503599627370496 : Nat) : Int) := by
  go_bits2

theorem results_alloc4 {fn : Func} {p : Tmp} {t : TypeId} (ht : t = 69) (h : fn.results = #[.cell p t]) (tmps : Array Value) (w : World) (v0 v1 v2 v3 : Value) (hp : tmps.getD p undef = .pointer (some ⟨w.heap.size, 0, none⟩)) :
    (results fn tmps).run Tryd.prog (w.alloc (Obj.cells #[v0, v1, v2, v3] t)) = .ok (.agg #[v0, v1, v2, v3]) (w.alloc (Obj.cells #[v0, v1, v2, v3] t)) :=
  results_four ht h tmps _ w.heap.size v0 v1 v2 v3 hp (by go_simp) (by go_simp) (by go_simp) (by go_simp)

set_option maxHeartbeats 4000000 in
set_option maxRecDepth 4000 in
theorem of_any7 (b : Nat) (w : World) (hb : b < 18446744073709551616) :
    Calls Tryd.prog 30 #[.int .u64 (b : Int)] w fun e w' => e = .returned (bval b) ∧ Fr w w' := by
  have r1 := and_sign b hb
  have r2 : bits .and .u64 ((b : Int) / 4503599627370496) 2047 = ((bE b : Nat) : Int) := and_exp (b / 4503599627370496) (by omega)
  have r3 : bits .and .u64 (b : Int) 4503599627370495 = ((bF b : Nat) : Int) := and_frac b hb
  have lE : bE b < 2048 := Nat.mod_lt _ (by omega)
  have lF : bF b < 4503599627370496 := Nat.mod_lt _ (by omega)
  unfold bval bC bN bM bX bS
  generalize bE b = E at *
  generalize bF b = F at *
  by_cases s : 9223372036854775808 ≤ b
  · simp only [decide_eq_true s]
    rw [if_pos s] at r1
    by_cases e1 : E = 2047
    · by_cases f0 : F = 0
      · subst e1
        subst f0
        go_enter Tryd.func30, Tryd.ntmps30
        go_wp2_with fail
        (try simp only [Exit.inBlock, Exit.then])
        refine bodyPost_ret (results_alloc4 rfl rfl _ w _ _ _ _ rfl) rfl ⟨?_, Fr.alloc _ _⟩
        (try rfl)
      · subst e1
        have hF : ((F : Int) == 0) = false := by simp only [beq_eq_false_iff_ne]; omega
        simp only [if_true, f0, if_false, ne_eq, not_false_eq_true, and_self]
        go_enter Tryd.func30, Tryd.ntmps30
        go_wp2_with fail
        (try simp only [Exit.inBlock, Exit.then])
        refine bodyPost_ret (results_alloc4 rfl rfl _ w _ _ _ _ rfl) rfl ⟨?_, Fr.alloc _ _⟩
        (try rfl)
    · by_cases e0 : E = 0
      · by_cases f0 : F = 0
        · subst f0
          subst e0
          go_enter Tryd.func30, Tryd.ntmps30
          go_wp2_with fail
          (try simp only [Exit.inBlock, Exit.then])
          refine bodyPost_ret (results_alloc4 rfl rfl _ w _ _ _ _ rfl) rfl ⟨?_, Fr.alloc _ _⟩
          (try rfl)
        · subst e0
          have hF : ((F : Int) == 0) = false := by simp only [beq_eq_false_iff_ne]; omega
          simp only [if_true, f0, if_false, ne_eq, not_false_eq_true, and_self, and_false, Nat.reduceEqDiff, false_and]
          go_enter Tryd.func30, Tryd.ntmps30
          go_wp2_with fail
          (try simp only [Exit.inBlock, Exit.then])
          refine bodyPost_ret (results_alloc4 rfl rfl _ w _ _ _ _ rfl) rfl ⟨?_, Fr.alloc _ _⟩
          (try rfl)
      · have hE1 : ((E : Int) == 2047) = false := by simp only [beq_eq_false_iff_ne]; omega
        have hE0 : ((E : Int) == 0) = false := by simp only [beq_eq_false_iff_ne]; omega
        simp only [if_true, e1, e0, if_false, ne_eq, not_false_eq_true, and_self, false_and]
        go_enter Tryd.func30, Tryd.ntmps30
        go_wp2_with fail
        (try simp only [Exit.inBlock, Exit.then])
        refine bodyPost_ret (results_alloc4 rfl rfl _ w _ _ _ _ rfl) rfl ⟨?_, Fr.alloc _ _⟩
        rw [show (((F + 4503599627370496 : Nat) : Int)) = (F : Int) + 4503599627370496 by omega]
        first | rfl | (rw [show (E : Int) - 1075 = (E : Int) - 1 + -1074 by omega]; rfl)
  · simp only [decide_eq_false s]
    rw [if_neg s] at r1
    by_cases e1 : E = 2047
    · by_cases f0 : F = 0
      · subst e1
        subst f0
        go_enter Tryd.func30, Tryd.ntmps30
        go_wp2_with fail
        (try simp only [Exit.inBlock, Exit.then])
        refine bodyPost_ret (results_alloc4 rfl rfl _ w _ _ _ _ rfl) rfl ⟨?_, Fr.alloc _ _⟩
        (try rfl)
      · subst e1
        have hF : ((F : Int) == 0) = false := by simp only [beq_eq_false_iff_ne]; omega
        simp only [if_true, f0, if_false, ne_eq, not_false_eq_true, and_self]
        go_enter Tryd.func30, Tryd.ntmps30
        go_wp2_with fail
        (try simp only [Exit.inBlock, Exit.then])
        refine bodyPost_ret (results_alloc4 rfl rfl _ w _ _ _ _ rfl) rfl ⟨?_, Fr.alloc _ _⟩
        (try rfl)
    · by_cases e0 : E = 0
      · by_cases f0 : F = 0
        · subst f0
          subst e0
          go_enter Tryd.func30, Tryd.ntmps30
          go_wp2_with fail
          (try simp only [Exit.inBlock, Exit.then])
          refine bodyPost_ret (results_alloc4 rfl rfl _ w _ _ _ _ rfl) rfl ⟨?_, Fr.alloc _ _⟩
          (try rfl)
        · subst e0
          have hF : ((F : Int) == 0) = false := by simp only [beq_eq_false_iff_ne]; omega
          simp only [if_true, f0, if_false, ne_eq, not_false_eq_true, and_self, and_false, Nat.reduceEqDiff, false_and]
          go_enter Tryd.func30, Tryd.ntmps30
          go_wp2_with fail
          (try simp only [Exit.inBlock, Exit.then])
          refine bodyPost_ret (results_alloc4 rfl rfl _ w _ _ _ _ rfl) rfl ⟨?_, Fr.alloc _ _⟩
          (try rfl)
      · have hE1 : ((E : Int) == 2047) = false := by simp only [beq_eq_false_iff_ne]; omega
        have hE0 : ((E : Int) == 0) = false := by simp only [beq_eq_false_iff_ne]; omega
        simp only [if_true, e1, e0, if_false, ne_eq, not_false_eq_true, and_self, false_and]
        go_enter Tryd.func30, Tryd.ntmps30
        go_wp2_with fail
        (try simp only [Exit.inBlock, Exit.then])
        refine bodyPost_ret (results_alloc4 rfl rfl _ w _ _ _ _ rfl) rfl ⟨?_, Fr.alloc _ _⟩
        rw [show (((F + 4503599627370496 : Nat) : Int)) = (F : Int) + 4503599627370496 by omega]
        first | rfl | (rw [show (E : Int) - 1075 = (E : Int) - 1 + -1074 by omega]; rfl)
end Go.Proofs.YthdgdomgcogpjaaDoor
