/- The values of 64 bits: Of, and the document's Of. -/
import Derived.Test.YthdgdomgcogpjaaDoorVBitsA
import Derived.BigQuiet
import Derived.Deep.DeepCutAuto
namespace Go.Proofs.YthdgdomgcogpjaaDoor
set_option linter.unusedVariables false
set_option linter.unusedSimpArgs false
open Go.RowKit

theorem results_fourr {fn : Func} {p : Tmp} (h : fn.results = #[.cell p 75]) (tmps : Array Value) (w : World) (b : Nat) (v0 v1 v2 v3 : Value) (hp : tmps.getD p undef = .pointer (some ⟨b, 0, none⟩)) (h0 : w.cell? ⟨b, 0, none⟩ = some v0) (h1 : w.cell? ⟨b, 1, none⟩ = some v1) (h2 : w.cell? ⟨b, 2, none⟩ = some v2) (h3 : w.cell? ⟨b, 3, none⟩ = some v3) :
    (results fn tmps).run Tryd.prog w = .ok (.agg #[v0, v1, v2, v3]) w := by
  have hp' : tmps[p]?.getD undef = .pointer (some ⟨b, 0, none⟩) := by simpa using hp
  simp [results, h, hp']
  go_simp

theorem results_alloc4r {fn : Func} {p : Tmp} (h : fn.results = #[.cell p 75]) (tmps : Array Value) (w : World) (v0 v1 v2 v3 : Value) (hp : tmps.getD p undef = .pointer (some ⟨w.heap.size, 0, none⟩)) :
    (results fn tmps).run Tryd.prog (w.alloc (Obj.cells #[v0, v1, v2, v3] 75)) = .ok (.agg #[v0, v1, v2, v3]) (w.alloc (Obj.cells #[v0, v1, v2, v3] 75)) :=
  results_fourr h tmps _ w.heap.size v0 v1 v2 v3 hp (by go_simp) (by go_simp) (by go_simp) (by go_simp)

set_option maxHeartbeats 4000000 in
set_option maxRecDepth 4000 in
theorem refOf_any7 (b : Nat) (w : World) (hb : b < 18446744073709551616) :
    Calls Tryd.prog 33 #[.int .u64 (b : Int)] w fun e w' => e = .returned (bval b) ∧ Fr w w' := by
  have r2 : Hid ((if 9223372036854775808 ≤ b then ((b : Int) - 9223372036854775808) / 4503599627370496 else (b : Int) / 4503599627370496) = ((bE b : Nat) : Int)) := by refine hide ?_; unfold bE; split <;> omega
  have r3 : Hid ((if 9223372036854775808 ≤ b then ((b : Int) - 9223372036854775808) % 4503599627370496 else (b : Int) % 4503599627370496) = ((bF b : Nat) : Int)) := by refine hide ?_; unfold bF; split <;> omega
  have lE : bE b < 2048 := Nat.mod_lt _ (by omega)
  have lF : bF b < 4503599627370496 := Nat.mod_lt _ (by omega)
  unfold bval bC bN bM bX bS
  generalize bE b = E at *
  generalize bF b = F at *
  by_cases s : 9223372036854775808 ≤ b
  · simp only [decide_eq_true s]
    rw [if_pos s] at r2 r3
    obtain ⟨B, hB⟩ : ∃ B : Int, (b : Int) = B := ⟨_, rfl⟩
    have B0 : 9223372036854775808 ≤ B := by omega
    have B1 : B < 18446744073709551616 := by omega
    rw [hB] at r2 r3 ⊢
    clear hB s hb
    by_cases e1 : E = 2047
    · by_cases f0 : F = 0
      · subst e1
        subst f0
        go_enter Tryd.func33, Tryd.ntmps33
        go_upto_region 6 with fail
        rw [r2.out, r3.out]
        clear r2 r3
        go_wp2_with fail
        (try simp only [Exit.inBlock, Exit.then])
        refine bodyPost_ret (results_alloc4r rfl _ w _ _ _ _ rfl) rfl ⟨?_, Fr.alloc _ _⟩
        (try rfl)
      · subst e1
        have hF : 0 < F := by omega
        simp only [if_true, f0, if_false, ne_eq, not_false_eq_true, and_self]
        go_enter Tryd.func33, Tryd.ntmps33
        go_upto_region 6 with fail
        rw [r2.out, r3.out]
        clear r2 r3
        go_wp2_with fail
        (try simp only [Exit.inBlock, Exit.then])
        refine bodyPost_ret (results_alloc4r rfl _ w _ _ _ _ rfl) rfl ⟨?_, Fr.alloc _ _⟩
        (try rfl)
    · by_cases e0 : E = 0
      · by_cases f0 : F = 0
        · subst f0
          subst e0
          go_enter Tryd.func33, Tryd.ntmps33
          go_upto_region 6 with fail
          rw [r2.out, r3.out]
          clear r2 r3
          go_wp2_with fail
          (try simp only [Exit.inBlock, Exit.then])
          refine bodyPost_ret (results_alloc4r rfl _ w _ _ _ _ rfl) rfl ⟨?_, Fr.alloc _ _⟩
          (try rfl)
        · subst e0
          have hF : 0 < F := by omega
          simp only [if_true, f0, if_false, ne_eq, not_false_eq_true, and_self, and_false, Nat.reduceEqDiff, false_and]
          go_enter Tryd.func33, Tryd.ntmps33
          go_upto_region 6 with fail
          rw [r2.out, r3.out]
          clear r2 r3
          go_wp2_with fail
          (try simp only [Exit.inBlock, Exit.then])
          refine bodyPost_ret (results_alloc4r rfl _ w _ _ _ _ rfl) rfl ⟨?_, Fr.alloc _ _⟩
          (try rfl)
      · have hE1 : ((E : Int) == 2047) = false := by simp only [beq_eq_false_iff_ne]; omega
        have hE0 : ((E : Int) == 0) = false := by simp only [beq_eq_false_iff_ne]; omega
        simp only [if_true, e1, e0, if_false, ne_eq, not_false_eq_true, and_self, false_and]
        go_enter Tryd.func33, Tryd.ntmps33
        go_upto_region 6 with fail
        rw [r2.out, r3.out]
        clear r2 r3
        go_wp2_with fail
        (try simp only [Exit.inBlock, Exit.then])
        refine bodyPost_ret (results_alloc4r rfl _ w _ _ _ _ rfl) rfl ⟨?_, Fr.alloc _ _⟩
        rw [show (((F + 4503599627370496 : Nat) : Int)) = (F : Int) + 4503599627370496 by omega]
        first | rfl | (rw [show (E : Int) - 1075 = (E : Int) - 1 + -1074 by omega]; rfl)
  · simp only [decide_eq_false s]
    rw [if_neg s] at r2 r3
    obtain ⟨B, hB⟩ : ∃ B : Int, (b : Int) = B := ⟨_, rfl⟩
    have B0 : 0 ≤ B := by omega
    have B1 : B < 9223372036854775808 := by omega
    rw [hB] at r2 r3 ⊢
    clear hB s hb
    by_cases e1 : E = 2047
    · by_cases f0 : F = 0
      · subst e1
        subst f0
        go_enter Tryd.func33, Tryd.ntmps33
        go_upto_region 6 with fail
        rw [r2.out, r3.out]
        clear r2 r3
        go_wp2_with fail
        (try simp only [Exit.inBlock, Exit.then])
        refine bodyPost_ret (results_alloc4r rfl _ w _ _ _ _ rfl) rfl ⟨?_, Fr.alloc _ _⟩
        rw [decide_eq_false (show ¬ (9223372036854775808 : Int) ≤ B by omega)]
        (try rfl)
      · subst e1
        have hF : 0 < F := by omega
        simp only [if_true, f0, if_false, ne_eq, not_false_eq_true, and_self]
        go_enter Tryd.func33, Tryd.ntmps33
        go_upto_region 6 with fail
        rw [r2.out, r3.out]
        clear r2 r3
        go_wp2_with fail
        (try simp only [Exit.inBlock, Exit.then])
        refine bodyPost_ret (results_alloc4r rfl _ w _ _ _ _ rfl) rfl ⟨?_, Fr.alloc _ _⟩
        (try rfl)
    · by_cases e0 : E = 0
      · by_cases f0 : F = 0
        · subst f0
          subst e0
          go_enter Tryd.func33, Tryd.ntmps33
          go_upto_region 6 with fail
          rw [r2.out, r3.out]
          clear r2 r3
          go_wp2_with fail
          (try simp only [Exit.inBlock, Exit.then])
          refine bodyPost_ret (results_alloc4r rfl _ w _ _ _ _ rfl) rfl ⟨?_, Fr.alloc _ _⟩
          rw [decide_eq_false (show ¬ (9223372036854775808 : Int) ≤ B by omega)]
          (try rfl)
        · subst e0
          have hF : 0 < F := by omega
          simp only [if_true, f0, if_false, ne_eq, not_false_eq_true, and_self, and_false, Nat.reduceEqDiff, false_and]
          go_enter Tryd.func33, Tryd.ntmps33
          go_upto_region 6 with fail
          rw [r2.out, r3.out]
          clear r2 r3
          go_wp2_with fail
          (try simp only [Exit.inBlock, Exit.then])
          refine bodyPost_ret (results_alloc4r rfl _ w _ _ _ _ rfl) rfl ⟨?_, Fr.alloc _ _⟩
          rw [decide_eq_false (show ¬ (9223372036854775808 : Int) ≤ B by omega)]
          (try rfl)
      · have hE1 : ((E : Int) == 2047) = false := by simp only [beq_eq_false_iff_ne]; omega
        have hE0 : ((E : Int) == 0) = false := by simp only [beq_eq_false_iff_ne]; omega
        simp only [if_true, e1, e0, if_false, ne_eq, not_false_eq_true, and_self, false_and]
        go_enter Tryd.func33, Tryd.ntmps33
        go_upto_region 6 with fail
        rw [r2.out, r3.out]
        clear r2 r3
        go_wp2_with fail
        (try simp only [Exit.inBlock, Exit.then])
        refine bodyPost_ret (results_alloc4r rfl _ w _ _ _ _ rfl) rfl ⟨?_, Fr.alloc _ _⟩
        rw [decide_eq_false (show ¬ (9223372036854775808 : Int) ≤ B by omega)]
        rw [show (((F + 4503599627370496 : Nat) : Int)) = (F : Int) + 4503599627370496 by omega]
        first | rfl | (rw [show (E : Int) - 1075 = (E : Int) - 1 + -1074 by omega]; rfl)
end Go.Proofs.YthdgdomgcogpjaaDoor
