/- numerarylaw09: wakes. -/
import Derived.Test.YthdgdomgcogpjaaDoorRoundF
import Derived.Test.YthdgdomgcogpjaaDoorRoundL
namespace Go.Proofs.YthdgdomgcogpjaaDoor
set_option linter.unusedVariables false
set_option linter.unusedSimpArgs false
open Go.RowKit
open Go.Lib (decDigits)

attribute [local go_sem] World.cell?_alloc_some
theorem w_dec1 : decDigits 235 = [50, 51, 53] := by
  rw [decDigits_ten (by omega), decDigits_ten (by omega), Lib.decDigits_one (by omega)]; rfl
theorem w_dec2 : decDigits 10000 = [49, 48, 48, 48, 48] := by
  rw [decDigits_ten (by omega), decDigits_ten (by omega), decDigits_ten (by omega), decDigits_ten (by omega), Lib.decDigits_one (by omega)]; rfl
theorem w_whole : bs (wD 2 235) = ⟨#[50]⟩ := by
  unfold wD fixD textD
  rw [if_neg (by omega), w_dec1]; rfl
theorem w_part : bs (fD 2 235) = ⟨#[51, 53]⟩ := by
  unfold fD fixD textD
  rw [if_neg (by omega), w_dec1]; rfl
theorem w_sci : bs (sciD 4 10000) = ⟨#[49, 48, 48, 48]⟩ := by
  unfold sciD
  rw [w_dec2]; rfl
theorem w_exp : sciE 4 10000 2 = 3 := by
  unfold sciE
  rw [w_dec2]; rfl
theorem n32_small {x : Nat} (h : x < 4294967296) : nlen 4294967296 x ≤ 1 := nlen_le b32 (by rw [Nat.pow_one]; exact h)
theorem n2_small {x : Nat} (h : x < 4294967296) : nlen 2 x ≤ 32 := nlen_le (by omega) (show x < 2 ^ 32 from h)

set_option maxHeartbeats 2000000 in
set_option maxRecDepth 4000 in
theorem wakes_any (w : World) (hL : Led w) : Calls Tryd.prog 9 #[] w fun e w' => e = .returned (.bool true) ∧ Fr w w' := by
  have HL := hide hL
  clear hL
  have n1 := n32_small (x := 2345) (by omega)
  have n2 := n32_small (x := 1000) (by omega)
  have n3 := n32_small (x := 99996) (by omega)
  have n4 := n32_small (x := 100) (by omega)
  have hE : Hid (IsExp 99996 100 2) := hide ⟨by decide, by decide⟩
  have OF : Hid (∀ (x : Nat) (wz : World), x < 18446744073709551616 → Calls Tryd.prog 20 #[.int .u64 (x : Int)] wz fun e w' => ∃ a c, e = .returned (.agg #[.slice a (nlen 4294967296 x) c]) ∧ Res wz w' a c x) := fun x wz h => ofc_any (x : Int) x wz rfl h
  go_enter Tryd.func9, Tryd.ntmps9
  go_wp2_with fail
  refine (OF.out 2345 _ (by omega)).mono ?_
  rintro e w1 ⟨a1, a1c, rfl, A1i, _, fy⟩
  have A1 := hide A1i
  have FW := hide fy
  clear A1i fy
  go_wp2_with fail
  refine (OF.out 1000 _ (by omega)).mono ?_
  rintro e w2 ⟨a2, a2c, rfl, A2i, _, fy⟩
  have A2 := hide A2i
  have A1 := hide (A1.out.fr fy)
  have FW := hide (FW.out.trans fy)
  clear A2i fy
  go_wp2_with fail
  refine (ofR_yes _ _ 2345 1000 _ (HL.out.fr FW.out).1 A1.out A2.out (by omega) (by omega) (by omega)).mono ?_
  rintro e w3 ⟨v, rfl, ir, fy⟩
  have RA := hide ir
  obtain ⟨u1, u2, u3, u4, u5, u6, rfl⟩ := ir.form
  have FW := hide (FW.out.trans fy)
  clear ir fy A1 A2
  go_wp2_with fail
  obtain ⟨Ww3, hWw3⟩ : ∃ W, W = (w3.alloc (Obj.cells #[Value.slice u1 u2 u3, Value.slice u4 u5 u6] 27)) := ⟨_, rfl⟩
  have fy : Fr w3 Ww3 := by rw [hWw3]; exact (Fr.alloc w3 (Obj.cells #[Value.slice u1 u2 u3, Value.slice u4 u5 u6] 27))
  have s_ : Slot2 w3 Ww3 (w3.heap.size) (.slice u1 u2 u3) (.slice u4 u5 u6) := by
    rw [hWw3]; simpa using Slot2.new (Fr.refl w3) u1 u2 u3 u4 u5 u6 27
  rw [← hWw3]
  clear hWw3
  have S1 := hide s_
  have RA := hide (RA.out.fr fy)
  have FW := hide (FW.out.trans fy)
  clear s_ fy
  have q1 := S1.out.1
  have q1' := S1.out.2.1
  refine (atR_any _ 2345 1000 _ (HL.out.fr FW.out).1 (HL.out.fr FW.out).2 RA.out (by omega) (by omega) 2 (by omega) 235 (by decide) _ _ w_whole w_part).mono ?_
  rintro e w4 ⟨rfl, fy⟩
  have FW := hide (FW.out.trans fy)
  clear fy q1 q1' S1 RA
  go_wp2_with fail
  obtain ⟨W4, hW4⟩ : ∃ W, W = w4.alloc (Obj.cells #[.string ⟨#[50]⟩, .string ⟨#[51, 53]⟩] 33) := ⟨_, rfl⟩
  have fy : Fr w4 W4 := by rw [hW4]; exact Fr.alloc _ _
  have X3 : Hid (W4.cell? ⟨w4.heap.size, 0, none⟩ = some (.string ⟨#[50]⟩) ∧ W4.cell? ⟨w4.heap.size, 1, none⟩ = some (.string ⟨#[51, 53]⟩)) := by rw [hW4]; exact hide ⟨by simp [go_sem], by simp [go_sem]⟩
  rw [← hW4]
  clear hW4
  have FW := hide (FW.out.trans fy)
  clear fy
  refine (OF.out 99996 _ (by omega)).mono ?_
  rintro e w5 ⟨a1, a1c, rfl, A1i, _, fy⟩
  have A1 := hide A1i
  have X3 := hide (And.intro (fr_cell fy X3.out.1) (fr_cell fy X3.out.2))
  have FW := hide (FW.out.trans fy)
  clear A1i fy
  go_wp2_with fail
  refine (OF.out 100 _ (by omega)).mono ?_
  rintro e w6 ⟨a2, a2c, rfl, A2i, _, fy⟩
  have A2 := hide A2i
  have A1 := hide (A1.out.fr fy)
  have X3 := hide (And.intro (fr_cell fy X3.out.1) (fr_cell fy X3.out.2))
  have FW := hide (FW.out.trans fy)
  clear A2i fy
  go_wp2_with fail
  refine (ofR_yes _ _ 99996 100 _ (HL.out.fr FW.out).1 A1.out A2.out (by omega) (by omega) (by omega)).mono ?_
  rintro e w7 ⟨v, rfl, ir, fy⟩
  have RB := hide ir
  obtain ⟨u1, u2, u3, u4, u5, u6, rfl⟩ := ir.form
  have X3 := hide (And.intro (fr_cell fy X3.out.1) (fr_cell fy X3.out.2))
  have FW := hide (FW.out.trans fy)
  clear ir fy A1 A2
  go_wp2_with fail
  obtain ⟨Ww7, hWw7⟩ : ∃ W, W = (w7.alloc (Obj.cells #[Value.slice u1 u2 u3, Value.slice u4 u5 u6] 27)) := ⟨_, rfl⟩
  have fy : Fr w7 Ww7 := by rw [hWw7]; exact (Fr.alloc w7 (Obj.cells #[Value.slice u1 u2 u3, Value.slice u4 u5 u6] 27))
  have s_ : Slot2 w7 Ww7 (w7.heap.size) (.slice u1 u2 u3) (.slice u4 u5 u6) := by
    rw [hWw7]; simpa using Slot2.new (Fr.refl w7) u1 u2 u3 u4 u5 u6 27
  rw [← hWw7]
  clear hWw7
  have S5 := hide s_
  have RB := hide (RB.out.fr fy)
  have X3 := hide (And.intro (fr_cell fy X3.out.1) (fr_cell fy X3.out.2))
  have FW := hide (FW.out.trans fy)
  clear s_ fy
  have q5 := S5.out.1
  have q5' := S5.out.2.1
  refine (toR_yes _ 99996 100 _ RB.out (by omega) (by omega) (Nat.le_trans (n2_small (by omega)) (by omega)) (Nat.le_trans (n2_small (by omega)) (by omega)) (HL.out.fr FW.out).1 (HL.out.fr FW.out).2 2 hE.out (by omega) (by omega) 4 (by omega) (by omega) 10000 (by decide) _ _ w_sci w_exp).mono ?_
  rintro e w8 ⟨rfl, fy⟩
  have S5 := hide (S5.out.fr fy)
  have RB := hide (RB.out.fr fy)
  have X3 := hide (And.intro (fr_cell fy X3.out.1) (fr_cell fy X3.out.2))
  have FW := hide (FW.out.trans fy)
  clear fy q5 q5'
  have q5 := S5.out.1
  have q5' := S5.out.2.1
  go_wp2_with fail
  obtain ⟨W8, hW8⟩ : ∃ W, W = w8.alloc (Obj.cells #[.string ⟨#[49, 48, 48, 48]⟩, .int .i64 3] 43) := ⟨_, rfl⟩
  have fy : Fr w8 W8 := by rw [hW8]; exact Fr.alloc _ _
  have X7 : Hid (W8.cell? ⟨w8.heap.size, 0, none⟩ = some (.string ⟨#[49, 48, 48, 48]⟩) ∧ W8.cell? ⟨w8.heap.size, 1, none⟩ = some (.int .i64 3)) := by rw [hW8]; exact hide ⟨by simp [go_sem], by simp [go_sem]⟩
  rw [← hW8]
  clear hW8
  have X3 := hide (And.intro (fr_cell fy X3.out.1) (fr_cell fy X3.out.2))
  have FW := hide (FW.out.trans fy)
  have RB := hide (RB.out.fr fy)
  clear fy q5 q5' S5
  refine (expR_yes _ 99996 100 _ RB.out (by omega) (by omega) (Nat.le_trans (n2_small (by omega)) (by omega)) (Nat.le_trans (n2_small (by omega)) (by omega)) (HL.out.fr FW.out).1 2 hE.out (by omega) (by omega)).mono ?_
  rintro e w9 ⟨rfl, fy⟩
  have X7 := hide (And.intro (fr_cell fy X7.out.1) (fr_cell fy X7.out.2))
  have X3 := hide (And.intro (fr_cell fy X3.out.1) (fr_cell fy X3.out.2))
  have FW := hide (FW.out.trans fy)
  clear fy RB
  have x3 := X3.out.1
  have x3' := X3.out.2
  have x7 := X7.out.1
  have x7' := X7.out.2
  go_wp2_with fail
  go_ret
  exact ⟨rfl, FW.out⟩
end Go.Proofs.YthdgdomgcogpjaaDoor
