/- numerarylaw11's wakes. -/
import Derived.Test.YtaokmegoheofjaaDoorTokV
namespace Go.Proofs.YtaokmegoheofjaaDoor
set_option linter.unusedVariables false
set_option linter.unusedSimpArgs false
open Go.RowKit

theorem ans_a : answer [35, 44, 35, 35, 48] = ([⟨6, [35], 1, 0⟩, ⟨8, [44], 1, 1⟩, ⟨6, [35], 1, 2⟩, ⟨6, [35], 1, 3⟩, ⟨6, [48], 1, 4⟩], 5, 0) := by kernel_rfl
theorem ans_b : answer [109, 109, 109, 34, 120, 34] = ([⟨14, [109], 3, 0⟩, ⟨1, [120], 0, 3⟩], 6, 0) := by kernel_rfl
theorem ans_c : answer [48, 34, 97] = ([], 3, 5) := by kernel_rfl
theorem code_x : codeL 1 [120] 0 = [34, 120, 34] := by kernel_rfl
theorem str_x : strOfNums [120] = ⟨#[120]⟩ := by kernel_rfl
theorem str_qx : strOfNums [34, 120, 34] = ⟨#[34, 120, 34]⟩ := by kernel_rfl

set_option maxHeartbeats 2000000 in
set_option maxRecDepth 4000 in
theorem wakes_any (w : World) (hL : Lead w) (hE : MaxOk w) : Calls Tryd.prog 11 #[] w fun e w' => e = .returned (.bool true) ∧ Fr w w' := by
  have HA := hide (fun w hL hE => tokAll_any ⟨#[35, 44, 35, 35, 48]⟩ w hL hE (by decide))
  have HB := hide (fun w hL hE => tokAll_any ⟨#[109, 109, 109, 34, 120, 34]⟩ w hL hE (by decide))
  have HC := hide (fun w hL hE => tokAll_any ⟨#[48, 34, 97]⟩ w hL hE (by decide))
  have HD := hide (fun w hL hE => code_any 1 ⟨#[120]⟩ 0 3 w hL hE (by decide))
  rw [show ints ⟨#[35, 44, 35, 35, 48]⟩ = [35, 44, 35, 35, 48] by rfl, ans_a] at HA
  rw [show ints ⟨#[109, 109, 109, 34, 120, 34]⟩ = [109, 109, 109, 34, 120, 34] by rfl, ans_b] at HB
  rw [show ints ⟨#[48, 34, 97]⟩ = [48, 34, 97] by rfl, ans_c] at HC
  rw [show ints ⟨#[120]⟩ = [120] by rfl, code_x, str_qx] at HD
  go_enter Tryd.func11, Tryd.ntmps11
  go_wp2_with fail
  refine (HA.out _ hL hE).mono ?_
  rintro e w1 ⟨f1, v1, rfl, o1⟩
  obtain ⟨a1, c1, rfl⟩ := own_form o1
  obtain ⟨g1, rfl, _, _, k1⟩ := own_cells o1 (by simp)
  have k11 := k1 1 _ rfl
  clear k1 o1
  go_wp2_with fail
  refine (HB.out _ (hL.fr f1) (hE.fr f1)).mono ?_
  rintro e w2 ⟨f2, v2, rfl, o2⟩
  obtain ⟨a2, c2, rfl⟩ := own_form o2
  obtain ⟨g2, rfl, _, _, k2⟩ := own_cells o2 (by simp)
  have k20 := k2 0 _ rfl
  have k21 := k2 1 _ rfl
  clear k2 o2
  have q11 := fr_cell f2 k11.1
  go_wp2_with fail
  refine (HC.out _ (hL.fr (f1.trans f2)) (hE.fr (f1.trans f2))).mono ?_
  rintro e w3 ⟨f3, v3, rfl, o3⟩
  obtain ⟨a3, c3, rfl⟩ := own_form o3
  have r11 := fr_cell f3 q11
  have r202 := fr_cell f3 k20.2.2.1
  have r210 := fr_cell f3 k21.1
  have r211 := fr_cell f3 k21.2.1
  have r212 := fr_cell f3 k21.2.2.1
  have r213 := fr_cell f3 k21.2.2.2
  clear k11 k20 k21 q11 o3
  simp only [str_x] at r211
  go_wp2_with fail
  refine (HD.out _ (hL.fr (f1.trans (f2.trans f3))) (hE.fr (f1.trans (f2.trans f3)))).mono ?_
  rintro e w4 ⟨rfl, f4⟩
  go_wp2_with fail
  go_ret
  exact ⟨rfl, f1.trans (f2.trans (f3.trans f4))⟩
end Go.Proofs.YtaokmegoheofjaaDoor
