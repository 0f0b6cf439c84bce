/- numerarylaw10: wakes. -/
import Derived.Test.YtammjgieocgelaaGreatDoorShortF
namespace Go.Proofs.YtammjgieocgelaaGreatDoor
set_option linter.unusedVariables false
set_option linter.unusedSimpArgs false
open Go.RowKit
open Go.Lib (decDigits trimRightB)

attribute [local go_sem] World.cell?_alloc_some
/-- Two middles, asked in numbers. -/
def nearB (x y c : Nat) : Bool := decide (2 * (x * 2 ^ 1074) < (bV (c + 1) + bV (c + 1 + 1)) * y) && decide ((bV c + bV (c + 1)) * y < 2 * (x * 2 ^ 1074))
theorem near_of {x y c : Nat} (hy : 0 < y) (hb : c + 1 < 9218868437227405312) (h : nearB x y c = true) : nearN x y = c + 1 := by
  obtain ⟨T, hT, _⟩ := some_T
  rw [near_iff hT hy hb]
  unfold nearB at h
  rw [hT, Bool.and_eq_true, decide_eq_true_iff, decide_eq_true_iff] at h
  exact ⟨.inl h.1, .inl h.2⟩
theorem w_c1 : bC 4591870180066957722 = 1 := by decide +kernel
theorem w_n1 : vNum 4591870180066957722 = 7205759403792794 := by decide +kernel
theorem w_d1 : vDen 4591870180066957722 = 72057594037927936 := by decide +kernel
theorem w_l1 : nlen 10 (vDec 4591870180066957722) = 56 := nlen_eq ten2 (by decide +kernel) (.inr (by decide +kernel))
theorem w_k1 : vK 4591870180066957722 = 56 := by decide +kernel
theorem w_E1 : vE 4591870180066957722 = -1 := by unfold vE; rw [w_l1, w_k1]; rfl
theorem w_R1 : sR 4591870180066957722 1 = 1 := by unfold sR sciR; rw [w_n1, w_d1, w_E1]; decide +kernel
theorem w_sD1 : sD 4591870180066957722 1 = [49] := by unfold sD; rw [w_R1]; unfold sciD; rw [Lib.decDigits_one (by omega)]; rfl
theorem w_sE1 : sE 4591870180066957722 1 = -1 := by unfold sE; rw [w_R1, w_E1]; unfold sciE; rw [Lib.decDigits_one (by omega)]; rfl
theorem w_back : backN [49] (-1) = 4591870180066957722 := by
  have h : nearN (1 * 10 ^ 0) (10 ^ 1) = 4591870180066957721 + 1 := near_of (by decide) (by omega) (by decide +kernel)
  exact h
theorem w_told : told 4591870180066957722 1 = true := by
  rw [told_dec, w_sD1, w_sE1, w_back]
  decide
theorem w_may : MayBe [49] (-1) := ⟨by decide, by decide, by unfold AllD; decide, by decide, by omega, by omega⟩
theorem w_plain : plainP [49] (-1) = [48, 46, 49] := by decide
theorem w_c2 : bC 4599676419421066581 = 1 := by decide +kernel
theorem w_n2 : vNum 4599676419421066581 = 6004799503160661 := by decide +kernel
theorem w_d2 : vDen 4599676419421066581 = 18014398509481984 := by decide +kernel
theorem w_l2 : nlen 10 (vDec 4599676419421066581) = 54 := nlen_eq ten2 (by decide +kernel) (.inr (by decide +kernel))
theorem w_k2 : vK 4599676419421066581 = 54 := by decide +kernel
theorem w_E2 : vE 4599676419421066581 = -1 := by unfold vE; rw [w_l2, w_k2]; rfl
theorem w_R2 : sR 4599676419421066581 15 = 333333333333333 := by unfold sR sciR; rw [w_n2, w_d2, w_E2]; decide +kernel
theorem w_dec2 : decDigits 333333333333333 = [51, 51, 51, 51, 51, 51, 51, 51, 51, 51, 51, 51, 51, 51, 51] := by
  have := dec_of_val [51, 51, 51, 51, 51, 51, 51, 51, 51, 51, 51, 51, 51, 51, 51] (by unfold AllD; decide) (by decide) (by decide)
  exact this
theorem w_sD2 : sD 4599676419421066581 15 = [51, 51, 51, 51, 51, 51, 51, 51, 51, 51, 51, 51, 51, 51, 51] := by unfold sD; rw [w_R2]; unfold sciD; rw [w_dec2]; rfl
theorem w_sE2 : sE 4599676419421066581 15 = -1 := by unfold sE; rw [w_R2, w_E2]; unfold sciE; rw [w_dec2]; rfl
theorem w_trim : trimRightB [51, 51, 51, 51, 51, 51, 51, 51, 51, 51, 51, 51, 51, 51, 51] 48 = [51, 51, 51, 51, 51, 51, 51, 51, 51, 51, 51, 51, 51, 51, 51] := by decide

set_option maxHeartbeats 2000000 in
set_option maxRecDepth 4000 in
theorem wakes_any (w : World) (hL : Led w) : Calls Tryz.prog 11 #[] w fun e w' => e = .returned (.bool true) ∧ Fr w w' := by
  have HL := hide hL
  have D1 : Hid (∀ wz, Led wz → Calls Tryz.prog 9 #[.int .u64 4591870180066957722] wz fun e w' => e = .returned (.tuple #[.agg #[.string ⟨#[49]⟩, .int .i64 (-1)], .bool true]) ∧ Fr wz w') :=
    fun wz h => digits_yes 4591870180066957722 1 wz (by omega) h w_c1 (by omega) (by omega) (fun j _ _ => by omega) (fun _ => w_told) ⟨#[49]⟩ (-1) (by rw [w_sD1]) w_sE1
  have P1 : Hid (∀ wz, Calls Tryz.prog 16 #[.agg #[.string ⟨#[49]⟩, .int .i64 (-1)]] wz fun e w' => e = .returned (.tuple #[.string ⟨#[48, 46, 49]⟩, .bool true]) ∧ Fr wz w') :=
    fun wz => plain_yes ⟨#[49]⟩ (-1) ⟨#[48, 46, 49]⟩ wz w_may (by rw [show plainP (⟨#[49]⟩ : ByteArray).data.toList (-1) = [48, 46, 49] from w_plain])
  have B1 : Hid (∀ wz, Calls Tryz.prog 17 #[.agg #[.string ⟨#[49]⟩, .int .i64 (-1)]] wz fun e w' => e = .returned (.tuple #[.int .u64 4591870180066957722, .bool true]) ∧ Fr wz w') :=
    fun wz => back_yes ⟨#[49]⟩ (-1) 4591870180066957722 wz w_may w_back
  have F1 : Hid (∀ wz, Led wz → Calls Tryz.prog 10 #[.int .u64 4599676419421066581] wz fun e w' => e = .returned (.tuple #[.agg #[.string ⟨#[51, 51, 51, 51, 51, 51, 51, 51, 51, 51, 51, 51, 51, 51, 51]⟩, .int .i64 (-1)], .bool true]) ∧ Fr wz w') :=
    fun wz h => fifteen_yes 4599676419421066581 wz (by omega) h w_c2 ⟨#[51, 51, 51, 51, 51, 51, 51, 51, 51, 51, 51, 51, 51, 51, 51]⟩ (-1) (by rw [w_sD2, w_trim]) w_sE2
  clear hL
  go_enter Tryz.func11, Tryz.ntmps11
  go_wp2_with fail
  refine (D1.out _ HL.out).mono ?_
  rintro e w1 ⟨rfl, f1⟩
  have FW := hide f1
  clear f1 D1
  go_wp2_with fail
  obtain ⟨W1, hW1⟩ : ∃ W, W = w1.alloc (Obj.cells #[.string ⟨#[49]⟩, .int .i64 (-1)] 27) := ⟨_, rfl⟩
  have fy : Fr w1 W1 := by rw [hW1]; exact Fr.alloc _ _
  have X1 : Hid (W1.cell? ⟨w1.heap.size, 0, none⟩ = some (.string ⟨#[49]⟩) ∧ W1.cell? ⟨w1.heap.size, 1, none⟩ = some (.int .i64 (-1))) := by rw [hW1]; exact hide ⟨by simp [go_sem], by simp [go_sem]⟩
  rw [← hW1]
  clear hW1
  have FW := hide (FW.out.trans fy)
  clear fy
  refine (P1.out _).mono ?_
  rintro e w2 ⟨rfl, fy⟩
  have X1 := hide (And.intro (fr_cell fy X1.out.1) (fr_cell fy X1.out.2))
  have FW := hide (FW.out.trans fy)
  clear fy P1
  have x1 := X1.out.1
  have x1' := X1.out.2
  go_wp2_with fail
  refine (B1.out _).mono ?_
  rintro e w3 ⟨rfl, fy⟩
  clear x1 x1'
  have X1 := hide (And.intro (fr_cell fy X1.out.1) (fr_cell fy X1.out.2))
  have FW := hide (FW.out.trans fy)
  clear fy B1
  go_wp2_with fail
  refine (F1.out _ (HL.out.fr FW.out)).mono ?_
  rintro e w4 ⟨rfl, fy⟩
  have X1 := hide (And.intro (fr_cell fy X1.out.1) (fr_cell fy X1.out.2))
  have FW := hide (FW.out.trans fy)
  clear fy F1
  have FW := hide (FW.out.trans (Fr.alloc _ (Obj.cells #[.string ⟨#[51, 51, 51, 51, 51, 51, 51, 51, 51, 51, 51, 51, 51, 51, 51]⟩, .int .i64 (-1)] 27)))
  have x1 := fr_cell (Fr.alloc w4 (Obj.cells #[.string ⟨#[51, 51, 51, 51, 51, 51, 51, 51, 51, 51, 51, 51, 51, 51, 51]⟩, .int .i64 (-1)] 27)) X1.out.1
  have x1' := fr_cell (Fr.alloc w4 (Obj.cells #[.string ⟨#[51, 51, 51, 51, 51, 51, 51, 51, 51, 51, 51, 51, 51, 51, 51]⟩, .int .i64 (-1)] 27)) X1.out.2
  go_wp2_with fail
  go_ret
  exact ⟨rfl, FW.out⟩
end Go.Proofs.YtammjgieocgelaaGreatDoor
