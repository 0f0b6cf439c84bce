/- What the laws of layer 7 share: wakes. -/
import Derived.Test.YtphoimjjhcjniaaBitsD
namespace Go.Proofs.Ytphoimjjhcjniaa
set_option linter.unusedVariables false
set_option linter.unusedSimpArgs false
open Go.RowKit

theorem near13 : nearN 1 3 = 4599676419421066581 := by
  have t : topB 1 3 = -2 := by
    unfold topB
    rw [nlen_eq (B := 2) (x := 1) (k := 1) (by omega) (by omega) (.inr (by omega)), nlen_eq (B := 2) (x := 3) (k := 2) (by omega) (by omega) (.inr (by omega))]
    rfl
  have e : expN 1 3 = -54 := by unfold expN; rw [t]; rfl
  unfold nearN
  rw [e]
  rfl
theorem one_val : bval 4607182418800017408 = .agg #[.int .i64 1, .bool false, .int .u64 4503599627370496, .int .i64 (-52)] := by rfl
theorem one_ok : okN 1 false 4503599627370496 (-52) = true := by rfl
theorem one_tried : triedN 1 false 4503599627370496 (-52) = 4607182418800017408 := by rfl

set_option maxHeartbeats 2000000 in
set_option maxRecDepth 4000 in
theorem wakes_any (w : World) : Calls Try.prog 12 #[] w fun e w' => e = .returned (.bool true) ∧ Fr w w' := by
  go_enter Try.func12, Try.ntmps12
  go_wp2_with fail
  refine (of_any7 4607182418800017408 _ (by omega)).mono ?_
  rintro e w1 ⟨rfl, f1⟩
  rw [one_val]
  go_wp2_with fail
  have F := f1.trans (Fr.alloc _ (Obj.cells #[Value.int .i64 1, .bool false, .int .u64 4503599627370496, .int .i64 (-52)] 25))
  refine (vbits_any 1 false 4503599627370496 (-52) _ (by omega) (by omega) (by omega)).mono ?_
  rintro e w2 ⟨rfl, f2⟩
  rw [one_ok, if_pos rfl, one_tried]
  obtain ⟨d0, d1, d2, d3⟩ := four_cells f2
  have F := F.trans f2
  clear f1 f2
  go_wp2_with fail
  refine (ofc_any 1 1 _ rfl (by omega)).mono ?_
  rintro e w3 ⟨a3, c3, rfl, h3, _, f3⟩
  go_wp2_with fail
  refine (ofc_any 3 3 _ rfl (by omega)).mono ?_
  rintro e w4 ⟨a4, c4, rfl, h4, _, f4⟩
  have h3 := h3.fr f4
  go_wp2_with fail
  refine (nearest_any _ _ 1 3 _ _ h3 h4 (by have := wsm (x := 1) (by omega); omega) (by have := wsm (x := 3) (by omega); omega) (by omega) near13).mono ?_
  rintro e w5 ⟨rfl, f5⟩
  have g := (f3.trans f4).trans f5
  have F := F.trans g
  have d0 := fr_cell g d0
  have d1 := fr_cell g d1
  have d2 := fr_cell g d2
  have d3 := fr_cell g d3
  clear f3 f4 f5 g h3 h4
  go_wp2_with fail
  refine (next_any 0 _ (by omega)).mono ?_
  rintro e w6 ⟨rfl, f6⟩
  rw [if_pos (by omega), decide_eq_true (by omega)]
  have F := F.trans f6
  have d0 := fr_cell f6 d0
  have d1 := fr_cell f6 d1
  have d2 := fr_cell f6 d2
  have d3 := fr_cell f6 d3
  clear f6
  go_wp2_with fail
  go_ret
  exact ⟨rfl, F⟩
end Go.Proofs.Ytphoimjjhcjniaa
