/- wakes of layer 6's laws. -/
import Derived.Test.YtkdiniboponphaaDoorDigE
namespace Go.Proofs.YtkdiniboponphaaDoor
set_option linter.unusedVariables false
set_option linter.unusedSimpArgs false
open Go.RowKit

attribute [local go_sem] World.cell?_alloc_some
theorem allD_dec (l : List UInt8) (h : (l.all fun b => decide (48 ≤ b.toNat) && decide (b.toNat ≤ 57)) = true) : AllD l := fun b hb => by
  have := List.all_eq_true.1 h b hb
  simpa using this

set_option maxHeartbeats 4000000 in
set_option maxRecDepth 4000 in
theorem wakes_any (w : World) (hP : PT w) : Calls Tryd.prog 12 #[] w fun e w' => e = .returned (.bool true) ∧ Fr w w' := by
  have H1 := hide (fun w => parse_yes ⟨#[48, 48, 49, 50, 48]⟩ 120 w (by decide) (by decide) (allD_dec _ (by decide)) (by decide))
  have H2 := hide (fun w (v : Value) (h : IsNat w v 120) => small_any v 120 w h)
  rw [if_pos (by decide), decide_eq_true (by decide)] at H2
  have H3 := hide (fun w => parse_no ⟨#[49, 97]⟩ w (by decide) (.inr (fun h => by have := (h 97 (by decide)).2; exact absurd this (by decide))))
  have H4 := hide (fun w => of_any 18446744073709551615 w (by decide))
  have e5 : bs (Lib.decDigits 18446744073709551615) = ⟨#[49, 56, 52, 52, 54, 55, 52, 52, 48, 55, 51, 55, 48, 57, 53, 53, 49, 54, 49, 53]⟩ := by
    have := dec_of_val [49, 56, 52, 52, 54, 55, 52, 52, 48, 55, 51, 55, 48, 57, 53, 53, 49, 54, 49, 53] (allD_dec _ (by decide)) (by decide) (by decide)
    rw [show valD [49, 56, 52, 52, 54, 55, 52, 52, 48, 55, 51, 55, 48, 57, 53, 53, 49, 54, 49, 53] = 18446744073709551615 by decide] at this
    rw [this]
  have H5 := hide (fun w (v : Value) (h : IsNat w v 18446744073709551615) (hP : PT w) => text_any v 18446744073709551615 w h (Nat.le_trans (wsm (by decide)) (by decide)) hP)
  rw [e5] at H5
  have H6 := hide (fun w => pad_any ⟨#[55]⟩ 3 w (by decide) (by decide) (by decide))
  rw [if_pos (by decide), show bs (padD (Int.toNat 3) (⟨#[55]⟩ : ByteArray).data.toList) = ⟨#[48, 48, 55]⟩ by rfl] at H6
  have H7 := hide (fun w => trim_any6 ⟨#[49, 50, 48, 48]⟩ w (by decide))
  rw [show bs (Lib.trimRightB (⟨#[49, 50, 48, 48]⟩ : ByteArray).data.toList 48) = ⟨#[49, 50]⟩ by decide] at H7
  have H8 := hide (fun w (hP : PT w) => count_any (.agg #[.slice none 0 0]) 0 w (isNat_zero w) (by rw [nlen_zero]; decide) hP)
  rw [show ((Lib.decDigits 0).length : Int) = 1 by rw [Lib.decDigits_one (by decide)]; rfl] at H8
  have HP := hide hP
  clear hP e5
  go_enter Tryd.func12, Tryd.ntmps12
  go_wp2_with fail
  refine (H1.out _).mono ?_
  rintro e w1 ⟨a, c, rfl, h1, _, f1⟩
  have F := hide f1
  clear f1
  go_wp2_with fail
  refine (H2.out _ _ (IsNat.fr h1 (Fr.alloc _ _))).mono ?_
  rintro e w2 ⟨rfl, f2⟩
  have F := hide ((F.out.trans (Fr.alloc _ _)).trans f2)
  clear f2 h1
  go_wp2_with fail
  refine (H3.out _).mono ?_
  rintro e w3 ⟨rfl, f3⟩
  have F := hide (F.out.trans f3)
  clear f3
  go_wp2_with fail
  refine (H4.out _).mono ?_
  rintro e w4 ⟨a4, c4, rfl, h4, _, f4⟩
  have F := hide ((F.out.trans (Fr.alloc _ _)).trans f4)
  have HN := hide h4
  clear f4 h4
  go_wp2_with fail
  refine (H5.out _ _ HN.out (PT.fr HP.out F.out)).mono ?_
  rintro e w5 ⟨rfl, f5⟩
  have F := hide (F.out.trans f5)
  clear f5 HN
  go_wp2_with fail
  refine (H6.out _).mono ?_
  rintro e w6 ⟨rfl, f6⟩
  have F := hide (F.out.trans f6)
  clear f6
  go_wp2_with fail
  refine (H7.out _).mono ?_
  rintro e w7 ⟨rfl, rfl⟩
  go_wp2_with fail
  refine (H8.out _ (PT.fr HP.out F.out)).mono ?_
  rintro e w8 ⟨rfl, f8⟩
  have F := hide (F.out.trans f8)
  clear f8
  go_wp2_with fail
  go_ret
  exact ⟨rfl, F.out⟩
end Go.Proofs.YtkdiniboponphaaDoor
