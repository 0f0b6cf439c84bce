/- The walk of wakes. -/
import Derived.Test.YtaiklflnciibmaaDoorRunesB
import Derived.Test.YtaiklflnciibmaaDoorRunesD
namespace Go.Proofs.YtaiklflnciibmaaDoor
set_option linter.unusedVariables false
set_option linter.unusedSimpArgs false
open Go.RowKit

theorem f1 : rfirst (ints ⟨#[195, 169, 120]⟩) = (233, 2, true) := by decide +kernel
theorem f2 : rfirst (ints ⟨#[255]⟩) = (0, 0, false) := by decide +kernel
theorem t1 : rtext 8364 = ⟨#[226, 130, 172]⟩ := by decide +kernel
theorem t2 : isB 8364 = true := by decide +kernel
theorem a1 : rall (ints ⟨#[97, 195, 169]⟩) = ([97, 233], 3) := by decide +kernel
theorem r1 : rall (ints ⟨#[97]⟩) = ([97], 1) := by decide +kernel
theorem r2 : rall (ints ⟨#[128]⟩) = ([], 0) := by decide +kernel

theorem w_first1 (w : World) (hL : Lead w) : Calls Tryd.prog 11 #[.string ⟨#[195, 169, 120]⟩] w fun e w' => e = .returned (.tuple #[.int .i64 233, .int .i64 2, .bool true]) ∧ Fr w w' := by
  have := first_any ⟨#[195, 169, 120]⟩ w hL (by decide)
  rwa [f1] at this
theorem w_first2 (w : World) (hL : Lead w) : Calls Tryd.prog 11 #[.string ⟨#[255]⟩] w fun e w' => e = .returned (.tuple #[.int .i64 0, .int .i64 0, .bool false]) ∧ Fr w w' := by
  have := first_any ⟨#[255]⟩ w hL (by decide)
  rwa [f2] at this
theorem w_text (w : World) (hL : Lead w) : Calls Tryd.prog 7 #[.int .i64 8364] w fun e w' => e = .returned (.tuple #[.string ⟨#[226, 130, 172]⟩, .bool true]) ∧ Fr w w' := by
  have := text_any 8364 w hL
  rwa [t1, t2] at this
theorem w_all (w : World) (hL : Lead w) : Calls Tryd.prog 13 #[.string ⟨#[97, 195, 169]⟩] w fun e w' => Fr w w' ∧ ∃ B, e = .returned (.tuple #[.slice (some ⟨B, 0, none⟩) 2 2, .int .i64 3, .bool true]) := by
  refine (all_yes ⟨#[97, 195, 169]⟩ w hL (by decide) (by rw [a1]; rfl)).mono ?_
  rintro e w' ⟨h, B, _, he, _⟩
  rw [a1] at he
  exact ⟨h, B, he⟩
theorem w_right1 (w : World) (hL : Lead w) : Calls Tryd.prog 15 #[.string ⟨#[97]⟩] w fun e w' => e = .returned (.bool true) ∧ Fr w w' := by
  have := right_any ⟨#[97]⟩ w hL (by decide)
  rwa [r1] at this
theorem w_right2 (w : World) (hL : Lead w) : Calls Tryd.prog 15 #[.string ⟨#[128]⟩] w fun e w' => e = .returned (.bool false) ∧ Fr w w' := by
  have := right_any ⟨#[128]⟩ w hL (by decide)
  rwa [r2] at this

set_option maxHeartbeats 400000 in
theorem wakes_any (w : World) (hL : Lead w) : Calls Tryd.prog 10 #[] w fun e w' => e = .returned (.bool true) ∧ Fr w w' := by
  go_enter Tryd.func10, Tryd.ntmps10
  go_wp2_with fail
  refine (w_first1 _ hL).mono ?_
  rintro e w1 ⟨rfl, h1⟩
  go_wp2_with fail
  refine (w_text _ (hL.fr h1)).mono ?_
  rintro e w2 ⟨rfl, h2⟩
  go_wp2_with fail
  refine (w_first2 _ (hL.fr (h1.trans h2))).mono ?_
  rintro e w3 ⟨rfl, h3⟩
  go_wp2_with fail
  refine (w_all _ (hL.fr ((h1.trans h2).trans h3))).mono ?_
  rintro e w4 ⟨h4, B, rfl⟩
  go_wp2_with fail
  refine (w_right1 _ (hL.fr (((h1.trans h2).trans h3).trans h4))).mono ?_
  rintro e w5 ⟨rfl, h5⟩
  go_wp2_with fail
  refine (w_right2 _ (hL.fr ((((h1.trans h2).trans h3).trans h4).trans h5))).mono ?_
  rintro e w6 ⟨rfl, h6⟩
  go_wp2
  go_ret
  exact ⟨rfl, ((((h1.trans h2).trans h3).trans h4).trans h5).trans h6⟩
end Go.Proofs.YtaiklflnciibmaaDoor
