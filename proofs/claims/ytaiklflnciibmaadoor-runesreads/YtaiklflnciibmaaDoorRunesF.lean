/- The walk of the law RunesTexts. -/
import Derived.Test.YtaiklflnciibmaaDoorRunesE
namespace Go.Proofs.YtaiklflnciibmaaDoor
set_option linter.unusedVariables false
set_option linter.unusedSimpArgs false
open Go.RowKit

theorem isB_iff (n : Int) : isB n = true ↔ rsize n ≠ 0 := by unfold isB; simp
theorem rtext_yes (n : Int) (h : isB n = true) : rtext n = strOfNums (nums n) := by
  unfold rtext; rw [if_neg ((isB_iff n).1 h)]
theorem rtext_no (n : Int) (h : isB n = false) : rtext n = ⟨#[]⟩ := by
  unfold rtext; rw [if_pos (by unfold isB at h; simpa using h)]
theorem isB_bd (n : Int) (h : isB n = true) : 0 ≤ n ∧ n ≤ 1114111 := by
  have := (isB_iff n).1 h
  have := rsize_cases n
  omega
theorem text_yes (n : Int) (w : World) (hL : Lead w) (h : isB n = true) : Calls Tryd.prog 7 #[.int .i64 n] w fun e w' => e = .returned (.tuple #[.string (strOfNums (nums n)), .bool true]) ∧ Fr w w' := by
  have := text_any n w hL
  rwa [rtext_yes n h, h] at this
theorem text_no (n : Int) (w : World) (hL : Lead w) (h : isB n = false) : Calls Tryd.prog 7 #[.int .i64 n] w fun e w' => e = .returned (.tuple #[.string ⟨#[]⟩, .bool false]) ∧ Fr w w' := by
  have := text_any n w hL
  rwa [rtext_no n h, h] at this
theorem is_yes (n : Int) (w : World) (h : isB n = true) : Calls Tryd.prog 8 #[.int .i64 n] w fun e w' => e = .returned (.bool true) ∧ w' = w := by
  have := is_any n w
  rwa [h] at this
theorem is_no (n : Int) (w : World) (h : isB n = false) : Calls Tryd.prog 8 #[.int .i64 n] w fun e w' => e = .returned (.bool false) ∧ w' = w := by
  have := is_any n w
  rwa [h] at this

/-- Two cells hold numbers. -/
def Two (B : Nat) (w : World) : Prop := B < w.heap.size ∧ ∀ j : Nat, j < 2 → ∃ x : Int, w.cell? ⟨B, j, none⟩ = some (.int .i64 x)
theorem Two.fr {B : Nat} {w w' : World} (h : Two B w) (k : Fr w w') : Two B w' :=
  ⟨Nat.lt_of_lt_of_le h.1 k.size, fun j hj => by
    obtain ⟨x, hx⟩ := h.2 j hj
    exact ⟨x, (Below.cell (p := ⟨B, j, none⟩) k h.1).trans hx⟩⟩
theorem two_new (w : World) (a b : Int) : Two w.heap.size (w.alloc (.cells #[.int .i64 a, .int .i64 b] 3)) :=
  ⟨by simp, fun j hj => by
    match j, hj with
    | 0, _ => exact ⟨a, by simp [go_sem]⟩
    | 1, _ => exact ⟨b, by simp [go_sem]⟩⟩

set_option maxHeartbeats 400000 in
theorem law_texts (n : Int) (w : World) (hL : Lead w) (h0 : -9223372036854775808 ≤ n) (h1 : n ≤ 9223372036854775807) : Calls Tryd.prog 3 #[.int .i64 n] w fun e w' => e = .returned (.bool true) ∧ Fr w w' := by
  go_enter Tryd.func3, Tryd.ntmps3
  go_wp2_with fail
  all_goals
    go_loopw [13] (fun i wr => ∃ j : Nat, j ≤ 2 ∧ i = .int .i64 j ∧ Fr w wr ∧ Two w.heap.size wr) (fun i _ => 2 - (intOf i).toNat)
    case atStart => exact ⟨0, by omega, rfl, by unfold Fr; go_grown, two_new _ _ _⟩
    case round =>
      obtain ⟨j, hj, rfl, hF, hT⟩ := hrel
      have hLr := hL.fr hF
      by_cases hlt : j < 2
      · obtain ⟨x, hx⟩ := hT.2 j hlt
        cases hb : isB x
        · have HB : Hid (isB x = false) := hb
          clear hb
          go_wp2_with fail
          refine (text_no x _ hLr HB.out).mono ?_
          rintro e w1 ⟨rfl, hF1⟩
          go_wp2_with fail
          refine (is_no x _ HB.out).mono ?_
          rintro e w2 ⟨rfl, rfl⟩
          go_wp2_with fail
          go_roundw
          case rel => exact ⟨j + 1, by omega, by go_num, hF.trans hF1, hT.fr hF1⟩
          case measure => simp [intOf]; omega
        · have HB : Hid (isB x = true) := hb
          have hbd := isB_bd x hb
          clear hb
          go_wp2_with fail
          refine (text_yes x _ hLr HB.out).mono ?_
          rintro e w1 ⟨rfl, hF1⟩
          go_wp2_with fail
          refine (is_yes x _ HB.out).mono ?_
          rintro e w2 ⟨rfl, rfl⟩
          go_wp2_with fail
          refine (refText_any x _ hbd.1 hbd.2).mono ?_
          rintro e w3 ⟨rfl, hF3⟩
          go_wp2_with fail
          go_roundw
          case rel => exact ⟨j + 1, by omega, by go_num, (hF.trans hF1).trans hF3, (hT.fr hF1).fr hF3⟩
          case measure => simp [intOf]; omega
      · go_wp2_with fail
        refine (wakes_any _ hLr).mono ?_
        rintro e w1 ⟨rfl, hF1⟩
        go_wp2
        go_ret
        exact ⟨rfl, hF.trans hF1⟩
end Go.Proofs.YtaiklflnciibmaaDoor
