/- The walk of runes.Text. -/
import Derived.Test.YtaiklflnciibmaaDoorRunesA
namespace Go.Proofs.YtaiklflnciibmaaDoor
set_option linter.unusedVariables false
set_option linter.unusedSimpArgs false
open Go.RowKit
attribute [local go_sem] conv1 conv2 conv3 conv4 mk1 mk2 mk3 mk4

set_option maxHeartbeats 1000000 in
theorem text_1 (n : Int) (w : World) (hL : Lead w) (k0 : 0 ≤ n) (k1 : n ≤ 1114111) (hr : rsize n = 1) (hn : nums n = [n]) (kk : n < 128) : Calls Tryd.prog 7 #[.int .i64 n] w fun e w' => e = .returned (.tuple #[.string (rtext n), .bool (isB n)]) ∧ Fr w w' := by
  obtain ⟨l0, l1, l2, l3, l4⟩ := hL
  have hb := cell0 (cell_lt l0)
  unfold isB rtext Fr
  go_enter Tryd.func7, Tryd.ntmps7
  go_wp2_with (go_at_call 16; refine (sizeOf_any _ _).mono ?_; rintro e w' ⟨rfl, rfl⟩; rw [hr])
  go_rounds 2
  go_ret2
  exact ⟨by simp, by go_grown⟩

set_option maxHeartbeats 1000000 in
theorem text_2 (n : Int) (w : World) (hL : Lead w) (k0 : 0 ≤ n) (k1 : n ≤ 1114111) (hr : rsize n = 2) (hn : nums n = [192 + n / 64, 128 + n % 64]) (kk : n < 2048) : Calls Tryd.prog 7 #[.int .i64 n] w fun e w' => e = .returned (.tuple #[.string (rtext n), .bool (isB n)]) ∧ Fr w w' := by
  obtain ⟨l0, l1, l2, l3, l4⟩ := hL
  have hb := cell0 (cell_lt l0)
  unfold isB rtext Fr
  go_enter Tryd.func7, Tryd.ntmps7
  go_wp2_with (go_at_call 16; refine (sizeOf_any _ _).mono ?_; rintro e w' ⟨rfl, rfl⟩; rw [hr])
  go_rounds 3
  go_ret2
  exact ⟨by simp, by go_grown⟩

set_option maxHeartbeats 1000000 in
theorem text_3 (n : Int) (w : World) (hL : Lead w) (k0 : 0 ≤ n) (k1 : n ≤ 1114111) (hr : rsize n = 3) (hn : nums n = [224 + n / 64 / 64, 128 + n / 64 % 64, 128 + n % 64]) (kk : n < 65536) : Calls Tryd.prog 7 #[.int .i64 n] w fun e w' => e = .returned (.tuple #[.string (rtext n), .bool (isB n)]) ∧ Fr w w' := by
  obtain ⟨l0, l1, l2, l3, l4⟩ := hL
  have hb := cell0 (cell_lt l0)
  unfold isB rtext Fr
  go_enter Tryd.func7, Tryd.ntmps7
  go_wp2_with (go_at_call 16; refine (sizeOf_any _ _).mono ?_; rintro e w' ⟨rfl, rfl⟩; rw [hr])
  go_rounds 4
  go_ret2
  exact ⟨by simp, by go_grown⟩

set_option maxHeartbeats 1000000 in
theorem text_4 (n : Int) (w : World) (hL : Lead w) (k0 : 0 ≤ n) (k1 : n ≤ 1114111) (hr : rsize n = 4) (hn : nums n = [240 + n / 64 / 64 / 64, 128 + n / 64 / 64 % 64, 128 + n / 64 % 64, 128 + n % 64]) (kk : 65536 ≤ n) : Calls Tryd.prog 7 #[.int .i64 n] w fun e w' => e = .returned (.tuple #[.string (rtext n), .bool (isB n)]) ∧ Fr w w' := by
  obtain ⟨l0, l1, l2, l3, l4⟩ := hL
  have hb := cell0 (cell_lt l0)
  unfold isB rtext Fr
  go_enter Tryd.func7, Tryd.ntmps7
  go_wp2_with (go_at_call 16; refine (sizeOf_any _ _).mono ?_; rintro e w' ⟨rfl, rfl⟩; rw [hr])
  go_rounds 5
  go_ret2
  exact ⟨by simp, by go_grown⟩

theorem text_0 (n : Int) (w : World) (hr : rsize n = 0) : Calls Tryd.prog 7 #[.int .i64 n] w fun e w' => e = .returned (.tuple #[.string (rtext n), .bool (isB n)]) ∧ Fr w w' := by
  unfold isB rtext Fr
  go_enter Tryd.func7, Tryd.ntmps7
  go_wp2_with (go_at_call 16; refine (sizeOf_any _ _).mono ?_; rintro e w' ⟨rfl, rfl⟩; rw [hr])
  go_ret2
  exact ⟨by simp, Below.refl _ _⟩

theorem text_any (n : Int) (w : World) (hL : Lead w) : Calls Tryd.prog 7 #[.int .i64 n] w fun e w' => e = .returned (.tuple #[.string (rtext n), .bool (isB n)]) ∧ Fr w w' := by
  by_cases h : n < 0 ∨ 1114111 < n ∨ (55296 ≤ n ∧ n ≤ 57343)
  · exact text_0 n w (by unfold rsize; rw [if_pos h])
  · by_cases a1 : n < 128
    · exact text_1 n w hL (by omega) (by omega) (by unfold rsize; rw [if_neg h, if_pos a1]) (by simp [nums, a1]) a1
    · by_cases a2 : n < 2048
      · exact text_2 n w hL (by omega) (by omega) (by unfold rsize; rw [if_neg h, if_neg a1, if_pos a2]) (by simp [nums, a1, a2]) a2
      · by_cases a3 : n < 65536
        · exact text_3 n w hL (by omega) (by omega) (by unfold rsize; rw [if_neg h, if_neg a1, if_neg a2, if_pos a3]) (by rw [nums, if_neg a1, if_neg a2, if_pos a3]; congr 2; omega) a3
        · exact text_4 n w hL (by omega) (by omega) (by unfold rsize; rw [if_neg h, if_neg a1, if_neg a2, if_neg a3]) (by rw [nums, if_neg a1, if_neg a2, if_neg a3, show n / 262144 = n / 64 / 64 / 64 by omega, show n / 4096 = n / 64 / 64 by omega]) (by omega)
end Go.Proofs.YtaiklflnciibmaaDoor
