/- power, date, behind. -/
import Derived.Test.YtaokmegoheofjaaDoorTokC
namespace Go.Proofs.YtaokmegoheofjaaDoor
set_option linter.unusedVariables false
set_option linter.unusedSimpArgs false
open Go.RowKit

theorem tail_bt (s : ByteArray) (h : 0 < s.size) : ints s = bt s 0 :: (ints s).drop 1 := by
  have := drop_bt s 0 h
  simpa using this
theorem str_of {t : ByteArray} {l : List Int} (h : ints t = l) : t = strOfNums l := by
  apply ints_inj
  rw [h, ints_nums _ (fun x hx => ints_range t x (by rw [h]; exact hx))]
theorem str_nil : strOfNums [] = ⟨#[]⟩ := ints_inj (by rw [ints_nums _ (by simp)]; rfl)
theorem str_ext (s : ByteArray) (a b : Nat) : s.extract a b = strOfNums (((ints s).drop a).take (b - a)) := str_of (ints_extract s a b)
theorem str_one (s : ByteArray) (k : Nat) (h : k < s.size) : s.extract k (k + 1) = strOfNums [bt s k] := by
  rw [str_ext, drop_bt s k h, show k + 1 - k = 1 by omega]
  rfl

set_option maxHeartbeats 1000000 in
set_option maxRecDepth 4000 in
theorem power_any (s : ByteArray) (w : World) (hs : s.size ≤ maxLen) (h0 : 0 < s.size) :
    Calls Tryd.prog 32 #[.string s] w fun e w' => e = .returned (nxV (powerN ((ints s).drop 1))) ∧ Fr w w' := by
  unfold maxLen at hs
  by_cases h : s.size = 1
  · have e : (ints s).drop 1 = [] := List.drop_eq_nil_of_le (by rw [ints_length]; omega)
    rw [e]
    clear e
    go_enter Tryd.func32, Tryd.ntmps32
    go_wp2_with fail
    refine bodyPost_ret (results_new rfl _ w _ _ _ _ rfl) rfl ⟨by simp only [powerN, nxV, tkV, str_nil]; rfl, Fr.alloc _ _⟩
  · have e := drop_bt s 1 (by omega)
    have q1 := bt_at s 1 (by omega)
    have r1 := bt_range s 1 (by omega)
    have HX := hide (str_one s 1 (by omega))
    rw [e]
    clear e
    generalize bt s 1 = d at *
    by_cases hd : d = 43 ∨ d = 45
    · have hp : powerN (d :: (ints s).drop (1 + 1)) = .ok 13 [d] 1 2 := by simp only [powerN]; rw [if_pos hd]
      rw [hp]
      clear hp
      rcases hd with rfl | rfl
      all_goals (
        go_enter Tryd.func32, Tryd.ntmps32
        go_wp2_with fail
        refine bodyPost_ret (results_new rfl _ w _ _ _ _ rfl) rfl ⟨by simp only [nxV, tkV]; rw [← HX.out]; rfl, Fr.alloc _ _⟩)
    · have hp : powerN (d :: (ints s).drop (1 + 1)) = .no 0 9 := by simp only [powerN]; rw [if_neg hd]
      rw [hp]
      clear hp
      have h43 : (d == 43) = false := by simp only [beq_eq_false_iff_ne]; omega
      have h45 : (d == 45) = false := by simp only [beq_eq_false_iff_ne]; omega
      go_enter Tryd.func32, Tryd.ntmps32
      go_wp2_with fail
      refine bodyPost_ret (results_new rfl _ w _ _ _ _ rfl) rfl ⟨by simp only [nxV, tkV, str_nil]; rfl, Fr.alloc _ _⟩

set_option maxHeartbeats 1000000 in
set_option maxRecDepth 4000 in
theorem behind_any (s : ByteArray) (k e : Int) (w : World) (hL : Lead w) (hs : s.size ≤ maxLen) (h0 : 0 < s.size) :
    Calls Tryd.prog 31 #[.string s, .int .i64 k, .int .i64 e] w fun r w' => r = .returned (nxV (markN k e ((ints s).drop 1))) ∧ Fr w w' := by
  have hs' := hs
  unfold maxLen at hs
  by_cases h : s.size = 1
  · have e : (ints s).drop 1 = [] := List.drop_eq_nil_of_le (by rw [ints_length]; omega)
    rw [e]
    clear e hs'
    go_enter Tryd.func31, Tryd.ntmps31
    go_wp2_with fail
    refine bodyPost_ret (results_new rfl _ w _ _ _ _ rfl) rfl ⟨by simp only [markN, if_true, nxV, tkV, str_nil]; rfl, Fr.alloc _ _⟩
  · have hne : (ints s).drop 1 ≠ [] := by
      intro hh
      have := congrArg List.length hh
      rw [List.length_drop, ints_length] at this
      simp at this
      omega
    have h1 : ¬ s.size = 1 := h
    rcases rfirst_cases ((ints s).drop 1) (drop_range s 1) with hf | ⟨m, t, hm, ht, hf⟩
    · have hp : markN k e ((ints s).drop 1) = .no 1 4 := by unfold markN; rw [if_neg hne, hf]; rfl
      rw [hp]
      have HFf := hide hf
      clear hp hf hne
      go_enter Tryd.func31, Tryd.ntmps31
      go_wp2_with fail
      refine (first_any (s.extract 1 s.size) _ (hL.fr (Fr.alloc _ _)) (size_from s 1 hs')).mono ?_
      rintro e w1 ⟨rfl, hF1⟩
      rw [ints_from, HFf.out]
      have c4 := four_cells hF1
      have f4 := var_free hF1
      go_wp2_with fail
      exact bodyPost_ret (results_put rfl _ hF1 _ _ _ _ rfl) rfl ⟨by simp only [nxV, tkV, str_nil]; rfl, fr_put4 hF1 _ _ _ _⟩
    · have hnl := nums_length m hm
      have hc := rsize_cases m
      have hr1 : 1 ≤ rsize m := by omega
      have hr2 : rsize m ≤ 4 := by omega
      have hz : 1 + (nums m).length ≤ s.size := by
        have := congrArg List.length ht
        rw [List.length_drop, ints_length, List.length_append] at this
        have := nums_pos m
        omega
      have hp : markN k e ((ints s).drop 1) = .ok k (nums m) 0 (1 + (nums m).length) := by
        unfold markN
        rw [if_neg hne, hf, if_pos rfl, show (rsize m).toNat = (nums m).length by omega, ht, List.take_left]
      rw [hp]
      have HFf := hide hf
      have HX : Hid (s.extract 1 ((1 : Int) + ((nums m).length : Int)).toNat = strOfNums (nums m)) := hide (by rw [str_ext, ht, show ((1 : Int) + ((nums m).length : Int)).toNat - 1 = (nums m).length by omega, List.take_left])
      have HNL := hide hnl
      have hN4 : (nums m).length ≤ 4 := by omega
      generalize nums m = u at *
      clear hp hf hne hc ht hnl hr1 hr2
      generalize hN : u.length = N at *
      go_enter Tryd.func31, Tryd.ntmps31
      go_wp2_with fail
      refine (first_any (s.extract 1 s.size) _ (hL.fr (Fr.alloc _ _)) (size_from s 1 hs')).mono ?_
      rintro r w1 ⟨rfl, hF1⟩
      rw [ints_from, HFf.out, ← HNL.out]
      have c4 := four_cells hF1
      have f4 := var_free hF1
      go_wp2_with fail
      exact bodyPost_ret (results_put rfl _ hF1 _ _ _ _ rfl) rfl ⟨by simp only [nxV, tkV]; rw [← HX.out, show ((1 + N : Nat) : Int) = 1 + (N : Int) by omega]; rfl, fr_put4 hF1 _ _ _ _⟩
end Go.Proofs.YtaokmegoheofjaaDoor
