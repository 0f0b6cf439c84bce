/- The document's First, whole. -/
import Derived.Test.YtaokmegoheofjaaDoorTok3
import Derived.Test.YtaokmegoheofjaaDoorTok4
import Derived.Test.YtaokmegoheofjaaDoorTok5
namespace Go.Proofs.YtaokmegoheofjaaDoor
set_option linter.unusedVariables false
set_option linter.unusedSimpArgs false
open Go.RowKit

theorem nx15 (s : ByteArray) (h0 : 0 < s.size) (hk : kindB (bt s 0) = 15) : nextN (ints s) = if preL amW (ints s) then .ok 15 amT 1 5 else if preL apW (ints s) then .ok 15 apT 1 3 else .no 0 9 := by
  conv => lhs; rw [tail_bt s h0]
  simp only [nextN, hk]
  rw [← tail_bt s h0]
  rfl
theorem nx16 (s : ByteArray) (h0 : 0 < s.size) (hk : kindB (bt s 0) = 16) : nextN (ints s) = if preL genW (ints s) then .ok 16 genT 1 7 else .no 0 9 := by
  conv => lhs; rw [tail_bt s h0]
  simp only [nextN, hk]
  rw [← tail_bt s h0]
  rfl
theorem nx14 (s : ByteArray) (h0 : 0 < s.size) (hk : kindB (bt s 0) = 14) : nextN (ints s) = .ok 14 [lowB (bt s 0)] (same (lowB (bt s 0)) (ints s)).length (same (lowB (bt s 0)) (ints s)).length := by
  conv => lhs; rw [tail_bt s h0]
  simp only [nextN, hk]
  rw [← tail_bt s h0]
  rfl
theorem nx13 (s : ByteArray) (h0 : 0 < s.size) (hk : kindB (bt s 0) = 13) : nextN (ints s) = powerN ((ints s).drop 1) := by
  conv => lhs; rw [tail_bt s h0]
  simp only [nextN, hk]
  rfl
theorem nx0 (s : ByteArray) (h0 : 0 < s.size) (hk : kindB (bt s 0) = 0) : nextN (ints s) = .no 0 9 := by
  conv => lhs; rw [tail_bt s h0]
  simp only [nextN, hk]
  rfl
theorem nx17 (s : ByteArray) (h0 : 0 < s.size) (hk : kindB (bt s 0) = 17) : nextN (ints s) = if 128 ≤ bt s 0 then (if (rfirst (ints s)).2.2 = true then .ok 17 ((ints s).take (rfirst (ints s)).2.1.toNat) 1 (rfirst (ints s)).2.1.toNat else .no 0 4) else .ok 17 [bt s 0] 1 1 := by
  conv => lhs; rw [tail_bt s h0]
  simp only [nextN, hk]
  rw [← tail_bt s h0]
  rfl

theorem refNext_any (s : ByteArray) (w : World) (hs : s.size ≤ 10000) (h0 : 0 < s.size) :
    Calls Tryd.prog 18 #[.string s] w fun e w' => e = .returned (refV (nextN (ints s))) ∧ Fr w w' := by
  have r0 := bt_range s 0 h0
  have hf := kind_facts r0.1 r0.2
  obtain ⟨f1, f5, f2, f3, f4, f14, f14', f13, f15, f16, fa, fb, fc⟩ := hf
  obtain ⟨b6, b7, b8, b9, b10, b11, b12, b13, b17⟩ := kind_get (p := fun c => (kindB c = 6 → c = 48 ∨ c = 35 ∨ c = 63) ∧ (kindB c = 7 → c = 46) ∧ (kindB c = 8 → c = 44) ∧ (kindB c = 9 → c = 37) ∧ (kindB c = 10 → c = 47) ∧ (kindB c = 11 → c = 59) ∧ (kindB c = 12 → c = 64) ∧ (kindB c = 13 → c = 69 ∨ c = 101) ∧ (c < 128 → (kindB c = 17 ↔ c ∈ plainB))) kind_back r0.1 r0.2
  have hd17 : ∀ x, x ∈ dates → x ≠ 97 ∧ x ≠ 103 ∧ x ≠ 101 := by intro x hx; simp [dates] at hx; omega
  have ha : preL amW (ints s) → lowB (bt s 0) = 97 := fun h => pre_head (tail_bt s h0) h
  have hp : preL apW (ints s) → lowB (bt s 0) = 97 := fun h => pre_head (tail_bt s h0) h
  have hg : preL genW (ints s) → lowB (bt s 0) = 103 := fun h => pre_head (tail_bt s h0) h
  have small : kindB (bt s 0) ≠ 17 → bt s 0 < 128 := fun h => by
    rcases Int.lt_or_le (bt s 0) 128 with h' | h'
    · exact h'
    · exact absurd (kindB_big h') h
  by_cases k1 : kindB (bt s 0) = 1
  · exact ref_34 s w hs h0 (f1 k1)
  by_cases k5 : kindB (bt s 0) = 5
  · exact ref_91 s w hs h0 (f5 k5)
  by_cases k2 : kindB (bt s 0) = 2
  · exact ref_92 s w hs h0 (f2 k2)
  by_cases k3 : kindB (bt s 0) = 3
  · exact ref_95 s w hs h0 (f3 k3)
  by_cases k4 : kindB (bt s 0) = 4
  · exact ref_42 s w hs h0 (f4 k4)
  by_cases k6 : kindB (bt s 0) = 6
  · rcases b6 k6 with h | h | h
    · exact ref_48 s w hs h0 h
    · exact ref_35 s w hs h0 h
    · exact ref_63 s w hs h0 h
  by_cases k7 : kindB (bt s 0) = 7
  · exact ref_46 s w hs h0 (b7 k7)
  by_cases k8 : kindB (bt s 0) = 8
  · exact ref_44 s w hs h0 (b8 k8)
  by_cases k9 : kindB (bt s 0) = 9
  · exact ref_37 s w hs h0 (b9 k9)
  by_cases k10 : kindB (bt s 0) = 10
  · exact ref_47 s w hs h0 (b10 k10)
  by_cases k11 : kindB (bt s 0) = 11
  · exact ref_59 s w hs h0 (b11 k11)
  by_cases k12 : kindB (bt s 0) = 12
  · exact ref_64 s w hs h0 (b12 k12)
  have hk : kindB (bt s 0) = 0 ∨ kindB (bt s 0) = 13 ∨ kindB (bt s 0) = 14 ∨ kindB (bt s 0) = 15 ∨ kindB (bt s 0) = 16 ∨ kindB (bt s 0) = 17 := by omega
  have no101 : lowB (bt s 0) ≠ 101 → bt s 0 ≠ 69 ∧ bt s 0 ≠ 101 := fun h => ⟨fun e => h (by rw [e]; decide), fun e => h (by rw [e]; decide)⟩
  by_cases k13 : kindB (bt s 0) = 13
  · have hl := f13.1 k13
    have hsm := small (by omega)
    by_cases hpw : 1 < s.size ∧ (bt s 1 = 43 ∨ bt s 1 = 45)
    · exact ref_power s w hs h0 k13 hpw.1 hpw.2
    · refine ref_none_sign s w hs h0 hk ?_ (fun h => by have := ha h; omega) (fun h => by have := hp h; omega) (fun h => by have := hg h; omega) (fun h => by have := hd17 _ h; omega) (bt s 0) 1 (first_small s h0 hsm) hsm (fun h => by have := (b17 hsm).2 h; omega) ?_
      · by_cases h1 : s.size = 1
        · exact .inl h1
        · exact .inr (.inr ⟨by omega, b13 k13, fun e => hpw ⟨by omega, .inl e⟩, fun e => hpw ⟨by omega, .inr e⟩⟩)
      · rw [nx13 s h0 k13]
        by_cases h1 : 1 < s.size
        · rw [drop_bt s 1 h1]
          simp only [powerN]
          rw [if_neg (fun e => hpw ⟨h1, e⟩)]
        · rw [List.drop_eq_nil_of_le (by rw [ints_length]; omega)]
          rfl
  by_cases k15 : kindB (bt s 0) = 15
  · have hl := f15.1 k15
    have hsm := small (by omega)
    have hn := nx15 s h0 k15
    have hno := no101 (by omega)
    by_cases p1 : preL amW (ints s)
    · rw [if_pos p1] at hn
      exact ref_am s w hs h0 hk (.inr hno) p1 hn
    rw [if_neg p1] at hn
    by_cases p2 : preL apW (ints s)
    · rw [if_pos p2] at hn
      exact ref_ap s w hs h0 hk (.inr hno) p1 p2 hn
    rw [if_neg p2] at hn
    exact ref_none_sign s w hs h0 hk (.inr (.inl hno)) p1 p2 (fun h => by have := hg h; omega) (fun h => by have := hd17 _ h; omega) (bt s 0) 1 (first_small s h0 hsm) hsm (fun h => by have := (b17 hsm).2 h; omega) hn
  by_cases k16 : kindB (bt s 0) = 16
  · have hl := f16.1 k16
    have hsm := small (by omega)
    have hn := nx16 s h0 k16
    have hno := no101 (by omega)
    have p1 : ¬ preL amW (ints s) := fun h => by have := ha h; omega
    have p2 : ¬ preL apW (ints s) := fun h => by have := hp h; omega
    by_cases p3 : preL genW (ints s)
    · rw [if_pos p3] at hn
      exact ref_gen s w hs h0 hk (.inr hno) p1 p2 p3 hn
    rw [if_neg p3] at hn
    exact ref_none_sign s w hs h0 hk (.inr (.inl hno)) p1 p2 p3 (fun h => by have := hd17 _ h; omega) (bt s 0) 1 (first_small s h0 hsm) hsm (fun h => by have := (b17 hsm).2 h; omega) hn
  have p1 : ¬ preL amW (ints s) := fun h => k15 (f15.2 (ha h))
  have p2 : ¬ preL apW (ints s) := fun h => k15 (f15.2 (hp h))
  have p3 : ¬ preL genW (ints s) := fun h => k16 (f16.2 (hg h))
  have hno := no101 (fun h => k13 (f13.2 h))
  by_cases k14 : kindB (bt s 0) = 14
  · exact ref_date s w hs h0 hk (.inr hno) p1 p2 p3 (f14 k14) (nx14 s h0 k14)
  have hd : lowB (bt s 0) ∉ dates := fun h => k14 (f14' h)
  by_cases k0 : kindB (bt s 0) = 0
  · have hsm := small (by omega)
    exact ref_none_sign s w hs h0 hk (.inr (.inl hno)) p1 p2 p3 hd (bt s 0) 1 (first_small s h0 hsm) hsm (fun h => by have := (b17 hsm).2 h; omega) (nx0 s h0 k0)
  have k17 : kindB (bt s 0) = 17 := by omega
  have hn := nx17 s h0 k17
  by_cases h128 : 128 ≤ bt s 0
  · rw [if_pos h128] at hn
    rcases rfirst_cases (ints s) (ints_range s) with hr | ⟨m, t, hm, ht, hr⟩
    · rw [hr] at hn
      exact ref_none_utf s w hs h0 hk (.inr (.inl hno)) p1 p2 p3 hd hr hn
    · have hnl := nums_length m hm
      have hc := rsize_cases m
      have hz : (nums m).length ≤ s.size := by
        have := congrArg List.length ht
        rw [ints_length, List.length_append] at this
        omega
      rw [hr, if_pos rfl, show (rsize m).toNat = (nums m).length by omega] at hn
      have htk : (ints s).take (nums m).length = nums m := by rw [ht, List.take_left]
      rw [htk] at hn
      exact ref_none_ok s w hs h0 hk (.inr (.inl hno)) p1 p2 p3 hd m (nums m) (by omega) hz (by rw [str_ext, List.drop_zero, Nat.sub_zero, htk]) (by rw [hr, hnl]) _ rfl (fun h => by omega) hn
  · rw [if_neg h128] at hn
    have hsm : bt s 0 < 128 := by omega
    exact ref_none_ok s w hs h0 hk (.inr (.inl hno)) p1 p2 p3 hd (bt s 0) [bt s 0] (by simp) (show [bt s 0].length ≤ s.size from h0) (str_one s 0 h0) (first_small s h0 hsm) _ rfl (fun _ => decide_eq_true ((b17 hsm).1 k17)) hn
end Go.Proofs.YtaokmegoheofjaaDoor
