/- The document's First, continued. -/
import Derived.Test.YtaokmegoheofjaaDoorTok2
namespace Go.Proofs.YtaokmegoheofjaaDoor
set_option linter.unusedVariables false
set_option linter.unusedSimpArgs false
open Go.RowKit

set_option maxHeartbeats 4000000 in
set_option maxRecDepth 4000 in
theorem ref_none_ok (s : ByteArray) (w : World) (hs : s.size ≤ 10000) (h0 : 0 < s.size) (hk : kindB (bt s 0) = 0 ∨ kindB (bt s 0) = 13 ∨ kindB (bt s 0) = 14 ∨ kindB (bt s 0) = 15 ∨ kindB (bt s 0) = 16 ∨ kindB (bt s 0) = 17) (hpw : s.size = 1 ∨ (bt s 0 ≠ 69 ∧ bt s 0 ≠ 101) ∨ (1 < s.size ∧ (bt s 0 = 69 ∨ bt s 0 = 101) ∧ bt s 1 ≠ 43 ∧ bt s 1 ≠ 45)) (p1 : ¬ preL amW (ints s)) (p2 : ¬ preL apW (ints s)) (p3 : ¬ preL genW (ints s)) (hd : lowB (bt s 0) ∉ dates) (m : Int) (u : List Int) (hu : u.length ≤ 4) (hz : u.length ≤ s.size) (hx : s.extract 0 u.length = strOfNums u) (hr : rfirst (ints s) = (m, (u.length : Int), true)) (P : Bool) (hP : decide (bt s 0 ∈ plainB) = P) (hpl : bt s 0 < 128 → P = true) (hans : nextN (ints s) = .ok 17 u 1 u.length) :
    Calls Tryd.prog 18 #[.string s] w fun e w' => e = .returned (refV (nextN (ints s))) ∧ Fr w w' := by
  have hmx : s.size ≤ maxLen := by unfold maxLen; omega
  have q0 := bt_at s 0 h0
  have r0 := bt_range s 0 h0
  have hV := Vars.new w 42
  obtain ⟨m1, m2, m3, m4, m5, m6, m7, m8, m9, m10, m11, m12, m13, m14⟩ := kind_get (p := fun c => (kindB c = 0 ∨ kindB c = 13 ∨ kindB c = 14 ∨ kindB c = 15 ∨ kindB c = 16 ∨ kindB c = 17) → c ≠ 34 ∧ c ≠ 92 ∧ c ≠ 95 ∧ c ≠ 42 ∧ c ≠ 91 ∧ c ≠ 48 ∧ c ≠ 35 ∧ c ≠ 63 ∧ c ≠ 46 ∧ c ≠ 44 ∧ c ≠ 37 ∧ c ≠ 47 ∧ c ≠ 59 ∧ c ≠ 64) kind_not r0.1 r0.2 (by omega)
  have e1 : (bt s 0 == 34) = false := by simpa using m1
  have e2 : (bt s 0 == 92) = false := by simpa using m2
  have e3 : (bt s 0 == 95) = false := by simpa using m3
  have e4 : (bt s 0 == 42) = false := by simpa using m4
  have e5 : (bt s 0 == 91) = false := by simpa using m5
  have e6 : (bt s 0 == 48) = false := by simpa using m6
  have e7 : (bt s 0 == 35) = false := by simpa using m7
  have e8 : (bt s 0 == 63) = false := by simpa using m8
  have e9 : ((46 : Int) == bt s 0) = false := by simp only [beq_eq_false_iff_ne]; omega
  have e10 : ((44 : Int) == bt s 0) = false := by simp only [beq_eq_false_iff_ne]; omega
  have e11 : ((37 : Int) == bt s 0) = false := by simp only [beq_eq_false_iff_ne]; omega
  have e12 : ((47 : Int) == bt s 0) = false := by simp only [beq_eq_false_iff_ne]; omega
  have e13 : ((59 : Int) == bt s 0) = false := by simp only [beq_eq_false_iff_ne]; omega
  have e14 : ((64 : Int) == bt s 0) = false := by simp only [beq_eq_false_iff_ne]; omega
  clear m1 m2 m3 m4 m5 m6 m7 m8 m9 m10 m11 m12 m13 m14
  have t0 : (((⟨#[46, 44, 37, 47, 59, 64]⟩ : ByteArray)[0]'(by decide)).toNat : Int) = 46 := by rfl
  have t1 : (((⟨#[46, 44, 37, 47, 59, 64]⟩ : ByteArray)[1]'(by decide)).toNat : Int) = 44 := by rfl
  have t2 : (((⟨#[46, 44, 37, 47, 59, 64]⟩ : ByteArray)[2]'(by decide)).toNat : Int) = 37 := by rfl
  have t3 : (((⟨#[46, 44, 37, 47, 59, 64]⟩ : ByteArray)[3]'(by decide)).toNat : Int) = 47 := by rfl
  have t4 : (((⟨#[46, 44, 37, 47, 59, 64]⟩ : ByteArray)[4]'(by decide)).toNat : Int) = 59 := by rfl
  have t5 : (((⟨#[46, 44, 37, 47, 59, 64]⟩ : ByteArray)[5]'(by decide)).toNat : Int) = 64 := by rfl
  have HB := hide (fun d (hd : d.size ≤ 100) w => refBegins_any s d w hs hd)
  have HB1 := hide (fun w => HB.out ⟨#[97, 109, 47, 112, 109]⟩ (by decide) w)
  have HB2 := hide (fun w => HB.out ⟨#[97, 47, 112]⟩ (by decide) w)
  have HB3 := hide (fun w => HB.out ⟨#[103, 101, 110, 101, 114, 97, 108]⟩ (by decide) w)
  rw [ints_am] at HB1
  rw [ints_ap] at HB2
  rw [ints_gen] at HB3
  clear HB
  have HLOW : Hid (∀ w, Calls Tryd.prog 38 #[.string s] w fun e w' => e = .returned (.string (lowS s)) ∧ Fr w w') := hide (fun w => low_any s w hs)
  have hlz := lowS_size s
  have ql0 := bt_at (lowS s) 0 (by rw [lowS_size]; exact h0)
  rw [lowS_bt s 0 h0] at ql0
  have rl := low_range r0.1 r0.2
  have HDA := hide (fun w => refHas_any ⟨#[121, 109, 100, 104, 115]⟩ (lowB (bt s 0)) w (by decide) rl.1 rl.2)
  rw [ints_dates] at HDA
  have HF := hide (fun w => refFirst_any s w hmx)
  have HPL := hide (fun w => refHas_any ⟨#[36, 45, 43, 40, 41, 58, 33, 94, 38, 39, 126, 123, 125, 60, 62, 61, 32, 49, 50, 51, 52, 53, 54, 55, 56, 57]⟩ (bt s 0) w (by decide) r0.1 r0.2)
  rw [ints_plain] at HPL
  have D1 := hide (decide_eq_false p1)
  have D2 := hide (decide_eq_false p2)
  have D3 := hide (decide_eq_false p3)
  have D4 := hide (decide_eq_false hd)
  have HR := hide hr
  have HN := hide hans
  have HX := hide hx
  have D5 := hide hP
  generalize hN : u.length = N at *
  clear hr hans hx hP
  clear hk p1 p2 p3 hd
  by_cases hA1 : s.size = 1
  · have hA : ¬ ((1 : Int) < (s.size : Int)) := by omega
    generalize bt s 0 = c at *
    generalize lowB c = lc at *
    go_enter Tryd.func18, Tryd.ntmps18
    go_upto_region 2 with fail
    generalize (w.alloc _).alloc _ = V at *
    have HV := hide hV
    clear hV
    go_wp2_with fail
    refine wp_loop_rounds 7 ?_
    repeat any_goals (rw [rounds_succ]; go_wp2_with fail)
    refine (HB1.out _).mono ?_
    rintro e wb1 ⟨rfl, fb1⟩
    rw [D1.out]
    go_wp2_with fail
    refine (HB2.out _).mono ?_
    rintro e wb2 ⟨rfl, fb2⟩
    rw [D2.out]
    go_wp2_with fail
    refine (HB3.out _).mono ?_
    rintro e wb3 ⟨rfl, fb3⟩
    rw [D3.out]
    have F3 := hide (fb1.trans (fb2.trans fb3))
    clear fb1 fb2 fb3
    go_wp2_with fail
    refine (HLOW.out _).mono ?_
    rintro e wl ⟨rfl, fl⟩
    go_wp2_with fail
    refine (HDA.out _).mono ?_
    rintro e wd ⟨rfl, fd⟩
    rw [D4.out]
    have F4 := hide (F3.out.trans (fl.trans fd))
    clear F3 fl fd
    go_wp2_with fail
    refine (HF.out _).mono ?_
    rintro e wf ⟨rfl, ff0⟩
    rw [HR.out]
    have F5 := hide (F4.out.trans ff0)
    clear F4 ff0
    go_wp2_with fail
    refine Calls.mono (HPL.out wf) ?_
    rintro e wp ⟨rfl, fp⟩
    rw [D5.out]
    have hW := HV.out.go (F5.out.trans fp)
    obtain ⟨x0, x1, x2, x3, c0, c1, c2, c3⟩ := hW.c
    have ff := hW.f
    obtain ⟨n0, n1, n2, n3⟩ := hW.n
    by_cases h128 : c < 128
    · obtain rfl := hpl h128
      go_wp2_with fail
      exact bodyPost_ret (results_vars rfl _ hW _ _ _ _ rfl) rfl ⟨by rw [HN.out]; simp only [refV, tkV]; rw [← HX.out]; rfl, fr_vars hW _ _ _ _⟩
    · go_wp2_with fail
      exact bodyPost_ret (results_vars rfl _ hW _ _ _ _ rfl) rfl ⟨by rw [HN.out]; simp only [refV, tkV]; rw [← HX.out]; rfl, fr_vars hW _ _ _ _⟩
  have h1 : 1 < s.size := by omega
  have h1i : (1 : Int) < (s.size : Int) := by omega
  rcases hpw with hA2 | ⟨hb1, hb2⟩ | ⟨_, hb | hb, hb1, hb2⟩
  · exact absurd hA2 hA1
  · have hB1 : (bt s 0 == 69) = false := by simpa using hb1
    have hB2 : (bt s 0 == 101) = false := by simpa using hb2
    generalize bt s 0 = c at *
    generalize lowB c = lc at *
    go_enter Tryd.func18, Tryd.ntmps18
    go_upto_region 2 with fail
    generalize (w.alloc _).alloc _ = V at *
    have HV := hide hV
    clear hV
    go_wp2_with fail
    refine wp_loop_rounds 7 ?_
    repeat any_goals (rw [rounds_succ]; go_wp2_with fail)
    refine (HB1.out _).mono ?_
    rintro e wb1 ⟨rfl, fb1⟩
    rw [D1.out]
    go_wp2_with fail
    refine (HB2.out _).mono ?_
    rintro e wb2 ⟨rfl, fb2⟩
    rw [D2.out]
    go_wp2_with fail
    refine (HB3.out _).mono ?_
    rintro e wb3 ⟨rfl, fb3⟩
    rw [D3.out]
    have F3 := hide (fb1.trans (fb2.trans fb3))
    clear fb1 fb2 fb3
    go_wp2_with fail
    refine (HLOW.out _).mono ?_
    rintro e wl ⟨rfl, fl⟩
    go_wp2_with fail
    refine (HDA.out _).mono ?_
    rintro e wd ⟨rfl, fd⟩
    rw [D4.out]
    have F4 := hide (F3.out.trans (fl.trans fd))
    clear F3 fl fd
    go_wp2_with fail
    refine (HF.out _).mono ?_
    rintro e wf ⟨rfl, ff0⟩
    rw [HR.out]
    have F5 := hide (F4.out.trans ff0)
    clear F4 ff0
    go_wp2_with fail
    refine Calls.mono (HPL.out wf) ?_
    rintro e wp ⟨rfl, fp⟩
    rw [D5.out]
    have hW := HV.out.go (F5.out.trans fp)
    obtain ⟨x0, x1, x2, x3, c0, c1, c2, c3⟩ := hW.c
    have ff := hW.f
    obtain ⟨n0, n1, n2, n3⟩ := hW.n
    by_cases h128 : c < 128
    · obtain rfl := hpl h128
      go_wp2_with fail
      exact bodyPost_ret (results_vars rfl _ hW _ _ _ _ rfl) rfl ⟨by rw [HN.out]; simp only [refV, tkV]; rw [← HX.out]; rfl, fr_vars hW _ _ _ _⟩
    · go_wp2_with fail
      exact bodyPost_ret (results_vars rfl _ hW _ _ _ _ rfl) rfl ⟨by rw [HN.out]; simp only [refV, tkV]; rw [← HX.out]; rfl, fr_vars hW _ _ _ _⟩
  · have q1 := bt_at s 1 h1
    have hC1 : (bt s 1 == 43) = false := by simpa using hb1
    have hC2 : (bt s 1 == 45) = false := by simpa using hb2
    have hB1 : (bt s 0 == 69) = true := by simp [hb]
    clear hb
    generalize bt s 0 = c at *
    generalize lowB c = lc at *
    go_enter Tryd.func18, Tryd.ntmps18
    go_upto_region 2 with fail
    generalize (w.alloc _).alloc _ = V at *
    have HV := hide hV
    clear hV
    go_wp2_with fail
    refine wp_loop_rounds 7 ?_
    repeat any_goals (rw [rounds_succ]; go_wp2_with fail)
    refine (HB1.out _).mono ?_
    rintro e wb1 ⟨rfl, fb1⟩
    rw [D1.out]
    go_wp2_with fail
    refine (HB2.out _).mono ?_
    rintro e wb2 ⟨rfl, fb2⟩
    rw [D2.out]
    go_wp2_with fail
    refine (HB3.out _).mono ?_
    rintro e wb3 ⟨rfl, fb3⟩
    rw [D3.out]
    have F3 := hide (fb1.trans (fb2.trans fb3))
    clear fb1 fb2 fb3
    go_wp2_with fail
    refine (HLOW.out _).mono ?_
    rintro e wl ⟨rfl, fl⟩
    go_wp2_with fail
    refine (HDA.out _).mono ?_
    rintro e wd ⟨rfl, fd⟩
    rw [D4.out]
    have F4 := hide (F3.out.trans (fl.trans fd))
    clear F3 fl fd
    go_wp2_with fail
    refine (HF.out _).mono ?_
    rintro e wf ⟨rfl, ff0⟩
    rw [HR.out]
    have F5 := hide (F4.out.trans ff0)
    clear F4 ff0
    go_wp2_with fail
    refine Calls.mono (HPL.out wf) ?_
    rintro e wp ⟨rfl, fp⟩
    rw [D5.out]
    have hW := HV.out.go (F5.out.trans fp)
    obtain ⟨x0, x1, x2, x3, c0, c1, c2, c3⟩ := hW.c
    have ff := hW.f
    obtain ⟨n0, n1, n2, n3⟩ := hW.n
    by_cases h128 : c < 128
    · obtain rfl := hpl h128
      go_wp2_with fail
      exact bodyPost_ret (results_vars rfl _ hW _ _ _ _ rfl) rfl ⟨by rw [HN.out]; simp only [refV, tkV]; rw [← HX.out]; rfl, fr_vars hW _ _ _ _⟩
    · go_wp2_with fail
      exact bodyPost_ret (results_vars rfl _ hW _ _ _ _ rfl) rfl ⟨by rw [HN.out]; simp only [refV, tkV]; rw [← HX.out]; rfl, fr_vars hW _ _ _ _⟩
  · have q1 := bt_at s 1 h1
    have hC1 : (bt s 1 == 43) = false := by simpa using hb1
    have hC2 : (bt s 1 == 45) = false := by simpa using hb2
    have hB1 : (bt s 0 == 69) = false := by simp [hb]
    have hB2 : (bt s 0 == 101) = true := by simp [hb]
    clear hb
    generalize bt s 0 = c at *
    generalize lowB c = lc at *
    go_enter Tryd.func18, Tryd.ntmps18
    go_upto_region 2 with fail
    generalize (w.alloc _).alloc _ = V at *
    have HV := hide hV
    clear hV
    go_wp2_with fail
    refine wp_loop_rounds 7 ?_
    repeat any_goals (rw [rounds_succ]; go_wp2_with fail)
    refine (HB1.out _).mono ?_
    rintro e wb1 ⟨rfl, fb1⟩
    rw [D1.out]
    go_wp2_with fail
    refine (HB2.out _).mono ?_
    rintro e wb2 ⟨rfl, fb2⟩
    rw [D2.out]
    go_wp2_with fail
    refine (HB3.out _).mono ?_
    rintro e wb3 ⟨rfl, fb3⟩
    rw [D3.out]
    have F3 := hide (fb1.trans (fb2.trans fb3))
    clear fb1 fb2 fb3
    go_wp2_with fail
    refine (HLOW.out _).mono ?_
    rintro e wl ⟨rfl, fl⟩
    go_wp2_with fail
    refine (HDA.out _).mono ?_
    rintro e wd ⟨rfl, fd⟩
    rw [D4.out]
    have F4 := hide (F3.out.trans (fl.trans fd))
    clear F3 fl fd
    go_wp2_with fail
    refine (HF.out _).mono ?_
    rintro e wf ⟨rfl, ff0⟩
    rw [HR.out]
    have F5 := hide (F4.out.trans ff0)
    clear F4 ff0
    go_wp2_with fail
    refine Calls.mono (HPL.out wf) ?_
    rintro e wp ⟨rfl, fp⟩
    rw [D5.out]
    have hW := HV.out.go (F5.out.trans fp)
    obtain ⟨x0, x1, x2, x3, c0, c1, c2, c3⟩ := hW.c
    have ff := hW.f
    obtain ⟨n0, n1, n2, n3⟩ := hW.n
    by_cases h128 : c < 128
    · obtain rfl := hpl h128
      go_wp2_with fail
      exact bodyPost_ret (results_vars rfl _ hW _ _ _ _ rfl) rfl ⟨by rw [HN.out]; simp only [refV, tkV]; rw [← HX.out]; rfl, fr_vars hW _ _ _ _⟩
    · go_wp2_with fail
      exact bodyPost_ret (results_vars rfl _ hW _ _ _ _ rfl) rfl ⟨by rw [HN.out]; simp only [refV, tkV]; rw [← HX.out]; rfl, fr_vars hW _ _ _ _⟩

end Go.Proofs.YtaokmegoheofjaaDoor
