/- The document's First, continued. -/
import Derived.Test.YtaokmegoheofjaaDoorTok2
namespace Go.Proofs.YtaokmegoheofjaaDoor
set_option linter.unusedVariables false
set_option linter.unusedSimpArgs false
open Go.RowKit

set_option maxHeartbeats 4000000 in
set_option maxRecDepth 4000 in
theorem ref_date (s : ByteArray) (w : World) (hs : s.size ≤ 10000) (h0 : 0 < s.size) (hk : kindB (bt s 0) = 0 ∨ kindB (bt s 0) = 13 ∨ kindB (bt s 0) = 14 ∨ kindB (bt s 0) = 15 ∨ kindB (bt s 0) = 16 ∨ kindB (bt s 0) = 17) (hpw : s.size = 1 ∨ (bt s 0 ≠ 69 ∧ bt s 0 ≠ 101)) (p1 : ¬ preL amW (ints s)) (p2 : ¬ preL apW (ints s)) (p3 : ¬ preL genW (ints s)) (hd : lowB (bt s 0) ∈ dates) (hans : nextN (ints s) = .ok 14 [lowB (bt s 0)] (same (lowB (bt s 0)) (ints s)).length (same (lowB (bt s 0)) (ints s)).length) :
    Calls Tryd.prog 18 #[.string s] w fun e w' => e = .returned (refV (nextN (ints s))) ∧ Fr w w' := by
  have hmx : s.size ≤ maxLen := by unfold maxLen; omega
  have q0 := bt_at s 0 h0
  have r0 := bt_range s 0 h0
  have hV := Vars.new w 42
  obtain ⟨m1, m2, m3, m4, m5, m6, m7, m8, m9, m10, m11, m12, m13, m14⟩ := kind_get (p := fun c => (kindB c = 0 ∨ kindB c = 13 ∨ kindB c = 14 ∨ kindB c = 15 ∨ kindB c = 16 ∨ kindB c = 17) → c ≠ 34 ∧ c ≠ 92 ∧ c ≠ 95 ∧ c ≠ 42 ∧ c ≠ 91 ∧ c ≠ 48 ∧ c ≠ 35 ∧ c ≠ 63 ∧ c ≠ 46 ∧ c ≠ 44 ∧ c ≠ 37 ∧ c ≠ 47 ∧ c ≠ 59 ∧ c ≠ 64) kind_not r0.1 r0.2 (by omega)
  have e1 : (bt s 0 == 34) = false := by simpa using m1
  have e2 : (bt s 0 == 92) = false := by simpa using m2
  have e3 : (bt s 0 == 95) = false := by simpa using m3
  have e4 : (bt s 0 == 42) = false := by simpa using m4
  have e5 : (bt s 0 == 91) = false := by simpa using m5
  have e6 : (bt s 0 == 48) = false := by simpa using m6
  have e7 : (bt s 0 == 35) = false := by simpa using m7
  have e8 : (bt s 0 == 63) = false := by simpa using m8
  have e9 : ((46 : Int) == bt s 0) = false := by simp only [beq_eq_false_iff_ne]; omega
  have e10 : ((44 : Int) == bt s 0) = false := by simp only [beq_eq_false_iff_ne]; omega
  have e11 : ((37 : Int) == bt s 0) = false := by simp only [beq_eq_false_iff_ne]; omega
  have e12 : ((47 : Int) == bt s 0) = false := by simp only [beq_eq_false_iff_ne]; omega
  have e13 : ((59 : Int) == bt s 0) = false := by simp only [beq_eq_false_iff_ne]; omega
  have e14 : ((64 : Int) == bt s 0) = false := by simp only [beq_eq_false_iff_ne]; omega
  clear m1 m2 m3 m4 m5 m6 m7 m8 m9 m10 m11 m12 m13 m14
  have t0 : (((⟨#[46, 44, 37, 47, 59, 64]⟩ : ByteArray)[0]'(by decide)).toNat : Int) = 46 := by rfl
  have t1 : (((⟨#[46, 44, 37, 47, 59, 64]⟩ : ByteArray)[1]'(by decide)).toNat : Int) = 44 := by rfl
  have t2 : (((⟨#[46, 44, 37, 47, 59, 64]⟩ : ByteArray)[2]'(by decide)).toNat : Int) = 37 := by rfl
  have t3 : (((⟨#[46, 44, 37, 47, 59, 64]⟩ : ByteArray)[3]'(by decide)).toNat : Int) = 47 := by rfl
  have t4 : (((⟨#[46, 44, 37, 47, 59, 64]⟩ : ByteArray)[4]'(by decide)).toNat : Int) = 59 := by rfl
  have t5 : (((⟨#[46, 44, 37, 47, 59, 64]⟩ : ByteArray)[5]'(by decide)).toNat : Int) = 64 := by rfl
  have HB := hide (fun d (hd : d.size ≤ 100) w => refBegins_any s d w hs hd)
  have HB1 := hide (fun w => HB.out ⟨#[97, 109, 47, 112, 109]⟩ (by decide) w)
  have HB2 := hide (fun w => HB.out ⟨#[97, 47, 112]⟩ (by decide) w)
  have HB3 := hide (fun w => HB.out ⟨#[103, 101, 110, 101, 114, 97, 108]⟩ (by decide) w)
  rw [ints_am] at HB1
  rw [ints_ap] at HB2
  rw [ints_gen] at HB3
  clear HB
  have HLOW : Hid (∀ w, Calls Tryd.prog 38 #[.string s] w fun e w' => e = .returned (.string (lowS s)) ∧ Fr w w') := hide (fun w => low_any s w hs)
  have hlz := lowS_size s
  have ql0 := bt_at (lowS s) 0 (by rw [lowS_size]; exact h0)
  rw [lowS_bt s 0 h0] at ql0
  have rl := low_range r0.1 r0.2
  have HDA := hide (fun w => refHas_any ⟨#[121, 109, 100, 104, 115]⟩ (lowB (bt s 0)) w (by decide) rl.1 rl.2)
  rw [ints_dates] at HDA
  have D1 := hide (decide_eq_false p1)
  have D2 := hide (decide_eq_false p2)
  have D3 := hide (decide_eq_false p3)
  have D4 := hide (decide_eq_true hd)
  obtain ⟨F1, F2, F3⟩ := same_facts (lowB (bt s 0)) (ints s)
  have g0 : 1 ≤ (same (lowB (bt s 0)) (ints s)).length := by
    have := tail_bt s h0
    rw [this]
    unfold same
    rw [List.takeWhile_cons, if_pos (by simp)]
    simp
  rw [ints_length] at F3
  have HB : Hid (∀ j, j < s.size → j < (same (lowB (bt s 0)) (ints s)).length → lowB (bt s j) = lowB (bt s 0)) := by
    refine hide fun j h hj => ?_
    obtain ⟨b, h1, h2⟩ := F1 j hj
    rw [bt_get s j h] at h1
    cases h1
    exact h2
  have HE : Hid ((same (lowB (bt s 0)) (ints s)).length < s.size → lowB (bt s (same (lowB (bt s 0)) (ints s)).length) ≠ lowB (bt s 0)) := hide (fun h => F2 _ (bt_get s _ h))
  have HQ : Hid (∀ j (h : j < (lowS s).size), ((lowS s)[j].toNat : Int) = lowB (bt s j)) := hide (fun j h => by rw [bt_at (lowS s) j h, lowS_bt s j (by rw [lowS_size] at h; exact h)])
  have HQ0 := hide ql0
  have HX1 := hide (str_one (lowS s) 0 (by rw [lowS_size]; exact h0))
  rw [lowS_bt s 0 h0] at HX1
  have HN := hide hans
  generalize (same (lowB (bt s 0)) (ints s)).length = N at *
  have hl1 : 1 ≤ (lowS s).size := by omega
  clear hk p1 p2 p3 hd hans F1 F2 ql0
  by_cases hA1 : s.size = 1
  · have hA : ¬ ((1 : Int) < (s.size : Int)) := by omega
    generalize hlc : lowB (bt s 0) = lc at *
    generalize bt s 0 = c at *
    clear hA1
    have ql0 := HQ0.out
    go_enter Tryd.func18, Tryd.ntmps18
    go_upto_region 2 with fail
    generalize (w.alloc _).alloc _ = V at *
    have HV := hide hV
    clear hV
    go_wp2_with fail
    refine wp_loop_rounds 7 ?_
    repeat any_goals (rw [rounds_succ]; go_wp2_with fail)
    refine (HB1.out _).mono ?_
    rintro e wb1 ⟨rfl, fb1⟩
    rw [D1.out]
    go_wp2_with fail
    refine (HB2.out _).mono ?_
    rintro e wb2 ⟨rfl, fb2⟩
    rw [D2.out]
    go_wp2_with fail
    refine (HB3.out _).mono ?_
    rintro e wb3 ⟨rfl, fb3⟩
    rw [D3.out]
    have F3 := hide (fb1.trans (fb2.trans fb3))
    clear fb1 fb2 fb3
    go_wp2_with fail
    refine (HLOW.out _).mono ?_
    rintro e wl ⟨rfl, fl⟩
    go_wp2_with fail
    refine (HDA.out _).mono ?_
    rintro e wd ⟨rfl, fd⟩
    rw [D4.out]
    have F4 := hide (F3.out.trans (fl.trans fd))
    clear F3 fl fd
    have hW := HV.out.go F4.out
    obtain ⟨x0, x1, x2, x3, c0, c1, c2, c3⟩ := hW.c
    have ff := hW.f
    obtain ⟨n0, n1, n2, n3⟩ := hW.n
    go_wp2_with fail
    clear ql0
    go_loopw [13] (fun i wr => ∃ k : Nat, k ≤ N ∧ i = .int .i64 k ∧ Hid (Fr wd wr)) (fun i _ => N - (intOf i).toNat)
    case atStart => exact ⟨0, by omega, rfl, Fr.refl _⟩
    case round =>
      obtain ⟨k, hk, rfl, HF⟩ := hrel
      have ql0 := HQ0.out
      by_cases hlt : k < N
      · have hks : k < s.size := by omega
        have hkl : k < (lowS s).size := by omega
        have qk := HQ.out k hkl
        rw [HB.out k hks hlt] at qk
        have hksI : (k : Int) < (s.size : Int) := by omega
        have hdk : decide ((k : Int) < (s.size : Int)) = true := decide_eq_true (by omega)
        have hdn : decide (k < s.size) = true := decide_eq_true (by omega)
        have hdm : decide (k < (lowS s).size) = true := decide_eq_true (by omega)
        have hdl : decide ((k : Int) < ((lowS s).size : Int)) = true := decide_eq_true (by omega)
        have hkl' : (k : Int) < ((lowS s).size : Int) := by omega
        go_wp2_with fail
        go_quiet (fail)
        go_wp2_with fail
        go_roundw
        case rel => exact ⟨k + 1, by omega, by go_num, hide (HF.out.trans (Fr.drewN _ _))⟩
        case measure => simp [intOf]; omega
      · have hkN : k = N := by omega
        subst hkN
        by_cases hks : k < s.size
        · try (exfalso; omega)
          all_goals (
            have hkl : k < (lowS s).size := by omega
            have qk := HQ.out k hkl
            have hne := HE.out hks
            have heb : (lowB (bt s k) == lc) = false := by simpa using hne
            generalize lowB (bt s k) = y at *
            have hksI : (k : Int) < (s.size : Int) := by omega
            have hdk : decide ((k : Int) < (s.size : Int)) = true := decide_eq_true (by omega)
            have hdn : decide (k < s.size) = true := decide_eq_true (by omega)
            have hdm : decide (k < (lowS s).size) = true := decide_eq_true (by omega)
            have hdl : decide ((k : Int) < ((lowS s).size : Int)) = true := decide_eq_true (by omega)
            have hkl' : (k : Int) < ((lowS s).size : Int) := by omega
            go_wp2_with fail
            go_quiet (fail)
            have hX := hW.go (HF.out.trans (Fr.drewN _ nq))
            obtain ⟨y0, y1, y2, y3, z0, z1, z2, z3⟩ := hX.c
            have fg := hX.f
            go_wp2_with fail
            exact bodyPost_ret (results_vars rfl _ hX _ _ _ _ rfl) rfl ⟨by rw [HN.out]; simp only [refV, tkV]; rw [← HX1.out]; rfl, fr_vars hX _ _ _ _⟩)
        · have hdk : decide ((k : Int) < (s.size : Int)) = false := decide_eq_false (by omega)
          have hdn : decide (k < s.size) = false := decide_eq_false (by omega)
          have hdm : decide (k < (lowS s).size) = false := decide_eq_false (by omega)
          have hdl : decide ((k : Int) < ((lowS s).size : Int)) = false := decide_eq_false (by omega)
          go_wp2_with fail
          go_quiet (fail)
          have hX := hW.go (HF.out.trans (Fr.drewN _ nq))
          obtain ⟨y0, y1, y2, y3, z0, z1, z2, z3⟩ := hX.c
          have fg := hX.f
          go_wp2_with fail
          exact bodyPost_ret (results_vars rfl _ hX _ _ _ _ rfl) rfl ⟨by rw [HN.out]; simp only [refV, tkV]; rw [← HX1.out]; rfl, fr_vars hX _ _ _ _⟩
  have h1 : 1 < s.size := by omega
  have h1i : (1 : Int) < (s.size : Int) := by omega
  rcases hpw with hA2 | ⟨hb1, hb2⟩
  · exact absurd hA2 hA1
  · have hB1 : (bt s 0 == 69) = false := by simpa using hb1
    have hB2 : (bt s 0 == 101) = false := by simpa using hb2
    generalize hlc : lowB (bt s 0) = lc at *
    generalize bt s 0 = c at *
    clear hA1
    have ql0 := HQ0.out
    go_enter Tryd.func18, Tryd.ntmps18
    go_upto_region 2 with fail
    generalize (w.alloc _).alloc _ = V at *
    have HV := hide hV
    clear hV
    go_wp2_with fail
    refine wp_loop_rounds 7 ?_
    repeat any_goals (rw [rounds_succ]; go_wp2_with fail)
    refine (HB1.out _).mono ?_
    rintro e wb1 ⟨rfl, fb1⟩
    rw [D1.out]
    go_wp2_with fail
    refine (HB2.out _).mono ?_
    rintro e wb2 ⟨rfl, fb2⟩
    rw [D2.out]
    go_wp2_with fail
    refine (HB3.out _).mono ?_
    rintro e wb3 ⟨rfl, fb3⟩
    rw [D3.out]
    have F3 := hide (fb1.trans (fb2.trans fb3))
    clear fb1 fb2 fb3
    go_wp2_with fail
    refine (HLOW.out _).mono ?_
    rintro e wl ⟨rfl, fl⟩
    go_wp2_with fail
    refine (HDA.out _).mono ?_
    rintro e wd ⟨rfl, fd⟩
    rw [D4.out]
    have F4 := hide (F3.out.trans (fl.trans fd))
    clear F3 fl fd
    have hW := HV.out.go F4.out
    obtain ⟨x0, x1, x2, x3, c0, c1, c2, c3⟩ := hW.c
    have ff := hW.f
    obtain ⟨n0, n1, n2, n3⟩ := hW.n
    go_wp2_with fail
    clear ql0
    go_loopw [13] (fun i wr => ∃ k : Nat, k ≤ N ∧ i = .int .i64 k ∧ Hid (Fr wd wr)) (fun i _ => N - (intOf i).toNat)
    case atStart => exact ⟨0, by omega, rfl, Fr.refl _⟩
    case round =>
      obtain ⟨k, hk, rfl, HF⟩ := hrel
      have ql0 := HQ0.out
      by_cases hlt : k < N
      · have hks : k < s.size := by omega
        have hkl : k < (lowS s).size := by omega
        have qk := HQ.out k hkl
        rw [HB.out k hks hlt] at qk
        have hksI : (k : Int) < (s.size : Int) := by omega
        have hdk : decide ((k : Int) < (s.size : Int)) = true := decide_eq_true (by omega)
        have hdn : decide (k < s.size) = true := decide_eq_true (by omega)
        have hdm : decide (k < (lowS s).size) = true := decide_eq_true (by omega)
        have hdl : decide ((k : Int) < ((lowS s).size : Int)) = true := decide_eq_true (by omega)
        have hkl' : (k : Int) < ((lowS s).size : Int) := by omega
        go_wp2_with fail
        go_quiet (fail)
        go_wp2_with fail
        go_roundw
        case rel => exact ⟨k + 1, by omega, by go_num, hide (HF.out.trans (Fr.drewN _ _))⟩
        case measure => simp [intOf]; omega
      · have hkN : k = N := by omega
        subst hkN
        by_cases hks : k < s.size
        · try (exfalso; omega)
          all_goals (
            have hkl : k < (lowS s).size := by omega
            have qk := HQ.out k hkl
            have hne := HE.out hks
            have heb : (lowB (bt s k) == lc) = false := by simpa using hne
            generalize lowB (bt s k) = y at *
            have hksI : (k : Int) < (s.size : Int) := by omega
            have hdk : decide ((k : Int) < (s.size : Int)) = true := decide_eq_true (by omega)
            have hdn : decide (k < s.size) = true := decide_eq_true (by omega)
            have hdm : decide (k < (lowS s).size) = true := decide_eq_true (by omega)
            have hdl : decide ((k : Int) < ((lowS s).size : Int)) = true := decide_eq_true (by omega)
            have hkl' : (k : Int) < ((lowS s).size : Int) := by omega
            go_wp2_with fail
            go_quiet (fail)
            have hX := hW.go (HF.out.trans (Fr.drewN _ nq))
            obtain ⟨y0, y1, y2, y3, z0, z1, z2, z3⟩ := hX.c
            have fg := hX.f
            go_wp2_with fail
            exact bodyPost_ret (results_vars rfl _ hX _ _ _ _ rfl) rfl ⟨by rw [HN.out]; simp only [refV, tkV]; rw [← HX1.out]; rfl, fr_vars hX _ _ _ _⟩)
        · have hdk : decide ((k : Int) < (s.size : Int)) = false := decide_eq_false (by omega)
          have hdn : decide (k < s.size) = false := decide_eq_false (by omega)
          have hdm : decide (k < (lowS s).size) = false := decide_eq_false (by omega)
          have hdl : decide ((k : Int) < ((lowS s).size : Int)) = false := decide_eq_false (by omega)
          go_wp2_with fail
          go_quiet (fail)
          have hX := hW.go (HF.out.trans (Fr.drewN _ nq))
          obtain ⟨y0, y1, y2, y3, z0, z1, z2, z3⟩ := hX.c
          have fg := hX.f
          go_wp2_with fail
          exact bodyPost_ret (results_vars rfl _ hX _ _ _ _ rfl) rfl ⟨by rw [HN.out]; simp only [refV, tkV]; rw [← HX1.out]; rfl, fr_vars hX _ _ _ _⟩

end Go.Proofs.YtaokmegoheofjaaDoor