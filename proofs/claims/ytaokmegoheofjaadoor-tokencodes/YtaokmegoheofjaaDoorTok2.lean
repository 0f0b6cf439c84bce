/- The document's First: words, dates, signs above 7F, and what begins no token. -/
import Derived.Test.YtaokmegoheofjaaDoorTok1
namespace Go.Proofs.YtaokmegoheofjaaDoor
set_option linter.unusedVariables false
set_option linter.unusedSimpArgs false
open Go.RowKit

/-- What is told where none of the words stands, no Power and no Date. -/
theorem ints_am : ints (⟨#[97, 109, 47, 112, 109]⟩ : ByteArray) = amW := rfl
theorem ints_ap : ints (⟨#[97, 47, 112]⟩ : ByteArray) = apW := rfl
theorem ints_gen : ints (⟨#[103, 101, 110, 101, 114, 97, 108]⟩ : ByteArray) = genW := rfl
theorem ints_dates : ints (⟨#[121, 109, 100, 104, 115]⟩ : ByteArray) = dates := rfl
theorem ints_plain : ints (⟨#[36, 45, 43, 40, 41, 58, 33, 94, 38, 39, 126, 123, 125, 60, 62, 61, 32, 49, 50, 51, 52, 53, 54, 55, 56, 57]⟩ : ByteArray) = plainB := rfl

theorem pre_head {w : List Int} {x : Int} {l : List Int} {c : Int} {r : List Int} (hl : l = c :: r) (h : preL (x :: w) l) : lowB c = x := by
  subst hl
  unfold preL at h
  simp at h
  exact h.1

theorem low_head (s : ByteArray) (h0 : 0 < s.size) : (ints s).map lowB = lowB (bt s 0) :: ((ints s).drop 1).map lowB := by
  conv => lhs; rw [tail_bt s h0]
  rfl

/-- A text's bytes, letters small. -/
def lowS (s : ByteArray) : ByteArray := strOfNums ((ints s).map lowB)
theorem lowS_ints (s : ByteArray) : ints (lowS s) = (ints s).map lowB := ints_nums _ (fun x hx => by
  obtain ⟨y, hy, rfl⟩ := List.mem_map.1 hx
  have := ints_range s y hy
  exact low_range this.1 this.2)
theorem lowS_size (s : ByteArray) : (lowS s).size = s.size := by
  rw [← ints_length, lowS_ints, List.length_map, ints_length]
theorem lowS_bt (s : ByteArray) (k : Nat) (h : k < s.size) : bt (lowS s) k = lowB (bt s k) := by
  unfold bt
  rw [lowS_ints, List.getElem?_map, bt_get s k h]
  rfl


set_option maxHeartbeats 4000000 in
set_option maxRecDepth 4000 in
theorem ref_power (s : ByteArray) (w : World) (hs : s.size ≤ 10000) (h0 : 0 < s.size) (hk : kindB (bt s 0) = 13) (h1 : 1 < s.size) (hp : bt s 1 = 43 ∨ bt s 1 = 45) :
    Calls Tryd.prog 18 #[.string s] w fun e w' => e = .returned (refV (nextN (ints s))) ∧ Fr w w' := by
  have hmx : s.size ≤ maxLen := by unfold maxLen; omega
  have q0 := bt_at s 0 h0
  have r0 := bt_range s 0 h0
  have hV := Vars.new w 42
  obtain ⟨m1, m2, m3, m4, m5, m6, m7, m8, m9, m10, m11, m12, m13, m14⟩ := kind_get (p := fun c => (kindB c = 0 ∨ kindB c = 13 ∨ kindB c = 14 ∨ kindB c = 15 ∨ kindB c = 16 ∨ kindB c = 17) → c ≠ 34 ∧ c ≠ 92 ∧ c ≠ 95 ∧ c ≠ 42 ∧ c ≠ 91 ∧ c ≠ 48 ∧ c ≠ 35 ∧ c ≠ 63 ∧ c ≠ 46 ∧ c ≠ 44 ∧ c ≠ 37 ∧ c ≠ 47 ∧ c ≠ 59 ∧ c ≠ 64) kind_not r0.1 r0.2 (by omega)
  have hN : nextN (ints s) = .ok 13 [bt s 1] 1 2 := by
    rw [tail_bt s h0]
    simp only [nextN, hk]
    rw [drop_bt s 1 h1]
    simp [powerN, hp]
  have HN := hide hN
  have HX := hide (str_one s 1 h1)
  have q1 := bt_at s 1 h1
  have hb := kind_get (p := fun c => kindB c = 13 → c = 69 ∨ c = 101) (fun c => (kind_back c).2.2.2.2.2.2.2.1) r0.1 r0.2 hk
  clear hN hk
  have e1 : (bt s 0 == 34) = false := by simpa using m1
  have e2 : (bt s 0 == 92) = false := by simpa using m2
  have e3 : (bt s 0 == 95) = false := by simpa using m3
  have e4 : (bt s 0 == 42) = false := by simpa using m4
  have e5 : (bt s 0 == 91) = false := by simpa using m5
  have e6 : (bt s 0 == 48) = false := by simpa using m6
  have e7 : (bt s 0 == 35) = false := by simpa using m7
  have e8 : (bt s 0 == 63) = false := by simpa using m8
  have e9 : ((46 : Int) == bt s 0) = false := by simp only [beq_eq_false_iff_ne]; omega
  have e10 : ((44 : Int) == bt s 0) = false := by simp only [beq_eq_false_iff_ne]; omega
  have e11 : ((37 : Int) == bt s 0) = false := by simp only [beq_eq_false_iff_ne]; omega
  have e12 : ((47 : Int) == bt s 0) = false := by simp only [beq_eq_false_iff_ne]; omega
  have e13 : ((59 : Int) == bt s 0) = false := by simp only [beq_eq_false_iff_ne]; omega
  have e14 : ((64 : Int) == bt s 0) = false := by simp only [beq_eq_false_iff_ne]; omega
  clear m1 m2 m3 m4 m5 m6 m7 m8 m9 m10 m11 m12 m13 m14
  have t0 : (((⟨#[46, 44, 37, 47, 59, 64]⟩ : ByteArray)[0]'(by decide)).toNat : Int) = 46 := by rfl
  have t1 : (((⟨#[46, 44, 37, 47, 59, 64]⟩ : ByteArray)[1]'(by decide)).toNat : Int) = 44 := by rfl
  have t2 : (((⟨#[46, 44, 37, 47, 59, 64]⟩ : ByteArray)[2]'(by decide)).toNat : Int) = 37 := by rfl
  have t3 : (((⟨#[46, 44, 37, 47, 59, 64]⟩ : ByteArray)[3]'(by decide)).toNat : Int) = 47 := by rfl
  have t4 : (((⟨#[46, 44, 37, 47, 59, 64]⟩ : ByteArray)[4]'(by decide)).toNat : Int) = 59 := by rfl
  have t5 : (((⟨#[46, 44, 37, 47, 59, 64]⟩ : ByteArray)[5]'(by decide)).toNat : Int) = 64 := by rfl
  rcases hb with hb | hb
  all_goals (
    rcases hp with hp | hp
    all_goals (
      rw [hb] at q0
      rw [hp] at q1 HX HN
      clear hb hp e1 e2 e3 e4 e5 e6 e7 e8 e9 e10 e11 e12 e13 e14 r0
      go_enter Tryd.func18, Tryd.ntmps18
      go_upto_region 2 with fail
      generalize (w.alloc _).alloc _ = V at *
      obtain ⟨x0, x1, x2, x3, c0, c1, c2, c3⟩ := hV.c
      have ff := hV.f
      obtain ⟨n0, n1, n2, n3⟩ := hV.n
      go_wp2_with fail
      refine wp_loop_rounds 7 ?_
      repeat any_goals (rw [rounds_succ]; go_wp2_with fail)
      exact bodyPost_ret (results_vars rfl _ hV _ _ _ _ rfl) rfl ⟨by rw [HN.out]; simp only [refV, tkV]; rw [← HX.out]; rfl, fr_vars hV _ _ _ _⟩)
  )

set_option maxHeartbeats 4000000 in
set_option maxRecDepth 4000 in
theorem ref_am (s : ByteArray) (w : World) (hs : s.size ≤ 10000) (h0 : 0 < s.size) (hk : kindB (bt s 0) = 0 ∨ kindB (bt s 0) = 13 ∨ kindB (bt s 0) = 14 ∨ kindB (bt s 0) = 15 ∨ kindB (bt s 0) = 16 ∨ kindB (bt s 0) = 17) (hpw : s.size = 1 ∨ (bt s 0 ≠ 69 ∧ bt s 0 ≠ 101)) (p1 : preL amW (ints s)) (hans : nextN (ints s) = .ok 15 amT 1 5) :
    Calls Tryd.prog 18 #[.string s] w fun e w' => e = .returned (refV (nextN (ints s))) ∧ Fr w w' := by
  have hmx : s.size ≤ maxLen := by unfold maxLen; omega
  have q0 := bt_at s 0 h0
  have r0 := bt_range s 0 h0
  have hV := Vars.new w 42
  obtain ⟨m1, m2, m3, m4, m5, m6, m7, m8, m9, m10, m11, m12, m13, m14⟩ := kind_get (p := fun c => (kindB c = 0 ∨ kindB c = 13 ∨ kindB c = 14 ∨ kindB c = 15 ∨ kindB c = 16 ∨ kindB c = 17) → c ≠ 34 ∧ c ≠ 92 ∧ c ≠ 95 ∧ c ≠ 42 ∧ c ≠ 91 ∧ c ≠ 48 ∧ c ≠ 35 ∧ c ≠ 63 ∧ c ≠ 46 ∧ c ≠ 44 ∧ c ≠ 37 ∧ c ≠ 47 ∧ c ≠ 59 ∧ c ≠ 64) kind_not r0.1 r0.2 (by omega)
  have e1 : (bt s 0 == 34) = false := by simpa using m1
  have e2 : (bt s 0 == 92) = false := by simpa using m2
  have e3 : (bt s 0 == 95) = false := by simpa using m3
  have e4 : (bt s 0 == 42) = false := by simpa using m4
  have e5 : (bt s 0 == 91) = false := by simpa using m5
  have e6 : (bt s 0 == 48) = false := by simpa using m6
  have e7 : (bt s 0 == 35) = false := by simpa using m7
  have e8 : (bt s 0 == 63) = false := by simpa using m8
  have e9 : ((46 : Int) == bt s 0) = false := by simp only [beq_eq_false_iff_ne]; omega
  have e10 : ((44 : Int) == bt s 0) = false := by simp only [beq_eq_false_iff_ne]; omega
  have e11 : ((37 : Int) == bt s 0) = false := by simp only [beq_eq_false_iff_ne]; omega
  have e12 : ((47 : Int) == bt s 0) = false := by simp only [beq_eq_false_iff_ne]; omega
  have e13 : ((59 : Int) == bt s 0) = false := by simp only [beq_eq_false_iff_ne]; omega
  have e14 : ((64 : Int) == bt s 0) = false := by simp only [beq_eq_false_iff_ne]; omega
  clear m1 m2 m3 m4 m5 m6 m7 m8 m9 m10 m11 m12 m13 m14
  have t0 : (((⟨#[46, 44, 37, 47, 59, 64]⟩ : ByteArray)[0]'(by decide)).toNat : Int) = 46 := by rfl
  have t1 : (((⟨#[46, 44, 37, 47, 59, 64]⟩ : ByteArray)[1]'(by decide)).toNat : Int) = 44 := by rfl
  have t2 : (((⟨#[46, 44, 37, 47, 59, 64]⟩ : ByteArray)[2]'(by decide)).toNat : Int) = 37 := by rfl
  have t3 : (((⟨#[46, 44, 37, 47, 59, 64]⟩ : ByteArray)[3]'(by decide)).toNat : Int) = 47 := by rfl
  have t4 : (((⟨#[46, 44, 37, 47, 59, 64]⟩ : ByteArray)[4]'(by decide)).toNat : Int) = 59 := by rfl
  have t5 : (((⟨#[46, 44, 37, 47, 59, 64]⟩ : ByteArray)[5]'(by decide)).toNat : Int) = 64 := by rfl
  have HB := hide (fun d (hd : d.size ≤ 100) w => refBegins_any s d w hs hd)
  have HB1 := hide (fun w => HB.out ⟨#[97, 109, 47, 112, 109]⟩ (by decide) w)
  have HB2 := hide (fun w => HB.out ⟨#[97, 47, 112]⟩ (by decide) w)
  have HB3 := hide (fun w => HB.out ⟨#[103, 101, 110, 101, 114, 97, 108]⟩ (by decide) w)
  rw [ints_am] at HB1
  rw [ints_ap] at HB2
  rw [ints_gen] at HB3
  clear HB
  have HN : Hid (nextN (ints s) = .ok 15 amT 1 5) := hide hans
  have HX : Hid (⟨#[65, 77, 47, 80, 77]⟩ = strOfNums amT) := hide (by decide +kernel)
  have D1 := hide (decide_eq_true p1)
  clear hans hk p1
  by_cases hA1 : s.size = 1
  · have hA : ¬ ((1 : Int) < (s.size : Int)) := by omega
    generalize bt s 0 = c at *
    go_enter Tryd.func18, Tryd.ntmps18
    go_upto_region 2 with fail
    generalize (w.alloc _).alloc _ = V at *
    have HV := hide hV
    clear hV
    go_wp2_with fail
    refine wp_loop_rounds 7 ?_
    repeat any_goals (rw [rounds_succ]; go_wp2_with fail)
    refine (HB1.out _).mono ?_
    rintro e wb1 ⟨rfl, fb1⟩
    rw [D1.out]
    have hW := HV.out.go fb1
    obtain ⟨x0, x1, x2, x3, c0, c1, c2, c3⟩ := hW.c
    have ff := hW.f
    obtain ⟨n0, n1, n2, n3⟩ := hW.n
    go_wp2_with fail
    exact bodyPost_ret (results_vars rfl _ hW _ _ _ _ rfl) rfl ⟨by rw [HN.out]; simp only [refV, tkV]; rw [← HX.out]; rfl, fr_vars hW _ _ _ _⟩
  have h1 : 1 < s.size := by omega
  have h1i : (1 : Int) < (s.size : Int) := by omega
  rcases hpw with hA2 | ⟨hb1, hb2⟩
  · exact absurd hA2 hA1
  · have hB1 : (bt s 0 == 69) = false := by simpa using hb1
    have hB2 : (bt s 0 == 101) = false := by simpa using hb2
    generalize bt s 0 = c at *
    go_enter Tryd.func18, Tryd.ntmps18
    go_upto_region 2 with fail
    generalize (w.alloc _).alloc _ = V at *
    have HV := hide hV
    clear hV
    go_wp2_with fail
    refine wp_loop_rounds 7 ?_
    repeat any_goals (rw [rounds_succ]; go_wp2_with fail)
    refine (HB1.out _).mono ?_
    rintro e wb1 ⟨rfl, fb1⟩
    rw [D1.out]
    have hW := HV.out.go fb1
    obtain ⟨x0, x1, x2, x3, c0, c1, c2, c3⟩ := hW.c
    have ff := hW.f
    obtain ⟨n0, n1, n2, n3⟩ := hW.n
    go_wp2_with fail
    exact bodyPost_ret (results_vars rfl _ hW _ _ _ _ rfl) rfl ⟨by rw [HN.out]; simp only [refV, tkV]; rw [← HX.out]; rfl, fr_vars hW _ _ _ _⟩

set_option maxHeartbeats 4000000 in
set_option maxRecDepth 4000 in
theorem ref_ap (s : ByteArray) (w : World) (hs : s.size ≤ 10000) (h0 : 0 < s.size) (hk : kindB (bt s 0) = 0 ∨ kindB (bt s 0) = 13 ∨ kindB (bt s 0) = 14 ∨ kindB (bt s 0) = 15 ∨ kindB (bt s 0) = 16 ∨ kindB (bt s 0) = 17) (hpw : s.size = 1 ∨ (bt s 0 ≠ 69 ∧ bt s 0 ≠ 101)) (p1 : ¬ preL amW (ints s)) (p2 : preL apW (ints s)) (hans : nextN (ints s) = .ok 15 apT 1 3) :
    Calls Tryd.prog 18 #[.string s] w fun e w' => e = .returned (refV (nextN (ints s))) ∧ Fr w w' := by
  have hmx : s.size ≤ maxLen := by unfold maxLen; omega
  have q0 := bt_at s 0 h0
  have r0 := bt_range s 0 h0
  have hV := Vars.new w 42
  obtain ⟨m1, m2, m3, m4, m5, m6, m7, m8, m9, m10, m11, m12, m13, m14⟩ := kind_get (p := fun c => (kindB c = 0 ∨ kindB c = 13 ∨ kindB c = 14 ∨ kindB c = 15 ∨ kindB c = 16 ∨ kindB c = 17) → c ≠ 34 ∧ c ≠ 92 ∧ c ≠ 95 ∧ c ≠ 42 ∧ c ≠ 91 ∧ c ≠ 48 ∧ c ≠ 35 ∧ c ≠ 63 ∧ c ≠ 46 ∧ c ≠ 44 ∧ c ≠ 37 ∧ c ≠ 47 ∧ c ≠ 59 ∧ c ≠ 64) kind_not r0.1 r0.2 (by omega)
  have e1 : (bt s 0 == 34) = false := by simpa using m1
  have e2 : (bt s 0 == 92) = false := by simpa using m2
  have e3 : (bt s 0 == 95) = false := by simpa using m3
  have e4 : (bt s 0 == 42) = false := by simpa using m4
  have e5 : (bt s 0 == 91) = false := by simpa using m5
  have e6 : (bt s 0 == 48) = false := by simpa using m6
  have e7 : (bt s 0 == 35) = false := by simpa using m7
  have e8 : (bt s 0 == 63) = false := by simpa using m8
  have e9 : ((46 : Int) == bt s 0) = false := by simp only [beq_eq_false_iff_ne]; omega
  have e10 : ((44 : Int) == bt s 0) = false := by simp only [beq_eq_false_iff_ne]; omega
  have e11 : ((37 : Int) == bt s 0) = false := by simp only [beq_eq_false_iff_ne]; omega
  have e12 : ((47 : Int) == bt s 0) = false := by simp only [beq_eq_false_iff_ne]; omega
  have e13 : ((59 : Int) == bt s 0) = false := by simp only [beq_eq_false_iff_ne]; omega
  have e14 : ((64 : Int) == bt s 0) = false := by simp only [beq_eq_false_iff_ne]; omega
  clear m1 m2 m3 m4 m5 m6 m7 m8 m9 m10 m11 m12 m13 m14
  have t0 : (((⟨#[46, 44, 37, 47, 59, 64]⟩ : ByteArray)[0]'(by decide)).toNat : Int) = 46 := by rfl
  have t1 : (((⟨#[46, 44, 37, 47, 59, 64]⟩ : ByteArray)[1]'(by decide)).toNat : Int) = 44 := by rfl
  have t2 : (((⟨#[46, 44, 37, 47, 59, 64]⟩ : ByteArray)[2]'(by decide)).toNat : Int) = 37 := by rfl
  have t3 : (((⟨#[46, 44, 37, 47, 59, 64]⟩ : ByteArray)[3]'(by decide)).toNat : Int) = 47 := by rfl
  have t4 : (((⟨#[46, 44, 37, 47, 59, 64]⟩ : ByteArray)[4]'(by decide)).toNat : Int) = 59 := by rfl
  have t5 : (((⟨#[46, 44, 37, 47, 59, 64]⟩ : ByteArray)[5]'(by decide)).toNat : Int) = 64 := by rfl
  have HB := hide (fun d (hd : d.size ≤ 100) w => refBegins_any s d w hs hd)
  have HB1 := hide (fun w => HB.out ⟨#[97, 109, 47, 112, 109]⟩ (by decide) w)
  have HB2 := hide (fun w => HB.out ⟨#[97, 47, 112]⟩ (by decide) w)
  have HB3 := hide (fun w => HB.out ⟨#[103, 101, 110, 101, 114, 97, 108]⟩ (by decide) w)
  rw [ints_am] at HB1
  rw [ints_ap] at HB2
  rw [ints_gen] at HB3
  clear HB
  have HN : Hid (nextN (ints s) = .ok 15 apT 1 3) := hide hans
  have HX : Hid (⟨#[65, 47, 80]⟩ = strOfNums apT) := hide (by decide +kernel)
  have D1 := hide (decide_eq_false p1)
  have D2 := hide (decide_eq_true p2)
  clear hans hk p1 p2
  by_cases hA1 : s.size = 1
  · have hA : ¬ ((1 : Int) < (s.size : Int)) := by omega
    generalize bt s 0 = c at *
    go_enter Tryd.func18, Tryd.ntmps18
    go_upto_region 2 with fail
    generalize (w.alloc _).alloc _ = V at *
    have HV := hide hV
    clear hV
    go_wp2_with fail
    refine wp_loop_rounds 7 ?_
    repeat any_goals (rw [rounds_succ]; go_wp2_with fail)
    refine (HB1.out _).mono ?_
    rintro e wb1 ⟨rfl, fb1⟩
    rw [D1.out]
    go_wp2_with fail
    refine (HB2.out _).mono ?_
    rintro e wb2 ⟨rfl, fb2⟩
    rw [D2.out]
    have hW := HV.out.go (fb1.trans fb2)
    obtain ⟨x0, x1, x2, x3, c0, c1, c2, c3⟩ := hW.c
    have ff := hW.f
    obtain ⟨n0, n1, n2, n3⟩ := hW.n
    go_wp2_with fail
    exact bodyPost_ret (results_vars rfl _ hW _ _ _ _ rfl) rfl ⟨by rw [HN.out]; simp only [refV, tkV]; rw [← HX.out]; rfl, fr_vars hW _ _ _ _⟩
  have h1 : 1 < s.size := by omega
  have h1i : (1 : Int) < (s.size : Int) := by omega
  rcases hpw with hA2 | ⟨hb1, hb2⟩
  · exact absurd hA2 hA1
  · have hB1 : (bt s 0 == 69) = false := by simpa using hb1
    have hB2 : (bt s 0 == 101) = false := by simpa using hb2
    generalize bt s 0 = c at *
    go_enter Tryd.func18, Tryd.ntmps18
    go_upto_region 2 with fail
    generalize (w.alloc _).alloc _ = V at *
    have HV := hide hV
    clear hV
    go_wp2_with fail
    refine wp_loop_rounds 7 ?_
    repeat any_goals (rw [rounds_succ]; go_wp2_with fail)
    refine (HB1.out _).mono ?_
    rintro e wb1 ⟨rfl, fb1⟩
    rw [D1.out]
    go_wp2_with fail
    refine (HB2.out _).mono ?_
    rintro e wb2 ⟨rfl, fb2⟩
    rw [D2.out]
    have hW := HV.out.go (fb1.trans fb2)
    obtain ⟨x0, x1, x2, x3, c0, c1, c2, c3⟩ := hW.c
    have ff := hW.f
    obtain ⟨n0, n1, n2, n3⟩ := hW.n
    go_wp2_with fail
    exact bodyPost_ret (results_vars rfl _ hW _ _ _ _ rfl) rfl ⟨by rw [HN.out]; simp only [refV, tkV]; rw [← HX.out]; rfl, fr_vars hW _ _ _ _⟩

set_option maxHeartbeats 4000000 in
set_option maxRecDepth 4000 in
theorem ref_gen (s : ByteArray) (w : World) (hs : s.size ≤ 10000) (h0 : 0 < s.size) (hk : kindB (bt s 0) = 0 ∨ kindB (bt s 0) = 13 ∨ kindB (bt s 0) = 14 ∨ kindB (bt s 0) = 15 ∨ kindB (bt s 0) = 16 ∨ kindB (bt s 0) = 17) (hpw : s.size = 1 ∨ (bt s 0 ≠ 69 ∧ bt s 0 ≠ 101)) (p1 : ¬ preL amW (ints s)) (p2 : ¬ preL apW (ints s)) (p3 : preL genW (ints s)) (hans : nextN (ints s) = .ok 16 genT 1 7) :
    Calls Tryd.prog 18 #[.string s] w fun e w' => e = .returned (refV (nextN (ints s))) ∧ Fr w w' := by
  have hmx : s.size ≤ maxLen := by unfold maxLen; omega
  have q0 := bt_at s 0 h0
  have r0 := bt_range s 0 h0
  have hV := Vars.new w 42
  obtain ⟨m1, m2, m3, m4, m5, m6, m7, m8, m9, m10, m11, m12, m13, m14⟩ := kind_get (p := fun c => (kindB c = 0 ∨ kindB c = 13 ∨ kindB c = 14 ∨ kindB c = 15 ∨ kindB c = 16 ∨ kindB c = 17) → c ≠ 34 ∧ c ≠ 92 ∧ c ≠ 95 ∧ c ≠ 42 ∧ c ≠ 91 ∧ c ≠ 48 ∧ c ≠ 35 ∧ c ≠ 63 ∧ c ≠ 46 ∧ c ≠ 44 ∧ c ≠ 37 ∧ c ≠ 47 ∧ c ≠ 59 ∧ c ≠ 64) kind_not r0.1 r0.2 (by omega)
  have e1 : (bt s 0 == 34) = false := by simpa using m1
  have e2 : (bt s 0 == 92) = false := by simpa using m2
  have e3 : (bt s 0 == 95) = false := by simpa using m3
  have e4 : (bt s 0 == 42) = false := by simpa using m4
  have e5 : (bt s 0 == 91) = false := by simpa using m5
  have e6 : (bt s 0 == 48) = false := by simpa using m6
  have e7 : (bt s 0 == 35) = false := by simpa using m7
  have e8 : (bt s 0 == 63) = false := by simpa using m8
  have e9 : ((46 : Int) == bt s 0) = false := by simp only [beq_eq_false_iff_ne]; omega
  have e10 : ((44 : Int) == bt s 0) = false := by simp only [beq_eq_false_iff_ne]; omega
  have e11 : ((37 : Int) == bt s 0) = false := by simp only [beq_eq_false_iff_ne]; omega
  have e12 : ((47 : Int) == bt s 0) = false := by simp only [beq_eq_false_iff_ne]; omega
  have e13 : ((59 : Int) == bt s 0) = false := by simp only [beq_eq_false_iff_ne]; omega
  have e14 : ((64 : Int) == bt s 0) = false := by simp only [beq_eq_false_iff_ne]; omega
  clear m1 m2 m3 m4 m5 m6 m7 m8 m9 m10 m11 m12 m13 m14
  have t0 : (((⟨#[46, 44, 37, 47, 59, 64]⟩ : ByteArray)[0]'(by decide)).toNat : Int) = 46 := by rfl
  have t1 : (((⟨#[46, 44, 37, 47, 59, 64]⟩ : ByteArray)[1]'(by decide)).toNat : Int) = 44 := by rfl
  have t2 : (((⟨#[46, 44, 37, 47, 59, 64]⟩ : ByteArray)[2]'(by decide)).toNat : Int) = 37 := by rfl
  have t3 : (((⟨#[46, 44, 37, 47, 59, 64]⟩ : ByteArray)[3]'(by decide)).toNat : Int) = 47 := by rfl
  have t4 : (((⟨#[46, 44, 37, 47, 59, 64]⟩ : ByteArray)[4]'(by decide)).toNat : Int) = 59 := by rfl
  have t5 : (((⟨#[46, 44, 37, 47, 59, 64]⟩ : ByteArray)[5]'(by decide)).toNat : Int) = 64 := by rfl
  have HB := hide (fun d (hd : d.size ≤ 100) w => refBegins_any s d w hs hd)
  have HB1 := hide (fun w => HB.out ⟨#[97, 109, 47, 112, 109]⟩ (by decide) w)
  have HB2 := hide (fun w => HB.out ⟨#[97, 47, 112]⟩ (by decide) w)
  have HB3 := hide (fun w => HB.out ⟨#[103, 101, 110, 101, 114, 97, 108]⟩ (by decide) w)
  rw [ints_am] at HB1
  rw [ints_ap] at HB2
  rw [ints_gen] at HB3
  clear HB
  have HN : Hid (nextN (ints s) = .ok 16 genT 1 7) := hide hans
  have HX : Hid (⟨#[71, 101, 110, 101, 114, 97, 108]⟩ = strOfNums genT) := hide (by decide +kernel)
  have D1 := hide (decide_eq_false p1)
  have D2 := hide (decide_eq_false p2)
  have D3 := hide (decide_eq_true p3)
  clear hans hk p1 p2 p3
  by_cases hA1 : s.size = 1
  · have hA : ¬ ((1 : Int) < (s.size : Int)) := by omega
    generalize bt s 0 = c at *
    go_enter Tryd.func18, Tryd.ntmps18
    go_upto_region 2 with fail
    generalize (w.alloc _).alloc _ = V at *
    have HV := hide hV
    clear hV
    go_wp2_with fail
    refine wp_loop_rounds 7 ?_
    repeat any_goals (rw [rounds_succ]; go_wp2_with fail)
    refine (HB1.out _).mono ?_
    rintro e wb1 ⟨rfl, fb1⟩
    rw [D1.out]
    go_wp2_with fail
    refine (HB2.out _).mono ?_
    rintro e wb2 ⟨rfl, fb2⟩
    rw [D2.out]
    go_wp2_with fail
    refine (HB3.out _).mono ?_
    rintro e wb3 ⟨rfl, fb3⟩
    rw [D3.out]
    have hW := HV.out.go ((fb1.trans fb2).trans fb3)
    obtain ⟨x0, x1, x2, x3, c0, c1, c2, c3⟩ := hW.c
    have ff := hW.f
    obtain ⟨n0, n1, n2, n3⟩ := hW.n
    go_wp2_with fail
    exact bodyPost_ret (results_vars rfl _ hW _ _ _ _ rfl) rfl ⟨by rw [HN.out]; simp only [refV, tkV]; rw [← HX.out]; rfl, fr_vars hW _ _ _ _⟩
  have h1 : 1 < s.size := by omega
  have h1i : (1 : Int) < (s.size : Int) := by omega
  rcases hpw with hA2 | ⟨hb1, hb2⟩
  · exact absurd hA2 hA1
  · have hB1 : (bt s 0 == 69) = false := by simpa using hb1
    have hB2 : (bt s 0 == 101) = false := by simpa using hb2
    generalize bt s 0 = c at *
    go_enter Tryd.func18, Tryd.ntmps18
    go_upto_region 2 with fail
    generalize (w.alloc _).alloc _ = V at *
    have HV := hide hV
    clear hV
    go_wp2_with fail
    refine wp_loop_rounds 7 ?_
    repeat any_goals (rw [rounds_succ]; go_wp2_with fail)
    refine (HB1.out _).mono ?_
    rintro e wb1 ⟨rfl, fb1⟩
    rw [D1.out]
    go_wp2_with fail
    refine (HB2.out _).mono ?_
    rintro e wb2 ⟨rfl, fb2⟩
    rw [D2.out]
    go_wp2_with fail
    refine (HB3.out _).mono ?_
    rintro e wb3 ⟨rfl, fb3⟩
    rw [D3.out]
    have hW := HV.out.go ((fb1.trans fb2).trans fb3)
    obtain ⟨x0, x1, x2, x3, c0, c1, c2, c3⟩ := hW.c
    have ff := hW.f
    obtain ⟨n0, n1, n2, n3⟩ := hW.n
    go_wp2_with fail
    exact bodyPost_ret (results_vars rfl _ hW _ _ _ _ rfl) rfl ⟨by rw [HN.out]; simp only [refV, tkV]; rw [← HX.out]; rfl, fr_vars hW _ _ _ _⟩

end Go.Proofs.YtaokmegoheofjaaDoor
