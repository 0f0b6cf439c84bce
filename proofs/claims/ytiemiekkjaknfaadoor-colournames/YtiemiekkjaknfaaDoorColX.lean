/- numerarylaw12's wakes; the laws ColourBack and ColourTexts. -/
import Derived.Test.YtiemiekkjaknfaaDoorColW
namespace Go.Proofs.YtiemiekkjaknfaaDoor
set_option linter.unusedVariables false
set_option linter.unusedSimpArgs false
open Go.RowKit

theorem cut_size12 (s : ByteArray) (M : Nat) (h : M ≤ s.size) : (s.extract 0 M).size = M := by
  have := ints_length (s.extract 0 M)
  rw [ints_ext0, List.length_take, ints_length] at this
  omega
theorem wk_num : numN [82, 69, 68] = (6, true) := by decide +kernel
theorem wk_el : elN [72, 104] = ([104], 2, true) := by decide +kernel
theorem wk_mo : moN [36, 226, 130, 172, 45, 52, 48, 55] = ([226, 130, 172], 1031, true) := by decide +kernel
theorem wk_hex : hexL 31 = [49, 102] := by rw [hexL_more 31 (by decide), hexL_one _ (by decide)]; decide
theorem wk_wa : waN [120] 31 = ([36, 120, 45, 49, 70], true) := by unfold waN; rw [if_neg (by decide), if_neg (by decide), wk_hex]; decide
theorem wk_name : nameI 64 = [67, 111, 108, 111, 114, 53, 54] := by decide +kernel

set_option maxHeartbeats 2000000 in
set_option maxRecDepth 4000 in
theorem wakes12 (w : World) (hL : Led12 w) : Calls Tryd.prog 12 #[] w fun e w' => e = .returned (.bool true) ∧ Fr w w' := by
  have HA := hide (fun w hL => number_any ⟨#[82, 69, 68]⟩ w hL (by decide))
  have HB := hide (fun w hL => elapsed_any ⟨#[72, 104]⟩ w hL (by decide))
  have HC := hide (fun w hL => money_any ⟨#[36, 226, 130, 172, 45, 52, 48, 55]⟩ w hL (by decide))
  have HD := hide (fun w hL => wallet_any ⟨#[120]⟩ 31 w hL (by decide) (by decide))
  have HE := hide (fun w hL => name_any 64 w hL)
  rw [show ints ⟨#[82, 69, 68]⟩ = [82, 69, 68] by rfl, wk_num] at HA
  rw [show ints ⟨#[72, 104]⟩ = [72, 104] by rfl, wk_el] at HB
  rw [show ints ⟨#[36, 226, 130, 172, 45, 52, 48, 55]⟩ = [36, 226, 130, 172, 45, 52, 48, 55] by rfl, wk_mo] at HC
  rw [show ints ⟨#[120]⟩ = [120] by rfl, wk_wa] at HD
  rw [wk_name] at HE
  have e1 : elV ([104], 2, true) = .tuple #[.string ⟨#[104]⟩, .int .i64 2, .bool true] := by kernel_rfl
  have e2 : moV ([226, 130, 172], 1031, true) = .tuple #[.string ⟨#[226, 130, 172]⟩, .int .u32 1031, .bool true] := by kernel_rfl
  have e3 : waV ([36, 120, 45, 49, 70], true) = .tuple #[.string ⟨#[36, 120, 45, 49, 70]⟩, .bool true] := by kernel_rfl
  have e4 : strOfNums [67, 111, 108, 111, 114, 53, 54] = ⟨#[67, 111, 108, 111, 114, 53, 54]⟩ := by kernel_rfl
  rw [e1] at HB
  rw [e2] at HC
  rw [e3] at HD
  rw [e4] at HE
  have HL := hide (fun w' (k : Fr w w') => hL.fr k)
  clear e1 e2 e3 e4 hL
  go_enter Tryd.func12, Tryd.ntmps12
  go_wp2_with fail
  refine (HA.out _ (HL.out _ (Fr.refl _))).mono ?_
  rintro e w1 ⟨rfl, f1⟩
  go_wp2_with fail
  refine (HB.out _ (HL.out _ f1)).mono ?_
  rintro e w2 ⟨rfl, f2⟩
  have g2 := f1.trans f2
  go_wp2_with fail
  refine (HC.out _ (HL.out _ g2)).mono ?_
  rintro e w3 ⟨rfl, f3⟩
  have g3 := g2.trans f3
  go_wp2_with fail
  refine (HD.out _ (HL.out _ g3)).mono ?_
  rintro e w4 ⟨rfl, f4⟩
  have g4 := g3.trans f4
  go_wp2_with fail
  refine (HE.out _ (HL.out _ g4)).mono ?_
  rintro e w5 ⟨rfl, f5⟩
  go_wp2_with fail
  go_ret
  exact ⟨rfl, g4.trans f5⟩

theorem u32_nat (n : Int) (h : (Lit.int .u32 n).wf = true) : ∃ u : Nat, n = u ∧ u < 4294967296 := by
  simp [Lit.wf, IntKind.min, IntKind.max, IntKind.signed, IntKind.bits] at h
  exact ⟨n.toNat, by omega, by omega⟩

set_option maxHeartbeats 2000000 in
set_option maxRecDepth 4000 in
theorem law_ColourBack (s : ByteArray) (n : Int) (w : World) (hs : s.size ≤ maxLen) (hn : (Lit.int .u32 n).wf = true) (hL : Led12 w) :
    Calls Tryd.prog 5 #[.string s, .int .u32 n] w fun e w' => e = .returned (.bool true) ∧ Fr w w' := by
  unfold maxLen at hs
  obtain ⟨u, rfl, hu⟩ := u32_nat n hn
  obtain ⟨M, hM⟩ : ∃ M : Nat, M = if s.size ≤ 40 then s.size else 40 := ⟨_, rfl⟩
  have hMs : M ≤ s.size := by rw [hM]; split <;> omega
  have hM40 : M ≤ 40 := by rw [hM]; split <;> omega
  have hmin : min (s.size : Int) 40 = (M : Int) := by rw [hM]; split <;> omega
  have hz := cut_size12 s M hMs
  have HW := hide (fun w hL => wakes12 w hL)
  have HL := hide (fun w' (k : Fr w w') => hL.fr k)
  clear hL hn hM
  obtain ⟨A, hA⟩ : ∃ A, s.extract 0 M = A := ⟨_, rfl⟩
  rw [hA] at hz
  have HWa := hide (fun w hL => wallet_any A u w hL (by omega) hu)
  have HC := hide (fun w => contains45 A w)
  by_cases h45 : (45 : Int) ∈ ints A
  · have e1 : waV (waN (ints A) u) = .tuple #[.string ⟨#[]⟩, .bool false] := by unfold waN; rw [if_pos h45]; simp only [waV, str_nil]
    rw [decide_eq_true h45] at HC
    rw [e1] at HWa
    clear e1 h45
    go_enter Tryd.func5, Tryd.ntmps5
    go_wp2_with fail
    refine (HWa.out _ (HL.out _ (Fr.refl _))).mono ?_
    rintro e w1 ⟨rfl, f1⟩
    go_wp2_with fail
    refine (HC.out _).mono ?_
    rintro e w2 ⟨rfl, rfl⟩
    go_wp2_with fail
    refine (HW.out _ (HL.out _ f1)).mono ?_
    rintro e w3 ⟨rfl, f3⟩
    go_wp2_with fail
    go_ret
    exact ⟨rfl, f1.trans f3⟩
  · have hb := back_plain (ints A) u h45 hu
    have h2 : (waN (ints A) u).2 = true := by unfold waN; rw [if_neg h45]
    have hr : ∀ x ∈ (waN (ints A) u).1, 0 ≤ x ∧ x ≤ 255 := by
      obtain ⟨i1, i2, i3, i4, i5⟩ := hexL_facts 7 u (by have h8 : (16 : Nat) ^ (7 + 1) = 4294967296 := (by decide); rw [h8]; exact hu)
      unfold waN
      rw [if_neg h45]
      intro x hx
      split at hx
      · rcases List.mem_cons.1 hx with rfl | hx
        · decide
        · exact ints_range A x hx
      · rcases List.mem_cons.1 hx with rfl | hx
        · decide
        · rcases List.mem_append.1 hx with hx | hx
          · exact ints_range A x hx
          · rcases List.mem_cons.1 hx with rfl | hx
            · decide
            · obtain ⟨y, hy, rfl⟩ := List.mem_map.1 hx
              have := i5 y hy
              unfold upB
              split <;> omega
    have hl : (waN (ints A) u).1.length ≤ 60 := by
      obtain ⟨i1, i2, i3, i4, i5⟩ := hexL_facts 7 u (by have h8 : (16 : Nat) ^ (7 + 1) = 4294967296 := (by decide); rw [h8]; exact hu)
      have := ints_length A
      unfold waN
      rw [if_neg h45]
      split
      · simp; omega
      · simp; omega
    have hi := ints_nums _ hr
    have HMo := hide (fun w hL => money_any (strOfNums (waN (ints A) u).1) w hL (by rw [← ints_length, hi]; omega))
    rw [hi, hb] at HMo
    have e2 : moV (ints A, (u : Int), true) = .tuple #[.string A, .int .u32 u, .bool true] := by simp only [moV]; rw [← str_of (t := A) rfl]
    rw [e2] at HMo
    have e1 : waV (waN (ints A) u) = .tuple #[.string (strOfNums (waN (ints A) u).1), .bool true] := by simp only [waV, h2]
    rw [e1] at HWa
    rw [decide_eq_false h45] at HC
    clear e1 e2 h45 hb h2 hr hl hi
    generalize strOfNums (waN (ints A) u).1 = X at *
    go_enter Tryd.func5, Tryd.ntmps5
    go_wp2_with fail
    refine (HWa.out _ (HL.out _ (Fr.refl _))).mono ?_
    rintro e w1 ⟨rfl, f1⟩
    go_wp2_with fail
    refine (HC.out _).mono ?_
    rintro e w2 ⟨rfl, rfl⟩
    go_wp2_with fail
    refine (HMo.out _ (HL.out _ f1)).mono ?_
    rintro e w3 ⟨rfl, f3⟩
    go_wp2_with fail
    refine (HW.out _ (HL.out _ (f1.trans f3))).mono ?_
    rintro e w4 ⟨rfl, f4⟩
    go_wp2_with fail
    go_ret
    exact ⟨by first | rfl | simp, f1.trans (f3.trans f4)⟩

set_option maxHeartbeats 4000000 in
set_option maxRecDepth 4000 in
theorem law_ColourTexts (s : ByteArray) (w : World) (hs : s.size ≤ maxLen) (hL : Led12 w) :
    Calls Tryd.prog 4 #[.string s] w fun e w' => e = .returned (.bool true) ∧ Fr w w' := by
  unfold maxLen at hs
  obtain ⟨M, hM⟩ : ∃ M : Nat, M = if s.size ≤ 40 then s.size else 40 := ⟨_, rfl⟩
  have hMs : M ≤ s.size := by rw [hM]; split <;> omega
  have hM40 : M ≤ 40 := by rw [hM]; split <;> omega
  have hmin : min (s.size : Int) 40 = (M : Int) := by rw [hM]; split <;> omega
  have hz := cut_size12 s M hMs
  have HW := hide (fun w hL => wakes12 w hL)
  have HL := hide (fun w' (k : Fr w w') => hL.fr k)
  clear hL hM
  obtain ⟨A0, hA⟩ : ∃ A, s.extract 0 M = A := ⟨_, rfl⟩
  rw [hA] at hz
  have z1 : ((⟨#[36]⟩ : ByteArray) ++ A0).size = 1 + A0.size := by rw [ByteArray.size_append]; rfl
  have z2 : ((⟨#[36, 120, 45]⟩ : ByteArray) ++ A0).size = 3 + A0.size := by rw [ByteArray.size_append]; rfl
  obtain ⟨A1, hA1⟩ : ∃ A, (⟨#[36]⟩ : ByteArray) ++ A0 = A := ⟨_, rfl⟩
  obtain ⟨A2, hA2⟩ : ∃ A, (⟨#[36, 120, 45]⟩ : ByteArray) ++ A0 = A := ⟨_, rfl⟩
  rw [hA1] at z1
  rw [hA2] at z2
  have HE0 := hide (fun w hL => elapsed_any A0 w hL (by omega))
  have HF0 := hide (fun w => refElapsed_any A0 w (by omega))
  have HM0 := hide (fun w hL => money_any A0 w hL (by omega))
  have HN0 := hide (fun w => refMoney_any A0 w (by omega))
  obtain ⟨S0, n0, b0, h0⟩ : ∃ S n b, elV (elN (ints A0)) = .tuple #[.string S, .int .i64 n, .bool b] := ⟨_, _, _, rfl⟩
  rw [h0] at HE0 HF0
  obtain ⟨T0, m0, c0, k0⟩ : ∃ S n b, moV (moN (ints A0)) = .tuple #[.string S, .int .u32 n, .bool b] := ⟨_, _, _, rfl⟩
  rw [k0] at HM0 HN0
  clear h0 k0
  have HE1 := hide (fun w hL => elapsed_any A1 w hL (by omega))
  have HF1 := hide (fun w => refElapsed_any A1 w (by omega))
  have HM1 := hide (fun w hL => money_any A1 w hL (by omega))
  have HN1 := hide (fun w => refMoney_any A1 w (by omega))
  obtain ⟨S1, n1, b1, h1⟩ : ∃ S n b, elV (elN (ints A1)) = .tuple #[.string S, .int .i64 n, .bool b] := ⟨_, _, _, rfl⟩
  rw [h1] at HE1 HF1
  obtain ⟨T1, m1, c1, k1⟩ : ∃ S n b, moV (moN (ints A1)) = .tuple #[.string S, .int .u32 n, .bool b] := ⟨_, _, _, rfl⟩
  rw [k1] at HM1 HN1
  clear h1 k1
  have HE2 := hide (fun w hL => elapsed_any A2 w hL (by omega))
  have HF2 := hide (fun w => refElapsed_any A2 w (by omega))
  have HM2 := hide (fun w hL => money_any A2 w hL (by omega))
  have HN2 := hide (fun w => refMoney_any A2 w (by omega))
  obtain ⟨S2, n2, b2, h2⟩ : ∃ S n b, elV (elN (ints A2)) = .tuple #[.string S, .int .i64 n, .bool b] := ⟨_, _, _, rfl⟩
  rw [h2] at HE2 HF2
  obtain ⟨T2, m2, c2, k2⟩ : ∃ S n b, moV (moN (ints A2)) = .tuple #[.string S, .int .u32 n, .bool b] := ⟨_, _, _, rfl⟩
  rw [k2] at HM2 HN2
  clear h2 k2
  go_enter Tryd.func4, Tryd.ntmps4
  go_wp2_with fail
  have f0 : Fr w (w.alloc (.cells #[.string A0, .string A1, .string A2] 9)) := Fr.alloc _ _
  have c0 : (w.alloc (.cells #[.string A0, .string A1, .string A2] 9)).cell? ⟨w.heap.size, 0, none⟩ = some (.string A0) := by simp [go_sem]
  have c1 : (w.alloc (.cells #[.string A0, .string A1, .string A2] 9)).cell? ⟨w.heap.size, 1, none⟩ = some (.string A1) := by simp [go_sem]
  have c2 : (w.alloc (.cells #[.string A0, .string A1, .string A2] 9)).cell? ⟨w.heap.size, 2, none⟩ = some (.string A2) := by simp [go_sem]
  generalize w.alloc _ = v0 at *
  generalize w.heap.size = B at *
  refine wp_loop_rounds 4 ?_
  rw [rounds_succ]
  go_wp2_with fail
  refine (HE0.out _ (HL.out _ f0)).mono ?_
  rintro e w1 ⟨rfl, f1⟩
  have g1 := f0.trans f1
  have G1 := f1
  go_wp2_with fail
  refine (HF0.out _).mono ?_
  rintro e w2 ⟨rfl, f2⟩
  have g2 := g1.trans f2
  have G2 := G1.trans f2
  go_wp2_with fail
  refine (HM0.out _ (HL.out _ g2)).mono ?_
  rintro e w3 ⟨rfl, f3⟩
  have g3 := g2.trans f3
  have G3 := G2.trans f3
  go_wp2_with fail
  refine (HN0.out _).mono ?_
  rintro e w4 ⟨rfl, f4⟩
  have g4 := g3.trans f4
  have G4 := G3.trans f4
  go_wp2_with fail
  rw [rounds_succ]
  have d1 := fr_cell G4 c1
  go_wp2_with fail
  refine (HE1.out _ (HL.out _ g4)).mono ?_
  rintro e w5 ⟨rfl, f5⟩
  have g5 := g4.trans f5
  have G5 := G4.trans f5
  go_wp2_with fail
  refine (HF1.out _).mono ?_
  rintro e w6 ⟨rfl, f6⟩
  have g6 := g5.trans f6
  have G6 := G5.trans f6
  go_wp2_with fail
  refine (HM1.out _ (HL.out _ g6)).mono ?_
  rintro e w7 ⟨rfl, f7⟩
  have g7 := g6.trans f7
  have G7 := G6.trans f7
  go_wp2_with fail
  refine (HN1.out _).mono ?_
  rintro e w8 ⟨rfl, f8⟩
  have g8 := g7.trans f8
  have G8 := G7.trans f8
  go_wp2_with fail
  rw [rounds_succ]
  have d2 := fr_cell G8 c2
  go_wp2_with fail
  refine (HE2.out _ (HL.out _ g8)).mono ?_
  rintro e w9 ⟨rfl, f9⟩
  have g9 := g8.trans f9
  have G9 := G8.trans f9
  go_wp2_with fail
  refine (HF2.out _).mono ?_
  rintro e w10 ⟨rfl, f10⟩
  have g10 := g9.trans f10
  have G10 := G9.trans f10
  go_wp2_with fail
  refine (HM2.out _ (HL.out _ g10)).mono ?_
  rintro e w11 ⟨rfl, f11⟩
  have g11 := g10.trans f11
  have G11 := G10.trans f11
  go_wp2_with fail
  refine (HN2.out _).mono ?_
  rintro e w12 ⟨rfl, f12⟩
  have g12 := g11.trans f12
  have G12 := G11.trans f12
  go_wp2_with fail
  rw [rounds_succ]
  go_wp2_with fail
  refine (HW.out _ (HL.out _ g12)).mono ?_
  rintro e w13 ⟨rfl, f13⟩
  have g13 := g12.trans f13
  have G13 := G12.trans f13
  go_wp2_with fail
  go_ret
  exact ⟨rfl, g13⟩
end Go.Proofs.YtiemiekkjaknfaaDoor
