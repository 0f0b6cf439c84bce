/- The laws ColourNames and ColourApart. -/
import Derived.Test.YtiemiekkjaknfaaDoorColX
namespace Go.Proofs.YtiemiekkjaknfaaDoor
set_option linter.unusedVariables false
set_option linter.unusedSimpArgs false
open Go.RowKit

theorem ne_empty (l : List Int) (h : 0 < l.length) (hl : ∀ x ∈ l, 0 ≤ x ∧ x ≤ 255) : (strOfNums l).toList.isEmpty = false := by
  rw [Bool.eq_false_iff]
  intro h1
  have h2 := congrArg List.length (List.isEmpty_iff.1 h1)
  rw [ByteArray.toList_eq, ← Lib.size_eq, ← ints_length, ints_nums _ hl] at h2
  simp at h2
  subst h2
  simp at h
theorem up_range (l : List Int) (hl : ∀ x ∈ l, 0 ≤ x ∧ x ≤ 255) : ∀ x ∈ l.map upB, 0 ≤ x ∧ x ≤ 255 := by
  intro x hx
  obtain ⟨y, hy, rfl⟩ := List.mem_map.1 hx
  have := hl y hy
  unfold upB
  split <;> omega

/-- What a number's name, and what is made of it, are. -/
theorem name_round (k : Int) : ∃ (S U : ByteArray) (m : Int) (b : Bool), (∀ w, Led12 w → Calls Tryd.prog 9 #[.int .i64 k] w fun e w' => e = .returned (.string S) ∧ Fr w w')
    ∧ (∀ w, Calls Tryd.prog 10 #[.int .i64 k] w fun e w' => e = .returned (.string S) ∧ Fr w w')
    ∧ (∀ w, Calls Tryd.prog 11 #[.string S] w fun e w' => e = .returned (.string U) ∧ Fr w w')
    ∧ (∀ w, Led12 w → Calls Tryd.prog 7 #[.string U] w fun e w' => e = .returned (.tuple #[.int .i64 m, .bool b]) ∧ Fr w w')
    ∧ ((S = ⟨#[]⟩) ∨ (S.toList.isEmpty = false ∧ b = true ∧ k = m)) := by
  have hU := ints_nums _ (up_range _ (nameI_range k))
  have hz : (strOfNums ((nameI k).map upB)).size ≤ 200 := by
    rw [← ints_length, hU, List.length_map]
    have := (nameI_facts k).1
    omega
  have h3 := fun w => upper_any (strOfNums (nameI k)) w (by have := nameI_size k; omega) (nameI_asc k)
  rw [nameI_ints] at h3
  have h4 := fun w hL => number_any (strOfNums ((nameI k).map upB)) w hL hz
  rw [hU] at h4
  refine ⟨strOfNums (nameI k), strOfNums ((nameI k).map upB), _, _, fun w hL => name_any k w hL, fun w => refName_any k w, h3, h4, ?_⟩
  by_cases h : 1 ≤ k ∧ k ≤ 64
  · right
    have hn := num_up k h.1 h.2
    refine ⟨ne_empty _ ((nameI_facts k).2.1 h) (nameI_range k), ?_, ?_⟩
    · rw [hn]
    · rw [hn]
  · left
    rw [nameI_out k h, str_nil]

set_option maxHeartbeats 4000000 in
set_option maxRecDepth 4000 in
theorem law_ColourNames (s : ByteArray) (n : Int) (w : World) (hs : s.size ≤ maxLen) (hn : (Lit.int .i64 n).wf = true) (hL : Led12 w) :
    Calls Tryd.prog 3 #[.string s, .int .i64 n] w fun e w' => e = .returned (.bool true) ∧ Fr w w' := by
  unfold maxLen at hs
  obtain ⟨M, hM⟩ : ∃ M : Nat, M = if s.size ≤ 20 then s.size else 20 := ⟨_, rfl⟩
  have hMs : M ≤ s.size := by rw [hM]; split <;> omega
  have hM20 : M ≤ 20 := by rw [hM]; split <;> omega
  have hmin : min (s.size : Int) 20 = (M : Int) := by rw [hM]; split <;> omega
  have hz := cut_size12 s M hMs
  have HW := hide (fun w hL => wakes12 w hL)
  have HL := hide (fun w' (k : Fr w w') => hL.fr k)
  clear hL hn hM
  obtain ⟨A, hA⟩ : ∃ A, s.extract 0 M = A := ⟨_, rfl⟩
  rw [hA] at hz
  have HA := hide (fun w hL => number_any A w hL (by omega))
  have HB := hide (fun w => refNumber_any12 A w (by omega))
  generalize (numN (ints A)).1 = a at *
  generalize (numN (ints A)).2 = b at *
  obtain ⟨x, hx⟩ : ∃ x : Nat, max (0 : Int) n = (x : Int) := ⟨(max (0 : Int) n).toNat, by omega⟩
  obtain ⟨q, hq⟩ : ∃ q : Int, (x : Int) % 70 = q := ⟨_, rfl⟩
  obtain ⟨S0, U0, m0, b0, N0, R0, P0, Q0, hc0⟩ := name_round n
  obtain ⟨S1, U1, m1, b1, N1, R1, P1, Q1, hc1⟩ := name_round q
  have HN0 := hide N0
  have HR0 := hide R0
  have HP0 := hide P0
  have HQ0 := hide Q0
  have HN1 := hide N1
  have HR1 := hide R1
  have HP1 := hide P1
  have HQ1 := hide Q1
  clear N0 R0 P0 Q0 N1 R1 P1 Q1
  rcases hc0 with hc0 | ⟨hc0, rfl, rfl⟩ <;> rcases hc1 with hc1 | ⟨hc1, rfl, rfl⟩
  all_goals
    try subst hc0
    try subst hc1
    go_enter Tryd.func3, Tryd.ntmps3
    go_wp2_with fail
    refine (HA.out _ (HL.out _ (Fr.refl _))).mono ?_
    rintro e w1 ⟨rfl, f1⟩
    have g1 := f1
    go_wp2_with fail
    refine (HB.out _).mono ?_
    rintro e w2 ⟨rfl, f2⟩
    have g2 := g1.trans f2
    go_wp2_with fail
    have fa := Fr.alloc w2 (.cells #[.int .i64 n, .int .i64 q] 3)
    have c0 : (w2.alloc (.cells #[.int .i64 n, .int .i64 q] 3)).cell? ⟨w2.heap.size, 0, none⟩ = some (.int .i64 n) := by simp [go_sem]
    have c1 : (w2.alloc (.cells #[.int .i64 n, .int .i64 q] 3)).cell? ⟨w2.heap.size, 1, none⟩ = some (.int .i64 q) := by simp [go_sem]
    have g3 := g2.trans fa
    generalize w2.alloc _ = v0 at *
    generalize w2.heap.size = B at *
    refine wp_loop_rounds 3 ?_
    rw [rounds_succ]
    go_wp2_with fail
    refine (HN0.out _ (HL.out _ g3)).mono ?_
    rintro e w4 ⟨rfl, f4⟩
    have g4 := g3.trans f4
    have G4 := f4
    go_wp2_with fail
    refine (HR0.out _).mono ?_
    rintro e w5 ⟨rfl, f5⟩
    have g5 := g4.trans f5
    have G5 := G4.trans f5
    go_wp2_with fail
    refine (HP0.out _).mono ?_
    rintro e w6 ⟨rfl, f6⟩
    have g6 := g5.trans f6
    have G6 := G5.trans f6
    go_wp2_with fail
    refine (HQ0.out _ (HL.out _ g6)).mono ?_
    rintro e w7 ⟨rfl, f7⟩
    have g7 := g6.trans f7
    have G7 := G6.trans f7
    go_wp2_with fail
    rw [rounds_succ]
    have d1 := fr_cell G7 c1
    go_wp2_with fail
    refine (HN1.out _ (HL.out _ g7)).mono ?_
    rintro e w8 ⟨rfl, f8⟩
    have g8 := g7.trans f8
    have G8 := G7.trans f8
    go_wp2_with fail
    refine (HR1.out _).mono ?_
    rintro e w9 ⟨rfl, f9⟩
    have g9 := g8.trans f9
    have G9 := G8.trans f9
    go_wp2_with fail
    refine (HP1.out _).mono ?_
    rintro e w10 ⟨rfl, f10⟩
    have g10 := g9.trans f10
    have G10 := G9.trans f10
    go_wp2_with fail
    refine (HQ1.out _ (HL.out _ g10)).mono ?_
    rintro e w11 ⟨rfl, f11⟩
    have g11 := g10.trans f11
    have G11 := G10.trans f11
    go_wp2_with fail
    rw [rounds_succ]
    go_wp2_with fail
    refine (HW.out _ (HL.out _ g11)).mono ?_
    rintro e w12 ⟨rfl, f12⟩
    have g12 := g11.trans f12
    have G12 := G11.trans f12
    go_wp2_with fail
    go_ret
    exact ⟨rfl, g12⟩

set_option maxHeartbeats 4000000 in
set_option maxRecDepth 4000 in
theorem law_ColourApart (s : ByteArray) (n : Int) (w : World) (hs : s.size ≤ maxLen) (hn : (Lit.int .i64 n).wf = true) (hL : Led12 w) :
    Calls Tryd.prog 6 #[.string s, .int .i64 n] w fun e w' => e = .returned (.bool true) ∧ Fr w w' := by
  unfold maxLen at hs
  obtain ⟨M, hM⟩ : ∃ M : Nat, M = if s.size ≤ 30 then s.size else 30 := ⟨_, rfl⟩
  have hMs : M ≤ s.size := by rw [hM]; split <;> omega
  have hM30 : M ≤ 30 := by rw [hM]; split <;> omega
  have hmin : min (s.size : Int) 30 = (M : Int) := by rw [hM]; split <;> omega
  have hz := cut_size12 s M hMs
  have HW := hide (fun w hL => wakes12 w hL)
  have HL := hide (fun w' (k : Fr w w') => hL.fr k)
  clear hL hn hM
  obtain ⟨A, hA⟩ : ∃ A, s.extract 0 M = A := ⟨_, rfl⟩
  rw [hA] at hz
  have z1 : ((⟨#[36]⟩ : ByteArray) ++ A).size = 1 + A.size := by rw [ByteArray.size_append]; rfl
  obtain ⟨D, hD⟩ : ∃ X, (⟨#[36]⟩ : ByteArray) ++ A = X := ⟨_, rfl⟩
  rw [hD] at z1
  obtain ⟨x, hx⟩ : ∃ x : Nat, max (0 : Int) n = (x : Int) := ⟨(max (0 : Int) n).toNat, by omega⟩
  obtain ⟨q, hq⟩ : ∃ q : Nat, 1 + x % 64 = q := ⟨_, rfl⟩
  have hq1 : 1 ≤ q := by omega
  have hq64 : q ≤ 64 := by omega
  have hqi : 1 + (x : Int) % 64 = (q : Int) := by omega
  have HN := hide (fun k w hL => name_any k w hL)
  have hzS := nameI_size (q : Int)
  have HNQ := hide (fun w hL => HN.out (q : Int) w hL)
  have HNE := hide (fun (k : Nat) (h1 : 1 ≤ k) (h2 : k ≤ 64) (h3 : k ≠ q) => (show ((strOfNums (nameI (k : Int))).toList == (strOfNums (nameI (q : Int))).toList) = false by
    rw [Bool.eq_false_iff]
    intro h
    rw [str_eq, nameI_ints, nameI_ints] at h
    have := name_ne (k : Int) (q : Int) (by omega) (by omega) (by omega) (by omega) h
    omega))
  clear hq
  generalize strOfNums (nameI (q : Int)) = S at *
  have HT := hide (fun (T : ByteArray) (hT : T.size ≤ 60) => (show ∃ (m : Int) (a : Bool) (E : ByteArray) (k : Int) (b : Bool) (F : ByteArray) (l : Int) (c : Bool),
      (∀ w, Led12 w → Calls Tryd.prog 7 #[.string T] w fun e w' => e = .returned (.tuple #[.int .i64 m, .bool a]) ∧ Fr w w')
      ∧ (∀ w, Led12 w → Calls Tryd.prog 13 #[.string T] w fun e w' => e = .returned (.tuple #[.string E, .int .i64 k, .bool b]) ∧ Fr w w')
      ∧ (∀ w, Led12 w → Calls Tryd.prog 15 #[.string T] w fun e w' => e = .returned (.tuple #[.string F, .int .u32 l, .bool c]) ∧ Fr w w')
      ∧ ((a = false ∧ b = false) ∨ (a = false ∧ b = true ∧ c = false) ∨ (a = true ∧ b = false ∧ c = false)) from by
    refine ⟨_, _, _, _, _, _, _, _, fun w hL => number_any T w hL (by omega), fun w hL => elapsed_any T w hL (by omega), fun w hL => money_any T w hL (by omega), ?_⟩
    have h1 := apart_ab (ints T)
    have h2 := apart_ac (ints T)
    have h3 := apart_bc (ints T)
    cases ha : (numN (ints T)).2 <;> cases hb : (elN (ints T)).2.2 <;> cases hc : (moN (ints T)).2.2 <;> simp [ha, hb, hc] at h1 h2 h3 ⊢))
  go_enter Tryd.func6, Tryd.ntmps6
  go_wp2_with fail
  refine (HNQ.out _ (HL.out _ (Fr.refl _))).mono ?_
  rintro e w1 ⟨rfl, f1⟩
  go_wp2_with fail
  have fa := Fr.alloc w1 (.cells #[.string A, .string S, .string D] 9)
  have c0 : (w1.alloc (.cells #[.string A, .string S, .string D] 9)).cell? ⟨w1.heap.size, 0, none⟩ = some (.string A) := by simp [go_sem]
  have c1 : (w1.alloc (.cells #[.string A, .string S, .string D] 9)).cell? ⟨w1.heap.size, 1, none⟩ = some (.string S) := by simp [go_sem]
  have c2 : (w1.alloc (.cells #[.string A, .string S, .string D] 9)).cell? ⟨w1.heap.size, 2, none⟩ = some (.string D) := by simp [go_sem]
  have g1 := f1.trans fa
  generalize w1.alloc _ = v0 at *
  generalize w1.heap.size = B at *
  have HCELL := hide (fun (k : Nat) (hk : k < 3) => (show ∃ T : ByteArray, v0.cell? ⟨B, k, none⟩ = some (.string T) ∧ T.size ≤ 60 from by
    match k, hk with
    | 0, _ => exact ⟨A, c0, by omega⟩
    | 1, _ => exact ⟨S, c1, by omega⟩
    | 2, _ => exact ⟨D, c2, by omega⟩))
  clear c0 c1 c2
  go_loopw [32] (fun i wr => ∃ k : Nat, k ≤ 3 ∧ i = .int .i64 k ∧ Fr v0 wr) (fun i _ => 3 - (intOf i).toNat)
  case atStart => exact ⟨0, by omega, rfl, Fr.refl _⟩
  case round =>
    obtain ⟨k, hk, rfl, hF⟩ := hrel
    by_cases hlt : k < 3
    · obtain ⟨T, hT, hTz⟩ := HCELL.out k hlt
      obtain ⟨m, a, E, k2, b, F, l, c, n1, n2, n3, hcase⟩ := HT.out T hTz
      have HN1 := hide n1
      have HN2 := hide n2
      have HN3 := hide n3
      have hc := fr_cell hF hT
      clear n1 n2 n3 hT
      have hgo : ∀ w2, Fr v0 w2 → Led12 w2 := fun w2 k => HL.out _ (g1.trans k)
      have HGO := hide hgo
      clear hgo
      rcases hcase with ⟨rfl, rfl⟩ | ⟨rfl, rfl, rfl⟩ | ⟨rfl, rfl, rfl⟩
      all_goals
        try cases c
      all_goals
        go_wp2_with fail
        refine (HN1.out _ (HGO.out _ hF)).mono ?_
        rintro e w2 ⟨rfl, f2⟩
        go_wp2_with fail
        refine (HN2.out _ (HGO.out _ (hF.trans f2))).mono ?_
        rintro e w3 ⟨rfl, f3⟩
        go_wp2_with fail
        refine (HN3.out _ (HGO.out _ (hF.trans (f2.trans f3)))).mono ?_
        rintro e w4 ⟨rfl, f4⟩
        go_wp2_with fail
        go_roundw
        case rel => exact ⟨k + 1, by omega, by go_num, hF.trans (f2.trans (f3.trans f4))⟩
        case measure => simp [intOf]; omega
    · obtain ⟨V, rfl⟩ : ∃ V, V = wr := ⟨_, rfl⟩
      have hF2 := g1.trans hF
      clear HCELL HT
      go_wp2_with fail
      go_loopw [16] (fun i wr => ∃ j : Nat, 1 ≤ j ∧ j ≤ 65 ∧ i = .int .i64 j ∧ Fr w wr) (fun i _ => 65 - (intOf i).toNat)
      case atStart => exact ⟨1, by omega, by omega, rfl, hF2⟩
      case round =>
        obtain ⟨j, hj1, hj2, rfl, hG⟩ := hrel
        by_cases hlt2 : j ≤ 64
        · by_cases hjq : j = q
          · have hne : ((j : Int) != (q : Int)) = false := by rw [bne_eq_false_iff_eq]; omega
            have hjI : (j : Int) ≤ 64 := by omega
            clear hjq
            go_wp2_with fail
            go_roundw
            case rel => exact ⟨j + 1, by omega, by omega, by go_num, hG⟩
            case measure => simp [intOf]; omega
          · have hne : ((j : Int) != (q : Int)) = true := by rw [bne_iff_ne]; omega
            have hjI : (j : Int) ≤ 64 := by omega
            have hse := HNE.out j hj1 hlt2 hjq
            have HNJ := hide (fun w hL => HN.out (j : Int) w hL)
            clear hjq
            generalize strOfNums (nameI (j : Int)) = Y at *
            go_wp2_with fail
            refine (HNJ.out _ (HL.out _ hG)).mono ?_
            rintro e w2 ⟨rfl, f2⟩
            go_wp2_with fail
            refine (HNQ.out _ (HL.out _ (hG.trans f2))).mono ?_
            rintro e w3 ⟨rfl, f3⟩
            go_wp2_with fail
            go_roundw
            case rel => exact ⟨j + 1, by omega, by omega, by go_num, hG.trans (f2.trans f3)⟩
            case measure => simp [intOf]; omega
        · have hjI : ¬ (j : Int) ≤ 64 := by omega
          go_wp2_with fail
          refine (HW.out _ (HL.out _ hG)).mono ?_
          rintro e w2 ⟨rfl, f2⟩
          go_wp2_with fail
          go_ret
          exact ⟨rfl, hG.trans f2⟩
end Go.Proofs.YtiemiekkjaknfaaDoor
