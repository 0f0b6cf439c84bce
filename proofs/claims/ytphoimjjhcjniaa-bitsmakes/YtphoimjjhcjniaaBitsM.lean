/- The law BitsMakes: the walk. -/
import Derived.Test.YtphoimjjhcjniaaBitsL
import Derived.Deep.CutBlock
namespace Go.Proofs.Ytphoimjjhcjniaa
set_option linter.unusedVariables false
set_option linter.unusedSimpArgs false
open Go.RowKit

attribute [local go_sem] World.cell?_alloc_some
set_option maxHeartbeats 4000000 in
set_option maxRecDepth 4000 in
theorem law_BitsMakes (c : Int) (n : Bool) (m x : Int) (w : World) (hc : (Lit.int .u8 c).wf = true) (hm : (Lit.int .u64 m).wf = true) (hx : (Lit.int .i64 x).wf = true) :
    Calls Try.prog 4 #[.agg #[.int .u8 c, .bool n, .int .u64 m, .int .i64 x]] w fun e w' => e = .returned (.bool true) ∧ Fr w w' := by
  obtain ⟨M, rfl, lM⟩ := u64_nat hm
  have c01 : 0 ≤ c ∧ c ≤ 255 := by
    simp [Lit.wf, IntKind.min, IntKind.max, IntKind.signed, IntKind.bits] at hc
    omega
  have x01 : -9223372036854775808 ≤ x ∧ x ≤ 9223372036854775807 := by
    simp [Lit.wf, IntKind.min, IntKind.max, IntKind.signed, IntKind.bits] at hx
    omega
  obtain ⟨c0, c1⟩ := c01
  obtain ⟨x0, x1⟩ := x01
  clear hc hm hx
  go_enter Try.func4, Try.ntmps4
  go_wp2_with fail
  go_quiet (fail)
  obtain ⟨W0, hW0⟩ : ∃ V, V = (w.alloc (Obj.cells #[Value.int IntKind.u8 c, Value.bool n, Value.int IntKind.u64 (M : Int), Value.int IntKind.i64 x] 35)).drewN nq := ⟨_, rfl⟩
  have F0 : Hid (Fr w W0) := by rw [hW0]; exact (Fr.alloc _ _).trans (drewN_fr _ _)
  rw [← hW0]
  clear hW0
  obtain ⟨C, hC⟩ : ∃ C : Int, c % 5 = C := ⟨_, rfl⟩
  obtain ⟨X2, hX2⟩ : ∃ X : Int, -1074 + (max 0 x) % 2050 = X := ⟨_, rfl⟩
  obtain ⟨M2, hM2⟩ : ∃ M' : Nat, M / 2048 = M' := ⟨_, rfl⟩
  have C0 : 0 ≤ C := by omega
  have C4 : C ≤ 4 := by omega
  have lM2 : M2 < 18446744073709551616 := by omega
  have X20 : -1074 ≤ X2 := by omega
  have X21 : X2 ≤ 1000 := by omega
  have HC := hide hC
  have HX := hide hX2
  have HM := hide hM2
  clear hC hX2 hM2
  go_upto_region 2 with fail
  go_cut [35, 36, 37] (fun s35 s36 s37 wx => ∃ g, s35 = .slice (some ⟨g, 0, none⟩) 2 2 ∧ s36 = .int .i64 2 ∧ s37 = .int .i64 0 ∧ (wx.cell? ⟨g, 0, none⟩ = some (.int .i64 C) ∧ wx.cell? ⟨g, 1, none⟩ = some (.bool n) ∧ wx.cell? ⟨g, 2, none⟩ = some (.int .u64 (M : Int)) ∧ wx.cell? ⟨g, 3, none⟩ = some (.int .i64 x)) ∧ (wx.cell? ⟨g, 4, none⟩ = some (.int .i64 1) ∧ wx.cell? ⟨g, 5, none⟩ = some (.bool n) ∧ wx.cell? ⟨g, 6, none⟩ = some (.int .u64 (M2 : Int)) ∧ wx.cell? ⟨g, 7, none⟩ = some (.int .i64 X2)) ∧ Hid (Fr w wx))
  case first =>
    have hM2 : (M : Int) / 2048 = (M2 : Int) := by have := HM.out; omega
    by_cases cx : 0 < x
    · have hX : -1074 + x % 2050 = X2 := by have := HX.out; omega
      have hC := HC.out
      have HXX := hide hX
      have HMM := hide hM2
      have HCC := hide hC
      clear hX hM2 hC
      go_wp2_with fail
      rw [HCC.out, HMM.out, HXX.out]
      go_meet
      exact ⟨_, rfl, rfl, rfl, ⟨by simp [go_sem], by simp [go_sem], by simp [go_sem], by simp [go_sem]⟩, ⟨by simp [go_sem], by simp [go_sem], by simp [go_sem], by simp [go_sem]⟩, F0.out.trans (Fr.alloc _ _)⟩
    · have hX : -1074 = X2 := by have := HX.out; omega
      have hC := HC.out
      have HXX := hide hX
      have HMM := hide hM2
      have HCC := hide hC
      clear hX hM2 hC
      go_wp2_with fail
      rw [HCC.out, HMM.out, HXX.out]
      go_meet
      exact ⟨_, rfl, rfl, rfl, ⟨by simp [go_sem], by simp [go_sem], by simp [go_sem], by simp [go_sem]⟩, ⟨by simp [go_sem], by simp [go_sem], by simp [go_sem], by simp [go_sem]⟩, F0.out.trans (Fr.alloc _ _)⟩
  case rest =>
    obtain ⟨g, rfl, rfl, rfl, ⟨a0, a1, a2, a3⟩, ⟨b0, b1, b2, b3⟩, F1⟩ := hcut
    have sg := cell_lt a0
    simp only [] at sg
    obtain ⟨W, hW⟩ : ∃ V, V = wc := ⟨_, rfl⟩
    rw [← hW] at a0 a1 a2 a3 b0 b1 b2 b3 F1 sg ⊢
    have A0 := hide a0
    have A1 := hide a1
    have A2 := hide a2
    have A3 := hide a3
    have B0 := hide b0
    have B1 := hide b1
    have B2 := hide b2
    have B3 := hide b3
    clear hW a0 a1 a2 a3 b0 b1 b2 b3 HC HX HM
    go_wp2_with fail
    go_loopw [37] (fun s37 wr => ∃ k : Nat, k ≤ 2 ∧ s37 = .int .i64 k ∧ Hid (Fr W wr)) (fun s37 _ => 2 - (intOf s37).toNat)
    case atStart => exact ⟨0, by omega, rfl, Fr.refl _⟩
    case round =>
      obtain ⟨k, hk, rfl, hF⟩ := hrel
      by_cases ck : k < 2
      · obtain ⟨D, N, P, Y, q0, q1, q2, q3, D0, D4, lP, Y0, Y1⟩ : ∃ (D : Int) (N : Bool) (P : Nat) (Y : Int), wr.cell? ⟨g, k * 4, none⟩ = some (.int .i64 D) ∧ wr.cell? ⟨g, k * 4 + 1, none⟩ = some (.bool N) ∧ wr.cell? ⟨g, k * 4 + 2, none⟩ = some (.int .u64 (P : Int)) ∧ wr.cell? ⟨g, k * 4 + 3, none⟩ = some (.int .i64 Y) ∧ 0 ≤ D ∧ D ≤ 4 ∧ P < 18446744073709551616 ∧ -9223372036854775808 ≤ Y ∧ Y ≤ 9223372036854775807 := by
          rcases (by omega : k = 0 ∨ k = 1) with rfl | rfl
          · exact ⟨C, n, M, x, fr_cell hF.out A0.out, fr_cell hF.out A1.out, fr_cell hF.out A2.out, fr_cell hF.out A3.out, C0, C4, lM, x0, x1⟩
          · exact ⟨1, n, M2, X2, fr_cell hF.out B0.out, fr_cell hF.out B1.out, fr_cell hF.out B2.out, fr_cell hF.out B3.out, by omega, by omega, lM2, by omega, by omega⟩
        clear A0 A1 A2 A3 B0 B1 B2 B3 C0 C4 lM lM2 X20 X21 x0 x1 c0 c1
        have HOK := hide (ok_may (n := N) (M := P) (X := Y) D0 D4)
        have HV := hide (fun w => vbits_any D N P Y w lP Y0 Y1)
        have HF := hide (fun h => ok_fields (C := D) (n := N) (M := P) (X := Y) h)
        have HL : Hid (triedN D N P Y < 18446744073709551616) := by
          refine hide ?_
          unfold triedN
          split
          · exact or_lt _ (unsN_lt _ _ _)
          · exact unsN_lt _ _ _
        obtain ⟨T, hT⟩ : ∃ T, triedN D N P Y = T := ⟨_, rfl⟩
        rw [hT] at HV HF HL
        clear hT
        generalize okN D N P Y = ok at *
        have eD := (by omega : D = 0 ∨ D = 1 ∨ D = 2 ∨ D = 3 ∨ D = 4)
        clear D0 D4
        go_upto_block 2 with fail
        go_cut [9] (fun s9 wx => s9 = .bool ok ∧ wx = wr.alloc (Obj.cells #[.int .i64 D, .bool N, .int .u64 (P : Int), .int .i64 Y] 25))
        case first =>
          rcases eD with rfl | rfl | rfl | rfl | rfl
          · have hok : ok = decide (P = 0 ∧ Y = 0) := HOK.out
            clear HOK HV HF HL
            by_cases h1 : P = 0
            · subst h1
              by_cases h2 : Y = 0
              · subst h2
                obtain rfl : ok = true := hok
                go_wp2_with fail
                go_meet
                exact ⟨rfl, rfl⟩
              · have z : (Y == 0) = false := by simpa using h2
                obtain rfl : ok = false := by rw [hok]; simp [h2]
                clear hok h2
                go_wp2_with fail
                go_meet
                exact ⟨rfl, rfl⟩
            · have z : ((P : Int) == 0) = false := by simp only [beq_eq_false_iff_ne]; omega
              obtain rfl : ok = false := by rw [hok]; simp [h1]
              clear hok h1
              go_wp2_with fail
              go_meet
              exact ⟨rfl, rfl⟩
          · have hok : ok = decide ((4503599627370496 ≤ P ∧ P < 9007199254740992 ∧ -1074 ≤ Y ∧ Y ≤ 971) ∨ (1 ≤ P ∧ P < 4503599627370496 ∧ Y = -1074)) := HOK.out
            clear HOK HV HF HL
            obtain ⟨Q, hQ⟩ : ∃ Q : Int, (P : Int) = Q := ⟨_, rfl⟩
            rw [hQ]
            have HQ := hide hQ
            by_cases h1 : 4503599627370496 ≤ P
            · by_cases h2 : P < 9007199254740992
              · by_cases h3 : -1074 ≤ Y
                · by_cases h4 : Y ≤ 971
                  · obtain rfl : ok = true := by rw [hok]; exact decide_eq_true (by omega)
                    clear hok
                    have l0 : 4503599627370496 ≤ Q := by omega
                    have l1 : Q < 9007199254740992 := by omega
                    clear h1 h2 hQ lP
                    go_wp2_with fail
                    go_meet
                    exact ⟨rfl, by rw [HQ.out]⟩
                  · obtain rfl : ok = false := by rw [hok]; exact decide_eq_false (by omega)
                    clear hok
                    have l0 : 4503599627370496 ≤ Q := by omega
                    have l1 : Q < 9007199254740992 := by omega
                    have l2 : 1 ≤ Q := by omega
                    clear h1 h2 hQ lP
                    go_wp2_with fail
                    go_meet
                    exact ⟨rfl, by rw [HQ.out]⟩
                · obtain rfl : ok = false := by rw [hok]; exact decide_eq_false (by omega)
                  clear hok
                  have l0 : 4503599627370496 ≤ Q := by omega
                  have l1 : Q < 9007199254740992 := by omega
                  have l2 : 1 ≤ Q := by omega
                  clear h1 h2 hQ lP
                  go_wp2_with fail
                  go_meet
                  exact ⟨rfl, by rw [HQ.out]⟩
              · obtain rfl : ok = false := by rw [hok]; exact decide_eq_false (by omega)
                clear hok
                have l0 : 9007199254740992 ≤ Q := by omega
                have l2 : 1 ≤ Q := by omega
                clear h1 h2 hQ lP
                go_wp2_with fail
                go_meet
                exact ⟨rfl, by rw [HQ.out]⟩
            · by_cases h2 : 1 ≤ P
              · by_cases h3 : Y = -1074
                · obtain rfl : ok = true := by rw [hok]; exact decide_eq_true (by omega)
                  clear hok
                  have l0 : Q < 4503599627370496 := by omega
                  have l2 : 1 ≤ Q := by omega
                  subst h3
                  clear h1 h2 hQ lP
                  go_wp2_with fail
                  go_meet
                  exact ⟨rfl, by rw [HQ.out]⟩
                · obtain rfl : ok = false := by rw [hok]; exact decide_eq_false (by omega)
                  clear hok
                  have l0 : Q < 4503599627370496 := by omega
                  have l2 : 1 ≤ Q := by omega
                  have z : (Y == -1074) = false := by simpa using h3
                  clear h1 h2 h3 hQ lP
                  go_wp2_with fail
                  go_meet
                  exact ⟨rfl, by rw [HQ.out]⟩
              · obtain rfl : ok = false := by rw [hok]; exact decide_eq_false (by omega)
                clear hok
                have l0 : Q < 1 := by omega
                have l3 : 0 ≤ Q := by omega
                clear h1 h2 hQ lP
                go_wp2_with fail
                go_meet
                exact ⟨rfl, by rw [HQ.out]⟩
          · have hok : ok = decide (P = 0 ∧ Y = 0) := HOK.out
            clear HOK HV HF HL
            by_cases h1 : P = 0
            · subst h1
              by_cases h2 : Y = 0
              · subst h2
                obtain rfl : ok = true := hok
                go_wp2_with fail
                go_meet
                exact ⟨rfl, rfl⟩
              · have z : (Y == 0) = false := by simpa using h2
                obtain rfl : ok = false := by rw [hok]; simp [h2]
                clear hok h2
                go_wp2_with fail
                go_meet
                exact ⟨rfl, rfl⟩
            · have z : ((P : Int) == 0) = false := by simp only [beq_eq_false_iff_ne]; omega
              obtain rfl : ok = false := by rw [hok]; simp [h1]
              clear hok h1
              go_wp2_with fail
              go_meet
              exact ⟨rfl, rfl⟩
          · have hok : ok = decide (P = 0 ∧ Y = 0 ∧ N = false) := HOK.out
            clear HOK HV HF HL
            by_cases h1 : P = 0
            · subst h1
              by_cases h2 : Y = 0
              · subst h2
                cases N
                · obtain rfl : ok = true := hok
                  go_wp2_with fail
                  go_meet
                  exact ⟨rfl, rfl⟩
                · obtain rfl : ok = false := hok
                  go_wp2_with fail
                  go_meet
                  exact ⟨rfl, rfl⟩
              · have z : (Y == 0) = false := by simpa using h2
                obtain rfl : ok = false := by rw [hok]; simp [h2]
                clear hok h2
                go_wp2_with fail
                go_meet
                exact ⟨rfl, rfl⟩
            · have z : ((P : Int) == 0) = false := by simp only [beq_eq_false_iff_ne]; omega
              obtain rfl : ok = false := by rw [hok]; simp [h1]
              clear hok h1
              go_wp2_with fail
              go_meet
              exact ⟨rfl, rfl⟩
          · have hok : ok = false := HOK.out
            subst hok
            clear HOK HV HF HL
            go_wp2_with fail
            go_meet
            exact ⟨rfl, rfl⟩
        case rest =>
          obtain ⟨rfl, rfl⟩ := hcut
          clear HOK
          go_wp2_with fail
          obtain ⟨V, hV⟩ : ∃ V, V = wr.alloc (Obj.cells #[.int .i64 D, .bool N, .int .u64 (P : Int), .int .i64 Y] 25) := ⟨_, rfl⟩
          have FV : Fr wr V := by rw [hV]; exact Fr.alloc _ _
          have d0 : V.cell? ⟨wr.heap.size, 0, none⟩ = some (.int .i64 D) := by rw [hV]; simp [go_sem]
          have d1 : V.cell? ⟨wr.heap.size, 1, none⟩ = some (.bool N) := by rw [hV]; simp [go_sem]
          have d2 : V.cell? ⟨wr.heap.size, 2, none⟩ = some (.int .u64 (P : Int)) := by rw [hV]; simp [go_sem]
          have d3 : V.cell? ⟨wr.heap.size, 3, none⟩ = some (.int .i64 Y) := by rw [hV]; simp [go_sem]
          rw [← hV]
          clear hV
          refine (HV.out _).mono ?_
          rintro e w2 ⟨rfl, f2⟩
          have d0 := fr_cell f2 d0
          have d1 := fr_cell f2 d1
          have d2 := fr_cell f2 d2
          have d3 := fr_cell f2 d3
          have F2 := hide ((hF.out.trans FV).trans f2)
          clear FV f2 HV
          cases ok
          · simp only [Bool.false_eq_true, if_false]
            go_wp2_with fail
            have e0 : ∀ p : FrBox w2, p.now.cell? ⟨wr.heap.size, 0, none⟩ = some (.int .i64 D) := fun p => fr_cell p.fr d0
            have e1 : ∀ p : FrBox w2, p.now.cell? ⟨wr.heap.size, 1, none⟩ = some (.bool N) := fun p => fr_cell p.fr d1
            have e2 : ∀ p : FrBox w2, p.now.cell? ⟨wr.heap.size, 2, none⟩ = some (.int .u64 (P : Int)) := fun p => fr_cell p.fr d2
            have e3 : ∀ p : FrBox w2, p.now.cell? ⟨wr.heap.size, 3, none⟩ = some (.int .i64 Y) := fun p => fr_cell p.fr d3
            have nb := FrBox.some w2
            refine wp_region_fr (by kernel_rfl) (by kernel_rfl) ?_
            repeat (quiet_step (fail))
            refine wpQuiet_nil ?_
            intro wq hq
            obtain ⟨u, hu⟩ := hq
            have fq := u.fr
            rw [← hu] at fq
            clear hu e0 e1 e2 e3 nb u
            go_wp2_with fail
            go_roundw
            case rel => exact ⟨k + 1, by omega, by go_num, F2.out.trans fq⟩
            case measure => simp [intOf]; omega
          · simp only [if_true]
            have hO := of_any7 T
            obtain ⟨g1, g2, g3, g4⟩ := HF.out rfl
            unfold bval at hO
            rw [g1, g2, g3, g4] at hO
            have HO := hide hO
            clear hO g1 g2 g3 g4 HF
            go_wp2_with fail
            have e0 : ∀ p : FrBox w2, p.now.cell? ⟨wr.heap.size, 0, none⟩ = some (.int .i64 D) := fun p => fr_cell p.fr d0
            have e1 : ∀ p : FrBox w2, p.now.cell? ⟨wr.heap.size, 1, none⟩ = some (.bool N) := fun p => fr_cell p.fr d1
            have e2 : ∀ p : FrBox w2, p.now.cell? ⟨wr.heap.size, 2, none⟩ = some (.int .u64 (P : Int)) := fun p => fr_cell p.fr d2
            have e3 : ∀ p : FrBox w2, p.now.cell? ⟨wr.heap.size, 3, none⟩ = some (.int .i64 Y) := fun p => fr_cell p.fr d3
            have k1 : Hid (∀ p : FrBox w2, Calls Try.prog 9 #[.int .u64 (T : Int)] p.now fun e w'' => e = .returned (.agg #[.int .i64 D, .bool N, .int .u64 (P : Int), .int .i64 Y]) ∧ ∃ p : FrBox w2, w'' = p.now) := fun p => Calls.fr_of (HO.out _ HL.out)
            have nb := FrBox.some w2
            refine wp_region_fr (by kernel_rfl) (by kernel_rfl) ?_
            repeat (quiet_step (with_reducible exact k1.out _))
            refine wpQuiet_nil ?_
            intro wq hq
            obtain ⟨u, hu⟩ := hq
            have fq := u.fr
            rw [← hu] at fq
            clear hu e0 e1 e2 e3 nb u k1
            go_wp2_with fail
            go_roundw
            case rel => exact ⟨k + 1, by omega, by go_num, F2.out.trans fq⟩
            case measure => simp [intOf]; omega
      · obtain rfl : k = 2 := by omega
        go_wp2_with fail
        refine (wakes_any _).mono ?_
        rintro e w5 ⟨rfl, f5⟩
        go_wp2_with fail
        go_ret
        exact ⟨rfl, (F1.out.trans hF.out).trans f5⟩
end Go.Proofs.Ytphoimjjhcjniaa
