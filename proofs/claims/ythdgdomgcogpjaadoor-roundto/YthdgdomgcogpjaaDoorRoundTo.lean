/- The law RoundTo. -/
import Derived.Test.YthdgdomgcogpjaaDoorRoundX
namespace Go.Proofs.YthdgdomgcogpjaaDoor
set_option linter.unusedVariables false
set_option linter.unusedSimpArgs false
open Go.RowKit

attribute [local go_sem] World.cell?_alloc_some

set_option maxHeartbeats 2000000 in
set_option maxRecDepth 4000 in
theorem law_RoundTo (b pl : Int) (w : World) (hbw : (Lit.int .u64 b).wf = true) (hp : (Lit.int .i64 pl).wf = true) (hL : Led w) :
    Calls Tryd.prog 4 #[.int .u64 b, .int .i64 pl] w fun e w' => e = .returned (.bool true) ∧ Fr w w' := by
  obtain ⟨b, rfl, hb⟩ := u64_nat hbw
  obtain ⟨hp0, hp1⟩ := i64_bds hp
  have HL := hide hL
  clear hL hp hbw
  by_cases hc : bC b ≤ 1
  · obtain ⟨m, hm⟩ : ∃ m, bM b = m := ⟨_, rfl⟩
    obtain ⟨x, hx⟩ : ∃ x, bX b = x := ⟨_, rfl⟩
    obtain ⟨n, hn⟩ : ∃ n, m * 2 ^ x.toNat = n := ⟨_, rfl⟩
    obtain ⟨d, hd⟩ : ∃ d, 2 ^ (-x).toNat = d := ⟨_, rfl⟩
    obtain ⟨D, hD⟩ : ∃ D, m * 2 ^ x.toNat * 5 ^ (-x).toNat = D := ⟨_, rfl⟩
    have hx2 : -1074 ≤ x ∧ x ≤ 971 := by rw [← hx]; exact bX_low b
    obtain ⟨sm, l1, l2, l3, l4, l5⟩ := value_facts m x (by rw [← hm]; exact bM_lt b) hx2.1 hx2.2 n d D hn hd hD
    have VY : Hid (Calls Tryd.prog 8 #[.int .u64 (b : Int)] w fun e w' => ∃ v dv, e = .returned (.tuple #[v, dv, .int .i64 ((-x).toNat : Int), .bool true]) ∧ IsRat w' v n d ∧ IsDec w' dv D ∧ Fr w w') := value_yes b w hb HL.out.1 hc m x hm hx n d D hn hd hD
    obtain ⟨k, hk⟩ : ∃ k, (-x).toNat = k := ⟨_, rfl⟩
    have hk1 : k ≤ 1074 := by omega
    rw [hk] at VY sm l5
    have l6 : nlen 10 D ≤ 3000 := by omega
    have l7 : (nlen 10 D : Int) - k ≤ 1100 := by omega
    have SM := hide sm
    clear hm hx hn hd hD hx2 sm l5 hk hc
    have b1 : nlen 2 n ≤ 3000 := by omega
    have b2 : nlen 2 d ≤ 3000 := by omega
    by_cases hz : D = 0
    · have hn0 := (zero_same SM.out).2 hz
      subst hz
      rw [nlen_zero] at *
      go_enter Tryd.func4, Tryd.ntmps4
      go_wp2_with fail
      refine VY.out.mono ?_
      rintro e w1 ⟨v1, dv, rfl, i1, j1, f1⟩
      have RV := hide i1
      have DV := hide j1
      have FW := hide f1
      obtain ⟨u1, u2, u3, u4, u5, u6, rfl⟩ := i1.form
      clear i1 j1 f1 VY
      go_wp2_with fail
      obtain ⟨W1, hW1⟩ : ∃ W, W = (w1.alloc (Obj.cells #[Value.slice u1 u2 u3, Value.slice u4 u5 u6] 27)) := ⟨_, rfl⟩
      have fy : Fr w1 W1 := by rw [hW1]; exact (Fr.alloc w1 (Obj.cells #[Value.slice u1 u2 u3, Value.slice u4 u5 u6] 27))
      have s5 : Slot2 w1 W1 (w1.heap.size) (.slice u1 u2 u3) (.slice u4 u5 u6) := by
        rw [hW1]; simpa using Slot2.new (Fr.refl w1) u1 u2 u3 u4 u5 u6 27
      rw [← hW1]
      clear hW1
      have S5 := hide s5
      have RV := hide (RV.out.fr fy)
      have DV := hide (DV.out.fr fy)
      have FW := hide (FW.out.trans fy)
      clear s5 fy
      refine (expR_no _ n d _ RV.out l3 l4 b1 b2 hn0).mono ?_
      rintro e w2 ⟨rfl, fy⟩
      have RV := hide (RV.out.fr fy)
      have DV := hide (DV.out.fr fy)
      have S5 := hide (S5.out.fr fy)
      have FW := hide (FW.out.trans fy)
      clear fy
      obtain ⟨y1, y2, rfl, -, -, -⟩ := DV.out
      rw [nlen_zero] at *
      go_upto_region 7 with fail
      have cw : Hid (∀ x y : Value, (w2.alloc (Obj.cells #[x, y] 3)).cell? ⟨w2.heap.size, 0, none⟩ = some x ∧ (w2.alloc (Obj.cells #[x, y] 3)).cell? ⟨w2.heap.size, 1, none⟩ = some y) := fun x y => row2_cells w2 x y _
      go_cut [60, 61, 62] (fun s29 s30 s31 wx => ∃ q : Int, 1 ≤ q ∧ q < 40 ∧ s29 = .slice (some ⟨w2.heap.size, 0, none⟩) 2 2 ∧ s30 = .int .i64 2 ∧ s31 = .int .i64 0 ∧ Hid (wx.cell? ⟨w2.heap.size, 0, none⟩ = some (.int .i64 pl) ∧ wx.cell? ⟨w2.heap.size, 1, none⟩ = some (.int .i64 q)) ∧ Hid (Fr w2 wx))
      case first =>
        go_wp2_with fail
        go_meet
        exact ⟨_, by omega, by omega, rfl, rfl, rfl, hide (cw.out _ _), hide (Fr.alloc _ _)⟩
      case rest =>
      obtain ⟨q, q0, q1, rfl, rfl, rfl, CW, FC⟩ := hcut
      obtain ⟨w3, hw3⟩ : ∃ V, V = wc := ⟨_, rfl⟩
      rw [← hw3] at CW FC ⊢
      clear hw3 cw
      have RV := hide (RV.out.fr FC.out)
      have DV := hide (DV.out.fr FC.out)
      have S5 := hide (S5.out.fr FC.out)
      have FW := hide (FW.out.trans FC.out)
      clear FC
      go_wp2_with fail
      have LP : Hid (∀ j : Nat, j < 2 → ∃ p : Int, -9223372036854775808 ≤ p ∧ p ≤ 9223372036854775807 ∧ w3.cell? ⟨w2.heap.size, j, none⟩ = some (.int .i64 p)) := by
        intro j hj
        rcases Nat.lt_or_ge j 1 with c | c
        · obtain rfl : j = 0 := by omega
          exact ⟨pl, hp0, hp1, CW.out.1⟩
        · obtain rfl : j = 1 := by omega
          exact ⟨q, by omega, by omega, CW.out.2⟩
      have FR := hide (Fr.refl w3)
      clear CW
      go_loopw [62] (fun s31 wr => ∃ j : Nat, j ≤ 2 ∧ s31 = .int .i64 j ∧ Hid (Fr w3 wr)) (fun s31 _ => 2 - (intOf s31).toNat)
      case atStart => exact ⟨0, by omega, rfl, FR⟩
      case round =>
        clear FR
        obtain ⟨j, hj, rfl, FR⟩ := hrel
        have FW := hide (FW.out.trans FR.out)
        by_cases c : j < 2
        · obtain ⟨p, pa, pb, hcell⟩ := LP.out j c
          have hcell := fr_cell FR.out hcell
          have c' : (j : Int) < 2 := by omega
          have RV := hide (RV.out.fr FR.out)
          have DV := hide (DV.out.fr FR.out)
          have S5 := hide (S5.out.fr FR.out)
          have q5 := S5.out.1
          have q5' := S5.out.2.1
          have e0 : (ByteArray.toList ⟨#[]⟩ != ByteArray.toList ⟨#[]⟩) = false := bne_self_eq_false _
          go_wp2_with fail
          refine (toR_zero _ n d _ RV.out l3 l4 b1 b2 p pa pb hn0).mono ?_
          rintro e w4 ⟨rfl, f4⟩
          have FR := hide (FR.out.trans f4)
          clear f4
          go_wp2_with fail
          go_roundw
          case rel => exact ⟨j + 1, by omega, by go_num, hide (FR.out.trans (Fr.alloc _ _))⟩
          case measure => simp [intOf]; omega
        · have c' : ¬ (j : Int) < 2 := by omega
          go_wp2_with fail
          refine (wakes_any _ (HL.out.fr FW.out)).mono ?_
          rintro e w3 ⟨rfl, f3⟩
          have FW := hide (FW.out.trans f3)
          clear f3
          go_wp2_with fail
          go_ret
          exact ⟨rfl, FW.out⟩
    · have hnp := nlen_pos ten2 hz
      obtain ⟨E, hE⟩ : ∃ E : Int, (nlen 10 D : Int) - 1 - k = E := ⟨_, rfl⟩
      have hE0 : -1500 ≤ E := by omega
      have hE1 : E ≤ 1500 := by omega
      have XE := hide (exp_same SM.out hz hE)
      have HE := hide hE
      go_enter Tryd.func4, Tryd.ntmps4
      go_wp2_with fail
      refine VY.out.mono ?_
      rintro e w1 ⟨v1, dv, rfl, i1, j1, f1⟩
      have RV := hide i1
      have DV := hide j1
      have FW := hide f1
      obtain ⟨u1, u2, u3, u4, u5, u6, rfl⟩ := i1.form
      clear i1 j1 f1 VY
      go_wp2_with fail
      obtain ⟨W1, hW1⟩ : ∃ W, W = (w1.alloc (Obj.cells #[Value.slice u1 u2 u3, Value.slice u4 u5 u6] 27)) := ⟨_, rfl⟩
      have fy : Fr w1 W1 := by rw [hW1]; exact (Fr.alloc w1 (Obj.cells #[Value.slice u1 u2 u3, Value.slice u4 u5 u6] 27))
      have s5 : Slot2 w1 W1 (w1.heap.size) (.slice u1 u2 u3) (.slice u4 u5 u6) := by
        rw [hW1]; simpa using Slot2.new (Fr.refl w1) u1 u2 u3 u4 u5 u6 27
      rw [← hW1]
      clear hW1
      have S5 := hide s5
      have RV := hide (RV.out.fr fy)
      have DV := hide (DV.out.fr fy)
      have FW := hide (FW.out.trans fy)
      clear s5 fy
      refine (expR_yes _ n d _ RV.out l3 l4 b1 b2 (HL.out.fr FW.out).1 E XE.out hE0 hE1).mono ?_
      rintro e w2 ⟨rfl, fy⟩
      have RV := hide (RV.out.fr fy)
      have DV := hide (DV.out.fr fy)
      have S5 := hide (S5.out.fr fy)
      have FW := hide (FW.out.trans fy)
      clear fy
      obtain ⟨y1, y2, rfl, -, -, -⟩ := DV.out
      have hnp' : (0 : Int) < nlen 10 D := by omega
      go_wp2_with fail
      refine (refExp_any _ D k _ DV.out (by omega) (by omega) E HE.out).mono ?_
      rintro e w2' ⟨rfl, rfl⟩
      obtain ⟨w2, rfl⟩ : ∃ V, V = w2' := ⟨_, rfl⟩
      have eE : (E != E) = false := bne_self_eq_false _
      go_upto_region 7 with fail
      have cw : Hid (∀ x y : Value, (w2.alloc (Obj.cells #[x, y] 3)).cell? ⟨w2.heap.size, 0, none⟩ = some x ∧ (w2.alloc (Obj.cells #[x, y] 3)).cell? ⟨w2.heap.size, 1, none⟩ = some y) := fun x y => row2_cells w2 x y _
      go_cut [60, 61, 62] (fun s29 s30 s31 wx => ∃ q : Int, 1 ≤ q ∧ q < 40 ∧ s29 = .slice (some ⟨w2.heap.size, 0, none⟩) 2 2 ∧ s30 = .int .i64 2 ∧ s31 = .int .i64 0 ∧ Hid (wx.cell? ⟨w2.heap.size, 0, none⟩ = some (.int .i64 pl) ∧ wx.cell? ⟨w2.heap.size, 1, none⟩ = some (.int .i64 q)) ∧ Hid (Fr w2 wx))
      case first =>
        go_wp2_with fail
        go_meet
        exact ⟨_, by omega, by omega, rfl, rfl, rfl, hide (cw.out _ _), hide (Fr.alloc _ _)⟩
      case rest =>
      obtain ⟨q, q0, q1, rfl, rfl, rfl, CW, FC⟩ := hcut
      obtain ⟨w3, hw3⟩ : ∃ V, V = wc := ⟨_, rfl⟩
      rw [← hw3] at CW FC ⊢
      clear hw3 cw
      have RV := hide (RV.out.fr FC.out)
      have DV := hide (DV.out.fr FC.out)
      have S5 := hide (S5.out.fr FC.out)
      have FW := hide (FW.out.trans FC.out)
      clear FC
      go_wp2_with fail
      have LP : Hid (∀ j : Nat, j < 2 → ∃ p : Int, -9223372036854775808 ≤ p ∧ p ≤ 9223372036854775807 ∧ w3.cell? ⟨w2.heap.size, j, none⟩ = some (.int .i64 p)) := by
        intro j hj
        rcases Nat.lt_or_ge j 1 with c | c
        · obtain rfl : j = 0 := by omega
          exact ⟨pl, hp0, hp1, CW.out.1⟩
        · obtain rfl : j = 1 := by omega
          exact ⟨q, by omega, by omega, CW.out.2⟩
      have FR := hide (Fr.refl w3)
      clear CW
      go_loopw [62] (fun s31 wr => ∃ j : Nat, j ≤ 2 ∧ s31 = .int .i64 j ∧ Hid (Fr w3 wr)) (fun s31 _ => 2 - (intOf s31).toNat)
      case atStart => exact ⟨0, by omega, rfl, FR⟩
      case round =>
        clear FR
        obtain ⟨j, hj, rfl, FR⟩ := hrel
        have FW := hide (FW.out.trans FR.out)
        by_cases c : j < 2
        · obtain ⟨p, pa, pb, hcell⟩ := LP.out j c
          have hcell := fr_cell FR.out hcell
          have c' : (j : Int) < 2 := by omega
          have RV := hide (RV.out.fr FR.out)
          have DV := hide (DV.out.fr FR.out)
          have S5 := hide (S5.out.fr FR.out)
          have q5 := S5.out.1
          have q5' := S5.out.2.1
          have e0 : (ByteArray.toList ⟨#[]⟩ != ByteArray.toList ⟨#[]⟩) = false := bne_self_eq_false _
          by_cases hr : p < 1 ∨ 400 < p
          · go_wp2_with fail
            refine (toR_out _ n d _ RV.out l3 l4 b1 b2 (HL.out.fr FW.out).1 E XE.out hE0 hE1 p pa pb hr).mono ?_
            rintro e w4 ⟨rfl, f4⟩
            have FR := hide (FR.out.trans f4)
            clear f4
            rcases hr with hr | hr
            · go_wp2_with fail
              go_roundw
              case rel => exact ⟨j + 1, by omega, by go_num, hide (FR.out.trans (Fr.alloc _ _))⟩
              case measure => simp [intOf]; omega
            · have hr' : ¬ p < 1 := by omega
              go_wp2_with fail
              go_roundw
              case rel => exact ⟨j + 1, by omega, by go_num, hide (FR.out.trans (Fr.alloc _ _))⟩
              case measure => simp [intOf]; omega
          · obtain ⟨P, rfl⟩ : ∃ P : Nat, p = P := ⟨p.toNat, by omega⟩
            have hP0 : 1 ≤ P := by omega
            have hP1 : P ≤ 400 := by omega
            obtain ⟨C, hC⟩ : ∃ C, cutN D k ((P : Int) - 1 - E) = C := ⟨_, rfl⟩
            have nC : nlen 10 C ≤ 20000 := by
              have := cut_size (k := k) (p := (P : Int) - 1 - E) l6
              rw [hC] at this
              omega
            have hC2 : rndN (n * 10 ^ (-E).toNat * 10 ^ (P - 1)) (d * 10 ^ E.toNat) = C := by rw [to_same hP0 SM.out, hC]
            obtain ⟨SD, hSD⟩ : ∃ SD, bs (sciD P C) = SD := ⟨_, rfl⟩
            obtain ⟨SE, hSE⟩ : ∃ SE, sciE P C E = SE := ⟨_, rfl⟩
            have HC := hide hC
            have HC2 := hide hC2
            have HSD := hide hSD
            have HSE := hide hSE
            have hp0' : ¬ (P : Int) < 1 := by omega
            have hp1' : ¬ 400 < (P : Int) := by omega
            have eD : (SD.toList != SD.toList) = false := bne_self_eq_false _
            have eS : (SE != SE) = false := bne_self_eq_false _
            clear hC hC2 hSD hSE hr
            go_wp2_with fail
            refine (toR_yes _ n d _ RV.out l3 l4 b1 b2 (HL.out.fr FW.out).1 (HL.out.fr FW.out).2 E XE.out hE0 hE1 P hP0 hP1 C HC2.out SD SE HSD.out HSE.out).mono ?_
            rintro e w4 ⟨rfl, f4⟩
            have FR := hide (FR.out.trans f4)
            have DV := hide (DV.out.fr f4)
            clear f4 q5 q5'
            go_wp2_with fail
            obtain ⟨W4, hW4⟩ : ∃ W, W = w4.alloc (Obj.cells #[.string SD, .int .i64 SE] 43) := ⟨_, rfl⟩
            have fy : Fr w4 W4 := by rw [hW4]; exact Fr.alloc _ _
            obtain ⟨x1, x2⟩ : W4.cell? ⟨w4.heap.size, 0, none⟩ = some (.string SD) ∧ W4.cell? ⟨w4.heap.size, 1, none⟩ = some (.int .i64 SE) := by rw [hW4]; exact row2_cells _ _ _ _
            rw [← hW4]
            clear hW4
            have FR := hide (FR.out.trans fy)
            have DV := hide (DV.out.fr fy)
            clear fy
            refine (refTo_round _ D k P _ DV.out (by omega) (by omega) hP0 hP1 E HE.out C HC.out nC SD SE HSD.out HSE.out).mono ?_
            rintro e w5 ⟨rfl, f5⟩
            have FR := hide (FR.out.trans f5)
            have x1 := fr_cell f5 x1
            have x2 := fr_cell f5 x2
            clear f5
            go_wp2_with fail
            go_roundw
            case rel => exact ⟨j + 1, by omega, by go_num, FR⟩
            case measure => simp [intOf]; omega
        · have c' : ¬ (j : Int) < 2 := by omega
          go_wp2_with fail
          refine (wakes_any _ (HL.out.fr FW.out)).mono ?_
          rintro e w3 ⟨rfl, f3⟩
          have FW := hide (FW.out.trans f3)
          clear f3
          go_wp2_with fail
          go_ret
          exact ⟨rfl, FW.out⟩
  · have VN := hide (value_no b w hb (by omega))
    go_enter Tryd.func4, Tryd.ntmps4
    go_wp2_with fail
    refine VN.out.mono ?_
    rintro e w1 ⟨rfl, f1⟩
    have FW := hide f1
    clear f1 VN
    go_wp2_with fail
    have FW := hide (FW.out.trans (Fr.alloc w1 (Obj.cells #[Value.slice none 0 0, Value.slice none 0 0] 27)))
    refine (wakes_any _ (HL.out.fr FW.out)).mono ?_
    rintro e w2 ⟨rfl, f2⟩
    have FW := hide (FW.out.trans f2)
    clear f2
    go_wp2_with fail
    go_ret
    exact ⟨rfl, FW.out⟩
end Go.Proofs.YthdgdomgcogpjaaDoor
