/- The law RoundAt. -/
import Derived.Test.YthdgdomgcogpjaaDoorRoundW
import Derived.Test.YthdgdomgcogpjaaDoorRoundY
namespace Go.Proofs.YthdgdomgcogpjaaDoor
set_option linter.unusedVariables false
set_option linter.unusedSimpArgs false
open Go.RowKit

attribute [local go_sem] World.cell?_alloc_some
theorem u64_nat {b : Int} (h : (Lit.int .u64 b).wf = true) : ∃ n : Nat, b = n ∧ n < 18446744073709551616 := by
  simp [Lit.wf, IntKind.min, IntKind.max, IntKind.signed, IntKind.bits] at h
  exact ⟨b.toNat, by omega, by omega⟩
theorem i64_bds {k : Int} (h : (Lit.int .i64 k).wf = true) : -9223372036854775808 ≤ k ∧ k ≤ 9223372036854775807 := by
  simp [Lit.wf, IntKind.min, IntKind.max, IntKind.signed, IntKind.bits] at h
  exact h
theorem row2_cells (w : World) (x y : Value) (t : TypeId) : (w.alloc (Obj.cells #[x, y] t)).cell? ⟨w.heap.size, 0, none⟩ = some x ∧ (w.alloc (Obj.cells #[x, y] t)).cell? ⟨w.heap.size, 1, none⟩ = some y := ⟨by simp [go_sem], by simp [go_sem]⟩

set_option maxHeartbeats 2000000 in
set_option maxRecDepth 4000 in
theorem law_RoundAt (b pl : Int) (w : World) (hbw : (Lit.int .u64 b).wf = true) (hp : (Lit.int .i64 pl).wf = true) (hL : Led w) :
    Calls Tryd.prog 3 #[.int .u64 b, .int .i64 pl] w fun e w' => e = .returned (.bool true) ∧ Fr w w' := by
  obtain ⟨b, rfl, hb⟩ := u64_nat hbw
  obtain ⟨hp0, hp1⟩ := i64_bds hp
  have HL := hide hL
  clear hL hp hbw
  by_cases hc : bC b ≤ 1
  · obtain ⟨m, hm⟩ : ∃ m, bM b = m := ⟨_, rfl⟩
    obtain ⟨x, hx⟩ : ∃ x, bX b = x := ⟨_, rfl⟩
    obtain ⟨n, hn⟩ : ∃ n, m * 2 ^ x.toNat = n := ⟨_, rfl⟩
    obtain ⟨d, hd⟩ : ∃ d, 2 ^ (-x).toNat = d := ⟨_, rfl⟩
    obtain ⟨D, hD⟩ : ∃ D, m * 2 ^ x.toNat * 5 ^ (-x).toNat = D := ⟨_, rfl⟩
    have hx2 : -1074 ≤ x ∧ x ≤ 971 := by rw [← hx]; exact bX_low b
    obtain ⟨sm, l1, l2, l3, l4, l5⟩ := value_facts m x (by rw [← hm]; exact bM_lt b) hx2.1 hx2.2 n d D hn hd hD
    have VY : Hid (Calls Tryd.prog 8 #[.int .u64 (b : Int)] w fun e w' => ∃ v dv, e = .returned (.tuple #[v, dv, .int .i64 ((-x).toNat : Int), .bool true]) ∧ IsRat w' v n d ∧ IsDec w' dv D ∧ Fr w w') := value_yes b w hb HL.out.1 hc m x hm hx n d D hn hd hD
    obtain ⟨k, hk⟩ : ∃ k, (-x).toNat = k := ⟨_, rfl⟩
    have hk1 : k ≤ 1074 := by omega
    rw [hk] at VY sm l5
    have l6 : nlen 10 D ≤ 3000 := by omega
    have SM := hide sm
    clear hm hx hn hd hD hx2 sm l5 hk hc
    go_enter Tryd.func3, Tryd.ntmps3
    go_wp2_with fail
    refine VY.out.mono ?_
    rintro e w1 ⟨v1, dv, rfl, i1, j1, f1⟩
    have RV := hide i1
    have DV := hide j1
    have FW := hide f1
    obtain ⟨u1, u2, u3, u4, u5, u6, rfl⟩ := i1.form
    clear i1 j1 f1 VY
    go_upto_region 4 with fail
    obtain ⟨W1, hW1⟩ : ∃ W, W = (w1.alloc (Obj.cells #[Value.slice u1 u2 u3, Value.slice u4 u5 u6] 27)) := ⟨_, rfl⟩
    have fy : Fr w1 W1 := by rw [hW1]; exact (Fr.alloc w1 (Obj.cells #[Value.slice u1 u2 u3, Value.slice u4 u5 u6] 27))
    have s5 : Slot2 w1 W1 (w1.heap.size) (.slice u1 u2 u3) (.slice u4 u5 u6) := by
      rw [hW1]; simpa using Slot2.new (Fr.refl w1) u1 u2 u3 u4 u5 u6 27
    rw [← hW1]
    clear hW1
    have S5 := hide s5
    have RV := hide (RV.out.fr fy)
    have DV := hide (DV.out.fr fy)
    have FW := hide (FW.out.trans fy)
    clear s5 fy
    have cw : Hid (∀ x y : Value, (W1.alloc (Obj.cells #[x, y] 3)).cell? ⟨W1.heap.size, 0, none⟩ = some x ∧ (W1.alloc (Obj.cells #[x, y] 3)).cell? ⟨W1.heap.size, 1, none⟩ = some y) := fun x y => row2_cells W1 x y _
    go_cut [29, 30, 31] (fun s29 s30 s31 wx => ∃ q : Int, 0 ≤ q ∧ q < 40 ∧ s29 = .slice (some ⟨W1.heap.size, 0, none⟩) 2 2 ∧ s30 = .int .i64 2 ∧ s31 = .int .i64 0 ∧ Hid (wx.cell? ⟨W1.heap.size, 0, none⟩ = some (.int .i64 pl) ∧ wx.cell? ⟨W1.heap.size, 1, none⟩ = some (.int .i64 q)) ∧ Hid (Fr W1 wx))
    case first =>
      go_wp2_with fail
      go_meet
      exact ⟨_, by omega, by omega, rfl, rfl, rfl, hide (cw.out _ _), hide (Fr.alloc _ _)⟩
    case rest =>
      obtain ⟨q, q0, q1, rfl, rfl, rfl, CW, FC⟩ := hcut
      obtain ⟨w2, hw2⟩ : ∃ V, V = wc := ⟨_, rfl⟩
      rw [← hw2] at CW FC ⊢
      clear hw2 cw
      have RV := hide (RV.out.fr FC.out)
      have DV := hide (DV.out.fr FC.out)
      have S5 := hide (S5.out.fr FC.out)
      have FW := hide (FW.out.trans FC.out)
      clear FC
      go_wp2_with fail
      have LP : Hid (∀ j : Nat, j < 2 → ∃ p : Int, -9223372036854775808 ≤ p ∧ p ≤ 9223372036854775807 ∧ w2.cell? ⟨W1.heap.size, j, none⟩ = some (.int .i64 p)) := by
        intro j hj
        rcases Nat.lt_or_ge j 1 with c | c
        · obtain rfl : j = 0 := by omega
          exact ⟨pl, hp0, hp1, CW.out.1⟩
        · obtain rfl : j = 1 := by omega
          exact ⟨q, by omega, by omega, CW.out.2⟩
      have FR := hide (Fr.refl w2)
      clear CW
      go_loopw [31] (fun s31 wr => ∃ j : Nat, j ≤ 2 ∧ s31 = .int .i64 j ∧ Hid (Fr w2 wr)) (fun s31 _ => 2 - (intOf s31).toNat)
      case atStart => exact ⟨0, by omega, rfl, FR⟩
      case round =>
        clear FR
        obtain ⟨j, hj, rfl, FR⟩ := hrel
        have FW := hide (FW.out.trans FR.out)
        by_cases c : j < 2
        · obtain ⟨p, pa, pb, hcell⟩ := LP.out j c
          have hcell := fr_cell FR.out hcell
          have c' : (j : Int) < 2 := by omega
          have RV := hide (RV.out.fr FR.out)
          have DV := hide (DV.out.fr FR.out)
          have S5 := hide (S5.out.fr FR.out)
          have q5 := S5.out.1
          have q5' := S5.out.2.1
          by_cases hr : p < 0 ∨ 400 < p
          · go_wp2_with fail
            refine (atR_out _ n d _ RV.out p pa pb hr).mono ?_
            rintro e w3 ⟨rfl, f3⟩
            have FR := hide (FR.out.trans f3)
            clear f3
            have e0 : (ByteArray.toList ⟨#[]⟩ != ByteArray.toList ⟨#[]⟩) = false := bne_self_eq_false _
            rcases hr with hr | hr
            · go_wp2_with fail
              go_roundw
              case rel => exact ⟨j + 1, by omega, by go_num, hide (FR.out.trans (Fr.alloc _ _))⟩
              case measure => simp [intOf]; omega
            · have hr' : ¬ p < 0 := by omega
              go_wp2_with fail
              go_roundw
              case rel => exact ⟨j + 1, by omega, by go_num, hide (FR.out.trans (Fr.alloc _ _))⟩
              case measure => simp [intOf]; omega
          · obtain ⟨P, rfl⟩ : ∃ P : Nat, p = P := ⟨p.toNat, by omega⟩
            have hP1 : P ≤ 400 := by omega
            have nC : nlen 10 (cutN D k P) ≤ 20000 := by
              have := cut_size (k := k) (p := (P : Int)) l6
              omega
            obtain ⟨C, hC⟩ : ∃ C, cutN D k P = C := ⟨_, rfl⟩
            have hC2 : rndN (n * 10 ^ P) d = C := by rw [at_same SM.out, hC]
            rw [hC] at nC
            obtain ⟨SW, hSW⟩ : ∃ SW, bs (wD P C) = SW := ⟨_, rfl⟩
            obtain ⟨SF, hSF⟩ : ∃ SF, bs (fD P C) = SF := ⟨_, rfl⟩
            have HC := hide hC
            have HC2 := hide hC2
            have HSW := hide hSW
            have HSF := hide hSF
            have hp0' : ¬ (P : Int) < 0 := by omega
            have hp1' : ¬ 400 < (P : Int) := by omega
            have eW : (SW.toList != SW.toList) = false := bne_self_eq_false _
            have eF : (SF.toList != SF.toList) = false := bne_self_eq_false _
            clear hC hC2 hSW hSF hr
            go_wp2_with fail
            refine (atR_any _ n d _ (HL.out.fr FW.out).1 (HL.out.fr FW.out).2 RV.out l3 l4 P hP1 C HC2.out SW SF HSW.out HSF.out).mono ?_
            rintro e w3 ⟨rfl, f3⟩
            have FR := hide (FR.out.trans f3)
            have DV := hide (DV.out.fr f3)
            clear f3 q5 q5'
            go_wp2_with fail
            obtain ⟨W3, hW3⟩ : ∃ W, W = w3.alloc (Obj.cells #[.string SW, .string SF] 33) := ⟨_, rfl⟩
            have fy : Fr w3 W3 := by rw [hW3]; exact Fr.alloc _ _
            obtain ⟨x1, x2⟩ : W3.cell? ⟨w3.heap.size, 0, none⟩ = some (.string SW) ∧ W3.cell? ⟨w3.heap.size, 1, none⟩ = some (.string SF) := by rw [hW3]; exact row2_cells _ _ _ _
            rw [← hW3]
            clear hW3
            have FR := hide (FR.out.trans fy)
            have DV := hide (DV.out.fr fy)
            clear fy
            refine (refAt_round _ D k P _ DV.out (by omega) (by omega) hP1 C HC.out nC SW SF HSW.out HSF.out).mono ?_
            rintro e w4 ⟨rfl, f4⟩
            have FR := hide (FR.out.trans f4)
            have x1 := fr_cell f4 x1
            have x2 := fr_cell f4 x2
            clear f4
            go_wp2_with fail
            go_roundw
            case rel => exact ⟨j + 1, by omega, by go_num, FR⟩
            case measure => simp [intOf]; omega
        · have c' : ¬ (j : Int) < 2 := by omega
          go_wp2_with fail
          refine (wakes_any _ (HL.out.fr FW.out)).mono ?_
          rintro e w3 ⟨rfl, f3⟩
          have FW := hide (FW.out.trans f3)
          clear f3
          go_wp2_with fail
          go_ret
          exact ⟨rfl, FW.out⟩
  · have VN := hide (value_no b w hb (by omega))
    go_enter Tryd.func3, Tryd.ntmps3
    go_wp2_with fail
    refine VN.out.mono ?_
    rintro e w1 ⟨rfl, f1⟩
    have FW := hide f1
    clear f1 VN
    go_wp2_with fail
    have FW := hide (FW.out.trans (Fr.alloc w1 (Obj.cells #[Value.slice none 0 0, Value.slice none 0 0] 27)))
    refine (wakes_any _ (HL.out.fr FW.out)).mono ?_
    rintro e w2 ⟨rfl, f2⟩
    have FW := hide (FW.out.trans f2)
    clear f2
    go_wp2_with fail
    go_ret
    exact ⟨rfl, FW.out⟩
end Go.Proofs.YthdgdomgcogpjaaDoor
