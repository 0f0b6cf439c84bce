/- The law RoundSteps. -/
import Derived.Test.YthdgdomgcogpjaaDoorRoundM
namespace Go.Proofs.YthdgdomgcogpjaaDoor
set_option linter.unusedVariables false
set_option linter.unusedSimpArgs false
open Go.RowKit

attribute [local go_sem] World.cell?_alloc_some
theorem cmpZ_neg {a b : Nat} (h : a < b) : cmpZ a b = -1 := if_pos h
theorem cmpZ_same (a : Nat) : cmpZ a a = 0 := by unfold cmpZ; rw [if_neg (by omega), if_pos rfl]
theorem cmpZ_pos {a b : Nat} (h : b < a) : cmpZ a b = 1 := by unfold cmpZ; rw [if_neg (by omega), if_neg (by omega)]
theorem rnd_top' {a b : Nat} : rndN a b ≤ a + 1 := by
  unfold rndN
  have := Nat.div_le_self a b
  split <;> omega
/-- A half of the step at most. -/
theorem steps_half {x y z C : Nat} (hy : y ≠ 0) (hz : z ≠ 0) (hC : rndN (x * 7) (y * z) = C) : ∃ Z : Int, cmpZ (awayN (x * 7) (C * z * y) * (7 * 2)) (z * 1 * (y * 7)) = Z ∧ (Z = -1 ∨ (Z = 0 ∧ cmpZ (C * z * y) (x * 7) = 1)) := by
  have hb : y * z ≠ 0 := Nat.mul_ne_zero hy hz
  obtain ⟨h1, h2⟩ := rnd_half (a := x * 7) hb
  rw [hC] at h1 h2
  have e1 : y * z * C = C * z * y := by ac_rfl
  rw [e1] at h1 h2
  have e2 : z * 1 * (y * 7) = (y * z) * 7 := by rw [Nat.mul_one]; ac_rfl
  rw [e2]
  have ea : awayN (x * 7) (C * z * y) = (x * 7 - C * z * y) + (C * z * y - x * 7) := by unfold awayN; first | rfl | (split <;> omega)
  rw [ea]
  generalize C * z * y = q at *
  generalize y * z = b at *
  generalize x * 7 = a at *
  refine ⟨_, rfl, ?_⟩
  rcases Nat.lt_or_ge (2 * ((a - q) + (q - a))) b with c | c
  · exact .inl (cmpZ_neg (by omega))
  · have c' : 2 * ((a - q) + (q - a)) = b := by omega
    refine .inr ⟨?_, cmpZ_pos (h2 c')⟩
    rw [show ((a - q) + (q - a)) * (7 * 2) = b * 7 by omega]
    exact cmpZ_same _

set_option maxHeartbeats 4000000 in
set_option maxRecDepth 4000 in
theorem law_RoundSteps (a0 : Option Addr) (len0 cap0 : Nat) (z0 : List Int) (a1 : Option Addr) (len1 cap1 : Nat) (z1 : List Int) (a2 : Option Addr) (len2 cap2 : Nat) (z2 : List Int) (w : World) (h0 : IsRow .u32 w a0 len0 cap0 z0) (h1 : IsRow .u32 w a1 len1 cap1 z1) (h2 : IsRow .u32 w a2 len2 cap2 z2) (hL : Led w) :
    Calls Tryd.prog 6 #[.slice a0 len0 cap0, .slice a1 len1 cap1, .slice a2 len2 cap2] w fun e w' => e = .returned (.bool true) ∧ Fr w w' := by
  obtain ⟨k0, x, kB0, kl0, kc0, km0, km'0, nx, kn0, Mx⟩ := came9 3 (by omega) h0
  have kmin0 : min (len0 : Int) 3 = k0 := km'0
  have kt0 : (k0 : Int).toNat = k0 := by omega
  have kg0 : (k0 : Int) ≤ cap0 := by omega
  have kh0 : k0 ≤ cap0 := by omega
  clear km'0 h0
  obtain ⟨k1, y, kB1, kl1, kc1, km1, km'1, ny, kn1, My⟩ := came9 3 (by omega) h1
  have kmin1 : min (len1 : Int) 3 = k1 := km'1
  have kt1 : (k1 : Int).toNat = k1 := by omega
  have kg1 : (k1 : Int) ≤ cap1 := by omega
  have kh1 : k1 ≤ cap1 := by omega
  clear km'1 h1
  obtain ⟨k2, z, kB2, kl2, kc2, km2, km'2, nz, kn2, Mz⟩ := came9 3 (by omega) h2
  have kmin2 : min (len2 : Int) 3 = k2 := km'2
  have kt2 : (k2 : Int).toNat = k2 := by omega
  have kg2 : (k2 : Int) ≤ cap2 := by omega
  have kh2 : k2 ≤ cap2 := by omega
  clear km'2 h2
  have HL := hide hL
  obtain ⟨ok, hok⟩ : ∃ ok : Bool, decide (y ≠ 0) = ok := ⟨_, rfl⟩
  have HOK := hide hok
  have n7 := n32_small (x := 7) (by omega)
  have n1 := n32_small (x := 1) (by omega)
  have n2 := n32_small (x := 2) (by omega)
  clear hL hok
  go_enter Tryd.func6, Tryd.ntmps6
  go_upto_region 1 with fail
  go_cut [7, 8] (fun s7 s8 wx => ∃ b r1 r2 r3 r4 r5 r6, s7 = .pointer (some ⟨b, 0, none⟩) ∧ s8 = .bool ok ∧ Hid (Slot2 w wx b (.slice r1 r2 r3) (.slice r4 r5 r6)) ∧ Hid (RatIf wx (.agg #[.slice r1 r2 r3, .slice r4 r5 r6]) x y) ∧ Hid (Fr w wx))
  case first =>
    refine wp_region_held_drew (S := (fun w' => Fr w w')) (by kernel_rfl) ?_ (fun hHeld => ?_)
    · exact Fr.drew _
    have fz := hide (Fr.drew w)
    generalize w.drew = wd at fz hHeld ⊢
    refine wpAnyH_take (i := 0) (v := ?_) rfl (by kernel_rfl) (by kernel_rfl) (by kernel_rfl) (fun _ _ _ h => h) (Or.inl ⟨by rfl, ?_⟩) (by assumption) ?_
    rotate_left
    · (intro w hSw; (try dsimp only at hSw); go_simp; try with_reducible rfl)
    (try simp only [Act.put, List.getElem_toArray, List.getElem_cons_zero, List.getElem_cons_succ, List.setIfInBounds_toArray, List.set_cons_zero, List.set_cons_succ])
    refine wpAnyH_take (i := 1) (v := ?_) rfl (by kernel_rfl) (by kernel_rfl) (by kernel_rfl) (fun _ _ _ h => h) (Or.inl ⟨by rfl, ?_⟩) (by assumption) ?_
    rotate_left
    · (intro w hSw; (try dsimp only at hSw); go_simp; try with_reducible rfl)
    (try simp only [Act.put, List.getElem_toArray, List.getElem_cons_zero, List.getElem_cons_succ, List.setIfInBounds_toArray, List.set_cons_zero, List.set_cons_succ])
    refine wpAnyH_take (i := 2) (v := ?_) rfl (by kernel_rfl) (by kernel_rfl) (by kernel_rfl) (fun _ _ _ h => h) (Or.inl ⟨by rfl, ?_⟩) (by assumption) ?_
    rotate_left
    · (intro w hSw; (try dsimp only at hSw); go_simp; try with_reducible rfl)
    (try simp only [Act.put, List.getElem_toArray, List.getElem_cons_zero, List.getElem_cons_succ, List.setIfInBounds_toArray, List.set_cons_zero, List.set_cons_succ])
    refine wpAnyH_take (i := 3) (v := ?_) rfl (by kernel_rfl) (by kernel_rfl) (by kernel_rfl) (fun _ _ _ h => h) (Or.inl ⟨by rfl, ?_⟩) (by assumption) ?_
    rotate_left
    · (intro w hSw; (try dsimp only at hSw); go_simp; try with_reducible rfl)
    (try simp only [Act.put, List.getElem_toArray, List.getElem_cons_zero, List.getElem_cons_succ, List.setIfInBounds_toArray, List.set_cons_zero, List.set_cons_succ])
    refine wpAnyH_take (i := 4) (v := ?_) rfl (by kernel_rfl) (by kernel_rfl) (by kernel_rfl) (fun _ _ _ h => h) (Or.inl ⟨by rfl, ?_⟩) (by assumption) ?_
    rotate_left
    · (intro w hSw; (try dsimp only at hSw); go_simp; try with_reducible rfl)
    (try simp only [Act.put, List.getElem_toArray, List.getElem_cons_zero, List.getElem_cons_succ, List.setIfInBounds_toArray, List.set_cons_zero, List.set_cons_succ])
    refine wpAnyH_take (i := 6) (v := ?_) rfl (by kernel_rfl) (by kernel_rfl) (by kernel_rfl) (fun _ _ _ h => h) (Or.inl ⟨by rfl, ?_⟩) (by assumption) ?_
    rotate_left
    · (intro w hSw; (try dsimp only at hSw); go_simp; try with_reducible rfl)
    (try simp only [Act.put, List.getElem_toArray, List.getElem_cons_zero, List.getElem_cons_succ, List.setIfInBounds_toArray, List.set_cons_zero, List.set_cons_succ])
    refine wpAnyH_take (i := 7) (v := ?_) rfl (by kernel_rfl) (by kernel_rfl) (by kernel_rfl) (fun _ _ _ h => h) (Or.inl ⟨by rfl, ?_⟩) (by assumption) ?_
    rotate_left
    · (intro w hSw; (try dsimp only at hSw); go_simp; try with_reducible rfl)
    (try simp only [Act.put, List.getElem_toArray, List.getElem_cons_zero, List.getElem_cons_succ, List.setIfInBounds_toArray, List.set_cons_zero, List.set_cons_succ])
    refine wpAnyH_take (i := 8) (v := ?_) rfl (by kernel_rfl) (by kernel_rfl) (by kernel_rfl) (fun _ _ _ h => h) (Or.inl ⟨by rfl, ?_⟩) (by assumption) ?_
    rotate_left
    · (intro w hSw; (try dsimp only at hSw); go_simp; try with_reducible rfl)
    (try simp only [Act.put, List.getElem_toArray, List.getElem_cons_zero, List.getElem_cons_succ, List.setIfInBounds_toArray, List.set_cons_zero, List.set_cons_succ])
    refine wpAnyH_take (i := 9) (v := ?_) rfl (by kernel_rfl) (by kernel_rfl) (by kernel_rfl) (fun _ _ _ h => h) (Or.inl ⟨by rfl, ?_⟩) (by assumption) ?_
    rotate_left
    · (intro w hSw; (try dsimp only at hSw); go_simp; try with_reducible rfl)
    (try simp only [Act.put, List.getElem_toArray, List.getElem_cons_zero, List.getElem_cons_succ, List.setIfInBounds_toArray, List.set_cons_zero, List.set_cons_succ])
    refine wpAnyH_take (i := 10) (v := ?_) rfl (by kernel_rfl) (by kernel_rfl) (by kernel_rfl) (fun _ _ _ h => h) (Or.inl ⟨by rfl, ?_⟩) (by assumption) ?_
    rotate_left
    · (intro w hSw; (try dsimp only at hSw); go_simp; try with_reducible rfl)
    (try simp only [Act.put, List.getElem_toArray, List.getElem_cons_zero, List.getElem_cons_succ, List.setIfInBounds_toArray, List.set_cons_zero, List.set_cons_succ])
    refine wpAnyH_ready (rs := [5, 16]) (by kernel_rfl) (by simp) ?_
    refine AllReadyH.cons rfl (fun K hK => ?_) (AllReadyH.cons rfl (fun K hK => ?_) AllReadyH.nil)
    · skip
      go_simp
      refine (Mx.out _ fz.out).mono ?_
      rintro e wa ⟨a3, c3, rfl, i3, fy⟩
      have I3 := hide i3
      clear i3
      have fz := hide (fz.out.trans fy)
      clear fy
      (try go_wp2_with fail)
      refine hK.out _ _ ?_ (fun hHeld => ?_)
      · (try dsimp only)
        exact fz.out
      clear hK K
      (try simp only [Act.put, List.getElem_toArray, List.getElem_cons_zero, List.getElem_cons_succ, List.setIfInBounds_toArray, List.set_cons_zero, List.set_cons_succ])
      refine wpAnyH_ready (rs := [11, 16]) (by kernel_rfl) (by simp) ?_
      refine AllReadyH.cons rfl (fun K hK => ?_) (AllReadyH.cons rfl (fun K hK => ?_) AllReadyH.nil)
      · skip
        go_simp
        refine (My.out _ fz.out).mono ?_
        rintro e wb ⟨a4, c4, rfl, i4, fy⟩
        have I4 := hide i4
        clear i4
        have I3 := hide (I3.out.fr fy)
        have fz := hide (fz.out.trans fy)
        clear fy
        (try go_wp2_with fail)
        refine hK.out _ _ ?_ (fun hHeld => ?_)
        · (try dsimp only)
          exact fz.out
        clear hK K
        (try simp only [Act.put, List.getElem_toArray, List.getElem_cons_zero, List.getElem_cons_succ, List.setIfInBounds_toArray, List.set_cons_zero, List.set_cons_succ])
        refine wpAnyH_ready (rs := [12, 16]) (by kernel_rfl) (by simp) ?_
        refine AllReadyH.cons rfl (fun K hK => ?_) (AllReadyH.cons rfl (fun K hK => ?_) AllReadyH.nil)
        · skip
          go_simp
          refine (ofR_both _ _ x y _ (HL.out.fr fz.out).1 I3.out I4.out (by omega) (by omega) ok HOK.out).mono ?_
          rintro e wg ⟨x1, x2, x3, x4, x5, x6, rfl, i5, fy⟩
          have I5 := hide i5
          clear i5
          have I3 := hide (I3.out.fr fy)
          have I4 := hide (I4.out.fr fy)
          have fz := hide (fz.out.trans fy)
          clear fy
          (try go_wp2_with fail)
          refine hK.out _ _ ?_ (fun hHeld => ?_)
          · (try dsimp only)
            exact fz.out
          clear hK K
          (try simp only [Act.put, List.getElem_toArray, List.getElem_cons_zero, List.getElem_cons_succ, List.setIfInBounds_toArray, List.set_cons_zero, List.set_cons_succ])
          refine wpAnyH_take (i := 13) (v := ?_) rfl (by kernel_rfl) (by kernel_rfl) (by kernel_rfl) (fun _ _ _ h => h) (Or.inl ⟨by rfl, ?_⟩) (by assumption) ?_
          rotate_left
          · (intro w hSw; (try dsimp only at hSw); go_simp; try with_reducible rfl)
          (try simp only [Act.put, List.getElem_toArray, List.getElem_cons_zero, List.getElem_cons_succ, List.setIfInBounds_toArray, List.set_cons_zero, List.set_cons_succ])
          refine wpAnyH_take (i := 14) (v := ?_) rfl (by kernel_rfl) (by kernel_rfl) (by kernel_rfl) (fun _ _ _ h => h) (Or.inl ⟨by rfl, ?_⟩) (by assumption) ?_
          rotate_left
          · (intro w hSw; (try dsimp only at hSw); go_simp; try with_reducible rfl)
          (try simp only [Act.put, List.getElem_toArray, List.getElem_cons_zero, List.getElem_cons_succ, List.setIfInBounds_toArray, List.set_cons_zero, List.set_cons_succ])
          refine wpAnyH_take (i := 15) (v := ?_) rfl (by kernel_rfl) (by kernel_rfl) (by kernel_rfl) (fun _ _ _ h => h) (Or.inl ⟨by rfl, ?_⟩) (by assumption) ?_
          rotate_left
          · (intro w hSw; (try dsimp only at hSw); go_simp; try with_reducible rfl)
          (try simp only [Act.put, List.getElem_toArray, List.getElem_cons_zero, List.getElem_cons_succ, List.setIfInBounds_toArray, List.set_cons_zero, List.set_cons_succ])
          refine wpAnyH_ready (rs := [16]) (by kernel_rfl) (by simp) ?_
          refine AllReadyH.cons rfl (fun K hK => ?_) AllReadyH.nil
          obtain ⟨bA, hbA⟩ : ∃ b, b = wg.heap.size := ⟨_, rfl⟩
          have fy := Fr.alloc wg (Obj.cells #[Value.slice none 0 0, Value.slice none 0 0] 27)
          have SA : Hid (Slot2 w (wg.alloc (Obj.cells #[Value.slice none 0 0, Value.slice none 0 0] 27)) bA (.slice none 0 0) (.slice none 0 0)) := by rw [hbA]; exact hide (Slot2.new fz.out none 0 0 none 0 0 27)
          have I3 := hide (I3.out.fr fy)
          have I4 := hide (I4.out.fr fy)
          have I5 := hide (I5.out.fr fy)
          have fz := hide (fz.out.trans fy)
          clear fy
          go_simp
          rw [← hbA]
          refine hK.out _ _ ?_ (fun hHeld => ?_)
          · (try dsimp only)
            exact fz.out
          clear hK K
          (try simp only [Act.put, List.getElem_toArray, List.getElem_cons_zero, List.getElem_cons_succ, List.setIfInBounds_toArray, List.set_cons_zero, List.set_cons_succ])
          obtain ⟨wA, hwA⟩ : ∃ wA, wA = wg.alloc (Obj.cells #[Value.slice none 0 0, Value.slice none 0 0] 27) := ⟨_, rfl⟩
          rw [← hwA] at fz SA hHeld I3 I4 I5 ⊢
          clear hwA hbA
          refine wpAnyH_ready (rs := [17]) (by kernel_rfl) (by simp) ?_
          refine AllReadyH.cons rfl (fun K hK => ?_) AllReadyH.nil
          have q_ := SA.out.1
          have q2_ := SA.out.2.1
          have z_ := SA.out.2.2.1 0
          have z2_ := SA.out.2.2.1 1
          have I5 := hide (SA.out.ratif I5.out x1 x2 x3 (.slice x4 x5 x6))
          have fz := hide (SA.out.set_fr fz.out (.slice x1 x2 x3) (.slice x4 x5 x6))
          have SA := hide (SA.out.set x1 x2 x3 x4 x5 x6)
          go_simp
          (try go_wp2_with fail)
          refine hK.out _ _ ?_ (fun hHeld => ?_)
          · (try dsimp only)
            exact fz.out
          clear hK K
          (try simp only [Act.put, List.getElem_toArray, List.getElem_cons_zero, List.getElem_cons_succ, List.setIfInBounds_toArray, List.set_cons_zero, List.set_cons_succ])
          refine wpAnyH_take (i := 18) (v := ?_) rfl (by kernel_rfl) (by kernel_rfl) (by kernel_rfl) (fun _ _ _ h => h) (Or.inl ⟨by rfl, ?_⟩) (by assumption) ?_
          rotate_left
          · (intro w hSw; (try dsimp only at hSw); go_simp; try with_reducible rfl)
          (try simp only [Act.put, List.getElem_toArray, List.getElem_cons_zero, List.getElem_cons_succ, List.setIfInBounds_toArray, List.set_cons_zero, List.set_cons_succ])
          refine wpAnyH_done (by kernel_rfl) ?_ _
          go_wp2_with fail
          go_meet
          exact ⟨_, _, _, _, _, _, _, rfl, rfl, SA, I5, fz⟩
        · skip
          obtain ⟨bA, hbA⟩ : ∃ b, b = wb.heap.size := ⟨_, rfl⟩
          have fy := Fr.alloc wb (Obj.cells #[Value.slice none 0 0, Value.slice none 0 0] 27)
          have SA : Hid (Slot2 w (wb.alloc (Obj.cells #[Value.slice none 0 0, Value.slice none 0 0] 27)) bA (.slice none 0 0) (.slice none 0 0)) := by rw [hbA]; exact hide (Slot2.new fz.out none 0 0 none 0 0 27)
          have I3 := hide (I3.out.fr fy)
          have I4 := hide (I4.out.fr fy)
          have fz := hide (fz.out.trans fy)
          clear fy
          go_simp
          rw [← hbA]
          refine hK.out _ _ ?_ (fun hHeld => ?_)
          · (try dsimp only)
            exact fz.out
          clear hK K
          (try simp only [Act.put, List.getElem_toArray, List.getElem_cons_zero, List.getElem_cons_succ, List.setIfInBounds_toArray, List.set_cons_zero, List.set_cons_succ])
          obtain ⟨wA, hwA⟩ : ∃ wA, wA = wb.alloc (Obj.cells #[Value.slice none 0 0, Value.slice none 0 0] 27) := ⟨_, rfl⟩
          rw [← hwA] at fz SA hHeld I3 I4 ⊢
          clear hwA hbA
          refine wpAnyH_ready (rs := [12]) (by kernel_rfl) (by simp) ?_
          refine AllReadyH.cons rfl (fun K hK => ?_) AllReadyH.nil
          go_simp
          refine (ofR_both _ _ x y _ (HL.out.fr fz.out).1 I3.out I4.out (by omega) (by omega) ok HOK.out).mono ?_
          rintro e wg ⟨x1, x2, x3, x4, x5, x6, rfl, i5, fy⟩
          have I5 := hide i5
          clear i5
          have I3 := hide (I3.out.fr fy)
          have I4 := hide (I4.out.fr fy)
          have SA := hide (SA.out.fr fy)
          have fz := hide (fz.out.trans fy)
          clear fy
          (try go_wp2_with fail)
          refine hK.out _ _ ?_ (fun hHeld => ?_)
          · (try dsimp only)
            exact fz.out
          clear hK K
          (try simp only [Act.put, List.getElem_toArray, List.getElem_cons_zero, List.getElem_cons_succ, List.setIfInBounds_toArray, List.set_cons_zero, List.set_cons_succ])
          refine wpAnyH_take (i := 13) (v := ?_) rfl (by kernel_rfl) (by kernel_rfl) (by kernel_rfl) (fun _ _ _ h => h) (Or.inl ⟨by rfl, ?_⟩) (by assumption) ?_
          rotate_left
          · (intro w hSw; (try dsimp only at hSw); go_simp; try with_reducible rfl)
          (try simp only [Act.put, List.getElem_toArray, List.getElem_cons_zero, List.getElem_cons_succ, List.setIfInBounds_toArray, List.set_cons_zero, List.set_cons_succ])
          refine wpAnyH_take (i := 14) (v := ?_) rfl (by kernel_rfl) (by kernel_rfl) (by kernel_rfl) (fun _ _ _ h => h) (Or.inl ⟨by rfl, ?_⟩) (by assumption) ?_
          rotate_left
          · (intro w hSw; (try dsimp only at hSw); go_simp; try with_reducible rfl)
          (try simp only [Act.put, List.getElem_toArray, List.getElem_cons_zero, List.getElem_cons_succ, List.setIfInBounds_toArray, List.set_cons_zero, List.set_cons_succ])
          refine wpAnyH_take (i := 15) (v := ?_) rfl (by kernel_rfl) (by kernel_rfl) (by kernel_rfl) (fun _ _ _ h => h) (Or.inl ⟨by rfl, ?_⟩) (by assumption) ?_
          rotate_left
          · (intro w hSw; (try dsimp only at hSw); go_simp; try with_reducible rfl)
          (try simp only [Act.put, List.getElem_toArray, List.getElem_cons_zero, List.getElem_cons_succ, List.setIfInBounds_toArray, List.set_cons_zero, List.set_cons_succ])
          refine wpAnyH_ready (rs := [17]) (by kernel_rfl) (by simp) ?_
          refine AllReadyH.cons rfl (fun K hK => ?_) AllReadyH.nil
          have q_ := SA.out.1
          have q2_ := SA.out.2.1
          have z_ := SA.out.2.2.1 0
          have z2_ := SA.out.2.2.1 1
          have I5 := hide (SA.out.ratif I5.out x1 x2 x3 (.slice x4 x5 x6))
          have fz := hide (SA.out.set_fr fz.out (.slice x1 x2 x3) (.slice x4 x5 x6))
          have SA := hide (SA.out.set x1 x2 x3 x4 x5 x6)
          go_simp
          (try go_wp2_with fail)
          refine hK.out _ _ ?_ (fun hHeld => ?_)
          · (try dsimp only)
            exact fz.out
          clear hK K
          (try simp only [Act.put, List.getElem_toArray, List.getElem_cons_zero, List.getElem_cons_succ, List.setIfInBounds_toArray, List.set_cons_zero, List.set_cons_succ])
          refine wpAnyH_take (i := 18) (v := ?_) rfl (by kernel_rfl) (by kernel_rfl) (by kernel_rfl) (fun _ _ _ h => h) (Or.inl ⟨by rfl, ?_⟩) (by assumption) ?_
          rotate_left
          · (intro w hSw; (try dsimp only at hSw); go_simp; try with_reducible rfl)
          (try simp only [Act.put, List.getElem_toArray, List.getElem_cons_zero, List.getElem_cons_succ, List.setIfInBounds_toArray, List.set_cons_zero, List.set_cons_succ])
          refine wpAnyH_done (by kernel_rfl) ?_ _
          go_wp2_with fail
          go_meet
          exact ⟨_, _, _, _, _, _, _, rfl, rfl, SA, I5, fz⟩
      · skip
        obtain ⟨bA, hbA⟩ : ∃ b, b = wa.heap.size := ⟨_, rfl⟩
        have fy := Fr.alloc wa (Obj.cells #[Value.slice none 0 0, Value.slice none 0 0] 27)
        have SA : Hid (Slot2 w (wa.alloc (Obj.cells #[Value.slice none 0 0, Value.slice none 0 0] 27)) bA (.slice none 0 0) (.slice none 0 0)) := by rw [hbA]; exact hide (Slot2.new fz.out none 0 0 none 0 0 27)
        have I3 := hide (I3.out.fr fy)
        have fz := hide (fz.out.trans fy)
        clear fy
        go_simp
        rw [← hbA]
        refine hK.out _ _ ?_ (fun hHeld => ?_)
        · (try dsimp only)
          exact fz.out
        clear hK K
        (try simp only [Act.put, List.getElem_toArray, List.getElem_cons_zero, List.getElem_cons_succ, List.setIfInBounds_toArray, List.set_cons_zero, List.set_cons_succ])
        obtain ⟨wA, hwA⟩ : ∃ wA, wA = wa.alloc (Obj.cells #[Value.slice none 0 0, Value.slice none 0 0] 27) := ⟨_, rfl⟩
        rw [← hwA] at fz SA hHeld I3 ⊢
        clear hwA hbA
        refine wpAnyH_ready (rs := [11]) (by kernel_rfl) (by simp) ?_
        refine AllReadyH.cons rfl (fun K hK => ?_) AllReadyH.nil
        go_simp
        refine (My.out _ fz.out).mono ?_
        rintro e wb ⟨a4, c4, rfl, i4, fy⟩
        have I4 := hide i4
        clear i4
        have I3 := hide (I3.out.fr fy)
        have SA := hide (SA.out.fr fy)
        have fz := hide (fz.out.trans fy)
        clear fy
        (try go_wp2_with fail)
        refine hK.out _ _ ?_ (fun hHeld => ?_)
        · (try dsimp only)
          exact fz.out
        clear hK K
        (try simp only [Act.put, List.getElem_toArray, List.getElem_cons_zero, List.getElem_cons_succ, List.setIfInBounds_toArray, List.set_cons_zero, List.set_cons_succ])
        refine wpAnyH_ready (rs := [12]) (by kernel_rfl) (by simp) ?_
        refine AllReadyH.cons rfl (fun K hK => ?_) AllReadyH.nil
        go_simp
        refine (ofR_both _ _ x y _ (HL.out.fr fz.out).1 I3.out I4.out (by omega) (by omega) ok HOK.out).mono ?_
        rintro e wg ⟨x1, x2, x3, x4, x5, x6, rfl, i5, fy⟩
        have I5 := hide i5
        clear i5
        have I3 := hide (I3.out.fr fy)
        have I4 := hide (I4.out.fr fy)
        have SA := hide (SA.out.fr fy)
        have fz := hide (fz.out.trans fy)
        clear fy
        (try go_wp2_with fail)
        refine hK.out _ _ ?_ (fun hHeld => ?_)
        · (try dsimp only)
          exact fz.out
        clear hK K
        (try simp only [Act.put, List.getElem_toArray, List.getElem_cons_zero, List.getElem_cons_succ, List.setIfInBounds_toArray, List.set_cons_zero, List.set_cons_succ])
        refine wpAnyH_take (i := 13) (v := ?_) rfl (by kernel_rfl) (by kernel_rfl) (by kernel_rfl) (fun _ _ _ h => h) (Or.inl ⟨by rfl, ?_⟩) (by assumption) ?_
        rotate_left
        · (intro w hSw; (try dsimp only at hSw); go_simp; try with_reducible rfl)
        (try simp only [Act.put, List.getElem_toArray, List.getElem_cons_zero, List.getElem_cons_succ, List.setIfInBounds_toArray, List.set_cons_zero, List.set_cons_succ])
        refine wpAnyH_take (i := 14) (v := ?_) rfl (by kernel_rfl) (by kernel_rfl) (by kernel_rfl) (fun _ _ _ h => h) (Or.inl ⟨by rfl, ?_⟩) (by assumption) ?_
        rotate_left
        · (intro w hSw; (try dsimp only at hSw); go_simp; try with_reducible rfl)
        (try simp only [Act.put, List.getElem_toArray, List.getElem_cons_zero, List.getElem_cons_succ, List.setIfInBounds_toArray, List.set_cons_zero, List.set_cons_succ])
        refine wpAnyH_take (i := 15) (v := ?_) rfl (by kernel_rfl) (by kernel_rfl) (by kernel_rfl) (fun _ _ _ h => h) (Or.inl ⟨by rfl, ?_⟩) (by assumption) ?_
        rotate_left
        · (intro w hSw; (try dsimp only at hSw); go_simp; try with_reducible rfl)
        (try simp only [Act.put, List.getElem_toArray, List.getElem_cons_zero, List.getElem_cons_succ, List.setIfInBounds_toArray, List.set_cons_zero, List.set_cons_succ])
        refine wpAnyH_ready (rs := [17]) (by kernel_rfl) (by simp) ?_
        refine AllReadyH.cons rfl (fun K hK => ?_) AllReadyH.nil
        have q_ := SA.out.1
        have q2_ := SA.out.2.1
        have z_ := SA.out.2.2.1 0
        have z2_ := SA.out.2.2.1 1
        have I5 := hide (SA.out.ratif I5.out x1 x2 x3 (.slice x4 x5 x6))
        have fz := hide (SA.out.set_fr fz.out (.slice x1 x2 x3) (.slice x4 x5 x6))
        have SA := hide (SA.out.set x1 x2 x3 x4 x5 x6)
        go_simp
        (try go_wp2_with fail)
        refine hK.out _ _ ?_ (fun hHeld => ?_)
        · (try dsimp only)
          exact fz.out
        clear hK K
        (try simp only [Act.put, List.getElem_toArray, List.getElem_cons_zero, List.getElem_cons_succ, List.setIfInBounds_toArray, List.set_cons_zero, List.set_cons_succ])
        refine wpAnyH_take (i := 18) (v := ?_) rfl (by kernel_rfl) (by kernel_rfl) (by kernel_rfl) (fun _ _ _ h => h) (Or.inl ⟨by rfl, ?_⟩) (by assumption) ?_
        rotate_left
        · (intro w hSw; (try dsimp only at hSw); go_simp; try with_reducible rfl)
        (try simp only [Act.put, List.getElem_toArray, List.getElem_cons_zero, List.getElem_cons_succ, List.setIfInBounds_toArray, List.set_cons_zero, List.set_cons_succ])
        refine wpAnyH_done (by kernel_rfl) ?_ _
        go_wp2_with fail
        go_meet
        exact ⟨_, _, _, _, _, _, _, rfl, rfl, SA, I5, fz⟩
    · skip
      obtain ⟨bA, hbA⟩ : ∃ b, b = wd.heap.size := ⟨_, rfl⟩
      have fy := Fr.alloc wd (Obj.cells #[Value.slice none 0 0, Value.slice none 0 0] 27)
      have SA : Hid (Slot2 w (wd.alloc (Obj.cells #[Value.slice none 0 0, Value.slice none 0 0] 27)) bA (.slice none 0 0) (.slice none 0 0)) := by rw [hbA]; exact hide (Slot2.new fz.out none 0 0 none 0 0 27)
      have fz := hide (fz.out.trans fy)
      clear fy
      go_simp
      rw [← hbA]
      refine hK.out _ _ ?_ (fun hHeld => ?_)
      · (try dsimp only)
        exact fz.out
      clear hK K
      (try simp only [Act.put, List.getElem_toArray, List.getElem_cons_zero, List.getElem_cons_succ, List.setIfInBounds_toArray, List.set_cons_zero, List.set_cons_succ])
      obtain ⟨wA, hwA⟩ : ∃ wA, wA = wd.alloc (Obj.cells #[Value.slice none 0 0, Value.slice none 0 0] 27) := ⟨_, rfl⟩
      rw [← hwA] at fz SA hHeld  ⊢
      clear hwA hbA
      refine wpAnyH_ready (rs := [5]) (by kernel_rfl) (by simp) ?_
      refine AllReadyH.cons rfl (fun K hK => ?_) AllReadyH.nil
      go_simp
      refine (Mx.out _ fz.out).mono ?_
      rintro e wa ⟨a3, c3, rfl, i3, fy⟩
      have I3 := hide i3
      clear i3
      have SA := hide (SA.out.fr fy)
      have fz := hide (fz.out.trans fy)
      clear fy
      (try go_wp2_with fail)
      refine hK.out _ _ ?_ (fun hHeld => ?_)
      · (try dsimp only)
        exact fz.out
      clear hK K
      (try simp only [Act.put, List.getElem_toArray, List.getElem_cons_zero, List.getElem_cons_succ, List.setIfInBounds_toArray, List.set_cons_zero, List.set_cons_succ])
      refine wpAnyH_ready (rs := [11]) (by kernel_rfl) (by simp) ?_
      refine AllReadyH.cons rfl (fun K hK => ?_) AllReadyH.nil
      go_simp
      refine (My.out _ fz.out).mono ?_
      rintro e wb ⟨a4, c4, rfl, i4, fy⟩
      have I4 := hide i4
      clear i4
      have I3 := hide (I3.out.fr fy)
      have SA := hide (SA.out.fr fy)
      have fz := hide (fz.out.trans fy)
      clear fy
      (try go_wp2_with fail)
      refine hK.out _ _ ?_ (fun hHeld => ?_)
      · (try dsimp only)
        exact fz.out
      clear hK K
      (try simp only [Act.put, List.getElem_toArray, List.getElem_cons_zero, List.getElem_cons_succ, List.setIfInBounds_toArray, List.set_cons_zero, List.set_cons_succ])
      refine wpAnyH_ready (rs := [12]) (by kernel_rfl) (by simp) ?_
      refine AllReadyH.cons rfl (fun K hK => ?_) AllReadyH.nil
      go_simp
      refine (ofR_both _ _ x y _ (HL.out.fr fz.out).1 I3.out I4.out (by omega) (by omega) ok HOK.out).mono ?_
      rintro e wg ⟨x1, x2, x3, x4, x5, x6, rfl, i5, fy⟩
      have I5 := hide i5
      clear i5
      have I3 := hide (I3.out.fr fy)
      have I4 := hide (I4.out.fr fy)
      have SA := hide (SA.out.fr fy)
      have fz := hide (fz.out.trans fy)
      clear fy
      (try go_wp2_with fail)
      refine hK.out _ _ ?_ (fun hHeld => ?_)
      · (try dsimp only)
        exact fz.out
      clear hK K
      (try simp only [Act.put, List.getElem_toArray, List.getElem_cons_zero, List.getElem_cons_succ, List.setIfInBounds_toArray, List.set_cons_zero, List.set_cons_succ])
      refine wpAnyH_take (i := 13) (v := ?_) rfl (by kernel_rfl) (by kernel_rfl) (by kernel_rfl) (fun _ _ _ h => h) (Or.inl ⟨by rfl, ?_⟩) (by assumption) ?_
      rotate_left
      · (intro w hSw; (try dsimp only at hSw); go_simp; try with_reducible rfl)
      (try simp only [Act.put, List.getElem_toArray, List.getElem_cons_zero, List.getElem_cons_succ, List.setIfInBounds_toArray, List.set_cons_zero, List.set_cons_succ])
      refine wpAnyH_take (i := 14) (v := ?_) rfl (by kernel_rfl) (by kernel_rfl) (by kernel_rfl) (fun _ _ _ h => h) (Or.inl ⟨by rfl, ?_⟩) (by assumption) ?_
      rotate_left
      · (intro w hSw; (try dsimp only at hSw); go_simp; try with_reducible rfl)
      (try simp only [Act.put, List.getElem_toArray, List.getElem_cons_zero, List.getElem_cons_succ, List.setIfInBounds_toArray, List.set_cons_zero, List.set_cons_succ])
      refine wpAnyH_take (i := 15) (v := ?_) rfl (by kernel_rfl) (by kernel_rfl) (by kernel_rfl) (fun _ _ _ h => h) (Or.inl ⟨by rfl, ?_⟩) (by assumption) ?_
      rotate_left
      · (intro w hSw; (try dsimp only at hSw); go_simp; try with_reducible rfl)
      (try simp only [Act.put, List.getElem_toArray, List.getElem_cons_zero, List.getElem_cons_succ, List.setIfInBounds_toArray, List.set_cons_zero, List.set_cons_succ])
      refine wpAnyH_ready (rs := [17]) (by kernel_rfl) (by simp) ?_
      refine AllReadyH.cons rfl (fun K hK => ?_) AllReadyH.nil
      have q_ := SA.out.1
      have q2_ := SA.out.2.1
      have z_ := SA.out.2.2.1 0
      have z2_ := SA.out.2.2.1 1
      have I5 := hide (SA.out.ratif I5.out x1 x2 x3 (.slice x4 x5 x6))
      have fz := hide (SA.out.set_fr fz.out (.slice x1 x2 x3) (.slice x4 x5 x6))
      have SA := hide (SA.out.set x1 x2 x3 x4 x5 x6)
      go_simp
      (try go_wp2_with fail)
      refine hK.out _ _ ?_ (fun hHeld => ?_)
      · (try dsimp only)
        exact fz.out
      clear hK K
      (try simp only [Act.put, List.getElem_toArray, List.getElem_cons_zero, List.getElem_cons_succ, List.setIfInBounds_toArray, List.set_cons_zero, List.set_cons_succ])
      refine wpAnyH_take (i := 18) (v := ?_) rfl (by kernel_rfl) (by kernel_rfl) (by kernel_rfl) (fun _ _ _ h => h) (Or.inl ⟨by rfl, ?_⟩) (by assumption) ?_
      rotate_left
      · (intro w hSw; (try dsimp only at hSw); go_simp; try with_reducible rfl)
      (try simp only [Act.put, List.getElem_toArray, List.getElem_cons_zero, List.getElem_cons_succ, List.setIfInBounds_toArray, List.set_cons_zero, List.set_cons_succ])
      refine wpAnyH_done (by kernel_rfl) ?_ _
      go_wp2_with fail
      go_meet
      exact ⟨_, _, _, _, _, _, _, rfl, rfl, SA, I5, fz⟩
  case rest =>
  obtain ⟨b7, r1, r2, r3, r4, r5, r6, rfl, rfl, S7, RR, FW⟩ := hcut
  obtain ⟨w1, hw1⟩ : ∃ V, V = wc := ⟨_, rfl⟩
  rw [← hw1] at S7 RR FW ⊢
  clear hw1 Mx My
  go_wp2_with fail
  refine (Mz.out _ FW.out).mono ?_
  rintro e w2 ⟨a3, c3, rfl, i3, fy⟩
  have I3 := hide i3
  have S7 := hide (S7.out.fr fy)
  have RR := hide (RR.out.fr fy)
  have FW := hide (FW.out.trans fy)
  clear i3 fy Mz
  go_wp2_with fail
  refine (ofc_any 7 7 _ rfl (by omega)).mono ?_
  rintro e w3 ⟨a4, c4, rfl, i4, _, fy⟩
  have I4 := hide i4
  have S7 := hide (S7.out.fr fy)
  have RR := hide (RR.out.fr fy)
  have I3 := hide (I3.out.fr fy)
  have FW := hide (FW.out.trans fy)
  clear i4 fy
  go_wp2_with fail
  refine (ofR_yes _ _ z 7 _ (HL.out.fr FW.out).1 I3.out I4.out (by omega) (by omega) (by omega)).mono ?_
  rintro e w4 ⟨v4, rfl, i4, fy⟩
  obtain ⟨s1, s2, s3, s4, s5, s6, rfl⟩ := i4.form
  have RS := hide i4
  have S7 := hide (S7.out.fr fy)
  have RR := hide (RR.out.fr fy)
  have FW := hide (FW.out.trans fy)
  clear i4 fy I3 I4
  go_upto_region 3 with fail
  obtain ⟨W4, hW4⟩ : ∃ W, W = (w4.alloc (Obj.cells #[Value.slice s1 s2 s3, Value.slice s4 s5 s6] 27)) := ⟨_, rfl⟩
  have fy : Fr w4 W4 := by rw [hW4]; exact (Fr.alloc w4 (Obj.cells #[Value.slice s1 s2 s3, Value.slice s4 s5 s6] 27))
  have s_ : Slot2 w4 W4 (w4.heap.size) (.slice s1 s2 s3) (.slice s4 s5 s6) := by
    rw [hW4]; simpa using Slot2.new (Fr.refl w4) s1 s2 s3 s4 s5 s6 27
  rw [← hW4]
  clear hW4
  have S9 := hide s_
  have S7 := hide (S7.out.fr fy)
  have RR := hide (RR.out.fr fy)
  have RS := hide (RS.out.fr fy)
  have FW := hide (FW.out.trans fy)
  clear s_ fy
  by_cases hy : y = 0
  · have hok : ok = false := by rw [← HOK.out, hy]; rfl
    subst hok
    go_wp2_with fail
    refine (wakes_any _ (HL.out.fr FW.out)).mono ?_
    rintro e w5 ⟨rfl, fy⟩
    have FW := hide (FW.out.trans fy)
    clear fy
    go_wp2_with fail
    go_ret
    exact ⟨rfl, FW.out⟩
  · have hok : ok = true := by rw [← HOK.out]; exact decide_eq_true hy
    subst hok
    have RR := hide (RR.out hy)
    clear HOK
    have q7 := S7.out.1
    have q7' := S7.out.2.1
    have q9 := S9.out.1
    have q9' := S9.out.2.1
    go_wp2_with fail
    by_cases hz : z = 0
    · refine (stepR_no _ _ x y z 7 _ (HL.out.fr FW.out).1 RR.out RS.out (by omega) (by omega) (by omega) (by omega) hz).mono ?_
      rintro e w5 ⟨rfl, fy⟩
      have S7 := hide (S7.out.fr fy)
      have S9 := hide (S9.out.fr fy)
      have RR := hide (RR.out.fr fy)
      have RS := hide (RS.out.fr fy)
      have FW := hide (FW.out.trans fy)
      clear fy q7 q7' q9 q9'
      subst hz
      have q9 := S9.out.1
      have q9' := S9.out.2.1
      go_wp2_with fail
      obtain ⟨W5, hW5⟩ : ∃ W, W = ((w5.alloc (Obj.cells #[Value.slice none 0 0, Value.slice none 0 0] 27)).alloc (Obj.cells #[Value.slice none 0 0, Value.slice none 0 0] 27)) := ⟨_, rfl⟩
      have fy : Fr w5 W5 := by rw [hW5]; exact ((Fr.alloc w5 (Obj.cells #[Value.slice none 0 0, Value.slice none 0 0] 27)).trans (Fr.alloc _ (Obj.cells #[Value.slice none 0 0, Value.slice none 0 0] 27)))
      have s11 : Slot2 w5 W5 (w5.heap.size) (.slice none 0 0) (.slice none 0 0) := by
        rw [hW5]; simpa using (Slot2.new (Fr.refl w5) none 0 0 none 0 0 27).fr (Fr.alloc _ _)
      have s13 : Slot2 w5 W5 (w5.heap.size + 1) (.slice none 0 0) (.slice none 0 0) := by
        rw [hW5]; simpa using Slot2.new (Fr.alloc w5 (Obj.cells #[Value.slice none 0 0, Value.slice none 0 0] 27)) none 0 0 none 0 0 27
      rw [← hW5]
      clear hW5
      have S11 := hide s11
      have S13 := hide s13
      have RS := hide (RS.out.fr fy)
      have FW := hide (FW.out.trans fy)
      clear s11 s13 fy q9 q9'
      refine (cmpR_any _ _ 0 7 0 1 _ (HL.out.fr FW.out).1 RS.out (rat_zero _ (by omega) rfl) (by rw [nlen_zero]; omega) (by omega) (by rw [nlen_zero]; omega) (by omega) 0 (by decide)).mono ?_
      rintro e w6 ⟨rfl, fy⟩
      have S11 := hide (S11.out.fr fy)
      have S13 := hide (S13.out.fr fy)
      have FW := hide (FW.out.trans fy)
      clear fy
      go_wp2_with fail
      refine (wakes_any _ (HL.out.fr FW.out)).mono ?_
      rintro e w7 ⟨rfl, fy⟩
      have S11 := hide (S11.out.fr fy)
      have S13 := hide (S13.out.fr fy)
      have FW := hide (FW.out.trans fy)
      clear fy
      have q11 := S11.out.1
      have q11' := S11.out.2.1
      have q13 := S13.out.1
      have q13' := S13.out.2.1
      go_wp2_with fail
      refine (cmpR_any _ _ 0 1 0 1 _ (HL.out.fr FW.out).1 (rat_zero _ (by omega) rfl) (rat_zero _ (by omega) rfl) (by rw [nlen_zero]; omega) (by omega) (by rw [nlen_zero]; omega) (by omega) 0 (by decide)).mono ?_
      rintro e w8 ⟨rfl, fy⟩
      have FW := hide (FW.out.trans fy)
      clear fy
      go_wp2_with fail
      go_ret
      exact ⟨rfl, FW.out⟩
    · obtain ⟨C, hC⟩ : ∃ C, rndN (x * 7) (y * z) = C := ⟨_, rfl⟩
      obtain ⟨Z, hZ, hZ2⟩ := steps_half hy hz hC
      have EZ := hide hZ
      have nC : nlen 4294967296 C ≤ 10 := by
        rw [← hC]
        refine Nat.le_trans (nlen_mono b32 rnd_top') ?_
        exact Nat.le_trans (nl_sum (n := 4) (nlen_mul b32 nx n7) (by omega)) (by omega)
      have EC := hide hC
      clear hC hZ
      refine (stepR_yes _ _ x y z 7 _ (HL.out.fr FW.out).1 RR.out RS.out (by omega) (by omega) (by omega) (by omega) hz C EC.out).mono ?_
      rintro e w5 ⟨v5, rfl, i5, fy⟩
      obtain ⟨t1, t2, t3, t4, t5, t6, rfl⟩ := i5.form
      have RX := hide i5
      have S7 := hide (S7.out.fr fy)
      have S9 := hide (S9.out.fr fy)
      have RR := hide (RR.out.fr fy)
      have RS := hide (RS.out.fr fy)
      have FW := hide (FW.out.trans fy)
      clear i5 fy q7 q7' q9 q9'
      have nX : nlen 4294967296 (C * z) ≤ 20 := Nat.le_trans (nlen_mul b32 nC nz) (by omega)
      have q9 := S9.out.1
      have q9' := S9.out.2.1
      go_wp2_with fail
      obtain ⟨W5, hW5⟩ : ∃ W, W = ((w5.alloc (Obj.cells #[Value.slice t1 t2 t3, Value.slice t4 t5 t6] 27)).alloc (Obj.cells #[Value.slice none 0 0, Value.slice none 0 0] 27)) := ⟨_, rfl⟩
      have fy : Fr w5 W5 := by rw [hW5]; exact ((Fr.alloc w5 (Obj.cells #[Value.slice t1 t2 t3, Value.slice t4 t5 t6] 27)).trans (Fr.alloc _ (Obj.cells #[Value.slice none 0 0, Value.slice none 0 0] 27)))
      have s11 : Slot2 w5 W5 (w5.heap.size) (.slice t1 t2 t3) (.slice t4 t5 t6) := by
        rw [hW5]; simpa using (Slot2.new (Fr.refl w5) t1 t2 t3 t4 t5 t6 27).fr (Fr.alloc _ _)
      have s13 : Slot2 w5 W5 (w5.heap.size + 1) (.slice none 0 0) (.slice none 0 0) := by
        rw [hW5]; simpa using Slot2.new (Fr.alloc w5 (Obj.cells #[Value.slice t1 t2 t3, Value.slice t4 t5 t6] 27)) none 0 0 none 0 0 27
      rw [← hW5]
      clear hW5
      have S11 := hide s11
      have S13 := hide s13
      have S7 := hide (S7.out.fr fy)
      have S9 := hide (S9.out.fr fy)
      have RR := hide (RR.out.fr fy)
      have RS := hide (RS.out.fr fy)
      have RX := hide (RX.out.fr fy)
      have FW := hide (FW.out.trans fy)
      clear s11 s13 fy q9 q9'
      have hzp : (0 : Nat) < z := by omega
      refine (cmpR_any _ _ z 7 0 1 _ (HL.out.fr FW.out).1 RS.out (rat_zero _ (by omega) rfl) (by omega) (by omega) (by rw [nlen_zero]; omega) (by omega) 1 (cmpZ_pos (by omega))).mono ?_
      rintro e w6 ⟨rfl, fy⟩
      have S7 := hide (S7.out.fr fy)
      have S9 := hide (S9.out.fr fy)
      have S11 := hide (S11.out.fr fy)
      have S13 := hide (S13.out.fr fy)
      have RR := hide (RR.out.fr fy)
      have RS := hide (RS.out.fr fy)
      have RX := hide (RX.out.fr fy)
      have FW := hide (FW.out.trans fy)
      clear fy
      have q9 := S9.out.1
      have q9' := S9.out.2.1
      go_wp2_with fail
      refine (terms_rat _ z 7 _ RS.out (by omega)).mono ?_
      rintro e w7 ⟨ap, cp, aq, cq, rfl, ip, iq, fy⟩
      have np : nlen 4294967296 (rN z 7) ≤ 3 := Nat.le_trans (nlen_mono b32 (rN_le _ _)) nz
      have nq : nlen 4294967296 (rD z 7) ≤ 1 := Nat.le_trans (nlen_mono b32 (rD_le _ _)) n7
      have hp0 : rN z 7 ≠ 0 := fun e => hz ((rN_zero (by omega)).1 e)
      have TURN : Hid (∀ wz v, IsRat wz v (rD z 7) (rN z 7) → IsRat wz v 7 z) := fun wz v h => rat_turn h rfl rfl hz (by omega)
      have IP := hide ip
      have IQ := hide iq
      have S7 := hide (S7.out.fr fy)
      have S9 := hide (S9.out.fr fy)
      have S11 := hide (S11.out.fr fy)
      have S13 := hide (S13.out.fr fy)
      have RR := hide (RR.out.fr fy)
      have RS := hide (RS.out.fr fy)
      have RX := hide (RX.out.fr fy)
      have FW := hide (FW.out.trans fy)
      clear fy ip iq q9 q9'
      generalize rN z 7 = p at *
      generalize rD z 7 = q at *
      go_wp2_with fail
      obtain ⟨W7, hW7⟩ : ∃ W, W = ((w7.alloc (Obj.cells #[Value.slice ap (nlen 4294967296 p) cp] 25)).alloc (Obj.cells #[Value.slice aq (nlen 4294967296 q) cq] 25)) := ⟨_, rfl⟩
      have fy : Fr w7 W7 := by rw [hW7]; exact ((Fr.alloc w7 (Obj.cells #[Value.slice ap (nlen 4294967296 p) cp] 25)).trans (Fr.alloc _ (Obj.cells #[Value.slice aq (nlen 4294967296 q) cq] 25)))
      have s14 : Slot w7 W7 (w7.heap.size) (.slice ap (nlen 4294967296 p) cp) := by
        rw [hW7]; simpa using (Slot.new (Fr.refl w7) ap (nlen 4294967296 p) cp 25).fr (Fr.alloc _ _)
      have s15 : Slot w7 W7 (w7.heap.size + 1) (.slice aq (nlen 4294967296 q) cq) := by
        rw [hW7]; simpa using Slot.new (Fr.alloc w7 (Obj.cells #[Value.slice ap (nlen 4294967296 p) cp] 25)) aq (nlen 4294967296 q) cq 25
      rw [← hW7]
      clear hW7
      have S7 := hide (S7.out.fr fy)
      have S9 := hide (S9.out.fr fy)
      have S11 := hide (S11.out.fr fy)
      have S13 := hide (S13.out.fr fy)
      have RR := hide (RR.out.fr fy)
      have RS := hide (RS.out.fr fy)
      have RX := hide (RX.out.fr fy)
      have IP := hide (IP.out.fr fy)
      have IQ := hide (IQ.out.fr fy)
      have FW := hide (FW.out.trans fy)
      clear s14 s15 fy
      refine (ofR_yes _ _ q p _ (HL.out.fr FW.out).1 IQ.out IP.out (by omega) (by omega) hp0).mono ?_
      rintro e w8 ⟨v8, rfl, i8, fy⟩
      obtain ⟨g1, g2, g3, g4, g5, g6, rfl⟩ := i8.form
      have RT := hide (TURN.out _ _ i8)
      have S7 := hide (S7.out.fr fy)
      have S9 := hide (S9.out.fr fy)
      have S11 := hide (S11.out.fr fy)
      have S13 := hide (S13.out.fr fy)
      have RR := hide (RR.out.fr fy)
      have RS := hide (RS.out.fr fy)
      have RX := hide (RX.out.fr fy)
      have FW := hide (FW.out.trans fy)
      clear i8 fy IP IQ TURN
      have q11 := S11.out.1
      have q11' := S11.out.2.1
      go_wp2_with fail
      obtain ⟨W8, hW8⟩ : ∃ W, W = (w8.alloc (Obj.cells #[Value.slice g1 g2 g3, Value.slice g4 g5 g6] 27)) := ⟨_, rfl⟩
      have fy : Fr w8 W8 := by rw [hW8]; exact (Fr.alloc w8 (Obj.cells #[Value.slice g1 g2 g3, Value.slice g4 g5 g6] 27))
      have s16 : Slot2 w8 W8 (w8.heap.size) (.slice g1 g2 g3) (.slice g4 g5 g6) := by
        rw [hW8]; simpa using Slot2.new (Fr.refl w8) g1 g2 g3 g4 g5 g6 27
      rw [← hW8]
      clear hW8
      have S7 := hide (S7.out.fr fy)
      have S9 := hide (S9.out.fr fy)
      have S11 := hide (S11.out.fr fy)
      have S13 := hide (S13.out.fr fy)
      have RR := hide (RR.out.fr fy)
      have RS := hide (RS.out.fr fy)
      have RX := hide (RX.out.fr fy)
      have RT := hide (RT.out.fr fy)
      have FW := hide (FW.out.trans fy)
      clear s16 fy q11 q11'
      refine (mulR_any _ _ (C * z) 7 7 z _ (HL.out.fr FW.out).1 RX.out RT.out (by omega) (by omega) (by omega) (by omega)).mono ?_
      rintro e w9 ⟨v9, rfl, i9, fy⟩
      have RM := hide i9
      have S7 := hide (S7.out.fr fy)
      have S9 := hide (S9.out.fr fy)
      have S11 := hide (S11.out.fr fy)
      have S13 := hide (S13.out.fr fy)
      have RR := hide (RR.out.fr fy)
      have RS := hide (RS.out.fr fy)
      have RX := hide (RX.out.fr fy)
      have FW := hide (FW.out.trans fy)
      obtain ⟨j1, j2, j3, j4, j5, j6, rfl⟩ := i9.form
      clear i9 fy RT
      go_wp2_with fail
      have eP : C * z * 7 / (7 * z) = C := by rw [show C * z * 7 = C * (7 * z) by ac_rfl]; exact Nat.mul_div_cancel _ (Nat.mul_pos (by omega) hzp)
      have eM : C * z * 7 % (7 * z) = 0 := by rw [show C * z * 7 = C * (7 * z) by ac_rfl]; exact Nat.mul_mod_left _ _
      have nM : nlen 4294967296 (C * z * 7) ≤ 21 := Nat.le_trans (nlen_mul b32 nX n7) (by omega)
      have nM2 : nlen 4294967296 (7 * z) ≤ 4 := Nat.le_trans (nlen_mul b32 n7 nz) (by omega)
      refine (partsR_any _ (C * z * 7) (7 * z) _ RM.out (by omega) (by omega) C eP).mono ?_
      rintro e w10 ⟨ak, ck, v10, rfl, ik, ir, fy⟩
      rw [eM] at ir
      obtain ⟨o1, o2, o3, o4, o5, o6, rfl⟩ := ir.form
      have RE := hide ir
      have IK := hide ik
      have S7 := hide (S7.out.fr fy)
      have S9 := hide (S9.out.fr fy)
      have S11 := hide (S11.out.fr fy)
      have S13 := hide (S13.out.fr fy)
      have RR := hide (RR.out.fr fy)
      have RS := hide (RS.out.fr fy)
      have RX := hide (RX.out.fr fy)
      have FW := hide (FW.out.trans fy)
      clear ir ik fy RM eP eM
      go_wp2_with fail
      obtain ⟨W10, hW10⟩ : ∃ W, W = ((w10.alloc (Obj.cells #[Value.slice ak (nlen 4294967296 C) ck] 25)).alloc (Obj.cells #[Value.slice o1 o2 o3, Value.slice o4 o5 o6] 27)) := ⟨_, rfl⟩
      have fy : Fr w10 W10 := by rw [hW10]; exact ((Fr.alloc w10 (Obj.cells #[Value.slice ak (nlen 4294967296 C) ck] 25)).trans (Fr.alloc _ (Obj.cells #[Value.slice o1 o2 o3, Value.slice o4 o5 o6] 27)))
      have s18 : Slot w10 W10 (w10.heap.size) (.slice ak (nlen 4294967296 C) ck) := by
        rw [hW10]; simpa using (Slot.new (Fr.refl w10) ak (nlen 4294967296 C) ck 25).fr (Fr.alloc _ _)
      have s19 : Slot2 w10 W10 (w10.heap.size + 1) (.slice o1 o2 o3) (.slice o4 o5 o6) := by
        rw [hW10]; simpa using Slot2.new (Fr.alloc w10 (Obj.cells #[Value.slice ak (nlen 4294967296 C) ck] 25)) o1 o2 o3 o4 o5 o6 27
      rw [← hW10]
      clear hW10
      have S18 := hide s18
      have S19 := hide s19
      have S7 := hide (S7.out.fr fy)
      have S9 := hide (S9.out.fr fy)
      have S11 := hide (S11.out.fr fy)
      have S13 := hide (S13.out.fr fy)
      have RR := hide (RR.out.fr fy)
      have RS := hide (RS.out.fr fy)
      have RX := hide (RX.out.fr fy)
      have RE := hide (RE.out.fr fy)
      have IK := hide (IK.out.fr fy)
      have FW := hide (FW.out.trans fy)
      clear s18 s19 fy
      refine (ofc_any 1 1 _ rfl (by omega)).mono ?_
      rintro e w11 ⟨a3, c3, rfl, i3, _, fy⟩
      have I3 := hide i3
      have S7 := hide (S7.out.fr fy)
      have S9 := hide (S9.out.fr fy)
      have S11 := hide (S11.out.fr fy)
      have S13 := hide (S13.out.fr fy)
      have S18 := hide (S18.out.fr fy)
      have S19 := hide (S19.out.fr fy)
      have RR := hide (RR.out.fr fy)
      have RS := hide (RS.out.fr fy)
      have RX := hide (RX.out.fr fy)
      have RE := hide (RE.out.fr fy)
      have IK := hide (IK.out.fr fy)
      have FW := hide (FW.out.trans fy)
      clear i3 fy
      go_wp2_with fail
      refine (ofc_any 2 2 _ rfl (by omega)).mono ?_
      rintro e w12 ⟨a4, c4, rfl, i4, _, fy⟩
      have I4 := hide i4
      have S7 := hide (S7.out.fr fy)
      have S9 := hide (S9.out.fr fy)
      have S11 := hide (S11.out.fr fy)
      have S13 := hide (S13.out.fr fy)
      have S18 := hide (S18.out.fr fy)
      have S19 := hide (S19.out.fr fy)
      have RR := hide (RR.out.fr fy)
      have RS := hide (RS.out.fr fy)
      have RX := hide (RX.out.fr fy)
      have RE := hide (RE.out.fr fy)
      have IK := hide (IK.out.fr fy)
      have I3 := hide (I3.out.fr fy)
      have FW := hide (FW.out.trans fy)
      clear i4 fy
      go_wp2_with fail
      refine (ofR_yes _ _ 1 2 _ (HL.out.fr FW.out).1 I3.out I4.out (by omega) (by omega) (by omega)).mono ?_
      rintro e w13 ⟨v13, rfl, i13, fy⟩
      obtain ⟨h1, h2, h3, h4, h5, h6, rfl⟩ := i13.form
      have RO := hide i13
      have S7 := hide (S7.out.fr fy)
      have S9 := hide (S9.out.fr fy)
      have S11 := hide (S11.out.fr fy)
      have S13 := hide (S13.out.fr fy)
      have S18 := hide (S18.out.fr fy)
      have S19 := hide (S19.out.fr fy)
      have RR := hide (RR.out.fr fy)
      have RS := hide (RS.out.fr fy)
      have RX := hide (RX.out.fr fy)
      have RE := hide (RE.out.fr fy)
      have IK := hide (IK.out.fr fy)
      have FW := hide (FW.out.trans fy)
      clear i13 fy I3 I4
      go_wp2_with fail
      obtain ⟨W13, hW13⟩ : ∃ W, W = (w13.alloc (Obj.cells #[Value.slice h1 h2 h3, Value.slice h4 h5 h6] 27)) := ⟨_, rfl⟩
      have fy : Fr w13 W13 := by rw [hW13]; exact (Fr.alloc w13 (Obj.cells #[Value.slice h1 h2 h3, Value.slice h4 h5 h6] 27))
      have s20 : Slot2 w13 W13 (w13.heap.size) (.slice h1 h2 h3) (.slice h4 h5 h6) := by
        rw [hW13]; simpa using Slot2.new (Fr.refl w13) h1 h2 h3 h4 h5 h6 27
      rw [← hW13]
      clear hW13
      have S20 := hide s20
      have S7 := hide (S7.out.fr fy)
      have S9 := hide (S9.out.fr fy)
      have S11 := hide (S11.out.fr fy)
      have S13 := hide (S13.out.fr fy)
      have S18 := hide (S18.out.fr fy)
      have S19 := hide (S19.out.fr fy)
      have RR := hide (RR.out.fr fy)
      have RS := hide (RS.out.fr fy)
      have RX := hide (RX.out.fr fy)
      have RE := hide (RE.out.fr fy)
      have IK := hide (IK.out.fr fy)
      have RO := hide (RO.out.fr fy)
      have FW := hide (FW.out.trans fy)
      clear s20 fy
      have HT := hide (HL.out.fr FW.out).1
      have S7 := hide (S7.out.fr (Fr.drew _))
      have S9 := hide (S9.out.fr (Fr.drew _))
      have S11 := hide (S11.out.fr (Fr.drew _))
      have S13 := hide (S13.out.fr (Fr.drew _))
      have S18 := hide (S18.out.fr (Fr.drew _))
      have S19 := hide (S19.out.fr (Fr.drew _))
      have S20 := hide (S20.out.fr (Fr.drew _))
      have RR := hide (RR.out.fr (Fr.drew _))
      have RS := hide (RS.out.fr (Fr.drew _))
      have RX := hide (RX.out.fr (Fr.drew _))
      have RE := hide (RE.out.fr (Fr.drew _))
      have IK := hide (IK.out.fr (Fr.drew _))
      have RO := hide (RO.out.fr (Fr.drew _))
      have HT := hide (HT.out.fr (Fr.drew _))
      have FW := hide (FW.out.trans (Fr.drew _))
      have q7 := S7.out.1
      have q7' := S7.out.2.1
      have q11 := S11.out.1
      have q11' := S11.out.2.1
      have q9 := S9.out.1
      have q9' := S9.out.2.1
      have q20 := S20.out.1
      have q20' := S20.out.2.1
      have nAw : nlen 4294967296 (awayN (x * 7) (C * z * y)) ≤ 30 := by
        have ea : awayN (x * 7) (C * z * y) ≤ x * 7 + C * z * y := by unfold awayN; first | omega | (split <;> omega)
        refine Nat.le_trans (nlen_mono b32 ea) ?_
        exact Nat.le_trans (nl_sum (n := 29) (Nat.le_trans (nlen_mul b32 nx n7) (by omega)) (Nat.le_trans (nlen_mul b32 nX ny) (by omega))) (by omega)
      have nY7 : nlen 4294967296 (y * 7) ≤ 4 := Nat.le_trans (nlen_mul b32 ny n7) (by omega)
      have nZ1 : nlen 4294967296 (z * 1) ≤ 4 := Nat.le_trans (nlen_mul b32 nz n1) (by omega)
      have n14 : nlen 4294967296 (7 * 2) ≤ 4 := Nat.le_trans (nlen_mul b32 n7 n2) (by omega)
      go_wp2_with fail
      refine wp_region_held_drew (S := (fun w' => w'.cell? ⟨b7, 0, none⟩ = some (.slice r1 r2 r3) ∧ w'.cell? ⟨b7, 1, none⟩ = some (.slice r4 r5 r6) ∧ w'.cell? ⟨w5.heap.size, 0, none⟩ = some (.slice t1 t2 t3) ∧ w'.cell? ⟨w5.heap.size, 1, none⟩ = some (.slice t4 t5 t6) ∧ w'.cell? ⟨w4.heap.size, 0, none⟩ = some (.slice s1 s2 s3) ∧ w'.cell? ⟨w4.heap.size, 1, none⟩ = some (.slice s4 s5 s6) ∧ w'.cell? ⟨w13.heap.size, 0, none⟩ = some (.slice h1 h2 h3) ∧ w'.cell? ⟨w13.heap.size, 1, none⟩ = some (.slice h4 h5 h6))) (by kernel_rfl) ?_ (fun hHeld => ?_)
      · exact ⟨S7.out.1, S7.out.2.1, S11.out.1, S11.out.2.1, S9.out.1, S9.out.2.1, S20.out.1, S20.out.2.1⟩
      obtain ⟨wd, hwd⟩ : ∃ wd, wd = W13.drew := ⟨_, rfl⟩
      rw [← hwd] at hHeld S7 S9 S11 S13 S18 S19 S20 RR RS RX RE IK RO HT FW ⊢
      clear hwd
      refine wpAnyH_take (i := 0) (v := ?_) rfl (by kernel_rfl) (by kernel_rfl) (by kernel_rfl) (fun _ _ _ h => h) (Or.inl ⟨by rfl, ?_⟩) (by assumption) ?_
      rotate_left
      · (intro w hSw; (try dsimp only at hSw); go_simp; try with_reducible rfl)
      (try simp only [Act.put, List.getElem_toArray, List.getElem_cons_zero, List.getElem_cons_succ, List.setIfInBounds_toArray, List.set_cons_zero, List.set_cons_succ])
      refine wpAnyH_take (i := 1) (v := ?_) rfl (by kernel_rfl) (by kernel_rfl) (by kernel_rfl) (fun _ _ _ h => h) (Or.inl ⟨by rfl, ?_⟩) (by assumption) ?_
      rotate_left
      · (intro w hSw; (try dsimp only at hSw); go_simp; try with_reducible rfl)
      (try simp only [Act.put, List.getElem_toArray, List.getElem_cons_zero, List.getElem_cons_succ, List.setIfInBounds_toArray, List.set_cons_zero, List.set_cons_succ])
      refine wpAnyH_take (i := 3) (v := ?_) rfl (by kernel_rfl) (by kernel_rfl) (by kernel_rfl) (fun _ _ _ h => h) (Or.inl ⟨by rfl, ?_⟩) (by assumption) ?_
      rotate_left
      · (intro w hSw; (try dsimp only at hSw); go_simp; try with_reducible rfl)
      (try simp only [Act.put, List.getElem_toArray, List.getElem_cons_zero, List.getElem_cons_succ, List.setIfInBounds_toArray, List.set_cons_zero, List.set_cons_succ])
      refine wpAnyH_take (i := 4) (v := ?_) rfl (by kernel_rfl) (by kernel_rfl) (by kernel_rfl) (fun _ _ _ h => h) (Or.inl ⟨by rfl, ?_⟩) (by assumption) ?_
      rotate_left
      · (intro w hSw; (try dsimp only at hSw); go_simp; try with_reducible rfl)
      (try simp only [Act.put, List.getElem_toArray, List.getElem_cons_zero, List.getElem_cons_succ, List.setIfInBounds_toArray, List.set_cons_zero, List.set_cons_succ])
      refine wpAnyH_ready (rs := [2]) (by kernel_rfl) (by simp) ?_
      refine AllReadyH.cons rfl (fun K hK => ?_) AllReadyH.nil
      go_simp
      refine (awayR_any _ _ x y (C * z) 7 _ HT.out RR.out RX.out (by omega) (by omega) (by omega) (by omega)).mono ?_
      rintro e wn ⟨v, rfl, ir, fy⟩
      have RA := hide ir
      have S7 := hide (S7.out.fr fy)
      have S9 := hide (S9.out.fr fy)
      have S11 := hide (S11.out.fr fy)
      have S13 := hide (S13.out.fr fy)
      have S18 := hide (S18.out.fr fy)
      have S19 := hide (S19.out.fr fy)
      have S20 := hide (S20.out.fr fy)
      have RR := hide (RR.out.fr fy)
      have RX := hide (RX.out.fr fy)
      have RE := hide (RE.out.fr fy)
      have IK := hide (IK.out.fr fy)
      have HT := hide (HT.out.fr fy)
      have RS := hide (RS.out.fr fy)
      have RO := hide (RO.out.fr fy)
      have FW := hide (FW.out.trans fy)
      obtain ⟨l1, l2, l3, l4, l5, l6, rfl⟩ := ir.form
      clear ir fy
      (try go_wp2_with fail)
      refine hK.out _ _ ?_ (fun hHeld => ?_)
      · (try dsimp only)
        exact ⟨S7.out.1, S7.out.2.1, S11.out.1, S11.out.2.1, S9.out.1, S9.out.2.1, S20.out.1, S20.out.2.1⟩
      clear hK K
      (try simp only [Act.put, List.getElem_toArray, List.getElem_cons_zero, List.getElem_cons_succ, List.setIfInBounds_toArray, List.set_cons_zero, List.set_cons_succ])
      refine wpAnyH_ready (rs := [5]) (by kernel_rfl) (by simp) ?_
      refine AllReadyH.cons rfl (fun K hK => ?_) AllReadyH.nil
      go_simp
      refine (mulR_any _ _ z 7 1 2 _ HT.out RS.out RO.out (by omega) (by omega) (by omega) (by omega)).mono ?_
      rintro e wn ⟨v, rfl, ir, fy⟩
      have RB := hide ir
      have S7 := hide (S7.out.fr fy)
      have S9 := hide (S9.out.fr fy)
      have S11 := hide (S11.out.fr fy)
      have S13 := hide (S13.out.fr fy)
      have S18 := hide (S18.out.fr fy)
      have S19 := hide (S19.out.fr fy)
      have S20 := hide (S20.out.fr fy)
      have RR := hide (RR.out.fr fy)
      have RX := hide (RX.out.fr fy)
      have RE := hide (RE.out.fr fy)
      have IK := hide (IK.out.fr fy)
      have HT := hide (HT.out.fr fy)
      have RA := hide (RA.out.fr fy)
      have FW := hide (FW.out.trans fy)
      obtain ⟨m1, m2, m3, m4, m5, m6, rfl⟩ := ir.form
      clear ir fy
      (try go_wp2_with fail)
      refine hK.out _ _ ?_ (fun hHeld => ?_)
      · (try dsimp only)
        exact ⟨S7.out.1, S7.out.2.1, S11.out.1, S11.out.2.1, S9.out.1, S9.out.2.1, S20.out.1, S20.out.2.1⟩
      clear hK K
      (try simp only [Act.put, List.getElem_toArray, List.getElem_cons_zero, List.getElem_cons_succ, List.setIfInBounds_toArray, List.set_cons_zero, List.set_cons_succ])
      refine wpAnyH_ready (rs := [6]) (by kernel_rfl) (by simp) ?_
      refine AllReadyH.cons rfl (fun K hK => ?_) AllReadyH.nil
      go_simp
      refine (cmpR_any _ _ (awayN (x * 7) (C * z * y)) (y * 7) (z * 1) (7 * 2) _ HT.out RA.out RB.out (by omega) (by omega) (by omega) (by omega) Z EZ.out).mono ?_
      rintro e wn ⟨rfl, fy⟩
      have S7 := hide (S7.out.fr fy)
      have S9 := hide (S9.out.fr fy)
      have S11 := hide (S11.out.fr fy)
      have S13 := hide (S13.out.fr fy)
      have S18 := hide (S18.out.fr fy)
      have S19 := hide (S19.out.fr fy)
      have S20 := hide (S20.out.fr fy)
      have RR := hide (RR.out.fr fy)
      have RX := hide (RX.out.fr fy)
      have RE := hide (RE.out.fr fy)
      have IK := hide (IK.out.fr fy)
      have HT := hide (HT.out.fr fy)
      have FW := hide (FW.out.trans fy)
      clear fy
      (try go_wp2_with fail)
      refine hK.out _ _ ?_ (fun hHeld => ?_)
      · (try dsimp only)
        exact ⟨S7.out.1, S7.out.2.1, S11.out.1, S11.out.2.1, S9.out.1, S9.out.2.1, S20.out.1, S20.out.2.1⟩
      clear hK K
      (try simp only [Act.put, List.getElem_toArray, List.getElem_cons_zero, List.getElem_cons_succ, List.setIfInBounds_toArray, List.set_cons_zero, List.set_cons_succ])
      refine wpAnyH_take (i := 7) (v := ?_) rfl (by kernel_rfl) (by kernel_rfl) (by kernel_rfl) (fun _ _ _ h => h) (Or.inl ⟨by rfl, ?_⟩) (by assumption) ?_
      rotate_left
      · (intro w hSw; (try dsimp only at hSw); go_simp; try with_reducible rfl)
      (try simp only [Act.put, List.getElem_toArray, List.getElem_cons_zero, List.getElem_cons_succ, List.setIfInBounds_toArray, List.set_cons_zero, List.set_cons_succ])
      refine wpAnyH_done (by kernel_rfl) ?_ _
      clear q7 q7' q9 q9' q11 q11' q20 q20' hHeld
      go_wp2_with fail
      refine (wakes_any _ (HL.out.fr FW.out)).mono ?_
      rintro e w15 ⟨rfl, fy⟩
      have S7 := hide (S7.out.fr fy)
      have S9 := hide (S9.out.fr fy)
      have S11 := hide (S11.out.fr fy)
      have S13 := hide (S13.out.fr fy)
      have S18 := hide (S18.out.fr fy)
      have S19 := hide (S19.out.fr fy)
      have S20 := hide (S20.out.fr fy)
      have RR := hide (RR.out.fr fy)
      have RX := hide (RX.out.fr fy)
      have RE := hide (RE.out.fr fy)
      have IK := hide (IK.out.fr fy)
      have HT := hide (HT.out.fr fy)
      have FW := hide (FW.out.trans fy)
      clear fy
      have q19 := S19.out.1
      have q19' := S19.out.2.1
      have q13 := S13.out.1
      have q13' := S13.out.2.1
      go_wp2_with fail
      refine (cmpR_any _ _ 0 (7 * z) 0 1 _ HT.out RE.out (rat_zero _ (by omega) rfl) (by rw [nlen_zero]; omega) (by omega) (by rw [nlen_zero]; omega) (by omega) 0 (by rw [Nat.zero_mul, Nat.zero_mul]; exact cmpZ_same 0)).mono ?_
      rintro e w16 ⟨rfl, fy⟩
      have S7 := hide (S7.out.fr fy)
      have S11 := hide (S11.out.fr fy)
      have S18 := hide (S18.out.fr fy)
      have RR := hide (RR.out.fr fy)
      have RX := hide (RX.out.fr fy)
      have IK := hide (IK.out.fr fy)
      have HT := hide (HT.out.fr fy)
      have FW := hide (FW.out.trans fy)
      clear fy q13 q13' q19 q19'
      have q18 := S18.out.1
      go_wp2_with fail
      refine (bits_any _ C _ IK.out (by omega)).mono ?_
      rintro e w17 ⟨rfl, fy⟩
      have S7 := hide (S7.out.fr fy)
      have S11 := hide (S11.out.fr fy)
      have RR := hide (RR.out.fr fy)
      have RX := hide (RX.out.fr fy)
      have HT := hide (HT.out.fr fy)
      have FW := hide (FW.out.trans fy)
      clear fy q18
      have hbits : (0 : Int) ≤ (nlen 2 C : Int) := by omega
      generalize nlen 2 C = NB at *
      have q7 := S7.out.1
      have q7' := S7.out.2.1
      have q11 := S11.out.1
      have q11' := S11.out.2.1
      rcases hZ2 with rfl | ⟨rfl, hgt⟩
      · go_wp2_with fail
        go_ret
        exact ⟨rfl, FW.out⟩
      · go_wp2_with fail
        refine (cmpR_any _ _ (C * z) 7 x y _ HT.out RX.out RR.out (by omega) (by omega) (by omega) (by omega) 1 hgt).mono ?_
        rintro e w18 ⟨rfl, fy⟩
        have FW := hide (FW.out.trans fy)
        clear fy
        go_wp2_with fail
        go_ret
        exact ⟨rfl, FW.out⟩
end Go.Proofs.YthdgdomgcogpjaaDoor
