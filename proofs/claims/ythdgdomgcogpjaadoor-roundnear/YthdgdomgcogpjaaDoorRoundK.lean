/- The law RoundNear. -/
import Derived.Test.YthdgdomgcogpjaaDoorRoundN
import Derived.Test.YthdgdomgcogpjaaDoorRoundB2
namespace Go.Proofs.YthdgdomgcogpjaaDoor
set_option linter.unusedVariables false
set_option linter.unusedSimpArgs false
open Go.RowKit

attribute [local go_sem] World.cell?_alloc_some
theorem near_half {x y T P : Nat} (hy : y ≠ 0) (hT : T ≠ 0) (hP : rndN (x * T) y = P) : ∃ Z : Int, cmpZ (awayN (x * T) (P * y) * (T + T)) (1 * (y * T)) = Z ∧ (Z = -1 ∨ (Z = 0 ∧ cmpZ (P * y) (x * T) = 1)) := by
  obtain ⟨h1, h2⟩ := rnd_half (a := x * T) hy
  rw [hP] at h1 h2
  have e1 : y * P = P * y := Nat.mul_comm _ _
  rw [e1] at h1 h2
  have ea : awayN (x * T) (P * y) = (x * T - P * y) + (P * y - x * T) := by unfold awayN; first | rfl | (split <;> omega)
  rw [ea, Nat.one_mul]
  have e3 : (x * T - P * y + (P * y - x * T)) * (T + T) = 2 * (x * T - P * y + (P * y - x * T)) * T := by rw [← Nat.two_mul]; ac_rfl
  rw [e3]
  generalize P * y = q at *
  generalize x * T = a at *
  refine ⟨_, rfl, ?_⟩
  rcases Nat.lt_or_ge (2 * ((a - q) + (q - a))) y with c | c
  · exact .inl (cmpZ_neg (Nat.mul_lt_mul_of_pos_right c (by omega)))
  · have c' : 2 * ((a - q) + (q - a)) = y := by omega
    refine .inr ⟨?_, cmpZ_pos (h2 c')⟩
    rw [c']
    exact cmpZ_same _

set_option maxHeartbeats 4000000 in
set_option maxRecDepth 4000 in
theorem law_RoundNear (a0 : Option Addr) (len0 cap0 : Nat) (z0 : List Int) (a1 : Option Addr) (len1 cap1 : Nat) (z1 : List Int) (pl : Int) (w : World) (h0 : IsRow .u32 w a0 len0 cap0 z0) (h1 : IsRow .u32 w a1 len1 cap1 z1) (hpw : (Lit.int .u8 pl).wf = true) (hL : Led w) :
    Calls Tryd.prog 5 #[.slice a0 len0 cap0, .slice a1 len1 cap1, .int .u8 pl] w fun e w' => e = .returned (.bool true) ∧ Fr w w' := by
  obtain ⟨k0, x, kB0, kl0, kc0, km0, km'0, nx, kn0, Mx⟩ := came9 4 (by omega) h0
  have kmin0 : min (len0 : Int) 4 = k0 := km'0
  have kt0 : (k0 : Int).toNat = k0 := by omega
  have kg0 : (k0 : Int) ≤ cap0 := by omega
  have kh0 : k0 ≤ cap0 := by omega
  clear km'0 h0
  obtain ⟨k1, y, kB1, kl1, kc1, km1, km'1, ny, kn1, My⟩ := came9 4 (by omega) h1
  have kmin1 : min (len1 : Int) 4 = k1 := km'1
  have kt1 : (k1 : Int).toNat = k1 := by omega
  have kg1 : (k1 : Int) ≤ cap1 := by omega
  have kh1 : k1 ≤ cap1 := by omega
  clear km'1 h1
  have HL := hide hL
  obtain ⟨ok, hok⟩ : ∃ ok : Bool, decide (y ≠ 0) = ok := ⟨_, rfl⟩
  have HOK := hide hok
  have n1 := n32_small (x := 1) (by omega)
  obtain ⟨pl0, pl1⟩ : 0 ≤ pl ∧ pl ≤ 255 := by
    simp [Lit.wf, IntKind.min, IntKind.max, IntKind.signed, IntKind.bits] at hpw
    omega
  obtain ⟨p, hp⟩ : ∃ p : Nat, pl % 50 = p := ⟨(pl % 50).toNat, by omega⟩
  have hp49 : p ≤ 49 := by omega
  clear hL hok hpw
  go_enter Tryd.func5, Tryd.ntmps5
  go_upto_region 1 with fail
  go_cut [7, 8] (fun s7 s8 wx => ∃ b r1 r2 r3 r4 r5 r6, s7 = .pointer (some ⟨b, 0, none⟩) ∧ s8 = .bool ok ∧ Hid (Slot2 w wx b (.slice r1 r2 r3) (.slice r4 r5 r6)) ∧ Hid (RatIf wx (.agg #[.slice r1 r2 r3, .slice r4 r5 r6]) x y) ∧ Hid (Fr w wx))
  case first =>
    refine wp_region_held_drew (S := (fun w' => Fr w w')) (by kernel_rfl) ?_ (fun hHeld => ?_)
    · exact Fr.drew _
    have fz := hide (Fr.drew w)
    generalize w.drew = wd at fz hHeld ⊢
    refine wpAnyH_take (i := 0) (v := ?_) rfl (by kernel_rfl) (by kernel_rfl) (by kernel_rfl) (fun _ _ _ h => h) (Or.inl ⟨by rfl, ?_⟩) (by assumption) ?_
    rotate_left
    · (intro w hSw; (try dsimp only at hSw); go_simp; try with_reducible rfl)
    (try simp only [Act.put, List.getElem_toArray, List.getElem_cons_zero, List.getElem_cons_succ, List.setIfInBounds_toArray, List.set_cons_zero, List.set_cons_succ])
    refine wpAnyH_take (i := 1) (v := ?_) rfl (by kernel_rfl) (by kernel_rfl) (by kernel_rfl) (fun _ _ _ h => h) (Or.inl ⟨by rfl, ?_⟩) (by assumption) ?_
    rotate_left
    · (intro w hSw; (try dsimp only at hSw); go_simp; try with_reducible rfl)
    (try simp only [Act.put, List.getElem_toArray, List.getElem_cons_zero, List.getElem_cons_succ, List.setIfInBounds_toArray, List.set_cons_zero, List.set_cons_succ])
    refine wpAnyH_take (i := 2) (v := ?_) rfl (by kernel_rfl) (by kernel_rfl) (by kernel_rfl) (fun _ _ _ h => h) (Or.inl ⟨by rfl, ?_⟩) (by assumption) ?_
    rotate_left
    · (intro w hSw; (try dsimp only at hSw); go_simp; try with_reducible rfl)
    (try simp only [Act.put, List.getElem_toArray, List.getElem_cons_zero, List.getElem_cons_succ, List.setIfInBounds_toArray, List.set_cons_zero, List.set_cons_succ])
    refine wpAnyH_take (i := 3) (v := ?_) rfl (by kernel_rfl) (by kernel_rfl) (by kernel_rfl) (fun _ _ _ h => h) (Or.inl ⟨by rfl, ?_⟩) (by assumption) ?_
    rotate_left
    · (intro w hSw; (try dsimp only at hSw); go_simp; try with_reducible rfl)
    (try simp only [Act.put, List.getElem_toArray, List.getElem_cons_zero, List.getElem_cons_succ, List.setIfInBounds_toArray, List.set_cons_zero, List.set_cons_succ])
    refine wpAnyH_take (i := 4) (v := ?_) rfl (by kernel_rfl) (by kernel_rfl) (by kernel_rfl) (fun _ _ _ h => h) (Or.inl ⟨by rfl, ?_⟩) (by assumption) ?_
    rotate_left
    · (intro w hSw; (try dsimp only at hSw); go_simp; try with_reducible rfl)
    (try simp only [Act.put, List.getElem_toArray, List.getElem_cons_zero, List.getElem_cons_succ, List.setIfInBounds_toArray, List.set_cons_zero, List.set_cons_succ])
    refine wpAnyH_take (i := 6) (v := ?_) rfl (by kernel_rfl) (by kernel_rfl) (by kernel_rfl) (fun _ _ _ h => h) (Or.inl ⟨by rfl, ?_⟩) (by assumption) ?_
    rotate_left
    · (intro w hSw; (try dsimp only at hSw); go_simp; try with_reducible rfl)
    (try simp only [Act.put, List.getElem_toArray, List.getElem_cons_zero, List.getElem_cons_succ, List.setIfInBounds_toArray, List.set_cons_zero, List.set_cons_succ])
    refine wpAnyH_take (i := 7) (v := ?_) rfl (by kernel_rfl) (by kernel_rfl) (by kernel_rfl) (fun _ _ _ h => h) (Or.inl ⟨by rfl, ?_⟩) (by assumption) ?_
    rotate_left
    · (intro w hSw; (try dsimp only at hSw); go_simp; try with_reducible rfl)
    (try simp only [Act.put, List.getElem_toArray, List.getElem_cons_zero, List.getElem_cons_succ, List.setIfInBounds_toArray, List.set_cons_zero, List.set_cons_succ])
    refine wpAnyH_take (i := 8) (v := ?_) rfl (by kernel_rfl) (by kernel_rfl) (by kernel_rfl) (fun _ _ _ h => h) (Or.inl ⟨by rfl, ?_⟩) (by assumption) ?_
    rotate_left
    · (intro w hSw; (try dsimp only at hSw); go_simp; try with_reducible rfl)
    (try simp only [Act.put, List.getElem_toArray, List.getElem_cons_zero, List.getElem_cons_succ, List.setIfInBounds_toArray, List.set_cons_zero, List.set_cons_succ])
    refine wpAnyH_take (i := 9) (v := ?_) rfl (by kernel_rfl) (by kernel_rfl) (by kernel_rfl) (fun _ _ _ h => h) (Or.inl ⟨by rfl, ?_⟩) (by assumption) ?_
    rotate_left
    · (intro w hSw; (try dsimp only at hSw); go_simp; try with_reducible rfl)
    (try simp only [Act.put, List.getElem_toArray, List.getElem_cons_zero, List.getElem_cons_succ, List.setIfInBounds_toArray, List.set_cons_zero, List.set_cons_succ])
    refine wpAnyH_take (i := 10) (v := ?_) rfl (by kernel_rfl) (by kernel_rfl) (by kernel_rfl) (fun _ _ _ h => h) (Or.inl ⟨by rfl, ?_⟩) (by assumption) ?_
    rotate_left
    · (intro w hSw; (try dsimp only at hSw); go_simp; try with_reducible rfl)
    (try simp only [Act.put, List.getElem_toArray, List.getElem_cons_zero, List.getElem_cons_succ, List.setIfInBounds_toArray, List.set_cons_zero, List.set_cons_succ])
    refine wpAnyH_ready (rs := [5, 16]) (by kernel_rfl) (by simp) ?_
    refine AllReadyH.cons rfl (fun K hK => ?_) (AllReadyH.cons rfl (fun K hK => ?_) AllReadyH.nil)
    · skip
      go_simp
      refine (Mx.out _ fz.out).mono ?_
      rintro e wa ⟨a3, c3, rfl, i3, fy⟩
      have I3 := hide i3
      clear i3
      have fz := hide (fz.out.trans fy)
      clear fy
      (try go_wp2_with fail)
      refine hK.out _ _ ?_ (fun hHeld => ?_)
      · (try dsimp only)
        exact fz.out
      clear hK K
      (try simp only [Act.put, List.getElem_toArray, List.getElem_cons_zero, List.getElem_cons_succ, List.setIfInBounds_toArray, List.set_cons_zero, List.set_cons_succ])
      refine wpAnyH_ready (rs := [11, 16]) (by kernel_rfl) (by simp) ?_
      refine AllReadyH.cons rfl (fun K hK => ?_) (AllReadyH.cons rfl (fun K hK => ?_) AllReadyH.nil)
      · skip
        go_simp
        refine (My.out _ fz.out).mono ?_
        rintro e wb ⟨a4, c4, rfl, i4, fy⟩
        have I4 := hide i4
        clear i4
        have I3 := hide (I3.out.fr fy)
        have fz := hide (fz.out.trans fy)
        clear fy
        (try go_wp2_with fail)
        refine hK.out _ _ ?_ (fun hHeld => ?_)
        · (try dsimp only)
          exact fz.out
        clear hK K
        (try simp only [Act.put, List.getElem_toArray, List.getElem_cons_zero, List.getElem_cons_succ, List.setIfInBounds_toArray, List.set_cons_zero, List.set_cons_succ])
        refine wpAnyH_ready (rs := [12, 16]) (by kernel_rfl) (by simp) ?_
        refine AllReadyH.cons rfl (fun K hK => ?_) (AllReadyH.cons rfl (fun K hK => ?_) AllReadyH.nil)
        · skip
          go_simp
          refine (ofR_both _ _ x y _ (HL.out.fr fz.out).1 I3.out I4.out (by omega) (by omega) ok HOK.out).mono ?_
          rintro e wg ⟨x1, x2, x3, x4, x5, x6, rfl, i5, fy⟩
          have I5 := hide i5
          clear i5
          have I3 := hide (I3.out.fr fy)
          have I4 := hide (I4.out.fr fy)
          have fz := hide (fz.out.trans fy)
          clear fy
          (try go_wp2_with fail)
          refine hK.out _ _ ?_ (fun hHeld => ?_)
          · (try dsimp only)
            exact fz.out
          clear hK K
          (try simp only [Act.put, List.getElem_toArray, List.getElem_cons_zero, List.getElem_cons_succ, List.setIfInBounds_toArray, List.set_cons_zero, List.set_cons_succ])
          refine wpAnyH_take (i := 13) (v := ?_) rfl (by kernel_rfl) (by kernel_rfl) (by kernel_rfl) (fun _ _ _ h => h) (Or.inl ⟨by rfl, ?_⟩) (by assumption) ?_
          rotate_left
          · (intro w hSw; (try dsimp only at hSw); go_simp; try with_reducible rfl)
          (try simp only [Act.put, List.getElem_toArray, List.getElem_cons_zero, List.getElem_cons_succ, List.setIfInBounds_toArray, List.set_cons_zero, List.set_cons_succ])
          refine wpAnyH_take (i := 14) (v := ?_) rfl (by kernel_rfl) (by kernel_rfl) (by kernel_rfl) (fun _ _ _ h => h) (Or.inl ⟨by rfl, ?_⟩) (by assumption) ?_
          rotate_left
          · (intro w hSw; (try dsimp only at hSw); go_simp; try with_reducible rfl)
          (try simp only [Act.put, List.getElem_toArray, List.getElem_cons_zero, List.getElem_cons_succ, List.setIfInBounds_toArray, List.set_cons_zero, List.set_cons_succ])
          refine wpAnyH_take (i := 15) (v := ?_) rfl (by kernel_rfl) (by kernel_rfl) (by kernel_rfl) (fun _ _ _ h => h) (Or.inl ⟨by rfl, ?_⟩) (by assumption) ?_
          rotate_left
          · (intro w hSw; (try dsimp only at hSw); go_simp; try with_reducible rfl)
          (try simp only [Act.put, List.getElem_toArray, List.getElem_cons_zero, List.getElem_cons_succ, List.setIfInBounds_toArray, List.set_cons_zero, List.set_cons_succ])
          refine wpAnyH_ready (rs := [16]) (by kernel_rfl) (by simp) ?_
          refine AllReadyH.cons rfl (fun K hK => ?_) AllReadyH.nil
          obtain ⟨bA, hbA⟩ : ∃ b, b = wg.heap.size := ⟨_, rfl⟩
          have fy := Fr.alloc wg (Obj.cells #[Value.slice none 0 0, Value.slice none 0 0] 27)
          have SA : Hid (Slot2 w (wg.alloc (Obj.cells #[Value.slice none 0 0, Value.slice none 0 0] 27)) bA (.slice none 0 0) (.slice none 0 0)) := by rw [hbA]; exact hide (Slot2.new fz.out none 0 0 none 0 0 27)
          have I3 := hide (I3.out.fr fy)
          have I4 := hide (I4.out.fr fy)
          have I5 := hide (I5.out.fr fy)
          have fz := hide (fz.out.trans fy)
          clear fy
          go_simp
          rw [← hbA]
          refine hK.out _ _ ?_ (fun hHeld => ?_)
          · (try dsimp only)
            exact fz.out
          clear hK K
          (try simp only [Act.put, List.getElem_toArray, List.getElem_cons_zero, List.getElem_cons_succ, List.setIfInBounds_toArray, List.set_cons_zero, List.set_cons_succ])
          obtain ⟨wA, hwA⟩ : ∃ wA, wA = wg.alloc (Obj.cells #[Value.slice none 0 0, Value.slice none 0 0] 27) := ⟨_, rfl⟩
          rw [← hwA] at fz SA hHeld I3 I4 I5 ⊢
          clear hwA hbA
          refine wpAnyH_ready (rs := [17]) (by kernel_rfl) (by simp) ?_
          refine AllReadyH.cons rfl (fun K hK => ?_) AllReadyH.nil
          have q_ := SA.out.1
          have q2_ := SA.out.2.1
          have z_ := SA.out.2.2.1 0
          have z2_ := SA.out.2.2.1 1
          have I5 := hide (SA.out.ratif I5.out x1 x2 x3 (.slice x4 x5 x6))
          have fz := hide (SA.out.set_fr fz.out (.slice x1 x2 x3) (.slice x4 x5 x6))
          have SA := hide (SA.out.set x1 x2 x3 x4 x5 x6)
          go_simp
          (try go_wp2_with fail)
          refine hK.out _ _ ?_ (fun hHeld => ?_)
          · (try dsimp only)
            exact fz.out
          clear hK K
          (try simp only [Act.put, List.getElem_toArray, List.getElem_cons_zero, List.getElem_cons_succ, List.setIfInBounds_toArray, List.set_cons_zero, List.set_cons_succ])
          refine wpAnyH_take (i := 18) (v := ?_) rfl (by kernel_rfl) (by kernel_rfl) (by kernel_rfl) (fun _ _ _ h => h) (Or.inl ⟨by rfl, ?_⟩) (by assumption) ?_
          rotate_left
          · (intro w hSw; (try dsimp only at hSw); go_simp; try with_reducible rfl)
          (try simp only [Act.put, List.getElem_toArray, List.getElem_cons_zero, List.getElem_cons_succ, List.setIfInBounds_toArray, List.set_cons_zero, List.set_cons_succ])
          refine wpAnyH_done (by kernel_rfl) ?_ _
          go_wp2_with fail
          go_meet
          exact ⟨_, _, _, _, _, _, _, rfl, rfl, SA, I5, fz⟩
        · skip
          obtain ⟨bA, hbA⟩ : ∃ b, b = wb.heap.size := ⟨_, rfl⟩
          have fy := Fr.alloc wb (Obj.cells #[Value.slice none 0 0, Value.slice none 0 0] 27)
          have SA : Hid (Slot2 w (wb.alloc (Obj.cells #[Value.slice none 0 0, Value.slice none 0 0] 27)) bA (.slice none 0 0) (.slice none 0 0)) := by rw [hbA]; exact hide (Slot2.new fz.out none 0 0 none 0 0 27)
          have I3 := hide (I3.out.fr fy)
          have I4 := hide (I4.out.fr fy)
          have fz := hide (fz.out.trans fy)
          clear fy
          go_simp
          rw [← hbA]
          refine hK.out _ _ ?_ (fun hHeld => ?_)
          · (try dsimp only)
            exact fz.out
          clear hK K
          (try simp only [Act.put, List.getElem_toArray, List.getElem_cons_zero, List.getElem_cons_succ, List.setIfInBounds_toArray, List.set_cons_zero, List.set_cons_succ])
          obtain ⟨wA, hwA⟩ : ∃ wA, wA = wb.alloc (Obj.cells #[Value.slice none 0 0, Value.slice none 0 0] 27) := ⟨_, rfl⟩
          rw [← hwA] at fz SA hHeld I3 I4 ⊢
          clear hwA hbA
          refine wpAnyH_ready (rs := [12]) (by kernel_rfl) (by simp) ?_
          refine AllReadyH.cons rfl (fun K hK => ?_) AllReadyH.nil
          go_simp
          refine (ofR_both _ _ x y _ (HL.out.fr fz.out).1 I3.out I4.out (by omega) (by omega) ok HOK.out).mono ?_
          rintro e wg ⟨x1, x2, x3, x4, x5, x6, rfl, i5, fy⟩
          have I5 := hide i5
          clear i5
          have I3 := hide (I3.out.fr fy)
          have I4 := hide (I4.out.fr fy)
          have SA := hide (SA.out.fr fy)
          have fz := hide (fz.out.trans fy)
          clear fy
          (try go_wp2_with fail)
          refine hK.out _ _ ?_ (fun hHeld => ?_)
          · (try dsimp only)
            exact fz.out
          clear hK K
          (try simp only [Act.put, List.getElem_toArray, List.getElem_cons_zero, List.getElem_cons_succ, List.setIfInBounds_toArray, List.set_cons_zero, List.set_cons_succ])
          refine wpAnyH_take (i := 13) (v := ?_) rfl (by kernel_rfl) (by kernel_rfl) (by kernel_rfl) (fun _ _ _ h => h) (Or.inl ⟨by rfl, ?_⟩) (by assumption) ?_
          rotate_left
          · (intro w hSw; (try dsimp only at hSw); go_simp; try with_reducible rfl)
          (try simp only [Act.put, List.getElem_toArray, List.getElem_cons_zero, List.getElem_cons_succ, List.setIfInBounds_toArray, List.set_cons_zero, List.set_cons_succ])
          refine wpAnyH_take (i := 14) (v := ?_) rfl (by kernel_rfl) (by kernel_rfl) (by kernel_rfl) (fun _ _ _ h => h) (Or.inl ⟨by rfl, ?_⟩) (by assumption) ?_
          rotate_left
          · (intro w hSw; (try dsimp only at hSw); go_simp; try with_reducible rfl)
          (try simp only [Act.put, List.getElem_toArray, List.getElem_cons_zero, List.getElem_cons_succ, List.setIfInBounds_toArray, List.set_cons_zero, List.set_cons_succ])
          refine wpAnyH_take (i := 15) (v := ?_) rfl (by kernel_rfl) (by kernel_rfl) (by kernel_rfl) (fun _ _ _ h => h) (Or.inl ⟨by rfl, ?_⟩) (by assumption) ?_
          rotate_left
          · (intro w hSw; (try dsimp only at hSw); go_simp; try with_reducible rfl)
          (try simp only [Act.put, List.getElem_toArray, List.getElem_cons_zero, List.getElem_cons_succ, List.setIfInBounds_toArray, List.set_cons_zero, List.set_cons_succ])
          refine wpAnyH_ready (rs := [17]) (by kernel_rfl) (by simp) ?_
          refine AllReadyH.cons rfl (fun K hK => ?_) AllReadyH.nil
          have q_ := SA.out.1
          have q2_ := SA.out.2.1
          have z_ := SA.out.2.2.1 0
          have z2_ := SA.out.2.2.1 1
          have I5 := hide (SA.out.ratif I5.out x1 x2 x3 (.slice x4 x5 x6))
          have fz := hide (SA.out.set_fr fz.out (.slice x1 x2 x3) (.slice x4 x5 x6))
          have SA := hide (SA.out.set x1 x2 x3 x4 x5 x6)
          go_simp
          (try go_wp2_with fail)
          refine hK.out _ _ ?_ (fun hHeld => ?_)
          · (try dsimp only)
            exact fz.out
          clear hK K
          (try simp only [Act.put, List.getElem_toArray, List.getElem_cons_zero, List.getElem_cons_succ, List.setIfInBounds_toArray, List.set_cons_zero, List.set_cons_succ])
          refine wpAnyH_take (i := 18) (v := ?_) rfl (by kernel_rfl) (by kernel_rfl) (by kernel_rfl) (fun _ _ _ h => h) (Or.inl ⟨by rfl, ?_⟩) (by assumption) ?_
          rotate_left
          · (intro w hSw; (try dsimp only at hSw); go_simp; try with_reducible rfl)
          (try simp only [Act.put, List.getElem_toArray, List.getElem_cons_zero, List.getElem_cons_succ, List.setIfInBounds_toArray, List.set_cons_zero, List.set_cons_succ])
          refine wpAnyH_done (by kernel_rfl) ?_ _
          go_wp2_with fail
          go_meet
          exact ⟨_, _, _, _, _, _, _, rfl, rfl, SA, I5, fz⟩
      · skip
        obtain ⟨bA, hbA⟩ : ∃ b, b = wa.heap.size := ⟨_, rfl⟩
        have fy := Fr.alloc wa (Obj.cells #[Value.slice none 0 0, Value.slice none 0 0] 27)
        have SA : Hid (Slot2 w (wa.alloc (Obj.cells #[Value.slice none 0 0, Value.slice none 0 0] 27)) bA (.slice none 0 0) (.slice none 0 0)) := by rw [hbA]; exact hide (Slot2.new fz.out none 0 0 none 0 0 27)
        have I3 := hide (I3.out.fr fy)
        have fz := hide (fz.out.trans fy)
        clear fy
        go_simp
        rw [← hbA]
        refine hK.out _ _ ?_ (fun hHeld => ?_)
        · (try dsimp only)
          exact fz.out
        clear hK K
        (try simp only [Act.put, List.getElem_toArray, List.getElem_cons_zero, List.getElem_cons_succ, List.setIfInBounds_toArray, List.set_cons_zero, List.set_cons_succ])
        obtain ⟨wA, hwA⟩ : ∃ wA, wA = wa.alloc (Obj.cells #[Value.slice none 0 0, Value.slice none 0 0] 27) := ⟨_, rfl⟩
        rw [← hwA] at fz SA hHeld I3 ⊢
        clear hwA hbA
        refine wpAnyH_ready (rs := [11]) (by kernel_rfl) (by simp) ?_
        refine AllReadyH.cons rfl (fun K hK => ?_) AllReadyH.nil
        go_simp
        refine (My.out _ fz.out).mono ?_
        rintro e wb ⟨a4, c4, rfl, i4, fy⟩
        have I4 := hide i4
        clear i4
        have I3 := hide (I3.out.fr fy)
        have SA := hide (SA.out.fr fy)
        have fz := hide (fz.out.trans fy)
        clear fy
        (try go_wp2_with fail)
        refine hK.out _ _ ?_ (fun hHeld => ?_)
        · (try dsimp only)
          exact fz.out
        clear hK K
        (try simp only [Act.put, List.getElem_toArray, List.getElem_cons_zero, List.getElem_cons_succ, List.setIfInBounds_toArray, List.set_cons_zero, List.set_cons_succ])
        refine wpAnyH_ready (rs := [12]) (by kernel_rfl) (by simp) ?_
        refine AllReadyH.cons rfl (fun K hK => ?_) AllReadyH.nil
        go_simp
        refine (ofR_both _ _ x y _ (HL.out.fr fz.out).1 I3.out I4.out (by omega) (by omega) ok HOK.out).mono ?_
        rintro e wg ⟨x1, x2, x3, x4, x5, x6, rfl, i5, fy⟩
        have I5 := hide i5
        clear i5
        have I3 := hide (I3.out.fr fy)
        have I4 := hide (I4.out.fr fy)
        have SA := hide (SA.out.fr fy)
        have fz := hide (fz.out.trans fy)
        clear fy
        (try go_wp2_with fail)
        refine hK.out _ _ ?_ (fun hHeld => ?_)
        · (try dsimp only)
          exact fz.out
        clear hK K
        (try simp only [Act.put, List.getElem_toArray, List.getElem_cons_zero, List.getElem_cons_succ, List.setIfInBounds_toArray, List.set_cons_zero, List.set_cons_succ])
        refine wpAnyH_take (i := 13) (v := ?_) rfl (by kernel_rfl) (by kernel_rfl) (by kernel_rfl) (fun _ _ _ h => h) (Or.inl ⟨by rfl, ?_⟩) (by assumption) ?_
        rotate_left
        · (intro w hSw; (try dsimp only at hSw); go_simp; try with_reducible rfl)
        (try simp only [Act.put, List.getElem_toArray, List.getElem_cons_zero, List.getElem_cons_succ, List.setIfInBounds_toArray, List.set_cons_zero, List.set_cons_succ])
        refine wpAnyH_take (i := 14) (v := ?_) rfl (by kernel_rfl) (by kernel_rfl) (by kernel_rfl) (fun _ _ _ h => h) (Or.inl ⟨by rfl, ?_⟩) (by assumption) ?_
        rotate_left
        · (intro w hSw; (try dsimp only at hSw); go_simp; try with_reducible rfl)
        (try simp only [Act.put, List.getElem_toArray, List.getElem_cons_zero, List.getElem_cons_succ, List.setIfInBounds_toArray, List.set_cons_zero, List.set_cons_succ])
        refine wpAnyH_take (i := 15) (v := ?_) rfl (by kernel_rfl) (by kernel_rfl) (by kernel_rfl) (fun _ _ _ h => h) (Or.inl ⟨by rfl, ?_⟩) (by assumption) ?_
        rotate_left
        · (intro w hSw; (try dsimp only at hSw); go_simp; try with_reducible rfl)
        (try simp only [Act.put, List.getElem_toArray, List.getElem_cons_zero, List.getElem_cons_succ, List.setIfInBounds_toArray, List.set_cons_zero, List.set_cons_succ])
        refine wpAnyH_ready (rs := [17]) (by kernel_rfl) (by simp) ?_
        refine AllReadyH.cons rfl (fun K hK => ?_) AllReadyH.nil
        have q_ := SA.out.1
        have q2_ := SA.out.2.1
        have z_ := SA.out.2.2.1 0
        have z2_ := SA.out.2.2.1 1
        have I5 := hide (SA.out.ratif I5.out x1 x2 x3 (.slice x4 x5 x6))
        have fz := hide (SA.out.set_fr fz.out (.slice x1 x2 x3) (.slice x4 x5 x6))
        have SA := hide (SA.out.set x1 x2 x3 x4 x5 x6)
        go_simp
        (try go_wp2_with fail)
        refine hK.out _ _ ?_ (fun hHeld => ?_)
        · (try dsimp only)
          exact fz.out
        clear hK K
        (try simp only [Act.put, List.getElem_toArray, List.getElem_cons_zero, List.getElem_cons_succ, List.setIfInBounds_toArray, List.set_cons_zero, List.set_cons_succ])
        refine wpAnyH_take (i := 18) (v := ?_) rfl (by kernel_rfl) (by kernel_rfl) (by kernel_rfl) (fun _ _ _ h => h) (Or.inl ⟨by rfl, ?_⟩) (by assumption) ?_
        rotate_left
        · (intro w hSw; (try dsimp only at hSw); go_simp; try with_reducible rfl)
        (try simp only [Act.put, List.getElem_toArray, List.getElem_cons_zero, List.getElem_cons_succ, List.setIfInBounds_toArray, List.set_cons_zero, List.set_cons_succ])
        refine wpAnyH_done (by kernel_rfl) ?_ _
        go_wp2_with fail
        go_meet
        exact ⟨_, _, _, _, _, _, _, rfl, rfl, SA, I5, fz⟩
    · skip
      obtain ⟨bA, hbA⟩ : ∃ b, b = wd.heap.size := ⟨_, rfl⟩
      have fy := Fr.alloc wd (Obj.cells #[Value.slice none 0 0, Value.slice none 0 0] 27)
      have SA : Hid (Slot2 w (wd.alloc (Obj.cells #[Value.slice none 0 0, Value.slice none 0 0] 27)) bA (.slice none 0 0) (.slice none 0 0)) := by rw [hbA]; exact hide (Slot2.new fz.out none 0 0 none 0 0 27)
      have fz := hide (fz.out.trans fy)
      clear fy
      go_simp
      rw [← hbA]
      refine hK.out _ _ ?_ (fun hHeld => ?_)
      · (try dsimp only)
        exact fz.out
      clear hK K
      (try simp only [Act.put, List.getElem_toArray, List.getElem_cons_zero, List.getElem_cons_succ, List.setIfInBounds_toArray, List.set_cons_zero, List.set_cons_succ])
      obtain ⟨wA, hwA⟩ : ∃ wA, wA = wd.alloc (Obj.cells #[Value.slice none 0 0, Value.slice none 0 0] 27) := ⟨_, rfl⟩
      rw [← hwA] at fz SA hHeld  ⊢
      clear hwA hbA
      refine wpAnyH_ready (rs := [5]) (by kernel_rfl) (by simp) ?_
      refine AllReadyH.cons rfl (fun K hK => ?_) AllReadyH.nil
      go_simp
      refine (Mx.out _ fz.out).mono ?_
      rintro e wa ⟨a3, c3, rfl, i3, fy⟩
      have I3 := hide i3
      clear i3
      have SA := hide (SA.out.fr fy)
      have fz := hide (fz.out.trans fy)
      clear fy
      (try go_wp2_with fail)
      refine hK.out _ _ ?_ (fun hHeld => ?_)
      · (try dsimp only)
        exact fz.out
      clear hK K
      (try simp only [Act.put, List.getElem_toArray, List.getElem_cons_zero, List.getElem_cons_succ, List.setIfInBounds_toArray, List.set_cons_zero, List.set_cons_succ])
      refine wpAnyH_ready (rs := [11]) (by kernel_rfl) (by simp) ?_
      refine AllReadyH.cons rfl (fun K hK => ?_) AllReadyH.nil
      go_simp
      refine (My.out _ fz.out).mono ?_
      rintro e wb ⟨a4, c4, rfl, i4, fy⟩
      have I4 := hide i4
      clear i4
      have I3 := hide (I3.out.fr fy)
      have SA := hide (SA.out.fr fy)
      have fz := hide (fz.out.trans fy)
      clear fy
      (try go_wp2_with fail)
      refine hK.out _ _ ?_ (fun hHeld => ?_)
      · (try dsimp only)
        exact fz.out
      clear hK K
      (try simp only [Act.put, List.getElem_toArray, List.getElem_cons_zero, List.getElem_cons_succ, List.setIfInBounds_toArray, List.set_cons_zero, List.set_cons_succ])
      refine wpAnyH_ready (rs := [12]) (by kernel_rfl) (by simp) ?_
      refine AllReadyH.cons rfl (fun K hK => ?_) AllReadyH.nil
      go_simp
      refine (ofR_both _ _ x y _ (HL.out.fr fz.out).1 I3.out I4.out (by omega) (by omega) ok HOK.out).mono ?_
      rintro e wg ⟨x1, x2, x3, x4, x5, x6, rfl, i5, fy⟩
      have I5 := hide i5
      clear i5
      have I3 := hide (I3.out.fr fy)
      have I4 := hide (I4.out.fr fy)
      have SA := hide (SA.out.fr fy)
      have fz := hide (fz.out.trans fy)
      clear fy
      (try go_wp2_with fail)
      refine hK.out _ _ ?_ (fun hHeld => ?_)
      · (try dsimp only)
        exact fz.out
      clear hK K
      (try simp only [Act.put, List.getElem_toArray, List.getElem_cons_zero, List.getElem_cons_succ, List.setIfInBounds_toArray, List.set_cons_zero, List.set_cons_succ])
      refine wpAnyH_take (i := 13) (v := ?_) rfl (by kernel_rfl) (by kernel_rfl) (by kernel_rfl) (fun _ _ _ h => h) (Or.inl ⟨by rfl, ?_⟩) (by assumption) ?_
      rotate_left
      · (intro w hSw; (try dsimp only at hSw); go_simp; try with_reducible rfl)
      (try simp only [Act.put, List.getElem_toArray, List.getElem_cons_zero, List.getElem_cons_succ, List.setIfInBounds_toArray, List.set_cons_zero, List.set_cons_succ])
      refine wpAnyH_take (i := 14) (v := ?_) rfl (by kernel_rfl) (by kernel_rfl) (by kernel_rfl) (fun _ _ _ h => h) (Or.inl ⟨by rfl, ?_⟩) (by assumption) ?_
      rotate_left
      · (intro w hSw; (try dsimp only at hSw); go_simp; try with_reducible rfl)
      (try simp only [Act.put, List.getElem_toArray, List.getElem_cons_zero, List.getElem_cons_succ, List.setIfInBounds_toArray, List.set_cons_zero, List.set_cons_succ])
      refine wpAnyH_take (i := 15) (v := ?_) rfl (by kernel_rfl) (by kernel_rfl) (by kernel_rfl) (fun _ _ _ h => h) (Or.inl ⟨by rfl, ?_⟩) (by assumption) ?_
      rotate_left
      · (intro w hSw; (try dsimp only at hSw); go_simp; try with_reducible rfl)
      (try simp only [Act.put, List.getElem_toArray, List.getElem_cons_zero, List.getElem_cons_succ, List.setIfInBounds_toArray, List.set_cons_zero, List.set_cons_succ])
      refine wpAnyH_ready (rs := [17]) (by kernel_rfl) (by simp) ?_
      refine AllReadyH.cons rfl (fun K hK => ?_) AllReadyH.nil
      have q_ := SA.out.1
      have q2_ := SA.out.2.1
      have z_ := SA.out.2.2.1 0
      have z2_ := SA.out.2.2.1 1
      have I5 := hide (SA.out.ratif I5.out x1 x2 x3 (.slice x4 x5 x6))
      have fz := hide (SA.out.set_fr fz.out (.slice x1 x2 x3) (.slice x4 x5 x6))
      have SA := hide (SA.out.set x1 x2 x3 x4 x5 x6)
      go_simp
      (try go_wp2_with fail)
      refine hK.out _ _ ?_ (fun hHeld => ?_)
      · (try dsimp only)
        exact fz.out
      clear hK K
      (try simp only [Act.put, List.getElem_toArray, List.getElem_cons_zero, List.getElem_cons_succ, List.setIfInBounds_toArray, List.set_cons_zero, List.set_cons_succ])
      refine wpAnyH_take (i := 18) (v := ?_) rfl (by kernel_rfl) (by kernel_rfl) (by kernel_rfl) (fun _ _ _ h => h) (Or.inl ⟨by rfl, ?_⟩) (by assumption) ?_
      rotate_left
      · (intro w hSw; (try dsimp only at hSw); go_simp; try with_reducible rfl)
      (try simp only [Act.put, List.getElem_toArray, List.getElem_cons_zero, List.getElem_cons_succ, List.setIfInBounds_toArray, List.set_cons_zero, List.set_cons_succ])
      refine wpAnyH_done (by kernel_rfl) ?_ _
      go_wp2_with fail
      go_meet
      exact ⟨_, _, _, _, _, _, _, rfl, rfl, SA, I5, fz⟩
  case rest =>
  obtain ⟨b7, r1, r2, r3, r4, r5, r6, rfl, rfl, S7, RR, FW⟩ := hcut
  obtain ⟨w1, hw1⟩ : ∃ V, V = wc := ⟨_, rfl⟩
  rw [← hw1] at S7 RR FW ⊢
  clear hw1 Mx My
  by_cases hy : y = 0
  · have hok : ok = false := by rw [← HOK.out, hy]; rfl
    subst hok
    go_wp2_with fail
    refine (wakes_any _ (HL.out.fr FW.out)).mono ?_
    rintro e w5 ⟨rfl, fy⟩
    have FW := hide (FW.out.trans fy)
    clear fy
    go_wp2_with fail
    go_ret
    exact ⟨rfl, FW.out⟩
  have hok : ok = true := by rw [← HOK.out]; exact decide_eq_true hy
  subst hok
  have RR := hide (RR.out hy)
  clear HOK
  have q7 := S7.out.1
  have q7' := S7.out.2.1
  obtain ⟨T, hT⟩ : ∃ T, 10 ^ p = T := ⟨_, rfl⟩
  have hT0 : T ≠ 0 := by rw [← hT]; exact ten_ne _
  have nT : nlen 4294967296 T ≤ 50 := nl_ten_m hT (by omega) (by omega)
  obtain ⟨P, hP⟩ : ∃ P, rndN (x * 10 ^ p) y = P := ⟨_, rfl⟩
  have nP : nlen 4294967296 P ≤ 60 := by
    rw [← hP, hT]
    refine Nat.le_trans (nlen_mono b32 rnd_top') ?_
    exact Nat.le_trans (nl_sum (n := 54) (nlen_mul b32 nx nT) (by omega)) (by omega)
  have HP := hide hP
  rw [hT] at hP
  have HPT := hide hP
  have HT := hide hT
  have HT2 : Hid (10 ^ (p : Int).toNat = T) := by rw [Int.toNat_natCast]; exact hT
  obtain ⟨SW, hSW⟩ : ∃ SW, bs (wD p P) = SW := ⟨_, rfl⟩
  obtain ⟨SF, hSF⟩ : ∃ SF, bs (fD p P) = SF := ⟨_, rfl⟩
  have HSW := hide hSW
  have HSF := hide hSF
  have zF : SF.size = p := by rw [← hSF, bs_size, fD_len]
  have zW : SW.size ≤ 2000 := by
    rw [← hSW, bs_size]
    have e1 := congrArg List.length (wD_fD p P)
    rw [List.length_append] at e1
    have e2 : (fixD p P).length ≤ 2000 := fixD_size (by omega) (by have := dec_size nP; rw [bs_size] at this; omega)
    omega
  have eX : (SW ++ SF).data.toList = fixD p P := by rw [← hSW, ← hSF, bs_append, bs_data, wD_fD]
  have zX : (SW ++ SF).size = SW.size + SF.size := by
    rw [← len_data, ← len_data, ← len_data, eX, ← hSW, ← hSF, bs_data, bs_data, ← List.length_append, wD_fD]
  clear hP hT hSW hSF
  go_wp2_with fail
  refine (atR_any _ x y _ (HL.out.fr FW.out).1 (HL.out.fr FW.out).2 RR.out (by omega) (by omega) p (by omega) P HP.out SW SF HSW.out HSF.out).mono ?_
  rintro e w2 ⟨rfl, fy⟩
  have S7 := hide (S7.out.fr fy)
  have RR := hide (RR.out.fr fy)
  have FW := hide (FW.out.trans fy)
  clear fy q7 q7'
  go_upto_region 6 with fail
  obtain ⟨W2, hW2⟩ : ∃ W, W = w2.alloc (Obj.cells #[.string SW, .string SF] 33) := ⟨_, rfl⟩
  have fy : Fr w2 W2 := by rw [hW2]; exact Fr.alloc _ _
  have X10 : Hid (Two w2 W2 w2.heap.size (.string SW) (.string SF)) := by rw [hW2]; exact hide (Two.new (Fr.refl _) _ _ _)
  rw [← hW2]
  clear hW2
  have S7 := hide (S7.out.fr fy)
  have RR := hide (RR.out.fr fy)
  have FW := hide (FW.out.trans fy)
  clear fy
  obtain ⟨L, hLx⟩ : ∃ L, fixD p P = L := ⟨_, rfl⟩
  have hAL : AllD L := by rw [← hLx]; exact fixD_all p P
  have hVL : valD L = P := by rw [← hLx]; exact fixD_val p P
  rw [hLx] at eX
  have zL : L.length = SW.size + SF.size := by rw [← eX, len_data, zX]
  have HAL := hide hAL
  have HVL := hide hVL
  clear hLx hAL hVL
  have FW0 := FW
  -- the number of the text
  obtain ⟨cap, W3, hcv, f3, bR⟩ := conv_bytes (W2.alloc (Obj.cells #[Value.slice none 0 0] 25)) (SW ++ SF)
  rw [eX] at bR
  have S12 : Hid (Slot W2 W3 W2.heap.size (.slice none 0 0)) := hide ((Slot.new (Fr.refl W2) none 0 0 25).fr f3)
  have F3 := hide ((Fr.alloc W2 (Obj.cells #[Value.slice none 0 0] 25)).trans f3)
  have hsz : (W2.alloc (Obj.cells #[Value.slice none 0 0] 25)).heap.size = W2.heap.size + 1 := by simp
  rw [hsz] at hcv bR
  have BR := hide bR
  have x1 := X10.out.1
  have x2 := X10.out.2.1
  clear f3 bR hsz eX
  go_wp2_with fail
  clear hcv x1 x2
  generalize (SW ++ SF).size = LL at *
  go_loopw [62] (fun s62 wr => ∃ (j v : Nat) (an : Option Addr) (cn : Nat), j ≤ LL ∧ s62 = .int .i64 j ∧ Hid (v = valD (L.take j)) ∧ nlen 4294967296 v ≤ 3000 ∧ Hid (Slot W2 wr W2.heap.size (.slice an (nlen 4294967296 v) cn)) ∧ Hid (IsNat wr (.agg #[.slice an (nlen 4294967296 v) cn]) v) ∧ Hid (BRow wr (W2.heap.size + 1) L) ∧ Hid (Fr W2 wr)) (fun s62 _ => LL - (intOf s62).toNat)
  case atStart => exact ⟨0, 0, none, 0, by omega, rfl, rfl, by rw [nlen_zero]; omega, by rw [nlen_zero]; exact S12, by rw [nlen_zero]; exact hide (isNat_zero _), BR, F3⟩
  case round =>
    clear S12 BR F3
    obtain ⟨j, v, an, cn, hj, rfl, HV, nv, S12, IV, BR, F3⟩ := hrel
    by_cases c : j < LL
    · have c' : (j : Int) < LL := by omega
      have hjL : j < L.length := by omega
      have hcell := BR.out j hjL
      obtain ⟨hb0, hb1⟩ := all_at HAL.out hjL
      have hst := val_step hjL
      rw [← HV.out] at hst
      obtain ⟨t, ht⟩ : ∃ t : Nat, (L.getD j 0).toNat = t + 48 := ⟨(L.getD j 0).toNat - 48, by omega⟩
      rw [ht] at hcell hst hb1
      rw [Nat.add_sub_cancel] at hst
      have HST := hide hst
      have nv2 : nlen 4294967296 (v * 10 + t) ≤ 3000 := by
        rw [← hst]
        exact val_nl HAL.out (by omega) (by omega)
      obtain ⟨tb, htb⟩ : ∃ tb : Int, ((t + 48 : Nat) : Int) = tb := ⟨_, rfl⟩
      rw [htb] at hcell
      have tb0 : 48 ≤ tb := by omega
      have tb1 : tb ≤ 57 := by omega
      have htb2 : tb - 48 = t := by omega
      have ht9 : t ≤ 9 := by omega
      have q12 := S12.out.1
      have hg0 : ¬ tb < 48 := by omega
      have hg1 : ¬ 57 < tb := by omega
      clear ht hst hb0 hb1 htb
      go_wp2_with fail
      refine (tenfold_any _ v _ IV.out (by omega)).mono ?_
      rintro e w4 ⟨a5, c5, rfl, l5, i5, fy⟩
      have I5 := hide i5
      have S12 := hide (S12.out.fr fy)
      have BR := hide (BR.out.fr fy)
      have F3 := hide (F3.out.trans fy)
      clear i5 fy IV q12
      have nv10 : nlen 4294967296 (v * 10) ≤ 4000 := Nat.le_trans (nlen_mul b32 nv (n32_small (x := 10) (by omega))) (by omega)
      go_wp2_with fail
      refine (made_lm _ (by omega) I5.out).mono ?_
      rintro e w5 ⟨a6, c6, rfl, i6, fy⟩
      have I6 := hide i6
      have S12 := hide (S12.out.fr fy)
      have BR := hide (BR.out.fr fy)
      have F3 := hide (F3.out.trans fy)
      clear i6 fy I5
      have hw8 : IntKind.u8.wrap (t : Int) = t := by simp only [IntKind.wrap_u8]; omega
      go_wp2_with fail
      refine (ofc_any _ t _ rfl (by omega)).mono ?_
      rintro e w6 ⟨a7, c7, rfl, i7, _, fy⟩
      have I7 := hide i7
      have S12 := hide (S12.out.fr fy)
      have BR := hide (BR.out.fr fy)
      have I6 := hide (I6.out.fr fy)
      have F3 := hide (F3.out.trans fy)
      clear i7 fy
      have nt : nlen 4294967296 t ≤ 1 := n32_small (by omega)
      go_wp2_with fail
      refine (add_any _ _ (v * 10) t _ I6.out I7.out (by omega) (by omega)).mono ?_
      rintro e w7 ⟨a8, c8, rfl, i8, _, fy⟩
      have I8 := hide i8
      have S12 := hide (S12.out.fr fy)
      have BR := hide (BR.out.fr fy)
      have F3 := hide (F3.out.trans fy)
      clear i8 fy I6 I7
      have q12 := S12.out.1
      have z12 := S12.out.2.1
      go_wp2_with fail
      have I8 := hide (S12.out.nat I8.out (.slice a8 (nlen 4294967296 (v * 10 + t)) c8))
      have BR := hide (BR.out.put ⟨W2.heap.size, 0, none⟩ (.slice a8 (nlen 4294967296 (v * 10 + t)) c8) (by show W2.heap.size ≠ W2.heap.size + 1; omega))
      have F3 := hide (S12.out.set_fr F3.out (.slice a8 (nlen 4294967296 (v * 10 + t)) c8))
      have S12 := hide (S12.out.set a8 (nlen 4294967296 (v * 10 + t)) c8)
      go_roundw
      case rel => exact ⟨j + 1, v * 10 + t, a8, c8, by omega, by go_num, hide HST.out.symm, nv2, S12, I8, BR, F3⟩
      case measure => simp [intOf]; omega
    · have c' : ¬ (j : Int) < LL := by omega
      have hvP : v = P := by rw [HV.out, List.take_of_length_le (by omega)]; exact HVL.out
      subst hvP
      clear HV HVL HAL BR
      have S7 := hide (S7.out.fr F3.out)
      have RR := hide (RR.out.fr F3.out)
      have X10 := hide (X10.out.fr F3.out)
      have FW := hide (FW.out.trans F3.out)
      have S12 := hide (S12.out.old FW0.out)
      clear F3 nv
      obtain ⟨w8, hw8⟩ : ∃ V, V = wr := ⟨_, rfl⟩
      rw [← hw8] at S7 RR X10 S12 IV FW ⊢
      clear hw8
      have q12 := S12.out.1
      have d12 := fr_cell (Fr.drew w8) q12
      go_upto_region 14 with fail
      go_cut [15, 16] (fun s15 s16 wx => ∃ b y1 y2 y3 y4 y5 y6, s15 = .pointer (some ⟨b, 0, none⟩) ∧ s16 = .bool true ∧ Hid (Slot2 w8 wx b (.slice y1 y2 y3) (.slice y4 y5 y6)) ∧ Hid (IsRat wx (.agg #[.slice y1 y2 y3, .slice y4 y5 y6]) v T) ∧ Hid (Fr w8 wx))
      case first =>
        refine wp_region_held_drew (S := (fun w' => w'.cell? ⟨W2.heap.size, 0, none⟩ = some (.slice an (nlen 4294967296 v) cn))) (by kernel_rfl) ?_ (fun hHeld => ?_)
        · exact d12
        have fz := hide (Fr.drew w8)
        generalize w8.drew = wd at fz hHeld ⊢
        refine wpAnyH_take (i := 0) (v := ?_) rfl (by kernel_rfl) (by kernel_rfl) (by kernel_rfl) (fun _ _ _ h => h) (Or.inl ⟨by rfl, ?_⟩) (by assumption) ?_
        rotate_left
        · (intro w hSw; (try dsimp only at hSw); go_simp; try with_reducible rfl)
        (try simp only [Act.put, List.getElem_toArray, List.getElem_cons_zero, List.getElem_cons_succ, List.setIfInBounds_toArray, List.set_cons_zero, List.set_cons_succ])
        refine wpAnyH_take (i := 1) (v := ?_) rfl (by kernel_rfl) (by kernel_rfl) (by kernel_rfl) (fun _ _ _ h => h) (Or.inl ⟨by rfl, ?_⟩) (by assumption) ?_
        rotate_left
        · (intro w hSw; (try dsimp only at hSw); go_simp; try with_reducible rfl)
        (try simp only [Act.put, List.getElem_toArray, List.getElem_cons_zero, List.getElem_cons_succ, List.setIfInBounds_toArray, List.set_cons_zero, List.set_cons_succ])
        refine wpAnyH_ready (rs := [2, 7]) (by kernel_rfl) (by simp) ?_
        refine AllReadyH.cons rfl (fun K hK => ?_) (AllReadyH.cons rfl (fun K hK => ?_) AllReadyH.nil)
        · skip
          go_simp
          refine (tend_any (p : Int) T _ (by omega) (by omega) HT2.out).mono ?_
          rintro e wa ⟨a5, c5, rfl, i5, fy⟩
          have I5 := hide i5
          clear i5
          have fz := hide (fz.out.trans fy)
          clear fy
          (try go_wp2_with fail)
          refine hK.out _ _ ?_ (fun hHeld => ?_)
          · (try dsimp only)
            exact fr_cell fz.out q12
          clear hK K
          (try simp only [Act.put, List.getElem_toArray, List.getElem_cons_zero, List.getElem_cons_succ, List.setIfInBounds_toArray, List.set_cons_zero, List.set_cons_succ])
          refine wpAnyH_ready (rs := [3, 7]) (by kernel_rfl) (by simp) ?_
          refine AllReadyH.cons rfl (fun K hK => ?_) (AllReadyH.cons rfl (fun K hK => ?_) AllReadyH.nil)
          · skip
            go_simp
            refine (ofR_yes _ _ v T _ (HL.out.fr (FW.out.trans fz.out)).1 (IV.out.fr fz.out) I5.out (by omega) (by omega) hT0).mono ?_
            rintro e wb ⟨v6, rfl, i6, fy⟩
            obtain ⟨x1, x2, x3, x4, x5, x6, rfl⟩ := i6.form
            have I6 := hide i6
            clear i6
            have I5 := hide (I5.out.fr fy)
            have fz := hide (fz.out.trans fy)
            clear fy
            (try go_wp2_with fail)
            refine hK.out _ _ ?_ (fun hHeld => ?_)
            · (try dsimp only)
              exact fr_cell fz.out q12
            clear hK K
            (try simp only [Act.put, List.getElem_toArray, List.getElem_cons_zero, List.getElem_cons_succ, List.setIfInBounds_toArray, List.set_cons_zero, List.set_cons_succ])
            refine wpAnyH_take (i := 4) (v := ?_) rfl (by kernel_rfl) (by kernel_rfl) (by kernel_rfl) (fun _ _ _ h => h) (Or.inl ⟨by rfl, ?_⟩) (by assumption) ?_
            rotate_left
            · (intro w hSw; (try dsimp only at hSw); go_simp; try with_reducible rfl)
            (try simp only [Act.put, List.getElem_toArray, List.getElem_cons_zero, List.getElem_cons_succ, List.setIfInBounds_toArray, List.set_cons_zero, List.set_cons_succ])
            refine wpAnyH_take (i := 5) (v := ?_) rfl (by kernel_rfl) (by kernel_rfl) (by kernel_rfl) (fun _ _ _ h => h) (Or.inl ⟨by rfl, ?_⟩) (by assumption) ?_
            rotate_left
            · (intro w hSw; (try dsimp only at hSw); go_simp; try with_reducible rfl)
            (try simp only [Act.put, List.getElem_toArray, List.getElem_cons_zero, List.getElem_cons_succ, List.setIfInBounds_toArray, List.set_cons_zero, List.set_cons_succ])
            refine wpAnyH_take (i := 6) (v := ?_) rfl (by kernel_rfl) (by kernel_rfl) (by kernel_rfl) (fun _ _ _ h => h) (Or.inl ⟨by rfl, ?_⟩) (by assumption) ?_
            rotate_left
            · (intro w hSw; (try dsimp only at hSw); go_simp; try with_reducible rfl)
            (try simp only [Act.put, List.getElem_toArray, List.getElem_cons_zero, List.getElem_cons_succ, List.setIfInBounds_toArray, List.set_cons_zero, List.set_cons_succ])
            refine wpAnyH_ready (rs := [7]) (by kernel_rfl) (by simp) ?_
            refine AllReadyH.cons rfl (fun K hK => ?_) AllReadyH.nil
            obtain ⟨bA, hbA⟩ : ∃ b, b = wb.heap.size := ⟨_, rfl⟩
            have fy := Fr.alloc wb (Obj.cells #[Value.slice none 0 0, Value.slice none 0 0] 27)
            have SA : Hid (Slot2 w8 (wb.alloc (Obj.cells #[Value.slice none 0 0, Value.slice none 0 0] 27)) bA (.slice none 0 0) (.slice none 0 0)) := by rw [hbA]; exact hide (Slot2.new fz.out none 0 0 none 0 0 27)
            have I5 := hide (I5.out.fr fy)
            have I6 := hide (I6.out.fr fy)
            have fz := hide (fz.out.trans fy)
            clear fy
            go_simp
            rw [← hbA]
            refine hK.out _ _ ?_ (fun hHeld => ?_)
            · (try dsimp only)
              exact fr_cell fz.out q12
            clear hK K
            (try simp only [Act.put, List.getElem_toArray, List.getElem_cons_zero, List.getElem_cons_succ, List.setIfInBounds_toArray, List.set_cons_zero, List.set_cons_succ])
            obtain ⟨wA, hwA⟩ : ∃ wA, wA = wb.alloc (Obj.cells #[Value.slice none 0 0, Value.slice none 0 0] 27) := ⟨_, rfl⟩
            rw [← hwA] at fz SA hHeld I5 I6 ⊢
            clear hwA hbA
            refine wpAnyH_ready (rs := [8]) (by kernel_rfl) (by simp) ?_
            refine AllReadyH.cons rfl (fun K hK => ?_) AllReadyH.nil
            have q_ := SA.out.1
            have q2_ := SA.out.2.1
            have z_ := SA.out.2.2.1 0
            have z2_ := SA.out.2.2.1 1
            have I6 := hide (SA.out.rat I6.out x1 x2 x3 (.slice x4 x5 x6))
            have fz := hide (SA.out.set_fr fz.out (.slice x1 x2 x3) (.slice x4 x5 x6))
            have SA := hide (SA.out.set x1 x2 x3 x4 x5 x6)
            go_simp
            (try go_wp2_with fail)
            refine hK.out _ _ ?_ (fun hHeld => ?_)
            · (try dsimp only)
              exact fr_cell fz.out q12
            clear hK K
            (try simp only [Act.put, List.getElem_toArray, List.getElem_cons_zero, List.getElem_cons_succ, List.setIfInBounds_toArray, List.set_cons_zero, List.set_cons_succ])
            refine wpAnyH_take (i := 9) (v := ?_) rfl (by kernel_rfl) (by kernel_rfl) (by kernel_rfl) (fun _ _ _ h => h) (Or.inl ⟨by rfl, ?_⟩) (by assumption) ?_
            rotate_left
            · (intro w hSw; (try dsimp only at hSw); go_simp; try with_reducible rfl)
            (try simp only [Act.put, List.getElem_toArray, List.getElem_cons_zero, List.getElem_cons_succ, List.setIfInBounds_toArray, List.set_cons_zero, List.set_cons_succ])
            refine wpAnyH_done (by kernel_rfl) ?_ _
            go_wp2_with fail
            go_meet
            exact ⟨_, _, _, _, _, _, _, rfl, rfl, SA, I6, fz⟩
          · skip
            obtain ⟨bA, hbA⟩ : ∃ b, b = wa.heap.size := ⟨_, rfl⟩
            have fy := Fr.alloc wa (Obj.cells #[Value.slice none 0 0, Value.slice none 0 0] 27)
            have SA : Hid (Slot2 w8 (wa.alloc (Obj.cells #[Value.slice none 0 0, Value.slice none 0 0] 27)) bA (.slice none 0 0) (.slice none 0 0)) := by rw [hbA]; exact hide (Slot2.new fz.out none 0 0 none 0 0 27)
            have I5 := hide (I5.out.fr fy)
            have fz := hide (fz.out.trans fy)
            clear fy
            go_simp
            rw [← hbA]
            refine hK.out _ _ ?_ (fun hHeld => ?_)
            · (try dsimp only)
              exact fr_cell fz.out q12
            clear hK K
            (try simp only [Act.put, List.getElem_toArray, List.getElem_cons_zero, List.getElem_cons_succ, List.setIfInBounds_toArray, List.set_cons_zero, List.set_cons_succ])
            obtain ⟨wA, hwA⟩ : ∃ wA, wA = wa.alloc (Obj.cells #[Value.slice none 0 0, Value.slice none 0 0] 27) := ⟨_, rfl⟩
            rw [← hwA] at fz SA hHeld I5 ⊢
            clear hwA hbA
            refine wpAnyH_ready (rs := [3]) (by kernel_rfl) (by simp) ?_
            refine AllReadyH.cons rfl (fun K hK => ?_) AllReadyH.nil
            go_simp
            refine (ofR_yes _ _ v T _ (HL.out.fr (FW.out.trans fz.out)).1 (IV.out.fr fz.out) I5.out (by omega) (by omega) hT0).mono ?_
            rintro e wb ⟨v6, rfl, i6, fy⟩
            obtain ⟨x1, x2, x3, x4, x5, x6, rfl⟩ := i6.form
            have I6 := hide i6
            clear i6
            have I5 := hide (I5.out.fr fy)
            have SA := hide (SA.out.fr fy)
            have fz := hide (fz.out.trans fy)
            clear fy
            (try go_wp2_with fail)
            refine hK.out _ _ ?_ (fun hHeld => ?_)
            · (try dsimp only)
              exact fr_cell fz.out q12
            clear hK K
            (try simp only [Act.put, List.getElem_toArray, List.getElem_cons_zero, List.getElem_cons_succ, List.setIfInBounds_toArray, List.set_cons_zero, List.set_cons_succ])
            refine wpAnyH_take (i := 4) (v := ?_) rfl (by kernel_rfl) (by kernel_rfl) (by kernel_rfl) (fun _ _ _ h => h) (Or.inl ⟨by rfl, ?_⟩) (by assumption) ?_
            rotate_left
            · (intro w hSw; (try dsimp only at hSw); go_simp; try with_reducible rfl)
            (try simp only [Act.put, List.getElem_toArray, List.getElem_cons_zero, List.getElem_cons_succ, List.setIfInBounds_toArray, List.set_cons_zero, List.set_cons_succ])
            refine wpAnyH_take (i := 5) (v := ?_) rfl (by kernel_rfl) (by kernel_rfl) (by kernel_rfl) (fun _ _ _ h => h) (Or.inl ⟨by rfl, ?_⟩) (by assumption) ?_
            rotate_left
            · (intro w hSw; (try dsimp only at hSw); go_simp; try with_reducible rfl)
            (try simp only [Act.put, List.getElem_toArray, List.getElem_cons_zero, List.getElem_cons_succ, List.setIfInBounds_toArray, List.set_cons_zero, List.set_cons_succ])
            refine wpAnyH_take (i := 6) (v := ?_) rfl (by kernel_rfl) (by kernel_rfl) (by kernel_rfl) (fun _ _ _ h => h) (Or.inl ⟨by rfl, ?_⟩) (by assumption) ?_
            rotate_left
            · (intro w hSw; (try dsimp only at hSw); go_simp; try with_reducible rfl)
            (try simp only [Act.put, List.getElem_toArray, List.getElem_cons_zero, List.getElem_cons_succ, List.setIfInBounds_toArray, List.set_cons_zero, List.set_cons_succ])
            refine wpAnyH_ready (rs := [8]) (by kernel_rfl) (by simp) ?_
            refine AllReadyH.cons rfl (fun K hK => ?_) AllReadyH.nil
            have q_ := SA.out.1
            have q2_ := SA.out.2.1
            have z_ := SA.out.2.2.1 0
            have z2_ := SA.out.2.2.1 1
            have I6 := hide (SA.out.rat I6.out x1 x2 x3 (.slice x4 x5 x6))
            have fz := hide (SA.out.set_fr fz.out (.slice x1 x2 x3) (.slice x4 x5 x6))
            have SA := hide (SA.out.set x1 x2 x3 x4 x5 x6)
            go_simp
            (try go_wp2_with fail)
            refine hK.out _ _ ?_ (fun hHeld => ?_)
            · (try dsimp only)
              exact fr_cell fz.out q12
            clear hK K
            (try simp only [Act.put, List.getElem_toArray, List.getElem_cons_zero, List.getElem_cons_succ, List.setIfInBounds_toArray, List.set_cons_zero, List.set_cons_succ])
            refine wpAnyH_take (i := 9) (v := ?_) rfl (by kernel_rfl) (by kernel_rfl) (by kernel_rfl) (fun _ _ _ h => h) (Or.inl ⟨by rfl, ?_⟩) (by assumption) ?_
            rotate_left
            · (intro w hSw; (try dsimp only at hSw); go_simp; try with_reducible rfl)
            (try simp only [Act.put, List.getElem_toArray, List.getElem_cons_zero, List.getElem_cons_succ, List.setIfInBounds_toArray, List.set_cons_zero, List.set_cons_succ])
            refine wpAnyH_done (by kernel_rfl) ?_ _
            go_wp2_with fail
            go_meet
            exact ⟨_, _, _, _, _, _, _, rfl, rfl, SA, I6, fz⟩
        · skip
          obtain ⟨bA, hbA⟩ : ∃ b, b = wd.heap.size := ⟨_, rfl⟩
          have fy := Fr.alloc wd (Obj.cells #[Value.slice none 0 0, Value.slice none 0 0] 27)
          have SA : Hid (Slot2 w8 (wd.alloc (Obj.cells #[Value.slice none 0 0, Value.slice none 0 0] 27)) bA (.slice none 0 0) (.slice none 0 0)) := by rw [hbA]; exact hide (Slot2.new fz.out none 0 0 none 0 0 27)
          have fz := hide (fz.out.trans fy)
          clear fy
          go_simp
          rw [← hbA]
          refine hK.out _ _ ?_ (fun hHeld => ?_)
          · (try dsimp only)
            exact fr_cell fz.out q12
          clear hK K
          (try simp only [Act.put, List.getElem_toArray, List.getElem_cons_zero, List.getElem_cons_succ, List.setIfInBounds_toArray, List.set_cons_zero, List.set_cons_succ])
          obtain ⟨wA, hwA⟩ : ∃ wA, wA = wd.alloc (Obj.cells #[Value.slice none 0 0, Value.slice none 0 0] 27) := ⟨_, rfl⟩
          rw [← hwA] at fz SA hHeld  ⊢
          clear hwA hbA
          refine wpAnyH_ready (rs := [2]) (by kernel_rfl) (by simp) ?_
          refine AllReadyH.cons rfl (fun K hK => ?_) AllReadyH.nil
          go_simp
          refine (tend_any (p : Int) T _ (by omega) (by omega) HT2.out).mono ?_
          rintro e wa ⟨a5, c5, rfl, i5, fy⟩
          have I5 := hide i5
          clear i5
          have SA := hide (SA.out.fr fy)
          have fz := hide (fz.out.trans fy)
          clear fy
          (try go_wp2_with fail)
          refine hK.out _ _ ?_ (fun hHeld => ?_)
          · (try dsimp only)
            exact fr_cell fz.out q12
          clear hK K
          (try simp only [Act.put, List.getElem_toArray, List.getElem_cons_zero, List.getElem_cons_succ, List.setIfInBounds_toArray, List.set_cons_zero, List.set_cons_succ])
          refine wpAnyH_ready (rs := [3]) (by kernel_rfl) (by simp) ?_
          refine AllReadyH.cons rfl (fun K hK => ?_) AllReadyH.nil
          go_simp
          refine (ofR_yes _ _ v T _ (HL.out.fr (FW.out.trans fz.out)).1 (IV.out.fr fz.out) I5.out (by omega) (by omega) hT0).mono ?_
          rintro e wb ⟨v6, rfl, i6, fy⟩
          obtain ⟨x1, x2, x3, x4, x5, x6, rfl⟩ := i6.form
          have I6 := hide i6
          clear i6
          have I5 := hide (I5.out.fr fy)
          have SA := hide (SA.out.fr fy)
          have fz := hide (fz.out.trans fy)
          clear fy
          (try go_wp2_with fail)
          refine hK.out _ _ ?_ (fun hHeld => ?_)
          · (try dsimp only)
            exact fr_cell fz.out q12
          clear hK K
          (try simp only [Act.put, List.getElem_toArray, List.getElem_cons_zero, List.getElem_cons_succ, List.setIfInBounds_toArray, List.set_cons_zero, List.set_cons_succ])
          refine wpAnyH_take (i := 4) (v := ?_) rfl (by kernel_rfl) (by kernel_rfl) (by kernel_rfl) (fun _ _ _ h => h) (Or.inl ⟨by rfl, ?_⟩) (by assumption) ?_
          rotate_left
          · (intro w hSw; (try dsimp only at hSw); go_simp; try with_reducible rfl)
          (try simp only [Act.put, List.getElem_toArray, List.getElem_cons_zero, List.getElem_cons_succ, List.setIfInBounds_toArray, List.set_cons_zero, List.set_cons_succ])
          refine wpAnyH_take (i := 5) (v := ?_) rfl (by kernel_rfl) (by kernel_rfl) (by kernel_rfl) (fun _ _ _ h => h) (Or.inl ⟨by rfl, ?_⟩) (by assumption) ?_
          rotate_left
          · (intro w hSw; (try dsimp only at hSw); go_simp; try with_reducible rfl)
          (try simp only [Act.put, List.getElem_toArray, List.getElem_cons_zero, List.getElem_cons_succ, List.setIfInBounds_toArray, List.set_cons_zero, List.set_cons_succ])
          refine wpAnyH_take (i := 6) (v := ?_) rfl (by kernel_rfl) (by kernel_rfl) (by kernel_rfl) (fun _ _ _ h => h) (Or.inl ⟨by rfl, ?_⟩) (by assumption) ?_
          rotate_left
          · (intro w hSw; (try dsimp only at hSw); go_simp; try with_reducible rfl)
          (try simp only [Act.put, List.getElem_toArray, List.getElem_cons_zero, List.getElem_cons_succ, List.setIfInBounds_toArray, List.set_cons_zero, List.set_cons_succ])
          refine wpAnyH_ready (rs := [8]) (by kernel_rfl) (by simp) ?_
          refine AllReadyH.cons rfl (fun K hK => ?_) AllReadyH.nil
          have q_ := SA.out.1
          have q2_ := SA.out.2.1
          have z_ := SA.out.2.2.1 0
          have z2_ := SA.out.2.2.1 1
          have I6 := hide (SA.out.rat I6.out x1 x2 x3 (.slice x4 x5 x6))
          have fz := hide (SA.out.set_fr fz.out (.slice x1 x2 x3) (.slice x4 x5 x6))
          have SA := hide (SA.out.set x1 x2 x3 x4 x5 x6)
          go_simp
          (try go_wp2_with fail)
          refine hK.out _ _ ?_ (fun hHeld => ?_)
          · (try dsimp only)
            exact fr_cell fz.out q12
          clear hK K
          (try simp only [Act.put, List.getElem_toArray, List.getElem_cons_zero, List.getElem_cons_succ, List.setIfInBounds_toArray, List.set_cons_zero, List.set_cons_succ])
          refine wpAnyH_take (i := 9) (v := ?_) rfl (by kernel_rfl) (by kernel_rfl) (by kernel_rfl) (fun _ _ _ h => h) (Or.inl ⟨by rfl, ?_⟩) (by assumption) ?_
          rotate_left
          · (intro w hSw; (try dsimp only at hSw); go_simp; try with_reducible rfl)
          (try simp only [Act.put, List.getElem_toArray, List.getElem_cons_zero, List.getElem_cons_succ, List.setIfInBounds_toArray, List.set_cons_zero, List.set_cons_succ])
          refine wpAnyH_done (by kernel_rfl) ?_ _
          go_wp2_with fail
          go_meet
          exact ⟨_, _, _, _, _, _, _, rfl, rfl, SA, I6, fz⟩
      case rest =>
      obtain ⟨b15, y1, y2, y3, y4, y5, y6, rfl, rfl, S15, RY, F1⟩ := hcut
      obtain ⟨w9, hw9⟩ : ∃ V, V = wc := ⟨_, rfl⟩
      rw [← hw9] at S15 RY F1 ⊢
      clear hw9 q12 d12
      have S7 := hide (S7.out.fr F1.out)
      have RR := hide (RR.out.fr F1.out)
      have X10 := hide (X10.out.fr F1.out)
      have FW := hide (FW.out.trans F1.out)
      clear F1 S12 IV
      go_wp2_with fail
      refine (ofc_any 1 1 _ rfl (by omega)).mono ?_
      rintro e w10 ⟨a3, c3, rfl, i3, _, fy⟩
      have I3 := hide i3
      have S7 := hide (S7.out.fr fy)
      have RR := hide (RR.out.fr fy)
      have X10 := hide (X10.out.fr fy)
      have S15 := hide (S15.out.fr fy)
      have RY := hide (RY.out.fr fy)
      have FW := hide (FW.out.trans fy)
      clear i3 fy
      go_wp2_with fail
      refine (tend_any (p : Int) T _ (by omega) (by omega) HT2.out).mono ?_
      rintro e w11 ⟨a4, c4, rfl, i4, fy⟩
      have I4 := hide i4
      have S7 := hide (S7.out.fr fy)
      have RR := hide (RR.out.fr fy)
      have X10 := hide (X10.out.fr fy)
      have S15 := hide (S15.out.fr fy)
      have RY := hide (RY.out.fr fy)
      have I3 := hide (I3.out.fr fy)
      have FW := hide (FW.out.trans fy)
      clear i4 fy
      go_wp2_with fail
      refine (ofR_yes _ _ 1 T _ (HL.out.fr FW.out).1 I3.out I4.out (by omega) (by omega) hT0).mono ?_
      rintro e w12 ⟨v12, rfl, i12, fy⟩
      obtain ⟨s1, s2, s3, s4, s5, s6, rfl⟩ := i12.form
      have RS := hide i12
      have S7 := hide (S7.out.fr fy)
      have RR := hide (RR.out.fr fy)
      have X10 := hide (X10.out.fr fy)
      have S15 := hide (S15.out.fr fy)
      have RY := hide (RY.out.fr fy)
      have FW := hide (FW.out.trans fy)
      clear i12 fy I3 I4
      go_wp2_with fail
      obtain ⟨W12, hW12⟩ : ∃ W, W = (w12.alloc (Obj.cells #[Value.slice s1 s2 s3, Value.slice s4 s5 s6] 27)) := ⟨_, rfl⟩
      have fy : Fr w12 W12 := by rw [hW12]; exact (Fr.alloc w12 (Obj.cells #[Value.slice s1 s2 s3, Value.slice s4 s5 s6] 27))
      have s17 : Slot2 w12 W12 (w12.heap.size) (.slice s1 s2 s3) (.slice s4 s5 s6) := by
        rw [hW12]; simpa using Slot2.new (Fr.refl w12) s1 s2 s3 s4 s5 s6 27
      rw [← hW12]
      clear hW12
      have S17 := hide s17
      have S7 := hide (S7.out.fr fy)
      have RR := hide (RR.out.fr fy)
      have X10 := hide (X10.out.fr fy)
      have S15 := hide (S15.out.fr fy)
      have RY := hide (RY.out.fr fy)
      have RS := hide (RS.out.fr fy)
      have FW := hide (FW.out.trans fy)
      clear s17 fy
      refine (ofc_any 1 1 _ rfl (by omega)).mono ?_
      rintro e w13 ⟨a3, c3, rfl, i3, _, fy⟩
      have I3 := hide i3
      have S7 := hide (S7.out.fr fy)
      have RR := hide (RR.out.fr fy)
      have X10 := hide (X10.out.fr fy)
      have S15 := hide (S15.out.fr fy)
      have RY := hide (RY.out.fr fy)
      have S17 := hide (S17.out.fr fy)
      have RS := hide (RS.out.fr fy)
      have FW := hide (FW.out.trans fy)
      clear i3 fy
      go_wp2_with fail
      refine (tend_any (p : Int) T _ (by omega) (by omega) HT2.out).mono ?_
      rintro e w14 ⟨a4, c4, rfl, i4, fy⟩
      have I4 := hide i4
      have S7 := hide (S7.out.fr fy)
      have RR := hide (RR.out.fr fy)
      have X10 := hide (X10.out.fr fy)
      have S15 := hide (S15.out.fr fy)
      have RY := hide (RY.out.fr fy)
      have S17 := hide (S17.out.fr fy)
      have RS := hide (RS.out.fr fy)
      have I3 := hide (I3.out.fr fy)
      have FW := hide (FW.out.trans fy)
      clear i4 fy
      go_wp2_with fail
      refine (tend_any (p : Int) T _ (by omega) (by omega) HT2.out).mono ?_
      rintro e w15 ⟨a5, c5, rfl, i5, fy⟩
      have I5 := hide i5
      have S7 := hide (S7.out.fr fy)
      have RR := hide (RR.out.fr fy)
      have X10 := hide (X10.out.fr fy)
      have S15 := hide (S15.out.fr fy)
      have RY := hide (RY.out.fr fy)
      have S17 := hide (S17.out.fr fy)
      have RS := hide (RS.out.fr fy)
      have I3 := hide (I3.out.fr fy)
      have I4 := hide (I4.out.fr fy)
      have FW := hide (FW.out.trans fy)
      clear i5 fy
      go_wp2_with fail
      refine (add_any _ _ T T _ I4.out I5.out (by omega) (by omega)).mono ?_
      rintro e w16 ⟨a6, c6, rfl, i6, _, fy⟩
      have I6 := hide i6
      have S7 := hide (S7.out.fr fy)
      have RR := hide (RR.out.fr fy)
      have X10 := hide (X10.out.fr fy)
      have S15 := hide (S15.out.fr fy)
      have RY := hide (RY.out.fr fy)
      have S17 := hide (S17.out.fr fy)
      have RS := hide (RS.out.fr fy)
      have I3 := hide (I3.out.fr fy)
      have FW := hide (FW.out.trans fy)
      clear i6 fy I4 I5
      have nTT : nlen 4294967296 (T + T) ≤ 51 := nl_sum nT nT
      go_wp2_with fail
      refine (ofR_yes _ _ 1 (T + T) _ (HL.out.fr FW.out).1 I3.out I6.out (by omega) (by omega) (by omega)).mono ?_
      rintro e w17 ⟨v17, rfl, i17, fy⟩
      obtain ⟨h1, h2, h3, h4, h5, h6, rfl⟩ := i17.form
      have RH := hide i17
      have S7 := hide (S7.out.fr fy)
      have RR := hide (RR.out.fr fy)
      have X10 := hide (X10.out.fr fy)
      have S15 := hide (S15.out.fr fy)
      have RY := hide (RY.out.fr fy)
      have S17 := hide (S17.out.fr fy)
      have RS := hide (RS.out.fr fy)
      have FW := hide (FW.out.trans fy)
      clear i17 fy I3 I6
      go_upto_region 17 with fail
      obtain ⟨W17, hW17⟩ : ∃ W, W = (w17.alloc (Obj.cells #[Value.slice h1 h2 h3, Value.slice h4 h5 h6] 27)) := ⟨_, rfl⟩
      have fy : Fr w17 W17 := by rw [hW17]; exact (Fr.alloc w17 (Obj.cells #[Value.slice h1 h2 h3, Value.slice h4 h5 h6] 27))
      have s19 : Slot2 w17 W17 (w17.heap.size) (.slice h1 h2 h3) (.slice h4 h5 h6) := by
        rw [hW17]; simpa using Slot2.new (Fr.refl w17) h1 h2 h3 h4 h5 h6 27
      rw [← hW17]
      clear hW17
      have S19 := hide s19
      have S7 := hide (S7.out.fr fy)
      have RR := hide (RR.out.fr fy)
      have X10 := hide (X10.out.fr fy)
      have S15 := hide (S15.out.fr fy)
      have RY := hide (RY.out.fr fy)
      have S17 := hide (S17.out.fr fy)
      have RS := hide (RS.out.fr fy)
      have RH := hide (RH.out.fr fy)
      have FW := hide (FW.out.trans fy)
      clear s19 fy
      go_cut [140] (fun s140 wx => s140 = .bool false ∧ Hid (Fr W17 wx))
      case first =>
        have hw0 : Hid ((wD p v).head? ≠ some 48) := hide (wD_head p v)
        go_wp2_with fail
        refine (wakes_any _ (HL.out.fr FW.out)).mono ?_
        rintro e w18 ⟨rfl, fy⟩
        have F1 := hide fy
        have X10 := hide (X10.out.fr fy)
        clear fy
        have x1 := X10.out.1
        have x2 := X10.out.2.1
        have zFi : (SF.size : Int) = p := by omega
        have zFb : ((SF.size : Int) != (p : Int)) = false := by rw [zFi]; exact bne_self_eq_false _
        by_cases hs : SW.size = 0
        · have hE : SW.toList = [] := by rw [Go.Lib.toList_data]; exact List.eq_nil_of_length_eq_zero (by rw [len_data]; exact hs)
          have hE1 : SW.toList.isEmpty = true := by rw [hE]; rfl
          clear hs
          go_wp2_with fail
          go_meet
          exact ⟨rfl, F1⟩
        · have hs0 : 0 < SW.size := by omega
          have hE1 : SW.toList.isEmpty = false := by
            rw [Go.Lib.toList_data]
            have := len_data SW
            cases hl : SW.data.toList with
            | nil => rw [hl] at this; simp at this; omega
            | cons a l => rfl
          obtain ⟨bt, hbt, hbt2⟩ := data_at SW 0 hs0
          have hne : bt ≠ 48 := by
            rintro rfl
            apply hw0.out
            rw [← HSW.out, bs_data] at hbt2
            rw [List.head?_eq_getElem?]
            exact hbt2
          obtain ⟨b0, hb0⟩ : ∃ b0 : Int, ((SW[0]'hs0).toNat : Int) = b0 := ⟨_, rfl⟩
          have hb48 : b0 ≠ 48 := by
            rw [← hb0, hbt]
            intro e
            apply hne
            have e2 : bt.toNat = (48 : UInt8).toNat := by have : (48 : UInt8).toNat = 48 := rfl; omega
            exact UInt8.toNat_inj.1 e2
          have hb48' : (b0 == 48) = false := by simpa using hb48
          have hbb : 0 ≤ b0 ∧ b0 ≤ 255 := by rw [← hb0]; exact byte_bd _
          clear hbt hbt2 hne hs hb48
          go_wp2_with fail
          go_meet
          exact ⟨rfl, F1⟩
      case rest =>
      obtain ⟨rfl, F1⟩ := hcut
      obtain ⟨w19, hw19⟩ : ∃ V, V = wc := ⟨_, rfl⟩
      rw [← hw19] at F1 ⊢
      clear hw19
      have S7 := hide (S7.out.fr F1.out)
      have RR := hide (RR.out.fr F1.out)
      have S15 := hide (S15.out.fr F1.out)
      have RY := hide (RY.out.fr F1.out)
      have S17 := hide (S17.out.fr F1.out)
      have RS := hide (RS.out.fr F1.out)
      have S19 := hide (S19.out.fr F1.out)
      have RH := hide (RH.out.fr F1.out)
      have FW := hide (FW.out.trans F1.out)
      clear F1 X10
      obtain ⟨Z, hZ, hZ2⟩ := near_half hy hT0 HPT.out
      have EZ := hide hZ
      clear hZ
      have nXT : nlen 4294967296 (x * T) ≤ 54 := nlen_mul b32 nx nT
      have nYT : nlen 4294967296 (y * T) ≤ 54 := nlen_mul b32 ny nT
      have nVY : nlen 4294967296 (v * y) ≤ 64 := nlen_mul b32 nP ny
      have nAw : nlen 4294967296 (awayN (x * T) (v * y)) ≤ 70 := by
        have ea : awayN (x * T) (v * y) ≤ x * T + v * y := by unfold awayN; first | omega | (split <;> omega)
        refine Nat.le_trans (nlen_mono b32 ea) ?_
        exact Nat.le_trans (nl_sum (n := 64) (by omega) nVY) (by omega)
      have HTb := hide (HL.out.fr FW.out).1
      have S7 := hide (S7.out.fr (Fr.drew _))
      have RR := hide (RR.out.fr (Fr.drew _))
      have S15 := hide (S15.out.fr (Fr.drew _))
      have RY := hide (RY.out.fr (Fr.drew _))
      have S17 := hide (S17.out.fr (Fr.drew _))
      have RS := hide (RS.out.fr (Fr.drew _))
      have S19 := hide (S19.out.fr (Fr.drew _))
      have RH := hide (RH.out.fr (Fr.drew _))
      have HTb := hide (HTb.out.fr (Fr.drew _))
      have FW := hide (FW.out.trans (Fr.drew _))
      have q7 := S7.out.1
      have q7' := S7.out.2.1
      have q15 := S15.out.1
      have q15' := S15.out.2.1
      have q19 := S19.out.1
      have q19' := S19.out.2.1
      go_wp2_with fail
      refine wp_region_held_drew (S := (fun w' => w'.cell? ⟨b7, 0, none⟩ = some (.slice r1 r2 r3) ∧ w'.cell? ⟨b7, 1, none⟩ = some (.slice r4 r5 r6) ∧ w'.cell? ⟨b15, 0, none⟩ = some (.slice y1 y2 y3) ∧ w'.cell? ⟨b15, 1, none⟩ = some (.slice y4 y5 y6) ∧ w'.cell? ⟨w17.heap.size, 0, none⟩ = some (.slice h1 h2 h3) ∧ w'.cell? ⟨w17.heap.size, 1, none⟩ = some (.slice h4 h5 h6))) (by kernel_rfl) ?_ (fun hHeld => ?_)
      · exact ⟨S7.out.1, S7.out.2.1, S15.out.1, S15.out.2.1, S19.out.1, S19.out.2.1⟩
      obtain ⟨wd, hwd⟩ : ∃ wd, wd = w19.drew := ⟨_, rfl⟩
      rw [← hwd] at hHeld S7 RR S15 RY S17 RS S19 RH HTb FW ⊢
      clear hwd
      refine wpAnyH_take (i := 0) (v := ?_) rfl (by kernel_rfl) (by kernel_rfl) (by kernel_rfl) (fun _ _ _ h => h) (Or.inl ⟨by rfl, ?_⟩) (by assumption) ?_
      rotate_left
      · (intro w hSw; (try dsimp only at hSw); go_simp; try with_reducible rfl)
      (try simp only [Act.put, List.getElem_toArray, List.getElem_cons_zero, List.getElem_cons_succ, List.setIfInBounds_toArray, List.set_cons_zero, List.set_cons_succ])
      refine wpAnyH_take (i := 1) (v := ?_) rfl (by kernel_rfl) (by kernel_rfl) (by kernel_rfl) (fun _ _ _ h => h) (Or.inl ⟨by rfl, ?_⟩) (by assumption) ?_
      rotate_left
      · (intro w hSw; (try dsimp only at hSw); go_simp; try with_reducible rfl)
      (try simp only [Act.put, List.getElem_toArray, List.getElem_cons_zero, List.getElem_cons_succ, List.setIfInBounds_toArray, List.set_cons_zero, List.set_cons_succ])
      refine wpAnyH_take (i := 3) (v := ?_) rfl (by kernel_rfl) (by kernel_rfl) (by kernel_rfl) (fun _ _ _ h => h) (Or.inl ⟨by rfl, ?_⟩) (by assumption) ?_
      rotate_left
      · (intro w hSw; (try dsimp only at hSw); go_simp; try with_reducible rfl)
      (try simp only [Act.put, List.getElem_toArray, List.getElem_cons_zero, List.getElem_cons_succ, List.setIfInBounds_toArray, List.set_cons_zero, List.set_cons_succ])
      refine wpAnyH_ready (rs := [2]) (by kernel_rfl) (by simp) ?_
      refine AllReadyH.cons rfl (fun K hK => ?_) AllReadyH.nil
      go_simp
      refine (awayR_any _ _ x y v T _ HTb.out RR.out RY.out (by omega) (by omega) (by omega) (by omega)).mono ?_
      rintro e wn ⟨v20, rfl, ir, fy⟩
      have RA := hide ir
      have S7 := hide (S7.out.fr fy)
      have RR := hide (RR.out.fr fy)
      have S15 := hide (S15.out.fr fy)
      have RY := hide (RY.out.fr fy)
      have S17 := hide (S17.out.fr fy)
      have RS := hide (RS.out.fr fy)
      have S19 := hide (S19.out.fr fy)
      have HTb := hide (HTb.out.fr fy)
      have RH := hide (RH.out.fr fy)
      have FW := hide (FW.out.trans fy)
      obtain ⟨l1, l2, l3, l4, l5, l6, rfl⟩ := ir.form
      clear ir fy
      (try go_wp2_with fail)
      refine hK.out _ _ ?_ (fun hHeld => ?_)
      · (try dsimp only)
        exact ⟨S7.out.1, S7.out.2.1, S15.out.1, S15.out.2.1, S19.out.1, S19.out.2.1⟩
      clear hK K
      (try simp only [Act.put, List.getElem_toArray, List.getElem_cons_zero, List.getElem_cons_succ, List.setIfInBounds_toArray, List.set_cons_zero, List.set_cons_succ])
      refine wpAnyH_ready (rs := [4]) (by kernel_rfl) (by simp) ?_
      refine AllReadyH.cons rfl (fun K hK => ?_) AllReadyH.nil
      go_simp
      refine (cmpR_any _ _ (awayN (x * T) (v * y)) (y * T) 1 (T + T) _ HTb.out RA.out RH.out (by omega) (by omega) (by omega) (by omega) Z EZ.out).mono ?_
      rintro e wn ⟨rfl, fy⟩
      have S7 := hide (S7.out.fr fy)
      have RR := hide (RR.out.fr fy)
      have S15 := hide (S15.out.fr fy)
      have RY := hide (RY.out.fr fy)
      have S17 := hide (S17.out.fr fy)
      have RS := hide (RS.out.fr fy)
      have S19 := hide (S19.out.fr fy)
      have HTb := hide (HTb.out.fr fy)
      have FW := hide (FW.out.trans fy)
      clear fy
      (try go_wp2_with fail)
      refine hK.out _ _ ?_ (fun hHeld => ?_)
      · (try dsimp only)
        exact ⟨S7.out.1, S7.out.2.1, S15.out.1, S15.out.2.1, S19.out.1, S19.out.2.1⟩
      clear hK K
      (try simp only [Act.put, List.getElem_toArray, List.getElem_cons_zero, List.getElem_cons_succ, List.setIfInBounds_toArray, List.set_cons_zero, List.set_cons_succ])
      refine wpAnyH_take (i := 5) (v := ?_) rfl (by kernel_rfl) (by kernel_rfl) (by kernel_rfl) (fun _ _ _ h => h) (Or.inl ⟨by rfl, ?_⟩) (by assumption) ?_
      rotate_left
      · (intro w hSw; (try dsimp only at hSw); go_simp; try with_reducible rfl)
      (try simp only [Act.put, List.getElem_toArray, List.getElem_cons_zero, List.getElem_cons_succ, List.setIfInBounds_toArray, List.set_cons_zero, List.set_cons_succ])
      refine wpAnyH_done (by kernel_rfl) ?_ _
      clear q7 q7' q15 q15' q19 q19' hHeld
      have q7 := S7.out.1
      have q7' := S7.out.2.1
      have q17 := S17.out.1
      have q17' := S17.out.2.1
      go_wp2_with fail
      refine (stepR_yes _ _ x y 1 T _ HTb.out RR.out RS.out (by omega) (by omega) (by omega) (by omega) (by omega) v (by rw [Nat.mul_one]; exact HPT.out)).mono ?_
      rintro e w21 ⟨v21, rfl, i21, fy⟩
      obtain ⟨g1, g2, g3, g4, g5, g6, rfl⟩ := i21.form
      have RZ : Hid (IsRat w21 (.agg #[.slice g1 g2 g3, .slice g4 g5 g6]) v T) := by rw [Nat.mul_one] at i21; exact hide i21
      have S7 := hide (S7.out.fr fy)
      have RR := hide (RR.out.fr fy)
      have S15 := hide (S15.out.fr fy)
      have RY := hide (RY.out.fr fy)
      have S17 := hide (S17.out.fr fy)
      have RS := hide (RS.out.fr fy)
      have S19 := hide (S19.out.fr fy)
      have HTb := hide (HTb.out.fr fy)
      have FW := hide (FW.out.trans fy)
      clear i21 fy q7 q7' q17 q17'
      have q15 := S15.out.1
      have q15' := S15.out.2.1
      have q17 := S17.out.1
      have q17' := S17.out.2.1
      go_wp2_with fail
      obtain ⟨W21, hW21⟩ : ∃ W, W = (w21.alloc (Obj.cells #[Value.slice g1 g2 g3, Value.slice g4 g5 g6] 27)) := ⟨_, rfl⟩
      have fy : Fr w21 W21 := by rw [hW21]; exact (Fr.alloc w21 (Obj.cells #[Value.slice g1 g2 g3, Value.slice g4 g5 g6] 27))
      have s22 : Slot2 w21 W21 (w21.heap.size) (.slice g1 g2 g3) (.slice g4 g5 g6) := by
        rw [hW21]; simpa using Slot2.new (Fr.refl w21) g1 g2 g3 g4 g5 g6 27
      rw [← hW21]
      clear hW21
      have S22 := hide s22
      have S7 := hide (S7.out.fr fy)
      have RR := hide (RR.out.fr fy)
      have S15 := hide (S15.out.fr fy)
      have RY := hide (RY.out.fr fy)
      have S17 := hide (S17.out.fr fy)
      have RS := hide (RS.out.fr fy)
      have S19 := hide (S19.out.fr fy)
      have HTb := hide (HTb.out.fr fy)
      have RZ := hide (RZ.out.fr fy)
      have FW := hide (FW.out.trans fy)
      clear s22 fy q15 q15' q17 q17'
      have eW : rndN (v * T) (T * 1) = v := by rw [Nat.mul_one]; exact rnd_whole hT0
      refine (stepR_yes _ _ v T 1 T _ HTb.out RY.out RS.out (by omega) (by omega) (by omega) (by omega) (by omega) v eW).mono ?_
      rintro e w22 ⟨v22, rfl, i22, fy⟩
      obtain ⟨j1, j2, j3, j4, j5, j6, rfl⟩ := i22.form
      have RW : Hid (IsRat w22 (.agg #[.slice j1 j2 j3, .slice j4 j5 j6]) v T) := by rw [Nat.mul_one] at i22; exact hide i22
      have S7 := hide (S7.out.fr fy)
      have RR := hide (RR.out.fr fy)
      have S15 := hide (S15.out.fr fy)
      have RY := hide (RY.out.fr fy)
      have HTb := hide (HTb.out.fr fy)
      have S22 := hide (S22.out.fr fy)
      have RZ := hide (RZ.out.fr fy)
      have FW := hide (FW.out.trans fy)
      clear i22 fy eW S17 RS S19
      have q7 := S7.out.1
      have q7' := S7.out.2.1
      have q15 := S15.out.1
      have q15' := S15.out.2.1
      have p22 := S22.out.1
      have p22' := S22.out.2.1
      rcases hZ2 with rfl | ⟨rfl, hgt⟩
      · go_wp2_with fail
        obtain ⟨W22, hW22⟩ : ∃ W, W = (w22.alloc (Obj.cells #[Value.slice j1 j2 j3, Value.slice j4 j5 j6] 27)) := ⟨_, rfl⟩
        have fy : Fr w22 W22 := by rw [hW22]; exact (Fr.alloc w22 (Obj.cells #[Value.slice j1 j2 j3, Value.slice j4 j5 j6] 27))
        have s24 : Slot2 w22 W22 (w22.heap.size) (.slice j1 j2 j3) (.slice j4 j5 j6) := by
          rw [hW22]; simpa using Slot2.new (Fr.refl w22) j1 j2 j3 j4 j5 j6 27
        rw [← hW22]
        clear hW22
        have S24 := hide s24
        have S15 := hide (S15.out.fr fy)
        have RY := hide (RY.out.fr fy)
        have HTb := hide (HTb.out.fr fy)
        have S22 := hide (S22.out.fr fy)
        have RZ := hide (RZ.out.fr fy)
        have RW := hide (RW.out.fr fy)
        have FW := hide (FW.out.trans fy)
        clear s24 fy
        refine (cmpR_any _ _ v T v T _ HTb.out RZ.out RY.out (by omega) (by omega) (by omega) (by omega) 0 (cmpZ_same _)).mono ?_
        rintro e w24 ⟨rfl, fy⟩
        have S15 := hide (S15.out.fr fy)
        have RY := hide (RY.out.fr fy)
        have HTb := hide (HTb.out.fr fy)
        have RW := hide (RW.out.fr fy)
        have S24 := hide (S24.out.fr fy)
        have FW := hide (FW.out.trans fy)
        clear fy
        have q24 := S24.out.1
        have q24' := S24.out.2.1
        have p15 := S15.out.1
        have p15' := S15.out.2.1
        go_wp2_with fail
        refine (cmpR_any _ _ v T v T _ HTb.out RW.out RY.out (by omega) (by omega) (by omega) (by omega) 0 (cmpZ_same _)).mono ?_
        rintro e w25 ⟨rfl, fy⟩
        have FW := hide (FW.out.trans fy)
        clear fy
        go_wp2_with fail
        go_ret
        exact ⟨rfl, FW.out⟩
      · go_wp2_with fail
        obtain ⟨W22, hW22⟩ : ∃ W, W = (w22.alloc (Obj.cells #[Value.slice j1 j2 j3, Value.slice j4 j5 j6] 27)) := ⟨_, rfl⟩
        have fy : Fr w22 W22 := by rw [hW22]; exact (Fr.alloc w22 (Obj.cells #[Value.slice j1 j2 j3, Value.slice j4 j5 j6] 27))
        have s24 : Slot2 w22 W22 (w22.heap.size) (.slice j1 j2 j3) (.slice j4 j5 j6) := by
          rw [hW22]; simpa using Slot2.new (Fr.refl w22) j1 j2 j3 j4 j5 j6 27
        rw [← hW22]
        clear hW22
        have S24 := hide s24
        have S15 := hide (S15.out.fr fy)
        have RY := hide (RY.out.fr fy)
        have HTb := hide (HTb.out.fr fy)
        have S22 := hide (S22.out.fr fy)
        have RZ := hide (RZ.out.fr fy)
        have RW := hide (RW.out.fr fy)
        have RR := hide (RR.out.fr fy)
        have FW := hide (FW.out.trans fy)
        clear s24 fy
        refine (cmpR_any _ _ v T x y _ HTb.out RY.out RR.out (by omega) (by omega) (by omega) (by omega) 1 hgt).mono ?_
        rintro e w23 ⟨rfl, fy⟩
        have S15 := hide (S15.out.fr fy)
        have RY := hide (RY.out.fr fy)
        have HTb := hide (HTb.out.fr fy)
        have S22 := hide (S22.out.fr fy)
        have RZ := hide (RZ.out.fr fy)
        have RW := hide (RW.out.fr fy)
        have S24 := hide (S24.out.fr fy)
        have FW := hide (FW.out.trans fy)
        clear fy q7 q7' q15 q15'
        have q22 := S22.out.1
        have q22' := S22.out.2.1
        have q15 := S15.out.1
        have q15' := S15.out.2.1
        go_wp2_with fail
        refine (cmpR_any _ _ v T v T _ HTb.out RZ.out RY.out (by omega) (by omega) (by omega) (by omega) 0 (cmpZ_same _)).mono ?_
        rintro e w24 ⟨rfl, fy⟩
        have S15 := hide (S15.out.fr fy)
        have RY := hide (RY.out.fr fy)
        have HTb := hide (HTb.out.fr fy)
        have RW := hide (RW.out.fr fy)
        have S24 := hide (S24.out.fr fy)
        have FW := hide (FW.out.trans fy)
        clear fy
        have q24 := S24.out.1
        have q24' := S24.out.2.1
        have p15 := S15.out.1
        have p15' := S15.out.2.1
        go_wp2_with fail
        refine (cmpR_any _ _ v T v T _ HTb.out RW.out RY.out (by omega) (by omega) (by omega) (by omega) 0 (cmpZ_same _)).mono ?_
        rintro e w25 ⟨rfl, fy⟩
        have FW := hide (FW.out.trans fy)
        clear fy
        go_wp2_with fail
        go_ret
        exact ⟨rfl, FW.out⟩

end Go.Proofs.YthdgdomgcogpjaaDoor
