/- The law TensShifts. -/
import Derived.Test.YtfmloickfopmmaaDoorTensF
import Derived.Test.YtfmloickfopmmaaDoorDecT
import Derived.Deep.RegionHeld3
namespace Go.Proofs.YtfmloickfopmmaaDoor
set_option linter.unusedVariables false
set_option linter.unusedSimpArgs false
open Go.RowKit

theorem cmp_same (x : Nat) : cmpZ x x = 0 := by simp [cmpZ]

attribute [local go_sem] World.cell?_alloc_some
set_option maxHeartbeats 4000000 in
theorem law_TensShifts (a0 : Option Addr) (len0 cap0 : Nat) (z0 : List Int) (k : Int) (w : World) (h0 : IsRow .u32 w a0 len0 cap0 z0) (h1 : (Lit.int .i64 k).wf = true) (hT : Tab w) :
    Calls Tryd.prog 4 #[.slice a0 len0 cap0, .int .i64 k] w fun e w' => e = .returned (.bool true) ∧ Fr w w' := by
  obtain ⟨k0, x, kx, _, lx, csx, fewx, madex⟩ := came h0
  obtain ⟨kb0, kb1⟩ := i64_bd h1
  have FX := hide fewx
  have MX := hide madex
  have HT := hide hT
  have CX := hide csx
  have LX := hide lx
  have nx : nlen 4294967296 x ≤ 15 := Nat.le_trans (nlen_le b32 lx) kx
  obtain ⟨N, hN, hN2⟩ : ∃ N : Nat, (k ≤ 0 → N = 0) ∧ (0 ≤ k → k % 150 = (N : Int)) := ⟨(if k ≤ 0 then 0 else (k % 150).toNat), fun h => by rw [if_pos h], fun h => by split <;> omega⟩
  have hN3 : N < 150 := by
    by_cases c : k ≤ 0
    · have := hN c; omega
    · have := hN2 (by omega); omega
  have nup : ∀ j, j ≤ N → nlen 10 (x * 2 ^ j) ≤ 300 := fun j hj => Nat.le_trans (nl10 (up_lt (k := j) lx)) (by omega)
  have npp : ∀ j, j ≤ N → nlen 10 (2 ^ j) ≤ 300 := fun j hj => by
    have := nl10 (up_lt (x := 1) (n := 1) (k := j) (by decide))
    rw [Nat.one_mul] at this
    omega
  have NUP := hide nup
  have NPP := hide npp
  obtain ⟨P, hP⟩ : ∃ P, 2 ^ N = P := ⟨_, rfl⟩
  obtain ⟨U, hU⟩ : ∃ U, x * 2 ^ N = U := ⟨_, rfl⟩
  obtain ⟨Q, hQ⟩ : ∃ Q, x / 2 ^ N = Q := ⟨_, rfl⟩
  obtain ⟨R, hR⟩ : ∃ R, x % 2 ^ N = R := ⟨_, rfl⟩
  have P0 : P ≠ 0 := by rw [← hP]; exact Nat.ne_of_gt (Nat.pow_pos (by omega))
  have nU : nlen 4294967296 U ≤ 100 := by rw [← hU]; exact Nat.le_trans (nl_up nx) (by omega)
  have nQ : nlen 4294967296 Q ≤ 15 := by rw [← hQ]; exact nl_down N nx
  have dx : nlen 10 x ≤ 150 := Nat.le_trans (nl10 lx) (by omega)
  have dU : nlen 10 U ≤ 300 := by rw [← hU]; exact nup N (Nat.le_refl _)
  have dP : nlen 10 P ≤ 300 := by rw [← hP]; exact npp N (Nat.le_refl _)
  have dQ : nlen 10 Q ≤ 150 := by rw [← hQ]; exact Nat.le_trans (nlen_mono ten2 (Nat.div_le_self _ _)) dx
  have key : (decide (R ≠ 0) = true ∧ 0 < nlen 10 R) ∨ (decide (R ≠ 0) = false ∧ nlen 10 R = 0) := by
    by_cases h : R = 0
    · right; subst h; exact ⟨by simp, nlen_zero _⟩
    · left; exact ⟨by simp [h], nlen_pos ten2 h⟩
  obtain ⟨b, hb⟩ : ∃ b, decide (R ≠ 0) = b := ⟨_, rfl⟩
  rw [hb] at key
  have HN := hide hN
  have HN2 := hide hN2
  have HP := hide hP
  have HU := hide hU
  have HQ := hide hQ
  have HR := hide hR
  have HB := hide hb
  have KEY := hide key
  clear hN hN2 hP hU hQ hR hb key nup npp fewx madex h0 h1 lx hT csx
  go_enter Tryd.func4, Tryd.ntmps4
  go_wp2_with fail
  refine (FX.out _).mono ?_
  rintro e w' ⟨rfl, rfl⟩
  go_wp2_with fail
  refine (MX.out _ (Fr.refl _)).mono ?_
  rintro e w1 ⟨ax, cx, rfl, hx, _, f1⟩
  have HX := hide hx
  have F1 := hide f1
  clear hx MX f1
  by_cases c : k ≤ 0
  · have hn0 := HN.out c
    have tn : (0 : Int).toNat = N := by rw [hn0]; rfl
    have HZ := hide hn0
    clear hn0
    have TN := hide tn
    have tm : ((k) : Int).toNat = 0 := by omega
    have TM := hide tm
    clear tn tm
    go_wp2_with fail
    obtain ⟨W, hW⟩ : ∃ W, W = w1.alloc (Obj.cells #[Value.slice ax (nlen 4294967296 x) cx] 26) := ⟨_, rfl⟩
    have fW : Fr w1 W := by rw [hW]; exact Fr.alloc _ _
    have c5 : W.cell? ⟨w1.heap.size, 0, none⟩ = some (.slice ax (nlen 4294967296 x) cx) := by rw [hW]; simp [go_sem]
    rw [← hW]
    clear hW
    have F := hide (F1.out.trans fW)
    have HX := hide (IsNat.fr HX.out fW)
    clear fW F1
    refine (FX.out _).mono ?_
    rintro e w' ⟨rfl, rfl⟩
    go_wp2_with fail
    refine (refMade_any x k0 cap0 a0 _ LX.out (by omega) (CX.out.fr F.out)).mono ?_
    rintro e w2 ⟨v7, rfl, i7, f2⟩
    have c5 := fr_cell f2 c5
    have HX := hide (IsNat.fr HX.out f2)
    have F := hide (F.out.trans f2)
    have I7 := hide i7
    clear f2 i7 CX LX FX
    go_wp2_with fail
    refine (refOf_any 1 _ (by omega)).mono ?_
    rintro e w3 ⟨v9, rfl, i9, f3⟩
    have c5 := fr_cell f3 c5
    have HX := hide (IsNat.fr HX.out f3)
    have F := hide (F.out.trans f3)
    have I7 := hide (IsDec.fr I7.out f3)
    have I9 := hide i9
    clear f3 i9
    go_wp2_with fail
    go_loopw [8, 9, 28] (fun s8 s9 s28 wr => ∃ j : Nat, j ≤ N ∧ s28 = .int .i64 j ∧ Hid (IsDec wr s8 (x * 2 ^ j)) ∧ Hid (IsDec wr s9 (2 ^ j)) ∧ Hid (Fr w3 wr)) (fun _ _ s28 _ => N - (intOf s28).toNat)
    case atStart =>
      refine ⟨0, by omega, rfl, ?_, ?_, Fr.refl _⟩
      · rw [Nat.pow_zero, Nat.mul_one]; exact I7.out
      · rw [Nat.pow_zero]; exact I9.out
    case round =>
      obtain ⟨j, hj, rfl, d8, d9, fr⟩ := hrel
      by_cases cj : j < N
      · have hcj : (j : Int) < 0 := by have := HZ.out; omega
        exfalso; omega
      · have hcj : (0 : Int) ≤ (j : Int) := by omega
        have ej : j = N := by omega
        have D8 := d8
        rw [ej, HU.out] at D8
        have D9 := d9
        rw [ej, HP.out] at D9
        clear ej d8 d9
        have c5 := fr_cell fr.out c5
        have HX := hide (IsNat.fr HX.out fr.out)
        have F := hide (F.out.trans fr.out)
        have I7 := hide (IsDec.fr I7.out fr.out)
        clear fr I9
        go_wp2_with fail
        refine (refDiv_any _ _ x P _ I7.out D9.out (by omega) (by omega) P0).mono ?_
        rintro e w6 ⟨vq, vr, rfl, iq, ir, f6⟩
        rw [← HP.out, HQ.out] at iq
        rw [← HP.out, HR.out] at ir
        have c5 := fr_cell f6 c5
        have HX := hide (IsNat.fr HX.out f6)
        have F := hide (F.out.trans f6)
        have D8 := hide (IsDec.fr D8.out f6)
        have DQ := hide iq
        obtain ⟨ar, cr, rfl, _, _, _⟩ := ir
        clear f6 iq I7 D9
        go_wp2_with fail
        refine (downc_any _ x (0 : Int) Q b _ (Tab.fr HT.out F.out) HX.out (by omega) (by omega) (by omega) (by rw [TN.out]; exact HQ.out) (by rw [TN.out, HR.out]; exact HB.out)).mono ?_
        rintro e w7 ⟨ad, cd, rfl, id, f7⟩
        have c5 := fr_cell f7 c5
        have HX := hide (IsNat.fr HX.out f7)
        have F := hide (F.out.trans f7)
        have D8 := hide (IsDec.fr D8.out f7)
        have DQ := hide (IsDec.fr DQ.out f7)
        have ID := hide id
        clear f7 id
        go_wp2_with fail
        obtain ⟨W, hW⟩ : ∃ W, W = w7.alloc (Obj.cells #[Value.slice ad (nlen 4294967296 Q) cd] 26) := ⟨_, rfl⟩
        have fW : Fr w7 W := by rw [hW]; exact Fr.alloc _ _
        have c12 : W.cell? ⟨w7.heap.size, 0, none⟩ = some (.slice ad (nlen 4294967296 Q) cd) := by rw [hW]; simp [go_sem]
        rw [← hW]
        clear hW
        have c5 := fr_cell fW c5
        have HX := hide (IsNat.fr HX.out fW)
        have F := hide (F.out.trans fW)
        have D8 := hide (IsDec.fr D8.out fW)
        have DQ := hide (IsDec.fr DQ.out fW)
        have ID := hide (IsNat.fr ID.out fW)
        clear fW
        (try go_wp2_with fail)
        refine (downc_any _ x k x false _ (Tab.fr HT.out F.out) HX.out (by omega) (by omega) (by omega) (by rw [TM.out, Nat.pow_zero, Nat.div_one]) (by rw [TM.out, Nat.pow_zero, Nat.mod_one]; rfl)).mono ?_
        rintro e w8 ⟨ae, ce, rfl, ie, f8⟩
        have c5 := fr_cell f8 c5
        have c12 := fr_cell f8 c12
        have HX := hide (IsNat.fr HX.out f8)
        have F := hide (F.out.trans f8)
        have D8 := hide (IsDec.fr D8.out f8)
        have DQ := hide (IsDec.fr DQ.out f8)
        have ID := hide (IsNat.fr ID.out f8)
        have IE := hide ie
        clear f8 ie
        go_wp2_with fail
        obtain ⟨WE, hW⟩ : ∃ W, W = w8.alloc (Obj.cells #[Value.slice ae (nlen 4294967296 x) ce] 26) := ⟨_, rfl⟩
        have fW : Fr w8 WE := by rw [hW]; exact Fr.alloc _ _
        have c14 : WE.cell? ⟨w8.heap.size, 0, none⟩ = some (.slice ae (nlen 4294967296 x) ce) := by rw [hW]; simp [go_sem]
        rw [← hW]
        clear hW
        have c5 := fr_cell fW c5
        have c12 := fr_cell fW c12
        have HX := hide (IsNat.fr HX.out fW)
        have F := hide (F.out.trans fW)
        have D8 := hide (IsDec.fr D8.out fW)
        have DQ := hide (IsDec.fr DQ.out fW)
        have ID := hide (IsNat.fr ID.out fW)
        have IE := hide (IsNat.fr IE.out fW)
        clear fW
        have hR0 : nlen 10 R = 0 := by rw [← HR.out, HZ.out, Nat.pow_zero, Nat.mod_one, nlen_zero]
        generalize nlen 10 R = nr at *
        have hif : (if 0 < k then (0 : Int) else k) = k := by split <;> omega
        rcases KEY.out with ⟨rfl, hnr⟩ | ⟨rfl, rfl⟩
        · omega
        · go_wp2_with fail
          refine wp_region_held_drew (S := (fun w' => w'.cell? ⟨w1.heap.size, 0, none⟩ = some (.slice ax (nlen 4294967296 x) cx) ∧ w'.cell? ⟨w7.heap.size, 0, none⟩ = some (.slice ad (nlen 4294967296 Q) cd) ∧ w'.cell? ⟨w8.heap.size, 0, none⟩ = some (.slice ae (nlen 4294967296 x) ce) ∧ Hid (Fr WE w'))) (by kernel_rfl) ?_ (fun hHeld => ?_)
          · exact ⟨c5, c12, c14, Fr.drew _⟩
          refine wpAnyH_ready (rs := [0]) (by kernel_rfl) (by simp) ?_
          refine AllReadyH.cons rfl (fun K hK => ?_) AllReadyH.nil
          go_simp
          have hh : Hid (Fr WE _) := hHeld.2.2.2
          refine (wakes_any _ (Tab.fr HT.out (F.out.trans hh.out))).mono ?_
          rintro e wn ⟨rfl, fy⟩
          have fz := hide (hh.out.trans fy)
          clear fy
          clear hh
          (try go_wp2_with fail)
          refine hK.out _ _ ?_ (fun hHeld => ?_)
          · (try dsimp only)
            exact ⟨fr_cell fz.out c5, fr_cell fz.out c12, fr_cell fz.out c14, fz⟩
          clear hK K
          (try simp only [Act.put, List.getElem_toArray, List.getElem_cons_zero, List.getElem_cons_succ, List.setIfInBounds_toArray, List.set_cons_zero, List.set_cons_succ])
          refine wpAnyH_take (i := 1) (v := ?_) rfl (by kernel_rfl) (by kernel_rfl) (by kernel_rfl) (fun _ _ _ h => h) (Or.inl ⟨by rfl, ?_⟩) (by assumption) ?_
          rotate_left
          · (intro w hSw; (try dsimp only at hSw); go_simp; try with_reducible rfl)
          (try simp only [Act.put, List.getElem_toArray, List.getElem_cons_zero, List.getElem_cons_succ, List.setIfInBounds_toArray, List.set_cons_zero, List.set_cons_succ])
          refine wpAnyH_take (i := 2) (v := ?_) rfl (by kernel_rfl) (by kernel_rfl) (by kernel_rfl) (fun _ _ _ h => h) (Or.inl ⟨by rfl, ?_⟩) (by assumption) ?_
          rotate_left
          · (intro w hSw; (try dsimp only at hSw); go_simp; try with_reducible rfl)
          (try simp only [Act.put, List.getElem_toArray, List.getElem_cons_zero, List.getElem_cons_succ, List.setIfInBounds_toArray, List.set_cons_zero, List.set_cons_succ])
          refine wpAnyH_take (i := 3) (v := ?_) rfl (by kernel_rfl) (by kernel_rfl) (by kernel_rfl) (fun _ _ _ h => h) (Or.inl ⟨by rfl, ?_⟩) (by assumption) ?_
          rotate_left
          · (intro w hSw; (try dsimp only at hSw); go_simp; try with_reducible rfl)
          (try simp only [Act.put, List.getElem_toArray, List.getElem_cons_zero, List.getElem_cons_succ, List.setIfInBounds_toArray, List.set_cons_zero, List.set_cons_succ])
          refine wpAnyH_take (i := 6) (v := ?_) rfl (by kernel_rfl) (by kernel_rfl) (by kernel_rfl) (fun _ _ _ h => h) (Or.inl ⟨by rfl, ?_⟩) (by assumption) ?_
          rotate_left
          · (intro w hSw; (try dsimp only at hSw); go_simp; try with_reducible rfl)
          (try simp only [Act.put, List.getElem_toArray, List.getElem_cons_zero, List.getElem_cons_succ, List.setIfInBounds_toArray, List.set_cons_zero, List.set_cons_succ])
          refine wpAnyH_ready (rs := [4]) (by kernel_rfl) (by simp) ?_
          refine AllReadyH.cons rfl (fun K hK => ?_) AllReadyH.nil
          go_simp
          have hh : Hid (Fr WE _) := hHeld.2.2.2
          refine (upc_any _ x (0 : Int) U _ (IsNat.fr HX.out hh.out) (by omega) (by omega) (by omega) (by rw [TN.out]; exact HU.out)).mono ?_
          rintro e wn ⟨av, cv, rfl, iv, fy⟩
          have fz := hide (hh.out.trans fy)
          have IV := hide iv
          clear fy iv
          clear hh
          (try go_wp2_with fail)
          refine hK.out _ _ ?_ (fun hHeld => ?_)
          · (try dsimp only)
            exact ⟨fr_cell fz.out c5, fr_cell fz.out c12, fr_cell fz.out c14, fz⟩
          clear hK K
          (try simp only [Act.put, List.getElem_toArray, List.getElem_cons_zero, List.getElem_cons_succ, List.setIfInBounds_toArray, List.set_cons_zero, List.set_cons_succ])
          refine wpAnyH_ready (rs := [5]) (by kernel_rfl) (by simp) ?_
          refine AllReadyH.cons rfl (fun K hK => ?_) AllReadyH.nil
          go_simp
          have hh : Hid (Fr WE _) := hHeld.2.2.2
          refine (ofLaw_any _ U _ IV.out (by omega)).mono ?_
          rintro e wn ⟨vo, rfl, io, fy⟩
          have fz := hide (hh.out.trans fy)
          have IO := hide io
          clear fy io IV
          clear hh
          (try go_wp2_with fail)
          refine hK.out _ _ ?_ (fun hHeld => ?_)
          · (try dsimp only)
            exact ⟨fr_cell fz.out c5, fr_cell fz.out c12, fr_cell fz.out c14, fz⟩
          clear hK K
          (try simp only [Act.put, List.getElem_toArray, List.getElem_cons_zero, List.getElem_cons_succ, List.setIfInBounds_toArray, List.set_cons_zero, List.set_cons_succ])
          refine wpAnyH_ready (rs := [7]) (by kernel_rfl) (by simp) ?_
          refine AllReadyH.cons rfl (fun K hK => ?_) AllReadyH.nil
          go_simp
          have hh : Hid (Fr WE _) := hHeld.2.2.2
          refine (refCmp_any _ _ U U _ IO.out (IsDec.fr D8.out hh.out) (by omega) (by omega)).mono ?_
          rintro e wn ⟨rfl, fy⟩
          have fz := hide (hh.out.trans fy)
          rw [cmp_same]
          clear fy IO
          clear hh
          (try go_wp2_with fail)
          refine hK.out _ _ ?_ (fun hHeld => ?_)
          · (try dsimp only)
            exact ⟨fr_cell fz.out c5, fr_cell fz.out c12, fr_cell fz.out c14, fz⟩
          clear hK K
          (try simp only [Act.put, List.getElem_toArray, List.getElem_cons_zero, List.getElem_cons_succ, List.setIfInBounds_toArray, List.set_cons_zero, List.set_cons_succ])
          refine wpAnyH_take (i := 8) (v := ?_) rfl (by kernel_rfl) (by kernel_rfl) (by kernel_rfl) (fun _ _ _ h => h) (Or.inl ⟨by rfl, ?_⟩) (by assumption) ?_
          rotate_left
          · (intro w hSw; (try dsimp only at hSw); go_simp; try with_reducible rfl)
          (try simp only [Act.put, List.getElem_toArray, List.getElem_cons_zero, List.getElem_cons_succ, List.setIfInBounds_toArray, List.set_cons_zero, List.set_cons_succ])
          refine wpAnyH_take (i := 9) (v := ?_) rfl (by kernel_rfl) (by kernel_rfl) (by kernel_rfl) (fun _ _ _ h => h) (Or.inl ⟨by rfl, ?_⟩) (by assumption) ?_
          rotate_left
          · (intro w hSw; (try dsimp only at hSw); go_simp; try with_reducible rfl)
          (try simp only [Act.put, List.getElem_toArray, List.getElem_cons_zero, List.getElem_cons_succ, List.setIfInBounds_toArray, List.set_cons_zero, List.set_cons_succ])
          refine wpAnyH_take (i := 10) (v := ?_) rfl (by kernel_rfl) (by kernel_rfl) (by kernel_rfl) (fun _ _ _ h => h) (Or.inl ⟨by rfl, ?_⟩) (by assumption) ?_
          rotate_left
          · (intro w hSw; (try dsimp only at hSw); go_simp; try with_reducible rfl)
          (try simp only [Act.put, List.getElem_toArray, List.getElem_cons_zero, List.getElem_cons_succ, List.setIfInBounds_toArray, List.set_cons_zero, List.set_cons_succ])
          refine wpAnyH_take (i := 11) (v := ?_) rfl (by kernel_rfl) (by kernel_rfl) (by kernel_rfl) (fun _ _ _ h => h) (Or.inl ⟨by rfl, ?_⟩) (by assumption) ?_
          rotate_left
          · (intro w hSw; (try dsimp only at hSw); go_simp; try with_reducible rfl)
          (try simp only [Act.put, List.getElem_toArray, List.getElem_cons_zero, List.getElem_cons_succ, List.setIfInBounds_toArray, List.set_cons_zero, List.set_cons_succ])
          refine wpAnyH_take (i := 13) (v := ?_) rfl (by kernel_rfl) (by kernel_rfl) (by kernel_rfl) (fun _ _ _ h => h) (Or.inl ⟨by rfl, ?_⟩) (by assumption) ?_
          rotate_left
          · (intro w hSw; (try dsimp only at hSw); go_simp; try with_reducible rfl)
          (try simp only [Act.put, List.getElem_toArray, List.getElem_cons_zero, List.getElem_cons_succ, List.setIfInBounds_toArray, List.set_cons_zero, List.set_cons_succ])
          refine wpAnyH_ready (rs := [12]) (by kernel_rfl) (by simp) ?_
          refine AllReadyH.cons rfl (fun K hK => ?_) AllReadyH.nil
          go_simp
          have hh : Hid (Fr WE _) := hHeld.2.2.2
          refine (ofLaw_any _ Q _ (IsNat.fr ID.out hh.out) (by omega)).mono ?_
          rintro e wn ⟨vo2, rfl, io, fy⟩
          have fz := hide (hh.out.trans fy)
          have IO := hide io
          clear fy io
          clear hh
          (try go_wp2_with fail)
          refine hK.out _ _ ?_ (fun hHeld => ?_)
          · (try dsimp only)
            exact ⟨fr_cell fz.out c5, fr_cell fz.out c12, fr_cell fz.out c14, fz⟩
          clear hK K
          (try simp only [Act.put, List.getElem_toArray, List.getElem_cons_zero, List.getElem_cons_succ, List.setIfInBounds_toArray, List.set_cons_zero, List.set_cons_succ])
          refine wpAnyH_ready (rs := [14]) (by kernel_rfl) (by simp) ?_
          refine AllReadyH.cons rfl (fun K hK => ?_) AllReadyH.nil
          go_simp
          have hh : Hid (Fr WE _) := hHeld.2.2.2
          refine (refCmp_any _ _ Q Q _ IO.out (IsDec.fr DQ.out hh.out) (by omega) (by omega)).mono ?_
          rintro e wn ⟨rfl, fy⟩
          have fz := hide (hh.out.trans fy)
          rw [cmp_same]
          clear fy IO
          clear hh
          (try go_wp2_with fail)
          refine hK.out _ _ ?_ (fun hHeld => ?_)
          · (try dsimp only)
            exact ⟨fr_cell fz.out c5, fr_cell fz.out c12, fr_cell fz.out c14, fz⟩
          clear hK K
          (try simp only [Act.put, List.getElem_toArray, List.getElem_cons_zero, List.getElem_cons_succ, List.setIfInBounds_toArray, List.set_cons_zero, List.set_cons_succ])
          refine wpAnyH_take (i := 15) (v := ?_) rfl (by kernel_rfl) (by kernel_rfl) (by kernel_rfl) (fun _ _ _ h => h) (Or.inl ⟨by rfl, ?_⟩) (by assumption) ?_
          rotate_left
          · (intro w hSw; (try dsimp only at hSw); go_simp; try with_reducible rfl)
          (try simp only [Act.put, List.getElem_toArray, List.getElem_cons_zero, List.getElem_cons_succ, List.setIfInBounds_toArray, List.set_cons_zero, List.set_cons_succ])
          refine wpAnyH_take (i := 16) (v := ?_) rfl (by kernel_rfl) (by kernel_rfl) (by kernel_rfl) (fun _ _ _ h => h) (Or.inl ⟨by rfl, ?_⟩) (by assumption) ?_
          rotate_left
          · (intro w hSw; (try dsimp only at hSw); go_simp; try with_reducible rfl)
          (try simp only [Act.put, List.getElem_toArray, List.getElem_cons_zero, List.getElem_cons_succ, List.setIfInBounds_toArray, List.set_cons_zero, List.set_cons_succ])
          refine wpAnyH_take (i := 17) (v := ?_) rfl (by kernel_rfl) (by kernel_rfl) (by kernel_rfl) (fun _ _ _ h => h) (Or.inl ⟨by rfl, ?_⟩) (by assumption) ?_
          rotate_left
          · (intro w hSw; (try dsimp only at hSw); go_simp; try with_reducible rfl)
          (try simp only [Act.put, List.getElem_toArray, List.getElem_cons_zero, List.getElem_cons_succ, List.setIfInBounds_toArray, List.set_cons_zero, List.set_cons_succ])
          refine wpAnyH_take (i := 18) (v := ?_) rfl (by kernel_rfl) (by kernel_rfl) (by kernel_rfl) (fun _ _ _ h => h) (Or.inl ⟨by rfl, ?_⟩) (by assumption) ?_
          rotate_left
          · (intro w hSw; (try dsimp only at hSw); go_simp; try with_reducible rfl)
          (try simp only [Act.put, List.getElem_toArray, List.getElem_cons_zero, List.getElem_cons_succ, List.setIfInBounds_toArray, List.set_cons_zero, List.set_cons_succ])
          refine wpAnyH_take (i := 19) (v := ?_) rfl (by kernel_rfl) (by kernel_rfl) (by kernel_rfl) (fun _ _ _ h => h) (Or.inl ⟨by rfl, ?_⟩) (by assumption) ?_
          rotate_left
          · (intro w hSw; (try dsimp only at hSw); go_simp; try with_reducible rfl)
          (try simp only [Act.put, List.getElem_toArray, List.getElem_cons_zero, List.getElem_cons_succ, List.setIfInBounds_toArray, List.set_cons_zero, List.set_cons_succ])
          refine wpAnyH_take (i := 20) (v := ?_) rfl (by kernel_rfl) (by kernel_rfl) (by kernel_rfl) (fun _ _ _ h => h) (Or.inl ⟨by rfl, ?_⟩) (by assumption) ?_
          rotate_left
          · (intro w hSw; (try dsimp only at hSw); go_simp; try with_reducible rfl)
          (try simp only [Act.put, List.getElem_toArray, List.getElem_cons_zero, List.getElem_cons_succ, List.setIfInBounds_toArray, List.set_cons_zero, List.set_cons_succ])
          refine wpAnyH_take (i := 21) (v := ?_) rfl (by kernel_rfl) (by kernel_rfl) (by kernel_rfl) (fun _ _ _ h => h) (Or.inl ⟨by rfl, ?_⟩) (by assumption) ?_
          rotate_left
          · (intro w hSw; (try dsimp only at hSw); go_simp; try with_reducible rfl)
          (try simp only [Act.put, List.getElem_toArray, List.getElem_cons_zero, List.getElem_cons_succ, List.setIfInBounds_toArray, List.set_cons_zero, List.set_cons_succ])
          refine wpAnyH_take (i := 22) (v := ?_) rfl (by kernel_rfl) (by kernel_rfl) (by kernel_rfl) (fun _ _ _ h => h) (Or.inl ⟨by rfl, ?_⟩) (by assumption) ?_
          rotate_left
          · (intro w hSw; (try dsimp only at hSw); go_simp; try with_reducible rfl)
          (try simp only [Act.put, List.getElem_toArray, List.getElem_cons_zero, List.getElem_cons_succ, List.setIfInBounds_toArray, List.set_cons_zero, List.set_cons_succ])
          refine wpAnyH_take (i := 23) (v := ?_) rfl (by kernel_rfl) (by kernel_rfl) (by kernel_rfl) (fun _ _ _ h => h) (Or.inl ⟨by rfl, ?_⟩) (by assumption) ?_
          rotate_left
          · (intro w hSw; (try dsimp only at hSw); go_simp; try with_reducible rfl)
          (try simp only [Act.put, List.getElem_toArray, List.getElem_cons_zero, List.getElem_cons_succ, List.setIfInBounds_toArray, List.set_cons_zero, List.set_cons_succ])
          refine wpAnyH_take (i := 24) (v := ?_) rfl (by kernel_rfl) (by kernel_rfl) (by kernel_rfl) (fun _ _ _ h => h) (Or.inl ⟨by rfl, ?_⟩) (by assumption) ?_
          rotate_left
          · (intro w hSw; (try dsimp only at hSw); go_simp; try with_reducible rfl)
          (try simp only [Act.put, List.getElem_toArray, List.getElem_cons_zero, List.getElem_cons_succ, List.setIfInBounds_toArray, List.set_cons_zero, List.set_cons_succ])
          refine wpAnyH_take (i := 25) (v := ?_) rfl (by kernel_rfl) (by kernel_rfl) (by kernel_rfl) (fun _ _ _ h => h) (Or.inl ⟨by rfl, ?_⟩) (by assumption) ?_
          rotate_left
          · (intro w hSw; (try dsimp only at hSw); go_simp; try with_reducible rfl)
          (try simp only [Act.put, List.getElem_toArray, List.getElem_cons_zero, List.getElem_cons_succ, List.setIfInBounds_toArray, List.set_cons_zero, List.set_cons_succ])
          refine wpAnyH_take (i := 26) (v := ?_) rfl (by kernel_rfl) (by kernel_rfl) (by kernel_rfl) (fun _ _ _ h => h) (Or.inl ⟨by rfl, ?_⟩) (by assumption) ?_
          rotate_left
          · (intro w hSw; (try dsimp only at hSw); go_simp; try with_reducible rfl)
          (try simp only [Act.put, List.getElem_toArray, List.getElem_cons_zero, List.getElem_cons_succ, List.setIfInBounds_toArray, List.set_cons_zero, List.set_cons_succ])
          refine wpAnyH_ready (rs := [27]) (by kernel_rfl) (by simp) ?_
          refine AllReadyH.cons rfl (fun K hK => ?_) AllReadyH.nil
          go_simp
          have hh : Hid (Fr WE _) := hHeld.2.2.2
          refine (cmp_any _ _ x x _ (IsNat.fr IE.out hh.out) (IsNat.fr HX.out hh.out) (by omega) (by omega)).mono ?_
          rintro e wn ⟨rfl, fy⟩
          have fz := hide (hh.out.trans fy)
          rw [cmp_same]
          clear fy
          clear hh
          (try go_wp2_with fail)
          refine hK.out _ _ ?_ (fun hHeld => ?_)
          · (try dsimp only)
            exact ⟨fr_cell fz.out c5, fr_cell fz.out c12, fr_cell fz.out c14, fz⟩
          clear hK K
          (try simp only [Act.put, List.getElem_toArray, List.getElem_cons_zero, List.getElem_cons_succ, List.setIfInBounds_toArray, List.set_cons_zero, List.set_cons_succ])
          refine wpAnyH_take (i := 28) (v := ?_) rfl (by kernel_rfl) (by kernel_rfl) (by kernel_rfl) (fun _ _ _ h => h) (Or.inl ⟨by rfl, ?_⟩) (by assumption) ?_
          rotate_left
          · (intro w hSw; (try dsimp only at hSw); go_simp; try with_reducible rfl)
          (try simp only [Act.put, List.getElem_toArray, List.getElem_cons_zero, List.getElem_cons_succ, List.setIfInBounds_toArray, List.set_cons_zero, List.set_cons_succ])
          refine wpAnyH_take (i := 29) (v := ?_) rfl (by kernel_rfl) (by kernel_rfl) (by kernel_rfl) (fun _ _ _ h => h) (Or.inl ⟨by rfl, ?_⟩) (by assumption) ?_
          rotate_left
          · (intro w hSw; (try dsimp only at hSw); go_simp; try with_reducible rfl)
          (try simp only [Act.put, List.getElem_toArray, List.getElem_cons_zero, List.getElem_cons_succ, List.setIfInBounds_toArray, List.set_cons_zero, List.set_cons_succ])
          refine wpAnyH_take (i := 30) (v := ?_) rfl (by kernel_rfl) (by kernel_rfl) (by kernel_rfl) (fun _ _ _ h => h) (Or.inl ⟨by rfl, ?_⟩) (by assumption) ?_
          rotate_left
          · (intro w hSw; (try dsimp only at hSw); go_simp; try with_reducible rfl)
          (try simp only [Act.put, List.getElem_toArray, List.getElem_cons_zero, List.getElem_cons_succ, List.setIfInBounds_toArray, List.set_cons_zero, List.set_cons_succ])
          refine wpAnyH_take (i := 31) (v := ?_) rfl (by kernel_rfl) (by kernel_rfl) (by kernel_rfl) (fun _ _ _ h => h) (Or.inl ⟨by rfl, ?_⟩) (by assumption) ?_
          rotate_left
          · (intro w hSw; (try dsimp only at hSw); go_simp; try with_reducible rfl)
          (try simp only [Act.put, List.getElem_toArray, List.getElem_cons_zero, List.getElem_cons_succ, List.setIfInBounds_toArray, List.set_cons_zero, List.set_cons_succ])
          refine wpAnyH_take (i := 32) (v := ?_) rfl (by kernel_rfl) (by kernel_rfl) (by kernel_rfl) (fun _ _ _ h => h) (Or.inl ⟨by rfl, ?_⟩) (by assumption) ?_
          rotate_left
          · (intro w hSw; (try dsimp only at hSw); go_simp; try with_reducible rfl)
          (try simp only [Act.put, List.getElem_toArray, List.getElem_cons_zero, List.getElem_cons_succ, List.setIfInBounds_toArray, List.set_cons_zero, List.set_cons_succ])
          refine wpAnyH_take (i := 33) (v := ?_) rfl (by kernel_rfl) (by kernel_rfl) (by kernel_rfl) (fun _ _ _ h => h) (Or.inl ⟨by rfl, ?_⟩) (by assumption) ?_
          rotate_left
          · (intro w hSw; (try dsimp only at hSw); go_simp; try with_reducible rfl)
          (try simp only [Act.put, List.getElem_toArray, List.getElem_cons_zero, List.getElem_cons_succ, List.setIfInBounds_toArray, List.set_cons_zero, List.set_cons_succ])
          refine wpAnyH_take (i := 34) (v := ?_) rfl (by kernel_rfl) (by kernel_rfl) (by kernel_rfl) (fun _ _ _ h => h) (Or.inl ⟨by rfl, ?_⟩) (by assumption) ?_
          rotate_left
          · (intro w hSw; (try dsimp only at hSw); go_simp; try with_reducible rfl)
          (try simp only [Act.put, List.getElem_toArray, List.getElem_cons_zero, List.getElem_cons_succ, List.setIfInBounds_toArray, List.set_cons_zero, List.set_cons_succ])
          refine wpAnyH_take (i := 35) (v := ?_) rfl (by kernel_rfl) (by kernel_rfl) (by kernel_rfl) (fun _ _ _ h => h) (Or.inl ⟨by rfl, ?_⟩) (by assumption) ?_
          rotate_left
          · (intro w hSw; (try dsimp only at hSw); go_simp; try with_reducible rfl)
          (try simp only [Act.put, List.getElem_toArray, List.getElem_cons_zero, List.getElem_cons_succ, List.setIfInBounds_toArray, List.set_cons_zero, List.set_cons_succ])
          refine wpAnyH_take (i := 36) (v := ?_) rfl (by kernel_rfl) (by kernel_rfl) (by kernel_rfl) (fun _ _ _ h => h) (Or.inl ⟨by rfl, ?_⟩) (by assumption) ?_
          rotate_left
          · (intro w hSw; (try dsimp only at hSw); go_simp; try with_reducible rfl)
          (try simp only [Act.put, List.getElem_toArray, List.getElem_cons_zero, List.getElem_cons_succ, List.setIfInBounds_toArray, List.set_cons_zero, List.set_cons_succ])
          refine wpAnyH_take (i := 37) (v := ?_) rfl (by kernel_rfl) (by kernel_rfl) (by kernel_rfl) (fun _ _ _ h => h) (Or.inl ⟨by rfl, ?_⟩) (by assumption) ?_
          rotate_left
          · (intro w hSw; (try dsimp only at hSw); go_simp; try with_reducible rfl)
          (try simp only [Act.put, List.getElem_toArray, List.getElem_cons_zero, List.getElem_cons_succ, List.setIfInBounds_toArray, List.set_cons_zero, List.set_cons_succ])
          refine wpAnyH_take (i := 39) (v := ?_) rfl (by kernel_rfl) (by kernel_rfl) (by kernel_rfl) (fun _ _ _ h => h) (Or.inl ⟨by rfl, ?_⟩) (by assumption) ?_
          rotate_left
          · (intro w hSw; (try dsimp only at hSw); go_simp; try with_reducible rfl)
          (try simp only [Act.put, List.getElem_toArray, List.getElem_cons_zero, List.getElem_cons_succ, List.setIfInBounds_toArray, List.set_cons_zero, List.set_cons_succ])
          refine wpAnyH_ready (rs := [38]) (by kernel_rfl) (by simp) ?_
          refine AllReadyH.cons rfl (fun K hK => ?_) AllReadyH.nil
          go_simp
          have hh : Hid (Fr WE _) := hHeld.2.2.2
          refine (upc_any _ x k x _ (IsNat.fr HX.out hh.out) (by omega) (by omega) (by omega) (by rw [TM.out, Nat.pow_zero, Nat.mul_one])).mono ?_
          rintro e wn ⟨av3, cv3, rfl, iv, fy⟩
          have fz := hide (hh.out.trans fy)
          have IV := hide iv
          clear fy iv
          clear hh
          (try go_wp2_with fail)
          refine hK.out _ _ ?_ (fun hHeld => ?_)
          · (try dsimp only)
            exact ⟨fr_cell fz.out c5, fr_cell fz.out c12, fr_cell fz.out c14, fz⟩
          clear hK K
          (try simp only [Act.put, List.getElem_toArray, List.getElem_cons_zero, List.getElem_cons_succ, List.setIfInBounds_toArray, List.set_cons_zero, List.set_cons_succ])
          refine wpAnyH_ready (rs := [40]) (by kernel_rfl) (by simp) ?_
          refine AllReadyH.cons rfl (fun K hK => ?_) AllReadyH.nil
          go_simp
          have hh : Hid (Fr WE _) := hHeld.2.2.2
          refine (cmp_any _ _ x x _ IV.out (IsNat.fr HX.out hh.out) (by omega) (by omega)).mono ?_
          rintro e wn ⟨rfl, fy⟩
          have fz := hide (hh.out.trans fy)
          rw [cmp_same]
          clear fy IV
          clear hh
          (try go_wp2_with fail)
          refine hK.out _ _ ?_ (fun hHeld => ?_)
          · (try dsimp only)
            exact ⟨fr_cell fz.out c5, fr_cell fz.out c12, fr_cell fz.out c14, fz⟩
          clear hK K
          (try simp only [Act.put, List.getElem_toArray, List.getElem_cons_zero, List.getElem_cons_succ, List.setIfInBounds_toArray, List.set_cons_zero, List.set_cons_succ])
          refine wpAnyH_take (i := 41) (v := ?_) rfl (by kernel_rfl) (by kernel_rfl) (by kernel_rfl) (fun _ _ _ h => h) (Or.inl ⟨by rfl, ?_⟩) (by assumption) ?_
          rotate_left
          · (intro w hSw; (try dsimp only at hSw); go_simp; try with_reducible rfl)
          (try simp only [Act.put, List.getElem_toArray, List.getElem_cons_zero, List.getElem_cons_succ, List.setIfInBounds_toArray, List.set_cons_zero, List.set_cons_succ])
          refine wpAnyH_take (i := 42) (v := ?_) rfl (by kernel_rfl) (by kernel_rfl) (by kernel_rfl) (fun _ _ _ h => h) (Or.inl ⟨by rfl, ?_⟩) (by assumption) ?_
          rotate_left
          · (intro w hSw; (try dsimp only at hSw); go_simp; try with_reducible rfl)
          (try simp only [Act.put, List.getElem_toArray, List.getElem_cons_zero, List.getElem_cons_succ, List.setIfInBounds_toArray, List.set_cons_zero, List.set_cons_succ])
          refine wpAnyH_take (i := 43) (v := ?_) rfl (by kernel_rfl) (by kernel_rfl) (by kernel_rfl) (fun _ _ _ h => h) (Or.inl ⟨by rfl, ?_⟩) (by assumption) ?_
          rotate_left
          · (intro w hSw; (try dsimp only at hSw); go_simp; try with_reducible rfl)
          (try simp only [Act.put, List.getElem_toArray, List.getElem_cons_zero, List.getElem_cons_succ, List.setIfInBounds_toArray, List.set_cons_zero, List.set_cons_succ])
          refine wpAnyH_done (by kernel_rfl) ?_ _
          go_wp2_with fail
          go_ret
          exact ⟨rfl, F.out.trans fz.out⟩
  · have hn0 := HN2.out (by omega)
    have tn : (N : Int).toNat = N := Int.toNat_natCast N
    have HZ := hide tn
    have TN := hide tn
    have tm : ((0) : Int).toNat = 0 := by omega
    have TM := hide tm
    clear tn tm
    go_wp2_with fail
    obtain ⟨W, hW⟩ : ∃ W, W = w1.alloc (Obj.cells #[Value.slice ax (nlen 4294967296 x) cx] 26) := ⟨_, rfl⟩
    have fW : Fr w1 W := by rw [hW]; exact Fr.alloc _ _
    have c5 : W.cell? ⟨w1.heap.size, 0, none⟩ = some (.slice ax (nlen 4294967296 x) cx) := by rw [hW]; simp [go_sem]
    rw [← hW]
    clear hW
    have F := hide (F1.out.trans fW)
    have HX := hide (IsNat.fr HX.out fW)
    clear fW F1
    refine (FX.out _).mono ?_
    rintro e w' ⟨rfl, rfl⟩
    go_wp2_with fail
    refine (refMade_any x k0 cap0 a0 _ LX.out (by omega) (CX.out.fr F.out)).mono ?_
    rintro e w2 ⟨v7, rfl, i7, f2⟩
    have c5 := fr_cell f2 c5
    have HX := hide (IsNat.fr HX.out f2)
    have F := hide (F.out.trans f2)
    have I7 := hide i7
    clear f2 i7 CX LX FX
    go_wp2_with fail
    refine (refOf_any 1 _ (by omega)).mono ?_
    rintro e w3 ⟨v9, rfl, i9, f3⟩
    have c5 := fr_cell f3 c5
    have HX := hide (IsNat.fr HX.out f3)
    have F := hide (F.out.trans f3)
    have I7 := hide (IsDec.fr I7.out f3)
    have I9 := hide i9
    clear f3 i9
    go_wp2_with fail
    go_loopw [8, 9, 28] (fun s8 s9 s28 wr => ∃ j : Nat, j ≤ N ∧ s28 = .int .i64 j ∧ Hid (IsDec wr s8 (x * 2 ^ j)) ∧ Hid (IsDec wr s9 (2 ^ j)) ∧ Hid (Fr w3 wr)) (fun _ _ s28 _ => N - (intOf s28).toNat)
    case atStart =>
      refine ⟨0, by omega, rfl, ?_, ?_, Fr.refl _⟩
      · rw [Nat.pow_zero, Nat.mul_one]; exact I7.out
      · rw [Nat.pow_zero]; exact I9.out
    case round =>
      obtain ⟨j, hj, rfl, d8, d9, fr⟩ := hrel
      by_cases cj : j < N
      · have hcj : (j : Int) < (N : Int) := by omega
        have n8 := NUP.out j hj
        have n9 := NPP.out j hj
        go_wp2_with fail
        refine (refTimes_any _ (x * 2 ^ j) 2 _ d8.out (by omega) (by omega)).mono ?_
        rintro e w4 ⟨v8', rfl, i8, f4⟩
        rw [Nat.mul_assoc, ← Nat.pow_succ] at i8
        have I8 := hide i8
        clear i8
        go_wp2_with fail
        refine (refTimes_any _ (2 ^ j) 2 _ (IsDec.fr d9.out f4) (by omega) (by omega)).mono ?_
        rintro e w5 ⟨v9', rfl, i9', f5⟩
        rw [← Nat.pow_succ] at i9'
        have I9' := hide i9'
        have I8 := hide (IsDec.fr I8.out f5)
        have FR := hide (fr.out.trans (f4.trans f5))
        clear i9' f4 f5
        go_wp2_with fail
        go_roundw
        case rel => exact ⟨j + 1, by omega, by go_num, I8, I9', FR⟩
        case measure => simp [intOf]; omega
      · have hcj : (N : Int) ≤ (j : Int) := by omega
        have ej : j = N := by omega
        have D8 := d8
        rw [ej, HU.out] at D8
        have D9 := d9
        rw [ej, HP.out] at D9
        clear ej d8 d9
        have c5 := fr_cell fr.out c5
        have HX := hide (IsNat.fr HX.out fr.out)
        have F := hide (F.out.trans fr.out)
        have I7 := hide (IsDec.fr I7.out fr.out)
        clear fr I9
        go_wp2_with fail
        refine (refDiv_any _ _ x P _ I7.out D9.out (by omega) (by omega) P0).mono ?_
        rintro e w6 ⟨vq, vr, rfl, iq, ir, f6⟩
        rw [← HP.out, HQ.out] at iq
        rw [← HP.out, HR.out] at ir
        have c5 := fr_cell f6 c5
        have HX := hide (IsNat.fr HX.out f6)
        have F := hide (F.out.trans f6)
        have D8 := hide (IsDec.fr D8.out f6)
        have DQ := hide iq
        obtain ⟨ar, cr, rfl, _, _, _⟩ := ir
        clear f6 iq I7 D9
        go_wp2_with fail
        refine (downc_any _ x (N : Int) Q b _ (Tab.fr HT.out F.out) HX.out (by omega) (by omega) (by omega) (by rw [TN.out]; exact HQ.out) (by rw [TN.out, HR.out]; exact HB.out)).mono ?_
        rintro e w7 ⟨ad, cd, rfl, id, f7⟩
        have c5 := fr_cell f7 c5
        have HX := hide (IsNat.fr HX.out f7)
        have F := hide (F.out.trans f7)
        have D8 := hide (IsDec.fr D8.out f7)
        have DQ := hide (IsDec.fr DQ.out f7)
        have ID := hide id
        clear f7 id
        go_wp2_with fail
        obtain ⟨W, hW⟩ : ∃ W, W = w7.alloc (Obj.cells #[Value.slice ad (nlen 4294967296 Q) cd] 26) := ⟨_, rfl⟩
        have fW : Fr w7 W := by rw [hW]; exact Fr.alloc _ _
        have c12 : W.cell? ⟨w7.heap.size, 0, none⟩ = some (.slice ad (nlen 4294967296 Q) cd) := by rw [hW]; simp [go_sem]
        rw [← hW]
        clear hW
        have c5 := fr_cell fW c5
        have HX := hide (IsNat.fr HX.out fW)
        have F := hide (F.out.trans fW)
        have D8 := hide (IsDec.fr D8.out fW)
        have DQ := hide (IsDec.fr DQ.out fW)
        have ID := hide (IsNat.fr ID.out fW)
        clear fW
        (try go_wp2_with fail)
        refine (downc_any _ x 0 x false _ (Tab.fr HT.out F.out) HX.out (by omega) (by omega) (by omega) (by rw [TM.out, Nat.pow_zero, Nat.div_one]) (by rw [TM.out, Nat.pow_zero, Nat.mod_one]; rfl)).mono ?_
        rintro e w8 ⟨ae, ce, rfl, ie, f8⟩
        have c5 := fr_cell f8 c5
        have c12 := fr_cell f8 c12
        have HX := hide (IsNat.fr HX.out f8)
        have F := hide (F.out.trans f8)
        have D8 := hide (IsDec.fr D8.out f8)
        have DQ := hide (IsDec.fr DQ.out f8)
        have ID := hide (IsNat.fr ID.out f8)
        have IE := hide ie
        clear f8 ie
        go_wp2_with fail
        obtain ⟨WE, hW⟩ : ∃ W, W = w8.alloc (Obj.cells #[Value.slice ae (nlen 4294967296 x) ce] 26) := ⟨_, rfl⟩
        have fW : Fr w8 WE := by rw [hW]; exact Fr.alloc _ _
        have c14 : WE.cell? ⟨w8.heap.size, 0, none⟩ = some (.slice ae (nlen 4294967296 x) ce) := by rw [hW]; simp [go_sem]
        rw [← hW]
        clear hW
        have c5 := fr_cell fW c5
        have c12 := fr_cell fW c12
        have HX := hide (IsNat.fr HX.out fW)
        have F := hide (F.out.trans fW)
        have D8 := hide (IsDec.fr D8.out fW)
        have DQ := hide (IsDec.fr DQ.out fW)
        have ID := hide (IsNat.fr ID.out fW)
        have IE := hide (IsNat.fr IE.out fW)
        clear fW
        generalize nlen 10 R = nr at *
        have hif : (if 0 < k then (0 : Int) else k) = 0 := by split <;> omega
        rcases KEY.out with ⟨rfl, hnr⟩ | ⟨rfl, rfl⟩
        · have hnp : (0 : Int) < (nr : Int) := by omega
          go_wp2_with fail
          refine wp_region_held_drew (S := (fun w' => w'.cell? ⟨w1.heap.size, 0, none⟩ = some (.slice ax (nlen 4294967296 x) cx) ∧ w'.cell? ⟨w7.heap.size, 0, none⟩ = some (.slice ad (nlen 4294967296 Q) cd) ∧ w'.cell? ⟨w8.heap.size, 0, none⟩ = some (.slice ae (nlen 4294967296 x) ce) ∧ Hid (Fr WE w'))) (by kernel_rfl) ?_ (fun hHeld => ?_)
          · exact ⟨c5, c12, c14, Fr.drew _⟩
          refine wpAnyH_ready (rs := [0]) (by kernel_rfl) (by simp) ?_
          refine AllReadyH.cons rfl (fun K hK => ?_) AllReadyH.nil
          go_simp
          have hh : Hid (Fr WE _) := hHeld.2.2.2
          refine (wakes_any _ (Tab.fr HT.out (F.out.trans hh.out))).mono ?_
          rintro e wn ⟨rfl, fy⟩
          have fz := hide (hh.out.trans fy)
          clear fy
          clear hh
          (try go_wp2_with fail)
          refine hK.out _ _ ?_ (fun hHeld => ?_)
          · (try dsimp only)
            exact ⟨fr_cell fz.out c5, fr_cell fz.out c12, fr_cell fz.out c14, fz⟩
          clear hK K
          (try simp only [Act.put, List.getElem_toArray, List.getElem_cons_zero, List.getElem_cons_succ, List.setIfInBounds_toArray, List.set_cons_zero, List.set_cons_succ])
          refine wpAnyH_take (i := 1) (v := ?_) rfl (by kernel_rfl) (by kernel_rfl) (by kernel_rfl) (fun _ _ _ h => h) (Or.inl ⟨by rfl, ?_⟩) (by assumption) ?_
          rotate_left
          · (intro w hSw; (try dsimp only at hSw); go_simp; try with_reducible rfl)
          (try simp only [Act.put, List.getElem_toArray, List.getElem_cons_zero, List.getElem_cons_succ, List.setIfInBounds_toArray, List.set_cons_zero, List.set_cons_succ])
          refine wpAnyH_take (i := 2) (v := ?_) rfl (by kernel_rfl) (by kernel_rfl) (by kernel_rfl) (fun _ _ _ h => h) (Or.inl ⟨by rfl, ?_⟩) (by assumption) ?_
          rotate_left
          · (intro w hSw; (try dsimp only at hSw); go_simp; try with_reducible rfl)
          (try simp only [Act.put, List.getElem_toArray, List.getElem_cons_zero, List.getElem_cons_succ, List.setIfInBounds_toArray, List.set_cons_zero, List.set_cons_succ])
          refine wpAnyH_take (i := 3) (v := ?_) rfl (by kernel_rfl) (by kernel_rfl) (by kernel_rfl) (fun _ _ _ h => h) (Or.inl ⟨by rfl, ?_⟩) (by assumption) ?_
          rotate_left
          · (intro w hSw; (try dsimp only at hSw); go_simp; try with_reducible rfl)
          (try simp only [Act.put, List.getElem_toArray, List.getElem_cons_zero, List.getElem_cons_succ, List.setIfInBounds_toArray, List.set_cons_zero, List.set_cons_succ])
          refine wpAnyH_take (i := 6) (v := ?_) rfl (by kernel_rfl) (by kernel_rfl) (by kernel_rfl) (fun _ _ _ h => h) (Or.inl ⟨by rfl, ?_⟩) (by assumption) ?_
          rotate_left
          · (intro w hSw; (try dsimp only at hSw); go_simp; try with_reducible rfl)
          (try simp only [Act.put, List.getElem_toArray, List.getElem_cons_zero, List.getElem_cons_succ, List.setIfInBounds_toArray, List.set_cons_zero, List.set_cons_succ])
          refine wpAnyH_ready (rs := [4]) (by kernel_rfl) (by simp) ?_
          refine AllReadyH.cons rfl (fun K hK => ?_) AllReadyH.nil
          go_simp
          have hh : Hid (Fr WE _) := hHeld.2.2.2
          refine (upc_any _ x (N : Int) U _ (IsNat.fr HX.out hh.out) (by omega) (by omega) (by omega) (by rw [TN.out]; exact HU.out)).mono ?_
          rintro e wn ⟨av, cv, rfl, iv, fy⟩
          have fz := hide (hh.out.trans fy)
          have IV := hide iv
          clear fy iv
          clear hh
          (try go_wp2_with fail)
          refine hK.out _ _ ?_ (fun hHeld => ?_)
          · (try dsimp only)
            exact ⟨fr_cell fz.out c5, fr_cell fz.out c12, fr_cell fz.out c14, fz⟩
          clear hK K
          (try simp only [Act.put, List.getElem_toArray, List.getElem_cons_zero, List.getElem_cons_succ, List.setIfInBounds_toArray, List.set_cons_zero, List.set_cons_succ])
          refine wpAnyH_ready (rs := [5]) (by kernel_rfl) (by simp) ?_
          refine AllReadyH.cons rfl (fun K hK => ?_) AllReadyH.nil
          go_simp
          have hh : Hid (Fr WE _) := hHeld.2.2.2
          refine (ofLaw_any _ U _ IV.out (by omega)).mono ?_
          rintro e wn ⟨vo, rfl, io, fy⟩
          have fz := hide (hh.out.trans fy)
          have IO := hide io
          clear fy io IV
          clear hh
          (try go_wp2_with fail)
          refine hK.out _ _ ?_ (fun hHeld => ?_)
          · (try dsimp only)
            exact ⟨fr_cell fz.out c5, fr_cell fz.out c12, fr_cell fz.out c14, fz⟩
          clear hK K
          (try simp only [Act.put, List.getElem_toArray, List.getElem_cons_zero, List.getElem_cons_succ, List.setIfInBounds_toArray, List.set_cons_zero, List.set_cons_succ])
          refine wpAnyH_ready (rs := [7]) (by kernel_rfl) (by simp) ?_
          refine AllReadyH.cons rfl (fun K hK => ?_) AllReadyH.nil
          go_simp
          have hh : Hid (Fr WE _) := hHeld.2.2.2
          refine (refCmp_any _ _ U U _ IO.out (IsDec.fr D8.out hh.out) (by omega) (by omega)).mono ?_
          rintro e wn ⟨rfl, fy⟩
          have fz := hide (hh.out.trans fy)
          rw [cmp_same]
          clear fy IO
          clear hh
          (try go_wp2_with fail)
          refine hK.out _ _ ?_ (fun hHeld => ?_)
          · (try dsimp only)
            exact ⟨fr_cell fz.out c5, fr_cell fz.out c12, fr_cell fz.out c14, fz⟩
          clear hK K
          (try simp only [Act.put, List.getElem_toArray, List.getElem_cons_zero, List.getElem_cons_succ, List.setIfInBounds_toArray, List.set_cons_zero, List.set_cons_succ])
          refine wpAnyH_take (i := 8) (v := ?_) rfl (by kernel_rfl) (by kernel_rfl) (by kernel_rfl) (fun _ _ _ h => h) (Or.inl ⟨by rfl, ?_⟩) (by assumption) ?_
          rotate_left
          · (intro w hSw; (try dsimp only at hSw); go_simp; try with_reducible rfl)
          (try simp only [Act.put, List.getElem_toArray, List.getElem_cons_zero, List.getElem_cons_succ, List.setIfInBounds_toArray, List.set_cons_zero, List.set_cons_succ])
          refine wpAnyH_take (i := 9) (v := ?_) rfl (by kernel_rfl) (by kernel_rfl) (by kernel_rfl) (fun _ _ _ h => h) (Or.inl ⟨by rfl, ?_⟩) (by assumption) ?_
          rotate_left
          · (intro w hSw; (try dsimp only at hSw); go_simp; try with_reducible rfl)
          (try simp only [Act.put, List.getElem_toArray, List.getElem_cons_zero, List.getElem_cons_succ, List.setIfInBounds_toArray, List.set_cons_zero, List.set_cons_succ])
          refine wpAnyH_take (i := 10) (v := ?_) rfl (by kernel_rfl) (by kernel_rfl) (by kernel_rfl) (fun _ _ _ h => h) (Or.inl ⟨by rfl, ?_⟩) (by assumption) ?_
          rotate_left
          · (intro w hSw; (try dsimp only at hSw); go_simp; try with_reducible rfl)
          (try simp only [Act.put, List.getElem_toArray, List.getElem_cons_zero, List.getElem_cons_succ, List.setIfInBounds_toArray, List.set_cons_zero, List.set_cons_succ])
          refine wpAnyH_take (i := 11) (v := ?_) rfl (by kernel_rfl) (by kernel_rfl) (by kernel_rfl) (fun _ _ _ h => h) (Or.inl ⟨by rfl, ?_⟩) (by assumption) ?_
          rotate_left
          · (intro w hSw; (try dsimp only at hSw); go_simp; try with_reducible rfl)
          (try simp only [Act.put, List.getElem_toArray, List.getElem_cons_zero, List.getElem_cons_succ, List.setIfInBounds_toArray, List.set_cons_zero, List.set_cons_succ])
          refine wpAnyH_take (i := 13) (v := ?_) rfl (by kernel_rfl) (by kernel_rfl) (by kernel_rfl) (fun _ _ _ h => h) (Or.inl ⟨by rfl, ?_⟩) (by assumption) ?_
          rotate_left
          · (intro w hSw; (try dsimp only at hSw); go_simp; try with_reducible rfl)
          (try simp only [Act.put, List.getElem_toArray, List.getElem_cons_zero, List.getElem_cons_succ, List.setIfInBounds_toArray, List.set_cons_zero, List.set_cons_succ])
          refine wpAnyH_ready (rs := [12]) (by kernel_rfl) (by simp) ?_
          refine AllReadyH.cons rfl (fun K hK => ?_) AllReadyH.nil
          go_simp
          have hh : Hid (Fr WE _) := hHeld.2.2.2
          refine (ofLaw_any _ Q _ (IsNat.fr ID.out hh.out) (by omega)).mono ?_
          rintro e wn ⟨vo2, rfl, io, fy⟩
          have fz := hide (hh.out.trans fy)
          have IO := hide io
          clear fy io
          clear hh
          (try go_wp2_with fail)
          refine hK.out _ _ ?_ (fun hHeld => ?_)
          · (try dsimp only)
            exact ⟨fr_cell fz.out c5, fr_cell fz.out c12, fr_cell fz.out c14, fz⟩
          clear hK K
          (try simp only [Act.put, List.getElem_toArray, List.getElem_cons_zero, List.getElem_cons_succ, List.setIfInBounds_toArray, List.set_cons_zero, List.set_cons_succ])
          refine wpAnyH_ready (rs := [14]) (by kernel_rfl) (by simp) ?_
          refine AllReadyH.cons rfl (fun K hK => ?_) AllReadyH.nil
          go_simp
          have hh : Hid (Fr WE _) := hHeld.2.2.2
          refine (refCmp_any _ _ Q Q _ IO.out (IsDec.fr DQ.out hh.out) (by omega) (by omega)).mono ?_
          rintro e wn ⟨rfl, fy⟩
          have fz := hide (hh.out.trans fy)
          rw [cmp_same]
          clear fy IO
          clear hh
          (try go_wp2_with fail)
          refine hK.out _ _ ?_ (fun hHeld => ?_)
          · (try dsimp only)
            exact ⟨fr_cell fz.out c5, fr_cell fz.out c12, fr_cell fz.out c14, fz⟩
          clear hK K
          (try simp only [Act.put, List.getElem_toArray, List.getElem_cons_zero, List.getElem_cons_succ, List.setIfInBounds_toArray, List.set_cons_zero, List.set_cons_succ])
          refine wpAnyH_take (i := 15) (v := ?_) rfl (by kernel_rfl) (by kernel_rfl) (by kernel_rfl) (fun _ _ _ h => h) (Or.inl ⟨by rfl, ?_⟩) (by assumption) ?_
          rotate_left
          · (intro w hSw; (try dsimp only at hSw); go_simp; try with_reducible rfl)
          (try simp only [Act.put, List.getElem_toArray, List.getElem_cons_zero, List.getElem_cons_succ, List.setIfInBounds_toArray, List.set_cons_zero, List.set_cons_succ])
          refine wpAnyH_take (i := 16) (v := ?_) rfl (by kernel_rfl) (by kernel_rfl) (by kernel_rfl) (fun _ _ _ h => h) (Or.inl ⟨by rfl, ?_⟩) (by assumption) ?_
          rotate_left
          · (intro w hSw; (try dsimp only at hSw); go_simp; try with_reducible rfl)
          (try simp only [Act.put, List.getElem_toArray, List.getElem_cons_zero, List.getElem_cons_succ, List.setIfInBounds_toArray, List.set_cons_zero, List.set_cons_succ])
          refine wpAnyH_take (i := 17) (v := ?_) rfl (by kernel_rfl) (by kernel_rfl) (by kernel_rfl) (fun _ _ _ h => h) (Or.inl ⟨by rfl, ?_⟩) (by assumption) ?_
          rotate_left
          · (intro w hSw; (try dsimp only at hSw); go_simp; try with_reducible rfl)
          (try simp only [Act.put, List.getElem_toArray, List.getElem_cons_zero, List.getElem_cons_succ, List.setIfInBounds_toArray, List.set_cons_zero, List.set_cons_succ])
          refine wpAnyH_take (i := 18) (v := ?_) rfl (by kernel_rfl) (by kernel_rfl) (by kernel_rfl) (fun _ _ _ h => h) (Or.inl ⟨by rfl, ?_⟩) (by assumption) ?_
          rotate_left
          · (intro w hSw; (try dsimp only at hSw); go_simp; try with_reducible rfl)
          (try simp only [Act.put, List.getElem_toArray, List.getElem_cons_zero, List.getElem_cons_succ, List.setIfInBounds_toArray, List.set_cons_zero, List.set_cons_succ])
          refine wpAnyH_take (i := 19) (v := ?_) rfl (by kernel_rfl) (by kernel_rfl) (by kernel_rfl) (fun _ _ _ h => h) (Or.inl ⟨by rfl, ?_⟩) (by assumption) ?_
          rotate_left
          · (intro w hSw; (try dsimp only at hSw); go_simp; try with_reducible rfl)
          (try simp only [Act.put, List.getElem_toArray, List.getElem_cons_zero, List.getElem_cons_succ, List.setIfInBounds_toArray, List.set_cons_zero, List.set_cons_succ])
          refine wpAnyH_take (i := 20) (v := ?_) rfl (by kernel_rfl) (by kernel_rfl) (by kernel_rfl) (fun _ _ _ h => h) (Or.inl ⟨by rfl, ?_⟩) (by assumption) ?_
          rotate_left
          · (intro w hSw; (try dsimp only at hSw); go_simp; try with_reducible rfl)
          (try simp only [Act.put, List.getElem_toArray, List.getElem_cons_zero, List.getElem_cons_succ, List.setIfInBounds_toArray, List.set_cons_zero, List.set_cons_succ])
          refine wpAnyH_take (i := 21) (v := ?_) rfl (by kernel_rfl) (by kernel_rfl) (by kernel_rfl) (fun _ _ _ h => h) (Or.inl ⟨by rfl, ?_⟩) (by assumption) ?_
          rotate_left
          · (intro w hSw; (try dsimp only at hSw); go_simp; try with_reducible rfl)
          (try simp only [Act.put, List.getElem_toArray, List.getElem_cons_zero, List.getElem_cons_succ, List.setIfInBounds_toArray, List.set_cons_zero, List.set_cons_succ])
          refine wpAnyH_take (i := 22) (v := ?_) rfl (by kernel_rfl) (by kernel_rfl) (by kernel_rfl) (fun _ _ _ h => h) (Or.inl ⟨by rfl, ?_⟩) (by assumption) ?_
          rotate_left
          · (intro w hSw; (try dsimp only at hSw); go_simp; try with_reducible rfl)
          (try simp only [Act.put, List.getElem_toArray, List.getElem_cons_zero, List.getElem_cons_succ, List.setIfInBounds_toArray, List.set_cons_zero, List.set_cons_succ])
          refine wpAnyH_take (i := 23) (v := ?_) rfl (by kernel_rfl) (by kernel_rfl) (by kernel_rfl) (fun _ _ _ h => h) (Or.inl ⟨by rfl, ?_⟩) (by assumption) ?_
          rotate_left
          · (intro w hSw; (try dsimp only at hSw); go_simp; try with_reducible rfl)
          (try simp only [Act.put, List.getElem_toArray, List.getElem_cons_zero, List.getElem_cons_succ, List.setIfInBounds_toArray, List.set_cons_zero, List.set_cons_succ])
          refine wpAnyH_take (i := 24) (v := ?_) rfl (by kernel_rfl) (by kernel_rfl) (by kernel_rfl) (fun _ _ _ h => h) (Or.inl ⟨by rfl, ?_⟩) (by assumption) ?_
          rotate_left
          · (intro w hSw; (try dsimp only at hSw); go_simp; try with_reducible rfl)
          (try simp only [Act.put, List.getElem_toArray, List.getElem_cons_zero, List.getElem_cons_succ, List.setIfInBounds_toArray, List.set_cons_zero, List.set_cons_succ])
          refine wpAnyH_take (i := 25) (v := ?_) rfl (by kernel_rfl) (by kernel_rfl) (by kernel_rfl) (fun _ _ _ h => h) (Or.inl ⟨by rfl, ?_⟩) (by assumption) ?_
          rotate_left
          · (intro w hSw; (try dsimp only at hSw); go_simp; try with_reducible rfl)
          (try simp only [Act.put, List.getElem_toArray, List.getElem_cons_zero, List.getElem_cons_succ, List.setIfInBounds_toArray, List.set_cons_zero, List.set_cons_succ])
          refine wpAnyH_take (i := 26) (v := ?_) rfl (by kernel_rfl) (by kernel_rfl) (by kernel_rfl) (fun _ _ _ h => h) (Or.inl ⟨by rfl, ?_⟩) (by assumption) ?_
          rotate_left
          · (intro w hSw; (try dsimp only at hSw); go_simp; try with_reducible rfl)
          (try simp only [Act.put, List.getElem_toArray, List.getElem_cons_zero, List.getElem_cons_succ, List.setIfInBounds_toArray, List.set_cons_zero, List.set_cons_succ])
          refine wpAnyH_ready (rs := [27]) (by kernel_rfl) (by simp) ?_
          refine AllReadyH.cons rfl (fun K hK => ?_) AllReadyH.nil
          go_simp
          have hh : Hid (Fr WE _) := hHeld.2.2.2
          refine (cmp_any _ _ x x _ (IsNat.fr IE.out hh.out) (IsNat.fr HX.out hh.out) (by omega) (by omega)).mono ?_
          rintro e wn ⟨rfl, fy⟩
          have fz := hide (hh.out.trans fy)
          rw [cmp_same]
          clear fy
          clear hh
          (try go_wp2_with fail)
          refine hK.out _ _ ?_ (fun hHeld => ?_)
          · (try dsimp only)
            exact ⟨fr_cell fz.out c5, fr_cell fz.out c12, fr_cell fz.out c14, fz⟩
          clear hK K
          (try simp only [Act.put, List.getElem_toArray, List.getElem_cons_zero, List.getElem_cons_succ, List.setIfInBounds_toArray, List.set_cons_zero, List.set_cons_succ])
          refine wpAnyH_take (i := 28) (v := ?_) rfl (by kernel_rfl) (by kernel_rfl) (by kernel_rfl) (fun _ _ _ h => h) (Or.inl ⟨by rfl, ?_⟩) (by assumption) ?_
          rotate_left
          · (intro w hSw; (try dsimp only at hSw); go_simp; try with_reducible rfl)
          (try simp only [Act.put, List.getElem_toArray, List.getElem_cons_zero, List.getElem_cons_succ, List.setIfInBounds_toArray, List.set_cons_zero, List.set_cons_succ])
          refine wpAnyH_take (i := 29) (v := ?_) rfl (by kernel_rfl) (by kernel_rfl) (by kernel_rfl) (fun _ _ _ h => h) (Or.inl ⟨by rfl, ?_⟩) (by assumption) ?_
          rotate_left
          · (intro w hSw; (try dsimp only at hSw); go_simp; try with_reducible rfl)
          (try simp only [Act.put, List.getElem_toArray, List.getElem_cons_zero, List.getElem_cons_succ, List.setIfInBounds_toArray, List.set_cons_zero, List.set_cons_succ])
          refine wpAnyH_take (i := 30) (v := ?_) rfl (by kernel_rfl) (by kernel_rfl) (by kernel_rfl) (fun _ _ _ h => h) (Or.inl ⟨by rfl, ?_⟩) (by assumption) ?_
          rotate_left
          · (intro w hSw; (try dsimp only at hSw); go_simp; try with_reducible rfl)
          (try simp only [Act.put, List.getElem_toArray, List.getElem_cons_zero, List.getElem_cons_succ, List.setIfInBounds_toArray, List.set_cons_zero, List.set_cons_succ])
          refine wpAnyH_take (i := 31) (v := ?_) rfl (by kernel_rfl) (by kernel_rfl) (by kernel_rfl) (fun _ _ _ h => h) (Or.inl ⟨by rfl, ?_⟩) (by assumption) ?_
          rotate_left
          · (intro w hSw; (try dsimp only at hSw); go_simp; try with_reducible rfl)
          (try simp only [Act.put, List.getElem_toArray, List.getElem_cons_zero, List.getElem_cons_succ, List.setIfInBounds_toArray, List.set_cons_zero, List.set_cons_succ])
          refine wpAnyH_take (i := 32) (v := ?_) rfl (by kernel_rfl) (by kernel_rfl) (by kernel_rfl) (fun _ _ _ h => h) (Or.inl ⟨by rfl, ?_⟩) (by assumption) ?_
          rotate_left
          · (intro w hSw; (try dsimp only at hSw); go_simp; try with_reducible rfl)
          (try simp only [Act.put, List.getElem_toArray, List.getElem_cons_zero, List.getElem_cons_succ, List.setIfInBounds_toArray, List.set_cons_zero, List.set_cons_succ])
          refine wpAnyH_take (i := 33) (v := ?_) rfl (by kernel_rfl) (by kernel_rfl) (by kernel_rfl) (fun _ _ _ h => h) (Or.inl ⟨by rfl, ?_⟩) (by assumption) ?_
          rotate_left
          · (intro w hSw; (try dsimp only at hSw); go_simp; try with_reducible rfl)
          (try simp only [Act.put, List.getElem_toArray, List.getElem_cons_zero, List.getElem_cons_succ, List.setIfInBounds_toArray, List.set_cons_zero, List.set_cons_succ])
          refine wpAnyH_take (i := 34) (v := ?_) rfl (by kernel_rfl) (by kernel_rfl) (by kernel_rfl) (fun _ _ _ h => h) (Or.inl ⟨by rfl, ?_⟩) (by assumption) ?_
          rotate_left
          · (intro w hSw; (try dsimp only at hSw); go_simp; try with_reducible rfl)
          (try simp only [Act.put, List.getElem_toArray, List.getElem_cons_zero, List.getElem_cons_succ, List.setIfInBounds_toArray, List.set_cons_zero, List.set_cons_succ])
          refine wpAnyH_take (i := 35) (v := ?_) rfl (by kernel_rfl) (by kernel_rfl) (by kernel_rfl) (fun _ _ _ h => h) (Or.inl ⟨by rfl, ?_⟩) (by assumption) ?_
          rotate_left
          · (intro w hSw; (try dsimp only at hSw); go_simp; try with_reducible rfl)
          (try simp only [Act.put, List.getElem_toArray, List.getElem_cons_zero, List.getElem_cons_succ, List.setIfInBounds_toArray, List.set_cons_zero, List.set_cons_succ])
          refine wpAnyH_take (i := 36) (v := ?_) rfl (by kernel_rfl) (by kernel_rfl) (by kernel_rfl) (fun _ _ _ h => h) (Or.inl ⟨by rfl, ?_⟩) (by assumption) ?_
          rotate_left
          · (intro w hSw; (try dsimp only at hSw); go_simp; try with_reducible rfl)
          (try simp only [Act.put, List.getElem_toArray, List.getElem_cons_zero, List.getElem_cons_succ, List.setIfInBounds_toArray, List.set_cons_zero, List.set_cons_succ])
          refine wpAnyH_take (i := 37) (v := ?_) rfl (by kernel_rfl) (by kernel_rfl) (by kernel_rfl) (fun _ _ _ h => h) (Or.inl ⟨by rfl, ?_⟩) (by assumption) ?_
          rotate_left
          · (intro w hSw; (try dsimp only at hSw); go_simp; try with_reducible rfl)
          (try simp only [Act.put, List.getElem_toArray, List.getElem_cons_zero, List.getElem_cons_succ, List.setIfInBounds_toArray, List.set_cons_zero, List.set_cons_succ])
          refine wpAnyH_take (i := 39) (v := ?_) rfl (by kernel_rfl) (by kernel_rfl) (by kernel_rfl) (fun _ _ _ h => h) (Or.inl ⟨by rfl, ?_⟩) (by assumption) ?_
          rotate_left
          · (intro w hSw; (try dsimp only at hSw); go_simp; try with_reducible rfl)
          (try simp only [Act.put, List.getElem_toArray, List.getElem_cons_zero, List.getElem_cons_succ, List.setIfInBounds_toArray, List.set_cons_zero, List.set_cons_succ])
          refine wpAnyH_ready (rs := [38]) (by kernel_rfl) (by simp) ?_
          refine AllReadyH.cons rfl (fun K hK => ?_) AllReadyH.nil
          go_simp
          have hh : Hid (Fr WE _) := hHeld.2.2.2
          refine (upc_any _ x 0 x _ (IsNat.fr HX.out hh.out) (by omega) (by omega) (by omega) (by rw [TM.out, Nat.pow_zero, Nat.mul_one])).mono ?_
          rintro e wn ⟨av3, cv3, rfl, iv, fy⟩
          have fz := hide (hh.out.trans fy)
          have IV := hide iv
          clear fy iv
          clear hh
          (try go_wp2_with fail)
          refine hK.out _ _ ?_ (fun hHeld => ?_)
          · (try dsimp only)
            exact ⟨fr_cell fz.out c5, fr_cell fz.out c12, fr_cell fz.out c14, fz⟩
          clear hK K
          (try simp only [Act.put, List.getElem_toArray, List.getElem_cons_zero, List.getElem_cons_succ, List.setIfInBounds_toArray, List.set_cons_zero, List.set_cons_succ])
          refine wpAnyH_ready (rs := [40]) (by kernel_rfl) (by simp) ?_
          refine AllReadyH.cons rfl (fun K hK => ?_) AllReadyH.nil
          go_simp
          have hh : Hid (Fr WE _) := hHeld.2.2.2
          refine (cmp_any _ _ x x _ IV.out (IsNat.fr HX.out hh.out) (by omega) (by omega)).mono ?_
          rintro e wn ⟨rfl, fy⟩
          have fz := hide (hh.out.trans fy)
          rw [cmp_same]
          clear fy IV
          clear hh
          (try go_wp2_with fail)
          refine hK.out _ _ ?_ (fun hHeld => ?_)
          · (try dsimp only)
            exact ⟨fr_cell fz.out c5, fr_cell fz.out c12, fr_cell fz.out c14, fz⟩
          clear hK K
          (try simp only [Act.put, List.getElem_toArray, List.getElem_cons_zero, List.getElem_cons_succ, List.setIfInBounds_toArray, List.set_cons_zero, List.set_cons_succ])
          refine wpAnyH_take (i := 41) (v := ?_) rfl (by kernel_rfl) (by kernel_rfl) (by kernel_rfl) (fun _ _ _ h => h) (Or.inl ⟨by rfl, ?_⟩) (by assumption) ?_
          rotate_left
          · (intro w hSw; (try dsimp only at hSw); go_simp; try with_reducible rfl)
          (try simp only [Act.put, List.getElem_toArray, List.getElem_cons_zero, List.getElem_cons_succ, List.setIfInBounds_toArray, List.set_cons_zero, List.set_cons_succ])
          refine wpAnyH_take (i := 42) (v := ?_) rfl (by kernel_rfl) (by kernel_rfl) (by kernel_rfl) (fun _ _ _ h => h) (Or.inl ⟨by rfl, ?_⟩) (by assumption) ?_
          rotate_left
          · (intro w hSw; (try dsimp only at hSw); go_simp; try with_reducible rfl)
          (try simp only [Act.put, List.getElem_toArray, List.getElem_cons_zero, List.getElem_cons_succ, List.setIfInBounds_toArray, List.set_cons_zero, List.set_cons_succ])
          refine wpAnyH_take (i := 43) (v := ?_) rfl (by kernel_rfl) (by kernel_rfl) (by kernel_rfl) (fun _ _ _ h => h) (Or.inl ⟨by rfl, ?_⟩) (by assumption) ?_
          rotate_left
          · (intro w hSw; (try dsimp only at hSw); go_simp; try with_reducible rfl)
          (try simp only [Act.put, List.getElem_toArray, List.getElem_cons_zero, List.getElem_cons_succ, List.setIfInBounds_toArray, List.set_cons_zero, List.set_cons_succ])
          refine wpAnyH_done (by kernel_rfl) ?_ _
          go_wp2_with fail
          go_ret
          exact ⟨rfl, F.out.trans fz.out⟩
        · go_wp2_with fail
          refine wp_region_held_drew (S := (fun w' => w'.cell? ⟨w1.heap.size, 0, none⟩ = some (.slice ax (nlen 4294967296 x) cx) ∧ w'.cell? ⟨w7.heap.size, 0, none⟩ = some (.slice ad (nlen 4294967296 Q) cd) ∧ w'.cell? ⟨w8.heap.size, 0, none⟩ = some (.slice ae (nlen 4294967296 x) ce) ∧ Hid (Fr WE w'))) (by kernel_rfl) ?_ (fun hHeld => ?_)
          · exact ⟨c5, c12, c14, Fr.drew _⟩
          refine wpAnyH_ready (rs := [0]) (by kernel_rfl) (by simp) ?_
          refine AllReadyH.cons rfl (fun K hK => ?_) AllReadyH.nil
          go_simp
          have hh : Hid (Fr WE _) := hHeld.2.2.2
          refine (wakes_any _ (Tab.fr HT.out (F.out.trans hh.out))).mono ?_
          rintro e wn ⟨rfl, fy⟩
          have fz := hide (hh.out.trans fy)
          clear fy
          clear hh
          (try go_wp2_with fail)
          refine hK.out _ _ ?_ (fun hHeld => ?_)
          · (try dsimp only)
            exact ⟨fr_cell fz.out c5, fr_cell fz.out c12, fr_cell fz.out c14, fz⟩
          clear hK K
          (try simp only [Act.put, List.getElem_toArray, List.getElem_cons_zero, List.getElem_cons_succ, List.setIfInBounds_toArray, List.set_cons_zero, List.set_cons_succ])
          refine wpAnyH_take (i := 1) (v := ?_) rfl (by kernel_rfl) (by kernel_rfl) (by kernel_rfl) (fun _ _ _ h => h) (Or.inl ⟨by rfl, ?_⟩) (by assumption) ?_
          rotate_left
          · (intro w hSw; (try dsimp only at hSw); go_simp; try with_reducible rfl)
          (try simp only [Act.put, List.getElem_toArray, List.getElem_cons_zero, List.getElem_cons_succ, List.setIfInBounds_toArray, List.set_cons_zero, List.set_cons_succ])
          refine wpAnyH_take (i := 2) (v := ?_) rfl (by kernel_rfl) (by kernel_rfl) (by kernel_rfl) (fun _ _ _ h => h) (Or.inl ⟨by rfl, ?_⟩) (by assumption) ?_
          rotate_left
          · (intro w hSw; (try dsimp only at hSw); go_simp; try with_reducible rfl)
          (try simp only [Act.put, List.getElem_toArray, List.getElem_cons_zero, List.getElem_cons_succ, List.setIfInBounds_toArray, List.set_cons_zero, List.set_cons_succ])
          refine wpAnyH_take (i := 3) (v := ?_) rfl (by kernel_rfl) (by kernel_rfl) (by kernel_rfl) (fun _ _ _ h => h) (Or.inl ⟨by rfl, ?_⟩) (by assumption) ?_
          rotate_left
          · (intro w hSw; (try dsimp only at hSw); go_simp; try with_reducible rfl)
          (try simp only [Act.put, List.getElem_toArray, List.getElem_cons_zero, List.getElem_cons_succ, List.setIfInBounds_toArray, List.set_cons_zero, List.set_cons_succ])
          refine wpAnyH_take (i := 6) (v := ?_) rfl (by kernel_rfl) (by kernel_rfl) (by kernel_rfl) (fun _ _ _ h => h) (Or.inl ⟨by rfl, ?_⟩) (by assumption) ?_
          rotate_left
          · (intro w hSw; (try dsimp only at hSw); go_simp; try with_reducible rfl)
          (try simp only [Act.put, List.getElem_toArray, List.getElem_cons_zero, List.getElem_cons_succ, List.setIfInBounds_toArray, List.set_cons_zero, List.set_cons_succ])
          refine wpAnyH_ready (rs := [4]) (by kernel_rfl) (by simp) ?_
          refine AllReadyH.cons rfl (fun K hK => ?_) AllReadyH.nil
          go_simp
          have hh : Hid (Fr WE _) := hHeld.2.2.2
          refine (upc_any _ x (N : Int) U _ (IsNat.fr HX.out hh.out) (by omega) (by omega) (by omega) (by rw [TN.out]; exact HU.out)).mono ?_
          rintro e wn ⟨av, cv, rfl, iv, fy⟩
          have fz := hide (hh.out.trans fy)
          have IV := hide iv
          clear fy iv
          clear hh
          (try go_wp2_with fail)
          refine hK.out _ _ ?_ (fun hHeld => ?_)
          · (try dsimp only)
            exact ⟨fr_cell fz.out c5, fr_cell fz.out c12, fr_cell fz.out c14, fz⟩
          clear hK K
          (try simp only [Act.put, List.getElem_toArray, List.getElem_cons_zero, List.getElem_cons_succ, List.setIfInBounds_toArray, List.set_cons_zero, List.set_cons_succ])
          refine wpAnyH_ready (rs := [5]) (by kernel_rfl) (by simp) ?_
          refine AllReadyH.cons rfl (fun K hK => ?_) AllReadyH.nil
          go_simp
          have hh : Hid (Fr WE _) := hHeld.2.2.2
          refine (ofLaw_any _ U _ IV.out (by omega)).mono ?_
          rintro e wn ⟨vo, rfl, io, fy⟩
          have fz := hide (hh.out.trans fy)
          have IO := hide io
          clear fy io IV
          clear hh
          (try go_wp2_with fail)
          refine hK.out _ _ ?_ (fun hHeld => ?_)
          · (try dsimp only)
            exact ⟨fr_cell fz.out c5, fr_cell fz.out c12, fr_cell fz.out c14, fz⟩
          clear hK K
          (try simp only [Act.put, List.getElem_toArray, List.getElem_cons_zero, List.getElem_cons_succ, List.setIfInBounds_toArray, List.set_cons_zero, List.set_cons_succ])
          refine wpAnyH_ready (rs := [7]) (by kernel_rfl) (by simp) ?_
          refine AllReadyH.cons rfl (fun K hK => ?_) AllReadyH.nil
          go_simp
          have hh : Hid (Fr WE _) := hHeld.2.2.2
          refine (refCmp_any _ _ U U _ IO.out (IsDec.fr D8.out hh.out) (by omega) (by omega)).mono ?_
          rintro e wn ⟨rfl, fy⟩
          have fz := hide (hh.out.trans fy)
          rw [cmp_same]
          clear fy IO
          clear hh
          (try go_wp2_with fail)
          refine hK.out _ _ ?_ (fun hHeld => ?_)
          · (try dsimp only)
            exact ⟨fr_cell fz.out c5, fr_cell fz.out c12, fr_cell fz.out c14, fz⟩
          clear hK K
          (try simp only [Act.put, List.getElem_toArray, List.getElem_cons_zero, List.getElem_cons_succ, List.setIfInBounds_toArray, List.set_cons_zero, List.set_cons_succ])
          refine wpAnyH_take (i := 8) (v := ?_) rfl (by kernel_rfl) (by kernel_rfl) (by kernel_rfl) (fun _ _ _ h => h) (Or.inl ⟨by rfl, ?_⟩) (by assumption) ?_
          rotate_left
          · (intro w hSw; (try dsimp only at hSw); go_simp; try with_reducible rfl)
          (try simp only [Act.put, List.getElem_toArray, List.getElem_cons_zero, List.getElem_cons_succ, List.setIfInBounds_toArray, List.set_cons_zero, List.set_cons_succ])
          refine wpAnyH_take (i := 9) (v := ?_) rfl (by kernel_rfl) (by kernel_rfl) (by kernel_rfl) (fun _ _ _ h => h) (Or.inl ⟨by rfl, ?_⟩) (by assumption) ?_
          rotate_left
          · (intro w hSw; (try dsimp only at hSw); go_simp; try with_reducible rfl)
          (try simp only [Act.put, List.getElem_toArray, List.getElem_cons_zero, List.getElem_cons_succ, List.setIfInBounds_toArray, List.set_cons_zero, List.set_cons_succ])
          refine wpAnyH_take (i := 10) (v := ?_) rfl (by kernel_rfl) (by kernel_rfl) (by kernel_rfl) (fun _ _ _ h => h) (Or.inl ⟨by rfl, ?_⟩) (by assumption) ?_
          rotate_left
          · (intro w hSw; (try dsimp only at hSw); go_simp; try with_reducible rfl)
          (try simp only [Act.put, List.getElem_toArray, List.getElem_cons_zero, List.getElem_cons_succ, List.setIfInBounds_toArray, List.set_cons_zero, List.set_cons_succ])
          refine wpAnyH_take (i := 11) (v := ?_) rfl (by kernel_rfl) (by kernel_rfl) (by kernel_rfl) (fun _ _ _ h => h) (Or.inl ⟨by rfl, ?_⟩) (by assumption) ?_
          rotate_left
          · (intro w hSw; (try dsimp only at hSw); go_simp; try with_reducible rfl)
          (try simp only [Act.put, List.getElem_toArray, List.getElem_cons_zero, List.getElem_cons_succ, List.setIfInBounds_toArray, List.set_cons_zero, List.set_cons_succ])
          refine wpAnyH_take (i := 13) (v := ?_) rfl (by kernel_rfl) (by kernel_rfl) (by kernel_rfl) (fun _ _ _ h => h) (Or.inl ⟨by rfl, ?_⟩) (by assumption) ?_
          rotate_left
          · (intro w hSw; (try dsimp only at hSw); go_simp; try with_reducible rfl)
          (try simp only [Act.put, List.getElem_toArray, List.getElem_cons_zero, List.getElem_cons_succ, List.setIfInBounds_toArray, List.set_cons_zero, List.set_cons_succ])
          refine wpAnyH_ready (rs := [12]) (by kernel_rfl) (by simp) ?_
          refine AllReadyH.cons rfl (fun K hK => ?_) AllReadyH.nil
          go_simp
          have hh : Hid (Fr WE _) := hHeld.2.2.2
          refine (ofLaw_any _ Q _ (IsNat.fr ID.out hh.out) (by omega)).mono ?_
          rintro e wn ⟨vo2, rfl, io, fy⟩
          have fz := hide (hh.out.trans fy)
          have IO := hide io
          clear fy io
          clear hh
          (try go_wp2_with fail)
          refine hK.out _ _ ?_ (fun hHeld => ?_)
          · (try dsimp only)
            exact ⟨fr_cell fz.out c5, fr_cell fz.out c12, fr_cell fz.out c14, fz⟩
          clear hK K
          (try simp only [Act.put, List.getElem_toArray, List.getElem_cons_zero, List.getElem_cons_succ, List.setIfInBounds_toArray, List.set_cons_zero, List.set_cons_succ])
          refine wpAnyH_ready (rs := [14]) (by kernel_rfl) (by simp) ?_
          refine AllReadyH.cons rfl (fun K hK => ?_) AllReadyH.nil
          go_simp
          have hh : Hid (Fr WE _) := hHeld.2.2.2
          refine (refCmp_any _ _ Q Q _ IO.out (IsDec.fr DQ.out hh.out) (by omega) (by omega)).mono ?_
          rintro e wn ⟨rfl, fy⟩
          have fz := hide (hh.out.trans fy)
          rw [cmp_same]
          clear fy IO
          clear hh
          (try go_wp2_with fail)
          refine hK.out _ _ ?_ (fun hHeld => ?_)
          · (try dsimp only)
            exact ⟨fr_cell fz.out c5, fr_cell fz.out c12, fr_cell fz.out c14, fz⟩
          clear hK K
          (try simp only [Act.put, List.getElem_toArray, List.getElem_cons_zero, List.getElem_cons_succ, List.setIfInBounds_toArray, List.set_cons_zero, List.set_cons_succ])
          refine wpAnyH_take (i := 15) (v := ?_) rfl (by kernel_rfl) (by kernel_rfl) (by kernel_rfl) (fun _ _ _ h => h) (Or.inl ⟨by rfl, ?_⟩) (by assumption) ?_
          rotate_left
          · (intro w hSw; (try dsimp only at hSw); go_simp; try with_reducible rfl)
          (try simp only [Act.put, List.getElem_toArray, List.getElem_cons_zero, List.getElem_cons_succ, List.setIfInBounds_toArray, List.set_cons_zero, List.set_cons_succ])
          refine wpAnyH_take (i := 16) (v := ?_) rfl (by kernel_rfl) (by kernel_rfl) (by kernel_rfl) (fun _ _ _ h => h) (Or.inl ⟨by rfl, ?_⟩) (by assumption) ?_
          rotate_left
          · (intro w hSw; (try dsimp only at hSw); go_simp; try with_reducible rfl)
          (try simp only [Act.put, List.getElem_toArray, List.getElem_cons_zero, List.getElem_cons_succ, List.setIfInBounds_toArray, List.set_cons_zero, List.set_cons_succ])
          refine wpAnyH_take (i := 17) (v := ?_) rfl (by kernel_rfl) (by kernel_rfl) (by kernel_rfl) (fun _ _ _ h => h) (Or.inl ⟨by rfl, ?_⟩) (by assumption) ?_
          rotate_left
          · (intro w hSw; (try dsimp only at hSw); go_simp; try with_reducible rfl)
          (try simp only [Act.put, List.getElem_toArray, List.getElem_cons_zero, List.getElem_cons_succ, List.setIfInBounds_toArray, List.set_cons_zero, List.set_cons_succ])
          refine wpAnyH_take (i := 18) (v := ?_) rfl (by kernel_rfl) (by kernel_rfl) (by kernel_rfl) (fun _ _ _ h => h) (Or.inl ⟨by rfl, ?_⟩) (by assumption) ?_
          rotate_left
          · (intro w hSw; (try dsimp only at hSw); go_simp; try with_reducible rfl)
          (try simp only [Act.put, List.getElem_toArray, List.getElem_cons_zero, List.getElem_cons_succ, List.setIfInBounds_toArray, List.set_cons_zero, List.set_cons_succ])
          refine wpAnyH_take (i := 19) (v := ?_) rfl (by kernel_rfl) (by kernel_rfl) (by kernel_rfl) (fun _ _ _ h => h) (Or.inl ⟨by rfl, ?_⟩) (by assumption) ?_
          rotate_left
          · (intro w hSw; (try dsimp only at hSw); go_simp; try with_reducible rfl)
          (try simp only [Act.put, List.getElem_toArray, List.getElem_cons_zero, List.getElem_cons_succ, List.setIfInBounds_toArray, List.set_cons_zero, List.set_cons_succ])
          refine wpAnyH_take (i := 20) (v := ?_) rfl (by kernel_rfl) (by kernel_rfl) (by kernel_rfl) (fun _ _ _ h => h) (Or.inl ⟨by rfl, ?_⟩) (by assumption) ?_
          rotate_left
          · (intro w hSw; (try dsimp only at hSw); go_simp; try with_reducible rfl)
          (try simp only [Act.put, List.getElem_toArray, List.getElem_cons_zero, List.getElem_cons_succ, List.setIfInBounds_toArray, List.set_cons_zero, List.set_cons_succ])
          refine wpAnyH_take (i := 21) (v := ?_) rfl (by kernel_rfl) (by kernel_rfl) (by kernel_rfl) (fun _ _ _ h => h) (Or.inl ⟨by rfl, ?_⟩) (by assumption) ?_
          rotate_left
          · (intro w hSw; (try dsimp only at hSw); go_simp; try with_reducible rfl)
          (try simp only [Act.put, List.getElem_toArray, List.getElem_cons_zero, List.getElem_cons_succ, List.setIfInBounds_toArray, List.set_cons_zero, List.set_cons_succ])
          refine wpAnyH_take (i := 22) (v := ?_) rfl (by kernel_rfl) (by kernel_rfl) (by kernel_rfl) (fun _ _ _ h => h) (Or.inl ⟨by rfl, ?_⟩) (by assumption) ?_
          rotate_left
          · (intro w hSw; (try dsimp only at hSw); go_simp; try with_reducible rfl)
          (try simp only [Act.put, List.getElem_toArray, List.getElem_cons_zero, List.getElem_cons_succ, List.setIfInBounds_toArray, List.set_cons_zero, List.set_cons_succ])
          refine wpAnyH_take (i := 23) (v := ?_) rfl (by kernel_rfl) (by kernel_rfl) (by kernel_rfl) (fun _ _ _ h => h) (Or.inl ⟨by rfl, ?_⟩) (by assumption) ?_
          rotate_left
          · (intro w hSw; (try dsimp only at hSw); go_simp; try with_reducible rfl)
          (try simp only [Act.put, List.getElem_toArray, List.getElem_cons_zero, List.getElem_cons_succ, List.setIfInBounds_toArray, List.set_cons_zero, List.set_cons_succ])
          refine wpAnyH_take (i := 24) (v := ?_) rfl (by kernel_rfl) (by kernel_rfl) (by kernel_rfl) (fun _ _ _ h => h) (Or.inl ⟨by rfl, ?_⟩) (by assumption) ?_
          rotate_left
          · (intro w hSw; (try dsimp only at hSw); go_simp; try with_reducible rfl)
          (try simp only [Act.put, List.getElem_toArray, List.getElem_cons_zero, List.getElem_cons_succ, List.setIfInBounds_toArray, List.set_cons_zero, List.set_cons_succ])
          refine wpAnyH_take (i := 25) (v := ?_) rfl (by kernel_rfl) (by kernel_rfl) (by kernel_rfl) (fun _ _ _ h => h) (Or.inl ⟨by rfl, ?_⟩) (by assumption) ?_
          rotate_left
          · (intro w hSw; (try dsimp only at hSw); go_simp; try with_reducible rfl)
          (try simp only [Act.put, List.getElem_toArray, List.getElem_cons_zero, List.getElem_cons_succ, List.setIfInBounds_toArray, List.set_cons_zero, List.set_cons_succ])
          refine wpAnyH_take (i := 26) (v := ?_) rfl (by kernel_rfl) (by kernel_rfl) (by kernel_rfl) (fun _ _ _ h => h) (Or.inl ⟨by rfl, ?_⟩) (by assumption) ?_
          rotate_left
          · (intro w hSw; (try dsimp only at hSw); go_simp; try with_reducible rfl)
          (try simp only [Act.put, List.getElem_toArray, List.getElem_cons_zero, List.getElem_cons_succ, List.setIfInBounds_toArray, List.set_cons_zero, List.set_cons_succ])
          refine wpAnyH_ready (rs := [27]) (by kernel_rfl) (by simp) ?_
          refine AllReadyH.cons rfl (fun K hK => ?_) AllReadyH.nil
          go_simp
          have hh : Hid (Fr WE _) := hHeld.2.2.2
          refine (cmp_any _ _ x x _ (IsNat.fr IE.out hh.out) (IsNat.fr HX.out hh.out) (by omega) (by omega)).mono ?_
          rintro e wn ⟨rfl, fy⟩
          have fz := hide (hh.out.trans fy)
          rw [cmp_same]
          clear fy
          clear hh
          (try go_wp2_with fail)
          refine hK.out _ _ ?_ (fun hHeld => ?_)
          · (try dsimp only)
            exact ⟨fr_cell fz.out c5, fr_cell fz.out c12, fr_cell fz.out c14, fz⟩
          clear hK K
          (try simp only [Act.put, List.getElem_toArray, List.getElem_cons_zero, List.getElem_cons_succ, List.setIfInBounds_toArray, List.set_cons_zero, List.set_cons_succ])
          refine wpAnyH_take (i := 28) (v := ?_) rfl (by kernel_rfl) (by kernel_rfl) (by kernel_rfl) (fun _ _ _ h => h) (Or.inl ⟨by rfl, ?_⟩) (by assumption) ?_
          rotate_left
          · (intro w hSw; (try dsimp only at hSw); go_simp; try with_reducible rfl)
          (try simp only [Act.put, List.getElem_toArray, List.getElem_cons_zero, List.getElem_cons_succ, List.setIfInBounds_toArray, List.set_cons_zero, List.set_cons_succ])
          refine wpAnyH_take (i := 29) (v := ?_) rfl (by kernel_rfl) (by kernel_rfl) (by kernel_rfl) (fun _ _ _ h => h) (Or.inl ⟨by rfl, ?_⟩) (by assumption) ?_
          rotate_left
          · (intro w hSw; (try dsimp only at hSw); go_simp; try with_reducible rfl)
          (try simp only [Act.put, List.getElem_toArray, List.getElem_cons_zero, List.getElem_cons_succ, List.setIfInBounds_toArray, List.set_cons_zero, List.set_cons_succ])
          refine wpAnyH_take (i := 30) (v := ?_) rfl (by kernel_rfl) (by kernel_rfl) (by kernel_rfl) (fun _ _ _ h => h) (Or.inl ⟨by rfl, ?_⟩) (by assumption) ?_
          rotate_left
          · (intro w hSw; (try dsimp only at hSw); go_simp; try with_reducible rfl)
          (try simp only [Act.put, List.getElem_toArray, List.getElem_cons_zero, List.getElem_cons_succ, List.setIfInBounds_toArray, List.set_cons_zero, List.set_cons_succ])
          refine wpAnyH_take (i := 31) (v := ?_) rfl (by kernel_rfl) (by kernel_rfl) (by kernel_rfl) (fun _ _ _ h => h) (Or.inl ⟨by rfl, ?_⟩) (by assumption) ?_
          rotate_left
          · (intro w hSw; (try dsimp only at hSw); go_simp; try with_reducible rfl)
          (try simp only [Act.put, List.getElem_toArray, List.getElem_cons_zero, List.getElem_cons_succ, List.setIfInBounds_toArray, List.set_cons_zero, List.set_cons_succ])
          refine wpAnyH_take (i := 32) (v := ?_) rfl (by kernel_rfl) (by kernel_rfl) (by kernel_rfl) (fun _ _ _ h => h) (Or.inl ⟨by rfl, ?_⟩) (by assumption) ?_
          rotate_left
          · (intro w hSw; (try dsimp only at hSw); go_simp; try with_reducible rfl)
          (try simp only [Act.put, List.getElem_toArray, List.getElem_cons_zero, List.getElem_cons_succ, List.setIfInBounds_toArray, List.set_cons_zero, List.set_cons_succ])
          refine wpAnyH_take (i := 33) (v := ?_) rfl (by kernel_rfl) (by kernel_rfl) (by kernel_rfl) (fun _ _ _ h => h) (Or.inl ⟨by rfl, ?_⟩) (by assumption) ?_
          rotate_left
          · (intro w hSw; (try dsimp only at hSw); go_simp; try with_reducible rfl)
          (try simp only [Act.put, List.getElem_toArray, List.getElem_cons_zero, List.getElem_cons_succ, List.setIfInBounds_toArray, List.set_cons_zero, List.set_cons_succ])
          refine wpAnyH_take (i := 34) (v := ?_) rfl (by kernel_rfl) (by kernel_rfl) (by kernel_rfl) (fun _ _ _ h => h) (Or.inl ⟨by rfl, ?_⟩) (by assumption) ?_
          rotate_left
          · (intro w hSw; (try dsimp only at hSw); go_simp; try with_reducible rfl)
          (try simp only [Act.put, List.getElem_toArray, List.getElem_cons_zero, List.getElem_cons_succ, List.setIfInBounds_toArray, List.set_cons_zero, List.set_cons_succ])
          refine wpAnyH_take (i := 35) (v := ?_) rfl (by kernel_rfl) (by kernel_rfl) (by kernel_rfl) (fun _ _ _ h => h) (Or.inl ⟨by rfl, ?_⟩) (by assumption) ?_
          rotate_left
          · (intro w hSw; (try dsimp only at hSw); go_simp; try with_reducible rfl)
          (try simp only [Act.put, List.getElem_toArray, List.getElem_cons_zero, List.getElem_cons_succ, List.setIfInBounds_toArray, List.set_cons_zero, List.set_cons_succ])
          refine wpAnyH_take (i := 36) (v := ?_) rfl (by kernel_rfl) (by kernel_rfl) (by kernel_rfl) (fun _ _ _ h => h) (Or.inl ⟨by rfl, ?_⟩) (by assumption) ?_
          rotate_left
          · (intro w hSw; (try dsimp only at hSw); go_simp; try with_reducible rfl)
          (try simp only [Act.put, List.getElem_toArray, List.getElem_cons_zero, List.getElem_cons_succ, List.setIfInBounds_toArray, List.set_cons_zero, List.set_cons_succ])
          refine wpAnyH_take (i := 37) (v := ?_) rfl (by kernel_rfl) (by kernel_rfl) (by kernel_rfl) (fun _ _ _ h => h) (Or.inl ⟨by rfl, ?_⟩) (by assumption) ?_
          rotate_left
          · (intro w hSw; (try dsimp only at hSw); go_simp; try with_reducible rfl)
          (try simp only [Act.put, List.getElem_toArray, List.getElem_cons_zero, List.getElem_cons_succ, List.setIfInBounds_toArray, List.set_cons_zero, List.set_cons_succ])
          refine wpAnyH_take (i := 39) (v := ?_) rfl (by kernel_rfl) (by kernel_rfl) (by kernel_rfl) (fun _ _ _ h => h) (Or.inl ⟨by rfl, ?_⟩) (by assumption) ?_
          rotate_left
          · (intro w hSw; (try dsimp only at hSw); go_simp; try with_reducible rfl)
          (try simp only [Act.put, List.getElem_toArray, List.getElem_cons_zero, List.getElem_cons_succ, List.setIfInBounds_toArray, List.set_cons_zero, List.set_cons_succ])
          refine wpAnyH_ready (rs := [38]) (by kernel_rfl) (by simp) ?_
          refine AllReadyH.cons rfl (fun K hK => ?_) AllReadyH.nil
          go_simp
          have hh : Hid (Fr WE _) := hHeld.2.2.2
          refine (upc_any _ x 0 x _ (IsNat.fr HX.out hh.out) (by omega) (by omega) (by omega) (by rw [TM.out, Nat.pow_zero, Nat.mul_one])).mono ?_
          rintro e wn ⟨av3, cv3, rfl, iv, fy⟩
          have fz := hide (hh.out.trans fy)
          have IV := hide iv
          clear fy iv
          clear hh
          (try go_wp2_with fail)
          refine hK.out _ _ ?_ (fun hHeld => ?_)
          · (try dsimp only)
            exact ⟨fr_cell fz.out c5, fr_cell fz.out c12, fr_cell fz.out c14, fz⟩
          clear hK K
          (try simp only [Act.put, List.getElem_toArray, List.getElem_cons_zero, List.getElem_cons_succ, List.setIfInBounds_toArray, List.set_cons_zero, List.set_cons_succ])
          refine wpAnyH_ready (rs := [40]) (by kernel_rfl) (by simp) ?_
          refine AllReadyH.cons rfl (fun K hK => ?_) AllReadyH.nil
          go_simp
          have hh : Hid (Fr WE _) := hHeld.2.2.2
          refine (cmp_any _ _ x x _ IV.out (IsNat.fr HX.out hh.out) (by omega) (by omega)).mono ?_
          rintro e wn ⟨rfl, fy⟩
          have fz := hide (hh.out.trans fy)
          rw [cmp_same]
          clear fy IV
          clear hh
          (try go_wp2_with fail)
          refine hK.out _ _ ?_ (fun hHeld => ?_)
          · (try dsimp only)
            exact ⟨fr_cell fz.out c5, fr_cell fz.out c12, fr_cell fz.out c14, fz⟩
          clear hK K
          (try simp only [Act.put, List.getElem_toArray, List.getElem_cons_zero, List.getElem_cons_succ, List.setIfInBounds_toArray, List.set_cons_zero, List.set_cons_succ])
          refine wpAnyH_take (i := 41) (v := ?_) rfl (by kernel_rfl) (by kernel_rfl) (by kernel_rfl) (fun _ _ _ h => h) (Or.inl ⟨by rfl, ?_⟩) (by assumption) ?_
          rotate_left
          · (intro w hSw; (try dsimp only at hSw); go_simp; try with_reducible rfl)
          (try simp only [Act.put, List.getElem_toArray, List.getElem_cons_zero, List.getElem_cons_succ, List.setIfInBounds_toArray, List.set_cons_zero, List.set_cons_succ])
          refine wpAnyH_take (i := 42) (v := ?_) rfl (by kernel_rfl) (by kernel_rfl) (by kernel_rfl) (fun _ _ _ h => h) (Or.inl ⟨by rfl, ?_⟩) (by assumption) ?_
          rotate_left
          · (intro w hSw; (try dsimp only at hSw); go_simp; try with_reducible rfl)
          (try simp only [Act.put, List.getElem_toArray, List.getElem_cons_zero, List.getElem_cons_succ, List.setIfInBounds_toArray, List.set_cons_zero, List.set_cons_succ])
          refine wpAnyH_take (i := 43) (v := ?_) rfl (by kernel_rfl) (by kernel_rfl) (by kernel_rfl) (fun _ _ _ h => h) (Or.inl ⟨by rfl, ?_⟩) (by assumption) ?_
          rotate_left
          · (intro w hSw; (try dsimp only at hSw); go_simp; try with_reducible rfl)
          (try simp only [Act.put, List.getElem_toArray, List.getElem_cons_zero, List.getElem_cons_succ, List.setIfInBounds_toArray, List.set_cons_zero, List.set_cons_succ])
          refine wpAnyH_done (by kernel_rfl) ?_ _
          go_wp2_with fail
          go_ret
          exact ⟨rfl, F.out.trans fz.out⟩
end Go.Proofs.YtfmloickfopmmaaDoor
