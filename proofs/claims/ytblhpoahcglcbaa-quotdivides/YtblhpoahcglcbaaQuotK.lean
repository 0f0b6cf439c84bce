/- The law QuotDivides. -/
import Derived.Test.YtblhpoahcglcbaaQuotG
import Derived.Test.YtblhpoahcglcbaaDecT
import Derived.Deep.RegionHeld3
namespace Go.Proofs.Ytblhpoahcglcbaa
set_option linter.unusedVariables false
set_option linter.unusedSimpArgs false
open Go.RowKit

attribute [local go_sem] World.cell?_alloc_some
set_option maxHeartbeats 400000 in
theorem ofLaw_any (va : Value) (x : Nat) (w : World) (ha : IsNat w va x) (hx : nlen 4294967296 x ≤ 1000) :
    Calls Try.prog 15 #[va] w fun e w' => ∃ v, e = .returned v ∧ IsDec w' v x ∧ Fr w w' := by
  have HA := hide ha
  obtain ⟨a, ca, rfl, a2, a3, a4⟩ := ha
  clear a4
  go_enter Try.func15, Try.ntmps15
  go_wp2_with fail
  refine (limbs_any _ x _ (HA.out.fr (Fr.alloc _ _)) (by omega)).mono ?_
  rintro e w1 ⟨v1, rfl, hown, f1⟩
  obtain ⟨a1, c1, rfl, _, _, _⟩ := own_form hown
  have hcs := own_cs hown
  clear hown
  go_wp2_with fail
  refine (refMade_any x _ c1 a1 _ (lt_nlen b32 x) hx hcs).mono ?_
  rintro e w2 ⟨v2, rfl, h2, f2⟩
  have H2 := hide h2
  clear h2 hcs
  go_wp2_with fail
  go_ret
  exact ⟨_, rfl, H2, ((Fr.alloc _ _).trans f1).trans f2⟩

set_option maxHeartbeats 4000000 in
theorem law_QuotDivides (a0 : Option Addr) (len0 cap0 : Nat) (z0 : List Int) (a1 : Option Addr) (len1 cap1 : Nat) (z1 : List Int) (w : World) (h0 : IsRow .u32 w a0 len0 cap0 z0) (h1 : IsRow .u32 w a1 len1 cap1 z1) :
    Calls Try.prog 3 #[.slice a0 len0 cap0, .slice a1 len1 cap1] w fun e w' => e = .returned (.bool true) ∧ Fr w w' := by
  obtain ⟨k0, x, kx, _, lx, cx0, fewx, madex⟩ := came 12 (by omega) h0
  obtain ⟨k1, y, ky, _, ly, cy0, fewy, madey⟩ := came 8 (by omega) h1
  have FX := hide fewx
  have FY := hide fewy
  have MX := hide madex
  have MY := hide madey
  have CX := hide cx0
  have CY := hide cy0
  have LX := hide lx
  have LY := hide ly
  have nx : nlen 4294967296 x ≤ 12 := Nat.le_trans (nlen_le b32 lx) kx
  have ny : nlen 4294967296 y ≤ 8 := Nat.le_trans (nlen_le b32 ly) ky
  have dx : nlen 10 x ≤ 120 := Nat.le_trans (nl10 lx) (by omega)
  have dy : nlen 10 y ≤ 80 := Nat.le_trans (nl10 ly) (by omega)
  clear fewx fewy madex madey h0 h1 lx ly cx0 cy0
  go_enter Try.func3, Try.ntmps3
  go_wp2_with fail
  refine (FX.out _).mono ?_
  rintro e w' ⟨rfl, rfl⟩
  go_wp2_with fail
  refine (FY.out _).mono ?_
  rintro e w' ⟨rfl, rfl⟩
  go_wp2_with fail
  refine (MX.out _ (Fr.refl _)).mono ?_
  rintro e w1 ⟨ax, cx, rfl, hx, _, f1⟩
  go_wp2_with fail
  refine (MY.out _ f1).mono ?_
  rintro e w2 ⟨ay, cy, rfl, hy, _, f2⟩
  have HX := hide (hx.fr f2)
  have HY := hide hy
  have F2 := hide (f1.trans f2)
  clear MX MY FX FY hx hy f1 f2
  go_wp2_with fail
  by_cases hy0 : y = 0
  · subst hy0
    refine (div_no _ _ x _ HX.out HY.out).mono ?_
    rintro e w3 ⟨rfl, f3⟩
    go_wp2_with fail
    obtain ⟨W, hW⟩ : ∃ W, W = (w3.alloc (Obj.cells #[Value.slice none 0 0] 25)).alloc (Obj.cells #[Value.slice none 0 0] 25) := ⟨_, rfl⟩
    have fW : Fr w3 W := by rw [hW]; exact (Fr.alloc _ _).trans (Fr.alloc _ _)
    have c5 : W.cell? ⟨w3.heap.size, 0, none⟩ = some (.slice none 0 0) := by rw [hW]; simp [go_sem]
    have c6 : W.cell? ⟨w3.heap.size + 1, 0, none⟩ = some (.slice none 0 0) := by rw [hW]; simp [go_sem]
    rw [← hW]
    clear hW
    have F3 := hide ((F2.out.trans f3).trans fW)
    refine (refMade_any x k0 cap0 a0 _ LX.out (by omega) (CX.out.fr F3.out)).mono ?_
    rintro e w4 ⟨v4, rfl, i4, f4⟩
    go_wp2_with fail
    refine (refMade_any 0 k1 cap1 a1 _ LY.out (by omega) (CY.out.fr (F3.out.trans f4))).mono ?_
    rintro e WB ⟨v5, rfl, i5, f5⟩
    obtain ⟨a5, c5', rfl, _, _, _⟩ := i5
    rw [nlen_zero]
    have c5 := fr_cell (f4.trans f5) c5
    have c6 := fr_cell (f4.trans f5) c6
    have F3 := hide (F3.out.trans (f4.trans f5))
    clear f3 fW f4 f5 i4 CX CY LX LY F2
    go_wp2_with fail
    refine wp_region_held_drew (S := (fun w' => w'.cell? ⟨w3.heap.size, 0, none⟩ = some (.slice none 0 0) ∧ w'.cell? ⟨w3.heap.size + 1, 0, none⟩ = some (.slice none 0 0) ∧ Hid (Fr WB w'))) (by kernel_rfl) ?_ (fun hHeld => ?_)
    · exact ⟨c5, c6, Fr.drew _⟩
    refine wpAnyH_ready (rs := [0]) (by kernel_rfl) (by simp) ?_
    refine AllReadyH.cons rfl (fun K hK => ?_) AllReadyH.nil
    go_simp
    have hh : Hid (Fr WB _) := hHeld.2.2
    refine (wakes_any _).mono ?_
    rintro e wn ⟨rfl, fy⟩
    have fz := hide (hh.out.trans fy)
    clear fy
    clear hh
    (try go_wp2_with fail)
    refine hK.out _ _ ?_ (fun hHeld => ?_)
    · (try dsimp only)
      exact ⟨fr_cell fz.out c5, fr_cell fz.out c6, fz⟩
    clear hK K
    (try simp only [Act.put, List.getElem_toArray, List.getElem_cons_zero, List.getElem_cons_succ, List.setIfInBounds_toArray, List.set_cons_zero, List.set_cons_succ])
    refine wpAnyH_take (i := 1) (v := ?_) rfl (by kernel_rfl) (by kernel_rfl) (by kernel_rfl) (fun _ _ _ h => h) (Or.inl ⟨by rfl, ?_⟩) (by assumption) ?_
    rotate_left
    · (intro w hSw; (try dsimp only at hSw); go_simp; try with_reducible rfl)
    (try simp only [Act.put, List.getElem_toArray, List.getElem_cons_zero, List.getElem_cons_succ, List.setIfInBounds_toArray, List.set_cons_zero, List.set_cons_succ])
    refine wpAnyH_take (i := 2) (v := ?_) rfl (by kernel_rfl) (by kernel_rfl) (by kernel_rfl) (fun _ _ _ h => h) (Or.inl ⟨by rfl, ?_⟩) (by assumption) ?_
    rotate_left
    · (intro w hSw; (try dsimp only at hSw); go_simp; try with_reducible rfl)
    (try simp only [Act.put, List.getElem_toArray, List.getElem_cons_zero, List.getElem_cons_succ, List.setIfInBounds_toArray, List.set_cons_zero, List.set_cons_succ])
    refine wpAnyH_take (i := 3) (v := ?_) rfl (by kernel_rfl) (by kernel_rfl) (by kernel_rfl) (fun _ _ _ h => h) (Or.inl ⟨by rfl, ?_⟩) (by assumption) ?_
    rotate_left
    · (intro w hSw; (try dsimp only at hSw); go_simp; try with_reducible rfl)
    (try simp only [Act.put, List.getElem_toArray, List.getElem_cons_zero, List.getElem_cons_succ, List.setIfInBounds_toArray, List.set_cons_zero, List.set_cons_succ])
    refine wpAnyH_take (i := 4) (v := ?_) rfl (by kernel_rfl) (by kernel_rfl) (by kernel_rfl) (fun _ _ _ h => h) (Or.inl ⟨by rfl, ?_⟩) (by assumption) ?_
    rotate_left
    · (intro w hSw; (try dsimp only at hSw); go_simp; try with_reducible rfl)
    (try simp only [Act.put, List.getElem_toArray, List.getElem_cons_zero, List.getElem_cons_succ, List.setIfInBounds_toArray, List.set_cons_zero, List.set_cons_succ])
    refine wpAnyH_take (i := 5) (v := ?_) rfl (by kernel_rfl) (by kernel_rfl) (by kernel_rfl) (fun _ _ _ h => h) (Or.inl ⟨by rfl, ?_⟩) (by assumption) ?_
    rotate_left
    · (intro w hSw; (try dsimp only at hSw); go_simp; try with_reducible rfl)
    (try simp only [Act.put, List.getElem_toArray, List.getElem_cons_zero, List.getElem_cons_succ, List.setIfInBounds_toArray, List.set_cons_zero, List.set_cons_succ])
    refine wpAnyH_take (i := 6) (v := ?_) rfl (by kernel_rfl) (by kernel_rfl) (by kernel_rfl) (fun _ _ _ h => h) (Or.inl ⟨by rfl, ?_⟩) (by assumption) ?_
    rotate_left
    · (intro w hSw; (try dsimp only at hSw); go_simp; try with_reducible rfl)
    (try simp only [Act.put, List.getElem_toArray, List.getElem_cons_zero, List.getElem_cons_succ, List.setIfInBounds_toArray, List.set_cons_zero, List.set_cons_succ])
    refine wpAnyH_take (i := 8) (v := ?_) rfl (by kernel_rfl) (by kernel_rfl) (by kernel_rfl) (fun _ _ _ h => h) (Or.inl ⟨by rfl, ?_⟩) (by assumption) ?_
    rotate_left
    · (intro w hSw; (try dsimp only at hSw); go_simp; try with_reducible rfl)
    (try simp only [Act.put, List.getElem_toArray, List.getElem_cons_zero, List.getElem_cons_succ, List.setIfInBounds_toArray, List.set_cons_zero, List.set_cons_succ])
    refine wpAnyH_ready (rs := [7]) (by kernel_rfl) (by simp) ?_
    refine AllReadyH.cons rfl (fun K hK => ?_) AllReadyH.nil
    go_simp
    have hh : Hid (Fr WB _) := hHeld.2.2
    refine (bits_any _ 0 _ (isNat_zero _) (by rw [nlen_zero]; omega)).mono ?_
    rintro e wn ⟨rfl, fy⟩
    have fz := hide (hh.out.trans fy)
    rw [nlen_zero]
    clear fy
    clear hh
    (try go_wp2_with fail)
    refine hK.out _ _ ?_ (fun hHeld => ?_)
    · (try dsimp only)
      exact ⟨fr_cell fz.out c5, fr_cell fz.out c6, fz⟩
    clear hK K
    (try simp only [Act.put, List.getElem_toArray, List.getElem_cons_zero, List.getElem_cons_succ, List.setIfInBounds_toArray, List.set_cons_zero, List.set_cons_succ])
    refine wpAnyH_ready (rs := [9]) (by kernel_rfl) (by simp) ?_
    refine AllReadyH.cons rfl (fun K hK => ?_) AllReadyH.nil
    go_simp
    have hh : Hid (Fr WB _) := hHeld.2.2
    refine (bits_any _ 0 _ (isNat_zero _) (by rw [nlen_zero]; omega)).mono ?_
    rintro e wn ⟨rfl, fy⟩
    have fz := hide (hh.out.trans fy)
    rw [nlen_zero]
    clear fy
    clear hh
    (try go_wp2_with fail)
    refine hK.out _ _ ?_ (fun hHeld => ?_)
    · (try dsimp only)
      exact ⟨fr_cell fz.out c5, fr_cell fz.out c6, fz⟩
    clear hK K
    (try simp only [Act.put, List.getElem_toArray, List.getElem_cons_zero, List.getElem_cons_succ, List.setIfInBounds_toArray, List.set_cons_zero, List.set_cons_succ])
    refine wpAnyH_take (i := 10) (v := ?_) rfl (by kernel_rfl) (by kernel_rfl) (by kernel_rfl) (fun _ _ _ h => h) (Or.inl ⟨by rfl, ?_⟩) (by assumption) ?_
    rotate_left
    · (intro w hSw; (try dsimp only at hSw); go_simp; try with_reducible rfl)
    (try simp only [Act.put, List.getElem_toArray, List.getElem_cons_zero, List.getElem_cons_succ, List.setIfInBounds_toArray, List.set_cons_zero, List.set_cons_succ])
    refine wpAnyH_take (i := 11) (v := ?_) rfl (by kernel_rfl) (by kernel_rfl) (by kernel_rfl) (fun _ _ _ h => h) (Or.inl ⟨by rfl, ?_⟩) (by assumption) ?_
    rotate_left
    · (intro w hSw; (try dsimp only at hSw); go_simp; try with_reducible rfl)
    (try simp only [Act.put, List.getElem_toArray, List.getElem_cons_zero, List.getElem_cons_succ, List.setIfInBounds_toArray, List.set_cons_zero, List.set_cons_succ])
    refine wpAnyH_take (i := 12) (v := ?_) rfl (by kernel_rfl) (by kernel_rfl) (by kernel_rfl) (fun _ _ _ h => h) (Or.inl ⟨by rfl, ?_⟩) (by assumption) ?_
    rotate_left
    · (intro w hSw; (try dsimp only at hSw); go_simp; try with_reducible rfl)
    (try simp only [Act.put, List.getElem_toArray, List.getElem_cons_zero, List.getElem_cons_succ, List.setIfInBounds_toArray, List.set_cons_zero, List.set_cons_succ])
    refine wpAnyH_take (i := 13) (v := ?_) rfl (by kernel_rfl) (by kernel_rfl) (by kernel_rfl) (fun _ _ _ h => h) (Or.inl ⟨by rfl, ?_⟩) (by assumption) ?_
    rotate_left
    · (intro w hSw; (try dsimp only at hSw); go_simp; try with_reducible rfl)
    (try simp only [Act.put, List.getElem_toArray, List.getElem_cons_zero, List.getElem_cons_succ, List.setIfInBounds_toArray, List.set_cons_zero, List.set_cons_succ])
    refine wpAnyH_done (by kernel_rfl) ?_ _
    go_wp2_with fail
    go_ret
    exact ⟨rfl, F3.out.trans fz.out⟩
  · refine (div_yes _ _ x y _ HX.out HY.out (by omega) (by omega) hy0).mono ?_
    rintro e w3 ⟨aq, cq, ar, cr, rfl, ⟨iq, _, f3⟩, ⟨ir, _, _⟩⟩
    go_wp2_with fail
    obtain ⟨W, hW⟩ : ∃ W, W = (w3.alloc (Obj.cells #[Value.slice aq (nlen 4294967296 (x / y)) cq] 25)).alloc (Obj.cells #[Value.slice ar (nlen 4294967296 (x % y)) cr] 25) := ⟨_, rfl⟩
    have fW : Fr w3 W := by rw [hW]; exact (Fr.alloc _ _).trans (Fr.alloc _ _)
    have c5 : W.cell? ⟨w3.heap.size, 0, none⟩ = some (.slice aq (nlen 4294967296 (x / y)) cq) := by rw [hW]; simp [go_sem]
    have c6 : W.cell? ⟨w3.heap.size + 1, 0, none⟩ = some (.slice ar (nlen 4294967296 (x % y)) cr) := by rw [hW]; simp [go_sem]
    rw [← hW]
    clear hW
    have F3 := hide ((F2.out.trans f3).trans fW)
    have IQ := hide (IsNat.fr iq fW)
    have IR := hide (IsNat.fr ir fW)
    have nq : nlen 4294967296 (x / y) ≤ 12 := nl_div nx
    have nr : nlen 4294967296 (x % y) ≤ 12 := nl_mod nx
    have dq : nlen 10 (x / y) ≤ 120 := Nat.le_trans (nlen_mono ten2 (Nat.div_le_self x y)) dx
    have dr : nlen 10 (x % y) ≤ 120 := Nat.le_trans (nlen_mono ten2 (Nat.mod_le x y)) dx
    clear iq ir f3 fW
    refine (refMade_any x k0 cap0 a0 _ LX.out (by omega) (CX.out.fr F3.out)).mono ?_
    rintro e w4 ⟨v4, rfl, i4, f4⟩
    go_wp2_with fail
    refine (refMade_any y k1 cap1 a1 _ LY.out (by omega) (CY.out.fr (F3.out.trans f4))).mono ?_
    rintro e w5 ⟨v5, rfl, i5, f5⟩
    have I4 := hide (IsDec.fr i4 f5)
    have I5 := hide i5
    obtain ⟨a5, c5', rfl, _, _, _⟩ := i5
    have hl0 : ((nlen 10 y : Int) == 0) = false := by
      have h1 := nlen_pos ten2 hy0
      have h2 : nlen 10 y ≠ 0 := by omega
      simp [h2]
    have c5 := fr_cell (f4.trans f5) c5
    have c6 := fr_cell (f4.trans f5) c6
    have IQ := hide (IsNat.fr IQ.out (f4.trans f5))
    have IR := hide (IsNat.fr IR.out (f4.trans f5))
    have F3 := hide (F3.out.trans (f4.trans f5))
    clear f4 f5 i4 CX CY LX LY F2
    go_wp2_with fail
    refine (refDiv_any _ _ x y _ I4.out I5.out (by omega) (by omega) hy0).mono ?_
    rintro e w6 ⟨vq, vr, rfl, iq, ir, f6⟩
    have DQ := hide iq
    have DR := hide ir
    have c5 := fr_cell f6 c5
    have c6 := fr_cell f6 c6
    have IQ := hide (IsNat.fr IQ.out f6)
    have IR := hide (IsNat.fr IR.out f6)
    have F3 := hide (F3.out.trans f6)
    clear f6 iq ir I4 I5
    go_wp2_with fail
    refine (wakes_any _).mono ?_
    rintro e w7 ⟨rfl, f7⟩
    have c5 := fr_cell f7 c5
    go_wp2_with fail
    refine (ofLaw_any _ (x / y) _ (IsNat.fr IQ.out f7) (by omega)).mono ?_
    rintro e w8 ⟨v8, rfl, i8, f8⟩
    have I8 := hide i8
    clear i8
    go_wp2_with fail
    refine (refCmp_any _ _ (x / y) (x / y) _ I8.out (IsDec.fr DQ.out (f7.trans f8)) (by omega) (by omega)).mono ?_
    rintro e w9 ⟨rfl, f9⟩
    rw [show cmpZ (x / y) (x / y) = 0 by simp [cmpZ]]
    have f9 := (f7.trans f8).trans f9
    have c6 := fr_cell f9 c6
    go_wp2_with fail
    refine (ofLaw_any _ (x % y) _ (IsNat.fr IR.out f9) (by omega)).mono ?_
    rintro e w10 ⟨v10, rfl, i10, f10⟩
    have I10 := hide i10
    clear i10
    go_wp2_with fail
    refine (refCmp_any _ _ (x % y) (x % y) _ I10.out (IsDec.fr DR.out (f9.trans f10)) (by omega) (by omega)).mono ?_
    rintro e w11 ⟨rfl, f11⟩
    rw [show cmpZ (x % y) (x % y) = 0 by simp [cmpZ]]
    go_wp2_with fail
    go_ret
    exact ⟨rfl, F3.out.trans ((f9.trans f10).trans f11)⟩
end Go.Proofs.Ytblhpoahcglcbaa
