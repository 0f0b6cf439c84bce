/- The law NatAdds. -/
import Derived.Test.YtgimfepllijkjaaNatO
namespace Go.Proofs.Ytgimfepllijkjaa
set_option linter.unusedVariables false
set_option linter.unusedSimpArgs false
open Go.RowKit
attribute [local go_sem] World.cell?_alloc_some

theorem tri (x y : Nat) : (cmpZ x y = 1 ∧ cmpZ y x = -1 ∧ y ≤ x) ∨ (cmpZ x y = 0 ∧ cmpZ y x = 0 ∧ y ≤ x) ∨ (cmpZ x y = -1 ∧ cmpZ y x = 1 ∧ x < y) := by
  unfold cmpZ
  rcases Nat.lt_trichotomy x y with h | h | h
  · right; right; rw [if_pos h, if_neg (by omega), if_neg (by omega)]; exact ⟨rfl, rfl, h⟩
  · right; left; rw [if_neg (by omega), if_pos h, if_neg (by omega), if_pos h.symm]; exact ⟨rfl, rfl, by omega⟩
  · left; rw [if_neg (by omega), if_neg (by omega), if_pos h]; exact ⟨rfl, rfl, by omega⟩

set_option maxHeartbeats 4000000 in
theorem law_NatAdds (a0 : Option Addr) (len0 cap0 : Nat) (z0 : List Int) (a1 : Option Addr) (len1 cap1 : Nat) (z1 : List Int) (w : World) (h0 : IsRow .u32 w a0 len0 cap0 z0) (h1 : IsRow .u32 w a1 len1 cap1 z1) :
    Calls Try.prog 4 #[.slice a0 len0 cap0, .slice a1 len1 cap1] w fun e w' => e = .returned (.bool true) ∧ Fr w w' := by
  obtain ⟨k0, x, kx, _, lx, csx, fewx, madex⟩ := came h0
  obtain ⟨k1, y, ky, _, ly, csy, fewy, madey⟩ := came h1
  have FX := hide fewx
  have FY := hide fewy
  have MX := hide madex
  have MY := hide madey
  have nx : nlen 4294967296 x ≤ 30 := Nat.le_trans (nlen_le b32 lx) kx
  have ny : nlen 4294967296 y ≤ 30 := Nat.le_trans (nlen_le b32 ly) ky
  have s1 : nlen 4294967296 (x + y) ≤ 101 := nl_add (by omega) (by omega)
  have s2 : nlen 4294967296 (x - y) ≤ 30 := Nat.le_trans (nlen_mono b32 (Nat.sub_le x y)) nx
  have dx : nlen 10 x ≤ 300 := Nat.le_trans (nl10 lx) (by omega)
  have dy : nlen 10 y ≤ 300 := Nat.le_trans (nl10 ly) (by omega)
  have ds : nlen 10 (x + y) ≤ 1010 := Nat.le_trans (nl10 (lt_of_nlen b32 s1)) (by omega)
  have dd : nlen 10 (x - y) ≤ 300 := Nat.le_trans (nlen_mono ten2 (Nat.sub_le x y)) dx
  have RX := hide (fun wz (f : Fr w wz) => refMade_any x k0 cap0 a0 wz lx (by omega) (csx.fr f))
  have RY := hide (fun wz (f : Fr w wz) => refMade_any y k1 cap1 a1 wz ly (by omega) (csy.fr f))
  clear fewx fewy madex madey h0 h1 lx ly csx csy
  go_enter Try.func4, Try.ntmps4
  go_wp2_with fail
  refine (FX.out _).mono ?_
  rintro e w' ⟨rfl, rfl⟩
  go_wp2_with fail
  refine (FY.out _).mono ?_
  rintro e w' ⟨rfl, rfl⟩
  go_wp2_with fail
  refine (MX.out _ (Fr.refl _)).mono ?_
  rintro e w1 ⟨ax, cx, rfl, hx, _, f1⟩
  go_wp2_with fail
  refine (MY.out _ f1).mono ?_
  rintro e w2 ⟨ay, cy, rfl, hy, _, f2⟩
  have F2 := f1.trans f2
  go_wp2_with fail
  have fA := (Fr.alloc w2 (Obj.cells #[Value.slice ax (nlen 4294967296 x) cx] 26)).trans (Fr.alloc _ (Obj.cells #[Value.slice ay (nlen 4294967296 y) cy] 26))
  refine (RX.out _ (F2.trans fA)).mono ?_
  rintro e w3 ⟨v3, rfl, h3, f3⟩
  have c5 : w3.cell? ⟨w2.heap.size, 0, none⟩ = some (.slice ax (nlen 4294967296 x) cx) := fr_cell f3 (by simp [go_sem])
  have c6 : w3.cell? ⟨w2.heap.size + 1, 0, none⟩ = some (.slice ay (nlen 4294967296 y) cy) := fr_cell f3 (by simp [go_sem])
  have F3 := (F2.trans fA).trans f3
  have NX := hide (((hx.fr f2).fr fA).fr f3)
  have NY := hide ((hy.fr fA).fr f3)
  have DX := hide h3
  clear f1 f2 fA F2 f3 h3 hx hy FX FY MX MY RX
  go_wp2_with fail
  refine (RY.out _ F3).mono ?_
  rintro e w4 ⟨v4, rfl, h4, f4⟩
  have c5 := fr_cell f4 c5
  have c6 := fr_cell f4 c6
  have F4 := F3.trans f4
  have NX := hide (NX.out.fr f4)
  have NY := hide (NY.out.fr f4)
  have DX := hide (DX.out.fr f4)
  have DY := hide h4
  clear f4 h4 F3 RY
  go_wp2_with fail
  refine (refCmp_any _ _ x y _ DX.out DY.out (by omega) (by omega)).mono ?_
  rintro e w5 ⟨rfl, f5⟩
  have c5 := fr_cell f5 c5
  have c6 := fr_cell f5 c6
  have F5 := F4.trans f5
  have NX := hide (NX.out.fr f5)
  have NY := hide (NY.out.fr f5)
  have DX := hide (DX.out.fr f5)
  have DY := hide (DY.out.fr f5)
  clear f5 F4
  go_wp2_with fail
  refine (sub_any _ _ x y _ NX.out NY.out (by omega) (by omega)).mono ?_
  rintro e w6 ⟨ad, cd, rfl, hd, _, f6⟩
  have c5 := fr_cell f6 c5
  have c6 := fr_cell f6 c6
  have F6 := F5.trans f6
  have NX := hide (NX.out.fr f6)
  have NY := hide (NY.out.fr f6)
  have DX := hide (DX.out.fr f6)
  have DY := hide (DY.out.fr f6)
  have ND := hide hd
  clear f6 F5 hd
  rcases tri x y with ⟨q1, q2, q3⟩ | ⟨q1, q2, q3⟩ | ⟨q1, q2, q3⟩
  all_goals (
    first | rw [decide_eq_true q3] | rw [decide_eq_false (by omega)]
    rw [q1]
    have Q1 := hide q1
    have Q2 := hide q2
    clear q1 q2
    go_wp2_with fail
    have fB := Fr.alloc w6 (Obj.cells #[Value.slice ad (nlen 4294967296 (x - y)) cd] 26)
    refine (cmp_any _ _ x y _ (NX.out.fr fB) (NY.out.fr fB) (by omega) (by omega)).mono ?_
    rintro e w7 ⟨rfl, f7⟩
    rw [Q1.out]
    have fC := fB.trans f7
    have c5 := fr_cell fC c5
    have c6 := fr_cell fC c6
    have c10 : w7.cell? ⟨w6.heap.size, 0, none⟩ = some (.slice ad (nlen 4294967296 (x - y)) cd) := fr_cell f7 (by simp [go_sem])
    have F7 := F6.trans fC
    have NX := hide (NX.out.fr fC)
    have NY := hide (NY.out.fr fC)
    have DX := hide (DX.out.fr fC)
    have DY := hide (DY.out.fr fC)
    have ND := hide (ND.out.fr fC)
    clear fB f7 fC F6
    go_wp2_with fail
    refine (cmp_any _ _ y x _ NY.out NX.out (by omega) (by omega)).mono ?_
    rintro e w8 ⟨rfl, f8⟩
    rw [Q2.out]
    have c5 := fr_cell f8 c5
    have c6 := fr_cell f8 c6
    have c10 := fr_cell f8 c10
    have F8 := F7.trans f8
    have NX := hide (NX.out.fr f8)
    have NY := hide (NY.out.fr f8)
    have DX := hide (DX.out.fr f8)
    have DY := hide (DY.out.fr f8)
    have ND := hide (ND.out.fr f8)
    clear f8 F7)
  rotate_right
  · have e0 : nlen 4294967296 (x - y) = 0 := by rw [show x - y = 0 by omega, nlen_zero]
    have E0 := hide e0
    clear e0
    go_wp2_with fail
    refine (limbs_any _ (x - y) _ ND.out (by omega)).mono ?_
    rintro e w9 ⟨v9, rfl, hown, f9⟩
    rw [E0.out] at hown
    obtain ⟨a9, c9, rfl, _, _, _⟩ := own_form hown
    have c5 := fr_cell f9 c5
    have c6 := fr_cell f9 c6
    have F9 := F8.trans f9
    have NX := hide (NX.out.fr f9)
    have NY := hide (NY.out.fr f9)
    have DX := hide (DX.out.fr f9)
    have DY := hide (DY.out.fr f9)
    clear f9 F8 hown ND c10
    go_wp2_with fail
    refine (wakes_any _).mono ?_
    rintro e w10 ⟨rfl, f10⟩
    have c5 := fr_cell f10 c5
    have c6 := fr_cell f10 c6
    have F10 := F9.trans f10
    have NX := hide (NX.out.fr f10)
    have NY := hide (NY.out.fr f10)
    have DX := hide (DX.out.fr f10)
    have DY := hide (DY.out.fr f10)
    clear f10 F9
    go_wp2_with fail
    refine (add_any _ _ x y _ NX.out NY.out (by omega) (by omega)).mono ?_
    rintro e w11 ⟨a11, c11, rfl, h11, _, f11⟩
    go_wp2_with fail
    refine (ofLaw_any _ (x + y) _ h11 (by omega)).mono ?_
    rintro e w12 ⟨v12, rfl, h12, f12⟩
    have fD := f11.trans f12
    go_wp2_with fail
    refine (refAdd_any _ _ x y _ (DX.out.fr fD) (DY.out.fr fD) (by omega) (by omega)).mono ?_
    rintro e w13 ⟨v13, rfl, h13, f13⟩
    go_wp2_with fail
    refine (same_any _ _ (x + y) (x + y) _ (h12.fr f13) h13 (by omega) (by omega)).mono ?_
    rintro e w14 ⟨rfl, f14⟩
    rw [decide_eq_true rfl]
    go_wp2_with fail
    go_ret
    exact ⟨rfl, ((F10.trans fD).trans f13).trans f14⟩
  all_goals (
    go_wp2_with fail
    refine (wakes_any _).mono ?_
    rintro e w10 ⟨rfl, f10⟩
    have c5 := fr_cell f10 c5
    have c6 := fr_cell f10 c6
    have c10 := fr_cell f10 c10
    have F10 := F8.trans f10
    have NX := hide (NX.out.fr f10)
    have NY := hide (NY.out.fr f10)
    have DX := hide (DX.out.fr f10)
    have DY := hide (DY.out.fr f10)
    have ND := hide (ND.out.fr f10)
    clear f10 F8
    go_wp2_with fail
    refine (add_any _ _ x y _ NX.out NY.out (by omega) (by omega)).mono ?_
    rintro e w11 ⟨a11, c11, rfl, h11, _, f11⟩
    go_wp2_with fail
    refine (ofLaw_any _ (x + y) _ h11 (by omega)).mono ?_
    rintro e w12 ⟨v12, rfl, h12, f12⟩
    have fD := f11.trans f12
    go_wp2_with fail
    refine (refAdd_any _ _ x y _ (DX.out.fr fD) (DY.out.fr fD) (by omega) (by omega)).mono ?_
    rintro e w13 ⟨v13, rfl, h13, f13⟩
    go_wp2_with fail
    refine (same_any _ _ (x + y) (x + y) _ (h12.fr f13) h13 (by omega) (by omega)).mono ?_
    rintro e w14 ⟨rfl, f14⟩
    rw [decide_eq_true rfl]
    have fE := (fD.trans f13).trans f14
    have c10 := fr_cell fE c10
    have F14 := F10.trans fE
    have DX := hide (DX.out.fr fE)
    have DY := hide (DY.out.fr fE)
    have ND := hide (ND.out.fr fE)
    clear f11 h11 f12 h12 fD f13 h13 f14 fE F10 c5 c6 NX NY
    go_wp2_with fail
    refine (ofLaw_any _ (x - y) _ ND.out (by omega)).mono ?_
    rintro e w15 ⟨v15, rfl, h15, f15⟩
    go_wp2_with fail
    refine (refSub_any _ _ x y _ (DX.out.fr f15) (DY.out.fr f15) (by omega) (by omega) q3).mono ?_
    rintro e w16 ⟨v16, rfl, h16, f16⟩
    go_wp2_with fail
    refine (same_any _ _ (x - y) (x - y) _ (h15.fr f16) h16 (by omega) (by omega)).mono ?_
    rintro e w17 ⟨rfl, f17⟩
    rw [decide_eq_true rfl]
    go_wp2_with fail
    go_ret
    exact ⟨rfl, ((F14.trans f15).trans f16).trans f17⟩)
end Go.Proofs.Ytgimfepllijkjaa
