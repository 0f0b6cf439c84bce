/- The law TimesMul. -/
import Derived.Test.YtlkjajediboihaaTimesG
import Derived.Deep.RegionHeld3
namespace Go.Proofs.Ytlkjajediboihaa
set_option linter.unusedVariables false
set_option linter.unusedSimpArgs false
open Go.RowKit

attribute [local go_sem] World.cell?_alloc_some
def threeF (x y k j : Nat) : Nat := if j = 0 then x else if j = 1 then y else k
theorem all3 (x y k : Nat) (w : World) (a : Option Addr) (h : Nats w a 3 (threeF x y k)) (hx : nlen 4294967296 x ≤ 1000) (hy : nlen 4294967296 y ≤ 1000) (hk : nlen 4294967296 k ≤ 1000) :
    Calls Try.prog 16 #[.slice a 3 3] w fun e w' => ∃ a c, e = .returned (.agg #[.slice a (nlen 4294967296 (x * y * k)) c]) ∧ Res w w' a c (x * y * k) := by
  have e : prodN (threeF x y k) 3 = x * y * k := by
    show 1 * x * y * k = x * y * k
    rw [Nat.one_mul]
  have b1 : nlen 4294967296 (x * y) ≤ 2000 := nlen_mul b32 hx hy
  have b2 : nlen 4294967296 (x * y * k) ≤ 3000 := nlen_mul b32 b1 hk
  have := all_any a 3 3 (threeF x y k) w h (by omega) (fun j hj => by
    unfold threeF
    split
    · omega
    · split <;> omega) (fun j hj => by
    rcases j with _ | _ | _ | _ | j
    · show nlen 4294967296 1 ≤ _
      rw [nl1]; omega
    · show nlen 4294967296 (1 * x) ≤ _
      rw [Nat.one_mul]; omega
    · show nlen 4294967296 (1 * x * y) ≤ _
      rw [Nat.one_mul]; omega
    · rw [Nat.zero_add, e]; omega
    · omega)
  rwa [e] at this

set_option maxHeartbeats 4000000 in
theorem law_TimesMul (a0 : Option Addr) (len0 cap0 : Nat) (z0 : List Int) (a1 : Option Addr) (len1 cap1 : Nat) (z1 : List Int) (k : Int) (w : World) (h0 : IsRow .u32 w a0 len0 cap0 z0) (h1 : IsRow .u32 w a1 len1 cap1 z1) (h2 : (Lit.int .u32 k).wf = true) :
    Calls Try.prog 3 #[.slice a0 len0 cap0, .slice a1 len1 cap1, .int .u32 k] w fun e w' => e = .returned (.bool true) ∧ Fr w w' := by
  obtain ⟨n0, n1⟩ := u32_bd h2
  obtain ⟨kn, rfl⟩ : ∃ kn : Nat, k = kn := ⟨k.toNat, by omega⟩
  clear h2
  obtain ⟨k0, x, kx, _, lx, cx0, fewx, madex⟩ := came h0
  obtain ⟨k1, y, ky, _, ly, cy0, fewy, madey⟩ := came h1
  have FX := hide fewx
  have FY := hide fewy
  have MX := hide madex
  have MY := hide madey
  have CX := hide cx0
  have CY := hide cy0
  have LX := hide lx
  have LY := hide ly
  have nx : nlen 4294967296 x ≤ 15 := Nat.le_trans (nlen_le b32 lx) kx
  have ny : nlen 4294967296 y ≤ 15 := Nat.le_trans (nlen_le b32 ly) ky
  have nk : nlen 4294967296 kn ≤ 1 := nlen_le b32 (by omega)
  have dx : nlen 10 x ≤ 150 := Nat.le_trans (nl10 lx) (by omega)
  have dy : nlen 10 y ≤ 150 := Nat.le_trans (nl10 ly) (by omega)
  have dk : nlen 10 kn ≤ 10 := nlen_le ten2 (by omega)
  have b1 : nlen 4294967296 (x * y) ≤ 30 := nlen_mul b32 nx ny
  have b2 : nlen 4294967296 (x * y * kn) ≤ 31 := nlen_mul b32 b1 nk
  have d1 : nlen 10 (x * y) ≤ 300 := nlen_mul ten2 dx dy
  have d2 : nlen 10 (x * y * kn) ≤ 310 := nlen_mul ten2 d1 dk
  have B1 := hide b1
  have B2 := hide b2
  have D1 := hide d1
  have D2 := hide d2
  clear fewx fewy madex madey h0 h1 lx ly cx0 cy0 b1 b2 d1 d2
  go_enter Try.func3, Try.ntmps3
  go_wp2_with fail
  refine (FX.out _).mono ?_
  rintro e w' ⟨rfl, rfl⟩
  go_wp2_with fail
  refine (MX.out _ (Fr.refl _)).mono ?_
  rintro e w1 ⟨ax, cx, rfl, hx, _, f1⟩
  go_wp2_with fail
  refine (FY.out _).mono ?_
  rintro e w' ⟨rfl, rfl⟩
  go_wp2_with fail
  refine (MY.out _ f1).mono ?_
  rintro e w2 ⟨ay, cy, rfl, hy, _, f2⟩
  have HX := hide (hx.fr f2)
  have HY := hide hy
  have F2 := hide (f1.trans f2)
  clear MX MY hx hy f1 f2
  go_wp2_with fail
  obtain ⟨W0, hW⟩ : ∃ W0, W0 = (w2.alloc (Obj.cells #[Value.slice ax (nlen 4294967296 x) cx] 25)).alloc (Obj.cells #[Value.slice ay (nlen 4294967296 y) cy] 25) := ⟨_, rfl⟩
  have fW : Fr w2 W0 := by rw [hW]; exact (Fr.alloc _ _).trans (Fr.alloc _ _)
  have c7 : W0.cell? ⟨w2.heap.size, 0, none⟩ = some (.slice ax (nlen 4294967296 x) cx) := by rw [hW]; simp [go_sem]
  have c8 : W0.cell? ⟨w2.heap.size + 1, 0, none⟩ = some (.slice ay (nlen 4294967296 y) cy) := by rw [hW]; simp [go_sem]
  rw [← hW]
  clear hW
  refine (FX.out _).mono ?_
  rintro e w' ⟨rfl, rfl⟩
  have F3 := hide (F2.out.trans fW)
  go_wp2_with fail
  refine (refMade_any x k0 cap0 a0 _ LX.out (by omega) (CX.out.fr F3.out)).mono ?_
  rintro e w4 ⟨v4, rfl, i4, f4⟩
  go_wp2_with fail
  refine (FY.out _).mono ?_
  rintro e w' ⟨rfl, rfl⟩
  go_wp2_with fail
  refine (refMade_any y k1 cap1 a1 _ LY.out (by omega) (CY.out.fr (F3.out.trans f4))).mono ?_
  rintro e w5 ⟨v5, rfl, i5, f5⟩
  go_wp2_with fail
  refine (refMul_any _ _ _ _ _ (i4.fr f5) i5 (by omega) (by omega)).mono ?_
  rintro e w6 ⟨v6, rfl, i6, f6⟩
  go_wp2_with fail
  refine (refTimes_any _ _ kn _ i6 (by have := D1.out; omega) (by omega)).mono ?_
  rintro e W ⟨v7, rfl, i7, f7⟩
  have fA := ((f4.trans f5).trans f6).trans f7
  have HM := hide (i6.fr f7)
  have HT := hide i7
  have HX := hide (IsNat.fr HX.out (fW.trans fA))
  have HY := hide (IsNat.fr HY.out (fW.trans fA))
  have FW := hide (F3.out.trans fA)
  have c7 := fr_cell fA c7
  have c8 := fr_cell fA c8
  clear FX FY CX CY LX LY i4 i5 i6 i7 f4 f5 f6 f7 fA fW F2 F3
  go_wp2_with fail
  have hwr : IntKind.u64.wrap (kn : Int) = (kn : Int) := by rw [IntKind.wrap_u64]; omega
  refine wp_region_held_drew (S := (fun w' => w'.cell? ⟨w2.heap.size, 0, none⟩ = some (.slice ax (nlen 4294967296 x) cx) ∧ w'.cell? ⟨w2.heap.size + 1, 0, none⟩ = some (.slice ay (nlen 4294967296 y) cy) ∧ Hid (Fr W w'))) (by kernel_rfl) ?_ (fun hHeld => ?_)
  · exact ⟨c7, c8, Fr.drew _⟩
  refine wpAnyH_ready (rs := [0]) (by kernel_rfl) (by simp) ?_
  refine AllReadyH.cons rfl (fun K hK => ?_) AllReadyH.nil
  go_simp
  have hh := hHeld
  refine (wakes_any _).mono ?_
  rintro e wn ⟨rfl, fy⟩
  have fz := hide (hh.2.2.out.trans fy)
  clear fy
  clear hh
  (try go_wp2_with fail)
  refine hK.out _ _ ?_ (fun hHeld => ?_)
  · (try dsimp only)
    exact ⟨fr_cell fz.out c7, fr_cell fz.out c8, fz⟩
  clear hK K
  (try simp only [Act.put, List.getElem_toArray, List.getElem_cons_zero, List.getElem_cons_succ, List.setIfInBounds_toArray, List.set_cons_zero, List.set_cons_succ])
  refine wpAnyH_take (i := 1) (v := ?_) rfl (by kernel_rfl) (by kernel_rfl) (by kernel_rfl) (fun _ _ _ h => h) (Or.inl ⟨by rfl, ?_⟩) (by assumption) ?_
  rotate_left
  · (intro w hSw; (try dsimp only at hSw); go_simp; try with_reducible rfl)
  (try simp only [Act.put, List.getElem_toArray, List.getElem_cons_zero, List.getElem_cons_succ, List.setIfInBounds_toArray, List.set_cons_zero, List.set_cons_succ])
  refine wpAnyH_take (i := 2) (v := ?_) rfl (by kernel_rfl) (by kernel_rfl) (by kernel_rfl) (fun _ _ _ h => h) (Or.inl ⟨by rfl, ?_⟩) (by assumption) ?_
  rotate_left
  · (intro w hSw; (try dsimp only at hSw); go_simp; try with_reducible rfl)
  (try simp only [Act.put, List.getElem_toArray, List.getElem_cons_zero, List.getElem_cons_succ, List.setIfInBounds_toArray, List.set_cons_zero, List.set_cons_succ])
  refine wpAnyH_take (i := 3) (v := ?_) rfl (by kernel_rfl) (by kernel_rfl) (by kernel_rfl) (fun _ _ _ h => h) (Or.inl ⟨by rfl, ?_⟩) (by assumption) ?_
  rotate_left
  · (intro w hSw; (try dsimp only at hSw); go_simp; try with_reducible rfl)
  (try simp only [Act.put, List.getElem_toArray, List.getElem_cons_zero, List.getElem_cons_succ, List.setIfInBounds_toArray, List.set_cons_zero, List.set_cons_succ])
  refine wpAnyH_take (i := 6) (v := ?_) rfl (by kernel_rfl) (by kernel_rfl) (by kernel_rfl) (fun _ _ _ h => h) (Or.inl ⟨by rfl, ?_⟩) (by assumption) ?_
  rotate_left
  · (intro w hSw; (try dsimp only at hSw); go_simp; try with_reducible rfl)
  (try simp only [Act.put, List.getElem_toArray, List.getElem_cons_zero, List.getElem_cons_succ, List.setIfInBounds_toArray, List.set_cons_zero, List.set_cons_succ])
  refine wpAnyH_ready (rs := [4]) (by kernel_rfl) (by simp) ?_
  refine AllReadyH.cons rfl (fun K hK => ?_) AllReadyH.nil
  go_simp
  have hh := hHeld
  refine (mul_any _ _ x y _ (IsNat.fr HX.out hh.2.2.out) (IsNat.fr HY.out hh.2.2.out) (by omega) (by omega)).mono ?_
  rintro e wn ⟨a4, c4, rfl, i4, _, fy⟩
  have fz := hide (hh.2.2.out.trans fy)
  have I4 := hide i4; clear i4 fy
  clear hh
  (try go_wp2_with fail)
  refine hK.out _ _ ?_ (fun hHeld => ?_)
  · (try dsimp only)
    exact ⟨fr_cell fz.out c7, fr_cell fz.out c8, fz⟩
  clear hK K
  (try simp only [Act.put, List.getElem_toArray, List.getElem_cons_zero, List.getElem_cons_succ, List.setIfInBounds_toArray, List.set_cons_zero, List.set_cons_succ])
  refine wpAnyH_ready (rs := [5]) (by kernel_rfl) (by simp) ?_
  refine AllReadyH.cons rfl (fun K hK => ?_) AllReadyH.nil
  go_simp
  have hh := hHeld
  refine (ofLaw_any _ _ _ I4.out (by have := B1.out; omega)).mono ?_
  rintro e wn ⟨v5, rfl, i5, fy⟩
  have fz := hide (hh.2.2.out.trans fy)
  have I5 := hide i5; clear i5 fy I4
  clear hh
  (try go_wp2_with fail)
  refine hK.out _ _ ?_ (fun hHeld => ?_)
  · (try dsimp only)
    exact ⟨fr_cell fz.out c7, fr_cell fz.out c8, fz⟩
  clear hK K
  (try simp only [Act.put, List.getElem_toArray, List.getElem_cons_zero, List.getElem_cons_succ, List.setIfInBounds_toArray, List.set_cons_zero, List.set_cons_succ])
  refine wpAnyH_ready (rs := [7]) (by kernel_rfl) (by simp) ?_
  refine AllReadyH.cons rfl (fun K hK => ?_) AllReadyH.nil
  go_simp
  have hh := hHeld
  refine (refCmp_any _ _ _ _ _ I5.out (HM.out.fr hh.2.2.out) (by have := D1.out; omega) (by have := D1.out; omega)).mono ?_
  rintro e wn ⟨rfl, fy⟩
  have fz := hide (hh.2.2.out.trans fy)
  rw [show cmpZ (x * y) (x * y) = 0 by simp [cmpZ]]; clear fy I5
  clear hh
  (try go_wp2_with fail)
  refine hK.out _ _ ?_ (fun hHeld => ?_)
  · (try dsimp only)
    exact ⟨fr_cell fz.out c7, fr_cell fz.out c8, fz⟩
  clear hK K
  (try simp only [Act.put, List.getElem_toArray, List.getElem_cons_zero, List.getElem_cons_succ, List.setIfInBounds_toArray, List.set_cons_zero, List.set_cons_succ])
  refine wpAnyH_take (i := 8) (v := ?_) rfl (by kernel_rfl) (by kernel_rfl) (by kernel_rfl) (fun _ _ _ h => h) (Or.inl ⟨by rfl, ?_⟩) (by assumption) ?_
  rotate_left
  · (intro w hSw; (try dsimp only at hSw); go_simp; try with_reducible rfl)
  (try simp only [Act.put, List.getElem_toArray, List.getElem_cons_zero, List.getElem_cons_succ, List.setIfInBounds_toArray, List.set_cons_zero, List.set_cons_succ])
  refine wpAnyH_take (i := 9) (v := ?_) rfl (by kernel_rfl) (by kernel_rfl) (by kernel_rfl) (fun _ _ _ h => h) (Or.inl ⟨by rfl, ?_⟩) (by assumption) ?_
  rotate_left
  · (intro w hSw; (try dsimp only at hSw); go_simp; try with_reducible rfl)
  (try simp only [Act.put, List.getElem_toArray, List.getElem_cons_zero, List.getElem_cons_succ, List.setIfInBounds_toArray, List.set_cons_zero, List.set_cons_succ])
  refine wpAnyH_take (i := 10) (v := ?_) rfl (by kernel_rfl) (by kernel_rfl) (by kernel_rfl) (fun _ _ _ h => h) (Or.inl ⟨by rfl, ?_⟩) (by assumption) ?_
  rotate_left
  · (intro w hSw; (try dsimp only at hSw); go_simp; try with_reducible rfl)
  (try simp only [Act.put, List.getElem_toArray, List.getElem_cons_zero, List.getElem_cons_succ, List.setIfInBounds_toArray, List.set_cons_zero, List.set_cons_succ])
  refine wpAnyH_take (i := 11) (v := ?_) rfl (by kernel_rfl) (by kernel_rfl) (by kernel_rfl) (fun _ _ _ h => h) (Or.inl ⟨by rfl, ?_⟩) (by assumption) ?_
  rotate_left
  · (intro w hSw; (try dsimp only at hSw); go_simp; try with_reducible rfl)
  (try simp only [Act.put, List.getElem_toArray, List.getElem_cons_zero, List.getElem_cons_succ, List.setIfInBounds_toArray, List.set_cons_zero, List.set_cons_succ])
  refine wpAnyH_take (i := 12) (v := ?_) rfl (by kernel_rfl) (by kernel_rfl) (by kernel_rfl) (fun _ _ _ h => h) (Or.inl ⟨by rfl, ?_⟩) (by assumption) ?_
  rotate_left
  · (intro w hSw; (try dsimp only at hSw); go_simp; try with_reducible rfl)
  (try simp only [Act.put, List.getElem_toArray, List.getElem_cons_zero, List.getElem_cons_succ, List.setIfInBounds_toArray, List.set_cons_zero, List.set_cons_succ])
  refine wpAnyH_take (i := 13) (v := ?_) rfl (by kernel_rfl) (by kernel_rfl) (by kernel_rfl) (fun _ _ _ h => h) (Or.inl ⟨by rfl, ?_⟩) (by assumption) ?_
  rotate_left
  · (intro w hSw; (try dsimp only at hSw); go_simp; try with_reducible rfl)
  (try simp only [Act.put, List.getElem_toArray, List.getElem_cons_zero, List.getElem_cons_succ, List.setIfInBounds_toArray, List.set_cons_zero, List.set_cons_succ])
  refine wpAnyH_take (i := 14) (v := ?_) rfl (by kernel_rfl) (by kernel_rfl) (by kernel_rfl) (fun _ _ _ h => h) (Or.inl ⟨by rfl, ?_⟩) (by assumption) ?_
  rotate_left
  · (intro w hSw; (try dsimp only at hSw); go_simp; try with_reducible rfl)
  (try simp only [Act.put, List.getElem_toArray, List.getElem_cons_zero, List.getElem_cons_succ, List.setIfInBounds_toArray, List.set_cons_zero, List.set_cons_succ])
  refine wpAnyH_take (i := 19) (v := ?_) rfl (by kernel_rfl) (by kernel_rfl) (by kernel_rfl) (fun _ _ _ h => h) (Or.inl ⟨by rfl, ?_⟩) (by assumption) ?_
  rotate_left
  · (intro w hSw; (try dsimp only at hSw); go_simp; try with_reducible rfl)
  (try simp only [Act.put, List.getElem_toArray, List.getElem_cons_zero, List.getElem_cons_succ, List.setIfInBounds_toArray, List.set_cons_zero, List.set_cons_succ])
  refine wpAnyH_ready (rs := [15]) (by kernel_rfl) (by simp) ?_
  refine AllReadyH.cons rfl (fun K hK => ?_) AllReadyH.nil
  go_simp
  (try rw [hwr])
  have hh := hHeld
  refine (of_any kn _ (by omega)).mono ?_
  rintro e wn ⟨a6, c6, rfl, i6, _, fy⟩
  have fz := hide (hh.2.2.out.trans fy)
  have I6 := hide i6; clear i6 fy
  clear hh
  (try go_wp2_with fail)
  refine hK.out _ _ ?_ (fun hHeld => ?_)
  · (try dsimp only)
    exact ⟨fr_cell fz.out c7, fr_cell fz.out c8, fz⟩
  clear hK K
  (try simp only [Act.put, List.getElem_toArray, List.getElem_cons_zero, List.getElem_cons_succ, List.setIfInBounds_toArray, List.set_cons_zero, List.set_cons_succ])
  refine wpAnyH_ready (rs := [16]) (by kernel_rfl) (by simp) ?_
  refine AllReadyH.cons rfl (fun K hK => ?_) AllReadyH.nil
  go_simp
  have fz := hide (hHeld.2.2.out.trans (Fr.alloc _ (Obj.cells #[Value.slice ax (nlen 4294967296 x) cx, Value.slice ay (nlen 4294967296 y) cy, Value.slice a6 (nlen 4294967296 kn) c6] 25)))
  have NN := hide (nats3 (w := wn) wn.heap.size rfl (f := threeF x y kn) (a0 := ax) (c0 := cx) (a1 := ay) (c1 := cy) (a2 := a6) (c2 := c6) (IsNat.fr HX.out hHeld.2.2.out) (IsNat.fr HY.out hHeld.2.2.out) I6.out)
  clear I6
  (try go_wp2_with fail)
  refine hK.out _ _ ?_ (fun hHeld => ?_)
  · (try dsimp only)
    exact ⟨fr_cell fz.out c7, fr_cell fz.out c8, fz⟩
  clear hK K
  (try simp only [Act.put, List.getElem_toArray, List.getElem_cons_zero, List.getElem_cons_succ, List.setIfInBounds_toArray, List.set_cons_zero, List.set_cons_succ])
  refine wpAnyH_ready (rs := [17]) (by kernel_rfl) (by simp) ?_
  refine AllReadyH.cons rfl (fun K hK => ?_) AllReadyH.nil
  go_simp
  have hh := hHeld
  refine (all3 x y kn _ _ NN.out (by omega) (by omega) (by omega)).mono ?_
  rintro e wn ⟨a7, e7, rfl, i7, _, fy⟩
  have fz := hide (hh.2.2.out.trans fy)
  have I7 := hide i7; clear i7 fy NN
  clear hh
  (try go_wp2_with fail)
  refine hK.out _ _ ?_ (fun hHeld => ?_)
  · (try dsimp only)
    exact ⟨fr_cell fz.out c7, fr_cell fz.out c8, fz⟩
  clear hK K
  (try simp only [Act.put, List.getElem_toArray, List.getElem_cons_zero, List.getElem_cons_succ, List.setIfInBounds_toArray, List.set_cons_zero, List.set_cons_succ])
  refine wpAnyH_ready (rs := [18]) (by kernel_rfl) (by simp) ?_
  refine AllReadyH.cons rfl (fun K hK => ?_) AllReadyH.nil
  go_simp
  have hh := hHeld
  refine (ofLaw_any _ _ _ I7.out (by have := B2.out; omega)).mono ?_
  rintro e wn ⟨v8, rfl, i8, fy⟩
  have fz := hide (hh.2.2.out.trans fy)
  have I8 := hide i8; clear i8 fy I7
  clear hh
  (try go_wp2_with fail)
  refine hK.out _ _ ?_ (fun hHeld => ?_)
  · (try dsimp only)
    exact ⟨fr_cell fz.out c7, fr_cell fz.out c8, fz⟩
  clear hK K
  (try simp only [Act.put, List.getElem_toArray, List.getElem_cons_zero, List.getElem_cons_succ, List.setIfInBounds_toArray, List.set_cons_zero, List.set_cons_succ])
  refine wpAnyH_ready (rs := [20]) (by kernel_rfl) (by simp) ?_
  refine AllReadyH.cons rfl (fun K hK => ?_) AllReadyH.nil
  go_simp
  have hh := hHeld
  refine (refCmp_any _ _ _ _ _ I8.out (HT.out.fr hh.2.2.out) (by have := D2.out; omega) (by have := D2.out; omega)).mono ?_
  rintro e wn ⟨rfl, fy⟩
  have fz := hide (hh.2.2.out.trans fy)
  rw [show cmpZ (x * y * kn) (x * y * kn) = 0 by simp [cmpZ]]; clear fy I8
  clear hh
  (try go_wp2_with fail)
  refine hK.out _ _ ?_ (fun hHeld => ?_)
  · (try dsimp only)
    exact ⟨fr_cell fz.out c7, fr_cell fz.out c8, fz⟩
  clear hK K
  (try simp only [Act.put, List.getElem_toArray, List.getElem_cons_zero, List.getElem_cons_succ, List.setIfInBounds_toArray, List.set_cons_zero, List.set_cons_succ])
  refine wpAnyH_take (i := 21) (v := ?_) rfl (by kernel_rfl) (by kernel_rfl) (by kernel_rfl) (fun _ _ _ h => h) (Or.inl ⟨by rfl, ?_⟩) (by assumption) ?_
  rotate_left
  · (intro w hSw; (try dsimp only at hSw); go_simp; try with_reducible rfl)
  (try simp only [Act.put, List.getElem_toArray, List.getElem_cons_zero, List.getElem_cons_succ, List.setIfInBounds_toArray, List.set_cons_zero, List.set_cons_succ])
  refine wpAnyH_take (i := 22) (v := ?_) rfl (by kernel_rfl) (by kernel_rfl) (by kernel_rfl) (fun _ _ _ h => h) (Or.inl ⟨by rfl, ?_⟩) (by assumption) ?_
  rotate_left
  · (intro w hSw; (try dsimp only at hSw); go_simp; try with_reducible rfl)
  (try simp only [Act.put, List.getElem_toArray, List.getElem_cons_zero, List.getElem_cons_succ, List.setIfInBounds_toArray, List.set_cons_zero, List.set_cons_succ])
  refine wpAnyH_take (i := 23) (v := ?_) rfl (by kernel_rfl) (by kernel_rfl) (by kernel_rfl) (fun _ _ _ h => h) (Or.inl ⟨by rfl, ?_⟩) (by assumption) ?_
  rotate_left
  · (intro w hSw; (try dsimp only at hSw); go_simp; try with_reducible rfl)
  (try simp only [Act.put, List.getElem_toArray, List.getElem_cons_zero, List.getElem_cons_succ, List.setIfInBounds_toArray, List.set_cons_zero, List.set_cons_succ])
  refine wpAnyH_done (by kernel_rfl) ?_ _
  go_wp2_with fail
  go_ret
  exact ⟨rfl, FW.out.trans fz.out⟩
end Go.Proofs.Ytlkjajediboihaa
