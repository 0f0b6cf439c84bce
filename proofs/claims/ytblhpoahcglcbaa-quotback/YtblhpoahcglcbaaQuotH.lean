/- The law QuotBack. -/
import Derived.Test.YtblhpoahcglcbaaQuotG
import Derived.Test.YtblhpoahcglcbaaRegions
import Derived.Deep.RegionHeld3
import Derived.Deep.DeepCutAuto
namespace Go.Proofs.Ytblhpoahcglcbaa
set_option linter.unusedVariables false
set_option linter.unusedSimpArgs false
open Go.RowKit

attribute [local go_sem] World.cell?_alloc_some
set_option maxHeartbeats 4000000 in
theorem law_QuotBack (a0 : Option Addr) (len0 cap0 : Nat) (z0 : List Int) (a1 : Option Addr) (len1 cap1 : Nat) (z1 : List Int) (a2 : Option Addr) (len2 cap2 : Nat) (z2 : List Int) (w : World) (h0 : IsRow .u32 w a0 len0 cap0 z0) (h1 : IsRow .u32 w a1 len1 cap1 z1) (h2 : IsRow .u32 w a2 len2 cap2 z2) :
    Calls Try.prog 4 #[.slice a0 len0 cap0, .slice a1 len1 cap1, .slice a2 len2 cap2] w fun e w' => e = .returned (.bool true) ∧ Fr w w' := by
  obtain ⟨k0, x, kx, _, lx, _, fewx, madex⟩ := came 20 (by omega) h0
  obtain ⟨k1, y, ky, _, ly, _, fewy, madey⟩ := came 20 (by omega) h1
  obtain ⟨k2, z, kz, _, lz, _, fewz, madez⟩ := came 20 (by omega) h2
  have FX := hide fewx
  have FY := hide fewy
  have FZ := hide fewz
  have MX := hide madex
  have MY := hide madey
  have MZ := hide madez
  have nx : nlen 4294967296 x ≤ 20 := Nat.le_trans (nlen_le b32 lx) kx
  have ny : nlen 4294967296 y ≤ 20 := Nat.le_trans (nlen_le b32 ly) ky
  have nz : nlen 4294967296 z ≤ 20 := Nat.le_trans (nlen_le b32 lz) kz
  clear fewx fewy fewz madex madey madez h0 h1 h2 lx ly lz
  go_enter Try.func4, Try.ntmps4
  go_wp2_with fail
  refine (FX.out _).mono ?_
  rintro e w' ⟨rfl, rfl⟩
  go_wp2_with fail
  refine (MX.out _ (Fr.refl _)).mono ?_
  rintro e w1 ⟨ax, cx, rfl, hx, _, f1⟩
  go_wp2_with fail
  refine (FY.out _).mono ?_
  rintro e w' ⟨rfl, rfl⟩
  go_wp2_with fail
  refine (MY.out _ f1).mono ?_
  rintro e w2 ⟨ay, cy, rfl, hy, _, f2⟩
  go_wp2_with fail
  refine (FZ.out _).mono ?_
  rintro e w' ⟨rfl, rfl⟩
  go_wp2_with fail
  refine (MZ.out _ (f1.trans f2)).mono ?_
  rintro e w3 ⟨az, cz, rfl, hz, lz, f3⟩
  have HX := hide ((hx.fr f2).fr f3)
  have HY := hide (hy.fr f3)
  have HZ := hide hz
  have HX3 := HX
  have HY3 := HY
  have F3 := hide ((f1.trans f2).trans f3)
  clear MX MY MZ FX FY FZ hx hy hz f1 f2 f3 lz
  go_wp2_with fail
  obtain ⟨W, hW⟩ : ∃ W, W = ((w3.alloc (Obj.cells #[Value.slice ax (nlen 4294967296 x) cx] 25)).alloc (Obj.cells #[Value.slice ay (nlen 4294967296 y) cy] 25)).alloc (Obj.cells #[Value.slice az (nlen 4294967296 z) cz] 25) := ⟨_, rfl⟩
  have fW : Fr w3 W := by rw [hW]; exact ((Fr.alloc _ _).trans (Fr.alloc _ _)).trans (Fr.alloc _ _)
  have c7 : W.cell? ⟨w3.heap.size, 0, none⟩ = some (.slice ax (nlen 4294967296 x) cx) := by rw [hW]; simp [go_sem]
  have c8 : W.cell? ⟨w3.heap.size + 1, 0, none⟩ = some (.slice ay (nlen 4294967296 y) cy) := by rw [hW]; simp [go_sem]
  have c9 : W.cell? ⟨w3.heap.size + 1 + 1, 0, none⟩ = some (.slice az (nlen 4294967296 z) cz) := by rw [hW]; simp [go_sem]
  have z9 : W.frozen? ⟨w3.heap.size + 1 + 1, 0, none⟩ = false := by rw [hW]; simp [go_sem]
  rw [← hW]
  clear hW
  refine (div_no _ _ x _ (IsNat.fr HX.out fW) (isNat_zero _)).mono ?_
  rintro e w4 ⟨rfl, f4⟩
  have c7 := fr_cell f4 c7
  have c8 := fr_cell f4 c8
  have z9 := fr_free f4 c9 z9
  have c9 := fr_cell f4 c9
  have f4 := fW.trans f4
  have HX := hide (IsNat.fr HX.out f4)
  have HY := hide (IsNat.fr HY.out f4)
  have HZ := hide (IsNat.fr HZ.out f4)
  have F4 := hide f4
  clear f4 fW
  go_wp2_with fail
  have fa : Fr w4 ((w4.alloc (Obj.cells #[Value.slice none 0 0] 25)).alloc (Obj.cells #[Value.slice none 0 0] 25)) := (Fr.alloc _ _).trans (Fr.alloc _ _)
  refine (bits_any _ y _ (IsNat.fr HY.out fa) (by omega)).mono ?_
  rintro e w5 ⟨rfl, f5⟩
  have f5 := fa.trans f5
  have hs4 := cell_lt c9
  have c7 := fr_cell f5 c7
  have c8 := fr_cell f5 c8
  have z9 := fr_free f5 c9 z9
  have c9 := fr_cell f5 c9
  have HX := hide (IsNat.fr HX.out f5)
  have HY := hide (IsNat.fr HY.out f5)
  have HZ := hide (IsNat.fr HZ.out f5)
  have F5 := hide (F4.out.trans f5)
  clear f5 fa F4
  by_cases hy0 : y = 0
  · subst hy0
    rw [nlen_zero]
    go_wp2_with fail
    refine (wakes_any _).mono ?_
    rintro e w6 ⟨rfl, f6⟩
    go_wp2_with fail
    go_ret
    exact ⟨rfl, (F3.out.trans F5.out).trans f6⟩
  · have hb0 : ((nlen 2 y : Int) == 0) = false := by
      have := nlen_pos (B := 2) (by omega) hy0
      have h : nlen 2 y ≠ 0 := by omega
      simp [h]
    obtain ⟨N, hN⟩ : ∃ N, nlen 2 y = N := ⟨_, rfl⟩
    rw [hN] at hb0
    rw [hN]
    clear hN
    go_wp2_with fail
    refine (cmp_any _ _ z y _ HZ.out HY.out (by omega) (by omega)).mono ?_
    rintro e w6 ⟨rfl, f6⟩
    have c7 := fr_cell f6 c7
    have c8 := fr_cell f6 c8
    have z9 := fr_free f6 c9 z9
    have c9 := fr_cell f6 c9
    have HZ := hide (IsNat.fr HZ.out f6)
    have F6 := hide (F5.out.trans f6)
    clear f6 F5
    go_upto_if 46 with fail
    go_cut [15] (fun s15 wx => ∃ r ar cr, s15 = undef ∧ r < y ∧ nlen 4294967296 r ≤ 20 ∧ wx.cell? ⟨w3.heap.size, 0, none⟩ = some (.slice ax (nlen 4294967296 x) cx) ∧ wx.cell? ⟨w3.heap.size + 1, 0, none⟩ = some (.slice ay (nlen 4294967296 y) cy) ∧ wx.cell? ⟨w3.heap.size + 1 + 1, 0, none⟩ = some (.slice ar (nlen 4294967296 r) cr) ∧ Hid (IsNat wx (.agg #[.slice ar (nlen 4294967296 r) cr]) r) ∧ Hid (Fr w3 wx))
    case first =>
      by_cases hzy : z < y
      · have hcz : cmpZ z y = -1 := by unfold cmpZ; rw [if_pos hzy]
        rw [hcz]
        clear hcz
        go_wp2_with fail
        go_meet
        exact ⟨z, az, cz, rfl, hzy, nz, c7, c8, c9, HZ, F6⟩
      · have hcz : 0 ≤ cmpZ z y := by unfold cmpZ; rw [if_neg hzy]; split <;> omega
        generalize cmpZ z y = cv at *
        go_wp2_with fail
        go_meet
        refine ⟨0, none, 0, rfl, by omega, by rw [nlen_zero]; omega, ?_, ?_, ?_, ?_, ?_⟩
        · exact (World.cell?_setCell_other _ _ _ _ (fun h => by injection h with h1 h2 h3; omega)).trans c7
        · exact (World.cell?_setCell_other _ _ _ _ (fun h => by injection h with h1 h2 h3; omega)).trans c8
        · rw [nlen_zero]; exact World.cell?_setCell_same _ _ _ c9
        · rw [nlen_zero]; exact isNat_zero _
        · exact Below.setCell F6.out (by simp; omega) _
    case rest =>
      obtain ⟨r, ar, cr, rfl, hry, nr, c7, c8, c9, HR, FW⟩ := hcut
      have HX := hide (IsNat.fr HX3.out FW.out)
      have HY := hide (IsNat.fr HY3.out FW.out)
      clear HX3 HY3 HZ F6
      go_wp2_with fail
      have hd : (x * y + r) / y = x := by rw [Nat.mul_comm, Nat.mul_add_div (by omega), Nat.div_eq_of_lt hry, Nat.add_zero]
      have hm : (x * y + r) % y = r := by rw [Nat.mul_comm, Nat.mul_add_mod, Nat.mod_eq_of_lt hry]
      have nxy : nlen 4294967296 (x * y) ≤ 40 := nlen_mul b32 nx ny
      have nxr : nlen 4294967296 (x * y + r) ≤ 41 := nl_sum nxy (by omega)
      have HD := hide hd
      have HM := hide hm
      clear hd hm
      refine wp_region_named (S := (fun w' => w'.cell? ⟨w3.heap.size, 0, none⟩ = some (.slice ax (nlen 4294967296 x) cx) ∧ w'.cell? ⟨w3.heap.size + 1, 0, none⟩ = some (.slice ay (nlen 4294967296 y) cy) ∧ w'.cell? ⟨w3.heap.size + 1 + 1, 0, none⟩ = some (.slice ar (nlen 4294967296 r) cr) ∧ Hid (Fr wc w'))) (by kernel_rfl) (fun _ _ d _ _ h => by cases d <;> exact h) ?_ ?_
      · exact ⟨c7, c8, c9, Fr.drew _⟩
      intro ops hops Q hQ a0 ha0 HPan hHeld0
      have N3_01 : Hid (∀ (am : Option Addr) (cm : Nat) (au : Option Addr) (cu : Nat) (aq : Option Addr) (cq : Nat) (ae : Option Addr) (ce : Nat) (b0 : Nat) (b1 : Nat) (wv : World), (fun w' => w'.cell? ⟨w3.heap.size, 0, none⟩ = some (.slice ax (nlen 4294967296 x) cx) ∧ w'.cell? ⟨w3.heap.size + 1, 0, none⟩ = some (.slice ay (nlen 4294967296 y) cy) ∧ w'.cell? ⟨w3.heap.size + 1 + 1, 0, none⟩ = some (.slice ar (nlen 4294967296 r) cr) ∧ Hid (Fr wc w')) wv → (IQ : Hid (IsNat wv (.agg #[.slice aq (nlen 4294967296 (x)) cq]) x)) → (IE : Hid (IsNat wv (.agg #[.slice ae (nlen 4294967296 (r)) ce]) r)) → (Oaq_0 : Off aq (nlen 4294967296 x) b0) → (Oaq_1 : Off aq (nlen 4294967296 x) b1) → (Oae_0 : Off ae (nlen 4294967296 r) b0) → (Oae_1 : Off ae (nlen 4294967296 r) b1) → (V0 : Hid (Var wc wv b0)) → (V1 : Hid (Var wc wv b1)) → (D01 : b0 ≠ b1) → wpAnyH Try.prog .any ops Q (fun w' => w'.cell? ⟨w3.heap.size, 0, none⟩ = some (.slice ax (nlen 4294967296 x) cx) ∧ w'.cell? ⟨w3.heap.size + 1, 0, none⟩ = some (.slice ay (nlen 4294967296 y) cy) ∧ w'.cell? ⟨w3.heap.size + 1 + 1, 0, none⟩ = some (.slice ar (nlen 4294967296 r) cr) ∧ Hid (Fr wc w')) 3 #[true, true, true, true, true, true, true, true, true, true, true, true, true, false, false, false] (((((((((((((a0.put (some 49) (.agg #[.slice ax (nlen 4294967296 (x)) cx])).put (some 50) (.agg #[.slice ay (nlen 4294967296 (y)) cy])).put (some 52) (.agg #[.slice ar (nlen 4294967296 (r)) cr])).put (some 54) (.agg #[.slice ay (nlen 4294967296 (y)) cy])).put (some 51) (.agg #[.slice am (nlen 4294967296 (x * y)) cm])).put (some 53) (.agg #[.slice au (nlen 4294967296 (x * y + r)) cu])).put (some 55) (.tuple #[.agg #[.slice aq (nlen 4294967296 (x)) cq], .agg #[.slice ae (nlen 4294967296 (r)) ce], .bool true])).put (some 48) (.tuple #[.agg #[.slice aq (nlen 4294967296 (x)) cq], .agg #[.slice ae (nlen 4294967296 (r)) ce], .bool true])).put (some 56) (.agg #[.slice aq (nlen 4294967296 (x)) cq])).put (some 57) (.agg #[.slice ae (nlen 4294967296 (r)) ce])).put (some 58) (.bool true)).put (some 13) (.pointer (some ⟨b0, 0, none⟩))).put (some 14) (.pointer (some ⟨b1, 0, none⟩))) wv) := by
        refine hide ?_
        intro am cm au cu aq cq ae ce b0 b1 wv hHeld IQ IE Oaq_0 Oaq_1 Oae_0 Oae_1 V0 V1 D01
        rw [hops.out, ha0.out]
        have HPanF := HPan
        rw [hQ.out] at HPanF
        rw [hQ.out]
        (try simp only [Act.put, List.getElem_toArray, List.getElem_cons_zero, List.getElem_cons_succ, List.setIfInBounds_toArray, List.set_cons_zero, List.set_cons_succ])
        have fz : Hid (Fr wc wv) := hHeld.2.2.2
        have vc := V0.out.1
        have vz := V0.out.2.1
        have vn := V0.out.2.2
        refine wpAnyH_ready (rs := [13]) (by kernel_rfl) (by simp) ?_
        refine AllReadyH.cons rfl (fun K hK => ?_) AllReadyH.nil
        go_simp
        (try go_wp2_with fail)
        have fz : Hid (Fr wc (wv.setCell ⟨b0, 0, none⟩ (.slice aq (nlen 4294967296 (x)) cq))) := Below.setCell fz.out vn _
        refine hK.out _ _ ?_ (fun hHeld => ?_)
        · (try dsimp only)
          exact ⟨fr_cell fz.out c7, fr_cell fz.out c8, fr_cell fz.out c9, fz⟩
        clear hK K
        (try simp only [Act.put, List.getElem_toArray, List.getElem_cons_zero, List.getElem_cons_succ, List.setIfInBounds_toArray, List.set_cons_zero, List.set_cons_succ])
        have cE0 : World.cell? (wv.setCell ⟨b0, 0, none⟩ (.slice aq (nlen 4294967296 (x)) cq)) ⟨b0, 0, none⟩ = some (.slice aq (nlen 4294967296 (x)) cq) := World.cell?_setCell_same _ _ _ vc
        have V1 := hide (Var.put V1.out b0 (.slice aq (nlen 4294967296 (x)) cq) D01)
        have IQ := hide (IsNat.off IQ.out Oaq_0 (.slice aq (nlen 4294967296 (x)) cq))
        have IE := hide (IsNat.off IE.out Oae_0 (.slice aq (nlen 4294967296 (x)) cq))
        clear vc vz vn
        have vc := V1.out.1
        have vz := V1.out.2.1
        have vn := V1.out.2.2
        refine wpAnyH_ready (rs := [14]) (by kernel_rfl) (by simp) ?_
        refine AllReadyH.cons rfl (fun K hK => ?_) AllReadyH.nil
        go_simp
        (try go_wp2_with fail)
        have fz : Hid (Fr wc ((wv.setCell ⟨b0, 0, none⟩ (.slice aq (nlen 4294967296 (x)) cq)).setCell ⟨b1, 0, none⟩ (.slice ae (nlen 4294967296 (r)) ce))) := Below.setCell fz.out vn _
        refine hK.out _ _ ?_ (fun hHeld => ?_)
        · (try dsimp only)
          exact ⟨fr_cell fz.out c7, fr_cell fz.out c8, fr_cell fz.out c9, fz⟩
        clear hK K
        (try simp only [Act.put, List.getElem_toArray, List.getElem_cons_zero, List.getElem_cons_succ, List.setIfInBounds_toArray, List.set_cons_zero, List.set_cons_succ])
        have cE1 : World.cell? ((wv.setCell ⟨b0, 0, none⟩ (.slice aq (nlen 4294967296 (x)) cq)).setCell ⟨b1, 0, none⟩ (.slice ae (nlen 4294967296 (r)) ce)) ⟨b1, 0, none⟩ = some (.slice ae (nlen 4294967296 (r)) ce) := World.cell?_setCell_same _ _ _ vc
        have cE0 := (World.cell?_setCell_other (wv.setCell ⟨b0, 0, none⟩ (.slice aq (nlen 4294967296 (x)) cq)) ⟨b1, 0, none⟩ ⟨b0, 0, none⟩ (.slice ae (nlen 4294967296 (r)) ce) (fun e => D01.symm (by injection e))).trans cE0
        have IQ := hide (IsNat.off IQ.out Oaq_1 (.slice ae (nlen 4294967296 (r)) ce))
        have IE := hide (IsNat.off IE.out Oae_1 (.slice ae (nlen 4294967296 (r)) ce))
        clear vc vz vn
        refine wpAnyH_take (i := 15) (v := ?_) rfl (by kernel_rfl) (by kernel_rfl) (by kernel_rfl) (fun _ _ _ h => HPanF.out _ _ _ _ _ h) (Or.inl ⟨by rfl, ?_⟩) (by assumption) ?_
        rotate_left
        · (intro w hSw; (try dsimp only at hSw); go_simp; try with_reducible rfl)
        (try simp only [Act.put, List.getElem_toArray, List.getElem_cons_zero, List.getElem_cons_succ, List.setIfInBounds_toArray, List.set_cons_zero, List.set_cons_succ])
        refine wpAnyH_done (by kernel_rfl) ?_ _
        obtain ⟨WE, hWE⟩ : ∃ WE, WE = ((wv.setCell ⟨b0, 0, none⟩ (.slice aq (nlen 4294967296 (x)) cq)).setCell ⟨b1, 0, none⟩ (.slice ae (nlen 4294967296 (r)) ce)) := ⟨_, rfl⟩
        rw [← hWE] at cE0
        rw [← hWE] at cE1
        rw [← hWE] at IQ
        rw [← hWE] at IE
        rw [← hWE] at fz
        rw [← hWE]
        have FE := fz
        clear fz hHeld hWE
        have c7 := fr_cell FE.out c7
        have c8 := fr_cell FE.out c8
        have c9 := fr_cell FE.out c9
        have HX := hide (IsNat.fr HX.out FE.out)
        have HR := hide (IsNat.fr HR.out FE.out)
        have FA := hide ((F3.out.trans FW.out).trans FE.out)
        clear HY FW FE HPan HPanF hops ha0 hQ
        go_wp2_with fail
        refine (wakes_any _).mono ?_
        rintro e v1 ⟨rfl, g1⟩
        have c7 := fr_cell g1 c7
        have c9 := fr_cell g1 c9
        have cE0 := fr_cell g1 cE0
        have cE1 := fr_cell g1 cE1
        have HX := hide (IsNat.fr HX.out g1)
        have HR := hide (IsNat.fr HR.out g1)
        have IQ := hide (IsNat.fr IQ.out g1)
        have IE := hide (IsNat.fr IE.out g1)
        go_wp2_with fail
        refine (cmp_any _ _ x x _ IQ.out HX.out (by omega) (by omega)).mono ?_
        rintro e v2 ⟨rfl, g2⟩
        rw [show cmpZ x x = 0 by simp [cmpZ]]
        have c9 := fr_cell g2 c9
        have cE1 := fr_cell g2 cE1
        go_wp2_with fail
        refine (cmp_any _ _ r r _ (IsNat.fr IE.out g2) (IsNat.fr HR.out g2) (by omega) (by omega)).mono ?_
        rintro e v3 ⟨rfl, g3⟩
        rw [show cmpZ r r = 0 by simp [cmpZ]]
        go_wp2_with fail
        go_ret
        exact ⟨rfl, ((FA.out.trans g1).trans g2).trans g3⟩
      have N3_0 : Hid (∀ (am : Option Addr) (cm : Nat) (au : Option Addr) (cu : Nat) (aq : Option Addr) (cq : Nat) (ae : Option Addr) (ce : Nat) (b0 : Nat) (wv : World), (fun w' => w'.cell? ⟨w3.heap.size, 0, none⟩ = some (.slice ax (nlen 4294967296 x) cx) ∧ w'.cell? ⟨w3.heap.size + 1, 0, none⟩ = some (.slice ay (nlen 4294967296 y) cy) ∧ w'.cell? ⟨w3.heap.size + 1 + 1, 0, none⟩ = some (.slice ar (nlen 4294967296 r) cr) ∧ Hid (Fr wc w')) wv → (IQ : Hid (IsNat wv (.agg #[.slice aq (nlen 4294967296 (x)) cq]) x)) → (IE : Hid (IsNat wv (.agg #[.slice ae (nlen 4294967296 (r)) ce]) r)) → (Oaq_0 : Off aq (nlen 4294967296 x) b0) → (Oae_0 : Off ae (nlen 4294967296 r) b0) → (V0 : Hid (Var wc wv b0)) → wpAnyH Try.prog .any ops Q (fun w' => w'.cell? ⟨w3.heap.size, 0, none⟩ = some (.slice ax (nlen 4294967296 x) cx) ∧ w'.cell? ⟨w3.heap.size + 1, 0, none⟩ = some (.slice ay (nlen 4294967296 y) cy) ∧ w'.cell? ⟨w3.heap.size + 1 + 1, 0, none⟩ = some (.slice ar (nlen 4294967296 r) cr) ∧ Hid (Fr wc w')) 4 #[true, true, true, true, true, true, true, true, true, true, true, true, false, false, false, false] ((((((((((((a0.put (some 49) (.agg #[.slice ax (nlen 4294967296 (x)) cx])).put (some 50) (.agg #[.slice ay (nlen 4294967296 (y)) cy])).put (some 52) (.agg #[.slice ar (nlen 4294967296 (r)) cr])).put (some 54) (.agg #[.slice ay (nlen 4294967296 (y)) cy])).put (some 51) (.agg #[.slice am (nlen 4294967296 (x * y)) cm])).put (some 53) (.agg #[.slice au (nlen 4294967296 (x * y + r)) cu])).put (some 55) (.tuple #[.agg #[.slice aq (nlen 4294967296 (x)) cq], .agg #[.slice ae (nlen 4294967296 (r)) ce], .bool true])).put (some 48) (.tuple #[.agg #[.slice aq (nlen 4294967296 (x)) cq], .agg #[.slice ae (nlen 4294967296 (r)) ce], .bool true])).put (some 56) (.agg #[.slice aq (nlen 4294967296 (x)) cq])).put (some 57) (.agg #[.slice ae (nlen 4294967296 (r)) ce])).put (some 58) (.bool true)).put (some 13) (.pointer (some ⟨b0, 0, none⟩))) wv) := by
        refine hide ?_
        intro am cm au cu aq cq ae ce b0 wv hHeld IQ IE Oaq_0 Oae_0 V0
        rw [hops.out, ha0.out]
        (try simp only [Act.put, List.getElem_toArray, List.getElem_cons_zero, List.getElem_cons_succ, List.setIfInBounds_toArray, List.set_cons_zero, List.set_cons_succ])
        refine wpAnyH_ready (rs := [12]) (by kernel_rfl) (by simp) ?_
        refine AllReadyH.cons rfl (fun K hK => ?_) ?_
        · have hh : Hid (Fr wc wv) := hHeld.2.2.2
          have hn := Var.new (W := wc) (w := wv) (t := 25) hh.out.size
          have fz := hide (hh.out.trans (Fr.alloc wv (.cells #[.slice none 0 0] 25)))
          have Oaq_1 := off_new IQ.out
          have Oae_1 := off_new IE.out
          have D01 : b0 ≠ wv.heap.size := by have := Var.lt V0.out; omega
          have V1 := hide hn
          have IQ := hide (IsNat.fr IQ.out (Fr.alloc wv (.cells #[.slice none 0 0] 25)))
          have IE := hide (IsNat.fr IE.out (Fr.alloc wv (.cells #[.slice none 0 0] 25)))
          have V0 := hide (Var.fr V0.out (Fr.alloc wv (.cells #[.slice none 0 0] 25)))
          clear hn
          go_simp
          refine hK.out _ _ ?_ (fun hHeld => ?_)
          · (try dsimp only)
            exact ⟨fr_cell fz.out c7, fr_cell fz.out c8, fr_cell fz.out c9, fz⟩
          (try simp only [Act.put, List.getElem_toArray, List.getElem_cons_zero, List.getElem_cons_succ, List.setIfInBounds_toArray, List.set_cons_zero, List.set_cons_succ])
          have n := N3_01.out am cm au cu aq cq ae ce b0 wv.heap.size _ hHeld IQ IE Oaq_0 Oaq_1 Oae_0 Oae_1 V0 V1 D01
          rw [hops.out, ha0.out] at n
          (try simp only [Act.put, List.getElem_toArray, List.getElem_cons_zero, List.getElem_cons_succ, List.setIfInBounds_toArray, List.set_cons_zero, List.set_cons_succ] at n)
          exact n
        exact AllReadyH.nil
      have N3_1 : Hid (∀ (am : Option Addr) (cm : Nat) (au : Option Addr) (cu : Nat) (aq : Option Addr) (cq : Nat) (ae : Option Addr) (ce : Nat) (b1 : Nat) (wv : World), (fun w' => w'.cell? ⟨w3.heap.size, 0, none⟩ = some (.slice ax (nlen 4294967296 x) cx) ∧ w'.cell? ⟨w3.heap.size + 1, 0, none⟩ = some (.slice ay (nlen 4294967296 y) cy) ∧ w'.cell? ⟨w3.heap.size + 1 + 1, 0, none⟩ = some (.slice ar (nlen 4294967296 r) cr) ∧ Hid (Fr wc w')) wv → (IQ : Hid (IsNat wv (.agg #[.slice aq (nlen 4294967296 (x)) cq]) x)) → (IE : Hid (IsNat wv (.agg #[.slice ae (nlen 4294967296 (r)) ce]) r)) → (Oaq_1 : Off aq (nlen 4294967296 x) b1) → (Oae_1 : Off ae (nlen 4294967296 r) b1) → (V1 : Hid (Var wc wv b1)) → wpAnyH Try.prog .any ops Q (fun w' => w'.cell? ⟨w3.heap.size, 0, none⟩ = some (.slice ax (nlen 4294967296 x) cx) ∧ w'.cell? ⟨w3.heap.size + 1, 0, none⟩ = some (.slice ay (nlen 4294967296 y) cy) ∧ w'.cell? ⟨w3.heap.size + 1 + 1, 0, none⟩ = some (.slice ar (nlen 4294967296 r) cr) ∧ Hid (Fr wc w')) 4 #[true, true, true, true, true, true, true, true, true, true, true, false, true, false, false, false] ((((((((((((a0.put (some 49) (.agg #[.slice ax (nlen 4294967296 (x)) cx])).put (some 50) (.agg #[.slice ay (nlen 4294967296 (y)) cy])).put (some 52) (.agg #[.slice ar (nlen 4294967296 (r)) cr])).put (some 54) (.agg #[.slice ay (nlen 4294967296 (y)) cy])).put (some 51) (.agg #[.slice am (nlen 4294967296 (x * y)) cm])).put (some 53) (.agg #[.slice au (nlen 4294967296 (x * y + r)) cu])).put (some 55) (.tuple #[.agg #[.slice aq (nlen 4294967296 (x)) cq], .agg #[.slice ae (nlen 4294967296 (r)) ce], .bool true])).put (some 48) (.tuple #[.agg #[.slice aq (nlen 4294967296 (x)) cq], .agg #[.slice ae (nlen 4294967296 (r)) ce], .bool true])).put (some 56) (.agg #[.slice aq (nlen 4294967296 (x)) cq])).put (some 57) (.agg #[.slice ae (nlen 4294967296 (r)) ce])).put (some 58) (.bool true)).put (some 14) (.pointer (some ⟨b1, 0, none⟩))) wv) := by
        refine hide ?_
        intro am cm au cu aq cq ae ce b1 wv hHeld IQ IE Oaq_1 Oae_1 V1
        clear N3_0
        rw [hops.out, ha0.out]
        (try simp only [Act.put, List.getElem_toArray, List.getElem_cons_zero, List.getElem_cons_succ, List.setIfInBounds_toArray, List.set_cons_zero, List.set_cons_succ])
        refine wpAnyH_ready (rs := [11]) (by kernel_rfl) (by simp) ?_
        refine AllReadyH.cons rfl (fun K hK => ?_) ?_
        · have hh : Hid (Fr wc wv) := hHeld.2.2.2
          have hn := Var.new (W := wc) (w := wv) (t := 25) hh.out.size
          have fz := hide (hh.out.trans (Fr.alloc wv (.cells #[.slice none 0 0] 25)))
          have Oaq_0 := off_new IQ.out
          have Oae_0 := off_new IE.out
          have D01 : wv.heap.size ≠ b1 := by have := Var.lt V1.out; omega
          have V0 := hide hn
          have IQ := hide (IsNat.fr IQ.out (Fr.alloc wv (.cells #[.slice none 0 0] 25)))
          have IE := hide (IsNat.fr IE.out (Fr.alloc wv (.cells #[.slice none 0 0] 25)))
          have V1 := hide (Var.fr V1.out (Fr.alloc wv (.cells #[.slice none 0 0] 25)))
          clear hn
          go_simp
          refine hK.out _ _ ?_ (fun hHeld => ?_)
          · (try dsimp only)
            exact ⟨fr_cell fz.out c7, fr_cell fz.out c8, fr_cell fz.out c9, fz⟩
          (try simp only [Act.put, List.getElem_toArray, List.getElem_cons_zero, List.getElem_cons_succ, List.setIfInBounds_toArray, List.set_cons_zero, List.set_cons_succ])
          have n := N3_01.out am cm au cu aq cq ae ce wv.heap.size b1 _ hHeld IQ IE Oaq_0 Oaq_1 Oae_0 Oae_1 V0 V1 D01
          rw [hops.out, ha0.out] at n
          (try simp only [Act.put, List.getElem_toArray, List.getElem_cons_zero, List.getElem_cons_succ, List.setIfInBounds_toArray, List.set_cons_zero, List.set_cons_succ] at n)
          exact n
        exact AllReadyH.nil
      have N3_ : Hid (∀ (am : Option Addr) (cm : Nat) (au : Option Addr) (cu : Nat) (aq : Option Addr) (cq : Nat) (ae : Option Addr) (ce : Nat) (wv : World), (fun w' => w'.cell? ⟨w3.heap.size, 0, none⟩ = some (.slice ax (nlen 4294967296 x) cx) ∧ w'.cell? ⟨w3.heap.size + 1, 0, none⟩ = some (.slice ay (nlen 4294967296 y) cy) ∧ w'.cell? ⟨w3.heap.size + 1 + 1, 0, none⟩ = some (.slice ar (nlen 4294967296 r) cr) ∧ Hid (Fr wc w')) wv → (IQ : Hid (IsNat wv (.agg #[.slice aq (nlen 4294967296 (x)) cq]) x)) → (IE : Hid (IsNat wv (.agg #[.slice ae (nlen 4294967296 (r)) ce]) r)) → wpAnyH Try.prog .any ops Q (fun w' => w'.cell? ⟨w3.heap.size, 0, none⟩ = some (.slice ax (nlen 4294967296 x) cx) ∧ w'.cell? ⟨w3.heap.size + 1, 0, none⟩ = some (.slice ay (nlen 4294967296 y) cy) ∧ w'.cell? ⟨w3.heap.size + 1 + 1, 0, none⟩ = some (.slice ar (nlen 4294967296 r) cr) ∧ Hid (Fr wc w')) 5 #[true, true, true, true, true, true, true, true, true, true, true, false, false, false, false, false] (((((((((((a0.put (some 49) (.agg #[.slice ax (nlen 4294967296 (x)) cx])).put (some 50) (.agg #[.slice ay (nlen 4294967296 (y)) cy])).put (some 52) (.agg #[.slice ar (nlen 4294967296 (r)) cr])).put (some 54) (.agg #[.slice ay (nlen 4294967296 (y)) cy])).put (some 51) (.agg #[.slice am (nlen 4294967296 (x * y)) cm])).put (some 53) (.agg #[.slice au (nlen 4294967296 (x * y + r)) cu])).put (some 55) (.tuple #[.agg #[.slice aq (nlen 4294967296 (x)) cq], .agg #[.slice ae (nlen 4294967296 (r)) ce], .bool true])).put (some 48) (.tuple #[.agg #[.slice aq (nlen 4294967296 (x)) cq], .agg #[.slice ae (nlen 4294967296 (r)) ce], .bool true])).put (some 56) (.agg #[.slice aq (nlen 4294967296 (x)) cq])).put (some 57) (.agg #[.slice ae (nlen 4294967296 (r)) ce])).put (some 58) (.bool true)) wv) := by
        refine hide ?_
        intro am cm au cu aq cq ae ce  wv hHeld IQ IE
        clear N3_01
        rw [hops.out, ha0.out]
        (try simp only [Act.put, List.getElem_toArray, List.getElem_cons_zero, List.getElem_cons_succ, List.setIfInBounds_toArray, List.set_cons_zero, List.set_cons_succ])
        refine wpAnyH_ready (rs := [11, 12]) (by kernel_rfl) (by simp) ?_
        refine AllReadyH.cons rfl (fun K hK => ?_) ?_
        · have hh : Hid (Fr wc wv) := hHeld.2.2.2
          have hn := Var.new (W := wc) (w := wv) (t := 25) hh.out.size
          have fz := hide (hh.out.trans (Fr.alloc wv (.cells #[.slice none 0 0] 25)))
          have Oaq_0 := off_new IQ.out
          have Oae_0 := off_new IE.out
          have V0 := hide hn
          have IQ := hide (IsNat.fr IQ.out (Fr.alloc wv (.cells #[.slice none 0 0] 25)))
          have IE := hide (IsNat.fr IE.out (Fr.alloc wv (.cells #[.slice none 0 0] 25)))
          clear hn
          go_simp
          refine hK.out _ _ ?_ (fun hHeld => ?_)
          · (try dsimp only)
            exact ⟨fr_cell fz.out c7, fr_cell fz.out c8, fr_cell fz.out c9, fz⟩
          (try simp only [Act.put, List.getElem_toArray, List.getElem_cons_zero, List.getElem_cons_succ, List.setIfInBounds_toArray, List.set_cons_zero, List.set_cons_succ])
          have n := N3_0.out am cm au cu aq cq ae ce wv.heap.size _ hHeld IQ IE Oaq_0 Oae_0 V0
          rw [hops.out, ha0.out] at n
          (try simp only [Act.put, List.getElem_toArray, List.getElem_cons_zero, List.getElem_cons_succ, List.setIfInBounds_toArray, List.set_cons_zero, List.set_cons_succ] at n)
          exact n
        refine AllReadyH.cons rfl (fun K hK => ?_) ?_
        · have hh : Hid (Fr wc wv) := hHeld.2.2.2
          have hn := Var.new (W := wc) (w := wv) (t := 25) hh.out.size
          have fz := hide (hh.out.trans (Fr.alloc wv (.cells #[.slice none 0 0] 25)))
          have Oaq_1 := off_new IQ.out
          have Oae_1 := off_new IE.out
          have V1 := hide hn
          have IQ := hide (IsNat.fr IQ.out (Fr.alloc wv (.cells #[.slice none 0 0] 25)))
          have IE := hide (IsNat.fr IE.out (Fr.alloc wv (.cells #[.slice none 0 0] 25)))
          clear hn
          go_simp
          refine hK.out _ _ ?_ (fun hHeld => ?_)
          · (try dsimp only)
            exact ⟨fr_cell fz.out c7, fr_cell fz.out c8, fr_cell fz.out c9, fz⟩
          (try simp only [Act.put, List.getElem_toArray, List.getElem_cons_zero, List.getElem_cons_succ, List.setIfInBounds_toArray, List.set_cons_zero, List.set_cons_succ])
          have n := N3_1.out am cm au cu aq cq ae ce wv.heap.size _ hHeld IQ IE Oaq_1 Oae_1 V1
          rw [hops.out, ha0.out] at n
          (try simp only [Act.put, List.getElem_toArray, List.getElem_cons_zero, List.getElem_cons_succ, List.setIfInBounds_toArray, List.set_cons_zero, List.set_cons_succ] at n)
          exact n
        exact AllReadyH.nil
      have N2_01 : Hid (∀ (am : Option Addr) (cm : Nat) (au : Option Addr) (cu : Nat) (b0 : Nat) (b1 : Nat) (wv : World), (fun w' => w'.cell? ⟨w3.heap.size, 0, none⟩ = some (.slice ax (nlen 4294967296 x) cx) ∧ w'.cell? ⟨w3.heap.size + 1, 0, none⟩ = some (.slice ay (nlen 4294967296 y) cy) ∧ w'.cell? ⟨w3.heap.size + 1 + 1, 0, none⟩ = some (.slice ar (nlen 4294967296 r) cr) ∧ Hid (Fr wc w')) wv → (IS : Hid (IsNat wv (.agg #[.slice au (nlen 4294967296 (x * y + r)) cu]) (x * y + r))) → (V0 : Hid (Var wc wv b0)) → (V1 : Hid (Var wc wv b1)) → (D01 : b0 ≠ b1) → wpAnyH Try.prog .any ops Q (fun w' => w'.cell? ⟨w3.heap.size, 0, none⟩ = some (.slice ax (nlen 4294967296 x) cx) ∧ w'.cell? ⟨w3.heap.size + 1, 0, none⟩ = some (.slice ay (nlen 4294967296 y) cy) ∧ w'.cell? ⟨w3.heap.size + 1 + 1, 0, none⟩ = some (.slice ar (nlen 4294967296 r) cr) ∧ Hid (Fr wc w')) 8 #[true, true, true, true, true, true, false, false, false, false, false, true, true, false, false, false] ((((((((a0.put (some 49) (.agg #[.slice ax (nlen 4294967296 (x)) cx])).put (some 50) (.agg #[.slice ay (nlen 4294967296 (y)) cy])).put (some 52) (.agg #[.slice ar (nlen 4294967296 (r)) cr])).put (some 54) (.agg #[.slice ay (nlen 4294967296 (y)) cy])).put (some 51) (.agg #[.slice am (nlen 4294967296 (x * y)) cm])).put (some 53) (.agg #[.slice au (nlen 4294967296 (x * y + r)) cu])).put (some 13) (.pointer (some ⟨b0, 0, none⟩))).put (some 14) (.pointer (some ⟨b1, 0, none⟩))) wv) := by
        refine hide ?_
        intro am cm au cu b0 b1 wv hHeld IS V0 V1 D01
        clear N3_0 N3_1 N3_
        rw [hops.out, ha0.out]
        (try simp only [Act.put, List.getElem_toArray, List.getElem_cons_zero, List.getElem_cons_succ, List.setIfInBounds_toArray, List.set_cons_zero, List.set_cons_succ])
        refine wpAnyH_ready (rs := [6]) (by kernel_rfl) (by simp) ?_
        refine AllReadyH.cons rfl (fun K hK => ?_) ?_
        · have hh : Hid (Fr wc wv) := hHeld.2.2.2
          go_simp
          refine (div_yes _ _ (x * y + r) y _ IS.out (IsNat.fr HY.out hh.out) (by omega) (by omega) hy0).mono ?_
          rintro e wn ⟨aq, cq, ae, ce, rfl, ⟨iq, lq, fy⟩, ⟨ie, le, _⟩⟩
          rw [HD.out] at iq
          rw [HM.out] at ie
          rw [HD.out, HM.out]
          have fz := hide (hh.out.trans fy)
          have IQ := hide iq
          have IE := hide ie
          have Oaq_0 : Off aq (nlen 4294967296 x) b0 := off_old lq (Var.lt V0.out)
          have Oaq_1 : Off aq (nlen 4294967296 x) b1 := off_old lq (Var.lt V1.out)
          have Oae_0 : Off ae (nlen 4294967296 r) b0 := off_old le (Var.lt V0.out)
          have Oae_1 : Off ae (nlen 4294967296 r) b1 := off_old le (Var.lt V1.out)
          have V0 := hide (Var.fr V0.out fy)
          have V1 := hide (Var.fr V1.out fy)
          (try go_wp2_with fail)
          refine hK.out _ _ ?_ (fun hHeld => ?_)
          · (try dsimp only)
            exact ⟨fr_cell fz.out c7, fr_cell fz.out c8, fr_cell fz.out c9, fz⟩
          (try simp only [Act.put, List.getElem_toArray, List.getElem_cons_zero, List.getElem_cons_succ, List.setIfInBounds_toArray, List.set_cons_zero, List.set_cons_succ])
          refine wpAnyH_take (i := 7) (v := ?_) rfl (by kernel_rfl) (by kernel_rfl) (by kernel_rfl) (fun _ _ _ h => HPan.out _ _ _ _ _ h) (Or.inl ⟨by rfl, ?_⟩) (by assumption) ?_
          rotate_left
          · (intro w hSw; (try dsimp only at hSw); go_simp; try with_reducible rfl)
          (try simp only [Act.put, List.getElem_toArray, List.getElem_cons_zero, List.getElem_cons_succ, List.setIfInBounds_toArray, List.set_cons_zero, List.set_cons_succ])
          refine wpAnyH_take (i := 8) (v := ?_) rfl (by kernel_rfl) (by kernel_rfl) (by kernel_rfl) (fun _ _ _ h => HPan.out _ _ _ _ _ h) (Or.inl ⟨by rfl, ?_⟩) (by assumption) ?_
          rotate_left
          · (intro w hSw; (try dsimp only at hSw); go_simp; try with_reducible rfl)
          (try simp only [Act.put, List.getElem_toArray, List.getElem_cons_zero, List.getElem_cons_succ, List.setIfInBounds_toArray, List.set_cons_zero, List.set_cons_succ])
          refine wpAnyH_take (i := 9) (v := ?_) rfl (by kernel_rfl) (by kernel_rfl) (by kernel_rfl) (fun _ _ _ h => HPan.out _ _ _ _ _ h) (Or.inl ⟨by rfl, ?_⟩) (by assumption) ?_
          rotate_left
          · (intro w hSw; (try dsimp only at hSw); go_simp; try with_reducible rfl)
          (try simp only [Act.put, List.getElem_toArray, List.getElem_cons_zero, List.getElem_cons_succ, List.setIfInBounds_toArray, List.set_cons_zero, List.set_cons_succ])
          refine wpAnyH_take (i := 10) (v := ?_) rfl (by kernel_rfl) (by kernel_rfl) (by kernel_rfl) (fun _ _ _ h => HPan.out _ _ _ _ _ h) (Or.inl ⟨by rfl, ?_⟩) (by assumption) ?_
          rotate_left
          · (intro w hSw; (try dsimp only at hSw); go_simp; try with_reducible rfl)
          (try simp only [Act.put, List.getElem_toArray, List.getElem_cons_zero, List.getElem_cons_succ, List.setIfInBounds_toArray, List.set_cons_zero, List.set_cons_succ])
          have n := N3_01.out am cm au cu aq cq ae ce b0 b1 wn hHeld IQ IE Oaq_0 Oaq_1 Oae_0 Oae_1 V0 V1 D01
          rw [hops.out, ha0.out] at n
          (try simp only [Act.put, List.getElem_toArray, List.getElem_cons_zero, List.getElem_cons_succ, List.setIfInBounds_toArray, List.set_cons_zero, List.set_cons_succ] at n)
          exact n
        exact AllReadyH.nil
      have N2_0 : Hid (∀ (am : Option Addr) (cm : Nat) (au : Option Addr) (cu : Nat) (b0 : Nat) (wv : World), (fun w' => w'.cell? ⟨w3.heap.size, 0, none⟩ = some (.slice ax (nlen 4294967296 x) cx) ∧ w'.cell? ⟨w3.heap.size + 1, 0, none⟩ = some (.slice ay (nlen 4294967296 y) cy) ∧ w'.cell? ⟨w3.heap.size + 1 + 1, 0, none⟩ = some (.slice ar (nlen 4294967296 r) cr) ∧ Hid (Fr wc w')) wv → (IS : Hid (IsNat wv (.agg #[.slice au (nlen 4294967296 (x * y + r)) cu]) (x * y + r))) → (V0 : Hid (Var wc wv b0)) → wpAnyH Try.prog .any ops Q (fun w' => w'.cell? ⟨w3.heap.size, 0, none⟩ = some (.slice ax (nlen 4294967296 x) cx) ∧ w'.cell? ⟨w3.heap.size + 1, 0, none⟩ = some (.slice ay (nlen 4294967296 y) cy) ∧ w'.cell? ⟨w3.heap.size + 1 + 1, 0, none⟩ = some (.slice ar (nlen 4294967296 r) cr) ∧ Hid (Fr wc w')) 9 #[true, true, true, true, true, true, false, false, false, false, false, true, false, false, false, false] (((((((a0.put (some 49) (.agg #[.slice ax (nlen 4294967296 (x)) cx])).put (some 50) (.agg #[.slice ay (nlen 4294967296 (y)) cy])).put (some 52) (.agg #[.slice ar (nlen 4294967296 (r)) cr])).put (some 54) (.agg #[.slice ay (nlen 4294967296 (y)) cy])).put (some 51) (.agg #[.slice am (nlen 4294967296 (x * y)) cm])).put (some 53) (.agg #[.slice au (nlen 4294967296 (x * y + r)) cu])).put (some 13) (.pointer (some ⟨b0, 0, none⟩))) wv) := by
        refine hide ?_
        intro am cm au cu b0 wv hHeld IS V0
        clear N3_01 N3_1 N3_
        rw [hops.out, ha0.out]
        (try simp only [Act.put, List.getElem_toArray, List.getElem_cons_zero, List.getElem_cons_succ, List.setIfInBounds_toArray, List.set_cons_zero, List.set_cons_succ])
        refine wpAnyH_ready (rs := [6, 12]) (by kernel_rfl) (by simp) ?_
        refine AllReadyH.cons rfl (fun K hK => ?_) ?_
        · have hh : Hid (Fr wc wv) := hHeld.2.2.2
          go_simp
          refine (div_yes _ _ (x * y + r) y _ IS.out (IsNat.fr HY.out hh.out) (by omega) (by omega) hy0).mono ?_
          rintro e wn ⟨aq, cq, ae, ce, rfl, ⟨iq, lq, fy⟩, ⟨ie, le, _⟩⟩
          rw [HD.out] at iq
          rw [HM.out] at ie
          rw [HD.out, HM.out]
          have fz := hide (hh.out.trans fy)
          have IQ := hide iq
          have IE := hide ie
          have Oaq_0 : Off aq (nlen 4294967296 x) b0 := off_old lq (Var.lt V0.out)
          have Oae_0 : Off ae (nlen 4294967296 r) b0 := off_old le (Var.lt V0.out)
          have V0 := hide (Var.fr V0.out fy)
          (try go_wp2_with fail)
          refine hK.out _ _ ?_ (fun hHeld => ?_)
          · (try dsimp only)
            exact ⟨fr_cell fz.out c7, fr_cell fz.out c8, fr_cell fz.out c9, fz⟩
          (try simp only [Act.put, List.getElem_toArray, List.getElem_cons_zero, List.getElem_cons_succ, List.setIfInBounds_toArray, List.set_cons_zero, List.set_cons_succ])
          refine wpAnyH_take (i := 7) (v := ?_) rfl (by kernel_rfl) (by kernel_rfl) (by kernel_rfl) (fun _ _ _ h => HPan.out _ _ _ _ _ h) (Or.inl ⟨by rfl, ?_⟩) (by assumption) ?_
          rotate_left
          · (intro w hSw; (try dsimp only at hSw); go_simp; try with_reducible rfl)
          (try simp only [Act.put, List.getElem_toArray, List.getElem_cons_zero, List.getElem_cons_succ, List.setIfInBounds_toArray, List.set_cons_zero, List.set_cons_succ])
          refine wpAnyH_take (i := 8) (v := ?_) rfl (by kernel_rfl) (by kernel_rfl) (by kernel_rfl) (fun _ _ _ h => HPan.out _ _ _ _ _ h) (Or.inl ⟨by rfl, ?_⟩) (by assumption) ?_
          rotate_left
          · (intro w hSw; (try dsimp only at hSw); go_simp; try with_reducible rfl)
          (try simp only [Act.put, List.getElem_toArray, List.getElem_cons_zero, List.getElem_cons_succ, List.setIfInBounds_toArray, List.set_cons_zero, List.set_cons_succ])
          refine wpAnyH_take (i := 9) (v := ?_) rfl (by kernel_rfl) (by kernel_rfl) (by kernel_rfl) (fun _ _ _ h => HPan.out _ _ _ _ _ h) (Or.inl ⟨by rfl, ?_⟩) (by assumption) ?_
          rotate_left
          · (intro w hSw; (try dsimp only at hSw); go_simp; try with_reducible rfl)
          (try simp only [Act.put, List.getElem_toArray, List.getElem_cons_zero, List.getElem_cons_succ, List.setIfInBounds_toArray, List.set_cons_zero, List.set_cons_succ])
          refine wpAnyH_take (i := 10) (v := ?_) rfl (by kernel_rfl) (by kernel_rfl) (by kernel_rfl) (fun _ _ _ h => HPan.out _ _ _ _ _ h) (Or.inl ⟨by rfl, ?_⟩) (by assumption) ?_
          rotate_left
          · (intro w hSw; (try dsimp only at hSw); go_simp; try with_reducible rfl)
          (try simp only [Act.put, List.getElem_toArray, List.getElem_cons_zero, List.getElem_cons_succ, List.setIfInBounds_toArray, List.set_cons_zero, List.set_cons_succ])
          have n := N3_0.out am cm au cu aq cq ae ce b0 wn hHeld IQ IE Oaq_0 Oae_0 V0
          rw [hops.out, ha0.out] at n
          (try simp only [Act.put, List.getElem_toArray, List.getElem_cons_zero, List.getElem_cons_succ, List.setIfInBounds_toArray, List.set_cons_zero, List.set_cons_succ] at n)
          exact n
        refine AllReadyH.cons rfl (fun K hK => ?_) ?_
        · have hh : Hid (Fr wc wv) := hHeld.2.2.2
          have hn := Var.new (W := wc) (w := wv) (t := 25) hh.out.size
          have fz := hide (hh.out.trans (Fr.alloc wv (.cells #[.slice none 0 0] 25)))
          have D01 : b0 ≠ wv.heap.size := by have := Var.lt V0.out; omega
          have V1 := hide hn
          have IS := hide (IsNat.fr IS.out (Fr.alloc wv (.cells #[.slice none 0 0] 25)))
          have V0 := hide (Var.fr V0.out (Fr.alloc wv (.cells #[.slice none 0 0] 25)))
          clear hn
          go_simp
          refine hK.out _ _ ?_ (fun hHeld => ?_)
          · (try dsimp only)
            exact ⟨fr_cell fz.out c7, fr_cell fz.out c8, fr_cell fz.out c9, fz⟩
          (try simp only [Act.put, List.getElem_toArray, List.getElem_cons_zero, List.getElem_cons_succ, List.setIfInBounds_toArray, List.set_cons_zero, List.set_cons_succ])
          have n := N2_01.out am cm au cu b0 wv.heap.size _ hHeld IS V0 V1 D01
          rw [hops.out, ha0.out] at n
          (try simp only [Act.put, List.getElem_toArray, List.getElem_cons_zero, List.getElem_cons_succ, List.setIfInBounds_toArray, List.set_cons_zero, List.set_cons_succ] at n)
          exact n
        exact AllReadyH.nil
      have N2_1 : Hid (∀ (am : Option Addr) (cm : Nat) (au : Option Addr) (cu : Nat) (b1 : Nat) (wv : World), (fun w' => w'.cell? ⟨w3.heap.size, 0, none⟩ = some (.slice ax (nlen 4294967296 x) cx) ∧ w'.cell? ⟨w3.heap.size + 1, 0, none⟩ = some (.slice ay (nlen 4294967296 y) cy) ∧ w'.cell? ⟨w3.heap.size + 1 + 1, 0, none⟩ = some (.slice ar (nlen 4294967296 r) cr) ∧ Hid (Fr wc w')) wv → (IS : Hid (IsNat wv (.agg #[.slice au (nlen 4294967296 (x * y + r)) cu]) (x * y + r))) → (V1 : Hid (Var wc wv b1)) → wpAnyH Try.prog .any ops Q (fun w' => w'.cell? ⟨w3.heap.size, 0, none⟩ = some (.slice ax (nlen 4294967296 x) cx) ∧ w'.cell? ⟨w3.heap.size + 1, 0, none⟩ = some (.slice ay (nlen 4294967296 y) cy) ∧ w'.cell? ⟨w3.heap.size + 1 + 1, 0, none⟩ = some (.slice ar (nlen 4294967296 r) cr) ∧ Hid (Fr wc w')) 9 #[true, true, true, true, true, true, false, false, false, false, false, false, true, false, false, false] (((((((a0.put (some 49) (.agg #[.slice ax (nlen 4294967296 (x)) cx])).put (some 50) (.agg #[.slice ay (nlen 4294967296 (y)) cy])).put (some 52) (.agg #[.slice ar (nlen 4294967296 (r)) cr])).put (some 54) (.agg #[.slice ay (nlen 4294967296 (y)) cy])).put (some 51) (.agg #[.slice am (nlen 4294967296 (x * y)) cm])).put (some 53) (.agg #[.slice au (nlen 4294967296 (x * y + r)) cu])).put (some 14) (.pointer (some ⟨b1, 0, none⟩))) wv) := by
        refine hide ?_
        intro am cm au cu b1 wv hHeld IS V1
        clear N3_01 N3_0 N3_ N2_0
        rw [hops.out, ha0.out]
        (try simp only [Act.put, List.getElem_toArray, List.getElem_cons_zero, List.getElem_cons_succ, List.setIfInBounds_toArray, List.set_cons_zero, List.set_cons_succ])
        refine wpAnyH_ready (rs := [6, 11]) (by kernel_rfl) (by simp) ?_
        refine AllReadyH.cons rfl (fun K hK => ?_) ?_
        · have hh : Hid (Fr wc wv) := hHeld.2.2.2
          go_simp
          refine (div_yes _ _ (x * y + r) y _ IS.out (IsNat.fr HY.out hh.out) (by omega) (by omega) hy0).mono ?_
          rintro e wn ⟨aq, cq, ae, ce, rfl, ⟨iq, lq, fy⟩, ⟨ie, le, _⟩⟩
          rw [HD.out] at iq
          rw [HM.out] at ie
          rw [HD.out, HM.out]
          have fz := hide (hh.out.trans fy)
          have IQ := hide iq
          have IE := hide ie
          have Oaq_1 : Off aq (nlen 4294967296 x) b1 := off_old lq (Var.lt V1.out)
          have Oae_1 : Off ae (nlen 4294967296 r) b1 := off_old le (Var.lt V1.out)
          have V1 := hide (Var.fr V1.out fy)
          (try go_wp2_with fail)
          refine hK.out _ _ ?_ (fun hHeld => ?_)
          · (try dsimp only)
            exact ⟨fr_cell fz.out c7, fr_cell fz.out c8, fr_cell fz.out c9, fz⟩
          (try simp only [Act.put, List.getElem_toArray, List.getElem_cons_zero, List.getElem_cons_succ, List.setIfInBounds_toArray, List.set_cons_zero, List.set_cons_succ])
          refine wpAnyH_take (i := 7) (v := ?_) rfl (by kernel_rfl) (by kernel_rfl) (by kernel_rfl) (fun _ _ _ h => HPan.out _ _ _ _ _ h) (Or.inl ⟨by rfl, ?_⟩) (by assumption) ?_
          rotate_left
          · (intro w hSw; (try dsimp only at hSw); go_simp; try with_reducible rfl)
          (try simp only [Act.put, List.getElem_toArray, List.getElem_cons_zero, List.getElem_cons_succ, List.setIfInBounds_toArray, List.set_cons_zero, List.set_cons_succ])
          refine wpAnyH_take (i := 8) (v := ?_) rfl (by kernel_rfl) (by kernel_rfl) (by kernel_rfl) (fun _ _ _ h => HPan.out _ _ _ _ _ h) (Or.inl ⟨by rfl, ?_⟩) (by assumption) ?_
          rotate_left
          · (intro w hSw; (try dsimp only at hSw); go_simp; try with_reducible rfl)
          (try simp only [Act.put, List.getElem_toArray, List.getElem_cons_zero, List.getElem_cons_succ, List.setIfInBounds_toArray, List.set_cons_zero, List.set_cons_succ])
          refine wpAnyH_take (i := 9) (v := ?_) rfl (by kernel_rfl) (by kernel_rfl) (by kernel_rfl) (fun _ _ _ h => HPan.out _ _ _ _ _ h) (Or.inl ⟨by rfl, ?_⟩) (by assumption) ?_
          rotate_left
          · (intro w hSw; (try dsimp only at hSw); go_simp; try with_reducible rfl)
          (try simp only [Act.put, List.getElem_toArray, List.getElem_cons_zero, List.getElem_cons_succ, List.setIfInBounds_toArray, List.set_cons_zero, List.set_cons_succ])
          refine wpAnyH_take (i := 10) (v := ?_) rfl (by kernel_rfl) (by kernel_rfl) (by kernel_rfl) (fun _ _ _ h => HPan.out _ _ _ _ _ h) (Or.inl ⟨by rfl, ?_⟩) (by assumption) ?_
          rotate_left
          · (intro w hSw; (try dsimp only at hSw); go_simp; try with_reducible rfl)
          (try simp only [Act.put, List.getElem_toArray, List.getElem_cons_zero, List.getElem_cons_succ, List.setIfInBounds_toArray, List.set_cons_zero, List.set_cons_succ])
          have n := N3_1.out am cm au cu aq cq ae ce b1 wn hHeld IQ IE Oaq_1 Oae_1 V1
          rw [hops.out, ha0.out] at n
          (try simp only [Act.put, List.getElem_toArray, List.getElem_cons_zero, List.getElem_cons_succ, List.setIfInBounds_toArray, List.set_cons_zero, List.set_cons_succ] at n)
          exact n
        refine AllReadyH.cons rfl (fun K hK => ?_) ?_
        · have hh : Hid (Fr wc wv) := hHeld.2.2.2
          have hn := Var.new (W := wc) (w := wv) (t := 25) hh.out.size
          have fz := hide (hh.out.trans (Fr.alloc wv (.cells #[.slice none 0 0] 25)))
          have D01 : wv.heap.size ≠ b1 := by have := Var.lt V1.out; omega
          have V0 := hide hn
          have IS := hide (IsNat.fr IS.out (Fr.alloc wv (.cells #[.slice none 0 0] 25)))
          have V1 := hide (Var.fr V1.out (Fr.alloc wv (.cells #[.slice none 0 0] 25)))
          clear hn
          go_simp
          refine hK.out _ _ ?_ (fun hHeld => ?_)
          · (try dsimp only)
            exact ⟨fr_cell fz.out c7, fr_cell fz.out c8, fr_cell fz.out c9, fz⟩
          (try simp only [Act.put, List.getElem_toArray, List.getElem_cons_zero, List.getElem_cons_succ, List.setIfInBounds_toArray, List.set_cons_zero, List.set_cons_succ])
          have n := N2_01.out am cm au cu wv.heap.size b1 _ hHeld IS V0 V1 D01
          rw [hops.out, ha0.out] at n
          (try simp only [Act.put, List.getElem_toArray, List.getElem_cons_zero, List.getElem_cons_succ, List.setIfInBounds_toArray, List.set_cons_zero, List.set_cons_succ] at n)
          exact n
        exact AllReadyH.nil
      have N2_ : Hid (∀ (am : Option Addr) (cm : Nat) (au : Option Addr) (cu : Nat) (wv : World), (fun w' => w'.cell? ⟨w3.heap.size, 0, none⟩ = some (.slice ax (nlen 4294967296 x) cx) ∧ w'.cell? ⟨w3.heap.size + 1, 0, none⟩ = some (.slice ay (nlen 4294967296 y) cy) ∧ w'.cell? ⟨w3.heap.size + 1 + 1, 0, none⟩ = some (.slice ar (nlen 4294967296 r) cr) ∧ Hid (Fr wc w')) wv → (IS : Hid (IsNat wv (.agg #[.slice au (nlen 4294967296 (x * y + r)) cu]) (x * y + r))) → wpAnyH Try.prog .any ops Q (fun w' => w'.cell? ⟨w3.heap.size, 0, none⟩ = some (.slice ax (nlen 4294967296 x) cx) ∧ w'.cell? ⟨w3.heap.size + 1, 0, none⟩ = some (.slice ay (nlen 4294967296 y) cy) ∧ w'.cell? ⟨w3.heap.size + 1 + 1, 0, none⟩ = some (.slice ar (nlen 4294967296 r) cr) ∧ Hid (Fr wc w')) 10 #[true, true, true, true, true, true, false, false, false, false, false, false, false, false, false, false] ((((((a0.put (some 49) (.agg #[.slice ax (nlen 4294967296 (x)) cx])).put (some 50) (.agg #[.slice ay (nlen 4294967296 (y)) cy])).put (some 52) (.agg #[.slice ar (nlen 4294967296 (r)) cr])).put (some 54) (.agg #[.slice ay (nlen 4294967296 (y)) cy])).put (some 51) (.agg #[.slice am (nlen 4294967296 (x * y)) cm])).put (some 53) (.agg #[.slice au (nlen 4294967296 (x * y + r)) cu])) wv) := by
        refine hide ?_
        intro am cm au cu  wv hHeld IS
        clear N3_01 N3_0 N3_1 N2_01
        rw [hops.out, ha0.out]
        (try simp only [Act.put, List.getElem_toArray, List.getElem_cons_zero, List.getElem_cons_succ, List.setIfInBounds_toArray, List.set_cons_zero, List.set_cons_succ])
        refine wpAnyH_ready (rs := [6, 11, 12]) (by kernel_rfl) (by simp) ?_
        refine AllReadyH.cons rfl (fun K hK => ?_) ?_
        · have hh : Hid (Fr wc wv) := hHeld.2.2.2
          go_simp
          refine (div_yes _ _ (x * y + r) y _ IS.out (IsNat.fr HY.out hh.out) (by omega) (by omega) hy0).mono ?_
          rintro e wn ⟨aq, cq, ae, ce, rfl, ⟨iq, lq, fy⟩, ⟨ie, le, _⟩⟩
          rw [HD.out] at iq
          rw [HM.out] at ie
          rw [HD.out, HM.out]
          have fz := hide (hh.out.trans fy)
          have IQ := hide iq
          have IE := hide ie
          (try go_wp2_with fail)
          refine hK.out _ _ ?_ (fun hHeld => ?_)
          · (try dsimp only)
            exact ⟨fr_cell fz.out c7, fr_cell fz.out c8, fr_cell fz.out c9, fz⟩
          (try simp only [Act.put, List.getElem_toArray, List.getElem_cons_zero, List.getElem_cons_succ, List.setIfInBounds_toArray, List.set_cons_zero, List.set_cons_succ])
          refine wpAnyH_take (i := 7) (v := ?_) rfl (by kernel_rfl) (by kernel_rfl) (by kernel_rfl) (fun _ _ _ h => HPan.out _ _ _ _ _ h) (Or.inl ⟨by rfl, ?_⟩) (by assumption) ?_
          rotate_left
          · (intro w hSw; (try dsimp only at hSw); go_simp; try with_reducible rfl)
          (try simp only [Act.put, List.getElem_toArray, List.getElem_cons_zero, List.getElem_cons_succ, List.setIfInBounds_toArray, List.set_cons_zero, List.set_cons_succ])
          refine wpAnyH_take (i := 8) (v := ?_) rfl (by kernel_rfl) (by kernel_rfl) (by kernel_rfl) (fun _ _ _ h => HPan.out _ _ _ _ _ h) (Or.inl ⟨by rfl, ?_⟩) (by assumption) ?_
          rotate_left
          · (intro w hSw; (try dsimp only at hSw); go_simp; try with_reducible rfl)
          (try simp only [Act.put, List.getElem_toArray, List.getElem_cons_zero, List.getElem_cons_succ, List.setIfInBounds_toArray, List.set_cons_zero, List.set_cons_succ])
          refine wpAnyH_take (i := 9) (v := ?_) rfl (by kernel_rfl) (by kernel_rfl) (by kernel_rfl) (fun _ _ _ h => HPan.out _ _ _ _ _ h) (Or.inl ⟨by rfl, ?_⟩) (by assumption) ?_
          rotate_left
          · (intro w hSw; (try dsimp only at hSw); go_simp; try with_reducible rfl)
          (try simp only [Act.put, List.getElem_toArray, List.getElem_cons_zero, List.getElem_cons_succ, List.setIfInBounds_toArray, List.set_cons_zero, List.set_cons_succ])
          refine wpAnyH_take (i := 10) (v := ?_) rfl (by kernel_rfl) (by kernel_rfl) (by kernel_rfl) (fun _ _ _ h => HPan.out _ _ _ _ _ h) (Or.inl ⟨by rfl, ?_⟩) (by assumption) ?_
          rotate_left
          · (intro w hSw; (try dsimp only at hSw); go_simp; try with_reducible rfl)
          (try simp only [Act.put, List.getElem_toArray, List.getElem_cons_zero, List.getElem_cons_succ, List.setIfInBounds_toArray, List.set_cons_zero, List.set_cons_succ])
          have n := N3_.out am cm au cu aq cq ae ce wn hHeld IQ IE
          rw [hops.out, ha0.out] at n
          (try simp only [Act.put, List.getElem_toArray, List.getElem_cons_zero, List.getElem_cons_succ, List.setIfInBounds_toArray, List.set_cons_zero, List.set_cons_succ] at n)
          exact n
        refine AllReadyH.cons rfl (fun K hK => ?_) ?_
        · have hh : Hid (Fr wc wv) := hHeld.2.2.2
          have hn := Var.new (W := wc) (w := wv) (t := 25) hh.out.size
          have fz := hide (hh.out.trans (Fr.alloc wv (.cells #[.slice none 0 0] 25)))
          have V0 := hide hn
          have IS := hide (IsNat.fr IS.out (Fr.alloc wv (.cells #[.slice none 0 0] 25)))
          clear hn
          go_simp
          refine hK.out _ _ ?_ (fun hHeld => ?_)
          · (try dsimp only)
            exact ⟨fr_cell fz.out c7, fr_cell fz.out c8, fr_cell fz.out c9, fz⟩
          (try simp only [Act.put, List.getElem_toArray, List.getElem_cons_zero, List.getElem_cons_succ, List.setIfInBounds_toArray, List.set_cons_zero, List.set_cons_succ])
          have n := N2_0.out am cm au cu wv.heap.size _ hHeld IS V0
          rw [hops.out, ha0.out] at n
          (try simp only [Act.put, List.getElem_toArray, List.getElem_cons_zero, List.getElem_cons_succ, List.setIfInBounds_toArray, List.set_cons_zero, List.set_cons_succ] at n)
          exact n
        refine AllReadyH.cons rfl (fun K hK => ?_) ?_
        · have hh : Hid (Fr wc wv) := hHeld.2.2.2
          have hn := Var.new (W := wc) (w := wv) (t := 25) hh.out.size
          have fz := hide (hh.out.trans (Fr.alloc wv (.cells #[.slice none 0 0] 25)))
          have V1 := hide hn
          have IS := hide (IsNat.fr IS.out (Fr.alloc wv (.cells #[.slice none 0 0] 25)))
          clear hn
          go_simp
          refine hK.out _ _ ?_ (fun hHeld => ?_)
          · (try dsimp only)
            exact ⟨fr_cell fz.out c7, fr_cell fz.out c8, fr_cell fz.out c9, fz⟩
          (try simp only [Act.put, List.getElem_toArray, List.getElem_cons_zero, List.getElem_cons_succ, List.setIfInBounds_toArray, List.set_cons_zero, List.set_cons_succ])
          have n := N2_1.out am cm au cu wv.heap.size _ hHeld IS V1
          rw [hops.out, ha0.out] at n
          (try simp only [Act.put, List.getElem_toArray, List.getElem_cons_zero, List.getElem_cons_succ, List.setIfInBounds_toArray, List.set_cons_zero, List.set_cons_succ] at n)
          exact n
        exact AllReadyH.nil
      have N1_01 : Hid (∀ (am : Option Addr) (cm : Nat) (b0 : Nat) (b1 : Nat) (wv : World), (fun w' => w'.cell? ⟨w3.heap.size, 0, none⟩ = some (.slice ax (nlen 4294967296 x) cx) ∧ w'.cell? ⟨w3.heap.size + 1, 0, none⟩ = some (.slice ay (nlen 4294967296 y) cy) ∧ w'.cell? ⟨w3.heap.size + 1 + 1, 0, none⟩ = some (.slice ar (nlen 4294967296 r) cr) ∧ Hid (Fr wc w')) wv → (IM : Hid (IsNat wv (.agg #[.slice am (nlen 4294967296 (x * y)) cm]) (x * y))) → (V0 : Hid (Var wc wv b0)) → (V1 : Hid (Var wc wv b1)) → (D01 : b0 ≠ b1) → wpAnyH Try.prog .any ops Q (fun w' => w'.cell? ⟨w3.heap.size, 0, none⟩ = some (.slice ax (nlen 4294967296 x) cx) ∧ w'.cell? ⟨w3.heap.size + 1, 0, none⟩ = some (.slice ay (nlen 4294967296 y) cy) ∧ w'.cell? ⟨w3.heap.size + 1 + 1, 0, none⟩ = some (.slice ar (nlen 4294967296 r) cr) ∧ Hid (Fr wc w')) 9 #[true, true, true, true, false, true, false, false, false, false, false, true, true, false, false, false] (((((((a0.put (some 49) (.agg #[.slice ax (nlen 4294967296 (x)) cx])).put (some 50) (.agg #[.slice ay (nlen 4294967296 (y)) cy])).put (some 52) (.agg #[.slice ar (nlen 4294967296 (r)) cr])).put (some 54) (.agg #[.slice ay (nlen 4294967296 (y)) cy])).put (some 51) (.agg #[.slice am (nlen 4294967296 (x * y)) cm])).put (some 13) (.pointer (some ⟨b0, 0, none⟩))).put (some 14) (.pointer (some ⟨b1, 0, none⟩))) wv) := by
        refine hide ?_
        intro am cm b0 b1 wv hHeld IM V0 V1 D01
        clear N3_01 N3_0 N3_1 N3_ N2_0 N2_1 N2_
        rw [hops.out, ha0.out]
        (try simp only [Act.put, List.getElem_toArray, List.getElem_cons_zero, List.getElem_cons_succ, List.setIfInBounds_toArray, List.set_cons_zero, List.set_cons_succ])
        refine wpAnyH_ready (rs := [4]) (by kernel_rfl) (by simp) ?_
        refine AllReadyH.cons rfl (fun K hK => ?_) ?_
        · have hh : Hid (Fr wc wv) := hHeld.2.2.2
          go_simp
          refine (add_any _ _ (x * y) r _ IM.out (IsNat.fr HR.out hh.out) (by omega) (by omega)).mono ?_
          rintro e wn ⟨au, cu, rfl, iu, _, fy⟩
          have fz := hide (hh.out.trans fy)
          have IS := hide iu
          have V0 := hide (Var.fr V0.out fy)
          have V1 := hide (Var.fr V1.out fy)
          (try go_wp2_with fail)
          refine hK.out _ _ ?_ (fun hHeld => ?_)
          · (try dsimp only)
            exact ⟨fr_cell fz.out c7, fr_cell fz.out c8, fr_cell fz.out c9, fz⟩
          (try simp only [Act.put, List.getElem_toArray, List.getElem_cons_zero, List.getElem_cons_succ, List.setIfInBounds_toArray, List.set_cons_zero, List.set_cons_succ])
          have n := N2_01.out am cm au cu b0 b1 wn hHeld IS V0 V1 D01
          rw [hops.out, ha0.out] at n
          (try simp only [Act.put, List.getElem_toArray, List.getElem_cons_zero, List.getElem_cons_succ, List.setIfInBounds_toArray, List.set_cons_zero, List.set_cons_succ] at n)
          exact n
        exact AllReadyH.nil
      have N1_0 : Hid (∀ (am : Option Addr) (cm : Nat) (b0 : Nat) (wv : World), (fun w' => w'.cell? ⟨w3.heap.size, 0, none⟩ = some (.slice ax (nlen 4294967296 x) cx) ∧ w'.cell? ⟨w3.heap.size + 1, 0, none⟩ = some (.slice ay (nlen 4294967296 y) cy) ∧ w'.cell? ⟨w3.heap.size + 1 + 1, 0, none⟩ = some (.slice ar (nlen 4294967296 r) cr) ∧ Hid (Fr wc w')) wv → (IM : Hid (IsNat wv (.agg #[.slice am (nlen 4294967296 (x * y)) cm]) (x * y))) → (V0 : Hid (Var wc wv b0)) → wpAnyH Try.prog .any ops Q (fun w' => w'.cell? ⟨w3.heap.size, 0, none⟩ = some (.slice ax (nlen 4294967296 x) cx) ∧ w'.cell? ⟨w3.heap.size + 1, 0, none⟩ = some (.slice ay (nlen 4294967296 y) cy) ∧ w'.cell? ⟨w3.heap.size + 1 + 1, 0, none⟩ = some (.slice ar (nlen 4294967296 r) cr) ∧ Hid (Fr wc w')) 10 #[true, true, true, true, false, true, false, false, false, false, false, true, false, false, false, false] ((((((a0.put (some 49) (.agg #[.slice ax (nlen 4294967296 (x)) cx])).put (some 50) (.agg #[.slice ay (nlen 4294967296 (y)) cy])).put (some 52) (.agg #[.slice ar (nlen 4294967296 (r)) cr])).put (some 54) (.agg #[.slice ay (nlen 4294967296 (y)) cy])).put (some 51) (.agg #[.slice am (nlen 4294967296 (x * y)) cm])).put (some 13) (.pointer (some ⟨b0, 0, none⟩))) wv) := by
        refine hide ?_
        intro am cm b0 wv hHeld IM V0
        clear N3_01 N3_0 N3_1 N3_ N2_01 N2_1 N2_
        rw [hops.out, ha0.out]
        (try simp only [Act.put, List.getElem_toArray, List.getElem_cons_zero, List.getElem_cons_succ, List.setIfInBounds_toArray, List.set_cons_zero, List.set_cons_succ])
        refine wpAnyH_ready (rs := [4, 12]) (by kernel_rfl) (by simp) ?_
        refine AllReadyH.cons rfl (fun K hK => ?_) ?_
        · have hh : Hid (Fr wc wv) := hHeld.2.2.2
          go_simp
          refine (add_any _ _ (x * y) r _ IM.out (IsNat.fr HR.out hh.out) (by omega) (by omega)).mono ?_
          rintro e wn ⟨au, cu, rfl, iu, _, fy⟩
          have fz := hide (hh.out.trans fy)
          have IS := hide iu
          have V0 := hide (Var.fr V0.out fy)
          (try go_wp2_with fail)
          refine hK.out _ _ ?_ (fun hHeld => ?_)
          · (try dsimp only)
            exact ⟨fr_cell fz.out c7, fr_cell fz.out c8, fr_cell fz.out c9, fz⟩
          (try simp only [Act.put, List.getElem_toArray, List.getElem_cons_zero, List.getElem_cons_succ, List.setIfInBounds_toArray, List.set_cons_zero, List.set_cons_succ])
          have n := N2_0.out am cm au cu b0 wn hHeld IS V0
          rw [hops.out, ha0.out] at n
          (try simp only [Act.put, List.getElem_toArray, List.getElem_cons_zero, List.getElem_cons_succ, List.setIfInBounds_toArray, List.set_cons_zero, List.set_cons_succ] at n)
          exact n
        refine AllReadyH.cons rfl (fun K hK => ?_) ?_
        · have hh : Hid (Fr wc wv) := hHeld.2.2.2
          have hn := Var.new (W := wc) (w := wv) (t := 25) hh.out.size
          have fz := hide (hh.out.trans (Fr.alloc wv (.cells #[.slice none 0 0] 25)))
          have D01 : b0 ≠ wv.heap.size := by have := Var.lt V0.out; omega
          have V1 := hide hn
          have IM := hide (IsNat.fr IM.out (Fr.alloc wv (.cells #[.slice none 0 0] 25)))
          have V0 := hide (Var.fr V0.out (Fr.alloc wv (.cells #[.slice none 0 0] 25)))
          clear hn
          go_simp
          refine hK.out _ _ ?_ (fun hHeld => ?_)
          · (try dsimp only)
            exact ⟨fr_cell fz.out c7, fr_cell fz.out c8, fr_cell fz.out c9, fz⟩
          (try simp only [Act.put, List.getElem_toArray, List.getElem_cons_zero, List.getElem_cons_succ, List.setIfInBounds_toArray, List.set_cons_zero, List.set_cons_succ])
          have n := N1_01.out am cm b0 wv.heap.size _ hHeld IM V0 V1 D01
          rw [hops.out, ha0.out] at n
          (try simp only [Act.put, List.getElem_toArray, List.getElem_cons_zero, List.getElem_cons_succ, List.setIfInBounds_toArray, List.set_cons_zero, List.set_cons_succ] at n)
          exact n
        exact AllReadyH.nil
      have N1_1 : Hid (∀ (am : Option Addr) (cm : Nat) (b1 : Nat) (wv : World), (fun w' => w'.cell? ⟨w3.heap.size, 0, none⟩ = some (.slice ax (nlen 4294967296 x) cx) ∧ w'.cell? ⟨w3.heap.size + 1, 0, none⟩ = some (.slice ay (nlen 4294967296 y) cy) ∧ w'.cell? ⟨w3.heap.size + 1 + 1, 0, none⟩ = some (.slice ar (nlen 4294967296 r) cr) ∧ Hid (Fr wc w')) wv → (IM : Hid (IsNat wv (.agg #[.slice am (nlen 4294967296 (x * y)) cm]) (x * y))) → (V1 : Hid (Var wc wv b1)) → wpAnyH Try.prog .any ops Q (fun w' => w'.cell? ⟨w3.heap.size, 0, none⟩ = some (.slice ax (nlen 4294967296 x) cx) ∧ w'.cell? ⟨w3.heap.size + 1, 0, none⟩ = some (.slice ay (nlen 4294967296 y) cy) ∧ w'.cell? ⟨w3.heap.size + 1 + 1, 0, none⟩ = some (.slice ar (nlen 4294967296 r) cr) ∧ Hid (Fr wc w')) 10 #[true, true, true, true, false, true, false, false, false, false, false, false, true, false, false, false] ((((((a0.put (some 49) (.agg #[.slice ax (nlen 4294967296 (x)) cx])).put (some 50) (.agg #[.slice ay (nlen 4294967296 (y)) cy])).put (some 52) (.agg #[.slice ar (nlen 4294967296 (r)) cr])).put (some 54) (.agg #[.slice ay (nlen 4294967296 (y)) cy])).put (some 51) (.agg #[.slice am (nlen 4294967296 (x * y)) cm])).put (some 14) (.pointer (some ⟨b1, 0, none⟩))) wv) := by
        refine hide ?_
        intro am cm b1 wv hHeld IM V1
        clear N3_01 N3_0 N3_1 N3_ N2_01 N2_0 N2_ N1_0
        rw [hops.out, ha0.out]
        (try simp only [Act.put, List.getElem_toArray, List.getElem_cons_zero, List.getElem_cons_succ, List.setIfInBounds_toArray, List.set_cons_zero, List.set_cons_succ])
        refine wpAnyH_ready (rs := [4, 11]) (by kernel_rfl) (by simp) ?_
        refine AllReadyH.cons rfl (fun K hK => ?_) ?_
        · have hh : Hid (Fr wc wv) := hHeld.2.2.2
          go_simp
          refine (add_any _ _ (x * y) r _ IM.out (IsNat.fr HR.out hh.out) (by omega) (by omega)).mono ?_
          rintro e wn ⟨au, cu, rfl, iu, _, fy⟩
          have fz := hide (hh.out.trans fy)
          have IS := hide iu
          have V1 := hide (Var.fr V1.out fy)
          (try go_wp2_with fail)
          refine hK.out _ _ ?_ (fun hHeld => ?_)
          · (try dsimp only)
            exact ⟨fr_cell fz.out c7, fr_cell fz.out c8, fr_cell fz.out c9, fz⟩
          (try simp only [Act.put, List.getElem_toArray, List.getElem_cons_zero, List.getElem_cons_succ, List.setIfInBounds_toArray, List.set_cons_zero, List.set_cons_succ])
          have n := N2_1.out am cm au cu b1 wn hHeld IS V1
          rw [hops.out, ha0.out] at n
          (try simp only [Act.put, List.getElem_toArray, List.getElem_cons_zero, List.getElem_cons_succ, List.setIfInBounds_toArray, List.set_cons_zero, List.set_cons_succ] at n)
          exact n
        refine AllReadyH.cons rfl (fun K hK => ?_) ?_
        · have hh : Hid (Fr wc wv) := hHeld.2.2.2
          have hn := Var.new (W := wc) (w := wv) (t := 25) hh.out.size
          have fz := hide (hh.out.trans (Fr.alloc wv (.cells #[.slice none 0 0] 25)))
          have D01 : wv.heap.size ≠ b1 := by have := Var.lt V1.out; omega
          have V0 := hide hn
          have IM := hide (IsNat.fr IM.out (Fr.alloc wv (.cells #[.slice none 0 0] 25)))
          have V1 := hide (Var.fr V1.out (Fr.alloc wv (.cells #[.slice none 0 0] 25)))
          clear hn
          go_simp
          refine hK.out _ _ ?_ (fun hHeld => ?_)
          · (try dsimp only)
            exact ⟨fr_cell fz.out c7, fr_cell fz.out c8, fr_cell fz.out c9, fz⟩
          (try simp only [Act.put, List.getElem_toArray, List.getElem_cons_zero, List.getElem_cons_succ, List.setIfInBounds_toArray, List.set_cons_zero, List.set_cons_succ])
          have n := N1_01.out am cm wv.heap.size b1 _ hHeld IM V0 V1 D01
          rw [hops.out, ha0.out] at n
          (try simp only [Act.put, List.getElem_toArray, List.getElem_cons_zero, List.getElem_cons_succ, List.setIfInBounds_toArray, List.set_cons_zero, List.set_cons_succ] at n)
          exact n
        exact AllReadyH.nil
      have N1_ : Hid (∀ (am : Option Addr) (cm : Nat) (wv : World), (fun w' => w'.cell? ⟨w3.heap.size, 0, none⟩ = some (.slice ax (nlen 4294967296 x) cx) ∧ w'.cell? ⟨w3.heap.size + 1, 0, none⟩ = some (.slice ay (nlen 4294967296 y) cy) ∧ w'.cell? ⟨w3.heap.size + 1 + 1, 0, none⟩ = some (.slice ar (nlen 4294967296 r) cr) ∧ Hid (Fr wc w')) wv → (IM : Hid (IsNat wv (.agg #[.slice am (nlen 4294967296 (x * y)) cm]) (x * y))) → wpAnyH Try.prog .any ops Q (fun w' => w'.cell? ⟨w3.heap.size, 0, none⟩ = some (.slice ax (nlen 4294967296 x) cx) ∧ w'.cell? ⟨w3.heap.size + 1, 0, none⟩ = some (.slice ay (nlen 4294967296 y) cy) ∧ w'.cell? ⟨w3.heap.size + 1 + 1, 0, none⟩ = some (.slice ar (nlen 4294967296 r) cr) ∧ Hid (Fr wc w')) 11 #[true, true, true, true, false, true, false, false, false, false, false, false, false, false, false, false] (((((a0.put (some 49) (.agg #[.slice ax (nlen 4294967296 (x)) cx])).put (some 50) (.agg #[.slice ay (nlen 4294967296 (y)) cy])).put (some 52) (.agg #[.slice ar (nlen 4294967296 (r)) cr])).put (some 54) (.agg #[.slice ay (nlen 4294967296 (y)) cy])).put (some 51) (.agg #[.slice am (nlen 4294967296 (x * y)) cm])) wv) := by
        refine hide ?_
        intro am cm  wv hHeld IM
        clear N3_01 N3_0 N3_1 N3_ N2_01 N2_0 N2_1 N1_01
        rw [hops.out, ha0.out]
        (try simp only [Act.put, List.getElem_toArray, List.getElem_cons_zero, List.getElem_cons_succ, List.setIfInBounds_toArray, List.set_cons_zero, List.set_cons_succ])
        refine wpAnyH_ready (rs := [4, 11, 12]) (by kernel_rfl) (by simp) ?_
        refine AllReadyH.cons rfl (fun K hK => ?_) ?_
        · have hh : Hid (Fr wc wv) := hHeld.2.2.2
          go_simp
          refine (add_any _ _ (x * y) r _ IM.out (IsNat.fr HR.out hh.out) (by omega) (by omega)).mono ?_
          rintro e wn ⟨au, cu, rfl, iu, _, fy⟩
          have fz := hide (hh.out.trans fy)
          have IS := hide iu
          (try go_wp2_with fail)
          refine hK.out _ _ ?_ (fun hHeld => ?_)
          · (try dsimp only)
            exact ⟨fr_cell fz.out c7, fr_cell fz.out c8, fr_cell fz.out c9, fz⟩
          (try simp only [Act.put, List.getElem_toArray, List.getElem_cons_zero, List.getElem_cons_succ, List.setIfInBounds_toArray, List.set_cons_zero, List.set_cons_succ])
          have n := N2_.out am cm au cu wn hHeld IS
          rw [hops.out, ha0.out] at n
          (try simp only [Act.put, List.getElem_toArray, List.getElem_cons_zero, List.getElem_cons_succ, List.setIfInBounds_toArray, List.set_cons_zero, List.set_cons_succ] at n)
          exact n
        refine AllReadyH.cons rfl (fun K hK => ?_) ?_
        · have hh : Hid (Fr wc wv) := hHeld.2.2.2
          have hn := Var.new (W := wc) (w := wv) (t := 25) hh.out.size
          have fz := hide (hh.out.trans (Fr.alloc wv (.cells #[.slice none 0 0] 25)))
          have V0 := hide hn
          have IM := hide (IsNat.fr IM.out (Fr.alloc wv (.cells #[.slice none 0 0] 25)))
          clear hn
          go_simp
          refine hK.out _ _ ?_ (fun hHeld => ?_)
          · (try dsimp only)
            exact ⟨fr_cell fz.out c7, fr_cell fz.out c8, fr_cell fz.out c9, fz⟩
          (try simp only [Act.put, List.getElem_toArray, List.getElem_cons_zero, List.getElem_cons_succ, List.setIfInBounds_toArray, List.set_cons_zero, List.set_cons_succ])
          have n := N1_0.out am cm wv.heap.size _ hHeld IM V0
          rw [hops.out, ha0.out] at n
          (try simp only [Act.put, List.getElem_toArray, List.getElem_cons_zero, List.getElem_cons_succ, List.setIfInBounds_toArray, List.set_cons_zero, List.set_cons_succ] at n)
          exact n
        refine AllReadyH.cons rfl (fun K hK => ?_) ?_
        · have hh : Hid (Fr wc wv) := hHeld.2.2.2
          have hn := Var.new (W := wc) (w := wv) (t := 25) hh.out.size
          have fz := hide (hh.out.trans (Fr.alloc wv (.cells #[.slice none 0 0] 25)))
          have V1 := hide hn
          have IM := hide (IsNat.fr IM.out (Fr.alloc wv (.cells #[.slice none 0 0] 25)))
          clear hn
          go_simp
          refine hK.out _ _ ?_ (fun hHeld => ?_)
          · (try dsimp only)
            exact ⟨fr_cell fz.out c7, fr_cell fz.out c8, fr_cell fz.out c9, fz⟩
          (try simp only [Act.put, List.getElem_toArray, List.getElem_cons_zero, List.getElem_cons_succ, List.setIfInBounds_toArray, List.set_cons_zero, List.set_cons_succ])
          have n := N1_1.out am cm wv.heap.size _ hHeld IM V1
          rw [hops.out, ha0.out] at n
          (try simp only [Act.put, List.getElem_toArray, List.getElem_cons_zero, List.getElem_cons_succ, List.setIfInBounds_toArray, List.set_cons_zero, List.set_cons_succ] at n)
          exact n
        exact AllReadyH.nil
      have N0_01 : Hid (∀ (b0 : Nat) (b1 : Nat) (wv : World), (fun w' => w'.cell? ⟨w3.heap.size, 0, none⟩ = some (.slice ax (nlen 4294967296 x) cx) ∧ w'.cell? ⟨w3.heap.size + 1, 0, none⟩ = some (.slice ay (nlen 4294967296 y) cy) ∧ w'.cell? ⟨w3.heap.size + 1 + 1, 0, none⟩ = some (.slice ar (nlen 4294967296 r) cr) ∧ Hid (Fr wc w')) wv → (V0 : Hid (Var wc wv b0)) → (V1 : Hid (Var wc wv b1)) → (D01 : b0 ≠ b1) → wpAnyH Try.prog .any ops Q (fun w' => w'.cell? ⟨w3.heap.size, 0, none⟩ = some (.slice ax (nlen 4294967296 x) cx) ∧ w'.cell? ⟨w3.heap.size + 1, 0, none⟩ = some (.slice ay (nlen 4294967296 y) cy) ∧ w'.cell? ⟨w3.heap.size + 1 + 1, 0, none⟩ = some (.slice ar (nlen 4294967296 r) cr) ∧ Hid (Fr wc w')) 10 #[true, true, false, true, false, true, false, false, false, false, false, true, true, false, false, false] ((((((a0.put (some 49) (.agg #[.slice ax (nlen 4294967296 (x)) cx])).put (some 50) (.agg #[.slice ay (nlen 4294967296 (y)) cy])).put (some 52) (.agg #[.slice ar (nlen 4294967296 (r)) cr])).put (some 54) (.agg #[.slice ay (nlen 4294967296 (y)) cy])).put (some 13) (.pointer (some ⟨b0, 0, none⟩))).put (some 14) (.pointer (some ⟨b1, 0, none⟩))) wv) := by
        refine hide ?_
        intro  b0 b1 wv hHeld V0 V1 D01
        clear N3_01 N3_0 N3_1 N3_ N2_01 N2_0 N2_1 N2_ N1_0 N1_1 N1_
        rw [hops.out, ha0.out]
        (try simp only [Act.put, List.getElem_toArray, List.getElem_cons_zero, List.getElem_cons_succ, List.setIfInBounds_toArray, List.set_cons_zero, List.set_cons_succ])
        refine wpAnyH_ready (rs := [2]) (by kernel_rfl) (by simp) ?_
        refine AllReadyH.cons rfl (fun K hK => ?_) ?_
        · have hh : Hid (Fr wc wv) := hHeld.2.2.2
          go_simp
          refine (mul_any _ _ x y _ (IsNat.fr HX.out hh.out) (IsNat.fr HY.out hh.out) (by omega) (by omega)).mono ?_
          rintro e wn ⟨am, cm, rfl, im, _, fy⟩
          have fz := hide (hh.out.trans fy)
          have IM := hide im
          have V0 := hide (Var.fr V0.out fy)
          have V1 := hide (Var.fr V1.out fy)
          (try go_wp2_with fail)
          refine hK.out _ _ ?_ (fun hHeld => ?_)
          · (try dsimp only)
            exact ⟨fr_cell fz.out c7, fr_cell fz.out c8, fr_cell fz.out c9, fz⟩
          (try simp only [Act.put, List.getElem_toArray, List.getElem_cons_zero, List.getElem_cons_succ, List.setIfInBounds_toArray, List.set_cons_zero, List.set_cons_succ])
          have n := N1_01.out am cm b0 b1 wn hHeld IM V0 V1 D01
          rw [hops.out, ha0.out] at n
          (try simp only [Act.put, List.getElem_toArray, List.getElem_cons_zero, List.getElem_cons_succ, List.setIfInBounds_toArray, List.set_cons_zero, List.set_cons_succ] at n)
          exact n
        exact AllReadyH.nil
      have N0_0 : Hid (∀ (b0 : Nat) (wv : World), (fun w' => w'.cell? ⟨w3.heap.size, 0, none⟩ = some (.slice ax (nlen 4294967296 x) cx) ∧ w'.cell? ⟨w3.heap.size + 1, 0, none⟩ = some (.slice ay (nlen 4294967296 y) cy) ∧ w'.cell? ⟨w3.heap.size + 1 + 1, 0, none⟩ = some (.slice ar (nlen 4294967296 r) cr) ∧ Hid (Fr wc w')) wv → (V0 : Hid (Var wc wv b0)) → wpAnyH Try.prog .any ops Q (fun w' => w'.cell? ⟨w3.heap.size, 0, none⟩ = some (.slice ax (nlen 4294967296 x) cx) ∧ w'.cell? ⟨w3.heap.size + 1, 0, none⟩ = some (.slice ay (nlen 4294967296 y) cy) ∧ w'.cell? ⟨w3.heap.size + 1 + 1, 0, none⟩ = some (.slice ar (nlen 4294967296 r) cr) ∧ Hid (Fr wc w')) 11 #[true, true, false, true, false, true, false, false, false, false, false, true, false, false, false, false] (((((a0.put (some 49) (.agg #[.slice ax (nlen 4294967296 (x)) cx])).put (some 50) (.agg #[.slice ay (nlen 4294967296 (y)) cy])).put (some 52) (.agg #[.slice ar (nlen 4294967296 (r)) cr])).put (some 54) (.agg #[.slice ay (nlen 4294967296 (y)) cy])).put (some 13) (.pointer (some ⟨b0, 0, none⟩))) wv) := by
        refine hide ?_
        intro  b0 wv hHeld V0
        clear N3_01 N3_0 N3_1 N3_ N2_01 N2_0 N2_1 N2_ N1_01 N1_1 N1_
        rw [hops.out, ha0.out]
        (try simp only [Act.put, List.getElem_toArray, List.getElem_cons_zero, List.getElem_cons_succ, List.setIfInBounds_toArray, List.set_cons_zero, List.set_cons_succ])
        refine wpAnyH_ready (rs := [2, 12]) (by kernel_rfl) (by simp) ?_
        refine AllReadyH.cons rfl (fun K hK => ?_) ?_
        · have hh : Hid (Fr wc wv) := hHeld.2.2.2
          go_simp
          refine (mul_any _ _ x y _ (IsNat.fr HX.out hh.out) (IsNat.fr HY.out hh.out) (by omega) (by omega)).mono ?_
          rintro e wn ⟨am, cm, rfl, im, _, fy⟩
          have fz := hide (hh.out.trans fy)
          have IM := hide im
          have V0 := hide (Var.fr V0.out fy)
          (try go_wp2_with fail)
          refine hK.out _ _ ?_ (fun hHeld => ?_)
          · (try dsimp only)
            exact ⟨fr_cell fz.out c7, fr_cell fz.out c8, fr_cell fz.out c9, fz⟩
          (try simp only [Act.put, List.getElem_toArray, List.getElem_cons_zero, List.getElem_cons_succ, List.setIfInBounds_toArray, List.set_cons_zero, List.set_cons_succ])
          have n := N1_0.out am cm b0 wn hHeld IM V0
          rw [hops.out, ha0.out] at n
          (try simp only [Act.put, List.getElem_toArray, List.getElem_cons_zero, List.getElem_cons_succ, List.setIfInBounds_toArray, List.set_cons_zero, List.set_cons_succ] at n)
          exact n
        refine AllReadyH.cons rfl (fun K hK => ?_) ?_
        · have hh : Hid (Fr wc wv) := hHeld.2.2.2
          have hn := Var.new (W := wc) (w := wv) (t := 25) hh.out.size
          have fz := hide (hh.out.trans (Fr.alloc wv (.cells #[.slice none 0 0] 25)))
          have D01 : b0 ≠ wv.heap.size := by have := Var.lt V0.out; omega
          have V1 := hide hn
          have V0 := hide (Var.fr V0.out (Fr.alloc wv (.cells #[.slice none 0 0] 25)))
          clear hn
          go_simp
          refine hK.out _ _ ?_ (fun hHeld => ?_)
          · (try dsimp only)
            exact ⟨fr_cell fz.out c7, fr_cell fz.out c8, fr_cell fz.out c9, fz⟩
          (try simp only [Act.put, List.getElem_toArray, List.getElem_cons_zero, List.getElem_cons_succ, List.setIfInBounds_toArray, List.set_cons_zero, List.set_cons_succ])
          have n := N0_01.out b0 wv.heap.size _ hHeld V0 V1 D01
          rw [hops.out, ha0.out] at n
          (try simp only [Act.put, List.getElem_toArray, List.getElem_cons_zero, List.getElem_cons_succ, List.setIfInBounds_toArray, List.set_cons_zero, List.set_cons_succ] at n)
          exact n
        exact AllReadyH.nil
      have N0_1 : Hid (∀ (b1 : Nat) (wv : World), (fun w' => w'.cell? ⟨w3.heap.size, 0, none⟩ = some (.slice ax (nlen 4294967296 x) cx) ∧ w'.cell? ⟨w3.heap.size + 1, 0, none⟩ = some (.slice ay (nlen 4294967296 y) cy) ∧ w'.cell? ⟨w3.heap.size + 1 + 1, 0, none⟩ = some (.slice ar (nlen 4294967296 r) cr) ∧ Hid (Fr wc w')) wv → (V1 : Hid (Var wc wv b1)) → wpAnyH Try.prog .any ops Q (fun w' => w'.cell? ⟨w3.heap.size, 0, none⟩ = some (.slice ax (nlen 4294967296 x) cx) ∧ w'.cell? ⟨w3.heap.size + 1, 0, none⟩ = some (.slice ay (nlen 4294967296 y) cy) ∧ w'.cell? ⟨w3.heap.size + 1 + 1, 0, none⟩ = some (.slice ar (nlen 4294967296 r) cr) ∧ Hid (Fr wc w')) 11 #[true, true, false, true, false, true, false, false, false, false, false, false, true, false, false, false] (((((a0.put (some 49) (.agg #[.slice ax (nlen 4294967296 (x)) cx])).put (some 50) (.agg #[.slice ay (nlen 4294967296 (y)) cy])).put (some 52) (.agg #[.slice ar (nlen 4294967296 (r)) cr])).put (some 54) (.agg #[.slice ay (nlen 4294967296 (y)) cy])).put (some 14) (.pointer (some ⟨b1, 0, none⟩))) wv) := by
        refine hide ?_
        intro  b1 wv hHeld V1
        clear N3_01 N3_0 N3_1 N3_ N2_01 N2_0 N2_1 N2_ N1_01 N1_0 N1_ N0_0
        rw [hops.out, ha0.out]
        (try simp only [Act.put, List.getElem_toArray, List.getElem_cons_zero, List.getElem_cons_succ, List.setIfInBounds_toArray, List.set_cons_zero, List.set_cons_succ])
        refine wpAnyH_ready (rs := [2, 11]) (by kernel_rfl) (by simp) ?_
        refine AllReadyH.cons rfl (fun K hK => ?_) ?_
        · have hh : Hid (Fr wc wv) := hHeld.2.2.2
          go_simp
          refine (mul_any _ _ x y _ (IsNat.fr HX.out hh.out) (IsNat.fr HY.out hh.out) (by omega) (by omega)).mono ?_
          rintro e wn ⟨am, cm, rfl, im, _, fy⟩
          have fz := hide (hh.out.trans fy)
          have IM := hide im
          have V1 := hide (Var.fr V1.out fy)
          (try go_wp2_with fail)
          refine hK.out _ _ ?_ (fun hHeld => ?_)
          · (try dsimp only)
            exact ⟨fr_cell fz.out c7, fr_cell fz.out c8, fr_cell fz.out c9, fz⟩
          (try simp only [Act.put, List.getElem_toArray, List.getElem_cons_zero, List.getElem_cons_succ, List.setIfInBounds_toArray, List.set_cons_zero, List.set_cons_succ])
          have n := N1_1.out am cm b1 wn hHeld IM V1
          rw [hops.out, ha0.out] at n
          (try simp only [Act.put, List.getElem_toArray, List.getElem_cons_zero, List.getElem_cons_succ, List.setIfInBounds_toArray, List.set_cons_zero, List.set_cons_succ] at n)
          exact n
        refine AllReadyH.cons rfl (fun K hK => ?_) ?_
        · have hh : Hid (Fr wc wv) := hHeld.2.2.2
          have hn := Var.new (W := wc) (w := wv) (t := 25) hh.out.size
          have fz := hide (hh.out.trans (Fr.alloc wv (.cells #[.slice none 0 0] 25)))
          have D01 : wv.heap.size ≠ b1 := by have := Var.lt V1.out; omega
          have V0 := hide hn
          have V1 := hide (Var.fr V1.out (Fr.alloc wv (.cells #[.slice none 0 0] 25)))
          clear hn
          go_simp
          refine hK.out _ _ ?_ (fun hHeld => ?_)
          · (try dsimp only)
            exact ⟨fr_cell fz.out c7, fr_cell fz.out c8, fr_cell fz.out c9, fz⟩
          (try simp only [Act.put, List.getElem_toArray, List.getElem_cons_zero, List.getElem_cons_succ, List.setIfInBounds_toArray, List.set_cons_zero, List.set_cons_succ])
          have n := N0_01.out wv.heap.size b1 _ hHeld V0 V1 D01
          rw [hops.out, ha0.out] at n
          (try simp only [Act.put, List.getElem_toArray, List.getElem_cons_zero, List.getElem_cons_succ, List.setIfInBounds_toArray, List.set_cons_zero, List.set_cons_succ] at n)
          exact n
        exact AllReadyH.nil
      have N0_ : Hid (∀ (wv : World), (fun w' => w'.cell? ⟨w3.heap.size, 0, none⟩ = some (.slice ax (nlen 4294967296 x) cx) ∧ w'.cell? ⟨w3.heap.size + 1, 0, none⟩ = some (.slice ay (nlen 4294967296 y) cy) ∧ w'.cell? ⟨w3.heap.size + 1 + 1, 0, none⟩ = some (.slice ar (nlen 4294967296 r) cr) ∧ Hid (Fr wc w')) wv → wpAnyH Try.prog .any ops Q (fun w' => w'.cell? ⟨w3.heap.size, 0, none⟩ = some (.slice ax (nlen 4294967296 x) cx) ∧ w'.cell? ⟨w3.heap.size + 1, 0, none⟩ = some (.slice ay (nlen 4294967296 y) cy) ∧ w'.cell? ⟨w3.heap.size + 1 + 1, 0, none⟩ = some (.slice ar (nlen 4294967296 r) cr) ∧ Hid (Fr wc w')) 12 #[true, true, false, true, false, true, false, false, false, false, false, false, false, false, false, false] ((((a0.put (some 49) (.agg #[.slice ax (nlen 4294967296 (x)) cx])).put (some 50) (.agg #[.slice ay (nlen 4294967296 (y)) cy])).put (some 52) (.agg #[.slice ar (nlen 4294967296 (r)) cr])).put (some 54) (.agg #[.slice ay (nlen 4294967296 (y)) cy])) wv) := by
        refine hide ?_
        intro   wv hHeld 
        clear N3_01 N3_0 N3_1 N3_ N2_01 N2_0 N2_1 N2_ N1_01 N1_0 N1_1 N0_01
        rw [hops.out, ha0.out]
        (try simp only [Act.put, List.getElem_toArray, List.getElem_cons_zero, List.getElem_cons_succ, List.setIfInBounds_toArray, List.set_cons_zero, List.set_cons_succ])
        refine wpAnyH_ready (rs := [2, 11, 12]) (by kernel_rfl) (by simp) ?_
        refine AllReadyH.cons rfl (fun K hK => ?_) ?_
        · have hh : Hid (Fr wc wv) := hHeld.2.2.2
          go_simp
          refine (mul_any _ _ x y _ (IsNat.fr HX.out hh.out) (IsNat.fr HY.out hh.out) (by omega) (by omega)).mono ?_
          rintro e wn ⟨am, cm, rfl, im, _, fy⟩
          have fz := hide (hh.out.trans fy)
          have IM := hide im
          (try go_wp2_with fail)
          refine hK.out _ _ ?_ (fun hHeld => ?_)
          · (try dsimp only)
            exact ⟨fr_cell fz.out c7, fr_cell fz.out c8, fr_cell fz.out c9, fz⟩
          (try simp only [Act.put, List.getElem_toArray, List.getElem_cons_zero, List.getElem_cons_succ, List.setIfInBounds_toArray, List.set_cons_zero, List.set_cons_succ])
          have n := N1_.out am cm wn hHeld IM
          rw [hops.out, ha0.out] at n
          (try simp only [Act.put, List.getElem_toArray, List.getElem_cons_zero, List.getElem_cons_succ, List.setIfInBounds_toArray, List.set_cons_zero, List.set_cons_succ] at n)
          exact n
        refine AllReadyH.cons rfl (fun K hK => ?_) ?_
        · have hh : Hid (Fr wc wv) := hHeld.2.2.2
          have hn := Var.new (W := wc) (w := wv) (t := 25) hh.out.size
          have fz := hide (hh.out.trans (Fr.alloc wv (.cells #[.slice none 0 0] 25)))
          have V0 := hide hn
          clear hn
          go_simp
          refine hK.out _ _ ?_ (fun hHeld => ?_)
          · (try dsimp only)
            exact ⟨fr_cell fz.out c7, fr_cell fz.out c8, fr_cell fz.out c9, fz⟩
          (try simp only [Act.put, List.getElem_toArray, List.getElem_cons_zero, List.getElem_cons_succ, List.setIfInBounds_toArray, List.set_cons_zero, List.set_cons_succ])
          have n := N0_0.out wv.heap.size _ hHeld V0
          rw [hops.out, ha0.out] at n
          (try simp only [Act.put, List.getElem_toArray, List.getElem_cons_zero, List.getElem_cons_succ, List.setIfInBounds_toArray, List.set_cons_zero, List.set_cons_succ] at n)
          exact n
        refine AllReadyH.cons rfl (fun K hK => ?_) ?_
        · have hh : Hid (Fr wc wv) := hHeld.2.2.2
          have hn := Var.new (W := wc) (w := wv) (t := 25) hh.out.size
          have fz := hide (hh.out.trans (Fr.alloc wv (.cells #[.slice none 0 0] 25)))
          have V1 := hide hn
          clear hn
          go_simp
          refine hK.out _ _ ?_ (fun hHeld => ?_)
          · (try dsimp only)
            exact ⟨fr_cell fz.out c7, fr_cell fz.out c8, fr_cell fz.out c9, fz⟩
          (try simp only [Act.put, List.getElem_toArray, List.getElem_cons_zero, List.getElem_cons_succ, List.setIfInBounds_toArray, List.set_cons_zero, List.set_cons_succ])
          have n := N0_1.out wv.heap.size _ hHeld V1
          rw [hops.out, ha0.out] at n
          (try simp only [Act.put, List.getElem_toArray, List.getElem_cons_zero, List.getElem_cons_succ, List.setIfInBounds_toArray, List.set_cons_zero, List.set_cons_succ] at n)
          exact n
        exact AllReadyH.nil
      clear N3_01 N3_0 N3_1 N3_ N2_01 N2_0 N2_1 N2_ N1_01 N1_0 N1_1 N1_ N0_01 N0_0 N0_1
      rw [hops.out, ha0.out]
      have hHeld := hHeld0
      refine wpAnyH_take (i := 0) (v := ?_) rfl (by kernel_rfl) (by kernel_rfl) (by kernel_rfl) (fun _ _ _ h => HPan.out _ _ _ _ _ h) (Or.inl ⟨by rfl, ?_⟩) (by assumption) ?_
      rotate_left
      · (intro w hSw; (try dsimp only at hSw); go_simp; try with_reducible rfl)
      (try simp only [Act.put, List.getElem_toArray, List.getElem_cons_zero, List.getElem_cons_succ, List.setIfInBounds_toArray, List.set_cons_zero, List.set_cons_succ])
      refine wpAnyH_take (i := 1) (v := ?_) rfl (by kernel_rfl) (by kernel_rfl) (by kernel_rfl) (fun _ _ _ h => HPan.out _ _ _ _ _ h) (Or.inl ⟨by rfl, ?_⟩) (by assumption) ?_
      rotate_left
      · (intro w hSw; (try dsimp only at hSw); go_simp; try with_reducible rfl)
      (try simp only [Act.put, List.getElem_toArray, List.getElem_cons_zero, List.getElem_cons_succ, List.setIfInBounds_toArray, List.set_cons_zero, List.set_cons_succ])
      refine wpAnyH_take (i := 3) (v := ?_) rfl (by kernel_rfl) (by kernel_rfl) (by kernel_rfl) (fun _ _ _ h => HPan.out _ _ _ _ _ h) (Or.inl ⟨by rfl, ?_⟩) (by assumption) ?_
      rotate_left
      · (intro w hSw; (try dsimp only at hSw); go_simp; try with_reducible rfl)
      (try simp only [Act.put, List.getElem_toArray, List.getElem_cons_zero, List.getElem_cons_succ, List.setIfInBounds_toArray, List.set_cons_zero, List.set_cons_succ])
      refine wpAnyH_take (i := 5) (v := ?_) rfl (by kernel_rfl) (by kernel_rfl) (by kernel_rfl) (fun _ _ _ h => HPan.out _ _ _ _ _ h) (Or.inl ⟨by rfl, ?_⟩) (by assumption) ?_
      rotate_left
      · (intro w hSw; (try dsimp only at hSw); go_simp; try with_reducible rfl)
      (try simp only [Act.put, List.getElem_toArray, List.getElem_cons_zero, List.getElem_cons_succ, List.setIfInBounds_toArray, List.set_cons_zero, List.set_cons_succ])
      have n := N0_.out _ hHeld
      rw [hops.out, ha0.out] at n
      (try simp only [Act.put, List.getElem_toArray, List.getElem_cons_zero, List.getElem_cons_succ, List.setIfInBounds_toArray, List.set_cons_zero, List.set_cons_succ] at n)
      exact n
end Go.Proofs.Ytblhpoahcglcbaa
