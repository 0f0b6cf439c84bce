/- The law QuotHalves. -/
import Derived.Test.YtblhpoahcglcbaaQuotG
import Derived.Test.YtblhpoahcglcbaaRegions
import Derived.Deep.RegionHeld3
namespace Go.Proofs.Ytblhpoahcglcbaa
set_option linter.unusedVariables false
set_option linter.unusedSimpArgs false
open Go.RowKit

theorem half_low {x y : Nat} (hy : y ≠ 0) : halfN x y * (y + y) ≤ x + x + y := by
  have h1 := Nat.div_add_mod x y
  have h2 := Nat.mod_lt x (by omega : 0 < y)
  unfold halfN
  generalize x / y = q at *
  generalize x % y = r at *
  have e : q * (y + y) = y * q + y * q := by rw [Nat.mul_add, Nat.mul_comm q y]
  have e2 : (q + 1) * (y + y) = y * q + y * q + (y + y) := by rw [Nat.succ_mul, e]
  split
  · rw [e]; omega
  · rw [e2]; omega
theorem half_high {x y : Nat} (hy : y ≠ 0) : x + x < halfN x y * (y + y) + y := by
  have h1 := Nat.div_add_mod x y
  have h2 := Nat.mod_lt x (by omega : 0 < y)
  unfold halfN
  generalize x / y = q at *
  generalize x % y = r at *
  have e : q * (y + y) = y * q + y * q := by rw [Nat.mul_add, Nat.mul_comm q y]
  have e2 : (q + 1) * (y + y) = y * q + y * q + (y + y) := by rw [Nat.succ_mul, e]
  split
  · rw [e]; omega
  · rw [e2]; omega
theorem nl_half {x y n : Nat} (h : nlen 4294967296 x ≤ n) (h1 : 1 ≤ n) : nlen 4294967296 (halfN x y) ≤ n + 1 := by
  unfold halfN
  split
  · exact Nat.le_trans (nl_div h) (by omega)
  · exact nl_sum (nl_div h) (by rw [nl1]; omega)

attribute [local go_sem] World.cell?_alloc_some
set_option maxHeartbeats 4000000 in
theorem law_QuotHalves (a0 : Option Addr) (len0 cap0 : Nat) (z0 : List Int) (a1 : Option Addr) (len1 cap1 : Nat) (z1 : List Int) (w : World) (h0 : IsRow .u32 w a0 len0 cap0 z0) (h1 : IsRow .u32 w a1 len1 cap1 z1) :
    Calls Try.prog 5 #[.slice a0 len0 cap0, .slice a1 len1 cap1] w fun e w' => e = .returned (.bool true) ∧ Fr w w' := by
  obtain ⟨k0, x, kx, _, lx, _, fewx, madex⟩ := came 20 (by omega) h0
  obtain ⟨k1, y, ky, _, ly, _, fewy, madey⟩ := came 20 (by omega) h1
  have FX := hide fewx
  have FY := hide fewy
  have MX := hide madex
  have MY := hide madey
  have nx : nlen 4294967296 x ≤ 20 := Nat.le_trans (nlen_le b32 lx) kx
  have ny : nlen 4294967296 y ≤ 20 := Nat.le_trans (nlen_le b32 ly) ky
  clear fewx fewy madex madey h0 h1 lx ly
  go_enter Try.func5, Try.ntmps5
  go_wp2_with fail
  refine (FX.out _).mono ?_
  rintro e w' ⟨rfl, rfl⟩
  go_wp2_with fail
  refine (MX.out _ (Fr.refl _)).mono ?_
  rintro e w1 ⟨ax, cx, rfl, hx, _, f1⟩
  go_wp2_with fail
  refine (FY.out _).mono ?_
  rintro e w' ⟨rfl, rfl⟩
  go_wp2_with fail
  refine (MY.out _ f1).mono ?_
  rintro e w3 ⟨ay, cy, rfl, hy, _, f2⟩
  have HX := hide (hx.fr f2)
  have HY := hide hy
  have F3 := hide (f1.trans f2)
  clear MX MY FX FY hx hy f1 f2
  go_wp2_with fail
  obtain ⟨W, hW⟩ : ∃ W, W = (w3.alloc (Obj.cells #[Value.slice ax (nlen 4294967296 x) cx] 25)).alloc (Obj.cells #[Value.slice ay (nlen 4294967296 y) cy] 25) := ⟨_, rfl⟩
  have fW : Fr w3 W := by rw [hW]; exact (Fr.alloc _ _).trans (Fr.alloc _ _)
  have c5 : W.cell? ⟨w3.heap.size, 0, none⟩ = some (.slice ax (nlen 4294967296 x) cx) := by rw [hW]; simp [go_sem]
  have c6 : W.cell? ⟨w3.heap.size + 1, 0, none⟩ = some (.slice ay (nlen 4294967296 y) cy) := by rw [hW]; simp [go_sem]
  rw [← hW]
  clear hW
  have HX := hide (IsNat.fr HX.out fW)
  have HY := hide (IsNat.fr HY.out fW)
  have F3 := hide (F3.out.trans fW)
  clear fW
  by_cases hy0 : y = 0
  · subst hy0
    refine (half_no _ _ x _ HX.out HY.out).mono ?_
    rintro e w4 ⟨rfl, f4⟩
    have c6 := fr_cell f4 c6
    go_wp2_with fail
    have HY4 := hide (IsNat.fr HY.out (f4.trans (Fr.alloc w4 (Obj.cells #[Value.slice none 0 0] 25))))
    refine (bits_any _ 0 _ HY4.out (by omega)).mono ?_
    rintro e w5 ⟨rfl, f5⟩
    rw [nlen_zero]
    have c7 : (w4.alloc (Obj.cells #[Value.slice none 0 0] 25)).cell? ⟨w4.heap.size, 0, none⟩ = some (.slice none 0 0) := by simp [go_sem]
    have c7 := fr_cell f5 c7
    go_wp2_with fail
    refine (wakes_any _).mono ?_
    rintro e w6 ⟨rfl, f6⟩
    have c7 := fr_cell f6 c7
    go_wp2_with fail
    refine (bits_any _ 0 _ (isNat_zero _) (by rw [nlen_zero]; omega)).mono ?_
    rintro e w7 ⟨rfl, f7⟩
    rw [nlen_zero]
    go_wp2_with fail
    go_ret
    exact ⟨rfl, ((((F3.out.trans f4).trans (Fr.alloc _ _)).trans f5).trans f6).trans f7⟩
  · refine (half_yes _ _ x y _ HX.out HY.out (by omega) (by omega) hy0).mono ?_
    rintro e w4 ⟨ah, ch, rfl, ih, _, f4⟩
    have hlo := hide (half_low (x := x) hy0)
    have hhi := hide (half_high (x := x) hy0)
    have nh : nlen 4294967296 (halfN x y) ≤ 21 := nl_half nx (by omega)
    generalize halfN x y = h at *
    have c6' := fr_cell f4 c6
    go_wp2_with fail
    clear c6'
    obtain ⟨WA, hWA⟩ : ∃ WA, WA = w4.alloc (Obj.cells #[Value.slice ah (nlen 4294967296 h) ch] 25) := ⟨_, rfl⟩
    have fA : Fr w4 WA := by rw [hWA]; exact Fr.alloc _ _
    have c7 : WA.cell? ⟨w4.heap.size, 0, none⟩ = some (.slice ah (nlen 4294967296 h) ch) := by rw [hWA]; simp [go_sem]
    rw [← hWA]
    clear hWA
    have c5 := fr_cell (f4.trans fA) c5
    have c6 := fr_cell (f4.trans fA) c6
    have HX := hide (IsNat.fr HX.out (f4.trans fA))
    have HY := hide (IsNat.fr HY.out (f4.trans fA))
    have IH := hide (IsNat.fr ih fA)
    have F3 := hide (F3.out.trans (f4.trans fA))
    clear fA f4 ih
    have hb0 : ((nlen 2 y : Int) == 0) = false := by
      have := nlen_pos (B := 2) (by omega) hy0
      have h : nlen 2 y ≠ 0 := by omega
      simp [h]
    refine (bits_any _ y _ HY.out (by omega)).mono ?_
    rintro e WB ⟨rfl, f5⟩
    obtain ⟨NB, hNB⟩ : ∃ NB, nlen 2 y = NB := ⟨_, rfl⟩
    rw [hNB] at hb0
    rw [hNB]
    clear hNB
    have c5 := fr_cell f5 c5
    have c6 := fr_cell f5 c6
    have c7 := fr_cell f5 c7
    have HX := hide (IsNat.fr HX.out f5)
    have HY := hide (IsNat.fr HY.out f5)
    have IH := hide (IsNat.fr IH.out f5)
    have F3 := hide (F3.out.trans f5)
    clear f5
    have nyy : nlen 4294967296 (y + y) ≤ 21 := nl_sum ny ny
    have nxx : nlen 4294967296 (x + x) ≤ 21 := nl_sum nx nx
    have np : nlen 4294967296 (h * (y + y)) ≤ 42 := nlen_mul b32 nh nyy
    have nlo : nlen 4294967296 (h * (y + y) + y) ≤ 43 := nl_sum np (by omega)
    have nhi : nlen 4294967296 (x + x + y) ≤ 22 := nl_sum nxx (by omega)
    have k1 : cmpZ (h * (y + y)) (x + x + y) ≤ 0 := by
      have := hlo.out
      unfold cmpZ; split
      · omega
      · split <;> omega
    have k2 : cmpZ (x + x) (h * (y + y) + y) = -1 := by unfold cmpZ; rw [if_pos hhi.out]
    have K2 := hide k2
    obtain ⟨cz, hcz⟩ : ∃ cz, cmpZ (h * (y + y)) (x + x + y) = cz := ⟨_, rfl⟩
    rw [hcz] at k1
    have K1 := hide hcz
    obtain ⟨P, hP⟩ : ∃ P, h * (y + y) = P := ⟨_, rfl⟩
    have HP := hide hP
    rw [hP] at np nlo K1 K2
    clear hcz k2 hP hlo hhi
    go_wp2_with fail
    refine wp_region_named (S := (fun w' => w'.cell? ⟨w3.heap.size, 0, none⟩ = some (.slice ax (nlen 4294967296 x) cx) ∧ w'.cell? ⟨w3.heap.size + 1, 0, none⟩ = some (.slice ay (nlen 4294967296 y) cy) ∧ w'.cell? ⟨w4.heap.size, 0, none⟩ = some (.slice ah (nlen 4294967296 h) ch) ∧ Hid (Fr WB w'))) (by kernel_rfl) (fun _ _ d _ _ h => by cases d <;> exact h) ?_ ?_
    · exact ⟨c5, c6, c7, Fr.drew _⟩
    intro ops hops Q hQ a0 ha0 HPan hHeld0
    have N2_0 : Hid (∀ (ad : Option Addr) (cd : Nat) (ap : Option Addr) (cp : Nat) (b0 : Nat) (wv : World), (fun w' => w'.cell? ⟨w3.heap.size, 0, none⟩ = some (.slice ax (nlen 4294967296 x) cx) ∧ w'.cell? ⟨w3.heap.size + 1, 0, none⟩ = some (.slice ay (nlen 4294967296 y) cy) ∧ w'.cell? ⟨w4.heap.size, 0, none⟩ = some (.slice ah (nlen 4294967296 h) ch) ∧ Hid (Fr WB w')) wv → (IP : Hid (IsNat wv (.agg #[.slice ap (nlen 4294967296 (P)) cp]) P)) → (Oap_0 : Off ap (nlen 4294967296 P) b0) → (V0 : Hid (Var WB wv b0)) → wpAnyH Try.prog .any ops Q (fun w' => w'.cell? ⟨w3.heap.size, 0, none⟩ = some (.slice ax (nlen 4294967296 x) cx) ∧ w'.cell? ⟨w3.heap.size + 1, 0, none⟩ = some (.slice ay (nlen 4294967296 y) cy) ∧ w'.cell? ⟨w4.heap.size, 0, none⟩ = some (.slice ah (nlen 4294967296 h) ch) ∧ Hid (Fr WB w')) 1 #[true, true, true, true, true, true, false] ((((((a0.put (some 37) (.agg #[.slice ah (nlen 4294967296 (h)) ch])).put (some 38) (.agg #[.slice ay (nlen 4294967296 (y)) cy])).put (some 39) (.agg #[.slice ay (nlen 4294967296 (y)) cy])).put (some 40) (.agg #[.slice ad (nlen 4294967296 (y + y)) cd])).put (some 41) (.agg #[.slice ap (nlen 4294967296 (P)) cp])).put (some 9) (.pointer (some ⟨b0, 0, none⟩))) wv) := by
      refine hide ?_
      intro ad cd ap cp b0 wv hHeld IP Oap_0 V0
      rw [hops.out, ha0.out]
      have HPanF := HPan
      rw [hQ.out] at HPanF
      rw [hQ.out]
      (try simp only [Act.put, List.getElem_toArray, List.getElem_cons_zero, List.getElem_cons_succ, List.setIfInBounds_toArray, List.set_cons_zero, List.set_cons_succ])
      have fz : Hid (Fr WB wv) := hHeld.2.2.2
      have vc := V0.out.1
      have vz := V0.out.2.1
      have vn := V0.out.2.2
      refine wpAnyH_ready (rs := [6]) (by kernel_rfl) (by simp) ?_
      refine AllReadyH.cons rfl (fun K hK => ?_) AllReadyH.nil
      go_simp
      (try go_wp2_with fail)
      have fz : Hid (Fr WB (wv.setCell ⟨b0, 0, none⟩ (.slice ap (nlen 4294967296 (P)) cp))) := Below.setCell fz.out vn _
      refine hK.out _ _ ?_ (fun hHeld => ?_)
      · (try dsimp only)
        exact ⟨fr_cell fz.out c5, fr_cell fz.out c6, fr_cell fz.out c7, fz⟩
      clear hK K
      (try simp only [Act.put, List.getElem_toArray, List.getElem_cons_zero, List.getElem_cons_succ, List.setIfInBounds_toArray, List.set_cons_zero, List.set_cons_succ])
      have cE0 : World.cell? (wv.setCell ⟨b0, 0, none⟩ (.slice ap (nlen 4294967296 (P)) cp)) ⟨b0, 0, none⟩ = some (.slice ap (nlen 4294967296 (P)) cp) := World.cell?_setCell_same _ _ _ vc
      have IP := hide (IsNat.off IP.out Oap_0 (.slice ap (nlen 4294967296 (P)) cp))
      clear vc vz vn
      refine wpAnyH_done (by kernel_rfl) ?_ _
      obtain ⟨WE, hWE⟩ : ∃ WE, WE = (wv.setCell ⟨b0, 0, none⟩ (.slice ap (nlen 4294967296 (P)) cp)) := ⟨_, rfl⟩
      rw [← hWE] at cE0
      rw [← hWE] at IP
      rw [← hWE] at fz
      rw [← hWE]
      have FE := fz
      clear fz hHeld hWE
      have cP := cE0
      have c5 := fr_cell FE.out c5
      have c6 := fr_cell FE.out c6
      have HX := hide (IsNat.fr HX.out FE.out)
      have HY := hide (IsNat.fr HY.out FE.out)
      have FA := hide (F3.out.trans FE.out)
      clear F3 FE IH HPan HPanF hops ha0 hQ V0 Oap_0
      go_wp2_with fail
      refine wp_region_named (S := (fun w' => w'.cell? ⟨w3.heap.size, 0, none⟩ = some (.slice ax (nlen 4294967296 x) cx) ∧ w'.cell? ⟨w3.heap.size + 1, 0, none⟩ = some (.slice ay (nlen 4294967296 y) cy) ∧ w'.cell? ⟨b0, 0, none⟩ = some (.slice ap (nlen 4294967296 P) cp) ∧ Hid (Fr WE w'))) (by kernel_rfl) (fun _ _ d _ _ h => by cases d <;> exact h) ?_ ?_
      · exact ⟨c5, c6, cE0, Fr.drew _⟩
      intro ops hops Q hQ a0 ha0 HPan hHeld0
      have N3_01 : Hid (∀ (al : Option Addr) (cl : Nat) (at2 : Option Addr) (ct2 : Nat) (ag2 : Option Addr) (cg : Nat) (d0 : Nat) (d1 : Nat) (wv : World), (fun w' => w'.cell? ⟨w3.heap.size, 0, none⟩ = some (.slice ax (nlen 4294967296 x) cx) ∧ w'.cell? ⟨w3.heap.size + 1, 0, none⟩ = some (.slice ay (nlen 4294967296 y) cy) ∧ w'.cell? ⟨b0, 0, none⟩ = some (.slice ap (nlen 4294967296 P) cp) ∧ Hid (Fr WE w')) wv → (IL : Hid (IsNat wv (.agg #[.slice al (nlen 4294967296 (P + y)) cl]) (P + y))) → (Oal_0 : Off al (nlen 4294967296 (P + y)) d0) → (Oal_1 : Off al (nlen 4294967296 (P + y)) d1) → (IG : Hid (IsNat wv (.agg #[.slice ag2 (nlen 4294967296 (x + x + y)) cg]) (x + x + y))) → (Oag2_0 : Off ag2 (nlen 4294967296 (x + x + y)) d0) → (Oag2_1 : Off ag2 (nlen 4294967296 (x + x + y)) d1) → (V0 : Hid (Var WE wv d0)) → (V1 : Hid (Var WE wv d1)) → (D01 : d0 ≠ d1) → wpAnyH Try.prog .any ops Q (fun w' => w'.cell? ⟨w3.heap.size, 0, none⟩ = some (.slice ax (nlen 4294967296 x) cx) ∧ w'.cell? ⟨w3.heap.size + 1, 0, none⟩ = some (.slice ay (nlen 4294967296 y) cy) ∧ w'.cell? ⟨b0, 0, none⟩ = some (.slice ap (nlen 4294967296 P) cp) ∧ Hid (Fr WE w')) 2 #[true, true, true, true, true, true, true, true, true, true, false, false] ((((((((((a0.put (some 42) (.agg #[.slice ap (nlen 4294967296 (P)) cp])).put (some 43) (.agg #[.slice ay (nlen 4294967296 (y)) cy])).put (some 45) (.agg #[.slice ax (nlen 4294967296 (x)) cx])).put (some 46) (.agg #[.slice ax (nlen 4294967296 (x)) cx])).put (some 48) (.agg #[.slice ay (nlen 4294967296 (y)) cy])).put (some 44) (.agg #[.slice al (nlen 4294967296 (P + y)) cl])).put (some 47) (.agg #[.slice at2 (nlen 4294967296 (x + x)) ct2])).put (some 49) (.agg #[.slice ag2 (nlen 4294967296 (x + x + y)) cg])).put (some 10) (.pointer (some ⟨d0, 0, none⟩))).put (some 11) (.pointer (some ⟨d1, 0, none⟩))) wv) := by
        refine hide ?_
        intro al cl at2 ct2 ag2 cg d0 d1 wv hHeld IL Oal_0 Oal_1 IG Oag2_0 Oag2_1 V0 V1 D01
        rw [hops.out, ha0.out]
        have HPanF := HPan
        rw [hQ.out] at HPanF
        rw [hQ.out]
        (try simp only [Act.put, List.getElem_toArray, List.getElem_cons_zero, List.getElem_cons_succ, List.setIfInBounds_toArray, List.set_cons_zero, List.set_cons_succ])
        have fz : Hid (Fr WE wv) := hHeld.2.2.2
        have vc := V0.out.1
        have vz := V0.out.2.1
        have vn := V0.out.2.2
        refine wpAnyH_ready (rs := [10]) (by kernel_rfl) (by simp) ?_
        refine AllReadyH.cons rfl (fun K hK => ?_) AllReadyH.nil
        go_simp
        (try go_wp2_with fail)
        have fz : Hid (Fr WE (wv.setCell ⟨d0, 0, none⟩ (.slice al (nlen 4294967296 (P + y)) cl))) := Below.setCell fz.out vn _
        refine hK.out _ _ ?_ (fun hHeld => ?_)
        · (try dsimp only)
          exact ⟨fr_cell fz.out c5, fr_cell fz.out c6, fr_cell fz.out cP, fz⟩
        clear hK K
        (try simp only [Act.put, List.getElem_toArray, List.getElem_cons_zero, List.getElem_cons_succ, List.setIfInBounds_toArray, List.set_cons_zero, List.set_cons_succ])
        have cE0 : World.cell? (wv.setCell ⟨d0, 0, none⟩ (.slice al (nlen 4294967296 (P + y)) cl)) ⟨d0, 0, none⟩ = some (.slice al (nlen 4294967296 (P + y)) cl) := World.cell?_setCell_same _ _ _ vc
        have V1 := hide (Var.put V1.out d0 (.slice al (nlen 4294967296 (P + y)) cl) D01)
        have IL := hide (IsNat.off IL.out Oal_0 (.slice al (nlen 4294967296 (P + y)) cl))
        have IG := hide (IsNat.off IG.out Oag2_0 (.slice al (nlen 4294967296 (P + y)) cl))
        clear vc vz vn
        have vc := V1.out.1
        have vz := V1.out.2.1
        have vn := V1.out.2.2
        refine wpAnyH_ready (rs := [11]) (by kernel_rfl) (by simp) ?_
        refine AllReadyH.cons rfl (fun K hK => ?_) AllReadyH.nil
        go_simp
        (try go_wp2_with fail)
        have fz : Hid (Fr WE ((wv.setCell ⟨d0, 0, none⟩ (.slice al (nlen 4294967296 (P + y)) cl)).setCell ⟨d1, 0, none⟩ (.slice ag2 (nlen 4294967296 (x + x + y)) cg))) := Below.setCell fz.out vn _
        refine hK.out _ _ ?_ (fun hHeld => ?_)
        · (try dsimp only)
          exact ⟨fr_cell fz.out c5, fr_cell fz.out c6, fr_cell fz.out cP, fz⟩
        clear hK K
        (try simp only [Act.put, List.getElem_toArray, List.getElem_cons_zero, List.getElem_cons_succ, List.setIfInBounds_toArray, List.set_cons_zero, List.set_cons_succ])
        have cE1 : World.cell? ((wv.setCell ⟨d0, 0, none⟩ (.slice al (nlen 4294967296 (P + y)) cl)).setCell ⟨d1, 0, none⟩ (.slice ag2 (nlen 4294967296 (x + x + y)) cg)) ⟨d1, 0, none⟩ = some (.slice ag2 (nlen 4294967296 (x + x + y)) cg) := World.cell?_setCell_same _ _ _ vc
        have cE0 := (World.cell?_setCell_other (wv.setCell ⟨d0, 0, none⟩ (.slice al (nlen 4294967296 (P + y)) cl)) ⟨d1, 0, none⟩ ⟨d0, 0, none⟩ (.slice ag2 (nlen 4294967296 (x + x + y)) cg) (fun e => D01.symm (by injection e))).trans cE0
        have IL := hide (IsNat.off IL.out Oal_1 (.slice ag2 (nlen 4294967296 (x + x + y)) cg))
        have IG := hide (IsNat.off IG.out Oag2_1 (.slice ag2 (nlen 4294967296 (x + x + y)) cg))
        clear vc vz vn
        refine wpAnyH_done (by kernel_rfl) ?_ _
        obtain ⟨WF, hWE⟩ : ∃ WE, WE = ((wv.setCell ⟨d0, 0, none⟩ (.slice al (nlen 4294967296 (P + y)) cl)).setCell ⟨d1, 0, none⟩ (.slice ag2 (nlen 4294967296 (x + x + y)) cg)) := ⟨_, rfl⟩
        rw [← hWE] at cE0
        rw [← hWE] at cE1
        rw [← hWE] at IL
        rw [← hWE] at IG
        rw [← hWE] at fz
        rw [← hWE]
        have FF := fz
        clear fz hHeld hWE
        have c5 := fr_cell FF.out c5
        have cP := fr_cell FF.out cP
        have HX := hide (IsNat.fr HX.out FF.out)
        have IP := hide (IsNat.fr IP.out FF.out)
        have FA := hide (FA.out.trans FF.out)
        clear HY IH FF HPan HPanF hops ha0 hQ
        go_wp2_with fail
        refine wp_region_held_drew (S := (fun w' => w'.cell? ⟨w3.heap.size, 0, none⟩ = some (.slice ax (nlen 4294967296 x) cx) ∧ w'.cell? ⟨b0, 0, none⟩ = some (.slice ap (nlen 4294967296 P) cp) ∧ w'.cell? ⟨d0, 0, none⟩ = some (.slice al (nlen 4294967296 (P + y)) cl) ∧ w'.cell? ⟨d1, 0, none⟩ = some (.slice ag2 (nlen 4294967296 (x + x + y)) cg) ∧ Hid (Fr WF w'))) (by kernel_rfl) ?_ (fun hHeld => ?_)
        · exact ⟨c5, cP, cE0, cE1, Fr.drew _⟩
        refine wpAnyH_ready (rs := [0]) (by kernel_rfl) (by simp) ?_
        refine AllReadyH.cons rfl (fun K hK => ?_) AllReadyH.nil
        go_simp
        have hh : Hid (Fr WF _) := hHeld.2.2.2.2
        refine (wakes_any _).mono ?_
        rintro e wn ⟨rfl, fy⟩
        have fz := hide (hh.out.trans fy)
        clear fy
        clear hh
        (try go_wp2_with fail)
        refine hK.out _ _ ?_ (fun hHeld => ?_)
        · (try dsimp only)
          exact ⟨fr_cell fz.out c5, fr_cell fz.out cP, fr_cell fz.out cE0, fr_cell fz.out cE1, fz⟩
        clear hK K
        (try simp only [Act.put, List.getElem_toArray, List.getElem_cons_zero, List.getElem_cons_succ, List.setIfInBounds_toArray, List.set_cons_zero, List.set_cons_succ])
        refine wpAnyH_take (i := 1) (v := ?_) rfl (by kernel_rfl) (by kernel_rfl) (by kernel_rfl) (fun _ _ _ h => h) (Or.inl ⟨by rfl, ?_⟩) (by assumption) ?_
        rotate_left
        · (intro w hSw; (try dsimp only at hSw); go_simp; try with_reducible rfl)
        (try simp only [Act.put, List.getElem_toArray, List.getElem_cons_zero, List.getElem_cons_succ, List.setIfInBounds_toArray, List.set_cons_zero, List.set_cons_succ])
        refine wpAnyH_take (i := 2) (v := ?_) rfl (by kernel_rfl) (by kernel_rfl) (by kernel_rfl) (fun _ _ _ h => h) (Or.inl ⟨by rfl, ?_⟩) (by assumption) ?_
        rotate_left
        · (intro w hSw; (try dsimp only at hSw); go_simp; try with_reducible rfl)
        (try simp only [Act.put, List.getElem_toArray, List.getElem_cons_zero, List.getElem_cons_succ, List.setIfInBounds_toArray, List.set_cons_zero, List.set_cons_succ])
        refine wpAnyH_take (i := 3) (v := ?_) rfl (by kernel_rfl) (by kernel_rfl) (by kernel_rfl) (fun _ _ _ h => h) (Or.inl ⟨by rfl, ?_⟩) (by assumption) ?_
        rotate_left
        · (intro w hSw; (try dsimp only at hSw); go_simp; try with_reducible rfl)
        (try simp only [Act.put, List.getElem_toArray, List.getElem_cons_zero, List.getElem_cons_succ, List.setIfInBounds_toArray, List.set_cons_zero, List.set_cons_succ])
        refine wpAnyH_take (i := 4) (v := ?_) rfl (by kernel_rfl) (by kernel_rfl) (by kernel_rfl) (fun _ _ _ h => h) (Or.inl ⟨by rfl, ?_⟩) (by assumption) ?_
        rotate_left
        · (intro w hSw; (try dsimp only at hSw); go_simp; try with_reducible rfl)
        (try simp only [Act.put, List.getElem_toArray, List.getElem_cons_zero, List.getElem_cons_succ, List.setIfInBounds_toArray, List.set_cons_zero, List.set_cons_succ])
        refine wpAnyH_take (i := 5) (v := ?_) rfl (by kernel_rfl) (by kernel_rfl) (by kernel_rfl) (fun _ _ _ h => h) (Or.inl ⟨by rfl, ?_⟩) (by assumption) ?_
        rotate_left
        · (intro w hSw; (try dsimp only at hSw); go_simp; try with_reducible rfl)
        (try simp only [Act.put, List.getElem_toArray, List.getElem_cons_zero, List.getElem_cons_succ, List.setIfInBounds_toArray, List.set_cons_zero, List.set_cons_succ])
        refine wpAnyH_take (i := 6) (v := ?_) rfl (by kernel_rfl) (by kernel_rfl) (by kernel_rfl) (fun _ _ _ h => h) (Or.inl ⟨by rfl, ?_⟩) (by assumption) ?_
        rotate_left
        · (intro w hSw; (try dsimp only at hSw); go_simp; try with_reducible rfl)
        (try simp only [Act.put, List.getElem_toArray, List.getElem_cons_zero, List.getElem_cons_succ, List.setIfInBounds_toArray, List.set_cons_zero, List.set_cons_succ])
        refine wpAnyH_ready (rs := [7]) (by kernel_rfl) (by simp) ?_
        refine AllReadyH.cons rfl (fun K hK => ?_) AllReadyH.nil
        go_simp
        have hh : Hid (Fr WF _) := hHeld.2.2.2.2
        refine (cmp_any _ _ P (x + x + y) _ (IsNat.fr IP.out hh.out) (IsNat.fr IG.out hh.out) (by omega) (by omega)).mono ?_
        rintro e wn ⟨rfl, fy⟩
        have fz := hide (hh.out.trans fy)
        rw [K1.out]; clear fy
        clear hh
        (try go_wp2_with fail)
        refine hK.out _ _ ?_ (fun hHeld => ?_)
        · (try dsimp only)
          exact ⟨fr_cell fz.out c5, fr_cell fz.out cP, fr_cell fz.out cE0, fr_cell fz.out cE1, fz⟩
        clear hK K
        (try simp only [Act.put, List.getElem_toArray, List.getElem_cons_zero, List.getElem_cons_succ, List.setIfInBounds_toArray, List.set_cons_zero, List.set_cons_succ])
        refine wpAnyH_take (i := 8) (v := ?_) rfl (by kernel_rfl) (by kernel_rfl) (by kernel_rfl) (fun _ _ _ h => h) (Or.inl ⟨by rfl, ?_⟩) (by assumption) ?_
        rotate_left
        · (intro w hSw; (try dsimp only at hSw); go_simp; try with_reducible rfl)
        (try simp only [Act.put, List.getElem_toArray, List.getElem_cons_zero, List.getElem_cons_succ, List.setIfInBounds_toArray, List.set_cons_zero, List.set_cons_succ])
        refine wpAnyH_take (i := 9) (v := ?_) rfl (by kernel_rfl) (by kernel_rfl) (by kernel_rfl) (fun _ _ _ h => h) (Or.inl ⟨by rfl, ?_⟩) (by assumption) ?_
        rotate_left
        · (intro w hSw; (try dsimp only at hSw); go_simp; try with_reducible rfl)
        (try simp only [Act.put, List.getElem_toArray, List.getElem_cons_zero, List.getElem_cons_succ, List.setIfInBounds_toArray, List.set_cons_zero, List.set_cons_succ])
        refine wpAnyH_take (i := 10) (v := ?_) rfl (by kernel_rfl) (by kernel_rfl) (by kernel_rfl) (fun _ _ _ h => h) (Or.inl ⟨by rfl, ?_⟩) (by assumption) ?_
        rotate_left
        · (intro w hSw; (try dsimp only at hSw); go_simp; try with_reducible rfl)
        (try simp only [Act.put, List.getElem_toArray, List.getElem_cons_zero, List.getElem_cons_succ, List.setIfInBounds_toArray, List.set_cons_zero, List.set_cons_succ])
        refine wpAnyH_take (i := 11) (v := ?_) rfl (by kernel_rfl) (by kernel_rfl) (by kernel_rfl) (fun _ _ _ h => h) (Or.inl ⟨by rfl, ?_⟩) (by assumption) ?_
        rotate_left
        · (intro w hSw; (try dsimp only at hSw); go_simp; try with_reducible rfl)
        (try simp only [Act.put, List.getElem_toArray, List.getElem_cons_zero, List.getElem_cons_succ, List.setIfInBounds_toArray, List.set_cons_zero, List.set_cons_succ])
        refine wpAnyH_take (i := 12) (v := ?_) rfl (by kernel_rfl) (by kernel_rfl) (by kernel_rfl) (fun _ _ _ h => h) (Or.inl ⟨by rfl, ?_⟩) (by assumption) ?_
        rotate_left
        · (intro w hSw; (try dsimp only at hSw); go_simp; try with_reducible rfl)
        (try simp only [Act.put, List.getElem_toArray, List.getElem_cons_zero, List.getElem_cons_succ, List.setIfInBounds_toArray, List.set_cons_zero, List.set_cons_succ])
        refine wpAnyH_take (i := 14) (v := ?_) rfl (by kernel_rfl) (by kernel_rfl) (by kernel_rfl) (fun _ _ _ h => h) (Or.inl ⟨by rfl, ?_⟩) (by assumption) ?_
        rotate_left
        · (intro w hSw; (try dsimp only at hSw); go_simp; try with_reducible rfl)
        (try simp only [Act.put, List.getElem_toArray, List.getElem_cons_zero, List.getElem_cons_succ, List.setIfInBounds_toArray, List.set_cons_zero, List.set_cons_succ])
        refine wpAnyH_ready (rs := [13]) (by kernel_rfl) (by simp) ?_
        refine AllReadyH.cons rfl (fun K hK => ?_) AllReadyH.nil
        go_simp
        have hh : Hid (Fr WF _) := hHeld.2.2.2.2
        refine (add_any _ _ x x _ (IsNat.fr HX.out hh.out) (IsNat.fr HX.out hh.out) (by omega) (by omega)).mono ?_
        rintro e wn ⟨az, cz2, rfl, iz, _, fy⟩
        have fz := hide (hh.out.trans fy)
        have IZ := hide iz; clear iz fy
        clear hh
        (try go_wp2_with fail)
        refine hK.out _ _ ?_ (fun hHeld => ?_)
        · (try dsimp only)
          exact ⟨fr_cell fz.out c5, fr_cell fz.out cP, fr_cell fz.out cE0, fr_cell fz.out cE1, fz⟩
        clear hK K
        (try simp only [Act.put, List.getElem_toArray, List.getElem_cons_zero, List.getElem_cons_succ, List.setIfInBounds_toArray, List.set_cons_zero, List.set_cons_succ])
        refine wpAnyH_ready (rs := [15]) (by kernel_rfl) (by simp) ?_
        refine AllReadyH.cons rfl (fun K hK => ?_) AllReadyH.nil
        go_simp
        have hh : Hid (Fr WF _) := hHeld.2.2.2.2
        refine (cmp_any _ _ (x + x) (P + y) _ IZ.out (IsNat.fr IL.out hh.out) (by omega) (by omega)).mono ?_
        rintro e wn ⟨rfl, fy⟩
        have fz := hide (hh.out.trans fy)
        rw [K2.out]; clear fy IZ
        clear hh
        (try go_wp2_with fail)
        refine hK.out _ _ ?_ (fun hHeld => ?_)
        · (try dsimp only)
          exact ⟨fr_cell fz.out c5, fr_cell fz.out cP, fr_cell fz.out cE0, fr_cell fz.out cE1, fz⟩
        clear hK K
        (try simp only [Act.put, List.getElem_toArray, List.getElem_cons_zero, List.getElem_cons_succ, List.setIfInBounds_toArray, List.set_cons_zero, List.set_cons_succ])
        refine wpAnyH_take (i := 16) (v := ?_) rfl (by kernel_rfl) (by kernel_rfl) (by kernel_rfl) (fun _ _ _ h => h) (Or.inl ⟨by rfl, ?_⟩) (by assumption) ?_
        rotate_left
        · (intro w hSw; (try dsimp only at hSw); go_simp; try with_reducible rfl)
        (try simp only [Act.put, List.getElem_toArray, List.getElem_cons_zero, List.getElem_cons_succ, List.setIfInBounds_toArray, List.set_cons_zero, List.set_cons_succ])
        refine wpAnyH_take (i := 17) (v := ?_) rfl (by kernel_rfl) (by kernel_rfl) (by kernel_rfl) (fun _ _ _ h => h) (Or.inl ⟨by rfl, ?_⟩) (by assumption) ?_
        rotate_left
        · (intro w hSw; (try dsimp only at hSw); go_simp; try with_reducible rfl)
        (try simp only [Act.put, List.getElem_toArray, List.getElem_cons_zero, List.getElem_cons_succ, List.setIfInBounds_toArray, List.set_cons_zero, List.set_cons_succ])
        refine wpAnyH_take (i := 18) (v := ?_) rfl (by kernel_rfl) (by kernel_rfl) (by kernel_rfl) (fun _ _ _ h => h) (Or.inl ⟨by rfl, ?_⟩) (by assumption) ?_
        rotate_left
        · (intro w hSw; (try dsimp only at hSw); go_simp; try with_reducible rfl)
        (try simp only [Act.put, List.getElem_toArray, List.getElem_cons_zero, List.getElem_cons_succ, List.setIfInBounds_toArray, List.set_cons_zero, List.set_cons_succ])
        refine wpAnyH_done (by kernel_rfl) ?_ _
        go_wp2_with fail
        go_ret
        exact ⟨rfl, FA.out.trans fz.out⟩
      have N3_0 : Hid (∀ (al : Option Addr) (cl : Nat) (at2 : Option Addr) (ct2 : Nat) (ag2 : Option Addr) (cg : Nat) (d0 : Nat) (wv : World), (fun w' => w'.cell? ⟨w3.heap.size, 0, none⟩ = some (.slice ax (nlen 4294967296 x) cx) ∧ w'.cell? ⟨w3.heap.size + 1, 0, none⟩ = some (.slice ay (nlen 4294967296 y) cy) ∧ w'.cell? ⟨b0, 0, none⟩ = some (.slice ap (nlen 4294967296 P) cp) ∧ Hid (Fr WE w')) wv → (IL : Hid (IsNat wv (.agg #[.slice al (nlen 4294967296 (P + y)) cl]) (P + y))) → (Oal_0 : Off al (nlen 4294967296 (P + y)) d0) → (IG : Hid (IsNat wv (.agg #[.slice ag2 (nlen 4294967296 (x + x + y)) cg]) (x + x + y))) → (Oag2_0 : Off ag2 (nlen 4294967296 (x + x + y)) d0) → (V0 : Hid (Var WE wv d0)) → wpAnyH Try.prog .any ops Q (fun w' => w'.cell? ⟨w3.heap.size, 0, none⟩ = some (.slice ax (nlen 4294967296 x) cx) ∧ w'.cell? ⟨w3.heap.size + 1, 0, none⟩ = some (.slice ay (nlen 4294967296 y) cy) ∧ w'.cell? ⟨b0, 0, none⟩ = some (.slice ap (nlen 4294967296 P) cp) ∧ Hid (Fr WE w')) 3 #[true, true, true, true, true, true, true, true, true, false, false, false] (((((((((a0.put (some 42) (.agg #[.slice ap (nlen 4294967296 (P)) cp])).put (some 43) (.agg #[.slice ay (nlen 4294967296 (y)) cy])).put (some 45) (.agg #[.slice ax (nlen 4294967296 (x)) cx])).put (some 46) (.agg #[.slice ax (nlen 4294967296 (x)) cx])).put (some 48) (.agg #[.slice ay (nlen 4294967296 (y)) cy])).put (some 44) (.agg #[.slice al (nlen 4294967296 (P + y)) cl])).put (some 47) (.agg #[.slice at2 (nlen 4294967296 (x + x)) ct2])).put (some 49) (.agg #[.slice ag2 (nlen 4294967296 (x + x + y)) cg])).put (some 10) (.pointer (some ⟨d0, 0, none⟩))) wv) := by
        refine hide ?_
        intro al cl at2 ct2 ag2 cg d0 wv hHeld IL Oal_0 IG Oag2_0 V0
        rw [hops.out, ha0.out]
        (try simp only [Act.put, List.getElem_toArray, List.getElem_cons_zero, List.getElem_cons_succ, List.setIfInBounds_toArray, List.set_cons_zero, List.set_cons_succ])
        refine wpAnyH_ready (rs := [9]) (by kernel_rfl) (by simp) ?_
        refine AllReadyH.cons rfl (fun K hK => ?_) ?_
        · have hh : Hid (Fr WE wv) := hHeld.2.2.2
          have hn := Var.new (W := WE) (w := wv) (t := 25) hh.out.size
          have fz := hide (hh.out.trans (Fr.alloc wv (.cells #[.slice none 0 0] 25)))
          have Oal_1 := off_new IL.out
          have Oag2_1 := off_new IG.out
          have D01 : d0 ≠ wv.heap.size := by have := Var.lt V0.out; omega
          have V1 := hide hn
          have IL := hide (IsNat.fr IL.out (Fr.alloc wv (.cells #[.slice none 0 0] 25)))
          have IG := hide (IsNat.fr IG.out (Fr.alloc wv (.cells #[.slice none 0 0] 25)))
          have V0 := hide (Var.fr V0.out (Fr.alloc wv (.cells #[.slice none 0 0] 25)))
          clear hn
          go_simp
          refine hK.out _ _ ?_ (fun hHeld => ?_)
          · (try dsimp only)
            exact ⟨fr_cell fz.out c5, fr_cell fz.out c6, fr_cell fz.out cP, fz⟩
          (try simp only [Act.put, List.getElem_toArray, List.getElem_cons_zero, List.getElem_cons_succ, List.setIfInBounds_toArray, List.set_cons_zero, List.set_cons_succ])
          have n := N3_01.out al cl at2 ct2 ag2 cg d0 wv.heap.size _ hHeld IL Oal_0 Oal_1 IG Oag2_0 Oag2_1 V0 V1 D01
          rw [hops.out, ha0.out] at n
          (try simp only [Act.put, List.getElem_toArray, List.getElem_cons_zero, List.getElem_cons_succ, List.setIfInBounds_toArray, List.set_cons_zero, List.set_cons_succ] at n)
          exact n
        exact AllReadyH.nil
      have N3_1 : Hid (∀ (al : Option Addr) (cl : Nat) (at2 : Option Addr) (ct2 : Nat) (ag2 : Option Addr) (cg : Nat) (d1 : Nat) (wv : World), (fun w' => w'.cell? ⟨w3.heap.size, 0, none⟩ = some (.slice ax (nlen 4294967296 x) cx) ∧ w'.cell? ⟨w3.heap.size + 1, 0, none⟩ = some (.slice ay (nlen 4294967296 y) cy) ∧ w'.cell? ⟨b0, 0, none⟩ = some (.slice ap (nlen 4294967296 P) cp) ∧ Hid (Fr WE w')) wv → (IL : Hid (IsNat wv (.agg #[.slice al (nlen 4294967296 (P + y)) cl]) (P + y))) → (Oal_1 : Off al (nlen 4294967296 (P + y)) d1) → (IG : Hid (IsNat wv (.agg #[.slice ag2 (nlen 4294967296 (x + x + y)) cg]) (x + x + y))) → (Oag2_1 : Off ag2 (nlen 4294967296 (x + x + y)) d1) → (V1 : Hid (Var WE wv d1)) → wpAnyH Try.prog .any ops Q (fun w' => w'.cell? ⟨w3.heap.size, 0, none⟩ = some (.slice ax (nlen 4294967296 x) cx) ∧ w'.cell? ⟨w3.heap.size + 1, 0, none⟩ = some (.slice ay (nlen 4294967296 y) cy) ∧ w'.cell? ⟨b0, 0, none⟩ = some (.slice ap (nlen 4294967296 P) cp) ∧ Hid (Fr WE w')) 3 #[true, true, true, true, true, true, true, true, false, true, false, false] (((((((((a0.put (some 42) (.agg #[.slice ap (nlen 4294967296 (P)) cp])).put (some 43) (.agg #[.slice ay (nlen 4294967296 (y)) cy])).put (some 45) (.agg #[.slice ax (nlen 4294967296 (x)) cx])).put (some 46) (.agg #[.slice ax (nlen 4294967296 (x)) cx])).put (some 48) (.agg #[.slice ay (nlen 4294967296 (y)) cy])).put (some 44) (.agg #[.slice al (nlen 4294967296 (P + y)) cl])).put (some 47) (.agg #[.slice at2 (nlen 4294967296 (x + x)) ct2])).put (some 49) (.agg #[.slice ag2 (nlen 4294967296 (x + x + y)) cg])).put (some 11) (.pointer (some ⟨d1, 0, none⟩))) wv) := by
        refine hide ?_
        intro al cl at2 ct2 ag2 cg d1 wv hHeld IL Oal_1 IG Oag2_1 V1
        clear N3_0
        rw [hops.out, ha0.out]
        (try simp only [Act.put, List.getElem_toArray, List.getElem_cons_zero, List.getElem_cons_succ, List.setIfInBounds_toArray, List.set_cons_zero, List.set_cons_succ])
        refine wpAnyH_ready (rs := [8]) (by kernel_rfl) (by simp) ?_
        refine AllReadyH.cons rfl (fun K hK => ?_) ?_
        · have hh : Hid (Fr WE wv) := hHeld.2.2.2
          have hn := Var.new (W := WE) (w := wv) (t := 25) hh.out.size
          have fz := hide (hh.out.trans (Fr.alloc wv (.cells #[.slice none 0 0] 25)))
          have Oal_0 := off_new IL.out
          have Oag2_0 := off_new IG.out
          have D01 : wv.heap.size ≠ d1 := by have := Var.lt V1.out; omega
          have V0 := hide hn
          have IL := hide (IsNat.fr IL.out (Fr.alloc wv (.cells #[.slice none 0 0] 25)))
          have IG := hide (IsNat.fr IG.out (Fr.alloc wv (.cells #[.slice none 0 0] 25)))
          have V1 := hide (Var.fr V1.out (Fr.alloc wv (.cells #[.slice none 0 0] 25)))
          clear hn
          go_simp
          refine hK.out _ _ ?_ (fun hHeld => ?_)
          · (try dsimp only)
            exact ⟨fr_cell fz.out c5, fr_cell fz.out c6, fr_cell fz.out cP, fz⟩
          (try simp only [Act.put, List.getElem_toArray, List.getElem_cons_zero, List.getElem_cons_succ, List.setIfInBounds_toArray, List.set_cons_zero, List.set_cons_succ])
          have n := N3_01.out al cl at2 ct2 ag2 cg wv.heap.size d1 _ hHeld IL Oal_0 Oal_1 IG Oag2_0 Oag2_1 V0 V1 D01
          rw [hops.out, ha0.out] at n
          (try simp only [Act.put, List.getElem_toArray, List.getElem_cons_zero, List.getElem_cons_succ, List.setIfInBounds_toArray, List.set_cons_zero, List.set_cons_succ] at n)
          exact n
        exact AllReadyH.nil
      have N3_ : Hid (∀ (al : Option Addr) (cl : Nat) (at2 : Option Addr) (ct2 : Nat) (ag2 : Option Addr) (cg : Nat) (wv : World), (fun w' => w'.cell? ⟨w3.heap.size, 0, none⟩ = some (.slice ax (nlen 4294967296 x) cx) ∧ w'.cell? ⟨w3.heap.size + 1, 0, none⟩ = some (.slice ay (nlen 4294967296 y) cy) ∧ w'.cell? ⟨b0, 0, none⟩ = some (.slice ap (nlen 4294967296 P) cp) ∧ Hid (Fr WE w')) wv → (IL : Hid (IsNat wv (.agg #[.slice al (nlen 4294967296 (P + y)) cl]) (P + y))) → (IG : Hid (IsNat wv (.agg #[.slice ag2 (nlen 4294967296 (x + x + y)) cg]) (x + x + y))) → wpAnyH Try.prog .any ops Q (fun w' => w'.cell? ⟨w3.heap.size, 0, none⟩ = some (.slice ax (nlen 4294967296 x) cx) ∧ w'.cell? ⟨w3.heap.size + 1, 0, none⟩ = some (.slice ay (nlen 4294967296 y) cy) ∧ w'.cell? ⟨b0, 0, none⟩ = some (.slice ap (nlen 4294967296 P) cp) ∧ Hid (Fr WE w')) 4 #[true, true, true, true, true, true, true, true, false, false, false, false] ((((((((a0.put (some 42) (.agg #[.slice ap (nlen 4294967296 (P)) cp])).put (some 43) (.agg #[.slice ay (nlen 4294967296 (y)) cy])).put (some 45) (.agg #[.slice ax (nlen 4294967296 (x)) cx])).put (some 46) (.agg #[.slice ax (nlen 4294967296 (x)) cx])).put (some 48) (.agg #[.slice ay (nlen 4294967296 (y)) cy])).put (some 44) (.agg #[.slice al (nlen 4294967296 (P + y)) cl])).put (some 47) (.agg #[.slice at2 (nlen 4294967296 (x + x)) ct2])).put (some 49) (.agg #[.slice ag2 (nlen 4294967296 (x + x + y)) cg])) wv) := by
        refine hide ?_
        intro al cl at2 ct2 ag2 cg  wv hHeld IL IG
        clear N3_01
        rw [hops.out, ha0.out]
        (try simp only [Act.put, List.getElem_toArray, List.getElem_cons_zero, List.getElem_cons_succ, List.setIfInBounds_toArray, List.set_cons_zero, List.set_cons_succ])
        refine wpAnyH_ready (rs := [8, 9]) (by kernel_rfl) (by simp) ?_
        refine AllReadyH.cons rfl (fun K hK => ?_) ?_
        · have hh : Hid (Fr WE wv) := hHeld.2.2.2
          have hn := Var.new (W := WE) (w := wv) (t := 25) hh.out.size
          have fz := hide (hh.out.trans (Fr.alloc wv (.cells #[.slice none 0 0] 25)))
          have Oal_0 := off_new IL.out
          have Oag2_0 := off_new IG.out
          have V0 := hide hn
          have IL := hide (IsNat.fr IL.out (Fr.alloc wv (.cells #[.slice none 0 0] 25)))
          have IG := hide (IsNat.fr IG.out (Fr.alloc wv (.cells #[.slice none 0 0] 25)))
          clear hn
          go_simp
          refine hK.out _ _ ?_ (fun hHeld => ?_)
          · (try dsimp only)
            exact ⟨fr_cell fz.out c5, fr_cell fz.out c6, fr_cell fz.out cP, fz⟩
          (try simp only [Act.put, List.getElem_toArray, List.getElem_cons_zero, List.getElem_cons_succ, List.setIfInBounds_toArray, List.set_cons_zero, List.set_cons_succ])
          have n := N3_0.out al cl at2 ct2 ag2 cg wv.heap.size _ hHeld IL Oal_0 IG Oag2_0 V0
          rw [hops.out, ha0.out] at n
          (try simp only [Act.put, List.getElem_toArray, List.getElem_cons_zero, List.getElem_cons_succ, List.setIfInBounds_toArray, List.set_cons_zero, List.set_cons_succ] at n)
          exact n
        refine AllReadyH.cons rfl (fun K hK => ?_) ?_
        · have hh : Hid (Fr WE wv) := hHeld.2.2.2
          have hn := Var.new (W := WE) (w := wv) (t := 25) hh.out.size
          have fz := hide (hh.out.trans (Fr.alloc wv (.cells #[.slice none 0 0] 25)))
          have Oal_1 := off_new IL.out
          have Oag2_1 := off_new IG.out
          have V1 := hide hn
          have IL := hide (IsNat.fr IL.out (Fr.alloc wv (.cells #[.slice none 0 0] 25)))
          have IG := hide (IsNat.fr IG.out (Fr.alloc wv (.cells #[.slice none 0 0] 25)))
          clear hn
          go_simp
          refine hK.out _ _ ?_ (fun hHeld => ?_)
          · (try dsimp only)
            exact ⟨fr_cell fz.out c5, fr_cell fz.out c6, fr_cell fz.out cP, fz⟩
          (try simp only [Act.put, List.getElem_toArray, List.getElem_cons_zero, List.getElem_cons_succ, List.setIfInBounds_toArray, List.set_cons_zero, List.set_cons_succ])
          have n := N3_1.out al cl at2 ct2 ag2 cg wv.heap.size _ hHeld IL Oal_1 IG Oag2_1 V1
          rw [hops.out, ha0.out] at n
          (try simp only [Act.put, List.getElem_toArray, List.getElem_cons_zero, List.getElem_cons_succ, List.setIfInBounds_toArray, List.set_cons_zero, List.set_cons_succ] at n)
          exact n
        exact AllReadyH.nil
      have N2_01 : Hid (∀ (al : Option Addr) (cl : Nat) (at2 : Option Addr) (ct2 : Nat) (d0 : Nat) (d1 : Nat) (wv : World), (fun w' => w'.cell? ⟨w3.heap.size, 0, none⟩ = some (.slice ax (nlen 4294967296 x) cx) ∧ w'.cell? ⟨w3.heap.size + 1, 0, none⟩ = some (.slice ay (nlen 4294967296 y) cy) ∧ w'.cell? ⟨b0, 0, none⟩ = some (.slice ap (nlen 4294967296 P) cp) ∧ Hid (Fr WE w')) wv → (IL : Hid (IsNat wv (.agg #[.slice al (nlen 4294967296 (P + y)) cl]) (P + y))) → (Oal_0 : Off al (nlen 4294967296 (P + y)) d0) → (Oal_1 : Off al (nlen 4294967296 (P + y)) d1) → (IT : Hid (IsNat wv (.agg #[.slice at2 (nlen 4294967296 (x + x)) ct2]) (x + x))) → (V0 : Hid (Var WE wv d0)) → (V1 : Hid (Var WE wv d1)) → (D01 : d0 ≠ d1) → wpAnyH Try.prog .any ops Q (fun w' => w'.cell? ⟨w3.heap.size, 0, none⟩ = some (.slice ax (nlen 4294967296 x) cx) ∧ w'.cell? ⟨w3.heap.size + 1, 0, none⟩ = some (.slice ay (nlen 4294967296 y) cy) ∧ w'.cell? ⟨b0, 0, none⟩ = some (.slice ap (nlen 4294967296 P) cp) ∧ Hid (Fr WE w')) 3 #[true, true, true, true, true, true, true, false, true, true, false, false] (((((((((a0.put (some 42) (.agg #[.slice ap (nlen 4294967296 (P)) cp])).put (some 43) (.agg #[.slice ay (nlen 4294967296 (y)) cy])).put (some 45) (.agg #[.slice ax (nlen 4294967296 (x)) cx])).put (some 46) (.agg #[.slice ax (nlen 4294967296 (x)) cx])).put (some 48) (.agg #[.slice ay (nlen 4294967296 (y)) cy])).put (some 44) (.agg #[.slice al (nlen 4294967296 (P + y)) cl])).put (some 47) (.agg #[.slice at2 (nlen 4294967296 (x + x)) ct2])).put (some 10) (.pointer (some ⟨d0, 0, none⟩))).put (some 11) (.pointer (some ⟨d1, 0, none⟩))) wv) := by
        refine hide ?_
        intro al cl at2 ct2 d0 d1 wv hHeld IL Oal_0 Oal_1 IT V0 V1 D01
        clear N3_0 N3_1 N3_
        rw [hops.out, ha0.out]
        (try simp only [Act.put, List.getElem_toArray, List.getElem_cons_zero, List.getElem_cons_succ, List.setIfInBounds_toArray, List.set_cons_zero, List.set_cons_succ])
        refine wpAnyH_ready (rs := [7]) (by kernel_rfl) (by simp) ?_
        refine AllReadyH.cons rfl (fun K hK => ?_) ?_
        · have hh : Hid (Fr WE wv) := hHeld.2.2.2
          go_simp
          refine (add_any _ _ (x + x) y _ IT.out (IsNat.fr HY.out hh.out) (by omega) (by omega)).mono ?_
          rintro e wn ⟨ag2, cg, rfl, ig, lg, fy⟩
          have fz := hide (hh.out.trans fy)
          have IG := hide ig
          have Oag2_0 : Off ag2 (nlen 4294967296 (x + x + y)) d0 := off_old lg (Var.lt V0.out)
          have Oag2_1 : Off ag2 (nlen 4294967296 (x + x + y)) d1 := off_old lg (Var.lt V1.out)
          have IL := hide (IsNat.fr IL.out fy)
          have V0 := hide (Var.fr V0.out fy)
          have V1 := hide (Var.fr V1.out fy)
          (try go_wp2_with fail)
          refine hK.out _ _ ?_ (fun hHeld => ?_)
          · (try dsimp only)
            exact ⟨fr_cell fz.out c5, fr_cell fz.out c6, fr_cell fz.out cP, fz⟩
          (try simp only [Act.put, List.getElem_toArray, List.getElem_cons_zero, List.getElem_cons_succ, List.setIfInBounds_toArray, List.set_cons_zero, List.set_cons_succ])
          have n := N3_01.out al cl at2 ct2 ag2 cg d0 d1 wn hHeld IL Oal_0 Oal_1 IG Oag2_0 Oag2_1 V0 V1 D01
          rw [hops.out, ha0.out] at n
          (try simp only [Act.put, List.getElem_toArray, List.getElem_cons_zero, List.getElem_cons_succ, List.setIfInBounds_toArray, List.set_cons_zero, List.set_cons_succ] at n)
          exact n
        exact AllReadyH.nil
      have N2_0 : Hid (∀ (al : Option Addr) (cl : Nat) (at2 : Option Addr) (ct2 : Nat) (d0 : Nat) (wv : World), (fun w' => w'.cell? ⟨w3.heap.size, 0, none⟩ = some (.slice ax (nlen 4294967296 x) cx) ∧ w'.cell? ⟨w3.heap.size + 1, 0, none⟩ = some (.slice ay (nlen 4294967296 y) cy) ∧ w'.cell? ⟨b0, 0, none⟩ = some (.slice ap (nlen 4294967296 P) cp) ∧ Hid (Fr WE w')) wv → (IL : Hid (IsNat wv (.agg #[.slice al (nlen 4294967296 (P + y)) cl]) (P + y))) → (Oal_0 : Off al (nlen 4294967296 (P + y)) d0) → (IT : Hid (IsNat wv (.agg #[.slice at2 (nlen 4294967296 (x + x)) ct2]) (x + x))) → (V0 : Hid (Var WE wv d0)) → wpAnyH Try.prog .any ops Q (fun w' => w'.cell? ⟨w3.heap.size, 0, none⟩ = some (.slice ax (nlen 4294967296 x) cx) ∧ w'.cell? ⟨w3.heap.size + 1, 0, none⟩ = some (.slice ay (nlen 4294967296 y) cy) ∧ w'.cell? ⟨b0, 0, none⟩ = some (.slice ap (nlen 4294967296 P) cp) ∧ Hid (Fr WE w')) 4 #[true, true, true, true, true, true, true, false, true, false, false, false] ((((((((a0.put (some 42) (.agg #[.slice ap (nlen 4294967296 (P)) cp])).put (some 43) (.agg #[.slice ay (nlen 4294967296 (y)) cy])).put (some 45) (.agg #[.slice ax (nlen 4294967296 (x)) cx])).put (some 46) (.agg #[.slice ax (nlen 4294967296 (x)) cx])).put (some 48) (.agg #[.slice ay (nlen 4294967296 (y)) cy])).put (some 44) (.agg #[.slice al (nlen 4294967296 (P + y)) cl])).put (some 47) (.agg #[.slice at2 (nlen 4294967296 (x + x)) ct2])).put (some 10) (.pointer (some ⟨d0, 0, none⟩))) wv) := by
        refine hide ?_
        intro al cl at2 ct2 d0 wv hHeld IL Oal_0 IT V0
        clear N3_01 N3_1 N3_
        rw [hops.out, ha0.out]
        (try simp only [Act.put, List.getElem_toArray, List.getElem_cons_zero, List.getElem_cons_succ, List.setIfInBounds_toArray, List.set_cons_zero, List.set_cons_succ])
        refine wpAnyH_ready (rs := [7, 9]) (by kernel_rfl) (by simp) ?_
        refine AllReadyH.cons rfl (fun K hK => ?_) ?_
        · have hh : Hid (Fr WE wv) := hHeld.2.2.2
          go_simp
          refine (add_any _ _ (x + x) y _ IT.out (IsNat.fr HY.out hh.out) (by omega) (by omega)).mono ?_
          rintro e wn ⟨ag2, cg, rfl, ig, lg, fy⟩
          have fz := hide (hh.out.trans fy)
          have IG := hide ig
          have Oag2_0 : Off ag2 (nlen 4294967296 (x + x + y)) d0 := off_old lg (Var.lt V0.out)
          have IL := hide (IsNat.fr IL.out fy)
          have V0 := hide (Var.fr V0.out fy)
          (try go_wp2_with fail)
          refine hK.out _ _ ?_ (fun hHeld => ?_)
          · (try dsimp only)
            exact ⟨fr_cell fz.out c5, fr_cell fz.out c6, fr_cell fz.out cP, fz⟩
          (try simp only [Act.put, List.getElem_toArray, List.getElem_cons_zero, List.getElem_cons_succ, List.setIfInBounds_toArray, List.set_cons_zero, List.set_cons_succ])
          have n := N3_0.out al cl at2 ct2 ag2 cg d0 wn hHeld IL Oal_0 IG Oag2_0 V0
          rw [hops.out, ha0.out] at n
          (try simp only [Act.put, List.getElem_toArray, List.getElem_cons_zero, List.getElem_cons_succ, List.setIfInBounds_toArray, List.set_cons_zero, List.set_cons_succ] at n)
          exact n
        refine AllReadyH.cons rfl (fun K hK => ?_) ?_
        · have hh : Hid (Fr WE wv) := hHeld.2.2.2
          have hn := Var.new (W := WE) (w := wv) (t := 25) hh.out.size
          have fz := hide (hh.out.trans (Fr.alloc wv (.cells #[.slice none 0 0] 25)))
          have Oal_1 := off_new IL.out
          have D01 : d0 ≠ wv.heap.size := by have := Var.lt V0.out; omega
          have V1 := hide hn
          have IL := hide (IsNat.fr IL.out (Fr.alloc wv (.cells #[.slice none 0 0] 25)))
          have IT := hide (IsNat.fr IT.out (Fr.alloc wv (.cells #[.slice none 0 0] 25)))
          have V0 := hide (Var.fr V0.out (Fr.alloc wv (.cells #[.slice none 0 0] 25)))
          clear hn
          go_simp
          refine hK.out _ _ ?_ (fun hHeld => ?_)
          · (try dsimp only)
            exact ⟨fr_cell fz.out c5, fr_cell fz.out c6, fr_cell fz.out cP, fz⟩
          (try simp only [Act.put, List.getElem_toArray, List.getElem_cons_zero, List.getElem_cons_succ, List.setIfInBounds_toArray, List.set_cons_zero, List.set_cons_succ])
          have n := N2_01.out al cl at2 ct2 d0 wv.heap.size _ hHeld IL Oal_0 Oal_1 IT V0 V1 D01
          rw [hops.out, ha0.out] at n
          (try simp only [Act.put, List.getElem_toArray, List.getElem_cons_zero, List.getElem_cons_succ, List.setIfInBounds_toArray, List.set_cons_zero, List.set_cons_succ] at n)
          exact n
        exact AllReadyH.nil
      have N2_1 : Hid (∀ (al : Option Addr) (cl : Nat) (at2 : Option Addr) (ct2 : Nat) (d1 : Nat) (wv : World), (fun w' => w'.cell? ⟨w3.heap.size, 0, none⟩ = some (.slice ax (nlen 4294967296 x) cx) ∧ w'.cell? ⟨w3.heap.size + 1, 0, none⟩ = some (.slice ay (nlen 4294967296 y) cy) ∧ w'.cell? ⟨b0, 0, none⟩ = some (.slice ap (nlen 4294967296 P) cp) ∧ Hid (Fr WE w')) wv → (IL : Hid (IsNat wv (.agg #[.slice al (nlen 4294967296 (P + y)) cl]) (P + y))) → (Oal_1 : Off al (nlen 4294967296 (P + y)) d1) → (IT : Hid (IsNat wv (.agg #[.slice at2 (nlen 4294967296 (x + x)) ct2]) (x + x))) → (V1 : Hid (Var WE wv d1)) → wpAnyH Try.prog .any ops Q (fun w' => w'.cell? ⟨w3.heap.size, 0, none⟩ = some (.slice ax (nlen 4294967296 x) cx) ∧ w'.cell? ⟨w3.heap.size + 1, 0, none⟩ = some (.slice ay (nlen 4294967296 y) cy) ∧ w'.cell? ⟨b0, 0, none⟩ = some (.slice ap (nlen 4294967296 P) cp) ∧ Hid (Fr WE w')) 4 #[true, true, true, true, true, true, true, false, false, true, false, false] ((((((((a0.put (some 42) (.agg #[.slice ap (nlen 4294967296 (P)) cp])).put (some 43) (.agg #[.slice ay (nlen 4294967296 (y)) cy])).put (some 45) (.agg #[.slice ax (nlen 4294967296 (x)) cx])).put (some 46) (.agg #[.slice ax (nlen 4294967296 (x)) cx])).put (some 48) (.agg #[.slice ay (nlen 4294967296 (y)) cy])).put (some 44) (.agg #[.slice al (nlen 4294967296 (P + y)) cl])).put (some 47) (.agg #[.slice at2 (nlen 4294967296 (x + x)) ct2])).put (some 11) (.pointer (some ⟨d1, 0, none⟩))) wv) := by
        refine hide ?_
        intro al cl at2 ct2 d1 wv hHeld IL Oal_1 IT V1
        clear N3_01 N3_0 N3_ N2_0
        rw [hops.out, ha0.out]
        (try simp only [Act.put, List.getElem_toArray, List.getElem_cons_zero, List.getElem_cons_succ, List.setIfInBounds_toArray, List.set_cons_zero, List.set_cons_succ])
        refine wpAnyH_ready (rs := [7, 8]) (by kernel_rfl) (by simp) ?_
        refine AllReadyH.cons rfl (fun K hK => ?_) ?_
        · have hh : Hid (Fr WE wv) := hHeld.2.2.2
          go_simp
          refine (add_any _ _ (x + x) y _ IT.out (IsNat.fr HY.out hh.out) (by omega) (by omega)).mono ?_
          rintro e wn ⟨ag2, cg, rfl, ig, lg, fy⟩
          have fz := hide (hh.out.trans fy)
          have IG := hide ig
          have Oag2_1 : Off ag2 (nlen 4294967296 (x + x + y)) d1 := off_old lg (Var.lt V1.out)
          have IL := hide (IsNat.fr IL.out fy)
          have V1 := hide (Var.fr V1.out fy)
          (try go_wp2_with fail)
          refine hK.out _ _ ?_ (fun hHeld => ?_)
          · (try dsimp only)
            exact ⟨fr_cell fz.out c5, fr_cell fz.out c6, fr_cell fz.out cP, fz⟩
          (try simp only [Act.put, List.getElem_toArray, List.getElem_cons_zero, List.getElem_cons_succ, List.setIfInBounds_toArray, List.set_cons_zero, List.set_cons_succ])
          have n := N3_1.out al cl at2 ct2 ag2 cg d1 wn hHeld IL Oal_1 IG Oag2_1 V1
          rw [hops.out, ha0.out] at n
          (try simp only [Act.put, List.getElem_toArray, List.getElem_cons_zero, List.getElem_cons_succ, List.setIfInBounds_toArray, List.set_cons_zero, List.set_cons_succ] at n)
          exact n
        refine AllReadyH.cons rfl (fun K hK => ?_) ?_
        · have hh : Hid (Fr WE wv) := hHeld.2.2.2
          have hn := Var.new (W := WE) (w := wv) (t := 25) hh.out.size
          have fz := hide (hh.out.trans (Fr.alloc wv (.cells #[.slice none 0 0] 25)))
          have Oal_0 := off_new IL.out
          have D01 : wv.heap.size ≠ d1 := by have := Var.lt V1.out; omega
          have V0 := hide hn
          have IL := hide (IsNat.fr IL.out (Fr.alloc wv (.cells #[.slice none 0 0] 25)))
          have IT := hide (IsNat.fr IT.out (Fr.alloc wv (.cells #[.slice none 0 0] 25)))
          have V1 := hide (Var.fr V1.out (Fr.alloc wv (.cells #[.slice none 0 0] 25)))
          clear hn
          go_simp
          refine hK.out _ _ ?_ (fun hHeld => ?_)
          · (try dsimp only)
            exact ⟨fr_cell fz.out c5, fr_cell fz.out c6, fr_cell fz.out cP, fz⟩
          (try simp only [Act.put, List.getElem_toArray, List.getElem_cons_zero, List.getElem_cons_succ, List.setIfInBounds_toArray, List.set_cons_zero, List.set_cons_succ])
          have n := N2_01.out al cl at2 ct2 wv.heap.size d1 _ hHeld IL Oal_0 Oal_1 IT V0 V1 D01
          rw [hops.out, ha0.out] at n
          (try simp only [Act.put, List.getElem_toArray, List.getElem_cons_zero, List.getElem_cons_succ, List.setIfInBounds_toArray, List.set_cons_zero, List.set_cons_succ] at n)
          exact n
        exact AllReadyH.nil
      have N2_ : Hid (∀ (al : Option Addr) (cl : Nat) (at2 : Option Addr) (ct2 : Nat) (wv : World), (fun w' => w'.cell? ⟨w3.heap.size, 0, none⟩ = some (.slice ax (nlen 4294967296 x) cx) ∧ w'.cell? ⟨w3.heap.size + 1, 0, none⟩ = some (.slice ay (nlen 4294967296 y) cy) ∧ w'.cell? ⟨b0, 0, none⟩ = some (.slice ap (nlen 4294967296 P) cp) ∧ Hid (Fr WE w')) wv → (IL : Hid (IsNat wv (.agg #[.slice al (nlen 4294967296 (P + y)) cl]) (P + y))) → (IT : Hid (IsNat wv (.agg #[.slice at2 (nlen 4294967296 (x + x)) ct2]) (x + x))) → wpAnyH Try.prog .any ops Q (fun w' => w'.cell? ⟨w3.heap.size, 0, none⟩ = some (.slice ax (nlen 4294967296 x) cx) ∧ w'.cell? ⟨w3.heap.size + 1, 0, none⟩ = some (.slice ay (nlen 4294967296 y) cy) ∧ w'.cell? ⟨b0, 0, none⟩ = some (.slice ap (nlen 4294967296 P) cp) ∧ Hid (Fr WE w')) 5 #[true, true, true, true, true, true, true, false, false, false, false, false] (((((((a0.put (some 42) (.agg #[.slice ap (nlen 4294967296 (P)) cp])).put (some 43) (.agg #[.slice ay (nlen 4294967296 (y)) cy])).put (some 45) (.agg #[.slice ax (nlen 4294967296 (x)) cx])).put (some 46) (.agg #[.slice ax (nlen 4294967296 (x)) cx])).put (some 48) (.agg #[.slice ay (nlen 4294967296 (y)) cy])).put (some 44) (.agg #[.slice al (nlen 4294967296 (P + y)) cl])).put (some 47) (.agg #[.slice at2 (nlen 4294967296 (x + x)) ct2])) wv) := by
        refine hide ?_
        intro al cl at2 ct2  wv hHeld IL IT
        clear N3_01 N3_0 N3_1 N2_01
        rw [hops.out, ha0.out]
        (try simp only [Act.put, List.getElem_toArray, List.getElem_cons_zero, List.getElem_cons_succ, List.setIfInBounds_toArray, List.set_cons_zero, List.set_cons_succ])
        refine wpAnyH_ready (rs := [7, 8, 9]) (by kernel_rfl) (by simp) ?_
        refine AllReadyH.cons rfl (fun K hK => ?_) ?_
        · have hh : Hid (Fr WE wv) := hHeld.2.2.2
          go_simp
          refine (add_any _ _ (x + x) y _ IT.out (IsNat.fr HY.out hh.out) (by omega) (by omega)).mono ?_
          rintro e wn ⟨ag2, cg, rfl, ig, lg, fy⟩
          have fz := hide (hh.out.trans fy)
          have IG := hide ig
          have IL := hide (IsNat.fr IL.out fy)
          (try go_wp2_with fail)
          refine hK.out _ _ ?_ (fun hHeld => ?_)
          · (try dsimp only)
            exact ⟨fr_cell fz.out c5, fr_cell fz.out c6, fr_cell fz.out cP, fz⟩
          (try simp only [Act.put, List.getElem_toArray, List.getElem_cons_zero, List.getElem_cons_succ, List.setIfInBounds_toArray, List.set_cons_zero, List.set_cons_succ])
          have n := N3_.out al cl at2 ct2 ag2 cg wn hHeld IL IG
          rw [hops.out, ha0.out] at n
          (try simp only [Act.put, List.getElem_toArray, List.getElem_cons_zero, List.getElem_cons_succ, List.setIfInBounds_toArray, List.set_cons_zero, List.set_cons_succ] at n)
          exact n
        refine AllReadyH.cons rfl (fun K hK => ?_) ?_
        · have hh : Hid (Fr WE wv) := hHeld.2.2.2
          have hn := Var.new (W := WE) (w := wv) (t := 25) hh.out.size
          have fz := hide (hh.out.trans (Fr.alloc wv (.cells #[.slice none 0 0] 25)))
          have Oal_0 := off_new IL.out
          have V0 := hide hn
          have IL := hide (IsNat.fr IL.out (Fr.alloc wv (.cells #[.slice none 0 0] 25)))
          have IT := hide (IsNat.fr IT.out (Fr.alloc wv (.cells #[.slice none 0 0] 25)))
          clear hn
          go_simp
          refine hK.out _ _ ?_ (fun hHeld => ?_)
          · (try dsimp only)
            exact ⟨fr_cell fz.out c5, fr_cell fz.out c6, fr_cell fz.out cP, fz⟩
          (try simp only [Act.put, List.getElem_toArray, List.getElem_cons_zero, List.getElem_cons_succ, List.setIfInBounds_toArray, List.set_cons_zero, List.set_cons_succ])
          have n := N2_0.out al cl at2 ct2 wv.heap.size _ hHeld IL Oal_0 IT V0
          rw [hops.out, ha0.out] at n
          (try simp only [Act.put, List.getElem_toArray, List.getElem_cons_zero, List.getElem_cons_succ, List.setIfInBounds_toArray, List.set_cons_zero, List.set_cons_succ] at n)
          exact n
        refine AllReadyH.cons rfl (fun K hK => ?_) ?_
        · have hh : Hid (Fr WE wv) := hHeld.2.2.2
          have hn := Var.new (W := WE) (w := wv) (t := 25) hh.out.size
          have fz := hide (hh.out.trans (Fr.alloc wv (.cells #[.slice none 0 0] 25)))
          have Oal_1 := off_new IL.out
          have V1 := hide hn
          have IL := hide (IsNat.fr IL.out (Fr.alloc wv (.cells #[.slice none 0 0] 25)))
          have IT := hide (IsNat.fr IT.out (Fr.alloc wv (.cells #[.slice none 0 0] 25)))
          clear hn
          go_simp
          refine hK.out _ _ ?_ (fun hHeld => ?_)
          · (try dsimp only)
            exact ⟨fr_cell fz.out c5, fr_cell fz.out c6, fr_cell fz.out cP, fz⟩
          (try simp only [Act.put, List.getElem_toArray, List.getElem_cons_zero, List.getElem_cons_succ, List.setIfInBounds_toArray, List.set_cons_zero, List.set_cons_succ])
          have n := N2_1.out al cl at2 ct2 wv.heap.size _ hHeld IL Oal_1 IT V1
          rw [hops.out, ha0.out] at n
          (try simp only [Act.put, List.getElem_toArray, List.getElem_cons_zero, List.getElem_cons_succ, List.setIfInBounds_toArray, List.set_cons_zero, List.set_cons_succ] at n)
          exact n
        exact AllReadyH.nil
      have N1_01 : Hid (∀ (al : Option Addr) (cl : Nat) (d0 : Nat) (d1 : Nat) (wv : World), (fun w' => w'.cell? ⟨w3.heap.size, 0, none⟩ = some (.slice ax (nlen 4294967296 x) cx) ∧ w'.cell? ⟨w3.heap.size + 1, 0, none⟩ = some (.slice ay (nlen 4294967296 y) cy) ∧ w'.cell? ⟨b0, 0, none⟩ = some (.slice ap (nlen 4294967296 P) cp) ∧ Hid (Fr WE w')) wv → (IL : Hid (IsNat wv (.agg #[.slice al (nlen 4294967296 (P + y)) cl]) (P + y))) → (Oal_0 : Off al (nlen 4294967296 (P + y)) d0) → (Oal_1 : Off al (nlen 4294967296 (P + y)) d1) → (V0 : Hid (Var WE wv d0)) → (V1 : Hid (Var WE wv d1)) → (D01 : d0 ≠ d1) → wpAnyH Try.prog .any ops Q (fun w' => w'.cell? ⟨w3.heap.size, 0, none⟩ = some (.slice ax (nlen 4294967296 x) cx) ∧ w'.cell? ⟨w3.heap.size + 1, 0, none⟩ = some (.slice ay (nlen 4294967296 y) cy) ∧ w'.cell? ⟨b0, 0, none⟩ = some (.slice ap (nlen 4294967296 P) cp) ∧ Hid (Fr WE w')) 4 #[true, true, true, true, true, false, true, false, true, true, false, false] ((((((((a0.put (some 42) (.agg #[.slice ap (nlen 4294967296 (P)) cp])).put (some 43) (.agg #[.slice ay (nlen 4294967296 (y)) cy])).put (some 45) (.agg #[.slice ax (nlen 4294967296 (x)) cx])).put (some 46) (.agg #[.slice ax (nlen 4294967296 (x)) cx])).put (some 48) (.agg #[.slice ay (nlen 4294967296 (y)) cy])).put (some 44) (.agg #[.slice al (nlen 4294967296 (P + y)) cl])).put (some 10) (.pointer (some ⟨d0, 0, none⟩))).put (some 11) (.pointer (some ⟨d1, 0, none⟩))) wv) := by
        refine hide ?_
        intro al cl d0 d1 wv hHeld IL Oal_0 Oal_1 V0 V1 D01
        clear N3_01 N3_0 N3_1 N3_ N2_0 N2_1 N2_
        rw [hops.out, ha0.out]
        (try simp only [Act.put, List.getElem_toArray, List.getElem_cons_zero, List.getElem_cons_succ, List.setIfInBounds_toArray, List.set_cons_zero, List.set_cons_succ])
        refine wpAnyH_ready (rs := [5]) (by kernel_rfl) (by simp) ?_
        refine AllReadyH.cons rfl (fun K hK => ?_) ?_
        · have hh : Hid (Fr WE wv) := hHeld.2.2.2
          go_simp
          refine (add_any _ _ x x _ (IsNat.fr HX.out hh.out) (IsNat.fr HX.out hh.out) (by omega) (by omega)).mono ?_
          rintro e wn ⟨at2, ct2, rfl, it, _, fy⟩
          have fz := hide (hh.out.trans fy)
          have IT := hide it
          have IL := hide (IsNat.fr IL.out fy)
          have V0 := hide (Var.fr V0.out fy)
          have V1 := hide (Var.fr V1.out fy)
          (try go_wp2_with fail)
          refine hK.out _ _ ?_ (fun hHeld => ?_)
          · (try dsimp only)
            exact ⟨fr_cell fz.out c5, fr_cell fz.out c6, fr_cell fz.out cP, fz⟩
          (try simp only [Act.put, List.getElem_toArray, List.getElem_cons_zero, List.getElem_cons_succ, List.setIfInBounds_toArray, List.set_cons_zero, List.set_cons_succ])
          have n := N2_01.out al cl at2 ct2 d0 d1 wn hHeld IL Oal_0 Oal_1 IT V0 V1 D01
          rw [hops.out, ha0.out] at n
          (try simp only [Act.put, List.getElem_toArray, List.getElem_cons_zero, List.getElem_cons_succ, List.setIfInBounds_toArray, List.set_cons_zero, List.set_cons_succ] at n)
          exact n
        exact AllReadyH.nil
      have N1_0 : Hid (∀ (al : Option Addr) (cl : Nat) (d0 : Nat) (wv : World), (fun w' => w'.cell? ⟨w3.heap.size, 0, none⟩ = some (.slice ax (nlen 4294967296 x) cx) ∧ w'.cell? ⟨w3.heap.size + 1, 0, none⟩ = some (.slice ay (nlen 4294967296 y) cy) ∧ w'.cell? ⟨b0, 0, none⟩ = some (.slice ap (nlen 4294967296 P) cp) ∧ Hid (Fr WE w')) wv → (IL : Hid (IsNat wv (.agg #[.slice al (nlen 4294967296 (P + y)) cl]) (P + y))) → (Oal_0 : Off al (nlen 4294967296 (P + y)) d0) → (V0 : Hid (Var WE wv d0)) → wpAnyH Try.prog .any ops Q (fun w' => w'.cell? ⟨w3.heap.size, 0, none⟩ = some (.slice ax (nlen 4294967296 x) cx) ∧ w'.cell? ⟨w3.heap.size + 1, 0, none⟩ = some (.slice ay (nlen 4294967296 y) cy) ∧ w'.cell? ⟨b0, 0, none⟩ = some (.slice ap (nlen 4294967296 P) cp) ∧ Hid (Fr WE w')) 5 #[true, true, true, true, true, false, true, false, true, false, false, false] (((((((a0.put (some 42) (.agg #[.slice ap (nlen 4294967296 (P)) cp])).put (some 43) (.agg #[.slice ay (nlen 4294967296 (y)) cy])).put (some 45) (.agg #[.slice ax (nlen 4294967296 (x)) cx])).put (some 46) (.agg #[.slice ax (nlen 4294967296 (x)) cx])).put (some 48) (.agg #[.slice ay (nlen 4294967296 (y)) cy])).put (some 44) (.agg #[.slice al (nlen 4294967296 (P + y)) cl])).put (some 10) (.pointer (some ⟨d0, 0, none⟩))) wv) := by
        refine hide ?_
        intro al cl d0 wv hHeld IL Oal_0 V0
        clear N3_01 N3_0 N3_1 N3_ N2_01 N2_1 N2_
        rw [hops.out, ha0.out]
        (try simp only [Act.put, List.getElem_toArray, List.getElem_cons_zero, List.getElem_cons_succ, List.setIfInBounds_toArray, List.set_cons_zero, List.set_cons_succ])
        refine wpAnyH_ready (rs := [5, 9]) (by kernel_rfl) (by simp) ?_
        refine AllReadyH.cons rfl (fun K hK => ?_) ?_
        · have hh : Hid (Fr WE wv) := hHeld.2.2.2
          go_simp
          refine (add_any _ _ x x _ (IsNat.fr HX.out hh.out) (IsNat.fr HX.out hh.out) (by omega) (by omega)).mono ?_
          rintro e wn ⟨at2, ct2, rfl, it, _, fy⟩
          have fz := hide (hh.out.trans fy)
          have IT := hide it
          have IL := hide (IsNat.fr IL.out fy)
          have V0 := hide (Var.fr V0.out fy)
          (try go_wp2_with fail)
          refine hK.out _ _ ?_ (fun hHeld => ?_)
          · (try dsimp only)
            exact ⟨fr_cell fz.out c5, fr_cell fz.out c6, fr_cell fz.out cP, fz⟩
          (try simp only [Act.put, List.getElem_toArray, List.getElem_cons_zero, List.getElem_cons_succ, List.setIfInBounds_toArray, List.set_cons_zero, List.set_cons_succ])
          have n := N2_0.out al cl at2 ct2 d0 wn hHeld IL Oal_0 IT V0
          rw [hops.out, ha0.out] at n
          (try simp only [Act.put, List.getElem_toArray, List.getElem_cons_zero, List.getElem_cons_succ, List.setIfInBounds_toArray, List.set_cons_zero, List.set_cons_succ] at n)
          exact n
        refine AllReadyH.cons rfl (fun K hK => ?_) ?_
        · have hh : Hid (Fr WE wv) := hHeld.2.2.2
          have hn := Var.new (W := WE) (w := wv) (t := 25) hh.out.size
          have fz := hide (hh.out.trans (Fr.alloc wv (.cells #[.slice none 0 0] 25)))
          have Oal_1 := off_new IL.out
          have D01 : d0 ≠ wv.heap.size := by have := Var.lt V0.out; omega
          have V1 := hide hn
          have IL := hide (IsNat.fr IL.out (Fr.alloc wv (.cells #[.slice none 0 0] 25)))
          have V0 := hide (Var.fr V0.out (Fr.alloc wv (.cells #[.slice none 0 0] 25)))
          clear hn
          go_simp
          refine hK.out _ _ ?_ (fun hHeld => ?_)
          · (try dsimp only)
            exact ⟨fr_cell fz.out c5, fr_cell fz.out c6, fr_cell fz.out cP, fz⟩
          (try simp only [Act.put, List.getElem_toArray, List.getElem_cons_zero, List.getElem_cons_succ, List.setIfInBounds_toArray, List.set_cons_zero, List.set_cons_succ])
          have n := N1_01.out al cl d0 wv.heap.size _ hHeld IL Oal_0 Oal_1 V0 V1 D01
          rw [hops.out, ha0.out] at n
          (try simp only [Act.put, List.getElem_toArray, List.getElem_cons_zero, List.getElem_cons_succ, List.setIfInBounds_toArray, List.set_cons_zero, List.set_cons_succ] at n)
          exact n
        exact AllReadyH.nil
      have N1_1 : Hid (∀ (al : Option Addr) (cl : Nat) (d1 : Nat) (wv : World), (fun w' => w'.cell? ⟨w3.heap.size, 0, none⟩ = some (.slice ax (nlen 4294967296 x) cx) ∧ w'.cell? ⟨w3.heap.size + 1, 0, none⟩ = some (.slice ay (nlen 4294967296 y) cy) ∧ w'.cell? ⟨b0, 0, none⟩ = some (.slice ap (nlen 4294967296 P) cp) ∧ Hid (Fr WE w')) wv → (IL : Hid (IsNat wv (.agg #[.slice al (nlen 4294967296 (P + y)) cl]) (P + y))) → (Oal_1 : Off al (nlen 4294967296 (P + y)) d1) → (V1 : Hid (Var WE wv d1)) → wpAnyH Try.prog .any ops Q (fun w' => w'.cell? ⟨w3.heap.size, 0, none⟩ = some (.slice ax (nlen 4294967296 x) cx) ∧ w'.cell? ⟨w3.heap.size + 1, 0, none⟩ = some (.slice ay (nlen 4294967296 y) cy) ∧ w'.cell? ⟨b0, 0, none⟩ = some (.slice ap (nlen 4294967296 P) cp) ∧ Hid (Fr WE w')) 5 #[true, true, true, true, true, false, true, false, false, true, false, false] (((((((a0.put (some 42) (.agg #[.slice ap (nlen 4294967296 (P)) cp])).put (some 43) (.agg #[.slice ay (nlen 4294967296 (y)) cy])).put (some 45) (.agg #[.slice ax (nlen 4294967296 (x)) cx])).put (some 46) (.agg #[.slice ax (nlen 4294967296 (x)) cx])).put (some 48) (.agg #[.slice ay (nlen 4294967296 (y)) cy])).put (some 44) (.agg #[.slice al (nlen 4294967296 (P + y)) cl])).put (some 11) (.pointer (some ⟨d1, 0, none⟩))) wv) := by
        refine hide ?_
        intro al cl d1 wv hHeld IL Oal_1 V1
        clear N3_01 N3_0 N3_1 N3_ N2_01 N2_0 N2_ N1_0
        rw [hops.out, ha0.out]
        (try simp only [Act.put, List.getElem_toArray, List.getElem_cons_zero, List.getElem_cons_succ, List.setIfInBounds_toArray, List.set_cons_zero, List.set_cons_succ])
        refine wpAnyH_ready (rs := [5, 8]) (by kernel_rfl) (by simp) ?_
        refine AllReadyH.cons rfl (fun K hK => ?_) ?_
        · have hh : Hid (Fr WE wv) := hHeld.2.2.2
          go_simp
          refine (add_any _ _ x x _ (IsNat.fr HX.out hh.out) (IsNat.fr HX.out hh.out) (by omega) (by omega)).mono ?_
          rintro e wn ⟨at2, ct2, rfl, it, _, fy⟩
          have fz := hide (hh.out.trans fy)
          have IT := hide it
          have IL := hide (IsNat.fr IL.out fy)
          have V1 := hide (Var.fr V1.out fy)
          (try go_wp2_with fail)
          refine hK.out _ _ ?_ (fun hHeld => ?_)
          · (try dsimp only)
            exact ⟨fr_cell fz.out c5, fr_cell fz.out c6, fr_cell fz.out cP, fz⟩
          (try simp only [Act.put, List.getElem_toArray, List.getElem_cons_zero, List.getElem_cons_succ, List.setIfInBounds_toArray, List.set_cons_zero, List.set_cons_succ])
          have n := N2_1.out al cl at2 ct2 d1 wn hHeld IL Oal_1 IT V1
          rw [hops.out, ha0.out] at n
          (try simp only [Act.put, List.getElem_toArray, List.getElem_cons_zero, List.getElem_cons_succ, List.setIfInBounds_toArray, List.set_cons_zero, List.set_cons_succ] at n)
          exact n
        refine AllReadyH.cons rfl (fun K hK => ?_) ?_
        · have hh : Hid (Fr WE wv) := hHeld.2.2.2
          have hn := Var.new (W := WE) (w := wv) (t := 25) hh.out.size
          have fz := hide (hh.out.trans (Fr.alloc wv (.cells #[.slice none 0 0] 25)))
          have Oal_0 := off_new IL.out
          have D01 : wv.heap.size ≠ d1 := by have := Var.lt V1.out; omega
          have V0 := hide hn
          have IL := hide (IsNat.fr IL.out (Fr.alloc wv (.cells #[.slice none 0 0] 25)))
          have V1 := hide (Var.fr V1.out (Fr.alloc wv (.cells #[.slice none 0 0] 25)))
          clear hn
          go_simp
          refine hK.out _ _ ?_ (fun hHeld => ?_)
          · (try dsimp only)
            exact ⟨fr_cell fz.out c5, fr_cell fz.out c6, fr_cell fz.out cP, fz⟩
          (try simp only [Act.put, List.getElem_toArray, List.getElem_cons_zero, List.getElem_cons_succ, List.setIfInBounds_toArray, List.set_cons_zero, List.set_cons_succ])
          have n := N1_01.out al cl wv.heap.size d1 _ hHeld IL Oal_0 Oal_1 V0 V1 D01
          rw [hops.out, ha0.out] at n
          (try simp only [Act.put, List.getElem_toArray, List.getElem_cons_zero, List.getElem_cons_succ, List.setIfInBounds_toArray, List.set_cons_zero, List.set_cons_succ] at n)
          exact n
        exact AllReadyH.nil
      have N1_ : Hid (∀ (al : Option Addr) (cl : Nat) (wv : World), (fun w' => w'.cell? ⟨w3.heap.size, 0, none⟩ = some (.slice ax (nlen 4294967296 x) cx) ∧ w'.cell? ⟨w3.heap.size + 1, 0, none⟩ = some (.slice ay (nlen 4294967296 y) cy) ∧ w'.cell? ⟨b0, 0, none⟩ = some (.slice ap (nlen 4294967296 P) cp) ∧ Hid (Fr WE w')) wv → (IL : Hid (IsNat wv (.agg #[.slice al (nlen 4294967296 (P + y)) cl]) (P + y))) → wpAnyH Try.prog .any ops Q (fun w' => w'.cell? ⟨w3.heap.size, 0, none⟩ = some (.slice ax (nlen 4294967296 x) cx) ∧ w'.cell? ⟨w3.heap.size + 1, 0, none⟩ = some (.slice ay (nlen 4294967296 y) cy) ∧ w'.cell? ⟨b0, 0, none⟩ = some (.slice ap (nlen 4294967296 P) cp) ∧ Hid (Fr WE w')) 6 #[true, true, true, true, true, false, true, false, false, false, false, false] ((((((a0.put (some 42) (.agg #[.slice ap (nlen 4294967296 (P)) cp])).put (some 43) (.agg #[.slice ay (nlen 4294967296 (y)) cy])).put (some 45) (.agg #[.slice ax (nlen 4294967296 (x)) cx])).put (some 46) (.agg #[.slice ax (nlen 4294967296 (x)) cx])).put (some 48) (.agg #[.slice ay (nlen 4294967296 (y)) cy])).put (some 44) (.agg #[.slice al (nlen 4294967296 (P + y)) cl])) wv) := by
        refine hide ?_
        intro al cl  wv hHeld IL
        clear N3_01 N3_0 N3_1 N3_ N2_01 N2_0 N2_1 N1_01
        rw [hops.out, ha0.out]
        (try simp only [Act.put, List.getElem_toArray, List.getElem_cons_zero, List.getElem_cons_succ, List.setIfInBounds_toArray, List.set_cons_zero, List.set_cons_succ])
        refine wpAnyH_ready (rs := [5, 8, 9]) (by kernel_rfl) (by simp) ?_
        refine AllReadyH.cons rfl (fun K hK => ?_) ?_
        · have hh : Hid (Fr WE wv) := hHeld.2.2.2
          go_simp
          refine (add_any _ _ x x _ (IsNat.fr HX.out hh.out) (IsNat.fr HX.out hh.out) (by omega) (by omega)).mono ?_
          rintro e wn ⟨at2, ct2, rfl, it, _, fy⟩
          have fz := hide (hh.out.trans fy)
          have IT := hide it
          have IL := hide (IsNat.fr IL.out fy)
          (try go_wp2_with fail)
          refine hK.out _ _ ?_ (fun hHeld => ?_)
          · (try dsimp only)
            exact ⟨fr_cell fz.out c5, fr_cell fz.out c6, fr_cell fz.out cP, fz⟩
          (try simp only [Act.put, List.getElem_toArray, List.getElem_cons_zero, List.getElem_cons_succ, List.setIfInBounds_toArray, List.set_cons_zero, List.set_cons_succ])
          have n := N2_.out al cl at2 ct2 wn hHeld IL IT
          rw [hops.out, ha0.out] at n
          (try simp only [Act.put, List.getElem_toArray, List.getElem_cons_zero, List.getElem_cons_succ, List.setIfInBounds_toArray, List.set_cons_zero, List.set_cons_succ] at n)
          exact n
        refine AllReadyH.cons rfl (fun K hK => ?_) ?_
        · have hh : Hid (Fr WE wv) := hHeld.2.2.2
          have hn := Var.new (W := WE) (w := wv) (t := 25) hh.out.size
          have fz := hide (hh.out.trans (Fr.alloc wv (.cells #[.slice none 0 0] 25)))
          have Oal_0 := off_new IL.out
          have V0 := hide hn
          have IL := hide (IsNat.fr IL.out (Fr.alloc wv (.cells #[.slice none 0 0] 25)))
          clear hn
          go_simp
          refine hK.out _ _ ?_ (fun hHeld => ?_)
          · (try dsimp only)
            exact ⟨fr_cell fz.out c5, fr_cell fz.out c6, fr_cell fz.out cP, fz⟩
          (try simp only [Act.put, List.getElem_toArray, List.getElem_cons_zero, List.getElem_cons_succ, List.setIfInBounds_toArray, List.set_cons_zero, List.set_cons_succ])
          have n := N1_0.out al cl wv.heap.size _ hHeld IL Oal_0 V0
          rw [hops.out, ha0.out] at n
          (try simp only [Act.put, List.getElem_toArray, List.getElem_cons_zero, List.getElem_cons_succ, List.setIfInBounds_toArray, List.set_cons_zero, List.set_cons_succ] at n)
          exact n
        refine AllReadyH.cons rfl (fun K hK => ?_) ?_
        · have hh : Hid (Fr WE wv) := hHeld.2.2.2
          have hn := Var.new (W := WE) (w := wv) (t := 25) hh.out.size
          have fz := hide (hh.out.trans (Fr.alloc wv (.cells #[.slice none 0 0] 25)))
          have Oal_1 := off_new IL.out
          have V1 := hide hn
          have IL := hide (IsNat.fr IL.out (Fr.alloc wv (.cells #[.slice none 0 0] 25)))
          clear hn
          go_simp
          refine hK.out _ _ ?_ (fun hHeld => ?_)
          · (try dsimp only)
            exact ⟨fr_cell fz.out c5, fr_cell fz.out c6, fr_cell fz.out cP, fz⟩
          (try simp only [Act.put, List.getElem_toArray, List.getElem_cons_zero, List.getElem_cons_succ, List.setIfInBounds_toArray, List.set_cons_zero, List.set_cons_succ])
          have n := N1_1.out al cl wv.heap.size _ hHeld IL Oal_1 V1
          rw [hops.out, ha0.out] at n
          (try simp only [Act.put, List.getElem_toArray, List.getElem_cons_zero, List.getElem_cons_succ, List.setIfInBounds_toArray, List.set_cons_zero, List.set_cons_succ] at n)
          exact n
        exact AllReadyH.nil
      have N0_01 : Hid (∀ (d0 : Nat) (d1 : Nat) (wv : World), (fun w' => w'.cell? ⟨w3.heap.size, 0, none⟩ = some (.slice ax (nlen 4294967296 x) cx) ∧ w'.cell? ⟨w3.heap.size + 1, 0, none⟩ = some (.slice ay (nlen 4294967296 y) cy) ∧ w'.cell? ⟨b0, 0, none⟩ = some (.slice ap (nlen 4294967296 P) cp) ∧ Hid (Fr WE w')) wv → (V0 : Hid (Var WE wv d0)) → (V1 : Hid (Var WE wv d1)) → (D01 : d0 ≠ d1) → wpAnyH Try.prog .any ops Q (fun w' => w'.cell? ⟨w3.heap.size, 0, none⟩ = some (.slice ax (nlen 4294967296 x) cx) ∧ w'.cell? ⟨w3.heap.size + 1, 0, none⟩ = some (.slice ay (nlen 4294967296 y) cy) ∧ w'.cell? ⟨b0, 0, none⟩ = some (.slice ap (nlen 4294967296 P) cp) ∧ Hid (Fr WE w')) 5 #[true, true, false, true, true, false, true, false, true, true, false, false] (((((((a0.put (some 42) (.agg #[.slice ap (nlen 4294967296 (P)) cp])).put (some 43) (.agg #[.slice ay (nlen 4294967296 (y)) cy])).put (some 45) (.agg #[.slice ax (nlen 4294967296 (x)) cx])).put (some 46) (.agg #[.slice ax (nlen 4294967296 (x)) cx])).put (some 48) (.agg #[.slice ay (nlen 4294967296 (y)) cy])).put (some 10) (.pointer (some ⟨d0, 0, none⟩))).put (some 11) (.pointer (some ⟨d1, 0, none⟩))) wv) := by
        refine hide ?_
        intro  d0 d1 wv hHeld V0 V1 D01
        clear N3_01 N3_0 N3_1 N3_ N2_01 N2_0 N2_1 N2_ N1_0 N1_1 N1_
        rw [hops.out, ha0.out]
        (try simp only [Act.put, List.getElem_toArray, List.getElem_cons_zero, List.getElem_cons_succ, List.setIfInBounds_toArray, List.set_cons_zero, List.set_cons_succ])
        refine wpAnyH_ready (rs := [2]) (by kernel_rfl) (by simp) ?_
        refine AllReadyH.cons rfl (fun K hK => ?_) ?_
        · have hh : Hid (Fr WE wv) := hHeld.2.2.2
          go_simp
          refine (add_any _ _ P y _ (IsNat.fr IP.out hh.out) (IsNat.fr HY.out hh.out) (by omega) (by omega)).mono ?_
          rintro e wn ⟨al, cl, rfl, il, ll, fy⟩
          have fz := hide (hh.out.trans fy)
          have IL := hide il
          have Oal_0 : Off al (nlen 4294967296 (P + y)) d0 := off_old ll (Var.lt V0.out)
          have Oal_1 : Off al (nlen 4294967296 (P + y)) d1 := off_old ll (Var.lt V1.out)
          have V0 := hide (Var.fr V0.out fy)
          have V1 := hide (Var.fr V1.out fy)
          (try go_wp2_with fail)
          refine hK.out _ _ ?_ (fun hHeld => ?_)
          · (try dsimp only)
            exact ⟨fr_cell fz.out c5, fr_cell fz.out c6, fr_cell fz.out cP, fz⟩
          (try simp only [Act.put, List.getElem_toArray, List.getElem_cons_zero, List.getElem_cons_succ, List.setIfInBounds_toArray, List.set_cons_zero, List.set_cons_succ])
          have n := N1_01.out al cl d0 d1 wn hHeld IL Oal_0 Oal_1 V0 V1 D01
          rw [hops.out, ha0.out] at n
          (try simp only [Act.put, List.getElem_toArray, List.getElem_cons_zero, List.getElem_cons_succ, List.setIfInBounds_toArray, List.set_cons_zero, List.set_cons_succ] at n)
          exact n
        exact AllReadyH.nil
      have N0_0 : Hid (∀ (d0 : Nat) (wv : World), (fun w' => w'.cell? ⟨w3.heap.size, 0, none⟩ = some (.slice ax (nlen 4294967296 x) cx) ∧ w'.cell? ⟨w3.heap.size + 1, 0, none⟩ = some (.slice ay (nlen 4294967296 y) cy) ∧ w'.cell? ⟨b0, 0, none⟩ = some (.slice ap (nlen 4294967296 P) cp) ∧ Hid (Fr WE w')) wv → (V0 : Hid (Var WE wv d0)) → wpAnyH Try.prog .any ops Q (fun w' => w'.cell? ⟨w3.heap.size, 0, none⟩ = some (.slice ax (nlen 4294967296 x) cx) ∧ w'.cell? ⟨w3.heap.size + 1, 0, none⟩ = some (.slice ay (nlen 4294967296 y) cy) ∧ w'.cell? ⟨b0, 0, none⟩ = some (.slice ap (nlen 4294967296 P) cp) ∧ Hid (Fr WE w')) 6 #[true, true, false, true, true, false, true, false, true, false, false, false] ((((((a0.put (some 42) (.agg #[.slice ap (nlen 4294967296 (P)) cp])).put (some 43) (.agg #[.slice ay (nlen 4294967296 (y)) cy])).put (some 45) (.agg #[.slice ax (nlen 4294967296 (x)) cx])).put (some 46) (.agg #[.slice ax (nlen 4294967296 (x)) cx])).put (some 48) (.agg #[.slice ay (nlen 4294967296 (y)) cy])).put (some 10) (.pointer (some ⟨d0, 0, none⟩))) wv) := by
        refine hide ?_
        intro  d0 wv hHeld V0
        clear N3_01 N3_0 N3_1 N3_ N2_01 N2_0 N2_1 N2_ N1_01 N1_1 N1_
        rw [hops.out, ha0.out]
        (try simp only [Act.put, List.getElem_toArray, List.getElem_cons_zero, List.getElem_cons_succ, List.setIfInBounds_toArray, List.set_cons_zero, List.set_cons_succ])
        refine wpAnyH_ready (rs := [2, 9]) (by kernel_rfl) (by simp) ?_
        refine AllReadyH.cons rfl (fun K hK => ?_) ?_
        · have hh : Hid (Fr WE wv) := hHeld.2.2.2
          go_simp
          refine (add_any _ _ P y _ (IsNat.fr IP.out hh.out) (IsNat.fr HY.out hh.out) (by omega) (by omega)).mono ?_
          rintro e wn ⟨al, cl, rfl, il, ll, fy⟩
          have fz := hide (hh.out.trans fy)
          have IL := hide il
          have Oal_0 : Off al (nlen 4294967296 (P + y)) d0 := off_old ll (Var.lt V0.out)
          have V0 := hide (Var.fr V0.out fy)
          (try go_wp2_with fail)
          refine hK.out _ _ ?_ (fun hHeld => ?_)
          · (try dsimp only)
            exact ⟨fr_cell fz.out c5, fr_cell fz.out c6, fr_cell fz.out cP, fz⟩
          (try simp only [Act.put, List.getElem_toArray, List.getElem_cons_zero, List.getElem_cons_succ, List.setIfInBounds_toArray, List.set_cons_zero, List.set_cons_succ])
          have n := N1_0.out al cl d0 wn hHeld IL Oal_0 V0
          rw [hops.out, ha0.out] at n
          (try simp only [Act.put, List.getElem_toArray, List.getElem_cons_zero, List.getElem_cons_succ, List.setIfInBounds_toArray, List.set_cons_zero, List.set_cons_succ] at n)
          exact n
        refine AllReadyH.cons rfl (fun K hK => ?_) ?_
        · have hh : Hid (Fr WE wv) := hHeld.2.2.2
          have hn := Var.new (W := WE) (w := wv) (t := 25) hh.out.size
          have fz := hide (hh.out.trans (Fr.alloc wv (.cells #[.slice none 0 0] 25)))
          have D01 : d0 ≠ wv.heap.size := by have := Var.lt V0.out; omega
          have V1 := hide hn
          have V0 := hide (Var.fr V0.out (Fr.alloc wv (.cells #[.slice none 0 0] 25)))
          clear hn
          go_simp
          refine hK.out _ _ ?_ (fun hHeld => ?_)
          · (try dsimp only)
            exact ⟨fr_cell fz.out c5, fr_cell fz.out c6, fr_cell fz.out cP, fz⟩
          (try simp only [Act.put, List.getElem_toArray, List.getElem_cons_zero, List.getElem_cons_succ, List.setIfInBounds_toArray, List.set_cons_zero, List.set_cons_succ])
          have n := N0_01.out d0 wv.heap.size _ hHeld V0 V1 D01
          rw [hops.out, ha0.out] at n
          (try simp only [Act.put, List.getElem_toArray, List.getElem_cons_zero, List.getElem_cons_succ, List.setIfInBounds_toArray, List.set_cons_zero, List.set_cons_succ] at n)
          exact n
        exact AllReadyH.nil
      have N0_1 : Hid (∀ (d1 : Nat) (wv : World), (fun w' => w'.cell? ⟨w3.heap.size, 0, none⟩ = some (.slice ax (nlen 4294967296 x) cx) ∧ w'.cell? ⟨w3.heap.size + 1, 0, none⟩ = some (.slice ay (nlen 4294967296 y) cy) ∧ w'.cell? ⟨b0, 0, none⟩ = some (.slice ap (nlen 4294967296 P) cp) ∧ Hid (Fr WE w')) wv → (V1 : Hid (Var WE wv d1)) → wpAnyH Try.prog .any ops Q (fun w' => w'.cell? ⟨w3.heap.size, 0, none⟩ = some (.slice ax (nlen 4294967296 x) cx) ∧ w'.cell? ⟨w3.heap.size + 1, 0, none⟩ = some (.slice ay (nlen 4294967296 y) cy) ∧ w'.cell? ⟨b0, 0, none⟩ = some (.slice ap (nlen 4294967296 P) cp) ∧ Hid (Fr WE w')) 6 #[true, true, false, true, true, false, true, false, false, true, false, false] ((((((a0.put (some 42) (.agg #[.slice ap (nlen 4294967296 (P)) cp])).put (some 43) (.agg #[.slice ay (nlen 4294967296 (y)) cy])).put (some 45) (.agg #[.slice ax (nlen 4294967296 (x)) cx])).put (some 46) (.agg #[.slice ax (nlen 4294967296 (x)) cx])).put (some 48) (.agg #[.slice ay (nlen 4294967296 (y)) cy])).put (some 11) (.pointer (some ⟨d1, 0, none⟩))) wv) := by
        refine hide ?_
        intro  d1 wv hHeld V1
        clear N3_01 N3_0 N3_1 N3_ N2_01 N2_0 N2_1 N2_ N1_01 N1_0 N1_ N0_0
        rw [hops.out, ha0.out]
        (try simp only [Act.put, List.getElem_toArray, List.getElem_cons_zero, List.getElem_cons_succ, List.setIfInBounds_toArray, List.set_cons_zero, List.set_cons_succ])
        refine wpAnyH_ready (rs := [2, 8]) (by kernel_rfl) (by simp) ?_
        refine AllReadyH.cons rfl (fun K hK => ?_) ?_
        · have hh : Hid (Fr WE wv) := hHeld.2.2.2
          go_simp
          refine (add_any _ _ P y _ (IsNat.fr IP.out hh.out) (IsNat.fr HY.out hh.out) (by omega) (by omega)).mono ?_
          rintro e wn ⟨al, cl, rfl, il, ll, fy⟩
          have fz := hide (hh.out.trans fy)
          have IL := hide il
          have Oal_1 : Off al (nlen 4294967296 (P + y)) d1 := off_old ll (Var.lt V1.out)
          have V1 := hide (Var.fr V1.out fy)
          (try go_wp2_with fail)
          refine hK.out _ _ ?_ (fun hHeld => ?_)
          · (try dsimp only)
            exact ⟨fr_cell fz.out c5, fr_cell fz.out c6, fr_cell fz.out cP, fz⟩
          (try simp only [Act.put, List.getElem_toArray, List.getElem_cons_zero, List.getElem_cons_succ, List.setIfInBounds_toArray, List.set_cons_zero, List.set_cons_succ])
          have n := N1_1.out al cl d1 wn hHeld IL Oal_1 V1
          rw [hops.out, ha0.out] at n
          (try simp only [Act.put, List.getElem_toArray, List.getElem_cons_zero, List.getElem_cons_succ, List.setIfInBounds_toArray, List.set_cons_zero, List.set_cons_succ] at n)
          exact n
        refine AllReadyH.cons rfl (fun K hK => ?_) ?_
        · have hh : Hid (Fr WE wv) := hHeld.2.2.2
          have hn := Var.new (W := WE) (w := wv) (t := 25) hh.out.size
          have fz := hide (hh.out.trans (Fr.alloc wv (.cells #[.slice none 0 0] 25)))
          have D01 : wv.heap.size ≠ d1 := by have := Var.lt V1.out; omega
          have V0 := hide hn
          have V1 := hide (Var.fr V1.out (Fr.alloc wv (.cells #[.slice none 0 0] 25)))
          clear hn
          go_simp
          refine hK.out _ _ ?_ (fun hHeld => ?_)
          · (try dsimp only)
            exact ⟨fr_cell fz.out c5, fr_cell fz.out c6, fr_cell fz.out cP, fz⟩
          (try simp only [Act.put, List.getElem_toArray, List.getElem_cons_zero, List.getElem_cons_succ, List.setIfInBounds_toArray, List.set_cons_zero, List.set_cons_succ])
          have n := N0_01.out wv.heap.size d1 _ hHeld V0 V1 D01
          rw [hops.out, ha0.out] at n
          (try simp only [Act.put, List.getElem_toArray, List.getElem_cons_zero, List.getElem_cons_succ, List.setIfInBounds_toArray, List.set_cons_zero, List.set_cons_succ] at n)
          exact n
        exact AllReadyH.nil
      have N0_ : Hid (∀ (wv : World), (fun w' => w'.cell? ⟨w3.heap.size, 0, none⟩ = some (.slice ax (nlen 4294967296 x) cx) ∧ w'.cell? ⟨w3.heap.size + 1, 0, none⟩ = some (.slice ay (nlen 4294967296 y) cy) ∧ w'.cell? ⟨b0, 0, none⟩ = some (.slice ap (nlen 4294967296 P) cp) ∧ Hid (Fr WE w')) wv → wpAnyH Try.prog .any ops Q (fun w' => w'.cell? ⟨w3.heap.size, 0, none⟩ = some (.slice ax (nlen 4294967296 x) cx) ∧ w'.cell? ⟨w3.heap.size + 1, 0, none⟩ = some (.slice ay (nlen 4294967296 y) cy) ∧ w'.cell? ⟨b0, 0, none⟩ = some (.slice ap (nlen 4294967296 P) cp) ∧ Hid (Fr WE w')) 7 #[true, true, false, true, true, false, true, false, false, false, false, false] (((((a0.put (some 42) (.agg #[.slice ap (nlen 4294967296 (P)) cp])).put (some 43) (.agg #[.slice ay (nlen 4294967296 (y)) cy])).put (some 45) (.agg #[.slice ax (nlen 4294967296 (x)) cx])).put (some 46) (.agg #[.slice ax (nlen 4294967296 (x)) cx])).put (some 48) (.agg #[.slice ay (nlen 4294967296 (y)) cy])) wv) := by
        refine hide ?_
        intro   wv hHeld 
        clear N3_01 N3_0 N3_1 N3_ N2_01 N2_0 N2_1 N2_ N1_01 N1_0 N1_1 N0_01
        rw [hops.out, ha0.out]
        (try simp only [Act.put, List.getElem_toArray, List.getElem_cons_zero, List.getElem_cons_succ, List.setIfInBounds_toArray, List.set_cons_zero, List.set_cons_succ])
        refine wpAnyH_ready (rs := [2, 8, 9]) (by kernel_rfl) (by simp) ?_
        refine AllReadyH.cons rfl (fun K hK => ?_) ?_
        · have hh : Hid (Fr WE wv) := hHeld.2.2.2
          go_simp
          refine (add_any _ _ P y _ (IsNat.fr IP.out hh.out) (IsNat.fr HY.out hh.out) (by omega) (by omega)).mono ?_
          rintro e wn ⟨al, cl, rfl, il, ll, fy⟩
          have fz := hide (hh.out.trans fy)
          have IL := hide il
          (try go_wp2_with fail)
          refine hK.out _ _ ?_ (fun hHeld => ?_)
          · (try dsimp only)
            exact ⟨fr_cell fz.out c5, fr_cell fz.out c6, fr_cell fz.out cP, fz⟩
          (try simp only [Act.put, List.getElem_toArray, List.getElem_cons_zero, List.getElem_cons_succ, List.setIfInBounds_toArray, List.set_cons_zero, List.set_cons_succ])
          have n := N1_.out al cl wn hHeld IL
          rw [hops.out, ha0.out] at n
          (try simp only [Act.put, List.getElem_toArray, List.getElem_cons_zero, List.getElem_cons_succ, List.setIfInBounds_toArray, List.set_cons_zero, List.set_cons_succ] at n)
          exact n
        refine AllReadyH.cons rfl (fun K hK => ?_) ?_
        · have hh : Hid (Fr WE wv) := hHeld.2.2.2
          have hn := Var.new (W := WE) (w := wv) (t := 25) hh.out.size
          have fz := hide (hh.out.trans (Fr.alloc wv (.cells #[.slice none 0 0] 25)))
          have V0 := hide hn
          clear hn
          go_simp
          refine hK.out _ _ ?_ (fun hHeld => ?_)
          · (try dsimp only)
            exact ⟨fr_cell fz.out c5, fr_cell fz.out c6, fr_cell fz.out cP, fz⟩
          (try simp only [Act.put, List.getElem_toArray, List.getElem_cons_zero, List.getElem_cons_succ, List.setIfInBounds_toArray, List.set_cons_zero, List.set_cons_succ])
          have n := N0_0.out wv.heap.size _ hHeld V0
          rw [hops.out, ha0.out] at n
          (try simp only [Act.put, List.getElem_toArray, List.getElem_cons_zero, List.getElem_cons_succ, List.setIfInBounds_toArray, List.set_cons_zero, List.set_cons_succ] at n)
          exact n
        refine AllReadyH.cons rfl (fun K hK => ?_) ?_
        · have hh : Hid (Fr WE wv) := hHeld.2.2.2
          have hn := Var.new (W := WE) (w := wv) (t := 25) hh.out.size
          have fz := hide (hh.out.trans (Fr.alloc wv (.cells #[.slice none 0 0] 25)))
          have V1 := hide hn
          clear hn
          go_simp
          refine hK.out _ _ ?_ (fun hHeld => ?_)
          · (try dsimp only)
            exact ⟨fr_cell fz.out c5, fr_cell fz.out c6, fr_cell fz.out cP, fz⟩
          (try simp only [Act.put, List.getElem_toArray, List.getElem_cons_zero, List.getElem_cons_succ, List.setIfInBounds_toArray, List.set_cons_zero, List.set_cons_succ])
          have n := N0_1.out wv.heap.size _ hHeld V1
          rw [hops.out, ha0.out] at n
          (try simp only [Act.put, List.getElem_toArray, List.getElem_cons_zero, List.getElem_cons_succ, List.setIfInBounds_toArray, List.set_cons_zero, List.set_cons_succ] at n)
          exact n
        exact AllReadyH.nil
      clear N3_01 N3_0 N3_1 N3_ N2_01 N2_0 N2_1 N2_ N1_01 N1_0 N1_1 N1_ N0_01 N0_0 N0_1
      rw [hops.out, ha0.out]
      have hHeld := hHeld0
      refine wpAnyH_take (i := 0) (v := ?_) rfl (by kernel_rfl) (by kernel_rfl) (by kernel_rfl) (fun _ _ _ h => HPan.out _ _ _ _ _ h) (Or.inl ⟨by rfl, ?_⟩) (by assumption) ?_
      rotate_left
      · (intro w hSw; (try dsimp only at hSw); go_simp; try with_reducible rfl)
      (try simp only [Act.put, List.getElem_toArray, List.getElem_cons_zero, List.getElem_cons_succ, List.setIfInBounds_toArray, List.set_cons_zero, List.set_cons_succ])
      refine wpAnyH_take (i := 1) (v := ?_) rfl (by kernel_rfl) (by kernel_rfl) (by kernel_rfl) (fun _ _ _ h => HPan.out _ _ _ _ _ h) (Or.inl ⟨by rfl, ?_⟩) (by assumption) ?_
      rotate_left
      · (intro w hSw; (try dsimp only at hSw); go_simp; try with_reducible rfl)
      (try simp only [Act.put, List.getElem_toArray, List.getElem_cons_zero, List.getElem_cons_succ, List.setIfInBounds_toArray, List.set_cons_zero, List.set_cons_succ])
      refine wpAnyH_take (i := 3) (v := ?_) rfl (by kernel_rfl) (by kernel_rfl) (by kernel_rfl) (fun _ _ _ h => HPan.out _ _ _ _ _ h) (Or.inl ⟨by rfl, ?_⟩) (by assumption) ?_
      rotate_left
      · (intro w hSw; (try dsimp only at hSw); go_simp; try with_reducible rfl)
      (try simp only [Act.put, List.getElem_toArray, List.getElem_cons_zero, List.getElem_cons_succ, List.setIfInBounds_toArray, List.set_cons_zero, List.set_cons_succ])
      refine wpAnyH_take (i := 4) (v := ?_) rfl (by kernel_rfl) (by kernel_rfl) (by kernel_rfl) (fun _ _ _ h => HPan.out _ _ _ _ _ h) (Or.inl ⟨by rfl, ?_⟩) (by assumption) ?_
      rotate_left
      · (intro w hSw; (try dsimp only at hSw); go_simp; try with_reducible rfl)
      (try simp only [Act.put, List.getElem_toArray, List.getElem_cons_zero, List.getElem_cons_succ, List.setIfInBounds_toArray, List.set_cons_zero, List.set_cons_succ])
      refine wpAnyH_take (i := 6) (v := ?_) rfl (by kernel_rfl) (by kernel_rfl) (by kernel_rfl) (fun _ _ _ h => HPan.out _ _ _ _ _ h) (Or.inl ⟨by rfl, ?_⟩) (by assumption) ?_
      rotate_left
      · (intro w hSw; (try dsimp only at hSw); go_simp; try with_reducible rfl)
      (try simp only [Act.put, List.getElem_toArray, List.getElem_cons_zero, List.getElem_cons_succ, List.setIfInBounds_toArray, List.set_cons_zero, List.set_cons_succ])
      have n := N0_.out _ hHeld
      rw [hops.out, ha0.out] at n
      (try simp only [Act.put, List.getElem_toArray, List.getElem_cons_zero, List.getElem_cons_succ, List.setIfInBounds_toArray, List.set_cons_zero, List.set_cons_succ] at n)
      exact n

    have N2_ : Hid (∀ (ad : Option Addr) (cd : Nat) (ap : Option Addr) (cp : Nat) (wv : World), (fun w' => w'.cell? ⟨w3.heap.size, 0, none⟩ = some (.slice ax (nlen 4294967296 x) cx) ∧ w'.cell? ⟨w3.heap.size + 1, 0, none⟩ = some (.slice ay (nlen 4294967296 y) cy) ∧ w'.cell? ⟨w4.heap.size, 0, none⟩ = some (.slice ah (nlen 4294967296 h) ch) ∧ Hid (Fr WB w')) wv → (IP : Hid (IsNat wv (.agg #[.slice ap (nlen 4294967296 (P)) cp]) P)) → wpAnyH Try.prog .any ops Q (fun w' => w'.cell? ⟨w3.heap.size, 0, none⟩ = some (.slice ax (nlen 4294967296 x) cx) ∧ w'.cell? ⟨w3.heap.size + 1, 0, none⟩ = some (.slice ay (nlen 4294967296 y) cy) ∧ w'.cell? ⟨w4.heap.size, 0, none⟩ = some (.slice ah (nlen 4294967296 h) ch) ∧ Hid (Fr WB w')) 2 #[true, true, true, true, true, false, false] (((((a0.put (some 37) (.agg #[.slice ah (nlen 4294967296 (h)) ch])).put (some 38) (.agg #[.slice ay (nlen 4294967296 (y)) cy])).put (some 39) (.agg #[.slice ay (nlen 4294967296 (y)) cy])).put (some 40) (.agg #[.slice ad (nlen 4294967296 (y + y)) cd])).put (some 41) (.agg #[.slice ap (nlen 4294967296 (P)) cp])) wv) := by
      refine hide ?_
      intro ad cd ap cp  wv hHeld IP
      rw [hops.out, ha0.out]
      (try simp only [Act.put, List.getElem_toArray, List.getElem_cons_zero, List.getElem_cons_succ, List.setIfInBounds_toArray, List.set_cons_zero, List.set_cons_succ])
      refine wpAnyH_ready (rs := [5]) (by kernel_rfl) (by simp) ?_
      refine AllReadyH.cons rfl (fun K hK => ?_) ?_
      · have hh : Hid (Fr WB wv) := hHeld.2.2.2
        have hn := Var.new (W := WB) (w := wv) (t := 25) hh.out.size
        have fz := hide (hh.out.trans (Fr.alloc wv (.cells #[.slice none 0 0] 25)))
        have Oap_0 := off_new IP.out
        have V0 := hide hn
        have IP := hide (IsNat.fr IP.out (Fr.alloc wv (.cells #[.slice none 0 0] 25)))
        clear hn
        go_simp
        refine hK.out _ _ ?_ (fun hHeld => ?_)
        · (try dsimp only)
          exact ⟨fr_cell fz.out c5, fr_cell fz.out c6, fr_cell fz.out c7, fz⟩
        (try simp only [Act.put, List.getElem_toArray, List.getElem_cons_zero, List.getElem_cons_succ, List.setIfInBounds_toArray, List.set_cons_zero, List.set_cons_succ])
        have n := N2_0.out ad cd ap cp wv.heap.size _ hHeld IP Oap_0 V0
        rw [hops.out, ha0.out] at n
        (try simp only [Act.put, List.getElem_toArray, List.getElem_cons_zero, List.getElem_cons_succ, List.setIfInBounds_toArray, List.set_cons_zero, List.set_cons_succ] at n)
        exact n
      exact AllReadyH.nil
    have N1_0 : Hid (∀ (ad : Option Addr) (cd : Nat) (b0 : Nat) (wv : World), (fun w' => w'.cell? ⟨w3.heap.size, 0, none⟩ = some (.slice ax (nlen 4294967296 x) cx) ∧ w'.cell? ⟨w3.heap.size + 1, 0, none⟩ = some (.slice ay (nlen 4294967296 y) cy) ∧ w'.cell? ⟨w4.heap.size, 0, none⟩ = some (.slice ah (nlen 4294967296 h) ch) ∧ Hid (Fr WB w')) wv → (ID : Hid (IsNat wv (.agg #[.slice ad (nlen 4294967296 (y + y)) cd]) (y + y))) → (V0 : Hid (Var WB wv b0)) → wpAnyH Try.prog .any ops Q (fun w' => w'.cell? ⟨w3.heap.size, 0, none⟩ = some (.slice ax (nlen 4294967296 x) cx) ∧ w'.cell? ⟨w3.heap.size + 1, 0, none⟩ = some (.slice ay (nlen 4294967296 y) cy) ∧ w'.cell? ⟨w4.heap.size, 0, none⟩ = some (.slice ah (nlen 4294967296 h) ch) ∧ Hid (Fr WB w')) 2 #[true, true, true, true, false, true, false] (((((a0.put (some 37) (.agg #[.slice ah (nlen 4294967296 (h)) ch])).put (some 38) (.agg #[.slice ay (nlen 4294967296 (y)) cy])).put (some 39) (.agg #[.slice ay (nlen 4294967296 (y)) cy])).put (some 40) (.agg #[.slice ad (nlen 4294967296 (y + y)) cd])).put (some 9) (.pointer (some ⟨b0, 0, none⟩))) wv) := by
      refine hide ?_
      intro ad cd b0 wv hHeld ID V0
      clear N2_
      rw [hops.out, ha0.out]
      (try simp only [Act.put, List.getElem_toArray, List.getElem_cons_zero, List.getElem_cons_succ, List.setIfInBounds_toArray, List.set_cons_zero, List.set_cons_succ])
      refine wpAnyH_ready (rs := [4]) (by kernel_rfl) (by simp) ?_
      refine AllReadyH.cons rfl (fun K hK => ?_) ?_
      · have hh : Hid (Fr WB wv) := hHeld.2.2.2
        go_simp
        refine (mul_any _ _ h (y + y) _ (IsNat.fr IH.out hh.out) ID.out (by omega) (by omega)).mono ?_
        rintro e wn ⟨ap, cp, rfl, ip, lp, fy⟩
        rw [HP.out] at ip
        rw [HP.out]
        have fz := hide (hh.out.trans fy)
        have IP := hide ip
        have Oap_0 : Off ap (nlen 4294967296 P) b0 := off_old lp (Var.lt V0.out)
        have V0 := hide (Var.fr V0.out fy)
        (try go_wp2_with fail)
        refine hK.out _ _ ?_ (fun hHeld => ?_)
        · (try dsimp only)
          exact ⟨fr_cell fz.out c5, fr_cell fz.out c6, fr_cell fz.out c7, fz⟩
        (try simp only [Act.put, List.getElem_toArray, List.getElem_cons_zero, List.getElem_cons_succ, List.setIfInBounds_toArray, List.set_cons_zero, List.set_cons_succ])
        have n := N2_0.out ad cd ap cp b0 wn hHeld IP Oap_0 V0
        rw [hops.out, ha0.out] at n
        (try simp only [Act.put, List.getElem_toArray, List.getElem_cons_zero, List.getElem_cons_succ, List.setIfInBounds_toArray, List.set_cons_zero, List.set_cons_succ] at n)
        exact n
      exact AllReadyH.nil
    have N1_ : Hid (∀ (ad : Option Addr) (cd : Nat) (wv : World), (fun w' => w'.cell? ⟨w3.heap.size, 0, none⟩ = some (.slice ax (nlen 4294967296 x) cx) ∧ w'.cell? ⟨w3.heap.size + 1, 0, none⟩ = some (.slice ay (nlen 4294967296 y) cy) ∧ w'.cell? ⟨w4.heap.size, 0, none⟩ = some (.slice ah (nlen 4294967296 h) ch) ∧ Hid (Fr WB w')) wv → (ID : Hid (IsNat wv (.agg #[.slice ad (nlen 4294967296 (y + y)) cd]) (y + y))) → wpAnyH Try.prog .any ops Q (fun w' => w'.cell? ⟨w3.heap.size, 0, none⟩ = some (.slice ax (nlen 4294967296 x) cx) ∧ w'.cell? ⟨w3.heap.size + 1, 0, none⟩ = some (.slice ay (nlen 4294967296 y) cy) ∧ w'.cell? ⟨w4.heap.size, 0, none⟩ = some (.slice ah (nlen 4294967296 h) ch) ∧ Hid (Fr WB w')) 3 #[true, true, true, true, false, false, false] ((((a0.put (some 37) (.agg #[.slice ah (nlen 4294967296 (h)) ch])).put (some 38) (.agg #[.slice ay (nlen 4294967296 (y)) cy])).put (some 39) (.agg #[.slice ay (nlen 4294967296 (y)) cy])).put (some 40) (.agg #[.slice ad (nlen 4294967296 (y + y)) cd])) wv) := by
      refine hide ?_
      intro ad cd  wv hHeld ID
      clear N2_0
      rw [hops.out, ha0.out]
      (try simp only [Act.put, List.getElem_toArray, List.getElem_cons_zero, List.getElem_cons_succ, List.setIfInBounds_toArray, List.set_cons_zero, List.set_cons_succ])
      refine wpAnyH_ready (rs := [4, 5]) (by kernel_rfl) (by simp) ?_
      refine AllReadyH.cons rfl (fun K hK => ?_) ?_
      · have hh : Hid (Fr WB wv) := hHeld.2.2.2
        go_simp
        refine (mul_any _ _ h (y + y) _ (IsNat.fr IH.out hh.out) ID.out (by omega) (by omega)).mono ?_
        rintro e wn ⟨ap, cp, rfl, ip, lp, fy⟩
        rw [HP.out] at ip
        rw [HP.out]
        have fz := hide (hh.out.trans fy)
        have IP := hide ip
        (try go_wp2_with fail)
        refine hK.out _ _ ?_ (fun hHeld => ?_)
        · (try dsimp only)
          exact ⟨fr_cell fz.out c5, fr_cell fz.out c6, fr_cell fz.out c7, fz⟩
        (try simp only [Act.put, List.getElem_toArray, List.getElem_cons_zero, List.getElem_cons_succ, List.setIfInBounds_toArray, List.set_cons_zero, List.set_cons_succ])
        have n := N2_.out ad cd ap cp wn hHeld IP
        rw [hops.out, ha0.out] at n
        (try simp only [Act.put, List.getElem_toArray, List.getElem_cons_zero, List.getElem_cons_succ, List.setIfInBounds_toArray, List.set_cons_zero, List.set_cons_succ] at n)
        exact n
      refine AllReadyH.cons rfl (fun K hK => ?_) ?_
      · have hh : Hid (Fr WB wv) := hHeld.2.2.2
        have hn := Var.new (W := WB) (w := wv) (t := 25) hh.out.size
        have fz := hide (hh.out.trans (Fr.alloc wv (.cells #[.slice none 0 0] 25)))
        have V0 := hide hn
        have ID := hide (IsNat.fr ID.out (Fr.alloc wv (.cells #[.slice none 0 0] 25)))
        clear hn
        go_simp
        refine hK.out _ _ ?_ (fun hHeld => ?_)
        · (try dsimp only)
          exact ⟨fr_cell fz.out c5, fr_cell fz.out c6, fr_cell fz.out c7, fz⟩
        (try simp only [Act.put, List.getElem_toArray, List.getElem_cons_zero, List.getElem_cons_succ, List.setIfInBounds_toArray, List.set_cons_zero, List.set_cons_succ])
        have n := N1_0.out ad cd wv.heap.size _ hHeld ID V0
        rw [hops.out, ha0.out] at n
        (try simp only [Act.put, List.getElem_toArray, List.getElem_cons_zero, List.getElem_cons_succ, List.setIfInBounds_toArray, List.set_cons_zero, List.set_cons_succ] at n)
        exact n
      exact AllReadyH.nil
    have N0_0 : Hid (∀ (b0 : Nat) (wv : World), (fun w' => w'.cell? ⟨w3.heap.size, 0, none⟩ = some (.slice ax (nlen 4294967296 x) cx) ∧ w'.cell? ⟨w3.heap.size + 1, 0, none⟩ = some (.slice ay (nlen 4294967296 y) cy) ∧ w'.cell? ⟨w4.heap.size, 0, none⟩ = some (.slice ah (nlen 4294967296 h) ch) ∧ Hid (Fr WB w')) wv → (V0 : Hid (Var WB wv b0)) → wpAnyH Try.prog .any ops Q (fun w' => w'.cell? ⟨w3.heap.size, 0, none⟩ = some (.slice ax (nlen 4294967296 x) cx) ∧ w'.cell? ⟨w3.heap.size + 1, 0, none⟩ = some (.slice ay (nlen 4294967296 y) cy) ∧ w'.cell? ⟨w4.heap.size, 0, none⟩ = some (.slice ah (nlen 4294967296 h) ch) ∧ Hid (Fr WB w')) 3 #[true, true, true, false, false, true, false] ((((a0.put (some 37) (.agg #[.slice ah (nlen 4294967296 (h)) ch])).put (some 38) (.agg #[.slice ay (nlen 4294967296 (y)) cy])).put (some 39) (.agg #[.slice ay (nlen 4294967296 (y)) cy])).put (some 9) (.pointer (some ⟨b0, 0, none⟩))) wv) := by
      refine hide ?_
      intro  b0 wv hHeld V0
      clear N2_0 N2_ N1_
      rw [hops.out, ha0.out]
      (try simp only [Act.put, List.getElem_toArray, List.getElem_cons_zero, List.getElem_cons_succ, List.setIfInBounds_toArray, List.set_cons_zero, List.set_cons_succ])
      refine wpAnyH_ready (rs := [3]) (by kernel_rfl) (by simp) ?_
      refine AllReadyH.cons rfl (fun K hK => ?_) ?_
      · have hh : Hid (Fr WB wv) := hHeld.2.2.2
        go_simp
        refine (add_any _ _ y y _ (IsNat.fr HY.out hh.out) (IsNat.fr HY.out hh.out) (by omega) (by omega)).mono ?_
        rintro e wn ⟨ad, cd, rfl, id, _, fy⟩
        have fz := hide (hh.out.trans fy)
        have ID := hide id
        have V0 := hide (Var.fr V0.out fy)
        (try go_wp2_with fail)
        refine hK.out _ _ ?_ (fun hHeld => ?_)
        · (try dsimp only)
          exact ⟨fr_cell fz.out c5, fr_cell fz.out c6, fr_cell fz.out c7, fz⟩
        (try simp only [Act.put, List.getElem_toArray, List.getElem_cons_zero, List.getElem_cons_succ, List.setIfInBounds_toArray, List.set_cons_zero, List.set_cons_succ])
        have n := N1_0.out ad cd b0 wn hHeld ID V0
        rw [hops.out, ha0.out] at n
        (try simp only [Act.put, List.getElem_toArray, List.getElem_cons_zero, List.getElem_cons_succ, List.setIfInBounds_toArray, List.set_cons_zero, List.set_cons_succ] at n)
        exact n
      exact AllReadyH.nil
    have N0_ : Hid (∀ (wv : World), (fun w' => w'.cell? ⟨w3.heap.size, 0, none⟩ = some (.slice ax (nlen 4294967296 x) cx) ∧ w'.cell? ⟨w3.heap.size + 1, 0, none⟩ = some (.slice ay (nlen 4294967296 y) cy) ∧ w'.cell? ⟨w4.heap.size, 0, none⟩ = some (.slice ah (nlen 4294967296 h) ch) ∧ Hid (Fr WB w')) wv → wpAnyH Try.prog .any ops Q (fun w' => w'.cell? ⟨w3.heap.size, 0, none⟩ = some (.slice ax (nlen 4294967296 x) cx) ∧ w'.cell? ⟨w3.heap.size + 1, 0, none⟩ = some (.slice ay (nlen 4294967296 y) cy) ∧ w'.cell? ⟨w4.heap.size, 0, none⟩ = some (.slice ah (nlen 4294967296 h) ch) ∧ Hid (Fr WB w')) 4 #[true, true, true, false, false, false, false] (((a0.put (some 37) (.agg #[.slice ah (nlen 4294967296 (h)) ch])).put (some 38) (.agg #[.slice ay (nlen 4294967296 (y)) cy])).put (some 39) (.agg #[.slice ay (nlen 4294967296 (y)) cy])) wv) := by
      refine hide ?_
      intro   wv hHeld 
      clear N2_0 N2_ N1_0
      rw [hops.out, ha0.out]
      (try simp only [Act.put, List.getElem_toArray, List.getElem_cons_zero, List.getElem_cons_succ, List.setIfInBounds_toArray, List.set_cons_zero, List.set_cons_succ])
      refine wpAnyH_ready (rs := [3, 5]) (by kernel_rfl) (by simp) ?_
      refine AllReadyH.cons rfl (fun K hK => ?_) ?_
      · have hh : Hid (Fr WB wv) := hHeld.2.2.2
        go_simp
        refine (add_any _ _ y y _ (IsNat.fr HY.out hh.out) (IsNat.fr HY.out hh.out) (by omega) (by omega)).mono ?_
        rintro e wn ⟨ad, cd, rfl, id, _, fy⟩
        have fz := hide (hh.out.trans fy)
        have ID := hide id
        (try go_wp2_with fail)
        refine hK.out _ _ ?_ (fun hHeld => ?_)
        · (try dsimp only)
          exact ⟨fr_cell fz.out c5, fr_cell fz.out c6, fr_cell fz.out c7, fz⟩
        (try simp only [Act.put, List.getElem_toArray, List.getElem_cons_zero, List.getElem_cons_succ, List.setIfInBounds_toArray, List.set_cons_zero, List.set_cons_succ])
        have n := N1_.out ad cd wn hHeld ID
        rw [hops.out, ha0.out] at n
        (try simp only [Act.put, List.getElem_toArray, List.getElem_cons_zero, List.getElem_cons_succ, List.setIfInBounds_toArray, List.set_cons_zero, List.set_cons_succ] at n)
        exact n
      refine AllReadyH.cons rfl (fun K hK => ?_) ?_
      · have hh : Hid (Fr WB wv) := hHeld.2.2.2
        have hn := Var.new (W := WB) (w := wv) (t := 25) hh.out.size
        have fz := hide (hh.out.trans (Fr.alloc wv (.cells #[.slice none 0 0] 25)))
        have V0 := hide hn
        clear hn
        go_simp
        refine hK.out _ _ ?_ (fun hHeld => ?_)
        · (try dsimp only)
          exact ⟨fr_cell fz.out c5, fr_cell fz.out c6, fr_cell fz.out c7, fz⟩
        (try simp only [Act.put, List.getElem_toArray, List.getElem_cons_zero, List.getElem_cons_succ, List.setIfInBounds_toArray, List.set_cons_zero, List.set_cons_succ])
        have n := N0_0.out wv.heap.size _ hHeld V0
        rw [hops.out, ha0.out] at n
        (try simp only [Act.put, List.getElem_toArray, List.getElem_cons_zero, List.getElem_cons_succ, List.setIfInBounds_toArray, List.set_cons_zero, List.set_cons_succ] at n)
        exact n
      exact AllReadyH.nil
    clear N2_0 N2_ N1_0 N1_ N0_0
    rw [hops.out, ha0.out]
    have hHeld := hHeld0
    refine wpAnyH_take (i := 0) (v := ?_) rfl (by kernel_rfl) (by kernel_rfl) (by kernel_rfl) (fun _ _ _ h => HPan.out _ _ _ _ _ h) (Or.inl ⟨by rfl, ?_⟩) (by assumption) ?_
    rotate_left
    · (intro w hSw; (try dsimp only at hSw); go_simp; try with_reducible rfl)
    (try simp only [Act.put, List.getElem_toArray, List.getElem_cons_zero, List.getElem_cons_succ, List.setIfInBounds_toArray, List.set_cons_zero, List.set_cons_succ])
    refine wpAnyH_take (i := 1) (v := ?_) rfl (by kernel_rfl) (by kernel_rfl) (by kernel_rfl) (fun _ _ _ h => HPan.out _ _ _ _ _ h) (Or.inl ⟨by rfl, ?_⟩) (by assumption) ?_
    rotate_left
    · (intro w hSw; (try dsimp only at hSw); go_simp; try with_reducible rfl)
    (try simp only [Act.put, List.getElem_toArray, List.getElem_cons_zero, List.getElem_cons_succ, List.setIfInBounds_toArray, List.set_cons_zero, List.set_cons_succ])
    refine wpAnyH_take (i := 2) (v := ?_) rfl (by kernel_rfl) (by kernel_rfl) (by kernel_rfl) (fun _ _ _ h => HPan.out _ _ _ _ _ h) (Or.inl ⟨by rfl, ?_⟩) (by assumption) ?_
    rotate_left
    · (intro w hSw; (try dsimp only at hSw); go_simp; try with_reducible rfl)
    (try simp only [Act.put, List.getElem_toArray, List.getElem_cons_zero, List.getElem_cons_succ, List.setIfInBounds_toArray, List.set_cons_zero, List.set_cons_succ])
    have n := N0_.out _ hHeld
    rw [hops.out, ha0.out] at n
    (try simp only [Act.put, List.getElem_toArray, List.getElem_cons_zero, List.getElem_cons_succ, List.setIfInBounds_toArray, List.set_cons_zero, List.set_cons_succ] at n)
    exact n
end Go.Proofs.Ytblhpoahcglcbaa
