/- The law TensBack. -/
import Derived.Test.YtfmloickfopmmaaDoorTensD
import Derived.Deep.RegionHeld3
namespace Go.Proofs.YtfmloickfopmmaaDoor
set_option linter.unusedVariables false
set_option linter.unusedSimpArgs false
open Go.RowKit

theorem u16_bd {x : Int} (h : (Lit.int .u16 x).wf = true) : 0 ≤ x ∧ x ≤ 65535 := by
  simp [Lit.wf, IntKind.min, IntKind.max, IntKind.signed, IntKind.bits] at h
  omega
theorem tz_lt2 {x : Nat} (h : x ≠ 0) : tz x < nlen 2 x := by
  obtain ⟨m, hm⟩ := tz_form h
  have h1 := lt_nlen (B := 2) (by omega) x
  have h2 : 2 ^ tz x ≤ x := by
    conv => rhs; rw [hm]
    exact Nat.le_mul_of_pos_right _ (by omega)
  have h3 : 2 ^ tz x < 2 ^ nlen 2 x := Nat.lt_of_le_of_lt h2 h1
  exact (Nat.pow_lt_pow_iff_right (by omega)).1 h3
theorem nl2 {x n : Nat} (h : nlen 4294967296 x ≤ n) : nlen 2 x ≤ 32 * n := by
  refine nlen_le (by omega) (Nat.lt_of_lt_of_le (lt_of_nlen b32 h) ?_)
  rw [show (4294967296 : Nat) = 2 ^ 32 by decide, ← Nat.pow_mul]
  exact Nat.le_refl _
theorem and_one {d : Nat} (h : d < 4294967296) (h1 : d % 2 = 1) : bits .and .u32 (d : Int) 1 = 1 := by
  have := and_u32_nat d 1 h (by omega)
  rw [Nat.and_one_is_mod, h1] at this
  simpa using this

attribute [local go_sem] World.cell?_alloc_some
set_option maxHeartbeats 4000000 in
theorem law_TensBack (a0 : Option Addr) (len0 cap0 : Nat) (z0 : List Int) (k : Int) (w : World) (h0 : IsRow .u32 w a0 len0 cap0 z0) (h1 : (Lit.int .u16 k).wf = true) (hT : Tab w) :
    Calls Tryd.prog 5 #[.slice a0 len0 cap0, .int .u16 k] w fun e w' => e = .returned (.bool true) ∧ Fr w w' := by
  obtain ⟨k0, x, kx, _, lx, _, fewx, madex⟩ := came h0
  obtain ⟨kb0, kb1⟩ := u16_bd h1
  have FX := hide fewx
  have MX := hide madex
  have HT := hide hT
  have nx : nlen 4294967296 x ≤ 15 := Nat.le_trans (nlen_le b32 lx) kx
  obtain ⟨N, hN⟩ : ∃ N : Nat, k % 2000 = (N : Int) := ⟨(k % 2000).toNat, by omega⟩
  have hN2 : N < 2000 := by omega
  clear fewx madex h0 h1 lx hT
  have nu : nlen 4294967296 (x * 2 ^ N) ≤ 100 := Nat.le_trans (nl_up nx) (by omega)
  go_enter Tryd.func5, Tryd.ntmps5
  go_wp2_with fail
  refine (FX.out _).mono ?_
  rintro e w' ⟨rfl, rfl⟩
  go_wp2_with fail
  refine (MX.out _ (Fr.refl _)).mono ?_
  rintro e w1 ⟨ax, cx, rfl, hx, _, f1⟩
  have HX := hide hx
  clear hx FX MX
  go_wp2_with fail
  (try rw [hN])
  obtain ⟨W, hW⟩ : ∃ W, W = w1.alloc (Obj.cells #[Value.slice ax (nlen 4294967296 x) cx] 26) := ⟨_, rfl⟩
  have fW : Fr w1 W := by rw [hW]; exact Fr.alloc _ _
  have c5 : W.cell? ⟨w1.heap.size, 0, none⟩ = some (.slice ax (nlen 4294967296 x) cx) := by rw [hW]; simp [go_sem]
  rw [← hW]
  clear hW
  have F := hide (f1.trans fW)
  have HX := hide (IsNat.fr HX.out fW)
  clear f1 fW
  refine (upc_any _ x N (x * 2 ^ N) _ HX.out (by omega) (by omega) (by omega) (by rw [Int.toNat_natCast])).mono ?_
  rintro e w2 ⟨au, cu, rfl, hu, f2⟩
  go_wp2_with fail
  (try rw [hN])
  refine (downc_any _ (x * 2 ^ N) N x false _ (Tab.fr HT.out (F.out.trans f2)) hu (by omega) (by omega) (by omega) (by rw [Int.toNat_natCast, Nat.mul_div_cancel _ (Nat.pow_pos (by omega))]) (by rw [Int.toNat_natCast, Nat.mul_mod_left]; rfl)).mono ?_
  rintro e w3 ⟨ab, cb, rfl, hb, f3⟩
  have c5 := fr_cell (f2.trans f3) c5
  have HX := hide (IsNat.fr HX.out (f2.trans f3))
  have F := hide (F.out.trans (f2.trans f3))
  have HB := hide hb
  clear hu f2 f3 hb
  go_wp2_with fail
  obtain ⟨W, hW⟩ : ∃ W, W = w3.alloc (Obj.cells #[Value.slice ab (nlen 4294967296 x) cb] 26) := ⟨_, rfl⟩
  have fW : Fr w3 W := by rw [hW]; exact Fr.alloc _ _
  have c7 : W.cell? ⟨w3.heap.size, 0, none⟩ = some (.slice ab (nlen 4294967296 x) cb) := by rw [hW]; simp [go_sem]
  rw [← hW]
  clear hW
  have F := hide (F.out.trans fW)
  refine (wakes_any _ (Tab.fr HT.out F.out)).mono ?_
  rintro e w4 ⟨rfl, f4⟩
  have c5 := fr_cell (fW.trans f4) c5
  have c7 := fr_cell f4 c7
  have HX := hide (IsNat.fr HX.out (fW.trans f4))
  have HB := hide (IsNat.fr HB.out (fW.trans f4))
  have F := hide (F.out.trans f4)
  clear fW f4
  go_wp2_with fail
  refine (cmp_any _ _ x x _ HX.out HB.out (by omega) (by omega)).mono ?_
  rintro e w5 ⟨rfl, f5⟩
  rw [show cmpZ x x = 0 by simp [cmpZ]]
  have c5 := fr_cell f5 c5
  have HX := hide (IsNat.fr HX.out f5)
  have F := hide (F.out.trans f5)
  clear f5 HB c7
  go_wp2_with fail
  refine (bits_any _ x _ HX.out (by omega)).mono ?_
  rintro e w6 ⟨rfl, f6⟩
  have c5 := fr_cell f6 c5
  have HX := hide (IsNat.fr HX.out f6)
  have F := hide (F.out.trans f6)
  clear f6
  by_cases hx0 : x = 0
  · subst hx0
    rw [nlen_zero]
    go_wp2_with fail
    refine (noughtsc_any _ 0 0 _ (Tab.fr HT.out F.out) HX.out (by omega) (by rw [tz_zero]; rfl)).mono ?_
    rintro e w7 ⟨rfl, f7⟩
    go_wp2_with fail
    go_ret
    exact ⟨rfl, F.out.trans f7⟩
  · have hl0 := nlen_pos (B := 2) (by omega) hx0
    have hl1 : ((nlen 2 x : Int) == 0) = false := by
      have : nlen 2 x ≠ 0 := by omega
      simp [this]
    have hZ0 := tz_lt2 hx0
    have hB0 := nl2 nx
    have hodd := down_odd hx0
    have hmod := mod_own hx0
    have hmod1 := (mod_pow hx0 (tz x + 1)).2 (by omega)
    have hup := tz_up hx0 N
    have hnu := nlen_up2 hx0 N
    have HNU := hide hnu
    have HUP := hide hup
    clear hup hnu
    go_wp2_with fail
    refine (noughts_any _ x _ (Tab.fr HT.out F.out) HX.out (by omega)).mono ?_
    rintro e w7 ⟨rfl, f7⟩
    have c5 := fr_cell f7 c5
    have HX := hide (IsNat.fr HX.out f7)
    have F := hide (F.out.trans f7)
    clear f7 hl1
    obtain ⟨Lb, hLB⟩ : ∃ Lb, nlen 2 x = Lb := ⟨_, rfl⟩
    rw [hLB] at HNU hB0 hZ0 hl0 ⊢
    have HLB := hide hLB
    clear hLB
    obtain ⟨Z, hZ⟩ : ∃ Z, tz x = Z := ⟨_, rfl⟩
    rw [hZ] at hodd hmod hmod1 HUP hZ0 ⊢
    obtain ⟨q, hq⟩ : ∃ q, x / 2 ^ Z = q := ⟨_, rfl⟩
    rw [hq] at hodd
    have nq : nlen 4294967296 q ≤ 15 := by rw [← hq]; exact nl_down Z nx
    have np : nlen 4294967296 (x / 2 ^ (Z + 1)) ≤ 15 := nl_down (Z + 1) nx
    have hq0 : q ≠ 0 := by omega
    have hqn := nlen_pos b32 hq0
    have hdl := dg_lt b32 q 0
    have hd0 : dg 4294967296 q 0 % 2 = 1 := by unfold dg; rw [Nat.pow_zero, Nat.div_one]; omega
    have hand := and_one hdl hd0
    have HQ := hide hq
    have HMOD := hide hmod
    have HMOD1 := hide hmod1
    have hZb : Z < 480 := by omega
    have hLb : Lb ≤ 480 := by omega
    clear hq hmod hmod1 hodd hd0 hZ0 hB0 hZ
    have hwz : IntKind.i64.wrap ((Z : Int) + (N : Int)) = (Z : Int) + (N : Int) := by simp [IntKind.wrap, IntKind.signed, IntKind.bits]; omega
    have hwl : IntKind.i64.wrap ((Lb : Int) + (N : Int)) = (Lb : Int) + (N : Int) := by simp [IntKind.wrap, IntKind.signed, IntKind.bits]; omega
    go_wp2_with fail
    refine (downc_any _ x Z q false _ (Tab.fr HT.out F.out) HX.out (by omega) (by omega) (by omega) (by rw [Int.toNat_natCast]; exact HQ.out) (by rw [Int.toNat_natCast, HMOD.out]; rfl)).mono ?_
    rintro e w8 ⟨aq, cq, rfl, iq, f8⟩
    have c5 := fr_cell f8 c5
    have HX := hide (IsNat.fr HX.out f8)
    have IQ := hide iq
    have F := hide (F.out.trans f8)
    clear f8 iq HQ HMOD
    go_wp2_with fail
    obtain ⟨W, hW⟩ : ∃ W, W = w8.alloc (Obj.cells #[Value.slice aq (nlen 4294967296 q) cq] 26) := ⟨_, rfl⟩
    have fW : Fr w8 W := by rw [hW]; exact Fr.alloc _ _
    have c10 : W.cell? ⟨w8.heap.size, 0, none⟩ = some (.slice aq (nlen 4294967296 q) cq) := by rw [hW]; simp [go_sem]
    rw [← hW]
    clear hW
    have c5 := fr_cell fW c5
    have HX := hide (IsNat.fr HX.out fW)
    have IQ := hide (IsNat.fr IQ.out fW)
    have F := hide (F.out.trans fW)
    clear fW
    (try go_wp2_with fail)
    refine (downc_any _ x (Z + 1) (x / 2 ^ (Z + 1)) true _ (Tab.fr HT.out F.out) HX.out (by omega) (by omega) (by omega) (by rw [show ((Z : Int) + 1).toNat = Z + 1 by omega]) (by rw [show ((Z : Int) + 1).toNat = Z + 1 by omega]; exact decide_eq_true HMOD1.out)).mono ?_
    rintro e w9 ⟨ap, cp, rfl, ip, f9⟩
    have c5 := fr_cell f9 c5
    have c10 := fr_cell f9 c10
    have HX := hide (IsNat.fr HX.out f9)
    have IQ := hide (IsNat.fr IQ.out f9)
    have F := hide (F.out.trans f9)
    clear f9 ip HMOD1
    go_wp2_with fail
    obtain ⟨W, hW⟩ : ∃ W, W = w9.alloc (Obj.cells #[Value.slice ap (nlen 4294967296 (x / 2 ^ (Z + 1))) cp] 26) := ⟨_, rfl⟩
    have fW : Fr w9 W := by rw [hW]; exact Fr.alloc _ _
    rw [← hW]
    clear hW
    have c5 := fr_cell fW c5
    have HX := hide (IsNat.fr HX.out fW)
    have IQ := hide (IsNat.fr IQ.out fW)
    have F := hide (F.out.trans fW)
    (try go_wp2_with fail)
    refine (limbs_lm _ q _ IQ.out (by omega)).mono ?_
    rintro e WE ⟨ad, cd, rfl, nd, ld, f10⟩
    have c5 := fr_cell f10 c5
    have HX := hide (IsNat.fr HX.out f10)
    have F := hide (F.out.trans f10)
    have hnp : (0 : Int) < (nlen 4294967296 q : Int) := by omega
    rcases ld.1 with hl | ⟨g, off, rfl, hg, hcell⟩
    · omega
    have cd0 := hcell 0 (by omega)
    rw [Nat.add_zero] at cd0
    clear hcell ld f10 IQ c10 fW
    generalize dg 4294967296 q 0 = d0 at *
    generalize nlen 4294967296 q = nq1 at *
    go_wp2_with fail
    refine wp_region_held_drew (S := (fun w' => w'.cell? ⟨w1.heap.size, 0, none⟩ = some (.slice ax (nlen 4294967296 x) cx) ∧ w'.cell? ⟨g, off, none⟩ = some (.int .u32 (d0 : Int)) ∧ Hid (Fr WE w'))) (by kernel_rfl) ?_ (fun hHeld => ?_)
    · exact ⟨c5, cd0, Fr.drew _⟩
    refine wpAnyH_take (i := 0) (v := ?_) rfl (by kernel_rfl) (by kernel_rfl) (by kernel_rfl) (fun _ _ _ h => h) (Or.inl ⟨by rfl, ?_⟩) (by assumption) ?_
    rotate_left
    · (intro w hSw; (try dsimp only at hSw); go_simp; try with_reducible rfl)
    (try simp only [Act.put, List.getElem_toArray, List.getElem_cons_zero, List.getElem_cons_succ, List.setIfInBounds_toArray, List.set_cons_zero, List.set_cons_succ])
    refine wpAnyH_take (i := 1) (v := ?_) rfl (by kernel_rfl) (by kernel_rfl) (by kernel_rfl) (fun _ _ _ h => h) (Or.inl ⟨by rfl, ?_⟩) (by assumption) ?_
    rotate_left
    · (intro w hSw; (try dsimp only at hSw); go_simp; try with_reducible rfl)
    (try simp only [Act.put, List.getElem_toArray, List.getElem_cons_zero, List.getElem_cons_succ, List.setIfInBounds_toArray, List.set_cons_zero, List.set_cons_succ])
    refine wpAnyH_take (i := 2) (v := ?_) rfl (by kernel_rfl) (by kernel_rfl) (by kernel_rfl) (fun _ _ _ h => h) (Or.inl ⟨by rfl, ?_⟩) (by assumption) ?_
    rotate_left
    · (intro w hSw; (try dsimp only at hSw); go_simp; try with_reducible rfl)
    (try simp only [Act.put, List.getElem_toArray, List.getElem_cons_zero, List.getElem_cons_succ, List.setIfInBounds_toArray, List.set_cons_zero, List.set_cons_succ])
    refine wpAnyH_take (i := 3) (v := ?_) rfl (by kernel_rfl) (by kernel_rfl) (by kernel_rfl) (fun _ _ _ h => h) (Or.inl ⟨by rfl, ?_⟩) (by assumption) ?_
    rotate_left
    · (intro w hSw; (try dsimp only at hSw); go_simp; try with_reducible rfl)
    (try simp only [Act.put, List.getElem_toArray, List.getElem_cons_zero, List.getElem_cons_succ, List.setIfInBounds_toArray, List.set_cons_zero, List.set_cons_succ])
    refine wpAnyH_take (i := 4) (v := ?_) rfl (by kernel_rfl) (by kernel_rfl) (by kernel_rfl) (fun _ _ _ h => h) (Or.inl ⟨by rfl, ?_⟩) (by assumption) ?_
    rotate_left
    · (intro w hSw; (try dsimp only at hSw); go_simp; try with_reducible rfl)
    (try simp only [Act.put, List.getElem_toArray, List.getElem_cons_zero, List.getElem_cons_succ, List.setIfInBounds_toArray, List.set_cons_zero, List.set_cons_succ])
    refine wpAnyH_take (i := 5) (v := ?_) rfl (by kernel_rfl) (by kernel_rfl) (by kernel_rfl) (fun _ _ _ h => h) (Or.inl ⟨by rfl, ?_⟩) (by assumption) ?_
    rotate_left
    · (intro w hSw; (try dsimp only at hSw); go_simp; try with_reducible rfl)
    (try simp only [Act.put, List.getElem_toArray, List.getElem_cons_zero, List.getElem_cons_succ, List.setIfInBounds_toArray, List.set_cons_zero, List.set_cons_succ])
    refine wpAnyH_take (i := 6) (v := ?_) rfl (by kernel_rfl) (by kernel_rfl) (by kernel_rfl) (fun _ _ _ h => h) (Or.inl ⟨by rfl, ?_⟩) (by assumption) ?_
    rotate_left
    · (intro w hSw; (try dsimp only at hSw); go_simp; try with_reducible rfl)
    (try simp only [Act.put, List.getElem_toArray, List.getElem_cons_zero, List.getElem_cons_succ, List.setIfInBounds_toArray, List.set_cons_zero, List.set_cons_succ])
    refine wpAnyH_take (i := 7) (v := ?_) rfl (by kernel_rfl) (by kernel_rfl) (by kernel_rfl) (fun _ _ _ h => h) (Or.inl ⟨by rfl, ?_⟩) (by assumption) ?_
    rotate_left
    · (intro w hSw; (try dsimp only at hSw); go_simp; try with_reducible rfl)
    (try simp only [Act.put, List.getElem_toArray, List.getElem_cons_zero, List.getElem_cons_succ, List.setIfInBounds_toArray, List.set_cons_zero, List.set_cons_succ])
    refine wpAnyH_take (i := 8) (v := ?_) rfl (by kernel_rfl) (by kernel_rfl) (by kernel_rfl) (fun _ _ _ h => h) (Or.inl ⟨by rfl, ?_⟩) (by assumption) ?_
    rotate_left
    · (intro w hSw; (try dsimp only at hSw); go_simp; try with_reducible rfl)
    (try simp only [Act.put, List.getElem_toArray, List.getElem_cons_zero, List.getElem_cons_succ, List.setIfInBounds_toArray, List.set_cons_zero, List.set_cons_succ])
    refine wpAnyH_take (i := 9) (v := ?_) rfl (by kernel_rfl) (by kernel_rfl) (by kernel_rfl) (fun _ _ _ h => h) (Or.inl ⟨by rfl, ?_⟩) (by assumption) ?_
    rotate_left
    · (intro w hSw; (try dsimp only at hSw); go_simp; try with_reducible rfl)
    (try simp only [Act.put, List.getElem_toArray, List.getElem_cons_zero, List.getElem_cons_succ, List.setIfInBounds_toArray, List.set_cons_zero, List.set_cons_succ])
    refine wpAnyH_take (i := 10) (v := ?_) rfl (by kernel_rfl) (by kernel_rfl) (by kernel_rfl) (fun _ _ _ h => h) (Or.inl ⟨by rfl, ?_⟩) (by assumption) ?_
    rotate_left
    · (intro w hSw; (try dsimp only at hSw); go_simp; try with_reducible rfl)
    (try simp only [Act.put, List.getElem_toArray, List.getElem_cons_zero, List.getElem_cons_succ, List.setIfInBounds_toArray, List.set_cons_zero, List.set_cons_succ])
    refine wpAnyH_take (i := 11) (v := ?_) rfl (by kernel_rfl) (by kernel_rfl) (by kernel_rfl) (fun _ _ _ h => h) (Or.inl ⟨by rfl, ?_⟩) (by assumption) ?_
    rotate_left
    · (intro w hSw; (try dsimp only at hSw); go_simp; try with_reducible rfl)
    (try simp only [Act.put, List.getElem_toArray, List.getElem_cons_zero, List.getElem_cons_succ, List.setIfInBounds_toArray, List.set_cons_zero, List.set_cons_succ])
    refine wpAnyH_take (i := 12) (v := ?_) rfl (by kernel_rfl) (by kernel_rfl) (by kernel_rfl) (fun _ _ _ h => h) (Or.inl ⟨by rfl, ?_⟩) (by assumption) ?_
    rotate_left
    · (intro w hSw; (try dsimp only at hSw); go_simp; try with_reducible rfl)
    (try simp only [Act.put, List.getElem_toArray, List.getElem_cons_zero, List.getElem_cons_succ, List.setIfInBounds_toArray, List.set_cons_zero, List.set_cons_succ])
    refine wpAnyH_take (i := 13) (v := ?_) rfl (by kernel_rfl) (by kernel_rfl) (by kernel_rfl) (fun _ _ _ h => h) (Or.inl ⟨by rfl, ?_⟩) (by assumption) ?_
    rotate_left
    · (intro w hSw; (try dsimp only at hSw); go_simp; try with_reducible rfl)
    (try simp only [Act.put, List.getElem_toArray, List.getElem_cons_zero, List.getElem_cons_succ, List.setIfInBounds_toArray, List.set_cons_zero, List.set_cons_succ])
    refine wpAnyH_take (i := 14) (v := ?_) rfl (by kernel_rfl) (by kernel_rfl) (by kernel_rfl) (fun _ _ _ h => h) (Or.inl ⟨by rfl, ?_⟩) (by assumption) ?_
    rotate_left
    · (intro w hSw; (try dsimp only at hSw); go_simp; try with_reducible rfl)
    (try simp only [Act.put, List.getElem_toArray, List.getElem_cons_zero, List.getElem_cons_succ, List.setIfInBounds_toArray, List.set_cons_zero, List.set_cons_succ])
    refine wpAnyH_take (i := 15) (v := ?_) rfl (by kernel_rfl) (by kernel_rfl) (by kernel_rfl) (fun _ _ _ h => h) (Or.inl ⟨by rfl, ?_⟩) (by assumption) ?_
    rotate_left
    · (intro w hSw; (try dsimp only at hSw); go_simp; try with_reducible rfl)
    (try simp only [Act.put, List.getElem_toArray, List.getElem_cons_zero, List.getElem_cons_succ, List.setIfInBounds_toArray, List.set_cons_zero, List.set_cons_succ])
    refine wpAnyH_take (i := 16) (v := ?_) rfl (by kernel_rfl) (by kernel_rfl) (by kernel_rfl) (fun _ _ _ h => h) (Or.inl ⟨by rfl, ?_⟩) (by assumption) ?_
    rotate_left
    · (intro w hSw; (try dsimp only at hSw); go_simp; try with_reducible rfl)
    (try simp only [Act.put, List.getElem_toArray, List.getElem_cons_zero, List.getElem_cons_succ, List.setIfInBounds_toArray, List.set_cons_zero, List.set_cons_succ])
    refine wpAnyH_take (i := 17) (v := ?_) rfl (by kernel_rfl) (by kernel_rfl) (by kernel_rfl) (fun _ _ _ h => h) (Or.inl ⟨by rfl, ?_⟩) (by assumption) ?_
    rotate_left
    · (intro w hSw; (try dsimp only at hSw); go_simp; try with_reducible rfl)
    (try simp only [Act.put, List.getElem_toArray, List.getElem_cons_zero, List.getElem_cons_succ, List.setIfInBounds_toArray, List.set_cons_zero, List.set_cons_succ])
    refine wpAnyH_take (i := 18) (v := ?_) rfl (by kernel_rfl) (by kernel_rfl) (by kernel_rfl) (fun _ _ _ h => h) (Or.inl ⟨by rfl, ?_⟩) (by assumption) ?_
    rotate_left
    · (intro w hSw; (try dsimp only at hSw); go_simp; try with_reducible rfl)
    (try simp only [Act.put, List.getElem_toArray, List.getElem_cons_zero, List.getElem_cons_succ, List.setIfInBounds_toArray, List.set_cons_zero, List.set_cons_succ])
    refine wpAnyH_take (i := 19) (v := ?_) rfl (by kernel_rfl) (by kernel_rfl) (by kernel_rfl) (fun _ _ _ h => h) (Or.inl ⟨by rfl, ?_⟩) (by assumption) ?_
    rotate_left
    · (intro w hSw; (try dsimp only at hSw); go_simp; try with_reducible rfl)
    (try simp only [Act.put, List.getElem_toArray, List.getElem_cons_zero, List.getElem_cons_succ, List.setIfInBounds_toArray, List.set_cons_zero, List.set_cons_succ])
    refine wpAnyH_take (i := 22) (v := ?_) rfl (by kernel_rfl) (by kernel_rfl) (by kernel_rfl) (fun _ _ _ h => h) (Or.inl ⟨by rfl, ?_⟩) (by assumption) ?_
    rotate_left
    · (intro w hSw; (try dsimp only at hSw); go_simp; try with_reducible rfl)
    (try simp only [Act.put, List.getElem_toArray, List.getElem_cons_zero, List.getElem_cons_succ, List.setIfInBounds_toArray, List.set_cons_zero, List.set_cons_succ])
    refine wpAnyH_take (i := 23) (v := ?_) rfl (by kernel_rfl) (by kernel_rfl) (by kernel_rfl) (fun _ _ _ h => h) (Or.inl ⟨by rfl, ?_⟩) (by assumption) ?_
    rotate_left
    · (intro w hSw; (try dsimp only at hSw); go_simp; try with_reducible rfl)
    (try simp only [Act.put, List.getElem_toArray, List.getElem_cons_zero, List.getElem_cons_succ, List.setIfInBounds_toArray, List.set_cons_zero, List.set_cons_succ])
    refine wpAnyH_take (i := 24) (v := ?_) rfl (by kernel_rfl) (by kernel_rfl) (by kernel_rfl) (fun _ _ _ h => h) (Or.inl ⟨by rfl, ?_⟩) (by assumption) ?_
    rotate_left
    · (intro w hSw; (try dsimp only at hSw); go_simp; try with_reducible rfl)
    (try simp only [Act.put, List.getElem_toArray, List.getElem_cons_zero, List.getElem_cons_succ, List.setIfInBounds_toArray, List.set_cons_zero, List.set_cons_succ])
    refine wpAnyH_ready (rs := [20]) (by kernel_rfl) (by simp) ?_
    refine AllReadyH.cons rfl (fun K hK => ?_) AllReadyH.nil
    go_simp
    have hh : Hid (Fr WE _) := hHeld.2.2
    refine (upc_any _ x N (x * 2 ^ N) _ (IsNat.fr HX.out hh.out) (by omega) (by omega) (by omega) (by rw [Int.toNat_natCast])).mono ?_
    rintro e wn ⟨av, cv, rfl, iv, fy⟩
    have fz := hide (hh.out.trans fy)
    have IV := hide iv
    clear fy iv
    clear hh
    (try go_wp2_with fail)
    refine hK.out _ _ ?_ (fun hHeld => ?_)
    · (try dsimp only)
      exact ⟨fr_cell fz.out c5, fr_cell fz.out cd0, fz⟩
    clear hK K
    (try simp only [Act.put, List.getElem_toArray, List.getElem_cons_zero, List.getElem_cons_succ, List.setIfInBounds_toArray, List.set_cons_zero, List.set_cons_succ])
    refine wpAnyH_ready (rs := [21]) (by kernel_rfl) (by simp) ?_
    refine AllReadyH.cons rfl (fun K hK => ?_) AllReadyH.nil
    go_simp
    have hh : Hid (Fr WE _) := hHeld.2.2
    refine (noughtsc_any _ (x * 2 ^ N) (Z + N) _ (Tab.fr HT.out (F.out.trans hh.out)) IV.out (by omega) (by rw [HUP.out]; omega)).mono ?_
    rintro e wn ⟨rfl, fy⟩
    have fz := hide (hh.out.trans fy)
    clear fy IV
    clear hh
    (try go_wp2_with fail)
    refine hK.out _ _ ?_ (fun hHeld => ?_)
    · (try dsimp only)
      exact ⟨fr_cell fz.out c5, fr_cell fz.out cd0, fz⟩
    clear hK K
    (try simp only [Act.put, List.getElem_toArray, List.getElem_cons_zero, List.getElem_cons_succ, List.setIfInBounds_toArray, List.set_cons_zero, List.set_cons_succ])
    refine wpAnyH_take (i := 25) (v := ?_) rfl (by kernel_rfl) (by kernel_rfl) (by kernel_rfl) (fun _ _ _ h => h) (Or.inl ⟨by rfl, ?_⟩) (by assumption) ?_
    rotate_left
    · (intro w hSw; (try dsimp only at hSw); go_simp; try with_reducible rfl)
    (try simp only [Act.put, List.getElem_toArray, List.getElem_cons_zero, List.getElem_cons_succ, List.setIfInBounds_toArray, List.set_cons_zero, List.set_cons_succ])
    refine wpAnyH_take (i := 26) (v := ?_) rfl (by kernel_rfl) (by kernel_rfl) (by kernel_rfl) (fun _ _ _ h => h) (Or.inl ⟨by rfl, ?_⟩) (by assumption) ?_
    rotate_left
    · (intro w hSw; (try dsimp only at hSw); go_simp; try with_reducible rfl)
    (try simp only [Act.put, List.getElem_toArray, List.getElem_cons_zero, List.getElem_cons_succ, List.setIfInBounds_toArray, List.set_cons_zero, List.set_cons_succ])
    refine wpAnyH_take (i := 27) (v := ?_) rfl (by kernel_rfl) (by kernel_rfl) (by kernel_rfl) (fun _ _ _ h => h) (Or.inl ⟨by rfl, ?_⟩) (by assumption) ?_
    rotate_left
    · (intro w hSw; (try dsimp only at hSw); go_simp; try with_reducible rfl)
    (try simp only [Act.put, List.getElem_toArray, List.getElem_cons_zero, List.getElem_cons_succ, List.setIfInBounds_toArray, List.set_cons_zero, List.set_cons_succ])
    refine wpAnyH_take (i := 28) (v := ?_) rfl (by kernel_rfl) (by kernel_rfl) (by kernel_rfl) (fun _ _ _ h => h) (Or.inl ⟨by rfl, ?_⟩) (by assumption) ?_
    rotate_left
    · (intro w hSw; (try dsimp only at hSw); go_simp; try with_reducible rfl)
    (try simp only [Act.put, List.getElem_toArray, List.getElem_cons_zero, List.getElem_cons_succ, List.setIfInBounds_toArray, List.set_cons_zero, List.set_cons_succ])
    refine wpAnyH_take (i := 29) (v := ?_) rfl (by kernel_rfl) (by kernel_rfl) (by kernel_rfl) (fun _ _ _ h => h) (Or.inl ⟨by rfl, ?_⟩) (by assumption) ?_
    rotate_left
    · (intro w hSw; (try dsimp only at hSw); go_simp; try with_reducible rfl)
    (try simp only [Act.put, List.getElem_toArray, List.getElem_cons_zero, List.getElem_cons_succ, List.setIfInBounds_toArray, List.set_cons_zero, List.set_cons_succ])
    refine wpAnyH_take (i := 32) (v := ?_) rfl (by kernel_rfl) (by kernel_rfl) (by kernel_rfl) (fun _ _ _ h => h) (Or.inl ⟨by rfl, ?_⟩) (by assumption) ?_
    rotate_left
    · (intro w hSw; (try dsimp only at hSw); go_simp; try with_reducible rfl)
    (try simp only [Act.put, List.getElem_toArray, List.getElem_cons_zero, List.getElem_cons_succ, List.setIfInBounds_toArray, List.set_cons_zero, List.set_cons_succ])
    refine wpAnyH_take (i := 34) (v := ?_) rfl (by kernel_rfl) (by kernel_rfl) (by kernel_rfl) (fun _ _ _ h => h) (Or.inl ⟨by rfl, ?_⟩) (by assumption) ?_
    rotate_left
    · (intro w hSw; (try dsimp only at hSw); go_simp; try with_reducible rfl)
    (try simp only [Act.put, List.getElem_toArray, List.getElem_cons_zero, List.getElem_cons_succ, List.setIfInBounds_toArray, List.set_cons_zero, List.set_cons_succ])
    refine wpAnyH_ready (rs := [30]) (by kernel_rfl) (by simp) ?_
    refine AllReadyH.cons rfl (fun K hK => ?_) AllReadyH.nil
    go_simp
    have hh : Hid (Fr WE _) := hHeld.2.2
    refine (upc_any _ x N (x * 2 ^ N) _ (IsNat.fr HX.out hh.out) (by omega) (by omega) (by omega) (by rw [Int.toNat_natCast])).mono ?_
    rintro e wn ⟨av2, cv2, rfl, iv, fy⟩
    have fz := hide (hh.out.trans fy)
    have IV := hide iv
    clear fy iv
    clear hh
    (try go_wp2_with fail)
    refine hK.out _ _ ?_ (fun hHeld => ?_)
    · (try dsimp only)
      exact ⟨fr_cell fz.out c5, fr_cell fz.out cd0, fz⟩
    clear hK K
    (try simp only [Act.put, List.getElem_toArray, List.getElem_cons_zero, List.getElem_cons_succ, List.setIfInBounds_toArray, List.set_cons_zero, List.set_cons_succ])
    refine wpAnyH_ready (rs := [31]) (by kernel_rfl) (by simp) ?_
    refine AllReadyH.cons rfl (fun K hK => ?_) AllReadyH.nil
    go_simp
    have hh : Hid (Fr WE _) := hHeld.2.2
    refine (bits_any _ (x * 2 ^ N) _ IV.out (by omega)).mono ?_
    rintro e wn ⟨rfl, fy⟩
    have fz := hide (hh.out.trans fy)
    rw [HNU.out, Int.natCast_add]
    clear fy IV
    clear hh
    (try go_wp2_with fail)
    refine hK.out _ _ ?_ (fun hHeld => ?_)
    · (try dsimp only)
      exact ⟨fr_cell fz.out c5, fr_cell fz.out cd0, fz⟩
    clear hK K
    (try simp only [Act.put, List.getElem_toArray, List.getElem_cons_zero, List.getElem_cons_succ, List.setIfInBounds_toArray, List.set_cons_zero, List.set_cons_succ])
    refine wpAnyH_ready (rs := [33]) (by kernel_rfl) (by simp) ?_
    refine AllReadyH.cons rfl (fun K hK => ?_) AllReadyH.nil
    go_simp
    have hh : Hid (Fr WE _) := hHeld.2.2
    refine (bits_any _ x _ (IsNat.fr HX.out hh.out) (by omega)).mono ?_
    rintro e wn ⟨rfl, fy⟩
    have fz := hide (hh.out.trans fy)
    rw [HLB.out]
    clear fy
    clear hh
    (try go_wp2_with fail)
    refine hK.out _ _ ?_ (fun hHeld => ?_)
    · (try dsimp only)
      exact ⟨fr_cell fz.out c5, fr_cell fz.out cd0, fz⟩
    clear hK K
    (try simp only [Act.put, List.getElem_toArray, List.getElem_cons_zero, List.getElem_cons_succ, List.setIfInBounds_toArray, List.set_cons_zero, List.set_cons_succ])
    refine wpAnyH_take (i := 35) (v := ?_) rfl (by kernel_rfl) (by kernel_rfl) (by kernel_rfl) (fun _ _ _ h => h) (Or.inl ⟨by rfl, ?_⟩) (by assumption) ?_
    rotate_left
    · (intro w hSw; (try dsimp only at hSw); go_simp; try with_reducible rfl)
    (try simp only [Act.put, List.getElem_toArray, List.getElem_cons_zero, List.getElem_cons_succ, List.setIfInBounds_toArray, List.set_cons_zero, List.set_cons_succ])
    refine wpAnyH_take (i := 36) (v := ?_) rfl (by kernel_rfl) (by kernel_rfl) (by kernel_rfl) (fun _ _ _ h => h) (Or.inl ⟨by rfl, ?_⟩) (by assumption) ?_
    rotate_left
    · (intro w hSw; (try dsimp only at hSw); go_simp; try with_reducible rfl)
    (try simp only [Act.put, List.getElem_toArray, List.getElem_cons_zero, List.getElem_cons_succ, List.setIfInBounds_toArray, List.set_cons_zero, List.set_cons_succ])
    refine wpAnyH_take (i := 37) (v := ?_) rfl (by kernel_rfl) (by kernel_rfl) (by kernel_rfl) (fun _ _ _ h => h) (Or.inl ⟨by rfl, ?_⟩) (by assumption) ?_
    rotate_left
    · (intro w hSw; (try dsimp only at hSw); go_simp; try with_reducible rfl)
    (try simp only [Act.put, List.getElem_toArray, List.getElem_cons_zero, List.getElem_cons_succ, List.setIfInBounds_toArray, List.set_cons_zero, List.set_cons_succ])
    refine wpAnyH_take (i := 38) (v := ?_) rfl (by kernel_rfl) (by kernel_rfl) (by kernel_rfl) (fun _ _ _ h => h) (Or.inl ⟨by rfl, ?_⟩) (by assumption) ?_
    rotate_left
    · (intro w hSw; (try dsimp only at hSw); go_simp; try with_reducible rfl)
    (try simp only [Act.put, List.getElem_toArray, List.getElem_cons_zero, List.getElem_cons_succ, List.setIfInBounds_toArray, List.set_cons_zero, List.set_cons_succ])
    refine wpAnyH_done (by kernel_rfl) ?_ _
    go_wp2_with fail
    go_ret
    exact ⟨rfl, F.out.trans fz.out⟩
end Go.Proofs.YtfmloickfopmmaaDoor
