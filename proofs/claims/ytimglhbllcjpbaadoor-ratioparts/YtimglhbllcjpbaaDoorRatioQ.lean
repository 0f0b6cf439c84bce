/- The law RatioParts. -/
import Derived.Test.YtimglhbllcjpbaaDoorRatioM
import Derived.Test.YtimglhbllcjpbaaDoorDecT
import Derived.Test.YtimglhbllcjpbaaDoorDecW
namespace Go.Proofs.YtimglhbllcjpbaaDoor
set_option linter.unusedVariables false
set_option linter.unusedSimpArgs false
open Go.RowKit

attribute [local go_sem] World.cell?_alloc_some
theorem cmpZ_eq {a b : Nat} (h : a = b) : cmpZ a b = 0 := by subst h; simp [cmpZ]
theorem cmpZ_lt {a b : Nat} (h : a < b) : cmpZ a b = -1 := by unfold cmpZ; rw [if_pos h]
theorem eq_parts8 {x y P r : Nat} (h : P * y + r = x) : (P * y + r * 1) * y = x * (1 * y) := by rw [Nat.mul_one, h, Nat.one_mul]

set_option maxHeartbeats 4000000 in
set_option maxRecDepth 4000 in
theorem law_RatioParts (a0 : Option Addr) (len0 cap0 : Nat) (z0 : List Int) (a1 : Option Addr) (len1 cap1 : Nat) (z1 : List Int) (k : Int) (w : World) (h0 : IsRow .u32 w a0 len0 cap0 z0) (h1 : IsRow .u32 w a1 len1 cap1 z1) (hk : (Lit.int .i64 k).wf = true) (hT : Tab w) :
    Calls Tryd.prog 5 #[.slice a0 len0 cap0, .slice a1 len1 cap1, .int .i64 k] w fun e w' => e = .returned (.bool true) ∧ Fr w w' := by
  have hk2 : -9223372036854775808 ≤ k ∧ k ≤ 9223372036854775807 := by
    simp [Lit.wf, IntKind.min, IntKind.max, IntKind.signed, IntKind.bits] at hk
    omega
  obtain ⟨k0, k1⟩ := hk2
  obtain ⟨x, hx⟩ := arg_row h0
  obtain ⟨y, hy⟩ := arg_row h1
  have HX := hide hx
  have HY := hide hy
  have HT := hide hT
  have nx := hx.nl
  have ny := hy.nl
  have mx : nlen 10 x ≤ 100 := by have := nl10 (lt_of_nlen b32 nx); omega
  have my : nlen 10 y ≤ 100 := by have := nl10 (lt_of_nlen b32 ny); omega
  have FW := hide (Fr.refl w)
  obtain ⟨n, hn, n0, n1⟩ : ∃ n : Int, n = max (-60) (min k 60) ∧ -60 ≤ n ∧ n ≤ 60 := ⟨_, rfl, by omega, by omega⟩
  have Hn := hide hn
  obtain ⟨A, hA⟩ : ∃ A, 10 ^ n.toNat = A := ⟨_, rfl⟩
  obtain ⟨B, hB⟩ : ∃ B, 10 ^ (-n).toNat = B := ⟨_, rfl⟩
  have HA := hide hA
  have HB := hide hB
  have hB0 : B ≠ 0 := by rw [← hB]; exact Nat.ne_of_gt (Nat.pow_pos (by omega))
  have nA : nlen 4294967296 A ≤ 61 := by
    rw [← hA]; have := nlen_pow (x := 10) (n := 1) (by rw [nlten]; omega) n.toNat; omega
  have nB : nlen 4294967296 B ≤ 61 := by
    rw [← hB]; have := nlen_pow (x := 10) (n := 1) (by rw [nlten]; omega) (-n).toNat; omega
  clear h0 h1 hx hy hT hk hA hB hn
  go_enter Tryd.func5, Tryd.ntmps5
  go_wp2_with fail
  by_cases hy0 : y = 0
  · refine (ofL_any _ _ x y _ (Tab.fr HT.out FW.out) HX.out HY.out).mono ?_
    rintro e w1 ⟨uu11, uu12, uu13, uu14, uu15, uu16, t11, t12, t13, t14, t15, t16, rfl, _, _, fy⟩
    rw [decide_eq_false (by omega)]
    have FW := hide (FW.out.trans fy)
    clear fy
    go_wp2_with fail
    obtain ⟨W1, hW1⟩ : ∃ W, W = ((w1.alloc (Obj.cells #[Value.slice uu11 uu12 uu13, Value.slice uu14 uu15 uu16] 26)).alloc (Obj.cells #[Value.slice t11 t12 t13, Value.slice t14 t15 t16] 29)) := ⟨_, rfl⟩
    have fy : Fr w1 W1 := by rw [hW1]; exact ((Fr.alloc w1 (Obj.cells #[Value.slice uu11 uu12 uu13, Value.slice uu14 uu15 uu16] 26)).trans (Fr.alloc _ (Obj.cells #[Value.slice t11 t12 t13, Value.slice t14 t15 t16] 29)))
    rw [← hW1]
    clear hW1
    have FW := hide (FW.out.trans fy)
    refine (wakes_any _ (Tab.fr HT.out FW.out)).mono ?_
    rintro e w4 ⟨rfl, f4⟩
    have FW := hide (FW.out.trans f4)
    clear fy f4
    go_wp2_with fail
    go_ret
    exact ⟨rfl, FW.out⟩
  refine (ofL_any _ _ x y _ (Tab.fr HT.out FW.out) HX.out HY.out).mono ?_
  rintro e w1 ⟨uu11, uu12, uu13, uu14, uu15, uu16, t11, t12, t13, t14, t15, t16, rfl, rv, rf, fy⟩
  rw [decide_eq_true hy0]
  have RV1 := hide rv
  have RF1 := hide rf
  have HX := hide (HX.out.fr fy)
  have HY := hide (HY.out.fr fy)
  have FW := hide (FW.out.trans fy)
  clear rv rf fy
  have RV1 := hide (RV1.out hy0)
  have hdm := Nat.div_add_mod x y
  have hml := Nat.mod_lt x (by omega : 0 < y)
  have nP : nlen 4294967296 (x / y) ≤ 5 := nl_div nx
  have nR : nlen 4294967296 (x % y) ≤ 5 := nl_mod nx
  obtain ⟨P, hP⟩ : ∃ P, x / y = P := ⟨_, rfl⟩
  obtain ⟨r, hr⟩ : ∃ r, x % y = r := ⟨_, rfl⟩
  rw [hP, hr, Nat.mul_comm] at hdm
  rw [hP] at nP
  rw [hr] at nR hml
  have mP : nlen 10 P ≤ 100 := by have := nl10 (lt_of_nlen b32 nP); omega
  have HP := hide hP
  have HR := hide hr
  have HDM := hide hdm
  have HML := hide hml
  clear HX HY hP hr hdm hml
  go_wp2_with fail
  obtain ⟨W1, hW1⟩ : ∃ W, W = ((w1.alloc (Obj.cells #[Value.slice uu11 uu12 uu13, Value.slice uu14 uu15 uu16] 26)).alloc (Obj.cells #[Value.slice t11 t12 t13, Value.slice t14 t15 t16] 29)) := ⟨_, rfl⟩
  have fy : Fr w1 W1 := by rw [hW1]; exact ((Fr.alloc w1 (Obj.cells #[Value.slice uu11 uu12 uu13, Value.slice uu14 uu15 uu16] 26)).trans (Fr.alloc _ (Obj.cells #[Value.slice t11 t12 t13, Value.slice t14 t15 t16] 29)))
  have s7 : Slot2 w1 W1 (w1.heap.size) (.slice uu11 uu12 uu13) (.slice uu14 uu15 uu16) := by
    rw [hW1]; simpa using (Slot2.new (Fr.refl w1) uu11 uu12 uu13 uu14 uu15 uu16 26).fr (Fr.alloc _ _)
  have s8 : Slot2 w1 W1 (w1.heap.size + 1) (.slice t11 t12 t13) (.slice t14 t15 t16) := by
    rw [hW1]; simpa using Slot2.new (Fr.alloc w1 (Obj.cells #[Value.slice uu11 uu12 uu13, Value.slice uu14 uu15 uu16] 26)) t11 t12 t13 t14 t15 t16 29
  rw [← hW1]
  clear hW1
  have S7 := hide s7
  have S8 := hide s8
  have RV1 := hide (RV1.out.fr fy)
  have RF1 := hide (RF1.out.fr fy)
  have FW := hide (FW.out.trans fy)
  clear s7 s8 fy
  refine (partsR_any _ x y _ RV1.out (by omega) (by omega) P HP.out).mono ?_
  rintro e w2 ⟨a2, c2, v2, rfl, i2, r2, fy⟩
  rw [HR.out] at r2
  obtain ⟨uu21, uu22, uu23, uu24, uu25, uu26, rfl⟩ := r2.form
  have IP := hide i2
  have RR := hide r2
  have S7 := hide (S7.out.fr fy)
  have S8 := hide (S8.out.fr fy)
  have RV1 := hide (RV1.out.fr fy)
  have RF1 := hide (RF1.out.fr fy)
  have FW := hide (FW.out.trans fy)
  have l2 := cell_lt S8.out.1
  simp only [] at l2
  clear fy i2 r2
  have q8 := S8.out.1
  have q8' := S8.out.2.1
  go_wp2_with fail
  obtain ⟨W2, hW2⟩ : ∃ W, W = ((w2.alloc (Obj.cells #[Value.slice a2 (nlen 4294967296 P) c2] 24)).alloc (Obj.cells #[Value.slice uu21 uu22 uu23, Value.slice uu24 uu25 uu26] 26)) := ⟨_, rfl⟩
  have fy : Fr w2 W2 := by rw [hW2]; exact ((Fr.alloc w2 (Obj.cells #[Value.slice a2 (nlen 4294967296 P) c2] 24)).trans (Fr.alloc _ (Obj.cells #[Value.slice uu21 uu22 uu23, Value.slice uu24 uu25 uu26] 26)))
  have s10 : Slot w2 W2 (w2.heap.size) (.slice a2 (nlen 4294967296 P) c2) := by
    rw [hW2]; simpa using (Slot.new (Fr.refl w2) a2 (nlen 4294967296 P) c2 24).fr (Fr.alloc _ _)
  have s11 : Slot2 w2 W2 (w2.heap.size + 1) (.slice uu21 uu22 uu23) (.slice uu24 uu25 uu26) := by
    rw [hW2]; simpa using Slot2.new (Fr.alloc w2 (Obj.cells #[Value.slice a2 (nlen 4294967296 P) c2] 24)) uu21 uu22 uu23 uu24 uu25 uu26 26
  rw [← hW2]
  clear hW2
  have S10 := hide s10
  have S11 := hide s11
  have S7 := hide (S7.out.fr fy)
  have S8 := hide (S8.out.fr fy)
  have RV1 := hide (RV1.out.fr fy)
  have RF1 := hide (RF1.out.fr fy)
  have IP := hide (IP.out.fr fy)
  have RR := hide (RR.out.fr fy)
  have FW := hide (FW.out.trans fy)
  clear s10 s11 fy q8 q8'
  obtain ⟨_, _, _, _, _, _, hh, gx, gy⟩ := RF1.out
  simp only [Value.agg.injEq] at hh
  injection hh with hh
  injection hh with e1 hh
  injection hh with e2 _
  rw [← e1] at gx
  rw [← e2] at gy
  refine (refDiv_any _ _ x y _ gx gy (by omega) (by omega) hy0).mono ?_
  rintro e w3 ⟨vq, vr, rfl, iq, ir, fy⟩
  rw [HP.out] at iq
  obtain ⟨d1, d2, d3, rfl⟩ := iq.form
  obtain ⟨d4, d5, d6, rfl⟩ := ir.form
  have IQ := hide iq
  have S7 := hide (S7.out.fr fy)
  have S8 := hide (S8.out.fr fy)
  have S10 := hide (S10.out.fr fy)
  have S11 := hide (S11.out.fr fy)
  have RV1 := hide (RV1.out.fr fy)
  have RF1 := hide (RF1.out.fr fy)
  have IP := hide (IP.out.fr fy)
  have RR := hide (RR.out.fr fy)
  have FW := hide (FW.out.trans fy)
  have l3 := cell_lt S11.out.1
  simp only [] at l3
  clear fy iq ir gx gy e1 e2
  have HT := hide (Tab.fr HT.out FW.out)
  have q10 := S10.out.1
  have d10 := fr_cell (Fr.drew w3) q10
  go_upto_region 6 with fail
  go_cut [14, 15] (fun s14 s15 wx => ∃ b r1 r2 r3 r4 r5 r6, s14 = .pointer (some ⟨b, 0, none⟩) ∧ s15 = .bool true ∧ Hid (Slot2 w3 wx b (.slice r1 r2 r3) (.slice r4 r5 r6)) ∧ Hid (IsRat wx (.agg #[.slice r1 r2 r3, .slice r4 r5 r6]) P 1) ∧ Hid (Fr w3 wx))
  case first =>
    refine wp_region_held_drew (S := (fun w' => w'.cell? ⟨w2.heap.size, 0, none⟩ = some (.slice a2 (nlen 4294967296 P) c2))) (by kernel_rfl) ?_ (fun hHeld => ?_)
    · exact d10
    have fz := hide (Fr.drew w3)
    generalize w3.drew = wd at fz hHeld ⊢
    refine wpAnyH_take (i := 0) (v := ?_) rfl (by kernel_rfl) (by kernel_rfl) (by kernel_rfl) (fun _ _ _ h => h) (Or.inl ⟨by rfl, ?_⟩) (by assumption) ?_
    rotate_left
    · (intro w hSw; (try dsimp only at hSw); go_simp; try with_reducible rfl)
    (try simp only [Act.put, List.getElem_toArray, List.getElem_cons_zero, List.getElem_cons_succ, List.setIfInBounds_toArray, List.set_cons_zero, List.set_cons_succ])
    refine wpAnyH_ready (rs := [1, 6]) (by kernel_rfl) (by simp) ?_
    refine AllReadyH.cons rfl (fun K hK => ?_) (AllReadyH.cons rfl (fun K hK => ?_) AllReadyH.nil)
    · skip
      go_simp
      refine (ofc_any 1 1 _ rfl (by omega)).mono ?_
      rintro e wa ⟨a5, c5, rfl, i5, _, fy⟩
      have I5 := hide i5
      clear i5
      have fz := hide (fz.out.trans fy)
      clear fy
      (try go_wp2_with fail)
      refine hK.out _ _ ?_ (fun hHeld => ?_)
      · (try dsimp only)
        exact fr_cell fz.out q10
      clear hK K
      (try simp only [Act.put, List.getElem_toArray, List.getElem_cons_zero, List.getElem_cons_succ, List.setIfInBounds_toArray, List.set_cons_zero, List.set_cons_succ])
      refine wpAnyH_ready (rs := [2, 6]) (by kernel_rfl) (by simp) ?_
      refine AllReadyH.cons rfl (fun K hK => ?_) (AllReadyH.cons rfl (fun K hK => ?_) AllReadyH.nil)
      · skip
        go_simp
        refine (ofR_yes _ _ P 1 _ (HT.out.fr fz.out) (IP.out.fr fz.out) I5.out (by omega) (by have := wsm (x := 1) (by omega); omega) (by omega)).mono ?_
        rintro e wb ⟨v6, rfl, r6, fy⟩
        obtain ⟨x1, x2, x3, x4, x5, x6, rfl⟩ := r6.form
        have R6 := hide r6
        clear r6
        have I5 := hide (I5.out.fr fy)
        have fz := hide (fz.out.trans fy)
        clear fy
        (try go_wp2_with fail)
        refine hK.out _ _ ?_ (fun hHeld => ?_)
        · (try dsimp only)
          exact fr_cell fz.out q10
        clear hK K
        (try simp only [Act.put, List.getElem_toArray, List.getElem_cons_zero, List.getElem_cons_succ, List.setIfInBounds_toArray, List.set_cons_zero, List.set_cons_succ])
        refine wpAnyH_take (i := 3) (v := ?_) rfl (by kernel_rfl) (by kernel_rfl) (by kernel_rfl) (fun _ _ _ h => h) (Or.inl ⟨by rfl, ?_⟩) (by assumption) ?_
        rotate_left
        · (intro w hSw; (try dsimp only at hSw); go_simp; try with_reducible rfl)
        (try simp only [Act.put, List.getElem_toArray, List.getElem_cons_zero, List.getElem_cons_succ, List.setIfInBounds_toArray, List.set_cons_zero, List.set_cons_succ])
        refine wpAnyH_take (i := 4) (v := ?_) rfl (by kernel_rfl) (by kernel_rfl) (by kernel_rfl) (fun _ _ _ h => h) (Or.inl ⟨by rfl, ?_⟩) (by assumption) ?_
        rotate_left
        · (intro w hSw; (try dsimp only at hSw); go_simp; try with_reducible rfl)
        (try simp only [Act.put, List.getElem_toArray, List.getElem_cons_zero, List.getElem_cons_succ, List.setIfInBounds_toArray, List.set_cons_zero, List.set_cons_succ])
        refine wpAnyH_take (i := 5) (v := ?_) rfl (by kernel_rfl) (by kernel_rfl) (by kernel_rfl) (fun _ _ _ h => h) (Or.inl ⟨by rfl, ?_⟩) (by assumption) ?_
        rotate_left
        · (intro w hSw; (try dsimp only at hSw); go_simp; try with_reducible rfl)
        (try simp only [Act.put, List.getElem_toArray, List.getElem_cons_zero, List.getElem_cons_succ, List.setIfInBounds_toArray, List.set_cons_zero, List.set_cons_succ])
        refine wpAnyH_ready (rs := [6]) (by kernel_rfl) (by simp) ?_
        refine AllReadyH.cons rfl (fun K hK => ?_) AllReadyH.nil
        obtain ⟨bA, hbA⟩ : ∃ b, b = wb.heap.size := ⟨_, rfl⟩
        have fy := Fr.alloc wb (Obj.cells #[Value.slice none 0 0, Value.slice none 0 0] 26)
        have SA : Hid (Slot2 w3 (wb.alloc (Obj.cells #[Value.slice none 0 0, Value.slice none 0 0] 26)) bA (.slice none 0 0) (.slice none 0 0)) := by rw [hbA]; exact hide (Slot2.new fz.out none 0 0 none 0 0 26)
        have I5 := hide (I5.out.fr fy)
        have R6 := hide (R6.out.fr fy)
        have fz := hide (fz.out.trans fy)
        clear fy
        go_simp
        rw [← hbA]
        refine hK.out _ _ ?_ (fun hHeld => ?_)
        · (try dsimp only)
          exact fr_cell fz.out q10
        clear hK K
        (try simp only [Act.put, List.getElem_toArray, List.getElem_cons_zero, List.getElem_cons_succ, List.setIfInBounds_toArray, List.set_cons_zero, List.set_cons_succ])
        obtain ⟨wA, hwA⟩ : ∃ wA, wA = wb.alloc (Obj.cells #[Value.slice none 0 0, Value.slice none 0 0] 26) := ⟨_, rfl⟩
        rw [← hwA] at fz SA hHeld I5 R6 ⊢
        clear hwA hbA
        refine wpAnyH_ready (rs := [7]) (by kernel_rfl) (by simp) ?_
        refine AllReadyH.cons rfl (fun K hK => ?_) AllReadyH.nil
        have q_ := SA.out.1
        have q2_ := SA.out.2.1
        have z_ := SA.out.2.2.1 0
        have z2_ := SA.out.2.2.1 1
        have R6 := hide (SA.out.rat R6.out x1 x2 x3 (.slice x4 x5 x6))
        have fz := hide (SA.out.set_fr fz.out (.slice x1 x2 x3) (.slice x4 x5 x6))
        have SA := hide (SA.out.set x1 x2 x3 x4 x5 x6)
        go_simp
        (try go_wp2_with fail)
        refine hK.out _ _ ?_ (fun hHeld => ?_)
        · (try dsimp only)
          exact fr_cell fz.out q10
        clear hK K
        (try simp only [Act.put, List.getElem_toArray, List.getElem_cons_zero, List.getElem_cons_succ, List.setIfInBounds_toArray, List.set_cons_zero, List.set_cons_succ])
        refine wpAnyH_take (i := 8) (v := ?_) rfl (by kernel_rfl) (by kernel_rfl) (by kernel_rfl) (fun _ _ _ h => h) (Or.inl ⟨by rfl, ?_⟩) (by assumption) ?_
        rotate_left
        · (intro w hSw; (try dsimp only at hSw); go_simp; try with_reducible rfl)
        (try simp only [Act.put, List.getElem_toArray, List.getElem_cons_zero, List.getElem_cons_succ, List.setIfInBounds_toArray, List.set_cons_zero, List.set_cons_succ])
        refine wpAnyH_done (by kernel_rfl) ?_ _
        go_wp2_with fail
        go_meet
        exact ⟨_, _, _, _, _, _, _, rfl, rfl, SA, R6, fz⟩
      · skip
        obtain ⟨bA, hbA⟩ : ∃ b, b = wa.heap.size := ⟨_, rfl⟩
        have fy := Fr.alloc wa (Obj.cells #[Value.slice none 0 0, Value.slice none 0 0] 26)
        have SA : Hid (Slot2 w3 (wa.alloc (Obj.cells #[Value.slice none 0 0, Value.slice none 0 0] 26)) bA (.slice none 0 0) (.slice none 0 0)) := by rw [hbA]; exact hide (Slot2.new fz.out none 0 0 none 0 0 26)
        have I5 := hide (I5.out.fr fy)
        have fz := hide (fz.out.trans fy)
        clear fy
        go_simp
        rw [← hbA]
        refine hK.out _ _ ?_ (fun hHeld => ?_)
        · (try dsimp only)
          exact fr_cell fz.out q10
        clear hK K
        (try simp only [Act.put, List.getElem_toArray, List.getElem_cons_zero, List.getElem_cons_succ, List.setIfInBounds_toArray, List.set_cons_zero, List.set_cons_succ])
        obtain ⟨wA, hwA⟩ : ∃ wA, wA = wa.alloc (Obj.cells #[Value.slice none 0 0, Value.slice none 0 0] 26) := ⟨_, rfl⟩
        rw [← hwA] at fz SA hHeld I5 ⊢
        clear hwA hbA
        refine wpAnyH_ready (rs := [2]) (by kernel_rfl) (by simp) ?_
        refine AllReadyH.cons rfl (fun K hK => ?_) AllReadyH.nil
        go_simp
        refine (ofR_yes _ _ P 1 _ (HT.out.fr fz.out) (IP.out.fr fz.out) I5.out (by omega) (by have := wsm (x := 1) (by omega); omega) (by omega)).mono ?_
        rintro e wb ⟨v6, rfl, r6, fy⟩
        obtain ⟨x1, x2, x3, x4, x5, x6, rfl⟩ := r6.form
        have R6 := hide r6
        clear r6
        have I5 := hide (I5.out.fr fy)
        have SA := hide (SA.out.fr fy)
        have fz := hide (fz.out.trans fy)
        clear fy
        (try go_wp2_with fail)
        refine hK.out _ _ ?_ (fun hHeld => ?_)
        · (try dsimp only)
          exact fr_cell fz.out q10
        clear hK K
        (try simp only [Act.put, List.getElem_toArray, List.getElem_cons_zero, List.getElem_cons_succ, List.setIfInBounds_toArray, List.set_cons_zero, List.set_cons_succ])
        refine wpAnyH_take (i := 3) (v := ?_) rfl (by kernel_rfl) (by kernel_rfl) (by kernel_rfl) (fun _ _ _ h => h) (Or.inl ⟨by rfl, ?_⟩) (by assumption) ?_
        rotate_left
        · (intro w hSw; (try dsimp only at hSw); go_simp; try with_reducible rfl)
        (try simp only [Act.put, List.getElem_toArray, List.getElem_cons_zero, List.getElem_cons_succ, List.setIfInBounds_toArray, List.set_cons_zero, List.set_cons_succ])
        refine wpAnyH_take (i := 4) (v := ?_) rfl (by kernel_rfl) (by kernel_rfl) (by kernel_rfl) (fun _ _ _ h => h) (Or.inl ⟨by rfl, ?_⟩) (by assumption) ?_
        rotate_left
        · (intro w hSw; (try dsimp only at hSw); go_simp; try with_reducible rfl)
        (try simp only [Act.put, List.getElem_toArray, List.getElem_cons_zero, List.getElem_cons_succ, List.setIfInBounds_toArray, List.set_cons_zero, List.set_cons_succ])
        refine wpAnyH_take (i := 5) (v := ?_) rfl (by kernel_rfl) (by kernel_rfl) (by kernel_rfl) (fun _ _ _ h => h) (Or.inl ⟨by rfl, ?_⟩) (by assumption) ?_
        rotate_left
        · (intro w hSw; (try dsimp only at hSw); go_simp; try with_reducible rfl)
        (try simp only [Act.put, List.getElem_toArray, List.getElem_cons_zero, List.getElem_cons_succ, List.setIfInBounds_toArray, List.set_cons_zero, List.set_cons_succ])
        refine wpAnyH_ready (rs := [7]) (by kernel_rfl) (by simp) ?_
        refine AllReadyH.cons rfl (fun K hK => ?_) AllReadyH.nil
        have q_ := SA.out.1
        have q2_ := SA.out.2.1
        have z_ := SA.out.2.2.1 0
        have z2_ := SA.out.2.2.1 1
        have R6 := hide (SA.out.rat R6.out x1 x2 x3 (.slice x4 x5 x6))
        have fz := hide (SA.out.set_fr fz.out (.slice x1 x2 x3) (.slice x4 x5 x6))
        have SA := hide (SA.out.set x1 x2 x3 x4 x5 x6)
        go_simp
        (try go_wp2_with fail)
        refine hK.out _ _ ?_ (fun hHeld => ?_)
        · (try dsimp only)
          exact fr_cell fz.out q10
        clear hK K
        (try simp only [Act.put, List.getElem_toArray, List.getElem_cons_zero, List.getElem_cons_succ, List.setIfInBounds_toArray, List.set_cons_zero, List.set_cons_succ])
        refine wpAnyH_take (i := 8) (v := ?_) rfl (by kernel_rfl) (by kernel_rfl) (by kernel_rfl) (fun _ _ _ h => h) (Or.inl ⟨by rfl, ?_⟩) (by assumption) ?_
        rotate_left
        · (intro w hSw; (try dsimp only at hSw); go_simp; try with_reducible rfl)
        (try simp only [Act.put, List.getElem_toArray, List.getElem_cons_zero, List.getElem_cons_succ, List.setIfInBounds_toArray, List.set_cons_zero, List.set_cons_succ])
        refine wpAnyH_done (by kernel_rfl) ?_ _
        go_wp2_with fail
        go_meet
        exact ⟨_, _, _, _, _, _, _, rfl, rfl, SA, R6, fz⟩
    · skip
      obtain ⟨bA, hbA⟩ : ∃ b, b = wd.heap.size := ⟨_, rfl⟩
      have fy := Fr.alloc wd (Obj.cells #[Value.slice none 0 0, Value.slice none 0 0] 26)
      have SA : Hid (Slot2 w3 (wd.alloc (Obj.cells #[Value.slice none 0 0, Value.slice none 0 0] 26)) bA (.slice none 0 0) (.slice none 0 0)) := by rw [hbA]; exact hide (Slot2.new fz.out none 0 0 none 0 0 26)
      have fz := hide (fz.out.trans fy)
      clear fy
      go_simp
      rw [← hbA]
      refine hK.out _ _ ?_ (fun hHeld => ?_)
      · (try dsimp only)
        exact fr_cell fz.out q10
      clear hK K
      (try simp only [Act.put, List.getElem_toArray, List.getElem_cons_zero, List.getElem_cons_succ, List.setIfInBounds_toArray, List.set_cons_zero, List.set_cons_succ])
      obtain ⟨wA, hwA⟩ : ∃ wA, wA = wd.alloc (Obj.cells #[Value.slice none 0 0, Value.slice none 0 0] 26) := ⟨_, rfl⟩
      rw [← hwA] at fz SA hHeld  ⊢
      clear hwA hbA
      refine wpAnyH_ready (rs := [1]) (by kernel_rfl) (by simp) ?_
      refine AllReadyH.cons rfl (fun K hK => ?_) AllReadyH.nil
      go_simp
      refine (ofc_any 1 1 _ rfl (by omega)).mono ?_
      rintro e wa ⟨a5, c5, rfl, i5, _, fy⟩
      have I5 := hide i5
      clear i5
      have SA := hide (SA.out.fr fy)
      have fz := hide (fz.out.trans fy)
      clear fy
      (try go_wp2_with fail)
      refine hK.out _ _ ?_ (fun hHeld => ?_)
      · (try dsimp only)
        exact fr_cell fz.out q10
      clear hK K
      (try simp only [Act.put, List.getElem_toArray, List.getElem_cons_zero, List.getElem_cons_succ, List.setIfInBounds_toArray, List.set_cons_zero, List.set_cons_succ])
      refine wpAnyH_ready (rs := [2]) (by kernel_rfl) (by simp) ?_
      refine AllReadyH.cons rfl (fun K hK => ?_) AllReadyH.nil
      go_simp
      refine (ofR_yes _ _ P 1 _ (HT.out.fr fz.out) (IP.out.fr fz.out) I5.out (by omega) (by have := wsm (x := 1) (by omega); omega) (by omega)).mono ?_
      rintro e wb ⟨v6, rfl, r6, fy⟩
      obtain ⟨x1, x2, x3, x4, x5, x6, rfl⟩ := r6.form
      have R6 := hide r6
      clear r6
      have I5 := hide (I5.out.fr fy)
      have SA := hide (SA.out.fr fy)
      have fz := hide (fz.out.trans fy)
      clear fy
      (try go_wp2_with fail)
      refine hK.out _ _ ?_ (fun hHeld => ?_)
      · (try dsimp only)
        exact fr_cell fz.out q10
      clear hK K
      (try simp only [Act.put, List.getElem_toArray, List.getElem_cons_zero, List.getElem_cons_succ, List.setIfInBounds_toArray, List.set_cons_zero, List.set_cons_succ])
      refine wpAnyH_take (i := 3) (v := ?_) rfl (by kernel_rfl) (by kernel_rfl) (by kernel_rfl) (fun _ _ _ h => h) (Or.inl ⟨by rfl, ?_⟩) (by assumption) ?_
      rotate_left
      · (intro w hSw; (try dsimp only at hSw); go_simp; try with_reducible rfl)
      (try simp only [Act.put, List.getElem_toArray, List.getElem_cons_zero, List.getElem_cons_succ, List.setIfInBounds_toArray, List.set_cons_zero, List.set_cons_succ])
      refine wpAnyH_take (i := 4) (v := ?_) rfl (by kernel_rfl) (by kernel_rfl) (by kernel_rfl) (fun _ _ _ h => h) (Or.inl ⟨by rfl, ?_⟩) (by assumption) ?_
      rotate_left
      · (intro w hSw; (try dsimp only at hSw); go_simp; try with_reducible rfl)
      (try simp only [Act.put, List.getElem_toArray, List.getElem_cons_zero, List.getElem_cons_succ, List.setIfInBounds_toArray, List.set_cons_zero, List.set_cons_succ])
      refine wpAnyH_take (i := 5) (v := ?_) rfl (by kernel_rfl) (by kernel_rfl) (by kernel_rfl) (fun _ _ _ h => h) (Or.inl ⟨by rfl, ?_⟩) (by assumption) ?_
      rotate_left
      · (intro w hSw; (try dsimp only at hSw); go_simp; try with_reducible rfl)
      (try simp only [Act.put, List.getElem_toArray, List.getElem_cons_zero, List.getElem_cons_succ, List.setIfInBounds_toArray, List.set_cons_zero, List.set_cons_succ])
      refine wpAnyH_ready (rs := [7]) (by kernel_rfl) (by simp) ?_
      refine AllReadyH.cons rfl (fun K hK => ?_) AllReadyH.nil
      have q_ := SA.out.1
      have q2_ := SA.out.2.1
      have z_ := SA.out.2.2.1 0
      have z2_ := SA.out.2.2.1 1
      have R6 := hide (SA.out.rat R6.out x1 x2 x3 (.slice x4 x5 x6))
      have fz := hide (SA.out.set_fr fz.out (.slice x1 x2 x3) (.slice x4 x5 x6))
      have SA := hide (SA.out.set x1 x2 x3 x4 x5 x6)
      go_simp
      (try go_wp2_with fail)
      refine hK.out _ _ ?_ (fun hHeld => ?_)
      · (try dsimp only)
        exact fr_cell fz.out q10
      clear hK K
      (try simp only [Act.put, List.getElem_toArray, List.getElem_cons_zero, List.getElem_cons_succ, List.setIfInBounds_toArray, List.set_cons_zero, List.set_cons_succ])
      refine wpAnyH_take (i := 8) (v := ?_) rfl (by kernel_rfl) (by kernel_rfl) (by kernel_rfl) (fun _ _ _ h => h) (Or.inl ⟨by rfl, ?_⟩) (by assumption) ?_
      rotate_left
      · (intro w hSw; (try dsimp only at hSw); go_simp; try with_reducible rfl)
      (try simp only [Act.put, List.getElem_toArray, List.getElem_cons_zero, List.getElem_cons_succ, List.setIfInBounds_toArray, List.set_cons_zero, List.set_cons_succ])
      refine wpAnyH_done (by kernel_rfl) ?_ _
      go_wp2_with fail
      go_meet
      exact ⟨_, _, _, _, _, _, _, rfl, rfl, SA, R6, fz⟩
  case rest =>
  obtain ⟨b14, r1, r2, r3, r4, r5, r6, rfl, rfl, S14, RW, F1⟩ := hcut
  obtain ⟨w4, hw4⟩ : ∃ V, V = wc := ⟨_, rfl⟩
  rw [← hw4] at S14 RW F1 ⊢
  have S7 := hide (S7.out.fr F1.out)
  have S8 := hide (S8.out.fr F1.out)
  have S10 := hide (S10.out.fr F1.out)
  have S11 := hide (S11.out.fr F1.out)
  have RV1 := hide (RV1.out.fr F1.out)
  have RF1 := hide (RF1.out.fr F1.out)
  have IP := hide (IP.out.fr F1.out)
  have RR := hide (RR.out.fr F1.out)
  have IQ := hide (IQ.out.fr F1.out)
  have HT := hide (HT.out.fr F1.out)
  have FW := hide (FW.out.trans F1.out)
  have l14 := cell_lt S14.out.1
  have m14 := S14.out.2.2.2.2
  simp only [] at l14
  clear F1 hw4 q10 d10
  go_wp2_with fail
  refine (ofc_any 1 1 _ rfl (by omega)).mono ?_
  rintro e w5 ⟨a5, c5, rfl, i5, _, fy⟩
  have S7 := hide (S7.out.fr fy)
  have S8 := hide (S8.out.fr fy)
  have S10 := hide (S10.out.fr fy)
  have S11 := hide (S11.out.fr fy)
  have RV1 := hide (RV1.out.fr fy)
  have RF1 := hide (RF1.out.fr fy)
  have IP := hide (IP.out.fr fy)
  have RR := hide (RR.out.fr fy)
  have IQ := hide (IQ.out.fr fy)
  have HT := hide (HT.out.fr fy)
  have S14 := hide (S14.out.fr fy)
  have RW := hide (RW.out.fr fy)
  have FW := hide (FW.out.trans fy)
  clear fy
  go_wp2_with fail
  refine (ofc_any 1 1 _ rfl (by omega)).mono ?_
  rintro e w6 ⟨a6, c6, rfl, i6, _, fy⟩
  have i5 := i5.fr fy
  have S7 := hide (S7.out.fr fy)
  have S8 := hide (S8.out.fr fy)
  have S10 := hide (S10.out.fr fy)
  have S11 := hide (S11.out.fr fy)
  have RV1 := hide (RV1.out.fr fy)
  have RF1 := hide (RF1.out.fr fy)
  have IP := hide (IP.out.fr fy)
  have RR := hide (RR.out.fr fy)
  have IQ := hide (IQ.out.fr fy)
  have HT := hide (HT.out.fr fy)
  have S14 := hide (S14.out.fr fy)
  have RW := hide (RW.out.fr fy)
  have FW := hide (FW.out.trans fy)
  clear fy
  go_wp2_with fail
  refine (ofR_yes _ _ 1 1 _ HT.out i5 i6 (by have := wsm (x := 1) (by omega); omega) (by have := wsm (x := 1) (by omega); omega) (by omega)).mono ?_
  rintro e w7 ⟨v7, rfl, ry, fy⟩
  obtain ⟨uu71, uu72, uu73, uu74, uu75, uu76, rfl⟩ := ry.form
  have RO := hide ry
  have S7 := hide (S7.out.fr fy)
  have S8 := hide (S8.out.fr fy)
  have S10 := hide (S10.out.fr fy)
  have S11 := hide (S11.out.fr fy)
  have RV1 := hide (RV1.out.fr fy)
  have RF1 := hide (RF1.out.fr fy)
  have IP := hide (IP.out.fr fy)
  have RR := hide (RR.out.fr fy)
  have IQ := hide (IQ.out.fr fy)
  have HT := hide (HT.out.fr fy)
  have S14 := hide (S14.out.fr fy)
  have RW := hide (RW.out.fr fy)
  have FW := hide (FW.out.trans fy)
  have l7 := cell_lt S14.out.1
  have l7' := cell_lt S11.out.1
  simp only [] at l7 l7'
  clear fy ry i5 i6
  go_upto_region 8 with fail
  obtain ⟨W7, hW7⟩ : ∃ W, W = (w7.alloc (Obj.cells #[Value.slice uu71 uu72 uu73, Value.slice uu74 uu75 uu76] 26)) := ⟨_, rfl⟩
  have fy : Fr w7 W7 := by rw [hW7]; exact (Fr.alloc w7 (Obj.cells #[Value.slice uu71 uu72 uu73, Value.slice uu74 uu75 uu76] 26))
  have s16 : Slot2 w7 W7 (w7.heap.size) (.slice uu71 uu72 uu73) (.slice uu74 uu75 uu76) := by
    rw [hW7]; simpa using Slot2.new (Fr.refl w7) uu71 uu72 uu73 uu74 uu75 uu76 26
  rw [← hW7]
  clear hW7
  have S16 := hide s16
  have S7 := hide (S7.out.fr fy)
  have S8 := hide (S8.out.fr fy)
  have S10 := hide (S10.out.fr fy)
  have S11 := hide (S11.out.fr fy)
  have RV1 := hide (RV1.out.fr fy)
  have RF1 := hide (RF1.out.fr fy)
  have IP := hide (IP.out.fr fy)
  have RR := hide (RR.out.fr fy)
  have IQ := hide (IQ.out.fr fy)
  have HT := hide (HT.out.fr fy)
  have S14 := hide (S14.out.fr fy)
  have RW := hide (RW.out.fr fy)
  have RO := hide (RO.out.fr fy)
  have FW := hide (FW.out.trans fy)
  clear fy s16
  go_cut [18] (fun s18 wx => s18 = .int .i64 n ∧ wx = W7)
  case first =>
    rcases Int.lt_or_le 60 k with c1 | c1
    · obtain rfl : n = 60 := by have := Hn.out; omega
      go_wp2_with fail
      all_goals (go_meet; exact ⟨by (first | rfl | (congr 1; omega)), rfl⟩)
    · rcases Int.lt_or_le k (-60) with c2 | c2
      · obtain rfl : n = -60 := by have := Hn.out; omega
        go_wp2_with fail
        all_goals (go_meet; exact ⟨by (first | rfl | (congr 1; omega)), rfl⟩)
      · obtain rfl : n = k := by have := Hn.out; omega
        go_wp2_with fail
        all_goals (go_meet; exact ⟨by (first | rfl | (congr 1; omega)), rfl⟩)
  case rest =>
  obtain ⟨rfl, hwx⟩ := hcut
  subst hwx
  obtain ⟨w8, hw8⟩ : ∃ V, V = wc := ⟨_, rfl⟩
  rw [← hw8] at S7 S8 S10 S11 RV1 RF1 IP RR IQ HT S14 S16 RW RO FW ⊢
  clear hw8
  have hw : IntKind.i64.wrap (-n) = -n := by rw [IntKind.wrap_i64]; omega
  obtain ⟨_, _, _, _, _, _, hh, gx, gy⟩ := RF1.out
  simp only [Value.agg.injEq] at hh
  injection hh with hh
  injection hh with e1 hh
  injection hh with e2 _
  rw [← e1] at gx
  rw [← e2] at gy
  have GX := hide gx
  have GY := hide gy
  have q8 := S8.out.1
  have q8' := S8.out.2.1
  have d8 := fr_cell (Fr.drew w8) q8
  have d8' := fr_cell (Fr.drew w8) q8'
  clear gx gy e1 e2
  go_upto_region 9 with fail
  go_cut [19] (fun s19 wx => ∃ b r1 r2 r3 r4 r5 r6, s19 = .pointer (some ⟨b, 0, none⟩) ∧ Hid (Slot2 w8 wx b (.slice r1 r2 r3) (.slice r4 r5 r6)) ∧ Hid (IsFrac wx (.agg #[.slice r1 r2 r3, .slice r4 r5 r6]) (x * A) (y * B)) ∧ Hid (Fr w8 wx))
  case first =>
    refine wp_region_held_drew (S := (fun w' => w'.cell? ⟨w1.heap.size + 1, 0, none⟩ = some (.slice t11 t12 t13) ∧ w'.cell? ⟨w1.heap.size + 1, 1, none⟩ = some (.slice t14 t15 t16))) (by kernel_rfl) ?_ (fun hHeld => ?_)
    · exact ⟨d8, d8'⟩
    have fz := hide (Fr.drew w8)
    generalize w8.drew = wd at fz hHeld ⊢
    refine wpAnyH_take (i := 0) (v := ?_) rfl (by kernel_rfl) (by kernel_rfl) (by kernel_rfl) (fun _ _ _ h => h) (Or.inl ⟨by rfl, ?_⟩) (by assumption) ?_
    rotate_left
    · (intro w hSw; (try dsimp only at hSw); go_simp; try with_reducible rfl)
    (try simp only [Act.put, List.getElem_toArray, List.getElem_cons_zero, List.getElem_cons_succ, List.setIfInBounds_toArray, List.set_cons_zero, List.set_cons_succ])
    refine wpAnyH_take (i := 1) (v := ?_) rfl (by kernel_rfl) (by kernel_rfl) (by kernel_rfl) (fun _ _ _ h => h) (Or.inl ⟨by rfl, ?_⟩) (by assumption) ?_
    rotate_left
    · (intro w hSw; (try dsimp only at hSw); go_simp; try with_reducible rfl)
    (try simp only [Act.put, List.getElem_toArray, List.getElem_cons_zero, List.getElem_cons_succ, List.setIfInBounds_toArray, List.set_cons_zero, List.set_cons_succ])
    refine wpAnyH_take (i := 2) (v := ?_) rfl (by kernel_rfl) (by kernel_rfl) (by kernel_rfl) (fun _ _ _ h => h) (Or.inl ⟨by rfl, ?_⟩) (by assumption) ?_
    rotate_left
    · (intro w hSw; (try dsimp only at hSw); go_simp; try with_reducible rfl)
    (try simp only [Act.put, List.getElem_toArray, List.getElem_cons_zero, List.getElem_cons_succ, List.setIfInBounds_toArray, List.set_cons_zero, List.set_cons_succ])
    refine wpAnyH_take (i := 4) (v := ?_) rfl (by kernel_rfl) (by kernel_rfl) (by kernel_rfl) (fun _ _ _ h => h) (Or.inl ⟨by rfl, ?_⟩) (by assumption) ?_
    rotate_left
    · (intro w hSw; (try dsimp only at hSw); go_simp; try with_reducible rfl)
    (try simp only [Act.put, List.getElem_toArray, List.getElem_cons_zero, List.getElem_cons_succ, List.setIfInBounds_toArray, List.set_cons_zero, List.set_cons_succ])
    refine wpAnyH_take (i := 5) (v := ?_) rfl (by kernel_rfl) (by kernel_rfl) (by kernel_rfl) (fun _ _ _ h => h) (Or.inl ⟨by rfl, ?_⟩) (by assumption) ?_
    rotate_left
    · (intro w hSw; (try dsimp only at hSw); go_simp; try with_reducible rfl)
    (try simp only [Act.put, List.getElem_toArray, List.getElem_cons_zero, List.getElem_cons_succ, List.setIfInBounds_toArray, List.set_cons_zero, List.set_cons_succ])
    refine wpAnyH_take (i := 6) (v := ?_) rfl (by kernel_rfl) (by kernel_rfl) (by kernel_rfl) (fun _ _ _ h => h) (Or.inl ⟨by rfl, ?_⟩) (by assumption) ?_
    rotate_left
    · (intro w hSw; (try dsimp only at hSw); go_simp; try with_reducible rfl)
    (try simp only [Act.put, List.getElem_toArray, List.getElem_cons_zero, List.getElem_cons_succ, List.setIfInBounds_toArray, List.set_cons_zero, List.set_cons_succ])
    refine wpAnyH_take (i := 7) (v := ?_) rfl (by kernel_rfl) (by kernel_rfl) (by kernel_rfl) (fun _ _ _ h => h) (Or.inl ⟨by rfl, ?_⟩) (by assumption) ?_
    rotate_left
    · (intro w hSw; (try dsimp only at hSw); go_simp; try with_reducible rfl)
    (try simp only [Act.put, List.getElem_toArray, List.getElem_cons_zero, List.getElem_cons_succ, List.setIfInBounds_toArray, List.set_cons_zero, List.set_cons_succ])
    refine wpAnyH_ready (rs := [3, 10]) (by kernel_rfl) (by simp) ?_
    refine AllReadyH.cons rfl (fun K hK => ?_) (AllReadyH.cons rfl (fun K hK => ?_) AllReadyH.nil)
    · skip
      go_simp
      refine (refTens_any _ x n _ (GX.out.fr fz.out) (by omega) (by omega) (by omega)).mono ?_
      rintro e wa ⟨v5, rfl, i5, fy⟩
      rw [HA.out] at i5
      obtain ⟨x1, x2, x3, rfl⟩ := i5.form
      have I5 := hide i5
      clear i5
      have fz := hide (fz.out.trans fy)
      clear fy
      (try go_wp2_with fail)
      refine hK.out _ _ ?_ (fun hHeld => ?_)
      · (try dsimp only)
        exact ⟨fr_cell fz.out q8, fr_cell fz.out q8'⟩
      clear hK K
      (try simp only [Act.put, List.getElem_toArray, List.getElem_cons_zero, List.getElem_cons_succ, List.setIfInBounds_toArray, List.set_cons_zero, List.set_cons_succ])
      refine wpAnyH_ready (rs := [8, 10]) (by kernel_rfl) (by simp) ?_
      refine AllReadyH.cons rfl (fun K hK => ?_) (AllReadyH.cons rfl (fun K hK => ?_) AllReadyH.nil)
      · skip
        go_simp
        refine (refTens_any _ y (-n) _ (GY.out.fr fz.out) (by omega) (by omega) (by omega)).mono ?_
        rintro e wb ⟨v6, rfl, i6, fy⟩
        rw [HB.out] at i6
        obtain ⟨x4, x5, x6, rfl⟩ := i6.form
        have I6 := hide i6
        clear i6
        have I5 := hide (I5.out.fr fy)
        have fz := hide (fz.out.trans fy)
        clear fy
        (try go_wp2_with fail)
        refine hK.out _ _ ?_ (fun hHeld => ?_)
        · (try dsimp only)
          exact ⟨fr_cell fz.out q8, fr_cell fz.out q8'⟩
        clear hK K
        (try simp only [Act.put, List.getElem_toArray, List.getElem_cons_zero, List.getElem_cons_succ, List.setIfInBounds_toArray, List.set_cons_zero, List.set_cons_succ])
        refine wpAnyH_take (i := 9) (v := ?_) rfl (by kernel_rfl) (by kernel_rfl) (by kernel_rfl) (fun _ _ _ h => h) (Or.inl ⟨by rfl, ?_⟩) (by assumption) ?_
        rotate_left
        · (intro w hSw; (try dsimp only at hSw); go_simp; try with_reducible rfl)
        (try simp only [Act.put, List.getElem_toArray, List.getElem_cons_zero, List.getElem_cons_succ, List.setIfInBounds_toArray, List.set_cons_zero, List.set_cons_succ])
        refine wpAnyH_ready (rs := [10]) (by kernel_rfl) (by simp) ?_
        refine AllReadyH.cons rfl (fun K hK => ?_) AllReadyH.nil
        obtain ⟨bA, hbA⟩ : ∃ b, b = wb.heap.size := ⟨_, rfl⟩
        have fy := Fr.alloc wb (Obj.cells #[Value.slice none 0 0, Value.slice none 0 0] 29)
        have SA : Hid (Slot2 w8 (wb.alloc (Obj.cells #[Value.slice none 0 0, Value.slice none 0 0] 29)) bA (.slice none 0 0) (.slice none 0 0)) := by rw [hbA]; exact hide (Slot2.new fz.out none 0 0 none 0 0 29)
        have I5 := hide (I5.out.fr fy)
        have I6 := hide (I6.out.fr fy)
        have fz := hide (fz.out.trans fy)
        clear fy
        go_simp
        rw [← hbA]
        refine hK.out _ _ ?_ (fun hHeld => ?_)
        · (try dsimp only)
          exact ⟨fr_cell fz.out q8, fr_cell fz.out q8'⟩
        clear hK K
        (try simp only [Act.put, List.getElem_toArray, List.getElem_cons_zero, List.getElem_cons_succ, List.setIfInBounds_toArray, List.set_cons_zero, List.set_cons_succ])
        obtain ⟨wA, hwA⟩ : ∃ wA, wA = wb.alloc (Obj.cells #[Value.slice none 0 0, Value.slice none 0 0] 29) := ⟨_, rfl⟩
        rw [← hwA] at fz SA hHeld I5 I6 ⊢
        clear hwA hbA
        refine wpAnyH_ready (rs := [11]) (by kernel_rfl) (by simp) ?_
        refine AllReadyH.cons rfl (fun K hK => ?_) AllReadyH.nil
        have q_ := SA.out.1
        have q2_ := SA.out.2.1
        have z_ := SA.out.2.2.1 0
        have z2_ := SA.out.2.2.1 1
        have I5 := hide (SA.out.dec I5.out x1 x2 x3 (.slice x4 x5 x6))
        have I6 := hide (SA.out.dec I6.out x1 x2 x3 (.slice x4 x5 x6))
        have fz := hide (SA.out.set_fr fz.out (.slice x1 x2 x3) (.slice x4 x5 x6))
        have SA := hide (SA.out.set x1 x2 x3 x4 x5 x6)
        go_simp
        (try go_wp2_with fail)
        refine hK.out _ _ ?_ (fun hHeld => ?_)
        · (try dsimp only)
          exact ⟨fr_cell fz.out q8, fr_cell fz.out q8'⟩
        clear hK K
        (try simp only [Act.put, List.getElem_toArray, List.getElem_cons_zero, List.getElem_cons_succ, List.setIfInBounds_toArray, List.set_cons_zero, List.set_cons_succ])
        refine wpAnyH_done (by kernel_rfl) ?_ _
        go_wp2_with fail
        go_meet
        exact ⟨_, _, _, _, _, _, _, rfl, SA, ⟨_, _, _, _, _, _, rfl, I5.out, I6.out⟩, fz⟩
      · skip
        obtain ⟨bA, hbA⟩ : ∃ b, b = wa.heap.size := ⟨_, rfl⟩
        have fy := Fr.alloc wa (Obj.cells #[Value.slice none 0 0, Value.slice none 0 0] 29)
        have SA : Hid (Slot2 w8 (wa.alloc (Obj.cells #[Value.slice none 0 0, Value.slice none 0 0] 29)) bA (.slice none 0 0) (.slice none 0 0)) := by rw [hbA]; exact hide (Slot2.new fz.out none 0 0 none 0 0 29)
        have I5 := hide (I5.out.fr fy)
        have fz := hide (fz.out.trans fy)
        clear fy
        go_simp
        rw [← hbA]
        refine hK.out _ _ ?_ (fun hHeld => ?_)
        · (try dsimp only)
          exact ⟨fr_cell fz.out q8, fr_cell fz.out q8'⟩
        clear hK K
        (try simp only [Act.put, List.getElem_toArray, List.getElem_cons_zero, List.getElem_cons_succ, List.setIfInBounds_toArray, List.set_cons_zero, List.set_cons_succ])
        obtain ⟨wA, hwA⟩ : ∃ wA, wA = wa.alloc (Obj.cells #[Value.slice none 0 0, Value.slice none 0 0] 29) := ⟨_, rfl⟩
        rw [← hwA] at fz SA hHeld I5 ⊢
        clear hwA hbA
        refine wpAnyH_ready (rs := [8]) (by kernel_rfl) (by simp) ?_
        refine AllReadyH.cons rfl (fun K hK => ?_) AllReadyH.nil
        go_simp
        refine (refTens_any _ y (-n) _ (GY.out.fr fz.out) (by omega) (by omega) (by omega)).mono ?_
        rintro e wb ⟨v6, rfl, i6, fy⟩
        rw [HB.out] at i6
        obtain ⟨x4, x5, x6, rfl⟩ := i6.form
        have I6 := hide i6
        clear i6
        have I5 := hide (I5.out.fr fy)
        have SA := hide (SA.out.fr fy)
        have fz := hide (fz.out.trans fy)
        clear fy
        (try go_wp2_with fail)
        refine hK.out _ _ ?_ (fun hHeld => ?_)
        · (try dsimp only)
          exact ⟨fr_cell fz.out q8, fr_cell fz.out q8'⟩
        clear hK K
        (try simp only [Act.put, List.getElem_toArray, List.getElem_cons_zero, List.getElem_cons_succ, List.setIfInBounds_toArray, List.set_cons_zero, List.set_cons_succ])
        refine wpAnyH_take (i := 9) (v := ?_) rfl (by kernel_rfl) (by kernel_rfl) (by kernel_rfl) (fun _ _ _ h => h) (Or.inl ⟨by rfl, ?_⟩) (by assumption) ?_
        rotate_left
        · (intro w hSw; (try dsimp only at hSw); go_simp; try with_reducible rfl)
        (try simp only [Act.put, List.getElem_toArray, List.getElem_cons_zero, List.getElem_cons_succ, List.setIfInBounds_toArray, List.set_cons_zero, List.set_cons_succ])
        refine wpAnyH_ready (rs := [11]) (by kernel_rfl) (by simp) ?_
        refine AllReadyH.cons rfl (fun K hK => ?_) AllReadyH.nil
        have q_ := SA.out.1
        have q2_ := SA.out.2.1
        have z_ := SA.out.2.2.1 0
        have z2_ := SA.out.2.2.1 1
        have I5 := hide (SA.out.dec I5.out x1 x2 x3 (.slice x4 x5 x6))
        have I6 := hide (SA.out.dec I6.out x1 x2 x3 (.slice x4 x5 x6))
        have fz := hide (SA.out.set_fr fz.out (.slice x1 x2 x3) (.slice x4 x5 x6))
        have SA := hide (SA.out.set x1 x2 x3 x4 x5 x6)
        go_simp
        (try go_wp2_with fail)
        refine hK.out _ _ ?_ (fun hHeld => ?_)
        · (try dsimp only)
          exact ⟨fr_cell fz.out q8, fr_cell fz.out q8'⟩
        clear hK K
        (try simp only [Act.put, List.getElem_toArray, List.getElem_cons_zero, List.getElem_cons_succ, List.setIfInBounds_toArray, List.set_cons_zero, List.set_cons_succ])
        refine wpAnyH_done (by kernel_rfl) ?_ _
        go_wp2_with fail
        go_meet
        exact ⟨_, _, _, _, _, _, _, rfl, SA, ⟨_, _, _, _, _, _, rfl, I5.out, I6.out⟩, fz⟩
    · skip
      obtain ⟨bA, hbA⟩ : ∃ b, b = wd.heap.size := ⟨_, rfl⟩
      have fy := Fr.alloc wd (Obj.cells #[Value.slice none 0 0, Value.slice none 0 0] 29)
      have SA : Hid (Slot2 w8 (wd.alloc (Obj.cells #[Value.slice none 0 0, Value.slice none 0 0] 29)) bA (.slice none 0 0) (.slice none 0 0)) := by rw [hbA]; exact hide (Slot2.new fz.out none 0 0 none 0 0 29)
      have fz := hide (fz.out.trans fy)
      clear fy
      go_simp
      rw [← hbA]
      refine hK.out _ _ ?_ (fun hHeld => ?_)
      · (try dsimp only)
        exact ⟨fr_cell fz.out q8, fr_cell fz.out q8'⟩
      clear hK K
      (try simp only [Act.put, List.getElem_toArray, List.getElem_cons_zero, List.getElem_cons_succ, List.setIfInBounds_toArray, List.set_cons_zero, List.set_cons_succ])
      obtain ⟨wA, hwA⟩ : ∃ wA, wA = wd.alloc (Obj.cells #[Value.slice none 0 0, Value.slice none 0 0] 29) := ⟨_, rfl⟩
      rw [← hwA] at fz SA hHeld  ⊢
      clear hwA hbA
      refine wpAnyH_ready (rs := [3]) (by kernel_rfl) (by simp) ?_
      refine AllReadyH.cons rfl (fun K hK => ?_) AllReadyH.nil
      go_simp
      refine (refTens_any _ x n _ (GX.out.fr fz.out) (by omega) (by omega) (by omega)).mono ?_
      rintro e wa ⟨v5, rfl, i5, fy⟩
      rw [HA.out] at i5
      obtain ⟨x1, x2, x3, rfl⟩ := i5.form
      have I5 := hide i5
      clear i5
      have SA := hide (SA.out.fr fy)
      have fz := hide (fz.out.trans fy)
      clear fy
      (try go_wp2_with fail)
      refine hK.out _ _ ?_ (fun hHeld => ?_)
      · (try dsimp only)
        exact ⟨fr_cell fz.out q8, fr_cell fz.out q8'⟩
      clear hK K
      (try simp only [Act.put, List.getElem_toArray, List.getElem_cons_zero, List.getElem_cons_succ, List.setIfInBounds_toArray, List.set_cons_zero, List.set_cons_succ])
      refine wpAnyH_ready (rs := [8]) (by kernel_rfl) (by simp) ?_
      refine AllReadyH.cons rfl (fun K hK => ?_) AllReadyH.nil
      go_simp
      refine (refTens_any _ y (-n) _ (GY.out.fr fz.out) (by omega) (by omega) (by omega)).mono ?_
      rintro e wb ⟨v6, rfl, i6, fy⟩
      rw [HB.out] at i6
      obtain ⟨x4, x5, x6, rfl⟩ := i6.form
      have I6 := hide i6
      clear i6
      have I5 := hide (I5.out.fr fy)
      have SA := hide (SA.out.fr fy)
      have fz := hide (fz.out.trans fy)
      clear fy
      (try go_wp2_with fail)
      refine hK.out _ _ ?_ (fun hHeld => ?_)
      · (try dsimp only)
        exact ⟨fr_cell fz.out q8, fr_cell fz.out q8'⟩
      clear hK K
      (try simp only [Act.put, List.getElem_toArray, List.getElem_cons_zero, List.getElem_cons_succ, List.setIfInBounds_toArray, List.set_cons_zero, List.set_cons_succ])
      refine wpAnyH_take (i := 9) (v := ?_) rfl (by kernel_rfl) (by kernel_rfl) (by kernel_rfl) (fun _ _ _ h => h) (Or.inl ⟨by rfl, ?_⟩) (by assumption) ?_
      rotate_left
      · (intro w hSw; (try dsimp only at hSw); go_simp; try with_reducible rfl)
      (try simp only [Act.put, List.getElem_toArray, List.getElem_cons_zero, List.getElem_cons_succ, List.setIfInBounds_toArray, List.set_cons_zero, List.set_cons_succ])
      refine wpAnyH_ready (rs := [11]) (by kernel_rfl) (by simp) ?_
      refine AllReadyH.cons rfl (fun K hK => ?_) AllReadyH.nil
      have q_ := SA.out.1
      have q2_ := SA.out.2.1
      have z_ := SA.out.2.2.1 0
      have z2_ := SA.out.2.2.1 1
      have I5 := hide (SA.out.dec I5.out x1 x2 x3 (.slice x4 x5 x6))
      have I6 := hide (SA.out.dec I6.out x1 x2 x3 (.slice x4 x5 x6))
      have fz := hide (SA.out.set_fr fz.out (.slice x1 x2 x3) (.slice x4 x5 x6))
      have SA := hide (SA.out.set x1 x2 x3 x4 x5 x6)
      go_simp
      (try go_wp2_with fail)
      refine hK.out _ _ ?_ (fun hHeld => ?_)
      · (try dsimp only)
        exact ⟨fr_cell fz.out q8, fr_cell fz.out q8'⟩
      clear hK K
      (try simp only [Act.put, List.getElem_toArray, List.getElem_cons_zero, List.getElem_cons_succ, List.setIfInBounds_toArray, List.set_cons_zero, List.set_cons_succ])
      refine wpAnyH_done (by kernel_rfl) ?_ _
      go_wp2_with fail
      go_meet
      exact ⟨_, _, _, _, _, _, _, rfl, SA, ⟨_, _, _, _, _, _, rfl, I5.out, I6.out⟩, fz⟩
  case rest =>
  obtain ⟨b19, g1, g2, g3, g4, g5, g6, rfl, S19, RY, F1⟩ := hcut
  obtain ⟨w9, hw9⟩ : ∃ V, V = wc := ⟨_, rfl⟩
  rw [← hw9] at S19 RY F1 ⊢
  have S7 := hide (S7.out.fr F1.out)
  have S8 := hide (S8.out.fr F1.out)
  have S10 := hide (S10.out.fr F1.out)
  have S11 := hide (S11.out.fr F1.out)
  have RV1 := hide (RV1.out.fr F1.out)
  have RF1 := hide (RF1.out.fr F1.out)
  have IP := hide (IP.out.fr F1.out)
  have RR := hide (RR.out.fr F1.out)
  have IQ := hide (IQ.out.fr F1.out)
  have HT := hide (HT.out.fr F1.out)
  have S14 := hide (S14.out.fr F1.out)
  have S16 := hide (S16.out.fr F1.out)
  have RW := hide (RW.out.fr F1.out)
  have RO := hide (RO.out.fr F1.out)
  have FW := hide (FW.out.trans F1.out)
  have l19 := cell_lt S19.out.1
  have m19 := S19.out.2.2.2.2
  have l16 := cell_lt S16.out.1
  simp only [] at l19 l16
  clear F1 hw9 q8 q8' d8 d8' GX GY
  go_wp2_with fail
  obtain ⟨W9, hW9⟩ : ∃ W, W = (w9.alloc (Obj.cells #[Value.slice none 0 0, Value.slice none 0 0] 26)) := ⟨_, rfl⟩
  have fy : Fr w9 W9 := by rw [hW9]; exact (Fr.alloc w9 (Obj.cells #[Value.slice none 0 0, Value.slice none 0 0] 26))
  have s20 : Slot2 w9 W9 (w9.heap.size) (.slice none 0 0) (.slice none 0 0) := by
    rw [hW9]; simpa using Slot2.new (Fr.refl w9) none 0 0 none 0 0 26
  rw [← hW9]
  clear hW9
  have S20 := hide s20
  have S7 := hide (S7.out.fr fy)
  have S8 := hide (S8.out.fr fy)
  have S10 := hide (S10.out.fr fy)
  have S11 := hide (S11.out.fr fy)
  have RV1 := hide (RV1.out.fr fy)
  have RF1 := hide (RF1.out.fr fy)
  have IP := hide (IP.out.fr fy)
  have RR := hide (RR.out.fr fy)
  have IQ := hide (IQ.out.fr fy)
  have HT := hide (HT.out.fr fy)
  have S14 := hide (S14.out.fr fy)
  have S16 := hide (S16.out.fr fy)
  have RW := hide (RW.out.fr fy)
  have RO := hide (RO.out.fr fy)
  have S19 := hide (S19.out.fr fy)
  have RY := hide (RY.out.fr fy)
  have FW := hide (FW.out.trans fy)
  clear fy s20
  have S7 := hide (S7.out.fr (Fr.drew _))
  have S8 := hide (S8.out.fr (Fr.drew _))
  have S10 := hide (S10.out.fr (Fr.drew _))
  have S11 := hide (S11.out.fr (Fr.drew _))
  have RV1 := hide (RV1.out.fr (Fr.drew _))
  have RF1 := hide (RF1.out.fr (Fr.drew _))
  have IP := hide (IP.out.fr (Fr.drew _))
  have RR := hide (RR.out.fr (Fr.drew _))
  have IQ := hide (IQ.out.fr (Fr.drew _))
  have HT := hide (HT.out.fr (Fr.drew _))
  have S14 := hide (S14.out.fr (Fr.drew _))
  have S16 := hide (S16.out.fr (Fr.drew _))
  have RW := hide (RW.out.fr (Fr.drew _))
  have RO := hide (RO.out.fr (Fr.drew _))
  have S19 := hide (S19.out.fr (Fr.drew _))
  have RY := hide (RY.out.fr (Fr.drew _))
  have S20 := hide (S20.out.fr (Fr.drew _))
  have FW := hide (FW.out.trans (Fr.drew _))
  have qS7 := S7.out.1
  have qS7' := S7.out.2.1
  have qS11 := S11.out.1
  have qS11' := S11.out.2.1
  have qS14 := S14.out.1
  have qS14' := S14.out.2.1
  have qS16 := S16.out.1
  have qS16' := S16.out.2.1
  have qS19 := S19.out.1
  have qS19' := S19.out.2.1
  have qS20 := S20.out.1
  have qS20' := S20.out.2.1
  have qS10 := S10.out.1
  have n1_ : nlen 4294967296 1 ≤ 1 := by rw [nl1]; omega
  have nb1 : nlen 4294967296 (P * y) ≤ 10 := nlen_mul b32 nP ny
  have nb2 : nlen 4294967296 (r * 1) ≤ 6 := nlen_mul b32 nR n1_
  have nb3 : nlen 4294967296 ((P * y) + (r * 1)) ≤ 11 := nl_sum (Nat.le_trans nb1 (by omega)) (Nat.le_trans nb2 (by omega))
  have nb4 : nlen 4294967296 (1 * y) ≤ 6 := nlen_mul b32 n1_ ny
  have nb5 : nlen 4294967296 (x * A) ≤ 66 := nlen_mul b32 nx nA
  have nb6 : nlen 4294967296 (y * B) ≤ 66 := nlen_mul b32 ny nB
  go_wp2_with fail
  refine wp_region_held_drew (S := (fun w' => w'.cell? ⟨w1.heap.size, 0, none⟩ = some (.slice uu11 uu12 uu13) ∧ w'.cell? ⟨w1.heap.size, 1, none⟩ = some (.slice uu14 uu15 uu16) ∧ w'.cell? ⟨w2.heap.size + 1, 0, none⟩ = some (.slice uu21 uu22 uu23) ∧ w'.cell? ⟨w2.heap.size + 1, 1, none⟩ = some (.slice uu24 uu25 uu26) ∧ w'.cell? ⟨b14, 0, none⟩ = some (.slice r1 r2 r3) ∧ w'.cell? ⟨b14, 1, none⟩ = some (.slice r4 r5 r6) ∧ w'.cell? ⟨w7.heap.size, 0, none⟩ = some (.slice uu71 uu72 uu73) ∧ w'.cell? ⟨w7.heap.size, 1, none⟩ = some (.slice uu74 uu75 uu76) ∧ w'.cell? ⟨b19, 0, none⟩ = some (.slice g1 g2 g3) ∧ w'.cell? ⟨b19, 1, none⟩ = some (.slice g4 g5 g6) ∧ w'.cell? ⟨w9.heap.size, 0, none⟩ = some (.slice none 0 0) ∧ w'.cell? ⟨w9.heap.size, 1, none⟩ = some (.slice none 0 0) ∧ w'.cell? ⟨w2.heap.size, 0, none⟩ = some (.slice a2 (nlen 4294967296 P) c2))) (by kernel_rfl) ?_ (fun hHeld => ?_)
  · exact ⟨S7.out.1, S7.out.2.1, S11.out.1, S11.out.2.1, S14.out.1, S14.out.2.1, S16.out.1, S16.out.2.1, S19.out.1, S19.out.2.1, S20.out.1, S20.out.2.1, S10.out.1⟩
  obtain ⟨wd, hwd⟩ : ∃ wd, wd = W9.drew := ⟨_, rfl⟩
  rw [← hwd] at hHeld S7 S10 S11 S14 S16 S19 S20 RV1 IP RR IQ RW RO RY HT FW ⊢
  clear hwd
  refine wpAnyH_ready (rs := [0]) (by kernel_rfl) (by simp) ?_
  refine AllReadyH.cons rfl (fun K hK => ?_) AllReadyH.nil
  go_simp
  refine (wakes_any _ HT.out).mono ?_
  rintro e wk ⟨rfl, fy⟩
  have S7 := hide (S7.out.fr fy)
  have S10 := hide (S10.out.fr fy)
  have S11 := hide (S11.out.fr fy)
  have S14 := hide (S14.out.fr fy)
  have S16 := hide (S16.out.fr fy)
  have S19 := hide (S19.out.fr fy)
  have S20 := hide (S20.out.fr fy)
  have RV1 := hide (RV1.out.fr fy)
  have IP := hide (IP.out.fr fy)
  have RR := hide (RR.out.fr fy)
  have IQ := hide (IQ.out.fr fy)
  have RW := hide (RW.out.fr fy)
  have RO := hide (RO.out.fr fy)
  have RY := hide (RY.out.fr fy)
  have HT := hide (HT.out.fr fy)
  have FW := hide (FW.out.trans fy)
  clear fy
  (try go_wp2_with fail)
  refine hK.out _ _ ?_ (fun hHeld => ?_)
  · (try dsimp only)
    exact ⟨S7.out.1, S7.out.2.1, S11.out.1, S11.out.2.1, S14.out.1, S14.out.2.1, S16.out.1, S16.out.2.1, S19.out.1, S19.out.2.1, S20.out.1, S20.out.2.1, S10.out.1⟩
  clear hK K
  (try simp only [Act.put, List.getElem_toArray, List.getElem_cons_zero, List.getElem_cons_succ, List.setIfInBounds_toArray, List.set_cons_zero, List.set_cons_succ])
  refine wpAnyH_take (i := 1) (v := ?_) rfl (by kernel_rfl) (by kernel_rfl) (by kernel_rfl) (fun _ _ _ h => h) (Or.inl ⟨by rfl, ?_⟩) (by assumption) ?_
  rotate_left
  · (intro w hSw; (try dsimp only at hSw); go_simp; try with_reducible rfl)
  (try simp only [Act.put, List.getElem_toArray, List.getElem_cons_zero, List.getElem_cons_succ, List.setIfInBounds_toArray, List.set_cons_zero, List.set_cons_succ])
  refine wpAnyH_take (i := 2) (v := ?_) rfl (by kernel_rfl) (by kernel_rfl) (by kernel_rfl) (fun _ _ _ h => h) (Or.inl ⟨by rfl, ?_⟩) (by assumption) ?_
  rotate_left
  · (intro w hSw; (try dsimp only at hSw); go_simp; try with_reducible rfl)
  (try simp only [Act.put, List.getElem_toArray, List.getElem_cons_zero, List.getElem_cons_succ, List.setIfInBounds_toArray, List.set_cons_zero, List.set_cons_succ])
  refine wpAnyH_take (i := 4) (v := ?_) rfl (by kernel_rfl) (by kernel_rfl) (by kernel_rfl) (fun _ _ _ h => h) (Or.inl ⟨by rfl, ?_⟩) (by assumption) ?_
  rotate_left
  · (intro w hSw; (try dsimp only at hSw); go_simp; try with_reducible rfl)
  (try simp only [Act.put, List.getElem_toArray, List.getElem_cons_zero, List.getElem_cons_succ, List.setIfInBounds_toArray, List.set_cons_zero, List.set_cons_succ])
  refine wpAnyH_ready (rs := [3]) (by kernel_rfl) (by simp) ?_
  refine AllReadyH.cons rfl (fun K hK => ?_) AllReadyH.nil
  go_simp
  refine (digits_any _ P _ IP.out (by omega)).mono ?_
  rintro e wk1 ⟨vx, rfl, iy, fy⟩
  obtain ⟨y1, y2, y3, rfl⟩ := iy.form
  have IZ := hide iy
  have S7 := hide (S7.out.fr fy)
  have S10 := hide (S10.out.fr fy)
  have S11 := hide (S11.out.fr fy)
  have S14 := hide (S14.out.fr fy)
  have S16 := hide (S16.out.fr fy)
  have S19 := hide (S19.out.fr fy)
  have S20 := hide (S20.out.fr fy)
  have RV1 := hide (RV1.out.fr fy)
  have IP := hide (IP.out.fr fy)
  have RR := hide (RR.out.fr fy)
  have IQ := hide (IQ.out.fr fy)
  have RW := hide (RW.out.fr fy)
  have RO := hide (RO.out.fr fy)
  have RY := hide (RY.out.fr fy)
  have HT := hide (HT.out.fr fy)
  have FW := hide (FW.out.trans fy)
  clear fy iy
  (try go_wp2_with fail)
  refine hK.out _ _ ?_ (fun hHeld => ?_)
  · (try dsimp only)
    exact ⟨S7.out.1, S7.out.2.1, S11.out.1, S11.out.2.1, S14.out.1, S14.out.2.1, S16.out.1, S16.out.2.1, S19.out.1, S19.out.2.1, S20.out.1, S20.out.2.1, S10.out.1⟩
  clear hK K
  (try simp only [Act.put, List.getElem_toArray, List.getElem_cons_zero, List.getElem_cons_succ, List.setIfInBounds_toArray, List.set_cons_zero, List.set_cons_succ])
  refine wpAnyH_ready (rs := [5]) (by kernel_rfl) (by simp) ?_
  refine AllReadyH.cons rfl (fun K hK => ?_) AllReadyH.nil
  go_simp
  refine (refCmp_any _ _ P P _ IZ.out IQ.out (by omega) (by omega)).mono ?_
  rintro e wk2 ⟨rfl, fy⟩
  rw [cmpZ_eq rfl]
  have S7 := hide (S7.out.fr fy)
  have S10 := hide (S10.out.fr fy)
  have S11 := hide (S11.out.fr fy)
  have S14 := hide (S14.out.fr fy)
  have S16 := hide (S16.out.fr fy)
  have S19 := hide (S19.out.fr fy)
  have S20 := hide (S20.out.fr fy)
  have RV1 := hide (RV1.out.fr fy)
  have IP := hide (IP.out.fr fy)
  have RR := hide (RR.out.fr fy)
  have IQ := hide (IQ.out.fr fy)
  have RW := hide (RW.out.fr fy)
  have RO := hide (RO.out.fr fy)
  have RY := hide (RY.out.fr fy)
  have HT := hide (HT.out.fr fy)
  have FW := hide (FW.out.trans fy)
  clear fy IZ
  (try go_wp2_with fail)
  refine hK.out _ _ ?_ (fun hHeld => ?_)
  · (try dsimp only)
    exact ⟨S7.out.1, S7.out.2.1, S11.out.1, S11.out.2.1, S14.out.1, S14.out.2.1, S16.out.1, S16.out.2.1, S19.out.1, S19.out.2.1, S20.out.1, S20.out.2.1, S10.out.1⟩
  clear hK K
  (try simp only [Act.put, List.getElem_toArray, List.getElem_cons_zero, List.getElem_cons_succ, List.setIfInBounds_toArray, List.set_cons_zero, List.set_cons_succ])
  refine wpAnyH_take (i := 6) (v := ?_) rfl (by kernel_rfl) (by kernel_rfl) (by kernel_rfl) (fun _ _ _ h => h) (Or.inl ⟨by rfl, ?_⟩) (by assumption) ?_
  rotate_left
  · (intro w hSw; (try dsimp only at hSw); go_simp; try with_reducible rfl)
  (try simp only [Act.put, List.getElem_toArray, List.getElem_cons_zero, List.getElem_cons_succ, List.setIfInBounds_toArray, List.set_cons_zero, List.set_cons_succ])
  refine wpAnyH_take (i := 7) (v := ?_) rfl (by kernel_rfl) (by kernel_rfl) (by kernel_rfl) (fun _ _ _ h => h) (Or.inl ⟨by rfl, ?_⟩) (by assumption) ?_
  rotate_left
  · (intro w hSw; (try dsimp only at hSw); go_simp; try with_reducible rfl)
  (try simp only [Act.put, List.getElem_toArray, List.getElem_cons_zero, List.getElem_cons_succ, List.setIfInBounds_toArray, List.set_cons_zero, List.set_cons_succ])
  refine wpAnyH_take (i := 8) (v := ?_) rfl (by kernel_rfl) (by kernel_rfl) (by kernel_rfl) (fun _ _ _ h => h) (Or.inl ⟨by rfl, ?_⟩) (by assumption) ?_
  rotate_left
  · (intro w hSw; (try dsimp only at hSw); go_simp; try with_reducible rfl)
  (try simp only [Act.put, List.getElem_toArray, List.getElem_cons_zero, List.getElem_cons_succ, List.setIfInBounds_toArray, List.set_cons_zero, List.set_cons_succ])
  refine wpAnyH_take (i := 9) (v := ?_) rfl (by kernel_rfl) (by kernel_rfl) (by kernel_rfl) (fun _ _ _ h => h) (Or.inl ⟨by rfl, ?_⟩) (by assumption) ?_
  rotate_left
  · (intro w hSw; (try dsimp only at hSw); go_simp; try with_reducible rfl)
  (try simp only [Act.put, List.getElem_toArray, List.getElem_cons_zero, List.getElem_cons_succ, List.setIfInBounds_toArray, List.set_cons_zero, List.set_cons_succ])
  refine wpAnyH_take (i := 10) (v := ?_) rfl (by kernel_rfl) (by kernel_rfl) (by kernel_rfl) (fun _ _ _ h => h) (Or.inl ⟨by rfl, ?_⟩) (by assumption) ?_
  rotate_left
  · (intro w hSw; (try dsimp only at hSw); go_simp; try with_reducible rfl)
  (try simp only [Act.put, List.getElem_toArray, List.getElem_cons_zero, List.getElem_cons_succ, List.setIfInBounds_toArray, List.set_cons_zero, List.set_cons_succ])
  refine wpAnyH_ready (rs := [11]) (by kernel_rfl) (by simp) ?_
  refine AllReadyH.cons rfl (fun K hK => ?_) AllReadyH.nil
  go_simp
  refine (cmpR_any _ _ r y 1 1 _ HT.out RR.out RO.out (Nat.le_trans nR (by omega)) (Nat.le_trans ny (by omega)) (Nat.le_trans n1_ (by omega)) (Nat.le_trans n1_ (by omega)) (-1) (cmpZ_lt (by have := HML.out; omega))).mono ?_
  rintro e wk3 ⟨rfl, fy⟩
  have S7 := hide (S7.out.fr fy)
  have S10 := hide (S10.out.fr fy)
  have S11 := hide (S11.out.fr fy)
  have S14 := hide (S14.out.fr fy)
  have S16 := hide (S16.out.fr fy)
  have S19 := hide (S19.out.fr fy)
  have S20 := hide (S20.out.fr fy)
  have RV1 := hide (RV1.out.fr fy)
  have IP := hide (IP.out.fr fy)
  have RR := hide (RR.out.fr fy)
  have IQ := hide (IQ.out.fr fy)
  have RW := hide (RW.out.fr fy)
  have RO := hide (RO.out.fr fy)
  have RY := hide (RY.out.fr fy)
  have HT := hide (HT.out.fr fy)
  have FW := hide (FW.out.trans fy)
  clear fy
  (try go_wp2_with fail)
  refine hK.out _ _ ?_ (fun hHeld => ?_)
  · (try dsimp only)
    exact ⟨S7.out.1, S7.out.2.1, S11.out.1, S11.out.2.1, S14.out.1, S14.out.2.1, S16.out.1, S16.out.2.1, S19.out.1, S19.out.2.1, S20.out.1, S20.out.2.1, S10.out.1⟩
  clear hK K
  (try simp only [Act.put, List.getElem_toArray, List.getElem_cons_zero, List.getElem_cons_succ, List.setIfInBounds_toArray, List.set_cons_zero, List.set_cons_succ])
  refine wpAnyH_take (i := 12) (v := ?_) rfl (by kernel_rfl) (by kernel_rfl) (by kernel_rfl) (fun _ _ _ h => h) (Or.inl ⟨by rfl, ?_⟩) (by assumption) ?_
  rotate_left
  · (intro w hSw; (try dsimp only at hSw); go_simp; try with_reducible rfl)
  (try simp only [Act.put, List.getElem_toArray, List.getElem_cons_zero, List.getElem_cons_succ, List.setIfInBounds_toArray, List.set_cons_zero, List.set_cons_succ])
  refine wpAnyH_take (i := 13) (v := ?_) rfl (by kernel_rfl) (by kernel_rfl) (by kernel_rfl) (fun _ _ _ h => h) (Or.inl ⟨by rfl, ?_⟩) (by assumption) ?_
  rotate_left
  · (intro w hSw; (try dsimp only at hSw); go_simp; try with_reducible rfl)
  (try simp only [Act.put, List.getElem_toArray, List.getElem_cons_zero, List.getElem_cons_succ, List.setIfInBounds_toArray, List.set_cons_zero, List.set_cons_succ])
  refine wpAnyH_take (i := 14) (v := ?_) rfl (by kernel_rfl) (by kernel_rfl) (by kernel_rfl) (fun _ _ _ h => h) (Or.inl ⟨by rfl, ?_⟩) (by assumption) ?_
  rotate_left
  · (intro w hSw; (try dsimp only at hSw); go_simp; try with_reducible rfl)
  (try simp only [Act.put, List.getElem_toArray, List.getElem_cons_zero, List.getElem_cons_succ, List.setIfInBounds_toArray, List.set_cons_zero, List.set_cons_succ])
  refine wpAnyH_take (i := 15) (v := ?_) rfl (by kernel_rfl) (by kernel_rfl) (by kernel_rfl) (fun _ _ _ h => h) (Or.inl ⟨by rfl, ?_⟩) (by assumption) ?_
  rotate_left
  · (intro w hSw; (try dsimp only at hSw); go_simp; try with_reducible rfl)
  (try simp only [Act.put, List.getElem_toArray, List.getElem_cons_zero, List.getElem_cons_succ, List.setIfInBounds_toArray, List.set_cons_zero, List.set_cons_succ])
  refine wpAnyH_take (i := 16) (v := ?_) rfl (by kernel_rfl) (by kernel_rfl) (by kernel_rfl) (fun _ _ _ h => h) (Or.inl ⟨by rfl, ?_⟩) (by assumption) ?_
  rotate_left
  · (intro w hSw; (try dsimp only at hSw); go_simp; try with_reducible rfl)
  (try simp only [Act.put, List.getElem_toArray, List.getElem_cons_zero, List.getElem_cons_succ, List.setIfInBounds_toArray, List.set_cons_zero, List.set_cons_succ])
  refine wpAnyH_take (i := 18) (v := ?_) rfl (by kernel_rfl) (by kernel_rfl) (by kernel_rfl) (fun _ _ _ h => h) (Or.inl ⟨by rfl, ?_⟩) (by assumption) ?_
  rotate_left
  · (intro w hSw; (try dsimp only at hSw); go_simp; try with_reducible rfl)
  (try simp only [Act.put, List.getElem_toArray, List.getElem_cons_zero, List.getElem_cons_succ, List.setIfInBounds_toArray, List.set_cons_zero, List.set_cons_succ])
  refine wpAnyH_ready (rs := [17]) (by kernel_rfl) (by simp) ?_
  refine AllReadyH.cons rfl (fun K hK => ?_) AllReadyH.nil
  go_simp
  refine (addR_any _ _ P 1 r y _ HT.out RW.out RR.out (Nat.le_trans nP (by omega)) (Nat.le_trans n1_ (by omega)) (Nat.le_trans nR (by omega)) (Nat.le_trans ny (by omega))).mono ?_
  rintro e wk4 ⟨v_, rfl, ry, fy⟩
  obtain ⟨o1, o2, o3, o4, o5, o6, rfl⟩ := ry.form
  have R17 := hide ry
  have S7 := hide (S7.out.fr fy)
  have S10 := hide (S10.out.fr fy)
  have S11 := hide (S11.out.fr fy)
  have S14 := hide (S14.out.fr fy)
  have S16 := hide (S16.out.fr fy)
  have S19 := hide (S19.out.fr fy)
  have S20 := hide (S20.out.fr fy)
  have RV1 := hide (RV1.out.fr fy)
  have IP := hide (IP.out.fr fy)
  have RR := hide (RR.out.fr fy)
  have IQ := hide (IQ.out.fr fy)
  have RW := hide (RW.out.fr fy)
  have RO := hide (RO.out.fr fy)
  have RY := hide (RY.out.fr fy)
  have HT := hide (HT.out.fr fy)
  have FW := hide (FW.out.trans fy)
  clear fy ry
  (try go_wp2_with fail)
  refine hK.out _ _ ?_ (fun hHeld => ?_)
  · (try dsimp only)
    exact ⟨S7.out.1, S7.out.2.1, S11.out.1, S11.out.2.1, S14.out.1, S14.out.2.1, S16.out.1, S16.out.2.1, S19.out.1, S19.out.2.1, S20.out.1, S20.out.2.1, S10.out.1⟩
  clear hK K
  (try simp only [Act.put, List.getElem_toArray, List.getElem_cons_zero, List.getElem_cons_succ, List.setIfInBounds_toArray, List.set_cons_zero, List.set_cons_succ])
  refine wpAnyH_ready (rs := [19]) (by kernel_rfl) (by simp) ?_
  refine AllReadyH.cons rfl (fun K hK => ?_) AllReadyH.nil
  go_simp
  refine (cmpR_any _ _ ((P * y) + (r * 1)) (1 * y) x y _ HT.out R17.out RV1.out (Nat.le_trans nb3 (by omega)) (Nat.le_trans nb4 (by omega)) (Nat.le_trans nx (by omega)) (Nat.le_trans ny (by omega)) 0 (cmpZ_eq (eq_parts8 HDM.out))).mono ?_
  rintro e wk5 ⟨rfl, fy⟩
  have S7 := hide (S7.out.fr fy)
  have S10 := hide (S10.out.fr fy)
  have S11 := hide (S11.out.fr fy)
  have S14 := hide (S14.out.fr fy)
  have S16 := hide (S16.out.fr fy)
  have S19 := hide (S19.out.fr fy)
  have S20 := hide (S20.out.fr fy)
  have RV1 := hide (RV1.out.fr fy)
  have IP := hide (IP.out.fr fy)
  have RR := hide (RR.out.fr fy)
  have IQ := hide (IQ.out.fr fy)
  have RW := hide (RW.out.fr fy)
  have RO := hide (RO.out.fr fy)
  have RY := hide (RY.out.fr fy)
  have HT := hide (HT.out.fr fy)
  have FW := hide (FW.out.trans fy)
  clear fy R17
  (try go_wp2_with fail)
  refine hK.out _ _ ?_ (fun hHeld => ?_)
  · (try dsimp only)
    exact ⟨S7.out.1, S7.out.2.1, S11.out.1, S11.out.2.1, S14.out.1, S14.out.2.1, S16.out.1, S16.out.2.1, S19.out.1, S19.out.2.1, S20.out.1, S20.out.2.1, S10.out.1⟩
  clear hK K
  (try simp only [Act.put, List.getElem_toArray, List.getElem_cons_zero, List.getElem_cons_succ, List.setIfInBounds_toArray, List.set_cons_zero, List.set_cons_succ])
  refine wpAnyH_take (i := 20) (v := ?_) rfl (by kernel_rfl) (by kernel_rfl) (by kernel_rfl) (fun _ _ _ h => h) (Or.inl ⟨by rfl, ?_⟩) (by assumption) ?_
  rotate_left
  · (intro w hSw; (try dsimp only at hSw); go_simp; try with_reducible rfl)
  (try simp only [Act.put, List.getElem_toArray, List.getElem_cons_zero, List.getElem_cons_succ, List.setIfInBounds_toArray, List.set_cons_zero, List.set_cons_succ])
  refine wpAnyH_take (i := 21) (v := ?_) rfl (by kernel_rfl) (by kernel_rfl) (by kernel_rfl) (fun _ _ _ h => h) (Or.inl ⟨by rfl, ?_⟩) (by assumption) ?_
  rotate_left
  · (intro w hSw; (try dsimp only at hSw); go_simp; try with_reducible rfl)
  (try simp only [Act.put, List.getElem_toArray, List.getElem_cons_zero, List.getElem_cons_succ, List.setIfInBounds_toArray, List.set_cons_zero, List.set_cons_succ])
  refine wpAnyH_take (i := 22) (v := ?_) rfl (by kernel_rfl) (by kernel_rfl) (by kernel_rfl) (fun _ _ _ h => h) (Or.inl ⟨by rfl, ?_⟩) (by assumption) ?_
  rotate_left
  · (intro w hSw; (try dsimp only at hSw); go_simp; try with_reducible rfl)
  (try simp only [Act.put, List.getElem_toArray, List.getElem_cons_zero, List.getElem_cons_succ, List.setIfInBounds_toArray, List.set_cons_zero, List.set_cons_succ])
  refine wpAnyH_take (i := 23) (v := ?_) rfl (by kernel_rfl) (by kernel_rfl) (by kernel_rfl) (fun _ _ _ h => h) (Or.inl ⟨by rfl, ?_⟩) (by assumption) ?_
  rotate_left
  · (intro w hSw; (try dsimp only at hSw); go_simp; try with_reducible rfl)
  (try simp only [Act.put, List.getElem_toArray, List.getElem_cons_zero, List.getElem_cons_succ, List.setIfInBounds_toArray, List.set_cons_zero, List.set_cons_succ])
  refine wpAnyH_take (i := 24) (v := ?_) rfl (by kernel_rfl) (by kernel_rfl) (by kernel_rfl) (fun _ _ _ h => h) (Or.inl ⟨by rfl, ?_⟩) (by assumption) ?_
  rotate_left
  · (intro w hSw; (try dsimp only at hSw); go_simp; try with_reducible rfl)
  (try simp only [Act.put, List.getElem_toArray, List.getElem_cons_zero, List.getElem_cons_succ, List.setIfInBounds_toArray, List.set_cons_zero, List.set_cons_succ])
  refine wpAnyH_take (i := 26) (v := ?_) rfl (by kernel_rfl) (by kernel_rfl) (by kernel_rfl) (fun _ _ _ h => h) (Or.inl ⟨by rfl, ?_⟩) (by assumption) ?_
  rotate_left
  · (intro w hSw; (try dsimp only at hSw); go_simp; try with_reducible rfl)
  (try simp only [Act.put, List.getElem_toArray, List.getElem_cons_zero, List.getElem_cons_succ, List.setIfInBounds_toArray, List.set_cons_zero, List.set_cons_succ])
  refine wpAnyH_ready (rs := [25]) (by kernel_rfl) (by simp) ?_
  refine AllReadyH.cons rfl (fun K hK => ?_) AllReadyH.nil
  go_simp
  refine (scaleR_any _ x y n A B _ HT.out RV1.out (by omega) (by omega) (by omega) (by omega) HA.out HB.out).mono ?_
  rintro e wk6 ⟨v_, rfl, ry, fy⟩
  obtain ⟨p1, p2, p3, p4, p5, p6, rfl⟩ := ry.form
  have R25 := hide ry
  have S7 := hide (S7.out.fr fy)
  have S10 := hide (S10.out.fr fy)
  have S11 := hide (S11.out.fr fy)
  have S14 := hide (S14.out.fr fy)
  have S16 := hide (S16.out.fr fy)
  have S19 := hide (S19.out.fr fy)
  have S20 := hide (S20.out.fr fy)
  have RV1 := hide (RV1.out.fr fy)
  have IP := hide (IP.out.fr fy)
  have RR := hide (RR.out.fr fy)
  have IQ := hide (IQ.out.fr fy)
  have RW := hide (RW.out.fr fy)
  have RO := hide (RO.out.fr fy)
  have RY := hide (RY.out.fr fy)
  have HT := hide (HT.out.fr fy)
  have FW := hide (FW.out.trans fy)
  clear fy ry
  (try go_wp2_with fail)
  refine hK.out _ _ ?_ (fun hHeld => ?_)
  · (try dsimp only)
    exact ⟨S7.out.1, S7.out.2.1, S11.out.1, S11.out.2.1, S14.out.1, S14.out.2.1, S16.out.1, S16.out.2.1, S19.out.1, S19.out.2.1, S20.out.1, S20.out.2.1, S10.out.1⟩
  clear hK K
  (try simp only [Act.put, List.getElem_toArray, List.getElem_cons_zero, List.getElem_cons_succ, List.setIfInBounds_toArray, List.set_cons_zero, List.set_cons_succ])
  refine wpAnyH_ready (rs := [27]) (by kernel_rfl) (by simp) ?_
  refine AllReadyH.cons rfl (fun K hK => ?_) AllReadyH.nil
  go_simp
  refine (same_yes _ _ (x * A) (y * B) (x * A) (y * B) _ R25.out RY.out (Nat.le_trans nb5 (by omega)) (Nat.le_trans nb6 (by omega)) (by have := nl10 (lt_of_nlen b32 nb5); omega) (by have := nl10 (lt_of_nlen b32 nb6); omega) rfl).mono ?_
  rintro e wk7 ⟨rfl, fy⟩
  have S7 := hide (S7.out.fr fy)
  have S10 := hide (S10.out.fr fy)
  have S11 := hide (S11.out.fr fy)
  have S14 := hide (S14.out.fr fy)
  have S16 := hide (S16.out.fr fy)
  have S19 := hide (S19.out.fr fy)
  have S20 := hide (S20.out.fr fy)
  have RV1 := hide (RV1.out.fr fy)
  have IP := hide (IP.out.fr fy)
  have RR := hide (RR.out.fr fy)
  have IQ := hide (IQ.out.fr fy)
  have RW := hide (RW.out.fr fy)
  have RO := hide (RO.out.fr fy)
  have RY := hide (RY.out.fr fy)
  have HT := hide (HT.out.fr fy)
  have FW := hide (FW.out.trans fy)
  clear fy R25
  (try go_wp2_with fail)
  refine hK.out _ _ ?_ (fun hHeld => ?_)
  · (try dsimp only)
    exact ⟨S7.out.1, S7.out.2.1, S11.out.1, S11.out.2.1, S14.out.1, S14.out.2.1, S16.out.1, S16.out.2.1, S19.out.1, S19.out.2.1, S20.out.1, S20.out.2.1, S10.out.1⟩
  clear hK K
  (try simp only [Act.put, List.getElem_toArray, List.getElem_cons_zero, List.getElem_cons_succ, List.setIfInBounds_toArray, List.set_cons_zero, List.set_cons_succ])
  refine wpAnyH_take (i := 28) (v := ?_) rfl (by kernel_rfl) (by kernel_rfl) (by kernel_rfl) (fun _ _ _ h => h) (Or.inl ⟨by rfl, ?_⟩) (by assumption) ?_
  rotate_left
  · (intro w hSw; (try dsimp only at hSw); go_simp; try with_reducible rfl)
  (try simp only [Act.put, List.getElem_toArray, List.getElem_cons_zero, List.getElem_cons_succ, List.setIfInBounds_toArray, List.set_cons_zero, List.set_cons_succ])
  refine wpAnyH_take (i := 29) (v := ?_) rfl (by kernel_rfl) (by kernel_rfl) (by kernel_rfl) (fun _ _ _ h => h) (Or.inl ⟨by rfl, ?_⟩) (by assumption) ?_
  rotate_left
  · (intro w hSw; (try dsimp only at hSw); go_simp; try with_reducible rfl)
  (try simp only [Act.put, List.getElem_toArray, List.getElem_cons_zero, List.getElem_cons_succ, List.setIfInBounds_toArray, List.set_cons_zero, List.set_cons_succ])
  rcases Int.lt_or_le k (-5000) with hk | hk
  · have hout : k < -5000 ∨ 5000 < k := .inl hk
    have hd1 : ¬ (-5000 ≤ k) := by omega
    refine wpAnyH_take (i := 30) (v := ?_) rfl (by kernel_rfl) (by kernel_rfl) (by kernel_rfl) (fun _ _ _ h => h) (Or.inl ⟨by rfl, ?_⟩) (by assumption) ?_
    rotate_left
    · (intro w hSw; (try dsimp only at hSw); go_simp; try with_reducible rfl)
    (try simp only [Act.put, List.getElem_toArray, List.getElem_cons_zero, List.getElem_cons_succ, List.setIfInBounds_toArray, List.set_cons_zero, List.set_cons_succ])
    refine wpAnyH_take (i := 31) (v := ?_) rfl (by kernel_rfl) (by kernel_rfl) (by kernel_rfl) (fun _ _ _ h => h) (Or.inl ⟨by rfl, ?_⟩) (by assumption) ?_
    rotate_left
    · (intro w hSw; (try dsimp only at hSw); go_simp; try with_reducible rfl)
    (try simp only [Act.put, List.getElem_toArray, List.getElem_cons_zero, List.getElem_cons_succ, List.setIfInBounds_toArray, List.set_cons_zero, List.set_cons_succ])
    refine wpAnyH_take (i := 32) (v := ?_) rfl (by kernel_rfl) (by kernel_rfl) (by kernel_rfl) (fun _ _ _ h => h) (Or.inl ⟨by rfl, ?_⟩) (by assumption) ?_
    rotate_left
    · (intro w hSw; (try dsimp only at hSw); go_simp; try with_reducible rfl)
    (try simp only [Act.put, List.getElem_toArray, List.getElem_cons_zero, List.getElem_cons_succ, List.setIfInBounds_toArray, List.set_cons_zero, List.set_cons_succ])
    refine wpAnyH_take (i := 33) (v := undef) rfl (by kernel_rfl) (by kernel_rfl) (by kernel_rfl) (fun _ _ _ h => h) (Or.inr ⟨by rfl, rfl⟩) (by assumption) ?_
    (try simp only [Act.put, List.getElem_toArray, List.getElem_cons_zero, List.getElem_cons_succ, List.setIfInBounds_toArray, List.set_cons_zero, List.set_cons_succ])
    refine wpAnyH_take (i := 34) (v := undef) rfl (by kernel_rfl) (by kernel_rfl) (by kernel_rfl) (fun _ _ _ h => h) (Or.inr ⟨by rfl, rfl⟩) (by assumption) ?_
    (try simp only [Act.put, List.getElem_toArray, List.getElem_cons_zero, List.getElem_cons_succ, List.setIfInBounds_toArray, List.set_cons_zero, List.set_cons_succ])
    refine wpAnyH_take (i := 35) (v := ?_) rfl (by kernel_rfl) (by kernel_rfl) (by kernel_rfl) (fun _ _ _ h => h) (Or.inl ⟨by rfl, ?_⟩) (by assumption) ?_
    rotate_left
    · (intro w hSw; (try dsimp only at hSw); go_simp; try with_reducible rfl)
    (try simp only [Act.put, List.getElem_toArray, List.getElem_cons_zero, List.getElem_cons_succ, List.setIfInBounds_toArray, List.set_cons_zero, List.set_cons_succ])
    refine wpAnyH_take (i := 36) (v := ?_) rfl (by kernel_rfl) (by kernel_rfl) (by kernel_rfl) (fun _ _ _ h => h) (Or.inl ⟨by rfl, ?_⟩) (by assumption) ?_
    rotate_left
    · (intro w hSw; (try dsimp only at hSw); go_simp; try with_reducible rfl)
    (try simp only [Act.put, List.getElem_toArray, List.getElem_cons_zero, List.getElem_cons_succ, List.setIfInBounds_toArray, List.set_cons_zero, List.set_cons_succ])
    refine wpAnyH_take (i := 37) (v := ?_) rfl (by kernel_rfl) (by kernel_rfl) (by kernel_rfl) (fun _ _ _ h => h) (Or.inl ⟨by rfl, ?_⟩) (by assumption) ?_
    rotate_left
    · (intro w hSw; (try dsimp only at hSw); go_simp; try with_reducible rfl)
    (try simp only [Act.put, List.getElem_toArray, List.getElem_cons_zero, List.getElem_cons_succ, List.setIfInBounds_toArray, List.set_cons_zero, List.set_cons_succ])
    refine wpAnyH_take (i := 38) (v := ?_) rfl (by kernel_rfl) (by kernel_rfl) (by kernel_rfl) (fun _ _ _ h => h) (Or.inl ⟨by rfl, ?_⟩) (by assumption) ?_
    rotate_left
    · (intro w hSw; (try dsimp only at hSw); go_simp; try with_reducible rfl)
    (try simp only [Act.put, List.getElem_toArray, List.getElem_cons_zero, List.getElem_cons_succ, List.setIfInBounds_toArray, List.set_cons_zero, List.set_cons_succ])
    refine wpAnyH_take (i := 40) (v := ?_) rfl (by kernel_rfl) (by kernel_rfl) (by kernel_rfl) (fun _ _ _ h => h) (Or.inl ⟨by rfl, ?_⟩) (by assumption) ?_
    rotate_left
    · (intro w hSw; (try dsimp only at hSw); go_simp; try with_reducible rfl)
    (try simp only [Act.put, List.getElem_toArray, List.getElem_cons_zero, List.getElem_cons_succ, List.setIfInBounds_toArray, List.set_cons_zero, List.set_cons_succ])
    refine wpAnyH_ready (rs := [39]) (by kernel_rfl) (by simp) ?_
    refine AllReadyH.cons rfl (fun K hK => ?_) AllReadyH.nil
    go_simp
    refine (scaleR_out _ x y k _ RV1.out k0 k1 hout).mono ?_
    rintro e wk8 ⟨rfl, fy⟩
    have S7 := hide (S7.out.fr fy)
    have S10 := hide (S10.out.fr fy)
    have S11 := hide (S11.out.fr fy)
    have S14 := hide (S14.out.fr fy)
    have S16 := hide (S16.out.fr fy)
    have S19 := hide (S19.out.fr fy)
    have S20 := hide (S20.out.fr fy)
    have RV1 := hide (RV1.out.fr fy)
    have IP := hide (IP.out.fr fy)
    have RR := hide (RR.out.fr fy)
    have IQ := hide (IQ.out.fr fy)
    have RW := hide (RW.out.fr fy)
    have RO := hide (RO.out.fr fy)
    have RY := hide (RY.out.fr fy)
    have HT := hide (HT.out.fr fy)
    have FW := hide (FW.out.trans fy)
    clear fy
    (try go_wp2_with fail)
    refine hK.out _ _ ?_ (fun hHeld => ?_)
    · (try dsimp only)
      exact ⟨S7.out.1, S7.out.2.1, S11.out.1, S11.out.2.1, S14.out.1, S14.out.2.1, S16.out.1, S16.out.2.1, S19.out.1, S19.out.2.1, S20.out.1, S20.out.2.1, S10.out.1⟩
    clear hK K
    (try simp only [Act.put, List.getElem_toArray, List.getElem_cons_zero, List.getElem_cons_succ, List.setIfInBounds_toArray, List.set_cons_zero, List.set_cons_succ])
    refine wpAnyH_ready (rs := [41]) (by kernel_rfl) (by simp) ?_
    refine AllReadyH.cons rfl (fun K hK => ?_) AllReadyH.nil
    go_simp
    refine (cmpR_any _ _ 0 1 0 1 _ HT.out (rat_zero _ (by omega) rfl) (rat_zero _ (by omega) rfl) (by rw [nlen_zero]; omega) (Nat.le_trans n1_ (by omega)) (by rw [nlen_zero]; omega) (Nat.le_trans n1_ (by omega)) 0 (by decide)).mono ?_
    rintro e wk9 ⟨rfl, fy⟩
    have S7 := hide (S7.out.fr fy)
    have S10 := hide (S10.out.fr fy)
    have S11 := hide (S11.out.fr fy)
    have S14 := hide (S14.out.fr fy)
    have S16 := hide (S16.out.fr fy)
    have S19 := hide (S19.out.fr fy)
    have S20 := hide (S20.out.fr fy)
    have RV1 := hide (RV1.out.fr fy)
    have IP := hide (IP.out.fr fy)
    have RR := hide (RR.out.fr fy)
    have IQ := hide (IQ.out.fr fy)
    have RW := hide (RW.out.fr fy)
    have RO := hide (RO.out.fr fy)
    have RY := hide (RY.out.fr fy)
    have HT := hide (HT.out.fr fy)
    have FW := hide (FW.out.trans fy)
    clear fy
    (try go_wp2_with fail)
    refine hK.out _ _ ?_ (fun hHeld => ?_)
    · (try dsimp only)
      exact ⟨S7.out.1, S7.out.2.1, S11.out.1, S11.out.2.1, S14.out.1, S14.out.2.1, S16.out.1, S16.out.2.1, S19.out.1, S19.out.2.1, S20.out.1, S20.out.2.1, S10.out.1⟩
    clear hK K
    (try simp only [Act.put, List.getElem_toArray, List.getElem_cons_zero, List.getElem_cons_succ, List.setIfInBounds_toArray, List.set_cons_zero, List.set_cons_succ])
    refine wpAnyH_take (i := 42) (v := ?_) rfl (by kernel_rfl) (by kernel_rfl) (by kernel_rfl) (fun _ _ _ h => h) (Or.inl ⟨by rfl, ?_⟩) (by assumption) ?_
    rotate_left
    · (intro w hSw; (try dsimp only at hSw); go_simp; try with_reducible rfl)
    (try simp only [Act.put, List.getElem_toArray, List.getElem_cons_zero, List.getElem_cons_succ, List.setIfInBounds_toArray, List.set_cons_zero, List.set_cons_succ])
    refine wpAnyH_take (i := 43) (v := ?_) rfl (by kernel_rfl) (by kernel_rfl) (by kernel_rfl) (fun _ _ _ h => h) (Or.inl ⟨by rfl, ?_⟩) (by assumption) ?_
    rotate_left
    · (intro w hSw; (try dsimp only at hSw); go_simp; try with_reducible rfl)
    (try simp only [Act.put, List.getElem_toArray, List.getElem_cons_zero, List.getElem_cons_succ, List.setIfInBounds_toArray, List.set_cons_zero, List.set_cons_succ])
    refine wpAnyH_take (i := 44) (v := ?_) rfl (by kernel_rfl) (by kernel_rfl) (by kernel_rfl) (fun _ _ _ h => h) (Or.inl ⟨by rfl, ?_⟩) (by assumption) ?_
    rotate_left
    · (intro w hSw; (try dsimp only at hSw); go_simp; try with_reducible rfl)
    (try simp only [Act.put, List.getElem_toArray, List.getElem_cons_zero, List.getElem_cons_succ, List.setIfInBounds_toArray, List.set_cons_zero, List.set_cons_succ])
    refine wpAnyH_take (i := 45) (v := ?_) rfl (by kernel_rfl) (by kernel_rfl) (by kernel_rfl) (fun _ _ _ h => h) (Or.inl ⟨by rfl, ?_⟩) (by assumption) ?_
    rotate_left
    · (intro w hSw; (try dsimp only at hSw); go_simp; try with_reducible rfl)
    (try simp only [Act.put, List.getElem_toArray, List.getElem_cons_zero, List.getElem_cons_succ, List.setIfInBounds_toArray, List.set_cons_zero, List.set_cons_succ])
    refine wpAnyH_done (by kernel_rfl) ?_ _
    go_wp2_with fail
    go_ret
    exact ⟨rfl, FW.out⟩
  rcases Int.lt_or_le 5000 k with hk2 | hk2
  · have hout : k < -5000 ∨ 5000 < k := .inr hk2
    have hd2 : ¬ (k ≤ 5000) := by omega
    refine wpAnyH_take (i := 30) (v := ?_) rfl (by kernel_rfl) (by kernel_rfl) (by kernel_rfl) (fun _ _ _ h => h) (Or.inl ⟨by rfl, ?_⟩) (by assumption) ?_
    rotate_left
    · (intro w hSw; (try dsimp only at hSw); go_simp; try with_reducible rfl)
    (try simp only [Act.put, List.getElem_toArray, List.getElem_cons_zero, List.getElem_cons_succ, List.setIfInBounds_toArray, List.set_cons_zero, List.set_cons_succ])
    refine wpAnyH_take (i := 31) (v := ?_) rfl (by kernel_rfl) (by kernel_rfl) (by kernel_rfl) (fun _ _ _ h => h) (Or.inl ⟨by rfl, ?_⟩) (by assumption) ?_
    rotate_left
    · (intro w hSw; (try dsimp only at hSw); go_simp; try with_reducible rfl)
    (try simp only [Act.put, List.getElem_toArray, List.getElem_cons_zero, List.getElem_cons_succ, List.setIfInBounds_toArray, List.set_cons_zero, List.set_cons_succ])
    refine wpAnyH_take (i := 32) (v := ?_) rfl (by kernel_rfl) (by kernel_rfl) (by kernel_rfl) (fun _ _ _ h => h) (Or.inl ⟨by rfl, ?_⟩) (by assumption) ?_
    rotate_left
    · (intro w hSw; (try dsimp only at hSw); go_simp; try with_reducible rfl)
    (try simp only [Act.put, List.getElem_toArray, List.getElem_cons_zero, List.getElem_cons_succ, List.setIfInBounds_toArray, List.set_cons_zero, List.set_cons_succ])
    refine wpAnyH_take (i := 33) (v := ?_) rfl (by kernel_rfl) (by kernel_rfl) (by kernel_rfl) (fun _ _ _ h => h) (Or.inl ⟨by rfl, ?_⟩) (by assumption) ?_
    rotate_left
    · (intro w hSw; (try dsimp only at hSw); go_simp; try with_reducible rfl)
    (try simp only [Act.put, List.getElem_toArray, List.getElem_cons_zero, List.getElem_cons_succ, List.setIfInBounds_toArray, List.set_cons_zero, List.set_cons_succ])
    refine wpAnyH_take (i := 34) (v := ?_) rfl (by kernel_rfl) (by kernel_rfl) (by kernel_rfl) (fun _ _ _ h => h) (Or.inl ⟨by rfl, ?_⟩) (by assumption) ?_
    rotate_left
    · (intro w hSw; (try dsimp only at hSw); go_simp; try with_reducible rfl)
    (try simp only [Act.put, List.getElem_toArray, List.getElem_cons_zero, List.getElem_cons_succ, List.setIfInBounds_toArray, List.set_cons_zero, List.set_cons_succ])
    refine wpAnyH_take (i := 35) (v := ?_) rfl (by kernel_rfl) (by kernel_rfl) (by kernel_rfl) (fun _ _ _ h => h) (Or.inl ⟨by rfl, ?_⟩) (by assumption) ?_
    rotate_left
    · (intro w hSw; (try dsimp only at hSw); go_simp; try with_reducible rfl)
    (try simp only [Act.put, List.getElem_toArray, List.getElem_cons_zero, List.getElem_cons_succ, List.setIfInBounds_toArray, List.set_cons_zero, List.set_cons_succ])
    refine wpAnyH_take (i := 36) (v := ?_) rfl (by kernel_rfl) (by kernel_rfl) (by kernel_rfl) (fun _ _ _ h => h) (Or.inl ⟨by rfl, ?_⟩) (by assumption) ?_
    rotate_left
    · (intro w hSw; (try dsimp only at hSw); go_simp; try with_reducible rfl)
    (try simp only [Act.put, List.getElem_toArray, List.getElem_cons_zero, List.getElem_cons_succ, List.setIfInBounds_toArray, List.set_cons_zero, List.set_cons_succ])
    refine wpAnyH_take (i := 37) (v := ?_) rfl (by kernel_rfl) (by kernel_rfl) (by kernel_rfl) (fun _ _ _ h => h) (Or.inl ⟨by rfl, ?_⟩) (by assumption) ?_
    rotate_left
    · (intro w hSw; (try dsimp only at hSw); go_simp; try with_reducible rfl)
    (try simp only [Act.put, List.getElem_toArray, List.getElem_cons_zero, List.getElem_cons_succ, List.setIfInBounds_toArray, List.set_cons_zero, List.set_cons_succ])
    refine wpAnyH_take (i := 38) (v := ?_) rfl (by kernel_rfl) (by kernel_rfl) (by kernel_rfl) (fun _ _ _ h => h) (Or.inl ⟨by rfl, ?_⟩) (by assumption) ?_
    rotate_left
    · (intro w hSw; (try dsimp only at hSw); go_simp; try with_reducible rfl)
    (try simp only [Act.put, List.getElem_toArray, List.getElem_cons_zero, List.getElem_cons_succ, List.setIfInBounds_toArray, List.set_cons_zero, List.set_cons_succ])
    refine wpAnyH_take (i := 40) (v := ?_) rfl (by kernel_rfl) (by kernel_rfl) (by kernel_rfl) (fun _ _ _ h => h) (Or.inl ⟨by rfl, ?_⟩) (by assumption) ?_
    rotate_left
    · (intro w hSw; (try dsimp only at hSw); go_simp; try with_reducible rfl)
    (try simp only [Act.put, List.getElem_toArray, List.getElem_cons_zero, List.getElem_cons_succ, List.setIfInBounds_toArray, List.set_cons_zero, List.set_cons_succ])
    refine wpAnyH_ready (rs := [39]) (by kernel_rfl) (by simp) ?_
    refine AllReadyH.cons rfl (fun K hK => ?_) AllReadyH.nil
    go_simp
    refine (scaleR_out _ x y k _ RV1.out k0 k1 hout).mono ?_
    rintro e wk8 ⟨rfl, fy⟩
    have S7 := hide (S7.out.fr fy)
    have S10 := hide (S10.out.fr fy)
    have S11 := hide (S11.out.fr fy)
    have S14 := hide (S14.out.fr fy)
    have S16 := hide (S16.out.fr fy)
    have S19 := hide (S19.out.fr fy)
    have S20 := hide (S20.out.fr fy)
    have RV1 := hide (RV1.out.fr fy)
    have IP := hide (IP.out.fr fy)
    have RR := hide (RR.out.fr fy)
    have IQ := hide (IQ.out.fr fy)
    have RW := hide (RW.out.fr fy)
    have RO := hide (RO.out.fr fy)
    have RY := hide (RY.out.fr fy)
    have HT := hide (HT.out.fr fy)
    have FW := hide (FW.out.trans fy)
    clear fy
    (try go_wp2_with fail)
    refine hK.out _ _ ?_ (fun hHeld => ?_)
    · (try dsimp only)
      exact ⟨S7.out.1, S7.out.2.1, S11.out.1, S11.out.2.1, S14.out.1, S14.out.2.1, S16.out.1, S16.out.2.1, S19.out.1, S19.out.2.1, S20.out.1, S20.out.2.1, S10.out.1⟩
    clear hK K
    (try simp only [Act.put, List.getElem_toArray, List.getElem_cons_zero, List.getElem_cons_succ, List.setIfInBounds_toArray, List.set_cons_zero, List.set_cons_succ])
    refine wpAnyH_ready (rs := [41]) (by kernel_rfl) (by simp) ?_
    refine AllReadyH.cons rfl (fun K hK => ?_) AllReadyH.nil
    go_simp
    refine (cmpR_any _ _ 0 1 0 1 _ HT.out (rat_zero _ (by omega) rfl) (rat_zero _ (by omega) rfl) (by rw [nlen_zero]; omega) (Nat.le_trans n1_ (by omega)) (by rw [nlen_zero]; omega) (Nat.le_trans n1_ (by omega)) 0 (by decide)).mono ?_
    rintro e wk9 ⟨rfl, fy⟩
    have S7 := hide (S7.out.fr fy)
    have S10 := hide (S10.out.fr fy)
    have S11 := hide (S11.out.fr fy)
    have S14 := hide (S14.out.fr fy)
    have S16 := hide (S16.out.fr fy)
    have S19 := hide (S19.out.fr fy)
    have S20 := hide (S20.out.fr fy)
    have RV1 := hide (RV1.out.fr fy)
    have IP := hide (IP.out.fr fy)
    have RR := hide (RR.out.fr fy)
    have IQ := hide (IQ.out.fr fy)
    have RW := hide (RW.out.fr fy)
    have RO := hide (RO.out.fr fy)
    have RY := hide (RY.out.fr fy)
    have HT := hide (HT.out.fr fy)
    have FW := hide (FW.out.trans fy)
    clear fy
    (try go_wp2_with fail)
    refine hK.out _ _ ?_ (fun hHeld => ?_)
    · (try dsimp only)
      exact ⟨S7.out.1, S7.out.2.1, S11.out.1, S11.out.2.1, S14.out.1, S14.out.2.1, S16.out.1, S16.out.2.1, S19.out.1, S19.out.2.1, S20.out.1, S20.out.2.1, S10.out.1⟩
    clear hK K
    (try simp only [Act.put, List.getElem_toArray, List.getElem_cons_zero, List.getElem_cons_succ, List.setIfInBounds_toArray, List.set_cons_zero, List.set_cons_succ])
    refine wpAnyH_take (i := 42) (v := ?_) rfl (by kernel_rfl) (by kernel_rfl) (by kernel_rfl) (fun _ _ _ h => h) (Or.inl ⟨by rfl, ?_⟩) (by assumption) ?_
    rotate_left
    · (intro w hSw; (try dsimp only at hSw); go_simp; try with_reducible rfl)
    (try simp only [Act.put, List.getElem_toArray, List.getElem_cons_zero, List.getElem_cons_succ, List.setIfInBounds_toArray, List.set_cons_zero, List.set_cons_succ])
    refine wpAnyH_take (i := 43) (v := ?_) rfl (by kernel_rfl) (by kernel_rfl) (by kernel_rfl) (fun _ _ _ h => h) (Or.inl ⟨by rfl, ?_⟩) (by assumption) ?_
    rotate_left
    · (intro w hSw; (try dsimp only at hSw); go_simp; try with_reducible rfl)
    (try simp only [Act.put, List.getElem_toArray, List.getElem_cons_zero, List.getElem_cons_succ, List.setIfInBounds_toArray, List.set_cons_zero, List.set_cons_succ])
    refine wpAnyH_take (i := 44) (v := ?_) rfl (by kernel_rfl) (by kernel_rfl) (by kernel_rfl) (fun _ _ _ h => h) (Or.inl ⟨by rfl, ?_⟩) (by assumption) ?_
    rotate_left
    · (intro w hSw; (try dsimp only at hSw); go_simp; try with_reducible rfl)
    (try simp only [Act.put, List.getElem_toArray, List.getElem_cons_zero, List.getElem_cons_succ, List.setIfInBounds_toArray, List.set_cons_zero, List.set_cons_succ])
    refine wpAnyH_take (i := 45) (v := ?_) rfl (by kernel_rfl) (by kernel_rfl) (by kernel_rfl) (fun _ _ _ h => h) (Or.inl ⟨by rfl, ?_⟩) (by assumption) ?_
    rotate_left
    · (intro w hSw; (try dsimp only at hSw); go_simp; try with_reducible rfl)
    (try simp only [Act.put, List.getElem_toArray, List.getElem_cons_zero, List.getElem_cons_succ, List.setIfInBounds_toArray, List.set_cons_zero, List.set_cons_succ])
    refine wpAnyH_done (by kernel_rfl) ?_ _
    go_wp2_with fail
    go_ret
    exact ⟨rfl, FW.out⟩
  · skip
    refine wpAnyH_take (i := 30) (v := ?_) rfl (by kernel_rfl) (by kernel_rfl) (by kernel_rfl) (fun _ _ _ h => h) (Or.inl ⟨by rfl, ?_⟩) (by assumption) ?_
    rotate_left
    · (intro w hSw; (try dsimp only at hSw); go_simp; try with_reducible rfl)
    (try simp only [Act.put, List.getElem_toArray, List.getElem_cons_zero, List.getElem_cons_succ, List.setIfInBounds_toArray, List.set_cons_zero, List.set_cons_succ])
    refine wpAnyH_take (i := 31) (v := ?_) rfl (by kernel_rfl) (by kernel_rfl) (by kernel_rfl) (fun _ _ _ h => h) (Or.inl ⟨by rfl, ?_⟩) (by assumption) ?_
    rotate_left
    · (intro w hSw; (try dsimp only at hSw); go_simp; try with_reducible rfl)
    (try simp only [Act.put, List.getElem_toArray, List.getElem_cons_zero, List.getElem_cons_succ, List.setIfInBounds_toArray, List.set_cons_zero, List.set_cons_succ])
    refine wpAnyH_take (i := 32) (v := ?_) rfl (by kernel_rfl) (by kernel_rfl) (by kernel_rfl) (fun _ _ _ h => h) (Or.inl ⟨by rfl, ?_⟩) (by assumption) ?_
    rotate_left
    · (intro w hSw; (try dsimp only at hSw); go_simp; try with_reducible rfl)
    (try simp only [Act.put, List.getElem_toArray, List.getElem_cons_zero, List.getElem_cons_succ, List.setIfInBounds_toArray, List.set_cons_zero, List.set_cons_succ])
    refine wpAnyH_take (i := 33) (v := ?_) rfl (by kernel_rfl) (by kernel_rfl) (by kernel_rfl) (fun _ _ _ h => h) (Or.inl ⟨by rfl, ?_⟩) (by assumption) ?_
    rotate_left
    · (intro w hSw; (try dsimp only at hSw); go_simp; try with_reducible rfl)
    (try simp only [Act.put, List.getElem_toArray, List.getElem_cons_zero, List.getElem_cons_succ, List.setIfInBounds_toArray, List.set_cons_zero, List.set_cons_succ])
    refine wpAnyH_take (i := 34) (v := ?_) rfl (by kernel_rfl) (by kernel_rfl) (by kernel_rfl) (fun _ _ _ h => h) (Or.inl ⟨by rfl, ?_⟩) (by assumption) ?_
    rotate_left
    · (intro w hSw; (try dsimp only at hSw); go_simp; try with_reducible rfl)
    (try simp only [Act.put, List.getElem_toArray, List.getElem_cons_zero, List.getElem_cons_succ, List.setIfInBounds_toArray, List.set_cons_zero, List.set_cons_succ])
    refine wpAnyH_take (i := 35) (v := ?_) rfl (by kernel_rfl) (by kernel_rfl) (by kernel_rfl) (fun _ _ _ h => h) (Or.inl ⟨by rfl, ?_⟩) (by assumption) ?_
    rotate_left
    · (intro w hSw; (try dsimp only at hSw); go_simp; try with_reducible rfl)
    (try simp only [Act.put, List.getElem_toArray, List.getElem_cons_zero, List.getElem_cons_succ, List.setIfInBounds_toArray, List.set_cons_zero, List.set_cons_succ])
    refine wpAnyH_take (i := 36) (v := ?_) rfl (by kernel_rfl) (by kernel_rfl) (by kernel_rfl) (fun _ _ _ h => h) (Or.inl ⟨by rfl, ?_⟩) (by assumption) ?_
    rotate_left
    · (intro w hSw; (try dsimp only at hSw); go_simp; try with_reducible rfl)
    (try simp only [Act.put, List.getElem_toArray, List.getElem_cons_zero, List.getElem_cons_succ, List.setIfInBounds_toArray, List.set_cons_zero, List.set_cons_succ])
    refine wpAnyH_take (i := 37) (v := undef) rfl (by kernel_rfl) (by kernel_rfl) (by kernel_rfl) (fun _ _ _ h => h) (Or.inr ⟨by rfl, rfl⟩) (by assumption) ?_
    (try simp only [Act.put, List.getElem_toArray, List.getElem_cons_zero, List.getElem_cons_succ, List.setIfInBounds_toArray, List.set_cons_zero, List.set_cons_succ])
    refine wpAnyH_take (i := 38) (v := undef) rfl (by kernel_rfl) (by kernel_rfl) (by kernel_rfl) (fun _ _ _ h => h) (Or.inr ⟨by rfl, rfl⟩) (by assumption) ?_
    (try simp only [Act.put, List.getElem_toArray, List.getElem_cons_zero, List.getElem_cons_succ, List.setIfInBounds_toArray, List.set_cons_zero, List.set_cons_succ])
    refine wpAnyH_take (i := 39) (v := undef) rfl (by kernel_rfl) (by kernel_rfl) (by kernel_rfl) (fun _ _ _ h => h) (Or.inr ⟨by rfl, rfl⟩) (by assumption) ?_
    (try simp only [Act.put, List.getElem_toArray, List.getElem_cons_zero, List.getElem_cons_succ, List.setIfInBounds_toArray, List.set_cons_zero, List.set_cons_succ])
    refine wpAnyH_take (i := 40) (v := undef) rfl (by kernel_rfl) (by kernel_rfl) (by kernel_rfl) (fun _ _ _ h => h) (Or.inr ⟨by rfl, rfl⟩) (by assumption) ?_
    (try simp only [Act.put, List.getElem_toArray, List.getElem_cons_zero, List.getElem_cons_succ, List.setIfInBounds_toArray, List.set_cons_zero, List.set_cons_succ])
    refine wpAnyH_take (i := 41) (v := undef) rfl (by kernel_rfl) (by kernel_rfl) (by kernel_rfl) (fun _ _ _ h => h) (Or.inr ⟨by rfl, rfl⟩) (by assumption) ?_
    (try simp only [Act.put, List.getElem_toArray, List.getElem_cons_zero, List.getElem_cons_succ, List.setIfInBounds_toArray, List.set_cons_zero, List.set_cons_succ])
    refine wpAnyH_take (i := 42) (v := undef) rfl (by kernel_rfl) (by kernel_rfl) (by kernel_rfl) (fun _ _ _ h => h) (Or.inr ⟨by rfl, rfl⟩) (by assumption) ?_
    (try simp only [Act.put, List.getElem_toArray, List.getElem_cons_zero, List.getElem_cons_succ, List.setIfInBounds_toArray, List.set_cons_zero, List.set_cons_succ])
    refine wpAnyH_take (i := 43) (v := ?_) rfl (by kernel_rfl) (by kernel_rfl) (by kernel_rfl) (fun _ _ _ h => h) (Or.inl ⟨by rfl, ?_⟩) (by assumption) ?_
    rotate_left
    · (intro w hSw; (try dsimp only at hSw); go_simp; try with_reducible rfl)
    (try simp only [Act.put, List.getElem_toArray, List.getElem_cons_zero, List.getElem_cons_succ, List.setIfInBounds_toArray, List.set_cons_zero, List.set_cons_succ])
    refine wpAnyH_take (i := 44) (v := ?_) rfl (by kernel_rfl) (by kernel_rfl) (by kernel_rfl) (fun _ _ _ h => h) (Or.inl ⟨by rfl, ?_⟩) (by assumption) ?_
    rotate_left
    · (intro w hSw; (try dsimp only at hSw); go_simp; try with_reducible rfl)
    (try simp only [Act.put, List.getElem_toArray, List.getElem_cons_zero, List.getElem_cons_succ, List.setIfInBounds_toArray, List.set_cons_zero, List.set_cons_succ])
    refine wpAnyH_take (i := 45) (v := ?_) rfl (by kernel_rfl) (by kernel_rfl) (by kernel_rfl) (fun _ _ _ h => h) (Or.inl ⟨by rfl, ?_⟩) (by assumption) ?_
    rotate_left
    · (intro w hSw; (try dsimp only at hSw); go_simp; try with_reducible rfl)
    (try simp only [Act.put, List.getElem_toArray, List.getElem_cons_zero, List.getElem_cons_succ, List.setIfInBounds_toArray, List.set_cons_zero, List.set_cons_succ])
    refine wpAnyH_done (by kernel_rfl) ?_ _
    go_wp2_with fail
    go_ret
    exact ⟨rfl, FW.out⟩
end Go.Proofs.YtimglhbllcjpbaaDoor
