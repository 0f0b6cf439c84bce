/- The law RatioReckons. -/
import Derived.Test.YtimglhbllcjpbaaDoorRatioM
namespace Go.Proofs.YtimglhbllcjpbaaDoor
set_option linter.unusedVariables false
set_option linter.unusedSimpArgs false
open Go.RowKit

attribute [local go_sem] World.cell?_alloc_some
theorem nl_away {p q n : Nat} (h : nlen 4294967296 p ≤ n) (k : nlen 4294967296 q ≤ n) : nlen 4294967296 (awayN p q) ≤ n := by
  unfold awayN
  rcases Nat.le_total p q with c | c
  · exact nl_le k (by omega)
  · exact nl_le h (by omega)
theorem cmpZ_beq (a b : Nat) : (cmpZ a b == cmpZ a b) = true := by simp
theorem awayN_comm (a b : Nat) : awayN a b = awayN b a := by unfold awayN; omega
theorem eq_flip8 (x y z D : Nat) : awayN (z * y) (x * D) * (y * D) = awayN (x * D) (z * y) * (D * y) := by rw [awayN_comm (z * y), Nat.mul_comm y D]

set_option maxHeartbeats 4000000 in
set_option maxRecDepth 4000 in
theorem law_RatioReckons (a0 : Option Addr) (len0 cap0 : Nat) (z0 : List Int) (a1 : Option Addr) (len1 cap1 : Nat) (z1 : List Int) (a2 : Option Addr) (len2 cap2 : Nat) (z2 : List Int) (w : World) (h0 : IsRow .u32 w a0 len0 cap0 z0) (h1 : IsRow .u32 w a1 len1 cap1 z1) (h2 : IsRow .u32 w a2 len2 cap2 z2) (hT : Tab w) :
    Calls Tryd.prog 4 #[.slice a0 len0 cap0, .slice a1 len1 cap1, .slice a2 len2 cap2] w fun e w' => e = .returned (.bool true) ∧ Fr w w' := by
  obtain ⟨x, hx⟩ := arg_row h0
  obtain ⟨y, hy⟩ := arg_row h1
  obtain ⟨z, hz⟩ := arg_row h2
  obtain ⟨ax, kx, cx, bx, lx, csx, kcx, cmx, anx, fewx⟩ := arg_few hx
  have FEWx := hide fewx
  have Cx := hide csx
  have HX := hide hx
  have HY := hide hy
  have HZ := hide hz
  have HT := hide hT
  have nx := hx.nl
  have ny := hy.nl
  have nz := hz.nl
  have FW := hide (Fr.refl w)
  obtain ⟨B, hB⟩ : ∃ B, decide (y ≠ 0) = B := ⟨_, rfl⟩
  have HB := hide hB
  clear h0 h1 h2 hx hy hz hT hB fewx csx lx cmx
  go_enter Tryd.func4, Tryd.ntmps4
  go_wp2_with fail
  refine (ofL_any _ _ x y _ (Tab.fr HT.out FW.out) HX.out HY.out).mono ?_
  rintro e w1 ⟨u11, u12, u13, u14, u15, u16, t11, t12, t13, t14, t15, t16, rfl, rv, rf, fy⟩
  rw [HB.out]
  have RV1 := hide rv
  have RF1 := hide rf
  have HX := hide (HX.out.fr fy)
  have HY := hide (HY.out.fr fy)
  have HZ := hide (HZ.out.fr fy)
  have FW := hide (FW.out.trans fy)
  clear rv rf fy
  go_wp2_with fail
  obtain ⟨W1, hW1⟩ : ∃ W, W = ((w1.alloc (Obj.cells #[Value.slice u11 u12 u13, Value.slice u14 u15 u16] 26)).alloc (Obj.cells #[Value.slice t11 t12 t13, Value.slice t14 t15 t16] 29)) := ⟨_, rfl⟩
  have fy : Fr w1 W1 := by rw [hW1]; exact ((Fr.alloc w1 (Obj.cells #[Value.slice u11 u12 u13, Value.slice u14 u15 u16] 26)).trans (Fr.alloc _ (Obj.cells #[Value.slice t11 t12 t13, Value.slice t14 t15 t16] 29)))
  have s7 : Slot2 w1 W1 (w1.heap.size) (.slice u11 u12 u13) (.slice u14 u15 u16) := by
    rw [hW1]; simpa using (Slot2.new (Fr.refl w1) u11 u12 u13 u14 u15 u16 26).fr (Fr.alloc _ _)
  have s8 : Slot2 w1 W1 (w1.heap.size + 1) (.slice t11 t12 t13) (.slice t14 t15 t16) := by
    rw [hW1]; simpa using Slot2.new (Fr.alloc w1 (Obj.cells #[Value.slice u11 u12 u13, Value.slice u14 u15 u16] 26)) t11 t12 t13 t14 t15 t16 29
  rw [← hW1]
  have hs_ : W1.heap.size = w1.heap.size + 1 + 1 := by rw [hW1]; simp
  clear hW1
  have S7 := hide s7
  have S8 := hide s8
  have RV1 := hide (fun h => (RV1.out h).fr fy)
  have HX := hide (HX.out.fr fy)
  have HY := hide (HY.out.fr fy)
  have HZ := hide (HZ.out.fr fy)
  have RF1 := hide (RF1.out.fr fy)
  have FW := hide (FW.out.trans fy)
  clear s7 s8 fy
  have OW : Hid ((W1.alloc (Obj.cells #[Value.int IntKind.u32 1] 41)).ownsRow W1.heap.size 41 1 (.slice (some ⟨w1.heap.size + 1 + 1, 0, none⟩) 1 1) 1 (rowOf .u32 1 (fun _ => 1))) := by
    refine hide ?_
    rw [← hs_]
    exact one_own W1 1 41
  refine (FEWx.out _).mono ?_
  rintro e w' ⟨rfl, rfl⟩
  have CS_ := Cx.out.fr (FW.out.trans (Fr.alloc W1 (Obj.cells #[Value.int IntKind.u32 1] 41)))
  go_wp2_with (at_builtin; refine wpList_app (w0 := W1) rfl _ _ rfl _ 1 (fun _ => 1) rfl OW.out ax kx cx (dg 4294967296 x) rfl anx kcx CS_ (by omega) (Fr.alloc _ _) ?_)
  intro v_ v1 hown fy
  obtain ⟨D1, hD, hD1⟩ := arg_own hown (fun j => by (try dsimp only); split; omega; exact dg_lt b32 x _) (by omega) (by simp)
  have nD1 := hD.nl
  have HD1 := hide hD
  have HX := hide (HX.out.fr fy)
  have HY := hide (HY.out.fr fy)
  have HZ := hide (HZ.out.fr fy)
  have S7 := hide (S7.out.fr fy)
  have S8 := hide (S8.out.fr fy)
  have RF1 := hide (RF1.out.fr fy)
  have FW := hide (FW.out.trans fy)
  have RV1 := hide (fun h => (RV1.out h).fr fy)
  clear hown fy OW hD CS_ hs_
  go_wp2_with fail
  refine (ofL_any _ _ z D1 _ (Tab.fr HT.out FW.out) HZ.out HD1.out).mono ?_
  rintro e w2 ⟨u21, u22, u23, u24, u25, u26, t21, t22, t23, t24, t25, t26, rfl, rv, rf, fy⟩
  rw [decide_eq_true hD1]
  have RV2 := hide rv
  have RF2 := hide rf
  have S7 := hide (S7.out.fr fy)
  have S8 := hide (S8.out.fr fy)
  have RF1 := hide (RF1.out.fr fy)
  have FW := hide (FW.out.trans fy)
  have RV1 := hide (fun h => (RV1.out h).fr fy)
  clear rv rf fy
  have RV2 := hide (RV2.out hD1)
  have l2 := cell_lt S8.out.1
  simp only [] at l2
  clear HX HY HZ HD1 FEWx Cx
  cases B
  · go_wp2_with fail
    obtain ⟨W2, hW2⟩ : ∃ W, W = ((w2.alloc (Obj.cells #[Value.slice u21 u22 u23, Value.slice u24 u25 u26] 26)).alloc (Obj.cells #[Value.slice t21 t22 t23, Value.slice t24 t25 t26] 29)) := ⟨_, rfl⟩
    have fy : Fr w2 W2 := by rw [hW2]; exact ((Fr.alloc w2 (Obj.cells #[Value.slice u21 u22 u23, Value.slice u24 u25 u26] 26)).trans (Fr.alloc _ (Obj.cells #[Value.slice t21 t22 t23, Value.slice t24 t25 t26] 29)))
    rw [← hW2]
    clear hW2
    have FW := hide (FW.out.trans fy)
    refine (wakes_any _ (Tab.fr HT.out FW.out)).mono ?_
    rintro e w4 ⟨rfl, f4⟩
    have FW := hide (FW.out.trans f4)
    clear fy f4
    go_wp2_with fail
    go_ret
    exact ⟨rfl, FW.out⟩
  have hy0 : y ≠ 0 := of_decide_eq_true HB.out
  have RV1 := hide (RV1.out hy0)
  have nb1 : nlen 4294967296 (x * D1) ≤ 10 := nlen_mul b32 nx nD1
  have nb2 : nlen 4294967296 (z * y) ≤ 10 := nlen_mul b32 nz ny
  have nb3 : nlen 4294967296 ((x * D1) + (z * y)) ≤ 11 := nl_sum (Nat.le_trans nb1 (by omega)) (Nat.le_trans nb2 (by omega))
  have nb4 : nlen 4294967296 (y * D1) ≤ 10 := nlen_mul b32 ny nD1
  have nb5 : nlen 4294967296 (x * z) ≤ 10 := nlen_mul b32 nx nz
  have nb6 : nlen 4294967296 (y * D1) ≤ 10 := nlen_mul b32 ny nD1
  have nb7 : nlen 4294967296 (x * D1) ≤ 10 := nlen_mul b32 nx nD1
  have nb8 : nlen 4294967296 (z * y) ≤ 10 := nlen_mul b32 nz ny
  have nb9 : nlen 4294967296 (awayN (x * D1) (z * y)) ≤ 10 := nl_away (Nat.le_trans nb7 (by omega)) (Nat.le_trans nb8 (by omega))
  have nb10 : nlen 4294967296 (y * D1) ≤ 10 := nlen_mul b32 ny nD1
  have nb11 : nlen 4294967296 (z * y) ≤ 10 := nlen_mul b32 nz ny
  have nb12 : nlen 4294967296 (x * D1) ≤ 10 := nlen_mul b32 nx nD1
  have nb13 : nlen 4294967296 (awayN (z * y) (x * D1)) ≤ 10 := nl_away (Nat.le_trans nb11 (by omega)) (Nat.le_trans nb12 (by omega))
  have nb14 : nlen 4294967296 (D1 * y) ≤ 10 := nlen_mul b32 nD1 ny
  have mx : nlen 10 x ≤ 100 := by have := nl10 (lt_of_nlen b32 nx); omega
  have my : nlen 10 y ≤ 100 := by have := nl10 (lt_of_nlen b32 ny); omega
  have mz : nlen 10 z ≤ 100 := by have := nl10 (lt_of_nlen b32 nz); omega
  have mD : nlen 10 D1 ≤ 100 := by have := nl10 (lt_of_nlen b32 nD1); omega
  have q7 := S7.out.1
  have q7' := S7.out.2.1
  have q8 := S8.out.1
  have q8' := S8.out.2.1
  go_wp2_with fail
  obtain ⟨W2, hW2⟩ : ∃ W, W = ((w2.alloc (Obj.cells #[Value.slice u21 u22 u23, Value.slice u24 u25 u26] 26)).alloc (Obj.cells #[Value.slice t21 t22 t23, Value.slice t24 t25 t26] 29)) := ⟨_, rfl⟩
  have fy : Fr w2 W2 := by rw [hW2]; exact ((Fr.alloc w2 (Obj.cells #[Value.slice u21 u22 u23, Value.slice u24 u25 u26] 26)).trans (Fr.alloc _ (Obj.cells #[Value.slice t21 t22 t23, Value.slice t24 t25 t26] 29)))
  have s10 : Slot2 w2 W2 (w2.heap.size) (.slice u21 u22 u23) (.slice u24 u25 u26) := by
    rw [hW2]; simpa using (Slot2.new (Fr.refl w2) u21 u22 u23 u24 u25 u26 26).fr (Fr.alloc _ _)
  have s11 : Slot2 w2 W2 (w2.heap.size + 1) (.slice t21 t22 t23) (.slice t24 t25 t26) := by
    rw [hW2]; simpa using Slot2.new (Fr.alloc w2 (Obj.cells #[Value.slice u21 u22 u23, Value.slice u24 u25 u26] 26)) t21 t22 t23 t24 t25 t26 29
  rw [← hW2]
  clear hW2
  have S10 := hide s10
  have S11 := hide s11
  have S7 := hide (S7.out.fr fy)
  have S8 := hide (S8.out.fr fy)
  have RV1 := hide (RV1.out.fr fy)
  have RV2 := hide (RV2.out.fr fy)
  have RF1 := hide (RF1.out.fr fy)
  have RF2 := hide (RF2.out.fr fy)
  have FW := hide (FW.out.trans fy)
  have HT := hide (Tab.fr HT.out FW.out)
  clear s10 s11 fy q7 q7' q8 q8'
  have S7 := hide (S7.out.fr (Fr.drew _))
  have S8 := hide (S8.out.fr (Fr.drew _))
  have S10 := hide (S10.out.fr (Fr.drew _))
  have S11 := hide (S11.out.fr (Fr.drew _))
  have RV1 := hide (RV1.out.fr (Fr.drew _))
  have RV2 := hide (RV2.out.fr (Fr.drew _))
  have RF1 := hide (RF1.out.fr (Fr.drew _))
  have RF2 := hide (RF2.out.fr (Fr.drew _))
  have HT := hide (HT.out.fr (Fr.drew _))
  have FW := hide (FW.out.trans (Fr.drew _))
  have q7 := S7.out.1
  have q7' := S7.out.2.1
  have q8 := S8.out.1
  have q8' := S8.out.2.1
  have q10 := S10.out.1
  have q10' := S10.out.2.1
  have q11 := S11.out.1
  have q11' := S11.out.2.1
  obtain ⟨Z, hZ⟩ : ∃ Z, cmpZ (x * D1) (z * y) = Z := ⟨_, rfl⟩
  have EZ := hide hZ
  clear hZ
  go_wp2_with fail
  refine wp_region_held_drew (S := (fun w' => w'.cell? ⟨w1.heap.size, 0, none⟩ = some (.slice u11 u12 u13) ∧ w'.cell? ⟨w1.heap.size, 1, none⟩ = some (.slice u14 u15 u16) ∧ w'.cell? ⟨w1.heap.size + 1, 0, none⟩ = some (.slice t11 t12 t13) ∧ w'.cell? ⟨w1.heap.size + 1, 1, none⟩ = some (.slice t14 t15 t16) ∧ w'.cell? ⟨w2.heap.size, 0, none⟩ = some (.slice u21 u22 u23) ∧ w'.cell? ⟨w2.heap.size, 1, none⟩ = some (.slice u24 u25 u26) ∧ w'.cell? ⟨w2.heap.size + 1, 0, none⟩ = some (.slice t21 t22 t23) ∧ w'.cell? ⟨w2.heap.size + 1, 1, none⟩ = some (.slice t24 t25 t26))) (by kernel_rfl) ?_ (fun hHeld => ?_)
  · exact ⟨S7.out.1, S7.out.2.1, S8.out.1, S8.out.2.1, S10.out.1, S10.out.2.1, S11.out.1, S11.out.2.1⟩
  obtain ⟨wd, hwd⟩ : ∃ wd, wd = W2.drew := ⟨_, rfl⟩
  rw [← hwd] at hHeld S7 S8 S10 S11 RV1 RV2 RF1 RF2 HT FW ⊢
  clear hwd
  refine wpAnyH_ready (rs := [0]) (by kernel_rfl) (by simp) ?_
  refine AllReadyH.cons rfl (fun K hK => ?_) AllReadyH.nil
  go_simp
  refine (wakes_any _ HT.out).mono ?_
  rintro e wk ⟨rfl, fy⟩
  have S7 := hide (S7.out.fr fy)
  have S8 := hide (S8.out.fr fy)
  have S10 := hide (S10.out.fr fy)
  have S11 := hide (S11.out.fr fy)
  have RV1 := hide (RV1.out.fr fy)
  have RV2 := hide (RV2.out.fr fy)
  have RF1 := hide (RF1.out.fr fy)
  have RF2 := hide (RF2.out.fr fy)
  have HT := hide (HT.out.fr fy)
  have FW := hide (FW.out.trans fy)
  clear fy
  (try go_wp2_with fail)
  refine hK.out _ _ ?_ (fun hHeld => ?_)
  · (try dsimp only)
    exact ⟨S7.out.1, S7.out.2.1, S8.out.1, S8.out.2.1, S10.out.1, S10.out.2.1, S11.out.1, S11.out.2.1⟩
  clear hK K
  (try simp only [Act.put, List.getElem_toArray, List.getElem_cons_zero, List.getElem_cons_succ, List.setIfInBounds_toArray, List.set_cons_zero, List.set_cons_succ])
  refine wpAnyH_take (i := 1) (v := ?_) rfl (by kernel_rfl) (by kernel_rfl) (by kernel_rfl) (fun _ _ _ h => h) (Or.inl ⟨by rfl, ?_⟩) (by assumption) ?_
  rotate_left
  · (intro w hSw; (try dsimp only at hSw); go_simp; try with_reducible rfl)
  (try simp only [Act.put, List.getElem_toArray, List.getElem_cons_zero, List.getElem_cons_succ, List.setIfInBounds_toArray, List.set_cons_zero, List.set_cons_succ])
  refine wpAnyH_take (i := 2) (v := ?_) rfl (by kernel_rfl) (by kernel_rfl) (by kernel_rfl) (fun _ _ _ h => h) (Or.inl ⟨by rfl, ?_⟩) (by assumption) ?_
  rotate_left
  · (intro w hSw; (try dsimp only at hSw); go_simp; try with_reducible rfl)
  (try simp only [Act.put, List.getElem_toArray, List.getElem_cons_zero, List.getElem_cons_succ, List.setIfInBounds_toArray, List.set_cons_zero, List.set_cons_succ])
  refine wpAnyH_take (i := 3) (v := ?_) rfl (by kernel_rfl) (by kernel_rfl) (by kernel_rfl) (fun _ _ _ h => h) (Or.inl ⟨by rfl, ?_⟩) (by assumption) ?_
  rotate_left
  · (intro w hSw; (try dsimp only at hSw); go_simp; try with_reducible rfl)
  (try simp only [Act.put, List.getElem_toArray, List.getElem_cons_zero, List.getElem_cons_succ, List.setIfInBounds_toArray, List.set_cons_zero, List.set_cons_succ])
  refine wpAnyH_take (i := 5) (v := ?_) rfl (by kernel_rfl) (by kernel_rfl) (by kernel_rfl) (fun _ _ _ h => h) (Or.inl ⟨by rfl, ?_⟩) (by assumption) ?_
  rotate_left
  · (intro w hSw; (try dsimp only at hSw); go_simp; try with_reducible rfl)
  (try simp only [Act.put, List.getElem_toArray, List.getElem_cons_zero, List.getElem_cons_succ, List.setIfInBounds_toArray, List.set_cons_zero, List.set_cons_succ])
  refine wpAnyH_take (i := 6) (v := ?_) rfl (by kernel_rfl) (by kernel_rfl) (by kernel_rfl) (fun _ _ _ h => h) (Or.inl ⟨by rfl, ?_⟩) (by assumption) ?_
  rotate_left
  · (intro w hSw; (try dsimp only at hSw); go_simp; try with_reducible rfl)
  (try simp only [Act.put, List.getElem_toArray, List.getElem_cons_zero, List.getElem_cons_succ, List.setIfInBounds_toArray, List.set_cons_zero, List.set_cons_succ])
  refine wpAnyH_ready (rs := [4]) (by kernel_rfl) (by simp) ?_
  refine AllReadyH.cons rfl (fun K hK => ?_) AllReadyH.nil
  go_simp
  refine (cmpR_any _ _ x y z D1 _ HT.out RV1.out RV2.out (Nat.le_trans nx (by omega)) (Nat.le_trans ny (by omega)) (Nat.le_trans nz (by omega)) (Nat.le_trans nD1 (by omega)) Z EZ.out).mono ?_
  rintro e wc ⟨rfl, fy⟩
  have S7 := hide (S7.out.fr fy)
  have S8 := hide (S8.out.fr fy)
  have S10 := hide (S10.out.fr fy)
  have S11 := hide (S11.out.fr fy)
  have RV1 := hide (RV1.out.fr fy)
  have RV2 := hide (RV2.out.fr fy)
  have RF1 := hide (RF1.out.fr fy)
  have RF2 := hide (RF2.out.fr fy)
  have HT := hide (HT.out.fr fy)
  have FW := hide (FW.out.trans fy)
  clear fy
  (try go_wp2_with fail)
  refine hK.out _ _ ?_ (fun hHeld => ?_)
  · (try dsimp only)
    exact ⟨S7.out.1, S7.out.2.1, S8.out.1, S8.out.2.1, S10.out.1, S10.out.2.1, S11.out.1, S11.out.2.1⟩
  clear hK K
  (try simp only [Act.put, List.getElem_toArray, List.getElem_cons_zero, List.getElem_cons_succ, List.setIfInBounds_toArray, List.set_cons_zero, List.set_cons_succ])
  refine wpAnyH_ready (rs := [7]) (by kernel_rfl) (by simp) ?_
  refine AllReadyH.cons rfl (fun K hK => ?_) AllReadyH.nil
  go_simp
  refine (refCmp8 _ _ x y z D1 _ RF1.out RF2.out (by omega) (by omega) (by omega) (by omega)).mono ?_
  rintro e we ⟨rfl, fy⟩
  rw [EZ.out]
  have S7 := hide (S7.out.fr fy)
  have S8 := hide (S8.out.fr fy)
  have S10 := hide (S10.out.fr fy)
  have S11 := hide (S11.out.fr fy)
  have RV1 := hide (RV1.out.fr fy)
  have RV2 := hide (RV2.out.fr fy)
  have RF1 := hide (RF1.out.fr fy)
  have RF2 := hide (RF2.out.fr fy)
  have HT := hide (HT.out.fr fy)
  have FW := hide (FW.out.trans fy)
  clear fy
  (try go_wp2_with fail)
  refine hK.out _ _ ?_ (fun hHeld => ?_)
  · (try dsimp only)
    exact ⟨S7.out.1, S7.out.2.1, S8.out.1, S8.out.2.1, S10.out.1, S10.out.2.1, S11.out.1, S11.out.2.1⟩
  clear hK K
  (try simp only [Act.put, List.getElem_toArray, List.getElem_cons_zero, List.getElem_cons_succ, List.setIfInBounds_toArray, List.set_cons_zero, List.set_cons_succ])
  refine wpAnyH_take (i := 8) (v := ?_) rfl (by kernel_rfl) (by kernel_rfl) (by kernel_rfl) (fun _ _ _ h => h) (Or.inl ⟨by rfl, ?_⟩) (by assumption) ?_
  rotate_left
  · (intro w hSw; (try dsimp only at hSw); go_simp; try with_reducible rfl)
  (try simp only [Act.put, List.getElem_toArray, List.getElem_cons_zero, List.getElem_cons_succ, List.setIfInBounds_toArray, List.set_cons_zero, List.set_cons_succ])
  refine wpAnyH_take (i := 9) (v := ?_) rfl (by kernel_rfl) (by kernel_rfl) (by kernel_rfl) (fun _ _ _ h => h) (Or.inl ⟨by rfl, ?_⟩) (by assumption) ?_
  rotate_left
  · (intro w hSw; (try dsimp only at hSw); go_simp; try with_reducible rfl)
  (try simp only [Act.put, List.getElem_toArray, List.getElem_cons_zero, List.getElem_cons_succ, List.setIfInBounds_toArray, List.set_cons_zero, List.set_cons_succ])
  refine wpAnyH_take (i := 10) (v := ?_) rfl (by kernel_rfl) (by kernel_rfl) (by kernel_rfl) (fun _ _ _ h => h) (Or.inl ⟨by rfl, ?_⟩) (by assumption) ?_
  rotate_left
  · (intro w hSw; (try dsimp only at hSw); go_simp; try with_reducible rfl)
  (try simp only [Act.put, List.getElem_toArray, List.getElem_cons_zero, List.getElem_cons_succ, List.setIfInBounds_toArray, List.set_cons_zero, List.set_cons_succ])
  refine wpAnyH_take (i := 11) (v := ?_) rfl (by kernel_rfl) (by kernel_rfl) (by kernel_rfl) (fun _ _ _ h => h) (Or.inl ⟨by rfl, ?_⟩) (by assumption) ?_
  rotate_left
  · (intro w hSw; (try dsimp only at hSw); go_simp; try with_reducible rfl)
  (try simp only [Act.put, List.getElem_toArray, List.getElem_cons_zero, List.getElem_cons_succ, List.setIfInBounds_toArray, List.set_cons_zero, List.set_cons_succ])
  refine wpAnyH_take (i := 12) (v := ?_) rfl (by kernel_rfl) (by kernel_rfl) (by kernel_rfl) (fun _ _ _ h => h) (Or.inl ⟨by rfl, ?_⟩) (by assumption) ?_
  rotate_left
  · (intro w hSw; (try dsimp only at hSw); go_simp; try with_reducible rfl)
  (try simp only [Act.put, List.getElem_toArray, List.getElem_cons_zero, List.getElem_cons_succ, List.setIfInBounds_toArray, List.set_cons_zero, List.set_cons_succ])
  refine wpAnyH_take (i := 14) (v := ?_) rfl (by kernel_rfl) (by kernel_rfl) (by kernel_rfl) (fun _ _ _ h => h) (Or.inl ⟨by rfl, ?_⟩) (by assumption) ?_
  rotate_left
  · (intro w hSw; (try dsimp only at hSw); go_simp; try with_reducible rfl)
  (try simp only [Act.put, List.getElem_toArray, List.getElem_cons_zero, List.getElem_cons_succ, List.setIfInBounds_toArray, List.set_cons_zero, List.set_cons_succ])
  refine wpAnyH_take (i := 15) (v := ?_) rfl (by kernel_rfl) (by kernel_rfl) (by kernel_rfl) (fun _ _ _ h => h) (Or.inl ⟨by rfl, ?_⟩) (by assumption) ?_
  rotate_left
  · (intro w hSw; (try dsimp only at hSw); go_simp; try with_reducible rfl)
  (try simp only [Act.put, List.getElem_toArray, List.getElem_cons_zero, List.getElem_cons_succ, List.setIfInBounds_toArray, List.set_cons_zero, List.set_cons_succ])
  refine wpAnyH_ready (rs := [13]) (by kernel_rfl) (by simp) ?_
  refine AllReadyH.cons rfl (fun K hK => ?_) AllReadyH.nil
  go_simp
  refine (addR_any _ _ x y z D1 _ HT.out RV1.out RV2.out (Nat.le_trans nx (by omega)) (Nat.le_trans ny (by omega)) (Nat.le_trans nz (by omega)) (Nat.le_trans nD1 (by omega))).mono ?_
  rintro e wn1 ⟨v_, rfl, ry, fy⟩
  obtain ⟨r11, r12, r13, r14, r15, r16, rfl⟩ := ry.form
  have R1 := hide ry
  have S7 := hide (S7.out.fr fy)
  have S8 := hide (S8.out.fr fy)
  have S10 := hide (S10.out.fr fy)
  have S11 := hide (S11.out.fr fy)
  have RV1 := hide (RV1.out.fr fy)
  have RV2 := hide (RV2.out.fr fy)
  have RF1 := hide (RF1.out.fr fy)
  have RF2 := hide (RF2.out.fr fy)
  have HT := hide (HT.out.fr fy)
  have FW := hide (FW.out.trans fy)
  clear fy ry
  (try go_wp2_with fail)
  refine hK.out _ _ ?_ (fun hHeld => ?_)
  · (try dsimp only)
    exact ⟨S7.out.1, S7.out.2.1, S8.out.1, S8.out.2.1, S10.out.1, S10.out.2.1, S11.out.1, S11.out.2.1⟩
  clear hK K
  (try simp only [Act.put, List.getElem_toArray, List.getElem_cons_zero, List.getElem_cons_succ, List.setIfInBounds_toArray, List.set_cons_zero, List.set_cons_succ])
  refine wpAnyH_ready (rs := [16]) (by kernel_rfl) (by simp) ?_
  refine AllReadyH.cons rfl (fun K hK => ?_) AllReadyH.nil
  go_simp
  refine (refAdd8 _ _ x y z D1 _ RF1.out RF2.out (by omega) (by omega) (by omega) (by omega)).mono ?_
  rintro e wn2 ⟨v_, rfl, ry, fy⟩
  obtain ⟨r21, r22, r23, r24, r25, r26, rfl, g1, g2⟩ := ry
  have G1 : Hid (IsFrac _ _ _ _) := hide ⟨_, _, _, _, _, _, rfl, g1, g2⟩
  have S7 := hide (S7.out.fr fy)
  have S8 := hide (S8.out.fr fy)
  have S10 := hide (S10.out.fr fy)
  have S11 := hide (S11.out.fr fy)
  have RV1 := hide (RV1.out.fr fy)
  have RV2 := hide (RV2.out.fr fy)
  have RF1 := hide (RF1.out.fr fy)
  have RF2 := hide (RF2.out.fr fy)
  have HT := hide (HT.out.fr fy)
  have R1 := hide (R1.out.fr fy)
  have FW := hide (FW.out.trans fy)
  clear fy g1 g2
  (try go_wp2_with fail)
  refine hK.out _ _ ?_ (fun hHeld => ?_)
  · (try dsimp only)
    exact ⟨S7.out.1, S7.out.2.1, S8.out.1, S8.out.2.1, S10.out.1, S10.out.2.1, S11.out.1, S11.out.2.1⟩
  clear hK K
  (try simp only [Act.put, List.getElem_toArray, List.getElem_cons_zero, List.getElem_cons_succ, List.setIfInBounds_toArray, List.set_cons_zero, List.set_cons_succ])
  refine wpAnyH_ready (rs := [17]) (by kernel_rfl) (by simp) ?_
  refine AllReadyH.cons rfl (fun K hK => ?_) AllReadyH.nil
  go_simp
  refine (same_yes _ _ ((x * D1) + (z * y)) (y * D1) ((x * D1) + (z * y)) (y * D1) _ R1.out G1.out (Nat.le_trans nb3 (by omega)) (Nat.le_trans nb4 (by omega)) (by have := nl10 (lt_of_nlen b32 nb3); omega) (by have := nl10 (lt_of_nlen b32 nb4); omega) (rfl)).mono ?_
  rintro e wn3 ⟨rfl, fy⟩
  have S7 := hide (S7.out.fr fy)
  have S8 := hide (S8.out.fr fy)
  have S10 := hide (S10.out.fr fy)
  have S11 := hide (S11.out.fr fy)
  have RV1 := hide (RV1.out.fr fy)
  have RV2 := hide (RV2.out.fr fy)
  have RF1 := hide (RF1.out.fr fy)
  have RF2 := hide (RF2.out.fr fy)
  have HT := hide (HT.out.fr fy)
  have FW := hide (FW.out.trans fy)
  clear fy R1 G1
  (try go_wp2_with fail)
  refine hK.out _ _ ?_ (fun hHeld => ?_)
  · (try dsimp only)
    exact ⟨S7.out.1, S7.out.2.1, S8.out.1, S8.out.2.1, S10.out.1, S10.out.2.1, S11.out.1, S11.out.2.1⟩
  clear hK K
  (try simp only [Act.put, List.getElem_toArray, List.getElem_cons_zero, List.getElem_cons_succ, List.setIfInBounds_toArray, List.set_cons_zero, List.set_cons_succ])
  refine wpAnyH_take (i := 18) (v := ?_) rfl (by kernel_rfl) (by kernel_rfl) (by kernel_rfl) (fun _ _ _ h => h) (Or.inl ⟨by rfl, ?_⟩) (by assumption) ?_
  rotate_left
  · (intro w hSw; (try dsimp only at hSw); go_simp; try with_reducible rfl)
  (try simp only [Act.put, List.getElem_toArray, List.getElem_cons_zero, List.getElem_cons_succ, List.setIfInBounds_toArray, List.set_cons_zero, List.set_cons_succ])
  refine wpAnyH_take (i := 19) (v := ?_) rfl (by kernel_rfl) (by kernel_rfl) (by kernel_rfl) (fun _ _ _ h => h) (Or.inl ⟨by rfl, ?_⟩) (by assumption) ?_
  rotate_left
  · (intro w hSw; (try dsimp only at hSw); go_simp; try with_reducible rfl)
  (try simp only [Act.put, List.getElem_toArray, List.getElem_cons_zero, List.getElem_cons_succ, List.setIfInBounds_toArray, List.set_cons_zero, List.set_cons_succ])
  refine wpAnyH_take (i := 20) (v := ?_) rfl (by kernel_rfl) (by kernel_rfl) (by kernel_rfl) (fun _ _ _ h => h) (Or.inl ⟨by rfl, ?_⟩) (by assumption) ?_
  rotate_left
  · (intro w hSw; (try dsimp only at hSw); go_simp; try with_reducible rfl)
  (try simp only [Act.put, List.getElem_toArray, List.getElem_cons_zero, List.getElem_cons_succ, List.setIfInBounds_toArray, List.set_cons_zero, List.set_cons_succ])
  refine wpAnyH_take (i := 21) (v := ?_) rfl (by kernel_rfl) (by kernel_rfl) (by kernel_rfl) (fun _ _ _ h => h) (Or.inl ⟨by rfl, ?_⟩) (by assumption) ?_
  rotate_left
  · (intro w hSw; (try dsimp only at hSw); go_simp; try with_reducible rfl)
  (try simp only [Act.put, List.getElem_toArray, List.getElem_cons_zero, List.getElem_cons_succ, List.setIfInBounds_toArray, List.set_cons_zero, List.set_cons_succ])
  refine wpAnyH_take (i := 23) (v := ?_) rfl (by kernel_rfl) (by kernel_rfl) (by kernel_rfl) (fun _ _ _ h => h) (Or.inl ⟨by rfl, ?_⟩) (by assumption) ?_
  rotate_left
  · (intro w hSw; (try dsimp only at hSw); go_simp; try with_reducible rfl)
  (try simp only [Act.put, List.getElem_toArray, List.getElem_cons_zero, List.getElem_cons_succ, List.setIfInBounds_toArray, List.set_cons_zero, List.set_cons_succ])
  refine wpAnyH_take (i := 24) (v := ?_) rfl (by kernel_rfl) (by kernel_rfl) (by kernel_rfl) (fun _ _ _ h => h) (Or.inl ⟨by rfl, ?_⟩) (by assumption) ?_
  rotate_left
  · (intro w hSw; (try dsimp only at hSw); go_simp; try with_reducible rfl)
  (try simp only [Act.put, List.getElem_toArray, List.getElem_cons_zero, List.getElem_cons_succ, List.setIfInBounds_toArray, List.set_cons_zero, List.set_cons_succ])
  refine wpAnyH_ready (rs := [22]) (by kernel_rfl) (by simp) ?_
  refine AllReadyH.cons rfl (fun K hK => ?_) AllReadyH.nil
  go_simp
  refine (mulR_any _ _ x y z D1 _ HT.out RV1.out RV2.out (Nat.le_trans nx (by omega)) (Nat.le_trans ny (by omega)) (Nat.le_trans nz (by omega)) (Nat.le_trans nD1 (by omega))).mono ?_
  rintro e wn4 ⟨v_, rfl, ry, fy⟩
  obtain ⟨r41, r42, r43, r44, r45, r46, rfl⟩ := ry.form
  have R2 := hide ry
  have S7 := hide (S7.out.fr fy)
  have S8 := hide (S8.out.fr fy)
  have S10 := hide (S10.out.fr fy)
  have S11 := hide (S11.out.fr fy)
  have RV1 := hide (RV1.out.fr fy)
  have RV2 := hide (RV2.out.fr fy)
  have RF1 := hide (RF1.out.fr fy)
  have RF2 := hide (RF2.out.fr fy)
  have HT := hide (HT.out.fr fy)
  have FW := hide (FW.out.trans fy)
  clear fy ry
  (try go_wp2_with fail)
  refine hK.out _ _ ?_ (fun hHeld => ?_)
  · (try dsimp only)
    exact ⟨S7.out.1, S7.out.2.1, S8.out.1, S8.out.2.1, S10.out.1, S10.out.2.1, S11.out.1, S11.out.2.1⟩
  clear hK K
  (try simp only [Act.put, List.getElem_toArray, List.getElem_cons_zero, List.getElem_cons_succ, List.setIfInBounds_toArray, List.set_cons_zero, List.set_cons_succ])
  refine wpAnyH_ready (rs := [25]) (by kernel_rfl) (by simp) ?_
  refine AllReadyH.cons rfl (fun K hK => ?_) AllReadyH.nil
  go_simp
  refine (refMul8 _ _ x y z D1 _ RF1.out RF2.out (by omega) (by omega) (by omega) (by omega)).mono ?_
  rintro e wn5 ⟨v_, rfl, ry, fy⟩
  obtain ⟨r51, r52, r53, r54, r55, r56, rfl, g1, g2⟩ := ry
  have G2 : Hid (IsFrac _ _ _ _) := hide ⟨_, _, _, _, _, _, rfl, g1, g2⟩
  have S7 := hide (S7.out.fr fy)
  have S8 := hide (S8.out.fr fy)
  have S10 := hide (S10.out.fr fy)
  have S11 := hide (S11.out.fr fy)
  have RV1 := hide (RV1.out.fr fy)
  have RV2 := hide (RV2.out.fr fy)
  have RF1 := hide (RF1.out.fr fy)
  have RF2 := hide (RF2.out.fr fy)
  have HT := hide (HT.out.fr fy)
  have R2 := hide (R2.out.fr fy)
  have FW := hide (FW.out.trans fy)
  clear fy g1 g2
  (try go_wp2_with fail)
  refine hK.out _ _ ?_ (fun hHeld => ?_)
  · (try dsimp only)
    exact ⟨S7.out.1, S7.out.2.1, S8.out.1, S8.out.2.1, S10.out.1, S10.out.2.1, S11.out.1, S11.out.2.1⟩
  clear hK K
  (try simp only [Act.put, List.getElem_toArray, List.getElem_cons_zero, List.getElem_cons_succ, List.setIfInBounds_toArray, List.set_cons_zero, List.set_cons_succ])
  refine wpAnyH_ready (rs := [26]) (by kernel_rfl) (by simp) ?_
  refine AllReadyH.cons rfl (fun K hK => ?_) AllReadyH.nil
  go_simp
  refine (same_yes _ _ (x * z) (y * D1) (x * z) (y * D1) _ R2.out G2.out (Nat.le_trans nb5 (by omega)) (Nat.le_trans nb6 (by omega)) (by have := nl10 (lt_of_nlen b32 nb5); omega) (by have := nl10 (lt_of_nlen b32 nb6); omega) (rfl)).mono ?_
  rintro e wn6 ⟨rfl, fy⟩
  have S7 := hide (S7.out.fr fy)
  have S8 := hide (S8.out.fr fy)
  have S10 := hide (S10.out.fr fy)
  have S11 := hide (S11.out.fr fy)
  have RV1 := hide (RV1.out.fr fy)
  have RV2 := hide (RV2.out.fr fy)
  have RF1 := hide (RF1.out.fr fy)
  have RF2 := hide (RF2.out.fr fy)
  have HT := hide (HT.out.fr fy)
  have FW := hide (FW.out.trans fy)
  clear fy R2 G2
  (try go_wp2_with fail)
  refine hK.out _ _ ?_ (fun hHeld => ?_)
  · (try dsimp only)
    exact ⟨S7.out.1, S7.out.2.1, S8.out.1, S8.out.2.1, S10.out.1, S10.out.2.1, S11.out.1, S11.out.2.1⟩
  clear hK K
  (try simp only [Act.put, List.getElem_toArray, List.getElem_cons_zero, List.getElem_cons_succ, List.setIfInBounds_toArray, List.set_cons_zero, List.set_cons_succ])
  refine wpAnyH_take (i := 27) (v := ?_) rfl (by kernel_rfl) (by kernel_rfl) (by kernel_rfl) (fun _ _ _ h => h) (Or.inl ⟨by rfl, ?_⟩) (by assumption) ?_
  rotate_left
  · (intro w hSw; (try dsimp only at hSw); go_simp; try with_reducible rfl)
  (try simp only [Act.put, List.getElem_toArray, List.getElem_cons_zero, List.getElem_cons_succ, List.setIfInBounds_toArray, List.set_cons_zero, List.set_cons_succ])
  refine wpAnyH_take (i := 28) (v := ?_) rfl (by kernel_rfl) (by kernel_rfl) (by kernel_rfl) (fun _ _ _ h => h) (Or.inl ⟨by rfl, ?_⟩) (by assumption) ?_
  rotate_left
  · (intro w hSw; (try dsimp only at hSw); go_simp; try with_reducible rfl)
  (try simp only [Act.put, List.getElem_toArray, List.getElem_cons_zero, List.getElem_cons_succ, List.setIfInBounds_toArray, List.set_cons_zero, List.set_cons_succ])
  refine wpAnyH_take (i := 29) (v := ?_) rfl (by kernel_rfl) (by kernel_rfl) (by kernel_rfl) (fun _ _ _ h => h) (Or.inl ⟨by rfl, ?_⟩) (by assumption) ?_
  rotate_left
  · (intro w hSw; (try dsimp only at hSw); go_simp; try with_reducible rfl)
  (try simp only [Act.put, List.getElem_toArray, List.getElem_cons_zero, List.getElem_cons_succ, List.setIfInBounds_toArray, List.set_cons_zero, List.set_cons_succ])
  refine wpAnyH_take (i := 30) (v := ?_) rfl (by kernel_rfl) (by kernel_rfl) (by kernel_rfl) (fun _ _ _ h => h) (Or.inl ⟨by rfl, ?_⟩) (by assumption) ?_
  rotate_left
  · (intro w hSw; (try dsimp only at hSw); go_simp; try with_reducible rfl)
  (try simp only [Act.put, List.getElem_toArray, List.getElem_cons_zero, List.getElem_cons_succ, List.setIfInBounds_toArray, List.set_cons_zero, List.set_cons_succ])
  refine wpAnyH_take (i := 32) (v := ?_) rfl (by kernel_rfl) (by kernel_rfl) (by kernel_rfl) (fun _ _ _ h => h) (Or.inl ⟨by rfl, ?_⟩) (by assumption) ?_
  rotate_left
  · (intro w hSw; (try dsimp only at hSw); go_simp; try with_reducible rfl)
  (try simp only [Act.put, List.getElem_toArray, List.getElem_cons_zero, List.getElem_cons_succ, List.setIfInBounds_toArray, List.set_cons_zero, List.set_cons_succ])
  refine wpAnyH_take (i := 33) (v := ?_) rfl (by kernel_rfl) (by kernel_rfl) (by kernel_rfl) (fun _ _ _ h => h) (Or.inl ⟨by rfl, ?_⟩) (by assumption) ?_
  rotate_left
  · (intro w hSw; (try dsimp only at hSw); go_simp; try with_reducible rfl)
  (try simp only [Act.put, List.getElem_toArray, List.getElem_cons_zero, List.getElem_cons_succ, List.setIfInBounds_toArray, List.set_cons_zero, List.set_cons_succ])
  refine wpAnyH_ready (rs := [31]) (by kernel_rfl) (by simp) ?_
  refine AllReadyH.cons rfl (fun K hK => ?_) AllReadyH.nil
  go_simp
  refine (awayR_any _ _ x y z D1 _ HT.out RV1.out RV2.out (Nat.le_trans nx (by omega)) (Nat.le_trans ny (by omega)) (Nat.le_trans nz (by omega)) (Nat.le_trans nD1 (by omega))).mono ?_
  rintro e wn7 ⟨v_, rfl, ry, fy⟩
  obtain ⟨r71, r72, r73, r74, r75, r76, rfl⟩ := ry.form
  have R3 := hide ry
  have S7 := hide (S7.out.fr fy)
  have S8 := hide (S8.out.fr fy)
  have S10 := hide (S10.out.fr fy)
  have S11 := hide (S11.out.fr fy)
  have RV1 := hide (RV1.out.fr fy)
  have RV2 := hide (RV2.out.fr fy)
  have RF1 := hide (RF1.out.fr fy)
  have RF2 := hide (RF2.out.fr fy)
  have HT := hide (HT.out.fr fy)
  have FW := hide (FW.out.trans fy)
  clear fy ry
  (try go_wp2_with fail)
  refine hK.out _ _ ?_ (fun hHeld => ?_)
  · (try dsimp only)
    exact ⟨S7.out.1, S7.out.2.1, S8.out.1, S8.out.2.1, S10.out.1, S10.out.2.1, S11.out.1, S11.out.2.1⟩
  clear hK K
  (try simp only [Act.put, List.getElem_toArray, List.getElem_cons_zero, List.getElem_cons_succ, List.setIfInBounds_toArray, List.set_cons_zero, List.set_cons_succ])
  refine wpAnyH_ready (rs := [34]) (by kernel_rfl) (by simp) ?_
  refine AllReadyH.cons rfl (fun K hK => ?_) AllReadyH.nil
  go_simp
  refine (refAway8 _ _ x y z D1 _ RF1.out RF2.out (by omega) (by omega) (by omega) (by omega)).mono ?_
  rintro e wn8 ⟨v_, rfl, ry, fy⟩
  obtain ⟨r81, r82, r83, r84, r85, r86, rfl, g1, g2⟩ := ry
  have G3 : Hid (IsFrac _ _ _ _) := hide ⟨_, _, _, _, _, _, rfl, g1, g2⟩
  have S7 := hide (S7.out.fr fy)
  have S8 := hide (S8.out.fr fy)
  have S10 := hide (S10.out.fr fy)
  have S11 := hide (S11.out.fr fy)
  have RV1 := hide (RV1.out.fr fy)
  have RV2 := hide (RV2.out.fr fy)
  have RF1 := hide (RF1.out.fr fy)
  have RF2 := hide (RF2.out.fr fy)
  have HT := hide (HT.out.fr fy)
  have R3 := hide (R3.out.fr fy)
  have FW := hide (FW.out.trans fy)
  clear fy g1 g2
  (try go_wp2_with fail)
  refine hK.out _ _ ?_ (fun hHeld => ?_)
  · (try dsimp only)
    exact ⟨S7.out.1, S7.out.2.1, S8.out.1, S8.out.2.1, S10.out.1, S10.out.2.1, S11.out.1, S11.out.2.1⟩
  clear hK K
  (try simp only [Act.put, List.getElem_toArray, List.getElem_cons_zero, List.getElem_cons_succ, List.setIfInBounds_toArray, List.set_cons_zero, List.set_cons_succ])
  refine wpAnyH_ready (rs := [35]) (by kernel_rfl) (by simp) ?_
  refine AllReadyH.cons rfl (fun K hK => ?_) AllReadyH.nil
  go_simp
  refine (same_yes _ _ (awayN (x * D1) (z * y)) (y * D1) (awayN (x * D1) (z * y)) (y * D1) _ R3.out G3.out (Nat.le_trans nb9 (by omega)) (Nat.le_trans nb10 (by omega)) (by have := nl10 (lt_of_nlen b32 nb9); omega) (by have := nl10 (lt_of_nlen b32 nb10); omega) (rfl)).mono ?_
  rintro e wn9 ⟨rfl, fy⟩
  have S7 := hide (S7.out.fr fy)
  have S8 := hide (S8.out.fr fy)
  have S10 := hide (S10.out.fr fy)
  have S11 := hide (S11.out.fr fy)
  have RV1 := hide (RV1.out.fr fy)
  have RV2 := hide (RV2.out.fr fy)
  have RF1 := hide (RF1.out.fr fy)
  have RF2 := hide (RF2.out.fr fy)
  have HT := hide (HT.out.fr fy)
  have FW := hide (FW.out.trans fy)
  clear fy R3 G3
  (try go_wp2_with fail)
  refine hK.out _ _ ?_ (fun hHeld => ?_)
  · (try dsimp only)
    exact ⟨S7.out.1, S7.out.2.1, S8.out.1, S8.out.2.1, S10.out.1, S10.out.2.1, S11.out.1, S11.out.2.1⟩
  clear hK K
  (try simp only [Act.put, List.getElem_toArray, List.getElem_cons_zero, List.getElem_cons_succ, List.setIfInBounds_toArray, List.set_cons_zero, List.set_cons_succ])
  refine wpAnyH_take (i := 36) (v := ?_) rfl (by kernel_rfl) (by kernel_rfl) (by kernel_rfl) (fun _ _ _ h => h) (Or.inl ⟨by rfl, ?_⟩) (by assumption) ?_
  rotate_left
  · (intro w hSw; (try dsimp only at hSw); go_simp; try with_reducible rfl)
  (try simp only [Act.put, List.getElem_toArray, List.getElem_cons_zero, List.getElem_cons_succ, List.setIfInBounds_toArray, List.set_cons_zero, List.set_cons_succ])
  refine wpAnyH_take (i := 37) (v := ?_) rfl (by kernel_rfl) (by kernel_rfl) (by kernel_rfl) (fun _ _ _ h => h) (Or.inl ⟨by rfl, ?_⟩) (by assumption) ?_
  rotate_left
  · (intro w hSw; (try dsimp only at hSw); go_simp; try with_reducible rfl)
  (try simp only [Act.put, List.getElem_toArray, List.getElem_cons_zero, List.getElem_cons_succ, List.setIfInBounds_toArray, List.set_cons_zero, List.set_cons_succ])
  refine wpAnyH_take (i := 38) (v := ?_) rfl (by kernel_rfl) (by kernel_rfl) (by kernel_rfl) (fun _ _ _ h => h) (Or.inl ⟨by rfl, ?_⟩) (by assumption) ?_
  rotate_left
  · (intro w hSw; (try dsimp only at hSw); go_simp; try with_reducible rfl)
  (try simp only [Act.put, List.getElem_toArray, List.getElem_cons_zero, List.getElem_cons_succ, List.setIfInBounds_toArray, List.set_cons_zero, List.set_cons_succ])
  refine wpAnyH_take (i := 39) (v := ?_) rfl (by kernel_rfl) (by kernel_rfl) (by kernel_rfl) (fun _ _ _ h => h) (Or.inl ⟨by rfl, ?_⟩) (by assumption) ?_
  rotate_left
  · (intro w hSw; (try dsimp only at hSw); go_simp; try with_reducible rfl)
  (try simp only [Act.put, List.getElem_toArray, List.getElem_cons_zero, List.getElem_cons_succ, List.setIfInBounds_toArray, List.set_cons_zero, List.set_cons_succ])
  refine wpAnyH_take (i := 41) (v := ?_) rfl (by kernel_rfl) (by kernel_rfl) (by kernel_rfl) (fun _ _ _ h => h) (Or.inl ⟨by rfl, ?_⟩) (by assumption) ?_
  rotate_left
  · (intro w hSw; (try dsimp only at hSw); go_simp; try with_reducible rfl)
  (try simp only [Act.put, List.getElem_toArray, List.getElem_cons_zero, List.getElem_cons_succ, List.setIfInBounds_toArray, List.set_cons_zero, List.set_cons_succ])
  refine wpAnyH_take (i := 42) (v := ?_) rfl (by kernel_rfl) (by kernel_rfl) (by kernel_rfl) (fun _ _ _ h => h) (Or.inl ⟨by rfl, ?_⟩) (by assumption) ?_
  rotate_left
  · (intro w hSw; (try dsimp only at hSw); go_simp; try with_reducible rfl)
  (try simp only [Act.put, List.getElem_toArray, List.getElem_cons_zero, List.getElem_cons_succ, List.setIfInBounds_toArray, List.set_cons_zero, List.set_cons_succ])
  refine wpAnyH_ready (rs := [40]) (by kernel_rfl) (by simp) ?_
  refine AllReadyH.cons rfl (fun K hK => ?_) AllReadyH.nil
  go_simp
  refine (awayR_any _ _ z D1 x y _ HT.out RV2.out RV1.out (Nat.le_trans nz (by omega)) (Nat.le_trans nD1 (by omega)) (Nat.le_trans nx (by omega)) (Nat.le_trans ny (by omega))).mono ?_
  rintro e wn10 ⟨v_, rfl, ry, fy⟩
  obtain ⟨r101, r102, r103, r104, r105, r106, rfl⟩ := ry.form
  have R4 := hide ry
  have S7 := hide (S7.out.fr fy)
  have S8 := hide (S8.out.fr fy)
  have S10 := hide (S10.out.fr fy)
  have S11 := hide (S11.out.fr fy)
  have RV1 := hide (RV1.out.fr fy)
  have RV2 := hide (RV2.out.fr fy)
  have RF1 := hide (RF1.out.fr fy)
  have RF2 := hide (RF2.out.fr fy)
  have HT := hide (HT.out.fr fy)
  have FW := hide (FW.out.trans fy)
  clear fy ry
  (try go_wp2_with fail)
  refine hK.out _ _ ?_ (fun hHeld => ?_)
  · (try dsimp only)
    exact ⟨S7.out.1, S7.out.2.1, S8.out.1, S8.out.2.1, S10.out.1, S10.out.2.1, S11.out.1, S11.out.2.1⟩
  clear hK K
  (try simp only [Act.put, List.getElem_toArray, List.getElem_cons_zero, List.getElem_cons_succ, List.setIfInBounds_toArray, List.set_cons_zero, List.set_cons_succ])
  refine wpAnyH_ready (rs := [43]) (by kernel_rfl) (by simp) ?_
  refine AllReadyH.cons rfl (fun K hK => ?_) AllReadyH.nil
  go_simp
  refine (refAway8 _ _ x y z D1 _ RF1.out RF2.out (by omega) (by omega) (by omega) (by omega)).mono ?_
  rintro e wn11 ⟨v_, rfl, ry, fy⟩
  obtain ⟨r111, r112, r113, r114, r115, r116, rfl, g1, g2⟩ := ry
  have G4 : Hid (IsFrac _ _ _ _) := hide ⟨_, _, _, _, _, _, rfl, g1, g2⟩
  have S7 := hide (S7.out.fr fy)
  have S8 := hide (S8.out.fr fy)
  have S10 := hide (S10.out.fr fy)
  have S11 := hide (S11.out.fr fy)
  have RV1 := hide (RV1.out.fr fy)
  have RV2 := hide (RV2.out.fr fy)
  have RF1 := hide (RF1.out.fr fy)
  have RF2 := hide (RF2.out.fr fy)
  have HT := hide (HT.out.fr fy)
  have R4 := hide (R4.out.fr fy)
  have FW := hide (FW.out.trans fy)
  clear fy g1 g2
  (try go_wp2_with fail)
  refine hK.out _ _ ?_ (fun hHeld => ?_)
  · (try dsimp only)
    exact ⟨S7.out.1, S7.out.2.1, S8.out.1, S8.out.2.1, S10.out.1, S10.out.2.1, S11.out.1, S11.out.2.1⟩
  clear hK K
  (try simp only [Act.put, List.getElem_toArray, List.getElem_cons_zero, List.getElem_cons_succ, List.setIfInBounds_toArray, List.set_cons_zero, List.set_cons_succ])
  refine wpAnyH_ready (rs := [44]) (by kernel_rfl) (by simp) ?_
  refine AllReadyH.cons rfl (fun K hK => ?_) AllReadyH.nil
  go_simp
  refine (same_yes _ _ (awayN (z * y) (x * D1)) (D1 * y) (awayN (x * D1) (z * y)) (y * D1) _ R4.out G4.out (Nat.le_trans nb13 (by omega)) (Nat.le_trans nb14 (by omega)) (by have := nl10 (lt_of_nlen b32 nb9); omega) (by have := nl10 (lt_of_nlen b32 nb10); omega) (eq_flip8 x y z D1)).mono ?_
  rintro e wn12 ⟨rfl, fy⟩
  have S7 := hide (S7.out.fr fy)
  have S8 := hide (S8.out.fr fy)
  have S10 := hide (S10.out.fr fy)
  have S11 := hide (S11.out.fr fy)
  have RV1 := hide (RV1.out.fr fy)
  have RV2 := hide (RV2.out.fr fy)
  have RF1 := hide (RF1.out.fr fy)
  have RF2 := hide (RF2.out.fr fy)
  have HT := hide (HT.out.fr fy)
  have FW := hide (FW.out.trans fy)
  clear fy R4 G4
  (try go_wp2_with fail)
  refine hK.out _ _ ?_ (fun hHeld => ?_)
  · (try dsimp only)
    exact ⟨S7.out.1, S7.out.2.1, S8.out.1, S8.out.2.1, S10.out.1, S10.out.2.1, S11.out.1, S11.out.2.1⟩
  clear hK K
  (try simp only [Act.put, List.getElem_toArray, List.getElem_cons_zero, List.getElem_cons_succ, List.setIfInBounds_toArray, List.set_cons_zero, List.set_cons_succ])
  refine wpAnyH_take (i := 45) (v := ?_) rfl (by kernel_rfl) (by kernel_rfl) (by kernel_rfl) (fun _ _ _ h => h) (Or.inl ⟨by rfl, ?_⟩) (by assumption) ?_
  rotate_left
  · (intro w hSw; (try dsimp only at hSw); go_simp; try with_reducible rfl)
  (try simp only [Act.put, List.getElem_toArray, List.getElem_cons_zero, List.getElem_cons_succ, List.setIfInBounds_toArray, List.set_cons_zero, List.set_cons_succ])
  refine wpAnyH_take (i := 46) (v := ?_) rfl (by kernel_rfl) (by kernel_rfl) (by kernel_rfl) (fun _ _ _ h => h) (Or.inl ⟨by rfl, ?_⟩) (by assumption) ?_
  rotate_left
  · (intro w hSw; (try dsimp only at hSw); go_simp; try with_reducible rfl)
  (try simp only [Act.put, List.getElem_toArray, List.getElem_cons_zero, List.getElem_cons_succ, List.setIfInBounds_toArray, List.set_cons_zero, List.set_cons_succ])
  refine wpAnyH_done (by kernel_rfl) ?_ _
  go_wp2_with fail
  go_ret
  exact ⟨rfl, FW.out⟩
end Go.Proofs.YtimglhbllcjpbaaDoor
