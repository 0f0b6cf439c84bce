/- The law RatioLaws. -/
import Derived.Test.YtimglhbllcjpbaaDoorRatioM
namespace Go.Proofs.YtimglhbllcjpbaaDoor
set_option linter.unusedVariables false
set_option linter.unusedSimpArgs false
open Go.RowKit

attribute [local go_sem] World.cell?_alloc_some
theorem nl_away {p q n : Nat} (h : nlen 4294967296 p ≤ n) (k : nlen 4294967296 q ≤ n) : nlen 4294967296 (awayN p q) ≤ n := by
  unfold awayN
  rcases Nat.le_total p q with c | c
  · exact nl_le k (by omega)
  · exact nl_le h (by omega)
theorem cmpZ_eq {a b : Nat} (h : a = b) : cmpZ a b = 0 := by subst h; simp [cmpZ]
theorem eq_comm8 (x y z D : Nat) : (x * D + z * y) * (D * y) = (z * y + x * D) * (y * D) := by rw [Nat.add_comm (z * y), Nat.mul_comm D y]
theorem eq_assoc8 (x y z D u v : Nat) : ((x * D + z * y) * v + u * (y * D)) * (y * (D * v)) = (x * (D * v) + (z * v + u * D) * y) * (y * D * v) := by
  have e1 : y * (D * v) = y * D * v := by ac_rfl
  have e2 : (x * D + z * y) * v + u * (y * D) = x * (D * v) + (z * v + u * D) * y := by
    rw [Nat.add_mul, Nat.add_mul]
    have a1 : x * D * v = x * (D * v) := by ac_rfl
    have a2 : z * y * v = z * v * y := by ac_rfl
    have a3 : u * (y * D) = u * D * y := by ac_rfl
    omega
  rw [e1, e2]
theorem eq_mul8 (x y z D : Nat) : x * z * (D * y) = z * x * (y * D) := by ac_rfl
theorem eq_dist8 (x y z D u v : Nat) : (x * D + z * y) * u * (y * v * (D * v)) = (x * u * (D * v) + z * u * (y * v)) * (y * D * v) := by
  have e1 : x * u * (D * v) + z * u * (y * v) = (x * D + z * y) * (u * v) := by
    rw [Nat.add_mul]
    have a1 : x * u * (D * v) = x * D * (u * v) := by ac_rfl
    have a2 : z * u * (y * v) = z * y * (u * v) := by ac_rfl
    rw [a1, a2]
  rw [e1]
  generalize x * D + z * y = S
  ac_rfl
theorem eq_away8 (x y z D : Nat) : awayN ((x * D + z * y) * D) (z * (y * D)) * y = x * (y * D * D) := by
  have e : awayN ((x * D + z * y) * D) (z * (y * D)) = x * D * D := by
    have a1 : (x * D + z * y) * D = x * D * D + z * (y * D) := by rw [Nat.add_mul, Nat.mul_assoc z y D]
    rw [a1]
    unfold awayN
    omega
  rw [e]
  ac_rfl

set_option maxHeartbeats 4000000 in
set_option maxRecDepth 4000 in
theorem law_RatioLaws (a0 : Option Addr) (len0 cap0 : Nat) (z0 : List Int) (a1 : Option Addr) (len1 cap1 : Nat) (z1 : List Int) (a2 : Option Addr) (len2 cap2 : Nat) (z2 : List Int) (w : World) (h0 : IsRow .u32 w a0 len0 cap0 z0) (h1 : IsRow .u32 w a1 len1 cap1 z1) (h2 : IsRow .u32 w a2 len2 cap2 z2) (hT : Tab w) :
    Calls Tryd.prog 6 #[.slice a0 len0 cap0, .slice a1 len1 cap1, .slice a2 len2 cap2] w fun e w' => e = .returned (.bool true) ∧ Fr w w' := by
  obtain ⟨x, hx⟩ := arg_row h0
  obtain ⟨y, hy⟩ := arg_row h1
  obtain ⟨z, hz⟩ := arg_row h2
  obtain ⟨ax, kx, cx, bx, lx, csx, kcx, cmx, anx, fewx⟩ := arg_few hx
  obtain ⟨az, kz, cz, bz, lz, csz, kcz, cmz, anz, fewz⟩ := arg_few hz
  have FEWx := hide fewx
  have FEWz := hide fewz
  have Cx := hide csx
  have Cz := hide csz
  have HX := hide hx
  have HY := hide hy
  have HZ := hide hz
  have HT := hide hT
  have nx := hx.nl
  have ny := hy.nl
  have nz := hz.nl
  have FW := hide (Fr.refl w)
  obtain ⟨B, hB⟩ : ∃ B, decide (y ≠ 0) = B := ⟨_, rfl⟩
  have HB := hide hB
  clear h0 h1 h2 hx hy hz hT hB fewx fewz csx csz lx lz cmx cmz
  go_enter Tryd.func6, Tryd.ntmps6
  go_wp2_with fail
  refine (ofL_any _ _ x y _ (Tab.fr HT.out FW.out) HX.out HY.out).mono ?_
  rintro e w1 ⟨u11, u12, u13, u14, u15, u16, t11, t12, t13, t14, t15, t16, rfl, rv, rf, fy⟩
  rw [HB.out]
  have RV1 := hide rv
  have RF1 := hide rf
  have HX := hide (HX.out.fr fy)
  have HY := hide (HY.out.fr fy)
  have HZ := hide (HZ.out.fr fy)
  have FW := hide (FW.out.trans fy)
  clear rv rf fy
  go_wp2_with fail
  obtain ⟨W1, hW1⟩ : ∃ W, W = ((w1.alloc (Obj.cells #[Value.slice u11 u12 u13, Value.slice u14 u15 u16] 26)).alloc (Obj.cells #[Value.slice t11 t12 t13, Value.slice t14 t15 t16] 29)) := ⟨_, rfl⟩
  have fy : Fr w1 W1 := by rw [hW1]; exact ((Fr.alloc w1 (Obj.cells #[Value.slice u11 u12 u13, Value.slice u14 u15 u16] 26)).trans (Fr.alloc _ (Obj.cells #[Value.slice t11 t12 t13, Value.slice t14 t15 t16] 29)))
  have s7 : Slot2 w1 W1 (w1.heap.size) (.slice u11 u12 u13) (.slice u14 u15 u16) := by
    rw [hW1]; simpa using (Slot2.new (Fr.refl w1) u11 u12 u13 u14 u15 u16 26).fr (Fr.alloc _ _)
  have s8 : Slot2 w1 W1 (w1.heap.size + 1) (.slice t11 t12 t13) (.slice t14 t15 t16) := by
    rw [hW1]; simpa using Slot2.new (Fr.alloc w1 (Obj.cells #[Value.slice u11 u12 u13, Value.slice u14 u15 u16] 26)) t11 t12 t13 t14 t15 t16 29
  rw [← hW1]
  have hs_ : W1.heap.size = w1.heap.size + 1 + 1 := by rw [hW1]; simp
  clear hW1
  have S7 := hide s7
  have RV1 := hide (fun h => (RV1.out h).fr fy)
  have HX := hide (HX.out.fr fy)
  have HY := hide (HY.out.fr fy)
  have HZ := hide (HZ.out.fr fy)
  have FW := hide (FW.out.trans fy)
  clear s7 s8 fy RF1
  have OW : Hid ((W1.alloc (Obj.cells #[Value.int IntKind.u32 3] 41)).ownsRow W1.heap.size 41 1 (.slice (some ⟨w1.heap.size + 1 + 1, 0, none⟩) 1 1) 1 (rowOf .u32 1 (fun _ => 3))) := by
    refine hide ?_
    rw [← hs_]
    exact one_own W1 3 41
  refine (FEWx.out _).mono ?_
  rintro e w' ⟨rfl, rfl⟩
  have CS_ := Cx.out.fr (FW.out.trans (Fr.alloc W1 (Obj.cells #[Value.int IntKind.u32 3] 41)))
  go_wp2_with (at_builtin; refine wpList_app (w0 := W1) rfl _ _ rfl _ 1 (fun _ => 3) rfl OW.out ax kx cx (dg 4294967296 x) rfl anx kcx CS_ (by omega) (Fr.alloc _ _) ?_)
  intro v_ v1 hown fy
  obtain ⟨D1, hD, hD1⟩ := arg_own hown (fun j => by (try dsimp only); split; omega; exact dg_lt b32 x _) (by omega) (by simp)
  have nD1 := hD.nl
  have HD1 := hide hD
  have HX := hide (HX.out.fr fy)
  have HY := hide (HY.out.fr fy)
  have HZ := hide (HZ.out.fr fy)
  have S7 := hide (S7.out.fr fy)
  have FW := hide (FW.out.trans fy)
  have RV1 := hide (fun h => (RV1.out h).fr fy)
  clear hown fy OW hD CS_ hs_
  go_wp2_with fail
  refine (ofL_any _ _ z D1 _ (Tab.fr HT.out FW.out) HZ.out HD1.out).mono ?_
  rintro e w2 ⟨u21, u22, u23, u24, u25, u26, t21, t22, t23, t24, t25, t26, rfl, rv, rf, fy⟩
  rw [decide_eq_true hD1]
  have RV2 := hide rv
  have RF2 := hide rf
  have HX := hide (HX.out.fr fy)
  have HY := hide (HY.out.fr fy)
  have HZ := hide (HZ.out.fr fy)
  have S7 := hide (S7.out.fr fy)
  have FW := hide (FW.out.trans fy)
  have RV1 := hide (fun h => (RV1.out h).fr fy)
  clear rv rf fy
  have RV2 := hide (RV2.out hD1)
  have l2 := cell_lt S7.out.1
  simp only [] at l2
  go_wp2_with fail
  obtain ⟨W2, hW2⟩ : ∃ W, W = ((w2.alloc (Obj.cells #[Value.slice u21 u22 u23, Value.slice u24 u25 u26] 26)).alloc (Obj.cells #[Value.slice t21 t22 t23, Value.slice t24 t25 t26] 29)) := ⟨_, rfl⟩
  have fy : Fr w2 W2 := by rw [hW2]; exact ((Fr.alloc w2 (Obj.cells #[Value.slice u21 u22 u23, Value.slice u24 u25 u26] 26)).trans (Fr.alloc _ (Obj.cells #[Value.slice t21 t22 t23, Value.slice t24 t25 t26] 29)))
  have s10 : Slot2 w2 W2 (w2.heap.size) (.slice u21 u22 u23) (.slice u24 u25 u26) := by
    rw [hW2]; simpa using (Slot2.new (Fr.refl w2) u21 u22 u23 u24 u25 u26 26).fr (Fr.alloc _ _)
  have s11 : Slot2 w2 W2 (w2.heap.size + 1) (.slice t21 t22 t23) (.slice t24 t25 t26) := by
    rw [hW2]; simpa using Slot2.new (Fr.alloc w2 (Obj.cells #[Value.slice u21 u22 u23, Value.slice u24 u25 u26] 26)) t21 t22 t23 t24 t25 t26 29
  rw [← hW2]
  have hs_ : W2.heap.size = w2.heap.size + 1 + 1 := by rw [hW2]; simp
  clear hW2
  have S10 := hide s10
  have RV1 := hide (fun h => (RV1.out h).fr fy)
  have HX := hide (HX.out.fr fy)
  have HY := hide (HY.out.fr fy)
  have HZ := hide (HZ.out.fr fy)
  have S7 := hide (S7.out.fr fy)
  have RV2 := hide (RV2.out.fr fy)
  have FW := hide (FW.out.trans fy)
  clear s10 s11 fy RF2
  have OW : Hid ((W2.alloc (Obj.cells #[Value.int IntKind.u32 5] 41)).ownsRow W2.heap.size 41 1 (.slice (some ⟨w2.heap.size + 1 + 1, 0, none⟩) 1 1) 1 (rowOf .u32 1 (fun _ => 5))) := by
    refine hide ?_
    rw [← hs_]
    exact one_own W2 5 41
  refine (FEWz.out _).mono ?_
  rintro e w' ⟨rfl, rfl⟩
  have CS_ := Cz.out.fr (FW.out.trans (Fr.alloc W2 (Obj.cells #[Value.int IntKind.u32 5] 41)))
  go_wp2_with (at_builtin; refine wpList_app (w0 := W2) rfl _ _ rfl _ 1 (fun _ => 5) rfl OW.out az kz cz (dg 4294967296 z) rfl anz kcz CS_ (by omega) (Fr.alloc _ _) ?_)
  intro v_ v2 hown fy
  obtain ⟨D2, hD, hD2⟩ := arg_own hown (fun j => by (try dsimp only); split; omega; exact dg_lt b32 z _) (by omega) (by simp)
  have nD2 := hD.nl
  have HD2 := hide hD
  have HX := hide (HX.out.fr fy)
  have HY := hide (HY.out.fr fy)
  have HZ := hide (HZ.out.fr fy)
  have S7 := hide (S7.out.fr fy)
  have S10 := hide (S10.out.fr fy)
  have RV2 := hide (RV2.out.fr fy)
  have FW := hide (FW.out.trans fy)
  have RV1 := hide (fun h => (RV1.out h).fr fy)
  clear hown fy OW hD CS_ hs_
  go_wp2_with fail
  refine (ofL_any _ _ y D2 _ (Tab.fr HT.out FW.out) HY.out HD2.out).mono ?_
  rintro e w3 ⟨u31, u32, u33, u34, u35, u36, t31, t32, t33, t34, t35, t36, rfl, rv, rf, fy⟩
  rw [decide_eq_true hD2]
  have RV3 := hide rv
  have RF3 := hide rf
  have S7 := hide (S7.out.fr fy)
  have S10 := hide (S10.out.fr fy)
  have RV2 := hide (RV2.out.fr fy)
  have FW := hide (FW.out.trans fy)
  have RV1 := hide (fun h => (RV1.out h).fr fy)
  clear rv rf fy
  have RV3 := hide (RV3.out hD2)
  have l3 := cell_lt S10.out.1
  simp only [] at l3
  clear HX HY HZ HD1 HD2 FEWx FEWz Cx Cz RF3
  cases B
  · go_wp2_with fail
    obtain ⟨W3, hW3⟩ : ∃ W, W = ((w3.alloc (Obj.cells #[Value.slice u31 u32 u33, Value.slice u34 u35 u36] 26)).alloc (Obj.cells #[Value.slice t31 t32 t33, Value.slice t34 t35 t36] 29)) := ⟨_, rfl⟩
    have fy : Fr w3 W3 := by rw [hW3]; exact ((Fr.alloc w3 (Obj.cells #[Value.slice u31 u32 u33, Value.slice u34 u35 u36] 26)).trans (Fr.alloc _ (Obj.cells #[Value.slice t31 t32 t33, Value.slice t34 t35 t36] 29)))
    rw [← hW3]
    clear hW3
    have FW := hide (FW.out.trans fy)
    refine (wakes_any _ (Tab.fr HT.out FW.out)).mono ?_
    rintro e w4 ⟨rfl, f4⟩
    have FW := hide (FW.out.trans f4)
    clear fy f4
    go_wp2_with fail
    go_ret
    exact ⟨rfl, FW.out⟩
  have hy0 : y ≠ 0 := of_decide_eq_true HB.out
  have RV1 := hide (RV1.out hy0)
  have q7 := S7.out.1
  have q7' := S7.out.2.1
  have q10 := S10.out.1
  have q10' := S10.out.2.1
  go_wp2_with fail
  obtain ⟨W3, hW3⟩ : ∃ W, W = ((w3.alloc (Obj.cells #[Value.slice u31 u32 u33, Value.slice u34 u35 u36] 26)).alloc (Obj.cells #[Value.slice t31 t32 t33, Value.slice t34 t35 t36] 29)) := ⟨_, rfl⟩
  have fy : Fr w3 W3 := by rw [hW3]; exact ((Fr.alloc w3 (Obj.cells #[Value.slice u31 u32 u33, Value.slice u34 u35 u36] 26)).trans (Fr.alloc _ (Obj.cells #[Value.slice t31 t32 t33, Value.slice t34 t35 t36] 29)))
  have s13 : Slot2 w3 W3 (w3.heap.size) (.slice u31 u32 u33) (.slice u34 u35 u36) := by
    rw [hW3]; simpa using (Slot2.new (Fr.refl w3) u31 u32 u33 u34 u35 u36 26).fr (Fr.alloc _ _)
  rw [← hW3]
  clear hW3
  have S13 := hide s13
  have S7 := hide (S7.out.fr fy)
  have S10 := hide (S10.out.fr fy)
  have RV1 := hide (RV1.out.fr fy)
  have RV2 := hide (RV2.out.fr fy)
  have RV3 := hide (RV3.out.fr fy)
  have FW := hide (FW.out.trans fy)
  clear s13 fy q7 q7' q10 q10'
  have nb1 : nlen 4294967296 (x * D1) ≤ 10 := nlen_mul b32 nx nD1
  have nb2 : nlen 4294967296 (z * y) ≤ 10 := nlen_mul b32 nz ny
  have nb3 : nlen 4294967296 ((x * D1) + (z * y)) ≤ 11 := nl_sum (Nat.le_trans nb1 (by omega)) (Nat.le_trans nb2 (by omega))
  have nb4 : nlen 4294967296 (y * D1) ≤ 10 := nlen_mul b32 ny nD1
  have nb5 : nlen 4294967296 (z * y) ≤ 10 := nlen_mul b32 nz ny
  have nb6 : nlen 4294967296 (x * D1) ≤ 10 := nlen_mul b32 nx nD1
  have nb7 : nlen 4294967296 ((z * y) + (x * D1)) ≤ 11 := nl_sum (Nat.le_trans nb5 (by omega)) (Nat.le_trans nb6 (by omega))
  have nb8 : nlen 4294967296 (D1 * y) ≤ 10 := nlen_mul b32 nD1 ny
  have nb9 : nlen 4294967296 (((x * D1) + (z * y)) * D2) ≤ 16 := nlen_mul b32 nb3 nD2
  have nb10 : nlen 4294967296 (y * (y * D1)) ≤ 15 := nlen_mul b32 ny nb4
  have nb11 : nlen 4294967296 ((((x * D1) + (z * y)) * D2) + (y * (y * D1))) ≤ 17 := nl_sum (Nat.le_trans nb9 (by omega)) (Nat.le_trans nb10 (by omega))
  have nb12 : nlen 4294967296 ((y * D1) * D2) ≤ 15 := nlen_mul b32 nb4 nD2
  have nb13 : nlen 4294967296 (z * D2) ≤ 10 := nlen_mul b32 nz nD2
  have nb14 : nlen 4294967296 (y * D1) ≤ 10 := nlen_mul b32 ny nD1
  have nb15 : nlen 4294967296 ((z * D2) + (y * D1)) ≤ 11 := nl_sum (Nat.le_trans nb13 (by omega)) (Nat.le_trans nb14 (by omega))
  have nb16 : nlen 4294967296 (D1 * D2) ≤ 10 := nlen_mul b32 nD1 nD2
  have nb17 : nlen 4294967296 (x * (D1 * D2)) ≤ 15 := nlen_mul b32 nx nb16
  have nb18 : nlen 4294967296 (((z * D2) + (y * D1)) * y) ≤ 16 := nlen_mul b32 nb15 ny
  have nb19 : nlen 4294967296 ((x * (D1 * D2)) + (((z * D2) + (y * D1)) * y)) ≤ 17 := nl_sum (Nat.le_trans nb17 (by omega)) (Nat.le_trans nb18 (by omega))
  have nb20 : nlen 4294967296 (y * (D1 * D2)) ≤ 15 := nlen_mul b32 ny nb16
  have nb21 : nlen 4294967296 (x * z) ≤ 10 := nlen_mul b32 nx nz
  have nb22 : nlen 4294967296 (y * D1) ≤ 10 := nlen_mul b32 ny nD1
  have nb23 : nlen 4294967296 (z * x) ≤ 10 := nlen_mul b32 nz nx
  have nb24 : nlen 4294967296 (D1 * y) ≤ 10 := nlen_mul b32 nD1 ny
  have nb25 : nlen 4294967296 (((x * D1) + (z * y)) * y) ≤ 16 := nlen_mul b32 nb3 ny
  have nb26 : nlen 4294967296 ((y * D1) * D2) ≤ 15 := nlen_mul b32 nb4 nD2
  have nb27 : nlen 4294967296 (x * y) ≤ 10 := nlen_mul b32 nx ny
  have nb28 : nlen 4294967296 (y * D2) ≤ 10 := nlen_mul b32 ny nD2
  have nb29 : nlen 4294967296 (z * y) ≤ 10 := nlen_mul b32 nz ny
  have nb30 : nlen 4294967296 (D1 * D2) ≤ 10 := nlen_mul b32 nD1 nD2
  have nb31 : nlen 4294967296 ((x * y) * (D1 * D2)) ≤ 20 := nlen_mul b32 nb27 nb30
  have nb32 : nlen 4294967296 ((z * y) * (y * D2)) ≤ 20 := nlen_mul b32 nb29 nb28
  have nb33 : nlen 4294967296 (((x * y) * (D1 * D2)) + ((z * y) * (y * D2))) ≤ 21 := nl_sum (Nat.le_trans nb31 (by omega)) (Nat.le_trans nb32 (by omega))
  have nb34 : nlen 4294967296 ((y * D2) * (D1 * D2)) ≤ 20 := nlen_mul b32 nb28 nb30
  have nb35 : nlen 4294967296 (((x * D1) + (z * y)) * D1) ≤ 16 := nlen_mul b32 nb3 nD1
  have nb36 : nlen 4294967296 (z * (y * D1)) ≤ 15 := nlen_mul b32 nz nb4
  have nb37 : nlen 4294967296 (awayN (((x * D1) + (z * y)) * D1) (z * (y * D1))) ≤ 16 := nl_away (Nat.le_trans nb35 (by omega)) (Nat.le_trans nb36 (by omega))
  have nb38 : nlen 4294967296 ((y * D1) * D1) ≤ 15 := nlen_mul b32 nb4 nD1
  have HT := hide (Tab.fr HT.out FW.out)
  refine (addR_any _ _ x y z D1 _ HT.out RV1.out RV2.out (Nat.le_trans nx (by omega)) (Nat.le_trans ny (by omega)) (Nat.le_trans nz (by omega)) (Nat.le_trans nD1 (by omega))).mono ?_
  rintro e w4 ⟨v4, rfl, rs, fy⟩
  obtain ⟨u41, u42, u43, u44, u45, u46, rfl⟩ := rs.form
  have RS := hide rs
  have S7 := hide (S7.out.fr fy)
  have S10 := hide (S10.out.fr fy)
  have S13 := hide (S13.out.fr fy)
  have RV1 := hide (RV1.out.fr fy)
  have RV2 := hide (RV2.out.fr fy)
  have RV3 := hide (RV3.out.fr fy)
  have HT := hide (HT.out.fr fy)
  have FW := hide (FW.out.trans fy)
  have l4 := cell_lt S13.out.1
  simp only [] at l4
  clear fy rs
  go_wp2_with fail
  obtain ⟨W4, hW4⟩ : ∃ W, W = (w4.alloc (Obj.cells #[Value.slice u41 u42 u43, Value.slice u44 u45 u46] 26)) := ⟨_, rfl⟩
  have fy : Fr w4 W4 := by rw [hW4]; exact (Fr.alloc w4 (Obj.cells #[Value.slice u41 u42 u43, Value.slice u44 u45 u46] 26))
  have s16 : Slot2 w4 W4 (w4.heap.size) (.slice u41 u42 u43) (.slice u44 u45 u46) := by
    rw [hW4]; simpa using Slot2.new (Fr.refl w4) u41 u42 u43 u44 u45 u46 26
  rw [← hW4]
  clear hW4
  have S16 := hide s16
  have S7 := hide (S7.out.fr fy)
  have S10 := hide (S10.out.fr fy)
  have S13 := hide (S13.out.fr fy)
  have RV1 := hide (RV1.out.fr fy)
  have RV2 := hide (RV2.out.fr fy)
  have RV3 := hide (RV3.out.fr fy)
  have RS := hide (RS.out.fr fy)
  have HT := hide (HT.out.fr fy)
  have FW := hide (FW.out.trans fy)
  clear s16 fy
  have S7 := hide (S7.out.fr (Fr.drew _))
  have S10 := hide (S10.out.fr (Fr.drew _))
  have S13 := hide (S13.out.fr (Fr.drew _))
  have S16 := hide (S16.out.fr (Fr.drew _))
  have RV1 := hide (RV1.out.fr (Fr.drew _))
  have RV2 := hide (RV2.out.fr (Fr.drew _))
  have RV3 := hide (RV3.out.fr (Fr.drew _))
  have RS := hide (RS.out.fr (Fr.drew _))
  have HT := hide (HT.out.fr (Fr.drew _))
  have FW := hide (FW.out.trans (Fr.drew _))
  have q7 := S7.out.1
  have q7' := S7.out.2.1
  have q10 := S10.out.1
  have q10' := S10.out.2.1
  have q13 := S13.out.1
  have q13' := S13.out.2.1
  have q16 := S16.out.1
  have q16' := S16.out.2.1
  go_wp2_with fail
  refine wp_region_held_drew (S := (fun w' => w'.cell? ⟨w1.heap.size, 0, none⟩ = some (.slice u11 u12 u13) ∧ w'.cell? ⟨w1.heap.size, 1, none⟩ = some (.slice u14 u15 u16) ∧ w'.cell? ⟨w2.heap.size, 0, none⟩ = some (.slice u21 u22 u23) ∧ w'.cell? ⟨w2.heap.size, 1, none⟩ = some (.slice u24 u25 u26) ∧ w'.cell? ⟨w3.heap.size, 0, none⟩ = some (.slice u31 u32 u33) ∧ w'.cell? ⟨w3.heap.size, 1, none⟩ = some (.slice u34 u35 u36) ∧ w'.cell? ⟨w4.heap.size, 0, none⟩ = some (.slice u41 u42 u43) ∧ w'.cell? ⟨w4.heap.size, 1, none⟩ = some (.slice u44 u45 u46))) (by kernel_rfl) ?_ (fun hHeld => ?_)
  · exact ⟨S7.out.1, S7.out.2.1, S10.out.1, S10.out.2.1, S13.out.1, S13.out.2.1, S16.out.1, S16.out.2.1⟩
  obtain ⟨wd, hwd⟩ : ∃ wd, wd = W4.drew := ⟨_, rfl⟩
  rw [← hwd] at hHeld S7 S10 S13 S16 RV1 RV2 RV3 RS HT FW ⊢
  clear hwd
  refine wpAnyH_ready (rs := [0]) (by kernel_rfl) (by simp) ?_
  refine AllReadyH.cons rfl (fun K hK => ?_) AllReadyH.nil
  go_simp
  refine (wakes_any _ HT.out).mono ?_
  rintro e wk ⟨rfl, fy⟩
  have S7 := hide (S7.out.fr fy)
  have S10 := hide (S10.out.fr fy)
  have S13 := hide (S13.out.fr fy)
  have S16 := hide (S16.out.fr fy)
  have RV1 := hide (RV1.out.fr fy)
  have RV2 := hide (RV2.out.fr fy)
  have RV3 := hide (RV3.out.fr fy)
  have RS := hide (RS.out.fr fy)
  have HT := hide (HT.out.fr fy)
  have FW := hide (FW.out.trans fy)
  clear fy
  (try go_wp2_with fail)
  refine hK.out _ _ ?_ (fun hHeld => ?_)
  · (try dsimp only)
    exact ⟨S7.out.1, S7.out.2.1, S10.out.1, S10.out.2.1, S13.out.1, S13.out.2.1, S16.out.1, S16.out.2.1⟩
  clear hK K
  (try simp only [Act.put, List.getElem_toArray, List.getElem_cons_zero, List.getElem_cons_succ, List.setIfInBounds_toArray, List.set_cons_zero, List.set_cons_succ])
  refine wpAnyH_take (i := 1) (v := ?_) rfl (by kernel_rfl) (by kernel_rfl) (by kernel_rfl) (fun _ _ _ h => h) (Or.inl ⟨by rfl, ?_⟩) (by assumption) ?_
  rotate_left
  · (intro w hSw; (try dsimp only at hSw); go_simp; try with_reducible rfl)
  (try simp only [Act.put, List.getElem_toArray, List.getElem_cons_zero, List.getElem_cons_succ, List.setIfInBounds_toArray, List.set_cons_zero, List.set_cons_succ])
  refine wpAnyH_take (i := 2) (v := ?_) rfl (by kernel_rfl) (by kernel_rfl) (by kernel_rfl) (fun _ _ _ h => h) (Or.inl ⟨by rfl, ?_⟩) (by assumption) ?_
  rotate_left
  · (intro w hSw; (try dsimp only at hSw); go_simp; try with_reducible rfl)
  (try simp only [Act.put, List.getElem_toArray, List.getElem_cons_zero, List.getElem_cons_succ, List.setIfInBounds_toArray, List.set_cons_zero, List.set_cons_succ])
  refine wpAnyH_take (i := 3) (v := ?_) rfl (by kernel_rfl) (by kernel_rfl) (by kernel_rfl) (fun _ _ _ h => h) (Or.inl ⟨by rfl, ?_⟩) (by assumption) ?_
  rotate_left
  · (intro w hSw; (try dsimp only at hSw); go_simp; try with_reducible rfl)
  (try simp only [Act.put, List.getElem_toArray, List.getElem_cons_zero, List.getElem_cons_succ, List.setIfInBounds_toArray, List.set_cons_zero, List.set_cons_succ])
  refine wpAnyH_take (i := 4) (v := ?_) rfl (by kernel_rfl) (by kernel_rfl) (by kernel_rfl) (fun _ _ _ h => h) (Or.inl ⟨by rfl, ?_⟩) (by assumption) ?_
  rotate_left
  · (intro w hSw; (try dsimp only at hSw); go_simp; try with_reducible rfl)
  (try simp only [Act.put, List.getElem_toArray, List.getElem_cons_zero, List.getElem_cons_succ, List.setIfInBounds_toArray, List.set_cons_zero, List.set_cons_succ])
  refine wpAnyH_ready (rs := [5]) (by kernel_rfl) (by simp) ?_
  refine AllReadyH.cons rfl (fun K hK => ?_) AllReadyH.nil
  go_simp
  refine (addR_any _ _ z D1 x y _ HT.out RV2.out RV1.out (Nat.le_trans nz (by omega)) (Nat.le_trans nD1 (by omega)) (Nat.le_trans nx (by omega)) (Nat.le_trans ny (by omega))).mono ?_
  rintro e wn1 ⟨v_, rfl, ry, fy⟩
  obtain ⟨r11, r12, r13, r14, r15, r16, rfl⟩ := ry.form
  have R5 := hide ry
  have S7 := hide (S7.out.fr fy)
  have S10 := hide (S10.out.fr fy)
  have S13 := hide (S13.out.fr fy)
  have S16 := hide (S16.out.fr fy)
  have RV1 := hide (RV1.out.fr fy)
  have RV2 := hide (RV2.out.fr fy)
  have RV3 := hide (RV3.out.fr fy)
  have RS := hide (RS.out.fr fy)
  have HT := hide (HT.out.fr fy)
  have FW := hide (FW.out.trans fy)
  clear fy ry
  (try go_wp2_with fail)
  refine hK.out _ _ ?_ (fun hHeld => ?_)
  · (try dsimp only)
    exact ⟨S7.out.1, S7.out.2.1, S10.out.1, S10.out.2.1, S13.out.1, S13.out.2.1, S16.out.1, S16.out.2.1⟩
  clear hK K
  (try simp only [Act.put, List.getElem_toArray, List.getElem_cons_zero, List.getElem_cons_succ, List.setIfInBounds_toArray, List.set_cons_zero, List.set_cons_succ])
  refine wpAnyH_ready (rs := [6]) (by kernel_rfl) (by simp) ?_
  refine AllReadyH.cons rfl (fun K hK => ?_) AllReadyH.nil
  go_simp
  refine (cmpR_any _ _ ((x * D1) + (z * y)) (y * D1) ((z * y) + (x * D1)) (D1 * y) _ HT.out RS.out R5.out (Nat.le_trans nb3 (by omega)) (Nat.le_trans nb4 (by omega)) (Nat.le_trans nb7 (by omega)) (Nat.le_trans nb8 (by omega)) 0 (cmpZ_eq (eq_comm8 x y z D1))).mono ?_
  rintro e wn2 ⟨rfl, fy⟩
  have S7 := hide (S7.out.fr fy)
  have S10 := hide (S10.out.fr fy)
  have S13 := hide (S13.out.fr fy)
  have S16 := hide (S16.out.fr fy)
  have RV1 := hide (RV1.out.fr fy)
  have RV2 := hide (RV2.out.fr fy)
  have RV3 := hide (RV3.out.fr fy)
  have RS := hide (RS.out.fr fy)
  have HT := hide (HT.out.fr fy)
  have FW := hide (FW.out.trans fy)
  clear fy R5
  (try go_wp2_with fail)
  refine hK.out _ _ ?_ (fun hHeld => ?_)
  · (try dsimp only)
    exact ⟨S7.out.1, S7.out.2.1, S10.out.1, S10.out.2.1, S13.out.1, S13.out.2.1, S16.out.1, S16.out.2.1⟩
  clear hK K
  (try simp only [Act.put, List.getElem_toArray, List.getElem_cons_zero, List.getElem_cons_succ, List.setIfInBounds_toArray, List.set_cons_zero, List.set_cons_succ])
  refine wpAnyH_take (i := 7) (v := ?_) rfl (by kernel_rfl) (by kernel_rfl) (by kernel_rfl) (fun _ _ _ h => h) (Or.inl ⟨by rfl, ?_⟩) (by assumption) ?_
  rotate_left
  · (intro w hSw; (try dsimp only at hSw); go_simp; try with_reducible rfl)
  (try simp only [Act.put, List.getElem_toArray, List.getElem_cons_zero, List.getElem_cons_succ, List.setIfInBounds_toArray, List.set_cons_zero, List.set_cons_succ])
  refine wpAnyH_take (i := 8) (v := ?_) rfl (by kernel_rfl) (by kernel_rfl) (by kernel_rfl) (fun _ _ _ h => h) (Or.inl ⟨by rfl, ?_⟩) (by assumption) ?_
  rotate_left
  · (intro w hSw; (try dsimp only at hSw); go_simp; try with_reducible rfl)
  (try simp only [Act.put, List.getElem_toArray, List.getElem_cons_zero, List.getElem_cons_succ, List.setIfInBounds_toArray, List.set_cons_zero, List.set_cons_succ])
  refine wpAnyH_take (i := 9) (v := ?_) rfl (by kernel_rfl) (by kernel_rfl) (by kernel_rfl) (fun _ _ _ h => h) (Or.inl ⟨by rfl, ?_⟩) (by assumption) ?_
  rotate_left
  · (intro w hSw; (try dsimp only at hSw); go_simp; try with_reducible rfl)
  (try simp only [Act.put, List.getElem_toArray, List.getElem_cons_zero, List.getElem_cons_succ, List.setIfInBounds_toArray, List.set_cons_zero, List.set_cons_succ])
  refine wpAnyH_take (i := 10) (v := ?_) rfl (by kernel_rfl) (by kernel_rfl) (by kernel_rfl) (fun _ _ _ h => h) (Or.inl ⟨by rfl, ?_⟩) (by assumption) ?_
  rotate_left
  · (intro w hSw; (try dsimp only at hSw); go_simp; try with_reducible rfl)
  (try simp only [Act.put, List.getElem_toArray, List.getElem_cons_zero, List.getElem_cons_succ, List.setIfInBounds_toArray, List.set_cons_zero, List.set_cons_succ])
  refine wpAnyH_take (i := 11) (v := ?_) rfl (by kernel_rfl) (by kernel_rfl) (by kernel_rfl) (fun _ _ _ h => h) (Or.inl ⟨by rfl, ?_⟩) (by assumption) ?_
  rotate_left
  · (intro w hSw; (try dsimp only at hSw); go_simp; try with_reducible rfl)
  (try simp only [Act.put, List.getElem_toArray, List.getElem_cons_zero, List.getElem_cons_succ, List.setIfInBounds_toArray, List.set_cons_zero, List.set_cons_succ])
  refine wpAnyH_take (i := 13) (v := ?_) rfl (by kernel_rfl) (by kernel_rfl) (by kernel_rfl) (fun _ _ _ h => h) (Or.inl ⟨by rfl, ?_⟩) (by assumption) ?_
  rotate_left
  · (intro w hSw; (try dsimp only at hSw); go_simp; try with_reducible rfl)
  (try simp only [Act.put, List.getElem_toArray, List.getElem_cons_zero, List.getElem_cons_succ, List.setIfInBounds_toArray, List.set_cons_zero, List.set_cons_succ])
  refine wpAnyH_take (i := 14) (v := ?_) rfl (by kernel_rfl) (by kernel_rfl) (by kernel_rfl) (fun _ _ _ h => h) (Or.inl ⟨by rfl, ?_⟩) (by assumption) ?_
  rotate_left
  · (intro w hSw; (try dsimp only at hSw); go_simp; try with_reducible rfl)
  (try simp only [Act.put, List.getElem_toArray, List.getElem_cons_zero, List.getElem_cons_succ, List.setIfInBounds_toArray, List.set_cons_zero, List.set_cons_succ])
  refine wpAnyH_take (i := 15) (v := ?_) rfl (by kernel_rfl) (by kernel_rfl) (by kernel_rfl) (fun _ _ _ h => h) (Or.inl ⟨by rfl, ?_⟩) (by assumption) ?_
  rotate_left
  · (intro w hSw; (try dsimp only at hSw); go_simp; try with_reducible rfl)
  (try simp only [Act.put, List.getElem_toArray, List.getElem_cons_zero, List.getElem_cons_succ, List.setIfInBounds_toArray, List.set_cons_zero, List.set_cons_succ])
  refine wpAnyH_ready (rs := [12]) (by kernel_rfl) (by simp) ?_
  refine AllReadyH.cons rfl (fun K hK => ?_) AllReadyH.nil
  go_simp
  refine (addR_any _ _ ((x * D1) + (z * y)) (y * D1) y D2 _ HT.out RS.out RV3.out (Nat.le_trans nb3 (by omega)) (Nat.le_trans nb4 (by omega)) (Nat.le_trans ny (by omega)) (Nat.le_trans nD2 (by omega))).mono ?_
  rintro e wn3 ⟨v_, rfl, ry, fy⟩
  obtain ⟨r31, r32, r33, r34, r35, r36, rfl⟩ := ry.form
  have R12 := hide ry
  have S7 := hide (S7.out.fr fy)
  have S10 := hide (S10.out.fr fy)
  have S13 := hide (S13.out.fr fy)
  have S16 := hide (S16.out.fr fy)
  have RV1 := hide (RV1.out.fr fy)
  have RV2 := hide (RV2.out.fr fy)
  have RV3 := hide (RV3.out.fr fy)
  have RS := hide (RS.out.fr fy)
  have HT := hide (HT.out.fr fy)
  have FW := hide (FW.out.trans fy)
  clear fy ry
  (try go_wp2_with fail)
  refine hK.out _ _ ?_ (fun hHeld => ?_)
  · (try dsimp only)
    exact ⟨S7.out.1, S7.out.2.1, S10.out.1, S10.out.2.1, S13.out.1, S13.out.2.1, S16.out.1, S16.out.2.1⟩
  clear hK K
  (try simp only [Act.put, List.getElem_toArray, List.getElem_cons_zero, List.getElem_cons_succ, List.setIfInBounds_toArray, List.set_cons_zero, List.set_cons_succ])
  refine wpAnyH_ready (rs := [16]) (by kernel_rfl) (by simp) ?_
  refine AllReadyH.cons rfl (fun K hK => ?_) AllReadyH.nil
  go_simp
  refine (addR_any _ _ z D1 y D2 _ HT.out RV2.out RV3.out (Nat.le_trans nz (by omega)) (Nat.le_trans nD1 (by omega)) (Nat.le_trans ny (by omega)) (Nat.le_trans nD2 (by omega))).mono ?_
  rintro e wn4 ⟨v_, rfl, ry, fy⟩
  obtain ⟨r41, r42, r43, r44, r45, r46, rfl⟩ := ry.form
  have R16 := hide ry
  have S7 := hide (S7.out.fr fy)
  have S10 := hide (S10.out.fr fy)
  have S13 := hide (S13.out.fr fy)
  have S16 := hide (S16.out.fr fy)
  have RV1 := hide (RV1.out.fr fy)
  have RV2 := hide (RV2.out.fr fy)
  have RV3 := hide (RV3.out.fr fy)
  have RS := hide (RS.out.fr fy)
  have HT := hide (HT.out.fr fy)
  have R12 := hide (R12.out.fr fy)
  have FW := hide (FW.out.trans fy)
  clear fy ry
  (try go_wp2_with fail)
  refine hK.out _ _ ?_ (fun hHeld => ?_)
  · (try dsimp only)
    exact ⟨S7.out.1, S7.out.2.1, S10.out.1, S10.out.2.1, S13.out.1, S13.out.2.1, S16.out.1, S16.out.2.1⟩
  clear hK K
  (try simp only [Act.put, List.getElem_toArray, List.getElem_cons_zero, List.getElem_cons_succ, List.setIfInBounds_toArray, List.set_cons_zero, List.set_cons_succ])
  refine wpAnyH_ready (rs := [17]) (by kernel_rfl) (by simp) ?_
  refine AllReadyH.cons rfl (fun K hK => ?_) AllReadyH.nil
  go_simp
  refine (addR_any _ _ x y ((z * D2) + (y * D1)) (D1 * D2) _ HT.out RV1.out R16.out (Nat.le_trans nx (by omega)) (Nat.le_trans ny (by omega)) (Nat.le_trans nb15 (by omega)) (Nat.le_trans nb16 (by omega))).mono ?_
  rintro e wn5 ⟨v_, rfl, ry, fy⟩
  obtain ⟨r51, r52, r53, r54, r55, r56, rfl⟩ := ry.form
  have R17 := hide ry
  have S7 := hide (S7.out.fr fy)
  have S10 := hide (S10.out.fr fy)
  have S13 := hide (S13.out.fr fy)
  have S16 := hide (S16.out.fr fy)
  have RV1 := hide (RV1.out.fr fy)
  have RV2 := hide (RV2.out.fr fy)
  have RV3 := hide (RV3.out.fr fy)
  have RS := hide (RS.out.fr fy)
  have HT := hide (HT.out.fr fy)
  have R12 := hide (R12.out.fr fy)
  have FW := hide (FW.out.trans fy)
  clear fy ry
  (try go_wp2_with fail)
  refine hK.out _ _ ?_ (fun hHeld => ?_)
  · (try dsimp only)
    exact ⟨S7.out.1, S7.out.2.1, S10.out.1, S10.out.2.1, S13.out.1, S13.out.2.1, S16.out.1, S16.out.2.1⟩
  clear hK K
  (try simp only [Act.put, List.getElem_toArray, List.getElem_cons_zero, List.getElem_cons_succ, List.setIfInBounds_toArray, List.set_cons_zero, List.set_cons_succ])
  refine wpAnyH_ready (rs := [18]) (by kernel_rfl) (by simp) ?_
  refine AllReadyH.cons rfl (fun K hK => ?_) AllReadyH.nil
  go_simp
  refine (cmpR_any _ _ ((((x * D1) + (z * y)) * D2) + (y * (y * D1))) ((y * D1) * D2) ((x * (D1 * D2)) + (((z * D2) + (y * D1)) * y)) (y * (D1 * D2)) _ HT.out R12.out R17.out (Nat.le_trans nb11 (by omega)) (Nat.le_trans nb12 (by omega)) (Nat.le_trans nb19 (by omega)) (Nat.le_trans nb20 (by omega)) 0 (cmpZ_eq (eq_assoc8 x y z D1 y D2))).mono ?_
  rintro e wn6 ⟨rfl, fy⟩
  have S7 := hide (S7.out.fr fy)
  have S10 := hide (S10.out.fr fy)
  have S13 := hide (S13.out.fr fy)
  have S16 := hide (S16.out.fr fy)
  have RV1 := hide (RV1.out.fr fy)
  have RV2 := hide (RV2.out.fr fy)
  have RV3 := hide (RV3.out.fr fy)
  have RS := hide (RS.out.fr fy)
  have HT := hide (HT.out.fr fy)
  have FW := hide (FW.out.trans fy)
  clear fy R12 R16 R17
  (try go_wp2_with fail)
  refine hK.out _ _ ?_ (fun hHeld => ?_)
  · (try dsimp only)
    exact ⟨S7.out.1, S7.out.2.1, S10.out.1, S10.out.2.1, S13.out.1, S13.out.2.1, S16.out.1, S16.out.2.1⟩
  clear hK K
  (try simp only [Act.put, List.getElem_toArray, List.getElem_cons_zero, List.getElem_cons_succ, List.setIfInBounds_toArray, List.set_cons_zero, List.set_cons_succ])
  refine wpAnyH_take (i := 19) (v := ?_) rfl (by kernel_rfl) (by kernel_rfl) (by kernel_rfl) (fun _ _ _ h => h) (Or.inl ⟨by rfl, ?_⟩) (by assumption) ?_
  rotate_left
  · (intro w hSw; (try dsimp only at hSw); go_simp; try with_reducible rfl)
  (try simp only [Act.put, List.getElem_toArray, List.getElem_cons_zero, List.getElem_cons_succ, List.setIfInBounds_toArray, List.set_cons_zero, List.set_cons_succ])
  refine wpAnyH_take (i := 20) (v := ?_) rfl (by kernel_rfl) (by kernel_rfl) (by kernel_rfl) (fun _ _ _ h => h) (Or.inl ⟨by rfl, ?_⟩) (by assumption) ?_
  rotate_left
  · (intro w hSw; (try dsimp only at hSw); go_simp; try with_reducible rfl)
  (try simp only [Act.put, List.getElem_toArray, List.getElem_cons_zero, List.getElem_cons_succ, List.setIfInBounds_toArray, List.set_cons_zero, List.set_cons_succ])
  refine wpAnyH_take (i := 21) (v := ?_) rfl (by kernel_rfl) (by kernel_rfl) (by kernel_rfl) (fun _ _ _ h => h) (Or.inl ⟨by rfl, ?_⟩) (by assumption) ?_
  rotate_left
  · (intro w hSw; (try dsimp only at hSw); go_simp; try with_reducible rfl)
  (try simp only [Act.put, List.getElem_toArray, List.getElem_cons_zero, List.getElem_cons_succ, List.setIfInBounds_toArray, List.set_cons_zero, List.set_cons_succ])
  refine wpAnyH_take (i := 22) (v := ?_) rfl (by kernel_rfl) (by kernel_rfl) (by kernel_rfl) (fun _ _ _ h => h) (Or.inl ⟨by rfl, ?_⟩) (by assumption) ?_
  rotate_left
  · (intro w hSw; (try dsimp only at hSw); go_simp; try with_reducible rfl)
  (try simp only [Act.put, List.getElem_toArray, List.getElem_cons_zero, List.getElem_cons_succ, List.setIfInBounds_toArray, List.set_cons_zero, List.set_cons_succ])
  refine wpAnyH_take (i := 23) (v := ?_) rfl (by kernel_rfl) (by kernel_rfl) (by kernel_rfl) (fun _ _ _ h => h) (Or.inl ⟨by rfl, ?_⟩) (by assumption) ?_
  rotate_left
  · (intro w hSw; (try dsimp only at hSw); go_simp; try with_reducible rfl)
  (try simp only [Act.put, List.getElem_toArray, List.getElem_cons_zero, List.getElem_cons_succ, List.setIfInBounds_toArray, List.set_cons_zero, List.set_cons_succ])
  refine wpAnyH_take (i := 25) (v := ?_) rfl (by kernel_rfl) (by kernel_rfl) (by kernel_rfl) (fun _ _ _ h => h) (Or.inl ⟨by rfl, ?_⟩) (by assumption) ?_
  rotate_left
  · (intro w hSw; (try dsimp only at hSw); go_simp; try with_reducible rfl)
  (try simp only [Act.put, List.getElem_toArray, List.getElem_cons_zero, List.getElem_cons_succ, List.setIfInBounds_toArray, List.set_cons_zero, List.set_cons_succ])
  refine wpAnyH_take (i := 26) (v := ?_) rfl (by kernel_rfl) (by kernel_rfl) (by kernel_rfl) (fun _ _ _ h => h) (Or.inl ⟨by rfl, ?_⟩) (by assumption) ?_
  rotate_left
  · (intro w hSw; (try dsimp only at hSw); go_simp; try with_reducible rfl)
  (try simp only [Act.put, List.getElem_toArray, List.getElem_cons_zero, List.getElem_cons_succ, List.setIfInBounds_toArray, List.set_cons_zero, List.set_cons_succ])
  refine wpAnyH_ready (rs := [24]) (by kernel_rfl) (by simp) ?_
  refine AllReadyH.cons rfl (fun K hK => ?_) AllReadyH.nil
  go_simp
  refine (mulR_any _ _ x y z D1 _ HT.out RV1.out RV2.out (Nat.le_trans nx (by omega)) (Nat.le_trans ny (by omega)) (Nat.le_trans nz (by omega)) (Nat.le_trans nD1 (by omega))).mono ?_
  rintro e wn7 ⟨v_, rfl, ry, fy⟩
  obtain ⟨r71, r72, r73, r74, r75, r76, rfl⟩ := ry.form
  have R24 := hide ry
  have S7 := hide (S7.out.fr fy)
  have S10 := hide (S10.out.fr fy)
  have S13 := hide (S13.out.fr fy)
  have S16 := hide (S16.out.fr fy)
  have RV1 := hide (RV1.out.fr fy)
  have RV2 := hide (RV2.out.fr fy)
  have RV3 := hide (RV3.out.fr fy)
  have RS := hide (RS.out.fr fy)
  have HT := hide (HT.out.fr fy)
  have FW := hide (FW.out.trans fy)
  clear fy ry
  (try go_wp2_with fail)
  refine hK.out _ _ ?_ (fun hHeld => ?_)
  · (try dsimp only)
    exact ⟨S7.out.1, S7.out.2.1, S10.out.1, S10.out.2.1, S13.out.1, S13.out.2.1, S16.out.1, S16.out.2.1⟩
  clear hK K
  (try simp only [Act.put, List.getElem_toArray, List.getElem_cons_zero, List.getElem_cons_succ, List.setIfInBounds_toArray, List.set_cons_zero, List.set_cons_succ])
  refine wpAnyH_ready (rs := [27]) (by kernel_rfl) (by simp) ?_
  refine AllReadyH.cons rfl (fun K hK => ?_) AllReadyH.nil
  go_simp
  refine (mulR_any _ _ z D1 x y _ HT.out RV2.out RV1.out (Nat.le_trans nz (by omega)) (Nat.le_trans nD1 (by omega)) (Nat.le_trans nx (by omega)) (Nat.le_trans ny (by omega))).mono ?_
  rintro e wn8 ⟨v_, rfl, ry, fy⟩
  obtain ⟨r81, r82, r83, r84, r85, r86, rfl⟩ := ry.form
  have R27 := hide ry
  have S7 := hide (S7.out.fr fy)
  have S10 := hide (S10.out.fr fy)
  have S13 := hide (S13.out.fr fy)
  have S16 := hide (S16.out.fr fy)
  have RV1 := hide (RV1.out.fr fy)
  have RV2 := hide (RV2.out.fr fy)
  have RV3 := hide (RV3.out.fr fy)
  have RS := hide (RS.out.fr fy)
  have HT := hide (HT.out.fr fy)
  have R24 := hide (R24.out.fr fy)
  have FW := hide (FW.out.trans fy)
  clear fy ry
  (try go_wp2_with fail)
  refine hK.out _ _ ?_ (fun hHeld => ?_)
  · (try dsimp only)
    exact ⟨S7.out.1, S7.out.2.1, S10.out.1, S10.out.2.1, S13.out.1, S13.out.2.1, S16.out.1, S16.out.2.1⟩
  clear hK K
  (try simp only [Act.put, List.getElem_toArray, List.getElem_cons_zero, List.getElem_cons_succ, List.setIfInBounds_toArray, List.set_cons_zero, List.set_cons_succ])
  refine wpAnyH_ready (rs := [28]) (by kernel_rfl) (by simp) ?_
  refine AllReadyH.cons rfl (fun K hK => ?_) AllReadyH.nil
  go_simp
  refine (cmpR_any _ _ (x * z) (y * D1) (z * x) (D1 * y) _ HT.out R24.out R27.out (Nat.le_trans nb21 (by omega)) (Nat.le_trans nb22 (by omega)) (Nat.le_trans nb23 (by omega)) (Nat.le_trans nb24 (by omega)) 0 (cmpZ_eq (eq_mul8 x y z D1))).mono ?_
  rintro e wn9 ⟨rfl, fy⟩
  have S7 := hide (S7.out.fr fy)
  have S10 := hide (S10.out.fr fy)
  have S13 := hide (S13.out.fr fy)
  have S16 := hide (S16.out.fr fy)
  have RV1 := hide (RV1.out.fr fy)
  have RV2 := hide (RV2.out.fr fy)
  have RV3 := hide (RV3.out.fr fy)
  have RS := hide (RS.out.fr fy)
  have HT := hide (HT.out.fr fy)
  have FW := hide (FW.out.trans fy)
  clear fy R24 R27
  (try go_wp2_with fail)
  refine hK.out _ _ ?_ (fun hHeld => ?_)
  · (try dsimp only)
    exact ⟨S7.out.1, S7.out.2.1, S10.out.1, S10.out.2.1, S13.out.1, S13.out.2.1, S16.out.1, S16.out.2.1⟩
  clear hK K
  (try simp only [Act.put, List.getElem_toArray, List.getElem_cons_zero, List.getElem_cons_succ, List.setIfInBounds_toArray, List.set_cons_zero, List.set_cons_succ])
  refine wpAnyH_take (i := 29) (v := ?_) rfl (by kernel_rfl) (by kernel_rfl) (by kernel_rfl) (fun _ _ _ h => h) (Or.inl ⟨by rfl, ?_⟩) (by assumption) ?_
  rotate_left
  · (intro w hSw; (try dsimp only at hSw); go_simp; try with_reducible rfl)
  (try simp only [Act.put, List.getElem_toArray, List.getElem_cons_zero, List.getElem_cons_succ, List.setIfInBounds_toArray, List.set_cons_zero, List.set_cons_succ])
  refine wpAnyH_take (i := 30) (v := ?_) rfl (by kernel_rfl) (by kernel_rfl) (by kernel_rfl) (fun _ _ _ h => h) (Or.inl ⟨by rfl, ?_⟩) (by assumption) ?_
  rotate_left
  · (intro w hSw; (try dsimp only at hSw); go_simp; try with_reducible rfl)
  (try simp only [Act.put, List.getElem_toArray, List.getElem_cons_zero, List.getElem_cons_succ, List.setIfInBounds_toArray, List.set_cons_zero, List.set_cons_succ])
  refine wpAnyH_take (i := 31) (v := ?_) rfl (by kernel_rfl) (by kernel_rfl) (by kernel_rfl) (fun _ _ _ h => h) (Or.inl ⟨by rfl, ?_⟩) (by assumption) ?_
  rotate_left
  · (intro w hSw; (try dsimp only at hSw); go_simp; try with_reducible rfl)
  (try simp only [Act.put, List.getElem_toArray, List.getElem_cons_zero, List.getElem_cons_succ, List.setIfInBounds_toArray, List.set_cons_zero, List.set_cons_succ])
  refine wpAnyH_take (i := 32) (v := ?_) rfl (by kernel_rfl) (by kernel_rfl) (by kernel_rfl) (fun _ _ _ h => h) (Or.inl ⟨by rfl, ?_⟩) (by assumption) ?_
  rotate_left
  · (intro w hSw; (try dsimp only at hSw); go_simp; try with_reducible rfl)
  (try simp only [Act.put, List.getElem_toArray, List.getElem_cons_zero, List.getElem_cons_succ, List.setIfInBounds_toArray, List.set_cons_zero, List.set_cons_succ])
  refine wpAnyH_take (i := 33) (v := ?_) rfl (by kernel_rfl) (by kernel_rfl) (by kernel_rfl) (fun _ _ _ h => h) (Or.inl ⟨by rfl, ?_⟩) (by assumption) ?_
  rotate_left
  · (intro w hSw; (try dsimp only at hSw); go_simp; try with_reducible rfl)
  (try simp only [Act.put, List.getElem_toArray, List.getElem_cons_zero, List.getElem_cons_succ, List.setIfInBounds_toArray, List.set_cons_zero, List.set_cons_succ])
  refine wpAnyH_take (i := 35) (v := ?_) rfl (by kernel_rfl) (by kernel_rfl) (by kernel_rfl) (fun _ _ _ h => h) (Or.inl ⟨by rfl, ?_⟩) (by assumption) ?_
  rotate_left
  · (intro w hSw; (try dsimp only at hSw); go_simp; try with_reducible rfl)
  (try simp only [Act.put, List.getElem_toArray, List.getElem_cons_zero, List.getElem_cons_succ, List.setIfInBounds_toArray, List.set_cons_zero, List.set_cons_succ])
  refine wpAnyH_take (i := 36) (v := ?_) rfl (by kernel_rfl) (by kernel_rfl) (by kernel_rfl) (fun _ _ _ h => h) (Or.inl ⟨by rfl, ?_⟩) (by assumption) ?_
  rotate_left
  · (intro w hSw; (try dsimp only at hSw); go_simp; try with_reducible rfl)
  (try simp only [Act.put, List.getElem_toArray, List.getElem_cons_zero, List.getElem_cons_succ, List.setIfInBounds_toArray, List.set_cons_zero, List.set_cons_succ])
  refine wpAnyH_take (i := 38) (v := ?_) rfl (by kernel_rfl) (by kernel_rfl) (by kernel_rfl) (fun _ _ _ h => h) (Or.inl ⟨by rfl, ?_⟩) (by assumption) ?_
  rotate_left
  · (intro w hSw; (try dsimp only at hSw); go_simp; try with_reducible rfl)
  (try simp only [Act.put, List.getElem_toArray, List.getElem_cons_zero, List.getElem_cons_succ, List.setIfInBounds_toArray, List.set_cons_zero, List.set_cons_succ])
  refine wpAnyH_take (i := 39) (v := ?_) rfl (by kernel_rfl) (by kernel_rfl) (by kernel_rfl) (fun _ _ _ h => h) (Or.inl ⟨by rfl, ?_⟩) (by assumption) ?_
  rotate_left
  · (intro w hSw; (try dsimp only at hSw); go_simp; try with_reducible rfl)
  (try simp only [Act.put, List.getElem_toArray, List.getElem_cons_zero, List.getElem_cons_succ, List.setIfInBounds_toArray, List.set_cons_zero, List.set_cons_succ])
  refine wpAnyH_ready (rs := [34]) (by kernel_rfl) (by simp) ?_
  refine AllReadyH.cons rfl (fun K hK => ?_) AllReadyH.nil
  go_simp
  refine (mulR_any _ _ ((x * D1) + (z * y)) (y * D1) y D2 _ HT.out RS.out RV3.out (Nat.le_trans nb3 (by omega)) (Nat.le_trans nb4 (by omega)) (Nat.le_trans ny (by omega)) (Nat.le_trans nD2 (by omega))).mono ?_
  rintro e wn10 ⟨v_, rfl, ry, fy⟩
  obtain ⟨r101, r102, r103, r104, r105, r106, rfl⟩ := ry.form
  have R34 := hide ry
  have S7 := hide (S7.out.fr fy)
  have S10 := hide (S10.out.fr fy)
  have S13 := hide (S13.out.fr fy)
  have S16 := hide (S16.out.fr fy)
  have RV1 := hide (RV1.out.fr fy)
  have RV2 := hide (RV2.out.fr fy)
  have RV3 := hide (RV3.out.fr fy)
  have RS := hide (RS.out.fr fy)
  have HT := hide (HT.out.fr fy)
  have FW := hide (FW.out.trans fy)
  clear fy ry
  (try go_wp2_with fail)
  refine hK.out _ _ ?_ (fun hHeld => ?_)
  · (try dsimp only)
    exact ⟨S7.out.1, S7.out.2.1, S10.out.1, S10.out.2.1, S13.out.1, S13.out.2.1, S16.out.1, S16.out.2.1⟩
  clear hK K
  (try simp only [Act.put, List.getElem_toArray, List.getElem_cons_zero, List.getElem_cons_succ, List.setIfInBounds_toArray, List.set_cons_zero, List.set_cons_succ])
  refine wpAnyH_ready (rs := [37]) (by kernel_rfl) (by simp) ?_
  refine AllReadyH.cons rfl (fun K hK => ?_) AllReadyH.nil
  go_simp
  refine (mulR_any _ _ x y y D2 _ HT.out RV1.out RV3.out (Nat.le_trans nx (by omega)) (Nat.le_trans ny (by omega)) (Nat.le_trans ny (by omega)) (Nat.le_trans nD2 (by omega))).mono ?_
  rintro e wn11 ⟨v_, rfl, ry, fy⟩
  obtain ⟨r111, r112, r113, r114, r115, r116, rfl⟩ := ry.form
  have R37 := hide ry
  have S7 := hide (S7.out.fr fy)
  have S10 := hide (S10.out.fr fy)
  have S13 := hide (S13.out.fr fy)
  have S16 := hide (S16.out.fr fy)
  have RV1 := hide (RV1.out.fr fy)
  have RV2 := hide (RV2.out.fr fy)
  have RV3 := hide (RV3.out.fr fy)
  have RS := hide (RS.out.fr fy)
  have HT := hide (HT.out.fr fy)
  have R34 := hide (R34.out.fr fy)
  have FW := hide (FW.out.trans fy)
  clear fy ry
  (try go_wp2_with fail)
  refine hK.out _ _ ?_ (fun hHeld => ?_)
  · (try dsimp only)
    exact ⟨S7.out.1, S7.out.2.1, S10.out.1, S10.out.2.1, S13.out.1, S13.out.2.1, S16.out.1, S16.out.2.1⟩
  clear hK K
  (try simp only [Act.put, List.getElem_toArray, List.getElem_cons_zero, List.getElem_cons_succ, List.setIfInBounds_toArray, List.set_cons_zero, List.set_cons_succ])
  refine wpAnyH_ready (rs := [40]) (by kernel_rfl) (by simp) ?_
  refine AllReadyH.cons rfl (fun K hK => ?_) AllReadyH.nil
  go_simp
  refine (mulR_any _ _ z D1 y D2 _ HT.out RV2.out RV3.out (Nat.le_trans nz (by omega)) (Nat.le_trans nD1 (by omega)) (Nat.le_trans ny (by omega)) (Nat.le_trans nD2 (by omega))).mono ?_
  rintro e wn12 ⟨v_, rfl, ry, fy⟩
  obtain ⟨r121, r122, r123, r124, r125, r126, rfl⟩ := ry.form
  have R40 := hide ry
  have S7 := hide (S7.out.fr fy)
  have S10 := hide (S10.out.fr fy)
  have S13 := hide (S13.out.fr fy)
  have S16 := hide (S16.out.fr fy)
  have RV1 := hide (RV1.out.fr fy)
  have RV2 := hide (RV2.out.fr fy)
  have RV3 := hide (RV3.out.fr fy)
  have RS := hide (RS.out.fr fy)
  have HT := hide (HT.out.fr fy)
  have R34 := hide (R34.out.fr fy)
  have R37 := hide (R37.out.fr fy)
  have FW := hide (FW.out.trans fy)
  clear fy ry
  (try go_wp2_with fail)
  refine hK.out _ _ ?_ (fun hHeld => ?_)
  · (try dsimp only)
    exact ⟨S7.out.1, S7.out.2.1, S10.out.1, S10.out.2.1, S13.out.1, S13.out.2.1, S16.out.1, S16.out.2.1⟩
  clear hK K
  (try simp only [Act.put, List.getElem_toArray, List.getElem_cons_zero, List.getElem_cons_succ, List.setIfInBounds_toArray, List.set_cons_zero, List.set_cons_succ])
  refine wpAnyH_ready (rs := [41]) (by kernel_rfl) (by simp) ?_
  refine AllReadyH.cons rfl (fun K hK => ?_) AllReadyH.nil
  go_simp
  refine (addR_any _ _ (x * y) (y * D2) (z * y) (D1 * D2) _ HT.out R37.out R40.out (Nat.le_trans nb27 (by omega)) (Nat.le_trans nb28 (by omega)) (Nat.le_trans nb29 (by omega)) (Nat.le_trans nb30 (by omega))).mono ?_
  rintro e wn13 ⟨v_, rfl, ry, fy⟩
  obtain ⟨r131, r132, r133, r134, r135, r136, rfl⟩ := ry.form
  have R41 := hide ry
  have S7 := hide (S7.out.fr fy)
  have S10 := hide (S10.out.fr fy)
  have S13 := hide (S13.out.fr fy)
  have S16 := hide (S16.out.fr fy)
  have RV1 := hide (RV1.out.fr fy)
  have RV2 := hide (RV2.out.fr fy)
  have RV3 := hide (RV3.out.fr fy)
  have RS := hide (RS.out.fr fy)
  have HT := hide (HT.out.fr fy)
  have R34 := hide (R34.out.fr fy)
  have FW := hide (FW.out.trans fy)
  clear fy ry
  (try go_wp2_with fail)
  refine hK.out _ _ ?_ (fun hHeld => ?_)
  · (try dsimp only)
    exact ⟨S7.out.1, S7.out.2.1, S10.out.1, S10.out.2.1, S13.out.1, S13.out.2.1, S16.out.1, S16.out.2.1⟩
  clear hK K
  (try simp only [Act.put, List.getElem_toArray, List.getElem_cons_zero, List.getElem_cons_succ, List.setIfInBounds_toArray, List.set_cons_zero, List.set_cons_succ])
  refine wpAnyH_ready (rs := [42]) (by kernel_rfl) (by simp) ?_
  refine AllReadyH.cons rfl (fun K hK => ?_) AllReadyH.nil
  go_simp
  refine (cmpR_any _ _ (((x * D1) + (z * y)) * y) ((y * D1) * D2) (((x * y) * (D1 * D2)) + ((z * y) * (y * D2))) ((y * D2) * (D1 * D2)) _ HT.out R34.out R41.out (Nat.le_trans nb25 (by omega)) (Nat.le_trans nb26 (by omega)) (Nat.le_trans nb33 (by omega)) (Nat.le_trans nb34 (by omega)) 0 (cmpZ_eq (eq_dist8 x y z D1 y D2))).mono ?_
  rintro e wn14 ⟨rfl, fy⟩
  have S7 := hide (S7.out.fr fy)
  have S10 := hide (S10.out.fr fy)
  have S13 := hide (S13.out.fr fy)
  have S16 := hide (S16.out.fr fy)
  have RV1 := hide (RV1.out.fr fy)
  have RV2 := hide (RV2.out.fr fy)
  have RV3 := hide (RV3.out.fr fy)
  have RS := hide (RS.out.fr fy)
  have HT := hide (HT.out.fr fy)
  have FW := hide (FW.out.trans fy)
  clear fy R34 R37 R40 R41
  (try go_wp2_with fail)
  refine hK.out _ _ ?_ (fun hHeld => ?_)
  · (try dsimp only)
    exact ⟨S7.out.1, S7.out.2.1, S10.out.1, S10.out.2.1, S13.out.1, S13.out.2.1, S16.out.1, S16.out.2.1⟩
  clear hK K
  (try simp only [Act.put, List.getElem_toArray, List.getElem_cons_zero, List.getElem_cons_succ, List.setIfInBounds_toArray, List.set_cons_zero, List.set_cons_succ])
  refine wpAnyH_take (i := 43) (v := ?_) rfl (by kernel_rfl) (by kernel_rfl) (by kernel_rfl) (fun _ _ _ h => h) (Or.inl ⟨by rfl, ?_⟩) (by assumption) ?_
  rotate_left
  · (intro w hSw; (try dsimp only at hSw); go_simp; try with_reducible rfl)
  (try simp only [Act.put, List.getElem_toArray, List.getElem_cons_zero, List.getElem_cons_succ, List.setIfInBounds_toArray, List.set_cons_zero, List.set_cons_succ])
  refine wpAnyH_take (i := 44) (v := ?_) rfl (by kernel_rfl) (by kernel_rfl) (by kernel_rfl) (fun _ _ _ h => h) (Or.inl ⟨by rfl, ?_⟩) (by assumption) ?_
  rotate_left
  · (intro w hSw; (try dsimp only at hSw); go_simp; try with_reducible rfl)
  (try simp only [Act.put, List.getElem_toArray, List.getElem_cons_zero, List.getElem_cons_succ, List.setIfInBounds_toArray, List.set_cons_zero, List.set_cons_succ])
  refine wpAnyH_take (i := 45) (v := ?_) rfl (by kernel_rfl) (by kernel_rfl) (by kernel_rfl) (fun _ _ _ h => h) (Or.inl ⟨by rfl, ?_⟩) (by assumption) ?_
  rotate_left
  · (intro w hSw; (try dsimp only at hSw); go_simp; try with_reducible rfl)
  (try simp only [Act.put, List.getElem_toArray, List.getElem_cons_zero, List.getElem_cons_succ, List.setIfInBounds_toArray, List.set_cons_zero, List.set_cons_succ])
  refine wpAnyH_take (i := 46) (v := ?_) rfl (by kernel_rfl) (by kernel_rfl) (by kernel_rfl) (fun _ _ _ h => h) (Or.inl ⟨by rfl, ?_⟩) (by assumption) ?_
  rotate_left
  · (intro w hSw; (try dsimp only at hSw); go_simp; try with_reducible rfl)
  (try simp only [Act.put, List.getElem_toArray, List.getElem_cons_zero, List.getElem_cons_succ, List.setIfInBounds_toArray, List.set_cons_zero, List.set_cons_succ])
  refine wpAnyH_take (i := 47) (v := ?_) rfl (by kernel_rfl) (by kernel_rfl) (by kernel_rfl) (fun _ _ _ h => h) (Or.inl ⟨by rfl, ?_⟩) (by assumption) ?_
  rotate_left
  · (intro w hSw; (try dsimp only at hSw); go_simp; try with_reducible rfl)
  (try simp only [Act.put, List.getElem_toArray, List.getElem_cons_zero, List.getElem_cons_succ, List.setIfInBounds_toArray, List.set_cons_zero, List.set_cons_succ])
  refine wpAnyH_take (i := 49) (v := ?_) rfl (by kernel_rfl) (by kernel_rfl) (by kernel_rfl) (fun _ _ _ h => h) (Or.inl ⟨by rfl, ?_⟩) (by assumption) ?_
  rotate_left
  · (intro w hSw; (try dsimp only at hSw); go_simp; try with_reducible rfl)
  (try simp only [Act.put, List.getElem_toArray, List.getElem_cons_zero, List.getElem_cons_succ, List.setIfInBounds_toArray, List.set_cons_zero, List.set_cons_succ])
  refine wpAnyH_ready (rs := [48]) (by kernel_rfl) (by simp) ?_
  refine AllReadyH.cons rfl (fun K hK => ?_) AllReadyH.nil
  go_simp
  refine (awayR_any _ _ ((x * D1) + (z * y)) (y * D1) z D1 _ HT.out RS.out RV2.out (Nat.le_trans nb3 (by omega)) (Nat.le_trans nb4 (by omega)) (Nat.le_trans nz (by omega)) (Nat.le_trans nD1 (by omega))).mono ?_
  rintro e wn15 ⟨v_, rfl, ry, fy⟩
  obtain ⟨r151, r152, r153, r154, r155, r156, rfl⟩ := ry.form
  have R48 := hide ry
  have S7 := hide (S7.out.fr fy)
  have S10 := hide (S10.out.fr fy)
  have S13 := hide (S13.out.fr fy)
  have S16 := hide (S16.out.fr fy)
  have RV1 := hide (RV1.out.fr fy)
  have RV2 := hide (RV2.out.fr fy)
  have RV3 := hide (RV3.out.fr fy)
  have RS := hide (RS.out.fr fy)
  have HT := hide (HT.out.fr fy)
  have FW := hide (FW.out.trans fy)
  clear fy ry
  (try go_wp2_with fail)
  refine hK.out _ _ ?_ (fun hHeld => ?_)
  · (try dsimp only)
    exact ⟨S7.out.1, S7.out.2.1, S10.out.1, S10.out.2.1, S13.out.1, S13.out.2.1, S16.out.1, S16.out.2.1⟩
  clear hK K
  (try simp only [Act.put, List.getElem_toArray, List.getElem_cons_zero, List.getElem_cons_succ, List.setIfInBounds_toArray, List.set_cons_zero, List.set_cons_succ])
  refine wpAnyH_ready (rs := [50]) (by kernel_rfl) (by simp) ?_
  refine AllReadyH.cons rfl (fun K hK => ?_) AllReadyH.nil
  go_simp
  refine (cmpR_any _ _ (awayN (((x * D1) + (z * y)) * D1) (z * (y * D1))) ((y * D1) * D1) x y _ HT.out R48.out RV1.out (Nat.le_trans nb37 (by omega)) (Nat.le_trans nb38 (by omega)) (Nat.le_trans nx (by omega)) (Nat.le_trans ny (by omega)) 0 (cmpZ_eq (eq_away8 x y z D1))).mono ?_
  rintro e wn16 ⟨rfl, fy⟩
  have S7 := hide (S7.out.fr fy)
  have S10 := hide (S10.out.fr fy)
  have S13 := hide (S13.out.fr fy)
  have S16 := hide (S16.out.fr fy)
  have RV1 := hide (RV1.out.fr fy)
  have RV2 := hide (RV2.out.fr fy)
  have RV3 := hide (RV3.out.fr fy)
  have RS := hide (RS.out.fr fy)
  have HT := hide (HT.out.fr fy)
  have FW := hide (FW.out.trans fy)
  clear fy R48
  (try go_wp2_with fail)
  refine hK.out _ _ ?_ (fun hHeld => ?_)
  · (try dsimp only)
    exact ⟨S7.out.1, S7.out.2.1, S10.out.1, S10.out.2.1, S13.out.1, S13.out.2.1, S16.out.1, S16.out.2.1⟩
  clear hK K
  (try simp only [Act.put, List.getElem_toArray, List.getElem_cons_zero, List.getElem_cons_succ, List.setIfInBounds_toArray, List.set_cons_zero, List.set_cons_succ])
  refine wpAnyH_take (i := 51) (v := ?_) rfl (by kernel_rfl) (by kernel_rfl) (by kernel_rfl) (fun _ _ _ h => h) (Or.inl ⟨by rfl, ?_⟩) (by assumption) ?_
  rotate_left
  · (intro w hSw; (try dsimp only at hSw); go_simp; try with_reducible rfl)
  (try simp only [Act.put, List.getElem_toArray, List.getElem_cons_zero, List.getElem_cons_succ, List.setIfInBounds_toArray, List.set_cons_zero, List.set_cons_succ])
  refine wpAnyH_take (i := 52) (v := ?_) rfl (by kernel_rfl) (by kernel_rfl) (by kernel_rfl) (fun _ _ _ h => h) (Or.inl ⟨by rfl, ?_⟩) (by assumption) ?_
  rotate_left
  · (intro w hSw; (try dsimp only at hSw); go_simp; try with_reducible rfl)
  (try simp only [Act.put, List.getElem_toArray, List.getElem_cons_zero, List.getElem_cons_succ, List.setIfInBounds_toArray, List.set_cons_zero, List.set_cons_succ])
  refine wpAnyH_take (i := 53) (v := ?_) rfl (by kernel_rfl) (by kernel_rfl) (by kernel_rfl) (fun _ _ _ h => h) (Or.inl ⟨by rfl, ?_⟩) (by assumption) ?_
  rotate_left
  · (intro w hSw; (try dsimp only at hSw); go_simp; try with_reducible rfl)
  (try simp only [Act.put, List.getElem_toArray, List.getElem_cons_zero, List.getElem_cons_succ, List.setIfInBounds_toArray, List.set_cons_zero, List.set_cons_succ])
  refine wpAnyH_done (by kernel_rfl) ?_ _
  go_wp2_with fail
  go_ret
  exact ⟨rfl, FW.out⟩
end Go.Proofs.YtimglhbllcjpbaaDoor
