/- What the document fixes: wakes. -/
import Derived.Test.YtimglhbllcjpbaaDoorRatioI
import Derived.Test.YtimglhbllcjpbaaDoorVBitsB
namespace Go.Proofs.YtimglhbllcjpbaaDoor
set_option linter.unusedVariables false
set_option linter.unusedSimpArgs false
open Go.RowKit

attribute [local go_sem] World.cell?_alloc_some
set_option maxHeartbeats 2000000 in
set_option maxRecDepth 4000 in
theorem value_half (w : World) (hT : Tab w) :
    Calls Tryd.prog 34 #[.agg #[.int .i64 1, .bool false, .int .u64 4503599627370496, .int .i64 (-53)]] w fun e w' => ∃ v, e = .returned (.tuple #[v, .bool true]) ∧ IsRat w' v 4503599627370496 9007199254740992 ∧ Fr w w' := by
  have HT := hide hT
  have VB : Hid (∀ wz, Calls Tryd.prog 54 #[.agg #[.int .i64 1, .bool false, .int .u64 4503599627370496, .int .i64 (-53)]] wz fun e w' => ∃ b, e = .returned (.tuple #[.int .u64 b, .bool true]) ∧ Fr wz w') := by
    intro wz
    refine (vbits_any 1 false 4503599627370496 (-53) wz (by omega) (by omega) (by omega)).mono ?_
    rintro e w' ⟨rfl, f⟩
    have : okN 1 false 4503599627370496 (-53) = true := by decide
    rw [this]
    exact ⟨_, rfl, f⟩
  clear hT
  go_enter Tryd.func34, Tryd.ntmps34
  go_wp2_with fail
  obtain ⟨W, hW⟩ : ∃ W, W = (w.alloc (Obj.cells #[.int .i64 1, .bool false, .int .u64 4503599627370496, .int .i64 (-53)] 68)).alloc (Obj.cells #[Value.slice none 0 0, Value.slice none 0 0] 26) := ⟨_, rfl⟩
  have fW : Fr w W := by rw [hW]; exact (Fr.alloc _ _).trans (Fr.alloc _ _)
  have s2 : Slot2 w W (w.heap.size + 1) (.slice none 0 0) (.slice none 0 0) := by
    rw [hW]; simpa using Slot2.new (Fr.alloc w (Obj.cells #[.int .i64 1, .bool false, .int .u64 4503599627370496, .int .i64 (-53)] 68)) none 0 0 none 0 0 26
  have c2 : W.cell? ⟨w.heap.size, 2, none⟩ = some (.int .u64 4503599627370496) := by rw [hW]; simp [go_sem]
  have c3 : W.cell? ⟨w.heap.size, 3, none⟩ = some (.int .i64 (-53)) := by rw [hW]; simp [go_sem]
  rw [← hW]
  clear hW
  refine (VB.out _).mono ?_
  rintro e w1 ⟨b, rfl, f1⟩
  have S2 := hide (s2.fr f1)
  have FW := hide (fW.trans f1)
  have c2 := fr_cell f1 c2
  have c3 := fr_cell f1 c3
  clear s2 fW f1 VB
  have S2 := hide (S2.out.fr (Fr.drew _))
  have FW := hide (FW.out.trans (Fr.drew _))
  have HT := hide (Tab.fr HT.out FW.out)
  have d2 := fr_cell (Fr.drew _) c2
  have d3 := fr_cell (Fr.drew _) c3
  go_wp2_with fail
  refine wp_region_held_drew (S := (fun w' => w'.cell? ⟨w.heap.size, 2, none⟩ = some (.int .u64 4503599627370496) ∧ w'.cell? ⟨w.heap.size, 3, none⟩ = some (.int .i64 (-53)))) (by kernel_rfl) ?_ (fun hHeld => ?_)
  · exact ⟨d2, d3⟩
  obtain ⟨wd, hwd⟩ : ∃ wd, wd = w1.drew := ⟨_, rfl⟩
  rw [← hwd] at hHeld S2 FW HT d2 d3 ⊢
  clear hwd
  refine wpAnyH_take (i := 0) (v := ?_) rfl (by kernel_rfl) (by kernel_rfl) (by kernel_rfl) (fun _ _ _ h => h) (Or.inl ⟨by rfl, ?_⟩) (by assumption) ?_
  rotate_left
  · (intro w hSw; (try dsimp only at hSw); go_simp; try with_reducible rfl)
  (try simp only [Act.put, List.getElem_toArray, List.getElem_cons_zero, List.getElem_cons_succ, List.setIfInBounds_toArray, List.set_cons_zero, List.set_cons_succ])
  refine wpAnyH_take (i := 1) (v := ?_) rfl (by kernel_rfl) (by kernel_rfl) (by kernel_rfl) (fun _ _ _ h => h) (Or.inl ⟨by rfl, ?_⟩) (by assumption) ?_
  rotate_left
  · (intro w hSw; (try dsimp only at hSw); go_simp; try with_reducible rfl)
  (try simp only [Act.put, List.getElem_toArray, List.getElem_cons_zero, List.getElem_cons_succ, List.setIfInBounds_toArray, List.set_cons_zero, List.set_cons_succ])
  refine wpAnyH_take (i := 3) (v := ?_) rfl (by kernel_rfl) (by kernel_rfl) (by kernel_rfl) (fun _ _ _ h => h) (Or.inl ⟨by rfl, ?_⟩) (by assumption) ?_
  rotate_left
  · (intro w hSw; (try dsimp only at hSw); go_simp; try with_reducible rfl)
  (try simp only [Act.put, List.getElem_toArray, List.getElem_cons_zero, List.getElem_cons_succ, List.setIfInBounds_toArray, List.set_cons_zero, List.set_cons_succ])
  refine wpAnyH_take (i := 4) (v := ?_) rfl (by kernel_rfl) (by kernel_rfl) (by kernel_rfl) (fun _ _ _ h => h) (Or.inl ⟨by rfl, ?_⟩) (by assumption) ?_
  rotate_left
  · (intro w hSw; (try dsimp only at hSw); go_simp; try with_reducible rfl)
  (try simp only [Act.put, List.getElem_toArray, List.getElem_cons_zero, List.getElem_cons_succ, List.setIfInBounds_toArray, List.set_cons_zero, List.set_cons_succ])
  refine wpAnyH_take (i := 7) (v := ?_) rfl (by kernel_rfl) (by kernel_rfl) (by kernel_rfl) (fun _ _ _ h => h) (Or.inl ⟨by rfl, ?_⟩) (by assumption) ?_
  rotate_left
  · (intro w hSw; (try dsimp only at hSw); go_simp; try with_reducible rfl)
  (try simp only [Act.put, List.getElem_toArray, List.getElem_cons_zero, List.getElem_cons_succ, List.setIfInBounds_toArray, List.set_cons_zero, List.set_cons_succ])
  refine wpAnyH_take (i := 8) (v := ?_) rfl (by kernel_rfl) (by kernel_rfl) (by kernel_rfl) (fun _ _ _ h => h) (Or.inl ⟨by rfl, ?_⟩) (by assumption) ?_
  rotate_left
  · (intro w hSw; (try dsimp only at hSw); go_simp; try with_reducible rfl)
  (try simp only [Act.put, List.getElem_toArray, List.getElem_cons_zero, List.getElem_cons_succ, List.setIfInBounds_toArray, List.set_cons_zero, List.set_cons_succ])
  refine wpAnyH_take (i := 9) (v := ?_) rfl (by kernel_rfl) (by kernel_rfl) (by kernel_rfl) (fun _ _ _ h => h) (Or.inl ⟨by rfl, ?_⟩) (by assumption) ?_
  rotate_left
  · (intro w hSw; (try dsimp only at hSw); go_simp; try with_reducible rfl)
  (try simp only [Act.put, List.getElem_toArray, List.getElem_cons_zero, List.getElem_cons_succ, List.setIfInBounds_toArray, List.set_cons_zero, List.set_cons_succ])
  refine wpAnyH_ready (rs := [2]) (by kernel_rfl) (by simp) ?_
  refine AllReadyH.cons rfl (fun K hK => ?_) AllReadyH.nil
  go_simp
  refine (ofc_any 4503599627370496 4503599627370496 _ rfl (by omega)).mono ?_
  rintro e wa ⟨a1, c1, rfl, iy, _, fy⟩
  have IA := hide iy
  have d2 := fr_cell fy d2
  have d3 := fr_cell fy d3
  have S2 := hide (S2.out.fr fy)
  have HT := hide (HT.out.fr fy)
  have FW := hide (FW.out.trans fy)
  clear iy fy 
  (try go_wp2_with fail)
  refine hK.out _ _ ?_ (fun hHeld => ?_)
  · (try dsimp only)
    exact ⟨d2, d3⟩
  clear hK K
  (try simp only [Act.put, List.getElem_toArray, List.getElem_cons_zero, List.getElem_cons_succ, List.setIfInBounds_toArray, List.set_cons_zero, List.set_cons_succ])
  refine wpAnyH_ready (rs := [5]) (by kernel_rfl) (by simp) ?_
  refine AllReadyH.cons rfl (fun K hK => ?_) AllReadyH.nil
  go_simp
  refine (upc_any _ 4503599627370496 (-53) 4503599627370496 _ IA.out (by have := wsm (x := 4503599627370496) (by omega); omega) (by omega) (by omega) (by decide)).mono ?_
  rintro e wb ⟨a2, c2, rfl, iy, fy⟩
  have IB := hide iy
  have d2 := fr_cell fy d2
  have d3 := fr_cell fy d3
  have S2 := hide (S2.out.fr fy)
  have HT := hide (HT.out.fr fy)
  have FW := hide (FW.out.trans fy)
  clear iy fy IA
  (try go_wp2_with fail)
  refine hK.out _ _ ?_ (fun hHeld => ?_)
  · (try dsimp only)
    exact ⟨d2, d3⟩
  clear hK K
  (try simp only [Act.put, List.getElem_toArray, List.getElem_cons_zero, List.getElem_cons_succ, List.setIfInBounds_toArray, List.set_cons_zero, List.set_cons_succ])
  refine wpAnyH_ready (rs := [6]) (by kernel_rfl) (by simp) ?_
  refine AllReadyH.cons rfl (fun K hK => ?_) AllReadyH.nil
  go_simp
  refine (ofc_any 1 1 _ rfl (by omega)).mono ?_
  rintro e wc ⟨a3, c3, rfl, iy, _, fy⟩
  have IC := hide iy
  have d2 := fr_cell fy d2
  have d3 := fr_cell fy d3
  have S2 := hide (S2.out.fr fy)
  have HT := hide (HT.out.fr fy)
  have IB := hide (IB.out.fr fy)
  have FW := hide (FW.out.trans fy)
  clear iy fy 
  (try go_wp2_with fail)
  refine hK.out _ _ ?_ (fun hHeld => ?_)
  · (try dsimp only)
    exact ⟨d2, d3⟩
  clear hK K
  (try simp only [Act.put, List.getElem_toArray, List.getElem_cons_zero, List.getElem_cons_succ, List.setIfInBounds_toArray, List.set_cons_zero, List.set_cons_succ])
  refine wpAnyH_ready (rs := [10]) (by kernel_rfl) (by simp) ?_
  refine AllReadyH.cons rfl (fun K hK => ?_) AllReadyH.nil
  go_simp
  refine (upc_any _ 1 53 9007199254740992 _ IC.out (by have := wsm (x := 1) (by omega); omega) (by omega) (by omega) (by decide)).mono ?_
  rintro e we ⟨a4, c4, rfl, iy, fy⟩
  have ID := hide iy
  have d2 := fr_cell fy d2
  have d3 := fr_cell fy d3
  have S2 := hide (S2.out.fr fy)
  have HT := hide (HT.out.fr fy)
  have IB := hide (IB.out.fr fy)
  have FW := hide (FW.out.trans fy)
  clear iy fy IC
  (try go_wp2_with fail)
  refine hK.out _ _ ?_ (fun hHeld => ?_)
  · (try dsimp only)
    exact ⟨d2, d3⟩
  clear hK K
  (try simp only [Act.put, List.getElem_toArray, List.getElem_cons_zero, List.getElem_cons_succ, List.setIfInBounds_toArray, List.set_cons_zero, List.set_cons_succ])
  refine wpAnyH_ready (rs := [11]) (by kernel_rfl) (by simp) ?_
  refine AllReadyH.cons rfl (fun K hK => ?_) AllReadyH.nil
  go_simp
  refine (lowest_any _ _ 4503599627370496 9007199254740992 _ HT.out IB.out ID.out (by have := wsm (x := 4503599627370496) (by omega); omega) (by have := wsm (x := 9007199254740992) (by omega); omega) (by omega)).mono ?_
  rintro e wr ⟨v, rfl, ir, fy⟩
  have RV := hide ir
  have d2 := fr_cell fy d2
  have d3 := fr_cell fy d3
  have S2 := hide (S2.out.fr fy)
  have FW := hide (FW.out.trans fy)
  obtain ⟨u1, u2, u3, u4, u5, u6, rfl⟩ := ir.form
  clear ir fy
  (try go_wp2_with fail)
  refine hK.out _ _ ?_ (fun hHeld => ?_)
  · (try dsimp only)
    exact ⟨d2, d3⟩
  clear hK K
  (try simp only [Act.put, List.getElem_toArray, List.getElem_cons_zero, List.getElem_cons_succ, List.setIfInBounds_toArray, List.set_cons_zero, List.set_cons_succ])
  refine wpAnyH_ready (rs := [12]) (by kernel_rfl) (by simp) ?_
  refine AllReadyH.cons rfl (fun K hK => ?_) AllReadyH.nil
  have q_ := S2.out.1
  have q2_ := S2.out.2.1
  have z_ := S2.out.2.2.1 0
  have z2_ := S2.out.2.2.1 1
  have RV := hide (S2.out.rat RV.out u1 u2 u3 (.slice u4 u5 u6))
  have FW := hide (S2.out.set_fr FW.out (.slice u1 u2 u3) (.slice u4 u5 u6))
  have S2 := hide (S2.out.set u1 u2 u3 u4 u5 u6)
  go_simp
  (try go_wp2_with fail)
  refine hK.out _ _ ?_ (fun hHeld => ?_)
  · (try dsimp only)
    exact ⟨(World.cell?_setCell_other _ _ _ _ (fun e => by injection e; omega)).trans ((World.cell?_setCell_other _ _ _ _ (fun e => by injection e; omega)).trans d2), (World.cell?_setCell_other _ _ _ _ (fun e => by injection e; omega)).trans ((World.cell?_setCell_other _ _ _ _ (fun e => by injection e; omega)).trans d3)⟩
  clear hK K
  (try simp only [Act.put, List.getElem_toArray, List.getElem_cons_zero, List.getElem_cons_succ, List.setIfInBounds_toArray, List.set_cons_zero, List.set_cons_succ])
  refine wpAnyH_take (i := 13) (v := ?_) rfl (by kernel_rfl) (by kernel_rfl) (by kernel_rfl) (fun _ _ _ h => h) (Or.inl ⟨by rfl, ?_⟩) (by assumption) ?_
  rotate_left
  · (intro w hSw; (try dsimp only at hSw); go_simp; try with_reducible rfl)
  (try simp only [Act.put, List.getElem_toArray, List.getElem_cons_zero, List.getElem_cons_succ, List.setIfInBounds_toArray, List.set_cons_zero, List.set_cons_succ])
  refine wpAnyH_done (by kernel_rfl) ?_ _
  go_wp2_with fail
  exact bodyPost_ret (results_rat_ok rfl _ _ (w.heap.size + 1) _ _ rfl S2.out.1 S2.out.2.1) rfl ⟨_, rfl, RV.out, FW.out⟩

set_option maxHeartbeats 2000000 in
set_option maxRecDepth 4000 in
theorem wakes_any (w : World) (hT : Tab w) : Calls Tryd.prog 10 #[] w fun e w' => e = .returned (.bool true) ∧ Fr w w' := by
  have HT := hide hT
  clear hT
  go_enter Tryd.func10, Tryd.ntmps10
  go_wp2_with fail
  refine (ofc_any 14 14 _ rfl (by omega)).mono ?_
  rintro e w1 ⟨a1, c1, rfl, i1, _, f1⟩
  go_wp2_with fail
  refine (ofc_any 6 6 _ rfl (by omega)).mono ?_
  rintro e w2 ⟨a2, c2, rfl, i2, _, f2⟩
  go_wp2_with fail
  have FW := hide (f1.trans f2)
  refine (ofR_yes _ _ 14 6 _ (Tab.fr HT.out FW.out) (i1.fr f2) i2 (by have := wsm (x := 14) (by omega); omega) (by have := wsm (x := 6) (by omega); omega) (by omega)).mono ?_
  rintro e w3 ⟨v, rfl, ir, f3⟩
  obtain ⟨u1, u2, u3, u4, u5, u6, rfl⟩ := ir.form
  have FW := hide (FW.out.trans f3)
  clear i1 i2 f1 f2 f3
  go_wp2_with fail
  obtain ⟨W3, hW3⟩ : ∃ W, W = (w3.alloc (Obj.cells #[Value.slice u1 u2 u3, Value.slice u4 u5 u6] 26)) := ⟨_, rfl⟩
  have f3 : Fr w3 W3 := by rw [hW3]; exact (Fr.alloc w3 (Obj.cells #[Value.slice u1 u2 u3, Value.slice u4 u5 u6] 26))
  rw [← hW3]
  clear hW3
  refine (partsR_any _ 14 6 _ (ir.fr f3) (by have := wsm (x := 14) (by omega); omega) (by have := wsm (x := 6) (by omega); omega) 2 (by decide)).mono ?_
  rintro e w4 ⟨a4, c4, v4, rfl, i4, r4, f4⟩
  obtain ⟨t1, t2, t3, t4, t5, t6, rfl⟩ := r4.form
  have FW := hide ((FW.out.trans f3).trans f4)
  clear ir f3 f4
  go_wp2_with fail
  obtain ⟨W4, hW4⟩ : ∃ W, W = ((w4.alloc (Obj.cells #[Value.slice a4 (nlen 4294967296 2) c4] 24)).alloc (Obj.cells #[Value.slice t1 t2 t3, Value.slice t4 t5 t6] 26)) := ⟨_, rfl⟩
  have f4 : Fr w4 W4 := by rw [hW4]; exact ((Fr.alloc w4 (Obj.cells #[Value.slice a4 (nlen 4294967296 2) c4] 24)).trans (Fr.alloc _ (Obj.cells #[Value.slice t1 t2 t3, Value.slice t4 t5 t6] 26)))
  have s3 : Slot w4 W4 (w4.heap.size) (.slice a4 (nlen 4294967296 2) c4) := by
    rw [hW4]; simpa using (Slot.new (Fr.refl w4) a4 (nlen 4294967296 2) c4 24).fr (Fr.alloc _ _)
  rw [← hW4]
  clear hW4
  have E1 : Hid (rN (14 % 6) 6 = 1) := hide (by simp [rN])
  have E2 : Hid (rD (14 % 6) 6 = 3) := hide (by simp [rD])
  refine (terms_rat _ (14 % 6) 6 _ (r4.fr f4) (by have := wsm (x := 14 % 6) (by omega); omega)).mono ?_
  rintro e w5 ⟨a5, c5, b5, k5, rfl, i5, j5, f5⟩
  rw [E1.out] at i5 ⊢
  rw [E2.out] at j5 ⊢
  have FW := hide ((FW.out.trans f4).trans f5)
  have S3 := hide (s3.fr f5)
  have I4 := hide ((i4.fr f4).fr f5)
  have l5 := cell_lt S3.out.1
  simp only [] at l5
  have q3 := S3.out.1
  clear r4 f4 f5 s3 i4 E1 E2
  go_wp2_with fail
  obtain ⟨W5, hW5⟩ : ∃ W, W = ((w5.alloc (Obj.cells #[Value.slice a5 (nlen 4294967296 1) c5] 24)).alloc (Obj.cells #[Value.slice b5 (nlen 4294967296 3) k5] 24)) := ⟨_, rfl⟩
  have f5 : Fr w5 W5 := by rw [hW5]; exact ((Fr.alloc w5 (Obj.cells #[Value.slice a5 (nlen 4294967296 1) c5] 24)).trans (Fr.alloc _ (Obj.cells #[Value.slice b5 (nlen 4294967296 3) k5] 24)))
  have s5 : Slot w5 W5 (w5.heap.size) (.slice a5 (nlen 4294967296 1) c5) := by
    rw [hW5]; simpa using (Slot.new (Fr.refl w5) a5 (nlen 4294967296 1) c5 24).fr (Fr.alloc _ _)
  have s6 : Slot w5 W5 (w5.heap.size + 1) (.slice b5 (nlen 4294967296 3) k5) := by
    rw [hW5]; simpa using Slot.new (Fr.alloc w5 (Obj.cells #[Value.slice a5 (nlen 4294967296 1) c5] 24)) b5 (nlen 4294967296 3) k5 24
  rw [← hW5]
  clear hW5
  have I4 := hide (I4.out.fr f5)
  have I5 := hide (i5.fr f5)
  have J5 := hide (j5.fr f5)
  have FW := hide (FW.out.trans f5)
  clear q3 i5 j5 f5 S3
  refine (small_any _ 2 _ I4.out).mono ?_
  rintro e w6 ⟨rfl, f6⟩
  rw [if_pos (by omega), decide_eq_true (by omega)]
  have I5 := hide (I5.out.fr f6)
  have J5 := hide (J5.out.fr f6)
  have FW := hide (FW.out.trans f6)
  have q5 := (s5.fr f6).1
  have S6 := hide (s6.fr f6)
  clear s5 s6 f6 I4
  go_wp2_with fail
  refine (small_any _ 1 _ I5.out).mono ?_
  rintro e w7 ⟨rfl, f7⟩
  rw [if_pos (by omega), decide_eq_true (by omega)]
  have J5 := hide (J5.out.fr f7)
  have S6 := hide (S6.out.fr f7)
  have FW := hide (FW.out.trans f7)
  have q6 := S6.out.1
  clear q5 f7 I5
  go_wp2_with fail
  refine (small_any _ 3 _ J5.out).mono ?_
  rintro e w8 ⟨rfl, f8⟩
  rw [if_pos (by omega), decide_eq_true (by omega)]
  have FW := hide (FW.out.trans f8)
  clear q6 f8 J5 S6
  go_wp2_with fail
  refine (value_half _ (Tab.fr HT.out FW.out)).mono ?_
  rintro e w9 ⟨v9, rfl, r9, f9⟩
  obtain ⟨x1, x2, x3, x4, x5, x6, rfl⟩ := r9.form
  have FW := hide (FW.out.trans f9)
  clear f9
  go_wp2_with fail
  obtain ⟨W9, hW9⟩ : ∃ W, W = (w9.alloc (Obj.cells #[Value.slice x1 x2 x3, Value.slice x4 x5 x6] 26)) := ⟨_, rfl⟩
  have f9 : Fr w9 W9 := by rw [hW9]; exact (Fr.alloc w9 (Obj.cells #[Value.slice x1 x2 x3, Value.slice x4 x5 x6] 26))
  have s13 : Slot2 w9 W9 (w9.heap.size) (.slice x1 x2 x3) (.slice x4 x5 x6) := by
    rw [hW9]; simpa using Slot2.new (Fr.refl w9) x1 x2 x3 x4 x5 x6 26
  rw [← hW9]
  clear hW9
  have S13 := hide s13
  have R9 := hide (r9.fr f9)
  have FW := hide (FW.out.trans f9)
  clear f9 r9 s13
  refine (ofc_any 1 1 _ rfl (by omega)).mono ?_
  rintro e wa ⟨aa, ca, rfl, ia, _, fa⟩
  have S13 := hide (S13.out.fr fa)
  have R9 := hide (R9.out.fr fa)
  have FW := hide (FW.out.trans fa)
  clear fa
  go_wp2_with fail
  refine (ofc_any 2 2 _ rfl (by omega)).mono ?_
  rintro e wb ⟨ab, cb, rfl, ib, _, fb⟩
  have S13 := hide (S13.out.fr fb)
  have R9 := hide (R9.out.fr fb)
  have FW := hide (FW.out.trans fb)
  have ia := ia.fr fb
  clear fb
  go_wp2_with fail
  refine (ofR_yes _ _ 1 2 _ (Tab.fr HT.out FW.out) ia ib (by have := wsm (x := 1) (by omega); omega) (by have := wsm (x := 2) (by omega); omega) (by omega)).mono ?_
  rintro e wc ⟨vc, rfl, rc, fc⟩
  obtain ⟨y1, y2, y3, y4, y5, y6, rfl⟩ := rc.form
  have S13 := hide (S13.out.fr fc)
  have R9 := hide (R9.out.fr fc)
  have FW := hide (FW.out.trans fc)
  have l13 := cell_lt S13.out.1
  simp only [] at l13
  have q13 := S13.out.1
  have q13' := S13.out.2.1
  clear fc ia ib
  go_wp2_with fail
  obtain ⟨WC, hWC⟩ : ∃ W, W = (wc.alloc (Obj.cells #[Value.slice y1 y2 y3, Value.slice y4 y5 y6] 26)) := ⟨_, rfl⟩
  have fc : Fr wc WC := by rw [hWC]; exact (Fr.alloc wc (Obj.cells #[Value.slice y1 y2 y3, Value.slice y4 y5 y6] 26))
  rw [← hWC]
  clear hWC
  refine (cmpR_any _ _ 4503599627370496 9007199254740992 1 2 _ (Tab.fr HT.out (FW.out.trans fc)) (R9.out.fr fc) (rc.fr fc) (by have := wsm (x := 4503599627370496) (by omega); omega) (by have := wsm (x := 9007199254740992) (by omega); omega) (by have := wsm (x := 1) (by omega); omega) (by have := wsm (x := 2) (by omega); omega) 0 (by decide)).mono ?_
  rintro e wd ⟨rfl, fd⟩
  have FW := hide ((FW.out.trans fc).trans fd)
  clear fc fd
  go_wp2_with fail
  go_ret
  exact ⟨rfl, FW.out⟩
end Go.Proofs.YtimglhbllcjpbaaDoor
