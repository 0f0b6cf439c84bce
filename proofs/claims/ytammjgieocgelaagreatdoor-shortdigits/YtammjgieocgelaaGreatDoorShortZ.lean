/- The law ShortDigits. -/
import Derived.Test.YtammjgieocgelaaGreatDoorShortD
import Derived.Test.YtammjgieocgelaaGreatDoorShortG
import Derived.Test.YtammjgieocgelaaGreatDoorShortT
namespace Go.Proofs.YtammjgieocgelaaGreatDoor
set_option linter.unusedVariables false
set_option linter.unusedSimpArgs false
open Go.RowKit
open Go.Lib (decDigits trimRightB)

attribute [local go_sem] World.cell?_alloc_some
set_option maxHeartbeats 2000000 in
set_option maxRecDepth 4000 in
theorem law_ShortDigits (b : Int) (w : World) (hbw : (Lit.int .u64 b).wf = true) (hL : Led w) :
    Calls Tryz.prog 3 #[.int .u64 b] w fun e w' => e = .returned (.bool true) ∧ Fr w w' := by
  obtain ⟨b, rfl, hb⟩ := u64_nat hbw
  have HL := hide hL
  clear hL hbw
  obtain ⟨q, g, m, x, hqq, -, -, OB, DB⟩ := refOf_dec b hb
  have OB := hide OB
  have DB := hide DB
  by_cases hc : bC b = 1
  · have hq1 : q = 1 := by rw [← hqq]; exact hc
    subst hq1
    clear hqq
    obtain ⟨c, c1, c2, hno, hyes⟩ := least_ex (told b)
    obtain ⟨SD, hSD⟩ : ∃ SD, bs (sD b c) = SD := ⟨_, rfl⟩
    obtain ⟨SE, hSE⟩ : ∃ SE, sE b c = SE := ⟨_, rfl⟩
    obtain ⟨a1, a2, a3, a4, _⟩ := s_facts hb hc c1
    obtain ⟨_, e0, e1⟩ := vE_facts hb hc
    have htold : told b c = true := by
      rcases Nat.lt_or_ge c 17 with h | h
      · exact hyes h
      · rw [show c = 17 by omega]; exact told_at17 hb hc
    have DY : Hid (∀ wz, Led wz → Calls Tryz.prog 9 #[.int .u64 (b : Int)] wz fun e w' => e = .returned (.tuple #[.agg #[.string SD, .int .i64 SE], .bool true]) ∧ Fr wz w') := fun wz h => digits_yes b c wz hb h hc c1 c2 hno hyes SD SE hSD hSE
    have hsz : SD.size = c := by rw [← hSD, bs_size, a1]
    have hdl : SD.data.toList = sD b c := by rw [← hSD, bs_data]
    have RD : Hid (∀ wz, Calls Tryz.prog 12 #[.int .u64 (b : Int)] wz fun e w' => e = .returned (.tuple #[.string SD, .int .i64 SE]) ∧ Fr wz w') := fun wz => refDigits10_any b c wz hb hc c1 c2 hno hyes SD SE hSD hSE
    obtain ⟨g1, g2, g3, g4, g5⟩ := s_facts (c := 15) hb hc (by omega)
    obtain ⟨_, _, _, _, _, k6, k7, k8⟩ := v_facts b
    obtain ⟨S0, hS0⟩ : ∃ S0, bs (sD b 15) = S0 := ⟨_, rfl⟩
    obtain ⟨E0, hE0⟩ : ∃ E0, sE b 15 = E0 := ⟨_, rfl⟩
    obtain ⟨S1, hS1⟩ : ∃ S1, bs (trimRightB (sD b 15) 48) = S1 := ⟨_, rfl⟩
    have s0l : S0.data.toList = sD b 15 := by rw [← hS0, bs_data]
    have FI : Hid (∀ wz, Led wz → Calls Tryz.prog 10 #[.int .u64 (b : Int)] wz fun e w' => e = .returned (.tuple #[.agg #[.string S1, .int .i64 E0], .bool true]) ∧ Fr wz w') := fun wz h => fifteen_yes b wz hb h hc S1 E0 hS1 hE0
    have TR : Hid (∀ wz, Calls Tryz.prog 15 #[.string S0] wz fun e w' => e = .returned (.string S1) ∧ w' = wz) := by
      intro wz
      refine refTrim10_any S0 S1 wz ?_ ?_ ?_ ?_
      · rw [← hS0, bs_size]; omega
      · rw [s0l]; intro h; rw [h] at g1; simp at g1
      · rw [s0l]; exact g3
      · rw [s0l]; exact hS1
    have TO : Hid (∀ wz v, IsDec wz v (vDec b) → Calls Tryz.prog 14 #[v, .int .i64 (vK b : Int), .int .i64 15] wz fun e w' => e = .returned (.tuple #[.string S0, .int .i64 E0]) ∧ Fr wz w') := fun wz v h => refTo_round v (vDec b) (vK b) 15 wz h (by omega) (by omega) (by omega) (by omega) (vE b) rfl (sR b 15) (s_cut (by omega)) (by omega) S0 E0 hS0 hE0
    have b1 : (SD.toList == SD.toList) = true := beq_self_eq_true _
    have b2 : (SE == SE) = true := beq_self_eq_true _
    have b3 : (S1.toList == S1.toList) = true := beq_self_eq_true _
    have b4 : (E0 == E0) = true := beq_self_eq_true _
    generalize vDec b = D at *
    generalize vK b = K at *
    clear hno hyes hSD hSE a1 a2 a3 a4 e0 e1 htold hsz hdl c1 c2 hc hS0 hE0 hS1 s0l g1 g2 g3 g4 g5 k6 k7 k8
    go_enter Tryz.func3, Tryz.ntmps3
    go_wp2_with fail
    refine (OB.out _).mono ?_
    rintro e w1 ⟨rfl, f1⟩
    have FW := hide f1
    clear f1 OB
    go_wp2_with fail
    obtain ⟨W1, hW1⟩ : ∃ W, W = w1.alloc (Obj.cells #[.int .i64 1, .bool g, .int .u64 (m : Int), .int .i64 x] 24) := ⟨_, rfl⟩
    have fy : Fr w1 W1 := by rw [hW1]; exact Fr.alloc _ _
    have XV : Hid (W1.cell? ⟨w1.heap.size, 0, none⟩ = some (.int .i64 1) ∧ W1.cell? ⟨w1.heap.size, 2, none⟩ = some (.int .u64 (m : Int)) ∧ W1.cell? ⟨w1.heap.size, 3, none⟩ = some (.int .i64 x)) := by
      have h4 : W1.cell? ⟨w1.heap.size, 0, none⟩ = some (.int .i64 1) ∧ W1.cell? ⟨w1.heap.size, 1, none⟩ = some (.bool g) ∧ W1.cell? ⟨w1.heap.size, 2, none⟩ = some (.int .u64 (m : Int)) ∧ W1.cell? ⟨w1.heap.size, 3, none⟩ = some (.int .i64 x) := by rw [hW1]; exact four_cells (Fr.refl _)
      exact ⟨h4.1, h4.2.2.1, h4.2.2.2⟩
    rw [← hW1]
    clear hW1
    have FW := hide (FW.out.trans fy)
    clear fy
    refine (DY.out _ (HL.out.fr FW.out)).mono ?_
    rintro e w2 ⟨rfl, fy⟩
    have XV : Hid (_ ∧ _ ∧ _) := ⟨fr_cell fy XV.out.1, fr_cell fy XV.out.2.1, fr_cell fy XV.out.2.2⟩
    have FW := hide (FW.out.trans fy)
    clear fy
    clear DY
    go_wp2_with fail
    obtain ⟨W2, hW2⟩ : ∃ W, W = w2.alloc (Obj.cells #[.string SD, .int .i64 SE] 27) := ⟨_, rfl⟩
    have fy : Fr w2 W2 := by rw [hW2]; exact Fr.alloc _ _
    have X1 : Hid (W2.cell? ⟨w2.heap.size, 0, none⟩ = some (.string SD) ∧ W2.cell? ⟨w2.heap.size, 1, none⟩ = some (.int .i64 SE)) := by rw [hW2]; exact hide ⟨by simp [go_sem], by simp [go_sem]⟩
    rw [← hW2]
    clear hW2
    have XV : Hid (_ ∧ _ ∧ _) := ⟨fr_cell fy XV.out.1, fr_cell fy XV.out.2.1, fr_cell fy XV.out.2.2⟩
    have FW := hide (FW.out.trans fy)
    clear fy
    refine (FI.out _ (HL.out.fr FW.out)).mono ?_
    rintro e w3 ⟨rfl, fy⟩
    have XV : Hid (_ ∧ _ ∧ _) := ⟨fr_cell fy XV.out.1, fr_cell fy XV.out.2.1, fr_cell fy XV.out.2.2⟩
    have X1 := hide (And.intro (fr_cell fy X1.out.1) (fr_cell fy X1.out.2))
    have FW := hide (FW.out.trans fy)
    clear fy
    clear FI
    have l1 := cell_lt X1.out.1
    simp only [] at l1
    have lv := cell_lt XV.out.1
    simp only [] at lv
    have fz := Fr.alloc w3 (Obj.cells #[.string S1, .int .i64 E0] 27)
    have v1 := fr_cell fz XV.out.1
    clear fz
    go_wp2_with fail
    obtain ⟨W3, hW3⟩ : ∃ W, W = w3.alloc (Obj.cells #[.string S1, .int .i64 E0] 27) := ⟨_, rfl⟩
    have fy : Fr w3 W3 := by rw [hW3]; exact Fr.alloc _ _
    have X2 : Hid (W3.cell? ⟨w3.heap.size, 0, none⟩ = some (.string S1) ∧ W3.cell? ⟨w3.heap.size, 1, none⟩ = some (.int .i64 E0)) := by rw [hW3]; exact hide ⟨by simp [go_sem], by simp [go_sem]⟩
    rw [← hW3]
    clear hW3
    have XV : Hid (_ ∧ _ ∧ _) := ⟨fr_cell fy XV.out.1, fr_cell fy XV.out.2.1, fr_cell fy XV.out.2.2⟩
    have X1 := hide (And.intro (fr_cell fy X1.out.1) (fr_cell fy X1.out.2))
    have FW := hide (FW.out.trans fy)
    clear fy
    clear v1
    refine (RD.out _).mono ?_
    rintro e w4 ⟨rfl, fy⟩
    have XV : Hid (_ ∧ _ ∧ _) := ⟨fr_cell fy XV.out.1, fr_cell fy XV.out.2.1, fr_cell fy XV.out.2.2⟩
    have X1 := hide (And.intro (fr_cell fy X1.out.1) (fr_cell fy X1.out.2))
    have X2 := hide (And.intro (fr_cell fy X2.out.1) (fr_cell fy X2.out.2))
    have FW := hide (FW.out.trans fy)
    clear fy
    clear RD
    have v1 := XV.out.1
    have v2 := XV.out.2.1
    have v3 := XV.out.2.2
    go_wp2_with fail
    refine (DB.out _).mono ?_
    rintro e w5 ⟨vd, rfl, id, fy⟩
    have ID := hide id
    have X1 := hide (And.intro (fr_cell fy X1.out.1) (fr_cell fy X1.out.2))
    have X2 := hide (And.intro (fr_cell fy X2.out.1) (fr_cell fy X2.out.2))
    have FW := hide (FW.out.trans fy)
    clear fy
    clear DB id v1 v2 v3 XV
    go_wp2_with fail
    refine (TO.out _ _ ID.out).mono ?_
    rintro e w6 ⟨rfl, fy⟩
    have X1 := hide (And.intro (fr_cell fy X1.out.1) (fr_cell fy X1.out.2))
    have X2 := hide (And.intro (fr_cell fy X2.out.1) (fr_cell fy X2.out.2))
    have FW := hide (FW.out.trans fy)
    clear fy
    clear TO ID
    have X1 : Hid (_ ∧ _) := ⟨fr_cell (Fr.drew w6) X1.out.1, fr_cell (Fr.drew w6) X1.out.2⟩
    have X2 : Hid (_ ∧ _) := ⟨fr_cell (Fr.drew w6) X2.out.1, fr_cell (Fr.drew w6) X2.out.2⟩
    have FW := hide (FW.out.trans (Fr.drew w6))
    go_wp2_with fail
    refine wp_region_held_drew (S := (fun w' => w'.cell? ⟨w2.heap.size, 0, none⟩ = some (.string SD) ∧ w'.cell? ⟨w2.heap.size, 1, none⟩ = some (.int .i64 SE) ∧ w'.cell? ⟨w3.heap.size, 0, none⟩ = some (.string S1) ∧ w'.cell? ⟨w3.heap.size, 1, none⟩ = some (.int .i64 E0))) (by kernel_rfl) ?_ (fun hHeld => ?_)
    · exact ⟨X1.out.1, X1.out.2, X2.out.1, X2.out.2⟩
    obtain ⟨wd, hwd⟩ : ∃ wd, wd = w6.drew := ⟨_, rfl⟩
    rw [← hwd] at hHeld X1 X2 FW ⊢
    clear hwd
    refine wpAnyH_ready (rs := [0]) (by kernel_rfl) (by simp) ?_
    refine AllReadyH.cons rfl (fun K hK => ?_) AllReadyH.nil
    go_simp
    refine (wakes_any _ (HL.out.fr FW.out)).mono ?_
    rintro e wn ⟨rfl, fy⟩
    have X1 := hide (And.intro (fr_cell fy X1.out.1) (fr_cell fy X1.out.2))
    have X2 := hide (And.intro (fr_cell fy X2.out.1) (fr_cell fy X2.out.2))
    have FW := hide (FW.out.trans fy)
    clear fy
    (try go_wp2_with fail)
    refine hK.out _ _ ?_ (fun hHeld => ?_)
    · (try dsimp only)
      exact ⟨X1.out.1, X1.out.2, X2.out.1, X2.out.2⟩
    clear hK K
    (try simp only [Act.put, List.getElem_toArray, List.getElem_cons_zero, List.getElem_cons_succ, List.setIfInBounds_toArray, List.set_cons_zero, List.set_cons_succ])
    refine wpAnyH_take (i := 1) (v := ?_) rfl (by kernel_rfl) (by kernel_rfl) (by kernel_rfl) (fun _ _ _ h => h) (Or.inl ⟨by rfl, ?_⟩) (by assumption) ?_
    rotate_left
    · (intro w hSw; (try dsimp only at hSw); go_simp; try with_reducible rfl)
    (try simp only [Act.put, List.getElem_toArray, List.getElem_cons_zero, List.getElem_cons_succ, List.setIfInBounds_toArray, List.set_cons_zero, List.set_cons_succ])
    refine wpAnyH_take (i := 2) (v := ?_) rfl (by kernel_rfl) (by kernel_rfl) (by kernel_rfl) (fun _ _ _ h => h) (Or.inl ⟨by rfl, ?_⟩) (by assumption) ?_
    rotate_left
    · (intro w hSw; (try dsimp only at hSw); go_simp; try with_reducible rfl)
    (try simp only [Act.put, List.getElem_toArray, List.getElem_cons_zero, List.getElem_cons_succ, List.setIfInBounds_toArray, List.set_cons_zero, List.set_cons_succ])
    refine wpAnyH_take (i := 3) (v := ?_) rfl (by kernel_rfl) (by kernel_rfl) (by kernel_rfl) (fun _ _ _ h => h) (Or.inl ⟨by rfl, ?_⟩) (by assumption) ?_
    rotate_left
    · (intro w hSw; (try dsimp only at hSw); go_simp; try with_reducible rfl)
    (try simp only [Act.put, List.getElem_toArray, List.getElem_cons_zero, List.getElem_cons_succ, List.setIfInBounds_toArray, List.set_cons_zero, List.set_cons_succ])
    refine wpAnyH_take (i := 4) (v := ?_) rfl (by kernel_rfl) (by kernel_rfl) (by kernel_rfl) (fun _ _ _ h => h) (Or.inl ⟨by rfl, ?_⟩) (by assumption) ?_
    rotate_left
    · (intro w hSw; (try dsimp only at hSw); go_simp; try with_reducible rfl)
    (try simp only [Act.put, List.getElem_toArray, List.getElem_cons_zero, List.getElem_cons_succ, List.setIfInBounds_toArray, List.set_cons_zero, List.set_cons_succ])
    refine wpAnyH_take (i := 5) (v := ?_) rfl (by kernel_rfl) (by kernel_rfl) (by kernel_rfl) (fun _ _ _ h => h) (Or.inl ⟨by rfl, ?_⟩) (by assumption) ?_
    rotate_left
    · (intro w hSw; (try dsimp only at hSw); go_simp; try with_reducible rfl)
    (try simp only [Act.put, List.getElem_toArray, List.getElem_cons_zero, List.getElem_cons_succ, List.setIfInBounds_toArray, List.set_cons_zero, List.set_cons_succ])
    refine wpAnyH_take (i := 6) (v := ?_) rfl (by kernel_rfl) (by kernel_rfl) (by kernel_rfl) (fun _ _ _ h => h) (Or.inl ⟨by rfl, ?_⟩) (by assumption) ?_
    rotate_left
    · (intro w hSw; (try dsimp only at hSw); go_simp; try with_reducible rfl)
    (try simp only [Act.put, List.getElem_toArray, List.getElem_cons_zero, List.getElem_cons_succ, List.setIfInBounds_toArray, List.set_cons_zero, List.set_cons_succ])
    refine wpAnyH_take (i := 7) (v := ?_) rfl (by kernel_rfl) (by kernel_rfl) (by kernel_rfl) (fun _ _ _ h => h) (Or.inl ⟨by rfl, ?_⟩) (by assumption) ?_
    rotate_left
    · (intro w hSw; (try dsimp only at hSw); go_simp; try with_reducible rfl)
    (try simp only [Act.put, List.getElem_toArray, List.getElem_cons_zero, List.getElem_cons_succ, List.setIfInBounds_toArray, List.set_cons_zero, List.set_cons_succ])
    refine wpAnyH_take (i := 8) (v := ?_) rfl (by kernel_rfl) (by kernel_rfl) (by kernel_rfl) (fun _ _ _ h => h) (Or.inl ⟨by rfl, ?_⟩) (by assumption) ?_
    rotate_left
    · (intro w hSw; (try dsimp only at hSw); go_simp; try with_reducible rfl)
    (try simp only [Act.put, List.getElem_toArray, List.getElem_cons_zero, List.getElem_cons_succ, List.setIfInBounds_toArray, List.set_cons_zero, List.set_cons_succ])
    refine wpAnyH_take (i := 9) (v := ?_) rfl (by kernel_rfl) (by kernel_rfl) (by kernel_rfl) (fun _ _ _ h => h) (Or.inl ⟨by rfl, ?_⟩) (by assumption) ?_
    rotate_left
    · (intro w hSw; (try dsimp only at hSw); go_simp; try with_reducible rfl)
    (try simp only [Act.put, List.getElem_toArray, List.getElem_cons_zero, List.getElem_cons_succ, List.setIfInBounds_toArray, List.set_cons_zero, List.set_cons_succ])
    refine wpAnyH_take (i := 10) (v := ?_) rfl (by kernel_rfl) (by kernel_rfl) (by kernel_rfl) (fun _ _ _ h => h) (Or.inl ⟨by rfl, ?_⟩) (by assumption) ?_
    rotate_left
    · (intro w hSw; (try dsimp only at hSw); go_simp; try with_reducible rfl)
    (try simp only [Act.put, List.getElem_toArray, List.getElem_cons_zero, List.getElem_cons_succ, List.setIfInBounds_toArray, List.set_cons_zero, List.set_cons_succ])
    refine wpAnyH_take (i := 11) (v := ?_) rfl (by kernel_rfl) (by kernel_rfl) (by kernel_rfl) (fun _ _ _ h => h) (Or.inl ⟨by rfl, ?_⟩) (by assumption) ?_
    rotate_left
    · (intro w hSw; (try dsimp only at hSw); go_simp; try with_reducible rfl)
    (try simp only [Act.put, List.getElem_toArray, List.getElem_cons_zero, List.getElem_cons_succ, List.setIfInBounds_toArray, List.set_cons_zero, List.set_cons_succ])
    refine wpAnyH_take (i := 12) (v := ?_) rfl (by kernel_rfl) (by kernel_rfl) (by kernel_rfl) (fun _ _ _ h => h) (Or.inl ⟨by rfl, ?_⟩) (by assumption) ?_
    rotate_left
    · (intro w hSw; (try dsimp only at hSw); go_simp; try with_reducible rfl)
    (try simp only [Act.put, List.getElem_toArray, List.getElem_cons_zero, List.getElem_cons_succ, List.setIfInBounds_toArray, List.set_cons_zero, List.set_cons_succ])
    refine wpAnyH_take (i := 13) (v := ?_) rfl (by kernel_rfl) (by kernel_rfl) (by kernel_rfl) (fun _ _ _ h => h) (Or.inl ⟨by rfl, ?_⟩) (by assumption) ?_
    rotate_left
    · (intro w hSw; (try dsimp only at hSw); go_simp; try with_reducible rfl)
    (try simp only [Act.put, List.getElem_toArray, List.getElem_cons_zero, List.getElem_cons_succ, List.setIfInBounds_toArray, List.set_cons_zero, List.set_cons_succ])
    refine wpAnyH_take (i := 14) (v := ?_) rfl (by kernel_rfl) (by kernel_rfl) (by kernel_rfl) (fun _ _ _ h => h) (Or.inl ⟨by rfl, ?_⟩) (by assumption) ?_
    rotate_left
    · (intro w hSw; (try dsimp only at hSw); go_simp; try with_reducible rfl)
    (try simp only [Act.put, List.getElem_toArray, List.getElem_cons_zero, List.getElem_cons_succ, List.setIfInBounds_toArray, List.set_cons_zero, List.set_cons_succ])
    refine wpAnyH_take (i := 15) (v := ?_) rfl (by kernel_rfl) (by kernel_rfl) (by kernel_rfl) (fun _ _ _ h => h) (Or.inl ⟨by rfl, ?_⟩) (by assumption) ?_
    rotate_left
    · (intro w hSw; (try dsimp only at hSw); go_simp; try with_reducible rfl)
    (try simp only [Act.put, List.getElem_toArray, List.getElem_cons_zero, List.getElem_cons_succ, List.setIfInBounds_toArray, List.set_cons_zero, List.set_cons_succ])
    refine wpAnyH_take (i := 16) (v := ?_) rfl (by kernel_rfl) (by kernel_rfl) (by kernel_rfl) (fun _ _ _ h => h) (Or.inl ⟨by rfl, ?_⟩) (by assumption) ?_
    rotate_left
    · (intro w hSw; (try dsimp only at hSw); go_simp; try with_reducible rfl)
    (try simp only [Act.put, List.getElem_toArray, List.getElem_cons_zero, List.getElem_cons_succ, List.setIfInBounds_toArray, List.set_cons_zero, List.set_cons_succ])
    refine wpAnyH_take (i := 17) (v := ?_) rfl (by kernel_rfl) (by kernel_rfl) (by kernel_rfl) (fun _ _ _ h => h) (Or.inl ⟨by rfl, ?_⟩) (by assumption) ?_
    rotate_left
    · (intro w hSw; (try dsimp only at hSw); go_simp; try with_reducible rfl)
    (try simp only [Act.put, List.getElem_toArray, List.getElem_cons_zero, List.getElem_cons_succ, List.setIfInBounds_toArray, List.set_cons_zero, List.set_cons_succ])
    refine wpAnyH_take (i := 18) (v := ?_) rfl (by kernel_rfl) (by kernel_rfl) (by kernel_rfl) (fun _ _ _ h => h) (Or.inl ⟨by rfl, ?_⟩) (by assumption) ?_
    rotate_left
    · (intro w hSw; (try dsimp only at hSw); go_simp; try with_reducible rfl)
    (try simp only [Act.put, List.getElem_toArray, List.getElem_cons_zero, List.getElem_cons_succ, List.setIfInBounds_toArray, List.set_cons_zero, List.set_cons_succ])
    refine wpAnyH_take (i := 19) (v := ?_) rfl (by kernel_rfl) (by kernel_rfl) (by kernel_rfl) (fun _ _ _ h => h) (Or.inl ⟨by rfl, ?_⟩) (by assumption) ?_
    rotate_left
    · (intro w hSw; (try dsimp only at hSw); go_simp; try with_reducible rfl)
    (try simp only [Act.put, List.getElem_toArray, List.getElem_cons_zero, List.getElem_cons_succ, List.setIfInBounds_toArray, List.set_cons_zero, List.set_cons_succ])
    refine wpAnyH_take (i := 20) (v := ?_) rfl (by kernel_rfl) (by kernel_rfl) (by kernel_rfl) (fun _ _ _ h => h) (Or.inl ⟨by rfl, ?_⟩) (by assumption) ?_
    rotate_left
    · (intro w hSw; (try dsimp only at hSw); go_simp; try with_reducible rfl)
    (try simp only [Act.put, List.getElem_toArray, List.getElem_cons_zero, List.getElem_cons_succ, List.setIfInBounds_toArray, List.set_cons_zero, List.set_cons_succ])
    refine wpAnyH_take (i := 21) (v := ?_) rfl (by kernel_rfl) (by kernel_rfl) (by kernel_rfl) (fun _ _ _ h => h) (Or.inl ⟨by rfl, ?_⟩) (by assumption) ?_
    rotate_left
    · (intro w hSw; (try dsimp only at hSw); go_simp; try with_reducible rfl)
    (try simp only [Act.put, List.getElem_toArray, List.getElem_cons_zero, List.getElem_cons_succ, List.setIfInBounds_toArray, List.set_cons_zero, List.set_cons_succ])
    refine wpAnyH_take (i := 22) (v := ?_) rfl (by kernel_rfl) (by kernel_rfl) (by kernel_rfl) (fun _ _ _ h => h) (Or.inl ⟨by rfl, ?_⟩) (by assumption) ?_
    rotate_left
    · (intro w hSw; (try dsimp only at hSw); go_simp; try with_reducible rfl)
    (try simp only [Act.put, List.getElem_toArray, List.getElem_cons_zero, List.getElem_cons_succ, List.setIfInBounds_toArray, List.set_cons_zero, List.set_cons_succ])
    refine wpAnyH_ready (rs := [23]) (by kernel_rfl) (by simp) ?_
    refine AllReadyH.cons rfl (fun K hK => ?_) AllReadyH.nil
    go_simp
    refine (TR.out _).mono ?_
    rintro e wn ⟨rfl, rfl⟩
    (try go_wp2_with fail)
    refine hK.out _ _ ?_ (fun hHeld => ?_)
    · (try dsimp only)
      exact ⟨X1.out.1, X1.out.2, X2.out.1, X2.out.2⟩
    clear hK K
    (try simp only [Act.put, List.getElem_toArray, List.getElem_cons_zero, List.getElem_cons_succ, List.setIfInBounds_toArray, List.set_cons_zero, List.set_cons_succ])
    refine wpAnyH_take (i := 24) (v := ?_) rfl (by kernel_rfl) (by kernel_rfl) (by kernel_rfl) (fun _ _ _ h => h) (Or.inl ⟨by rfl, ?_⟩) (by assumption) ?_
    rotate_left
    · (intro w hSw; (try dsimp only at hSw); go_simp; try with_reducible rfl)
    (try simp only [Act.put, List.getElem_toArray, List.getElem_cons_zero, List.getElem_cons_succ, List.setIfInBounds_toArray, List.set_cons_zero, List.set_cons_succ])
    refine wpAnyH_take (i := 25) (v := ?_) rfl (by kernel_rfl) (by kernel_rfl) (by kernel_rfl) (fun _ _ _ h => h) (Or.inl ⟨by rfl, ?_⟩) (by assumption) ?_
    rotate_left
    · (intro w hSw; (try dsimp only at hSw); go_simp; try with_reducible rfl)
    (try simp only [Act.put, List.getElem_toArray, List.getElem_cons_zero, List.getElem_cons_succ, List.setIfInBounds_toArray, List.set_cons_zero, List.set_cons_succ])
    refine wpAnyH_take (i := 26) (v := ?_) rfl (by kernel_rfl) (by kernel_rfl) (by kernel_rfl) (fun _ _ _ h => h) (Or.inl ⟨by rfl, ?_⟩) (by assumption) ?_
    rotate_left
    · (intro w hSw; (try dsimp only at hSw); go_simp; try with_reducible rfl)
    (try simp only [Act.put, List.getElem_toArray, List.getElem_cons_zero, List.getElem_cons_succ, List.setIfInBounds_toArray, List.set_cons_zero, List.set_cons_succ])
    refine wpAnyH_take (i := 27) (v := ?_) rfl (by kernel_rfl) (by kernel_rfl) (by kernel_rfl) (fun _ _ _ h => h) (Or.inl ⟨by rfl, ?_⟩) (by assumption) ?_
    rotate_left
    · (intro w hSw; (try dsimp only at hSw); go_simp; try with_reducible rfl)
    (try simp only [Act.put, List.getElem_toArray, List.getElem_cons_zero, List.getElem_cons_succ, List.setIfInBounds_toArray, List.set_cons_zero, List.set_cons_succ])
    refine wpAnyH_take (i := 28) (v := ?_) rfl (by kernel_rfl) (by kernel_rfl) (by kernel_rfl) (fun _ _ _ h => h) (Or.inl ⟨by rfl, ?_⟩) (by assumption) ?_
    rotate_left
    · (intro w hSw; (try dsimp only at hSw); go_simp; try with_reducible rfl)
    (try simp only [Act.put, List.getElem_toArray, List.getElem_cons_zero, List.getElem_cons_succ, List.setIfInBounds_toArray, List.set_cons_zero, List.set_cons_succ])
    refine wpAnyH_take (i := 29) (v := ?_) rfl (by kernel_rfl) (by kernel_rfl) (by kernel_rfl) (fun _ _ _ h => h) (Or.inl ⟨by rfl, ?_⟩) (by assumption) ?_
    rotate_left
    · (intro w hSw; (try dsimp only at hSw); go_simp; try with_reducible rfl)
    (try simp only [Act.put, List.getElem_toArray, List.getElem_cons_zero, List.getElem_cons_succ, List.setIfInBounds_toArray, List.set_cons_zero, List.set_cons_succ])
    refine wpAnyH_take (i := 30) (v := ?_) rfl (by kernel_rfl) (by kernel_rfl) (by kernel_rfl) (fun _ _ _ h => h) (Or.inl ⟨by rfl, ?_⟩) (by assumption) ?_
    rotate_left
    · (intro w hSw; (try dsimp only at hSw); go_simp; try with_reducible rfl)
    (try simp only [Act.put, List.getElem_toArray, List.getElem_cons_zero, List.getElem_cons_succ, List.setIfInBounds_toArray, List.set_cons_zero, List.set_cons_succ])
    refine wpAnyH_take (i := 31) (v := ?_) rfl (by kernel_rfl) (by kernel_rfl) (by kernel_rfl) (fun _ _ _ h => h) (Or.inl ⟨by rfl, ?_⟩) (by assumption) ?_
    rotate_left
    · (intro w hSw; (try dsimp only at hSw); go_simp; try with_reducible rfl)
    (try simp only [Act.put, List.getElem_toArray, List.getElem_cons_zero, List.getElem_cons_succ, List.setIfInBounds_toArray, List.set_cons_zero, List.set_cons_succ])
    refine wpAnyH_take (i := 32) (v := ?_) rfl (by kernel_rfl) (by kernel_rfl) (by kernel_rfl) (fun _ _ _ h => h) (Or.inl ⟨by rfl, ?_⟩) (by assumption) ?_
    rotate_left
    · (intro w hSw; (try dsimp only at hSw); go_simp; try with_reducible rfl)
    (try simp only [Act.put, List.getElem_toArray, List.getElem_cons_zero, List.getElem_cons_succ, List.setIfInBounds_toArray, List.set_cons_zero, List.set_cons_succ])
    refine wpAnyH_done (by kernel_rfl) ?_ _
    go_wp2_with fail
    go_ret
    exact ⟨rfl, FW.out⟩
  · have DN := hide (fun wz => digits_no b wz hb hc)
    have FN := hide (fun wz => fifteen_no b wz hb hc)
    have hq1 : ¬ (q : Int) = 1 := by omega
    have hq2 : ((q : Int) != 1) = true := by simp only [bne_iff_ne, ne_eq]; omega
    clear hc hqq DB
    go_enter Tryz.func3, Tryz.ntmps3
    go_wp2_with fail
    refine (OB.out _).mono ?_
    rintro e w1 ⟨rfl, f1⟩
    have FW := hide f1
    clear f1 OB
    go_wp2_with fail
    obtain ⟨W1, hW1⟩ : ∃ W, W = w1.alloc (Obj.cells #[.int .i64 (q : Int), .bool g, .int .u64 (m : Int), .int .i64 x] 24) := ⟨_, rfl⟩
    have fy : Fr w1 W1 := by rw [hW1]; exact Fr.alloc _ _
    have XV : Hid (W1.cell? ⟨w1.heap.size, 0, none⟩ = some (.int .i64 (q : Int)) ∧ W1.cell? ⟨w1.heap.size, 2, none⟩ = some (.int .u64 (m : Int)) ∧ W1.cell? ⟨w1.heap.size, 3, none⟩ = some (.int .i64 x)) := by
      have h4 : W1.cell? ⟨w1.heap.size, 0, none⟩ = some (.int .i64 (q : Int)) ∧ W1.cell? ⟨w1.heap.size, 1, none⟩ = some (.bool g) ∧ W1.cell? ⟨w1.heap.size, 2, none⟩ = some (.int .u64 (m : Int)) ∧ W1.cell? ⟨w1.heap.size, 3, none⟩ = some (.int .i64 x) := by rw [hW1]; exact four_cells (Fr.refl _)
      exact ⟨h4.1, h4.2.2.1, h4.2.2.2⟩
    rw [← hW1]
    clear hW1
    have FW := hide (FW.out.trans fy)
    clear fy
    refine (DN.out _).mono ?_
    rintro e w2 ⟨rfl, fy⟩
    have XV : Hid (_ ∧ _ ∧ _) := ⟨fr_cell fy XV.out.1, fr_cell fy XV.out.2.1, fr_cell fy XV.out.2.2⟩
    have FW := hide (FW.out.trans fy)
    clear fy
    clear DN
    go_wp2_with fail
    obtain ⟨W2, hW2⟩ : ∃ W, W = w2.alloc (Obj.cells #[.string ⟨#[]⟩, .int .i64 0] 27) := ⟨_, rfl⟩
    have fy : Fr w2 W2 := by rw [hW2]; exact Fr.alloc _ _
    have X1 : Hid (W2.cell? ⟨w2.heap.size, 0, none⟩ = some (.string ⟨#[]⟩) ∧ W2.cell? ⟨w2.heap.size, 1, none⟩ = some (.int .i64 0)) := by rw [hW2]; exact hide ⟨by simp [go_sem], by simp [go_sem]⟩
    rw [← hW2]
    clear hW2
    have XV : Hid (_ ∧ _ ∧ _) := ⟨fr_cell fy XV.out.1, fr_cell fy XV.out.2.1, fr_cell fy XV.out.2.2⟩
    have FW := hide (FW.out.trans fy)
    clear fy
    refine (FN.out _).mono ?_
    rintro e w3 ⟨rfl, fy⟩
    have XV : Hid (_ ∧ _ ∧ _) := ⟨fr_cell fy XV.out.1, fr_cell fy XV.out.2.1, fr_cell fy XV.out.2.2⟩
    have X1 := hide (And.intro (fr_cell fy X1.out.1) (fr_cell fy X1.out.2))
    have FW := hide (FW.out.trans fy)
    clear fy
    clear FN
    have l1 := cell_lt X1.out.1
    simp only [] at l1
    have lv := cell_lt XV.out.1
    simp only [] at lv
    have fz := Fr.alloc w3 (Obj.cells #[.string ⟨#[]⟩, .int .i64 0] 27)
    have v1 := fr_cell fz XV.out.1
    clear fz
    go_wp2_with fail
    obtain ⟨W3, hW3⟩ : ∃ W, W = w3.alloc (Obj.cells #[.string ⟨#[]⟩, .int .i64 0] 27) := ⟨_, rfl⟩
    have fy : Fr w3 W3 := by rw [hW3]; exact Fr.alloc _ _
    have X2 : Hid (W3.cell? ⟨w3.heap.size, 0, none⟩ = some (.string ⟨#[]⟩) ∧ W3.cell? ⟨w3.heap.size, 1, none⟩ = some (.int .i64 0)) := by rw [hW3]; exact hide ⟨by simp [go_sem], by simp [go_sem]⟩
    rw [← hW3]
    clear hW3
    have XV : Hid (_ ∧ _ ∧ _) := ⟨fr_cell fy XV.out.1, fr_cell fy XV.out.2.1, fr_cell fy XV.out.2.2⟩
    have X1 := hide (And.intro (fr_cell fy X1.out.1) (fr_cell fy X1.out.2))
    have FW := hide (FW.out.trans fy)
    clear fy
    clear v1
    refine (wakes_any _ (HL.out.fr FW.out)).mono ?_
    rintro e w9 ⟨rfl, fy⟩
    have X1 := hide (And.intro (fr_cell fy X1.out.1) (fr_cell fy X1.out.2))
    have X2 := hide (And.intro (fr_cell fy X2.out.1) (fr_cell fy X2.out.2))
    have FW := hide (FW.out.trans fy)
    clear fy
    have x1 := X1.out.1
    have x1' := X1.out.2
    have x2 := X2.out.1
    have x2' := X2.out.2
    go_wp2_with fail
    go_ret
    exact ⟨rfl, FW.out⟩
end Go.Proofs.YtammjgieocgelaaGreatDoor
