/- Value of any value. -/
import Derived.Test.YthdgdomgcogpjaaDoorPackC
import Derived.Test.YthdgdomgcogpjaaDoorVBitsB
namespace Go.Proofs.YthdgdomgcogpjaaDoor
set_option linter.unusedVariables false
set_option linter.unusedSimpArgs false
open Go.RowKit

attribute [local go_sem] World.cell?_alloc_some
theorem ok_range {c : Int} {g : Bool} {m : Nat} {x : Int} (h : okN c g m x = true) : -1074 ≤ x ∧ x ≤ 971 := by
  have := of_decide_eq_true h
  have h4 := this.2.2.2
  rw [← h4]
  have lE : bE (triedN c g m x) < 2048 := Nat.mod_lt _ (by omega)
  unfold bX
  split
  · omega
  · split
    · split <;> omega
    · omega

set_option maxHeartbeats 2000000 in
set_option maxRecDepth 4000 in
theorem valueR_other (c : Int) (g : Bool) (m : Nat) (x : Int) (w : World) (hm : m < 18446744073709551616) (x0 : -9223372036854775808 ≤ x) (x1 : x ≤ 9223372036854775807) (h0 : c ≠ 0) (h1 : c ≠ 1) :
    Calls Tryd.prog 29 #[.agg #[.int .i64 c, .bool g, .int .u64 (m : Int), .int .i64 x]] w fun e w' => e = .returned (.tuple #[.agg #[.slice none 0 0, .slice none 0 0], .bool false]) ∧ Fr w w' := by
  have z0 : (c != 0) = true := by simpa using h0
  have z1 : (c != 1) = true := by simpa using h1
  go_enter Tryd.func29, Tryd.ntmps29
  go_wp2_with fail
  have s2 : Slot2 w ((w.alloc (Obj.cells #[.int .i64 c, .bool g, .int .u64 (m : Int), .int .i64 x] 69)).alloc (Obj.cells #[Value.slice none 0 0, Value.slice none 0 0] 27)) (w.heap.size + 1) (.slice none 0 0) (.slice none 0 0) := by
    simpa using Slot2.new (Fr.alloc w (Obj.cells #[.int .i64 c, .bool g, .int .u64 (m : Int), .int .i64 x] 69)) none 0 0 none 0 0 27
  exact bodyPost_ret (results_rat_ok rfl _ _ (w.heap.size + 1) _ _ rfl s2.1 s2.2.1) rfl ⟨rfl, (Fr.alloc _ _).trans (Fr.alloc _ _)⟩

set_option maxHeartbeats 2000000 in
set_option maxRecDepth 4000 in
theorem valueR_not (c : Int) (g : Bool) (m : Nat) (x : Int) (w : World) (hm : m < 18446744073709551616) (x0 : -9223372036854775808 ≤ x) (x1 : x ≤ 9223372036854775807) (h0 : c = 0 ∨ c = 1) (hk : okN c g m x = false) :
    Calls Tryd.prog 29 #[.agg #[.int .i64 c, .bool g, .int .u64 (m : Int), .int .i64 x]] w fun e w' => e = .returned (.tuple #[.agg #[.slice none 0 0, .slice none 0 0], .bool false]) ∧ Fr w w' := by
  have VB := hide (fun wz => vbits_any c g m x wz hm x0 x1)
  rw [hk] at VB
  clear hk
  have fin : Hid (∀ W w1, W = (w.alloc (Obj.cells #[.int .i64 c, .bool g, .int .u64 (m : Int), .int .i64 x] 69)).alloc (Obj.cells #[Value.slice none 0 0, Value.slice none 0 0] 27) → Fr W w1 → Slot2 w w1 (w.heap.size + 1) (.slice none 0 0) (.slice none 0 0) ∧ Fr w w1) := by
    rintro W w1 rfl f1
    exact ⟨Slot2.fr (by simpa using Slot2.new (Fr.alloc w (Obj.cells #[.int .i64 c, .bool g, .int .u64 (m : Int), .int .i64 x] 69)) none 0 0 none 0 0 27) f1, ((Fr.alloc _ _).trans (Fr.alloc _ _)).trans f1⟩
  rcases h0 with rfl | rfl
  · go_enter Tryd.func29, Tryd.ntmps29
    go_wp2_with fail
    refine (VB.out _).mono ?_
    rintro e w1 ⟨rfl, f1⟩
    obtain ⟨s2, FW⟩ := fin.out _ _ rfl f1
    have S2 := hide s2
    have FW := hide FW
    clear s2 f1 fin VB
    have q_ := S2.out.1
    have q2_ := S2.out.2.1
    have z_ := S2.out.2.2.1 0
    have z2_ := S2.out.2.2.1 1
    have FW := hide (S2.out.set_fr FW.out (.slice none 0 0) (.slice none 0 0))
    have S2 := hide (S2.out.set none 0 0 none 0 0)
    go_wp2_with fail
    exact bodyPost_ret (results_rat_ok rfl _ _ (w.heap.size + 1) _ _ rfl S2.out.1 S2.out.2.1) rfl ⟨rfl, FW.out⟩
  · go_enter Tryd.func29, Tryd.ntmps29
    go_wp2_with fail
    refine (VB.out _).mono ?_
    rintro e w1 ⟨rfl, f1⟩
    obtain ⟨s2, FW⟩ := fin.out _ _ rfl f1
    have S2 := hide s2
    have FW := hide FW
    clear s2 f1 fin VB
    have q_ := S2.out.1
    have q2_ := S2.out.2.1
    have z_ := S2.out.2.2.1 0
    have z2_ := S2.out.2.2.1 1
    have FW := hide (S2.out.set_fr FW.out (.slice none 0 0) (.slice none 0 0))
    have S2 := hide (S2.out.set none 0 0 none 0 0)
    go_wp2_with fail
    exact bodyPost_ret (results_rat_ok rfl _ _ (w.heap.size + 1) _ _ rfl S2.out.1 S2.out.2.1) rfl ⟨rfl, FW.out⟩

set_option maxHeartbeats 2000000 in
set_option maxRecDepth 4000 in
theorem valueR_yes (c : Int) (g : Bool) (m : Nat) (x : Int) (w : World) (hm : m < 18446744073709551616) (x0 : -9223372036854775808 ≤ x) (x1 : x ≤ 9223372036854775807) (hT : Tab w) (h0 : c = 0 ∨ c = 1) (hk : okN c g m x = true) :
    Calls Tryd.prog 29 #[.agg #[.int .i64 c, .bool g, .int .u64 (m : Int), .int .i64 x]] w fun e w' => ∃ v, e = .returned (.tuple #[v, .bool true]) ∧ IsRat w' v (m * 2 ^ x.toNat) (2 ^ (-x).toNat) ∧ Fr w w' := by
  have HT := hide hT
  have VB := hide (fun wz => vbits_any c g m x wz hm x0 x1)
  obtain ⟨y0, y1⟩ := ok_range hk
  rw [hk] at VB
  have hw : IntKind.i64.wrap (-x) = -x := by rw [IntKind.wrap_i64]; omega
  have nm : nlen 4294967296 m ≤ 2 := wsm hm
  obtain ⟨A, hA⟩ : ∃ A, m * 2 ^ x.toNat = A := ⟨_, rfl⟩
  obtain ⟨B, hB⟩ : ∃ B, 1 * 2 ^ (-x).toNat = B := ⟨_, rfl⟩
  have nA : nlen 4294967296 A ≤ 974 := by
    have h1 : nlen 4294967296 (2 ^ x.toNat) ≤ 972 := by
      have := nlen_pow (x := 2) (n := 1) (by have := wsm (x := 2) (by omega); exact Nat.le_trans (nlen_le b32 (k := 1) (by decide)) (by omega)) x.toNat; omega
    rw [← hA]
    exact nlen_mul b32 nm h1
  have nB : nlen 4294967296 B ≤ 1075 := by
    rw [← hB, Nat.one_mul]
    have := nlen_pow (x := 2) (n := 1) (nlen_le b32 (k := 1) (by decide)) (-x).toNat; omega
  have hB0 : B ≠ 0 := by rw [← hB, Nat.one_mul]; exact Nat.ne_of_gt (Nat.pow_pos (by omega))
  have hB2 := hB
  rw [Nat.one_mul] at hB2
  rw [hA, hB2]
  have HA := hide hA
  have HB := hide hB
  clear hT hk hA hB hB2
  have fin : Hid (∀ W w1, W = (w.alloc (Obj.cells #[.int .i64 c, .bool g, .int .u64 (m : Int), .int .i64 x] 69)).alloc (Obj.cells #[Value.slice none 0 0, Value.slice none 0 0] 27) → Fr W w1 → Slot2 w w1 (w.heap.size + 1) (.slice none 0 0) (.slice none 0 0) ∧ Fr w w1 ∧ w1.cell? ⟨w.heap.size, 2, none⟩ = some (.int .u64 (m : Int)) ∧ w1.cell? ⟨w.heap.size, 3, none⟩ = some (.int .i64 x)) := by
    rintro W w1 rfl f1
    exact ⟨Slot2.fr (by simpa using Slot2.new (Fr.alloc w (Obj.cells #[.int .i64 c, .bool g, .int .u64 (m : Int), .int .i64 x] 69)) none 0 0 none 0 0 27) f1, ((Fr.alloc _ _).trans (Fr.alloc _ _)).trans f1, fr_cell f1 (by simp [go_sem]), fr_cell f1 (by simp [go_sem])⟩
  have RUN : Hid (∀ w1, Slot2 w w1 (w.heap.size + 1) (.slice none 0 0) (.slice none 0 0) → True) := fun _ _ => trivial
  rcases h0 with rfl | rfl
  · go_enter Tryd.func29, Tryd.ntmps29
    go_wp2_with fail
    refine (VB.out _).mono ?_
    rintro e w1 ⟨rfl, f1⟩
    obtain ⟨s2, FW, c2, c3⟩ := fin.out _ _ rfl f1
    have S2 := hide s2
    have FW := hide FW
    have HT := hide (Tab.fr HT.out FW.out)
    clear s2 f1 fin VB RUN
    have S2 := hide (S2.out.fr (Fr.drew _))
    have HT := hide (HT.out.fr (Fr.drew _))
    have FW := hide (FW.out.trans (Fr.drew _))
    have d2 := fr_cell (Fr.drew _) c2
    have d3 := fr_cell (Fr.drew _) c3
    go_wp2_with fail
    refine wp_region_held_drew (S := (fun w' => w'.cell? ⟨w.heap.size, 2, none⟩ = some (.int .u64 (m : Int)) ∧ w'.cell? ⟨w.heap.size, 3, none⟩ = some (.int .i64 x))) (by kernel_rfl) ?_ (fun hHeld => ?_)
    · exact ⟨d2, d3⟩
    obtain ⟨wd, hwd⟩ : ∃ wd, wd = w1.drew := ⟨_, rfl⟩
    rw [← hwd] at hHeld S2 FW HT d2 d3 ⊢
    clear hwd
    refine wpAnyH_take (i := 0) (v := ?_) rfl (by kernel_rfl) (by kernel_rfl) (by kernel_rfl) (fun _ _ _ h => h) (Or.inl ⟨by rfl, ?_⟩) (by assumption) ?_
    rotate_left
    · (intro w hSw; (try dsimp only at hSw); go_simp; try with_reducible rfl)
    (try simp only [Act.put, List.getElem_toArray, List.getElem_cons_zero, List.getElem_cons_succ, List.setIfInBounds_toArray, List.set_cons_zero, List.set_cons_succ])
    refine wpAnyH_take (i := 1) (v := ?_) rfl (by kernel_rfl) (by kernel_rfl) (by kernel_rfl) (fun _ _ _ h => h) (Or.inl ⟨by rfl, ?_⟩) (by assumption) ?_
    rotate_left
    · (intro w hSw; (try dsimp only at hSw); go_simp; try with_reducible rfl)
    (try simp only [Act.put, List.getElem_toArray, List.getElem_cons_zero, List.getElem_cons_succ, List.setIfInBounds_toArray, List.set_cons_zero, List.set_cons_succ])
    refine wpAnyH_take (i := 3) (v := ?_) rfl (by kernel_rfl) (by kernel_rfl) (by kernel_rfl) (fun _ _ _ h => h) (Or.inl ⟨by rfl, ?_⟩) (by assumption) ?_
    rotate_left
    · (intro w hSw; (try dsimp only at hSw); go_simp; try with_reducible rfl)
    (try simp only [Act.put, List.getElem_toArray, List.getElem_cons_zero, List.getElem_cons_succ, List.setIfInBounds_toArray, List.set_cons_zero, List.set_cons_succ])
    refine wpAnyH_take (i := 4) (v := ?_) rfl (by kernel_rfl) (by kernel_rfl) (by kernel_rfl) (fun _ _ _ h => h) (Or.inl ⟨by rfl, ?_⟩) (by assumption) ?_
    rotate_left
    · (intro w hSw; (try dsimp only at hSw); go_simp; try with_reducible rfl)
    (try simp only [Act.put, List.getElem_toArray, List.getElem_cons_zero, List.getElem_cons_succ, List.setIfInBounds_toArray, List.set_cons_zero, List.set_cons_succ])
    refine wpAnyH_take (i := 7) (v := ?_) rfl (by kernel_rfl) (by kernel_rfl) (by kernel_rfl) (fun _ _ _ h => h) (Or.inl ⟨by rfl, ?_⟩) (by assumption) ?_
    rotate_left
    · (intro w hSw; (try dsimp only at hSw); go_simp; try with_reducible rfl)
    (try simp only [Act.put, List.getElem_toArray, List.getElem_cons_zero, List.getElem_cons_succ, List.setIfInBounds_toArray, List.set_cons_zero, List.set_cons_succ])
    refine wpAnyH_take (i := 8) (v := ?_) rfl (by kernel_rfl) (by kernel_rfl) (by kernel_rfl) (fun _ _ _ h => h) (Or.inl ⟨by rfl, ?_⟩) (by assumption) ?_
    rotate_left
    · (intro w hSw; (try dsimp only at hSw); go_simp; try with_reducible rfl)
    (try simp only [Act.put, List.getElem_toArray, List.getElem_cons_zero, List.getElem_cons_succ, List.setIfInBounds_toArray, List.set_cons_zero, List.set_cons_succ])
    refine wpAnyH_take (i := 9) (v := ?_) rfl (by kernel_rfl) (by kernel_rfl) (by kernel_rfl) (fun _ _ _ h => h) (Or.inl ⟨by rfl, ?_⟩) (by assumption) ?_
    rotate_left
    · (intro w hSw; (try dsimp only at hSw); go_simp; try with_reducible rfl)
    (try simp only [Act.put, List.getElem_toArray, List.getElem_cons_zero, List.getElem_cons_succ, List.setIfInBounds_toArray, List.set_cons_zero, List.set_cons_succ])
    refine wpAnyH_ready (rs := [2]) (by kernel_rfl) (by simp) ?_
    refine AllReadyH.cons rfl (fun K hK => ?_) AllReadyH.nil
    go_simp
    refine (ofc_any (m : Int) m _ rfl hm).mono ?_
    rintro e wa ⟨a1, c1, rfl, iy, _, fy⟩
    have IA := hide iy
    have d2 := fr_cell fy d2
    have d3 := fr_cell fy d3
    have S2 := hide (S2.out.fr fy)
    have HT := hide (HT.out.fr fy)
    have FW := hide (FW.out.trans fy)
    clear iy fy 
    (try go_wp2_with fail)
    refine hK.out _ _ ?_ (fun hHeld => ?_)
    · (try dsimp only)
      exact ⟨d2, d3⟩
    clear hK K
    (try simp only [Act.put, List.getElem_toArray, List.getElem_cons_zero, List.getElem_cons_succ, List.setIfInBounds_toArray, List.set_cons_zero, List.set_cons_succ])
    refine wpAnyH_ready (rs := [5]) (by kernel_rfl) (by simp) ?_
    refine AllReadyH.cons rfl (fun K hK => ?_) AllReadyH.nil
    go_simp
    refine (upc_any _ m x A _ IA.out (by omega) (by omega) (by omega) HA.out).mono ?_
    rintro e wb ⟨a2, c2, rfl, iy, fy⟩
    have IB := hide iy
    have d2 := fr_cell fy d2
    have d3 := fr_cell fy d3
    have S2 := hide (S2.out.fr fy)
    have HT := hide (HT.out.fr fy)
    have FW := hide (FW.out.trans fy)
    clear iy fy IA
    (try go_wp2_with fail)
    refine hK.out _ _ ?_ (fun hHeld => ?_)
    · (try dsimp only)
      exact ⟨d2, d3⟩
    clear hK K
    (try simp only [Act.put, List.getElem_toArray, List.getElem_cons_zero, List.getElem_cons_succ, List.setIfInBounds_toArray, List.set_cons_zero, List.set_cons_succ])
    refine wpAnyH_ready (rs := [6]) (by kernel_rfl) (by simp) ?_
    refine AllReadyH.cons rfl (fun K hK => ?_) AllReadyH.nil
    go_simp
    refine (ofc_any 1 1 _ rfl (by omega)).mono ?_
    rintro e wc ⟨a3, c3, rfl, iy, _, fy⟩
    have IC := hide iy
    have d2 := fr_cell fy d2
    have d3 := fr_cell fy d3
    have S2 := hide (S2.out.fr fy)
    have HT := hide (HT.out.fr fy)
    have IB := hide (IB.out.fr fy)
    have FW := hide (FW.out.trans fy)
    clear iy fy 
    (try go_wp2_with fail)
    refine hK.out _ _ ?_ (fun hHeld => ?_)
    · (try dsimp only)
      exact ⟨d2, d3⟩
    clear hK K
    (try simp only [Act.put, List.getElem_toArray, List.getElem_cons_zero, List.getElem_cons_succ, List.setIfInBounds_toArray, List.set_cons_zero, List.set_cons_succ])
    refine wpAnyH_ready (rs := [10]) (by kernel_rfl) (by simp) ?_
    refine AllReadyH.cons rfl (fun K hK => ?_) AllReadyH.nil
    go_simp
    refine (upc_any _ 1 (-x) B _ IC.out (by have := wsm (x := 1) (by omega); omega) (by omega) (by omega) HB.out).mono ?_
    rintro e we ⟨a4, c4, rfl, iy, fy⟩
    have ID := hide iy
    have d2 := fr_cell fy d2
    have d3 := fr_cell fy d3
    have S2 := hide (S2.out.fr fy)
    have HT := hide (HT.out.fr fy)
    have IB := hide (IB.out.fr fy)
    have FW := hide (FW.out.trans fy)
    clear iy fy IC
    (try go_wp2_with fail)
    refine hK.out _ _ ?_ (fun hHeld => ?_)
    · (try dsimp only)
      exact ⟨d2, d3⟩
    clear hK K
    (try simp only [Act.put, List.getElem_toArray, List.getElem_cons_zero, List.getElem_cons_succ, List.setIfInBounds_toArray, List.set_cons_zero, List.set_cons_succ])
    refine wpAnyH_ready (rs := [11]) (by kernel_rfl) (by simp) ?_
    refine AllReadyH.cons rfl (fun K hK => ?_) AllReadyH.nil
    go_simp
    refine (lowest_any _ _ A B _ HT.out IB.out ID.out (by omega) (by omega) hB0).mono ?_
    rintro e wr ⟨v, rfl, ir, fy⟩
    have RV := hide ir
    have d2 := fr_cell fy d2
    have d3 := fr_cell fy d3
    have S2 := hide (S2.out.fr fy)
    have FW := hide (FW.out.trans fy)
    obtain ⟨u1, u2, u3, u4, u5, u6, rfl⟩ := ir.form
    clear ir fy
    (try go_wp2_with fail)
    refine hK.out _ _ ?_ (fun hHeld => ?_)
    · (try dsimp only)
      exact ⟨d2, d3⟩
    clear hK K
    (try simp only [Act.put, List.getElem_toArray, List.getElem_cons_zero, List.getElem_cons_succ, List.setIfInBounds_toArray, List.set_cons_zero, List.set_cons_succ])
    refine wpAnyH_ready (rs := [12]) (by kernel_rfl) (by simp) ?_
    refine AllReadyH.cons rfl (fun K hK => ?_) AllReadyH.nil
    have q_ := S2.out.1
    have q2_ := S2.out.2.1
    have z_ := S2.out.2.2.1 0
    have z2_ := S2.out.2.2.1 1
    have RV := hide (S2.out.rat RV.out u1 u2 u3 (.slice u4 u5 u6))
    have FW := hide (S2.out.set_fr FW.out (.slice u1 u2 u3) (.slice u4 u5 u6))
    have S2 := hide (S2.out.set u1 u2 u3 u4 u5 u6)
    go_simp
    (try go_wp2_with fail)
    refine hK.out _ _ ?_ (fun hHeld => ?_)
    · (try dsimp only)
      exact ⟨(World.cell?_setCell_other _ _ _ _ (fun e => by injection e; omega)).trans ((World.cell?_setCell_other _ _ _ _ (fun e => by injection e; omega)).trans d2), (World.cell?_setCell_other _ _ _ _ (fun e => by injection e; omega)).trans ((World.cell?_setCell_other _ _ _ _ (fun e => by injection e; omega)).trans d3)⟩
    clear hK K
    (try simp only [Act.put, List.getElem_toArray, List.getElem_cons_zero, List.getElem_cons_succ, List.setIfInBounds_toArray, List.set_cons_zero, List.set_cons_succ])
    refine wpAnyH_take (i := 13) (v := ?_) rfl (by kernel_rfl) (by kernel_rfl) (by kernel_rfl) (fun _ _ _ h => h) (Or.inl ⟨by rfl, ?_⟩) (by assumption) ?_
    rotate_left
    · (intro w hSw; (try dsimp only at hSw); go_simp; try with_reducible rfl)
    (try simp only [Act.put, List.getElem_toArray, List.getElem_cons_zero, List.getElem_cons_succ, List.setIfInBounds_toArray, List.set_cons_zero, List.set_cons_succ])
    refine wpAnyH_done (by kernel_rfl) ?_ _
    go_wp2_with fail
    exact bodyPost_ret (results_rat_ok rfl _ _ (w.heap.size + 1) _ _ rfl S2.out.1 S2.out.2.1) rfl ⟨_, rfl, RV.out, FW.out⟩
  · go_enter Tryd.func29, Tryd.ntmps29
    go_wp2_with fail
    refine (VB.out _).mono ?_
    rintro e w1 ⟨rfl, f1⟩
    obtain ⟨s2, FW, c2, c3⟩ := fin.out _ _ rfl f1
    have S2 := hide s2
    have FW := hide FW
    have HT := hide (Tab.fr HT.out FW.out)
    clear s2 f1 fin VB RUN
    have S2 := hide (S2.out.fr (Fr.drew _))
    have HT := hide (HT.out.fr (Fr.drew _))
    have FW := hide (FW.out.trans (Fr.drew _))
    have d2 := fr_cell (Fr.drew _) c2
    have d3 := fr_cell (Fr.drew _) c3
    go_wp2_with fail
    refine wp_region_held_drew (S := (fun w' => w'.cell? ⟨w.heap.size, 2, none⟩ = some (.int .u64 (m : Int)) ∧ w'.cell? ⟨w.heap.size, 3, none⟩ = some (.int .i64 x))) (by kernel_rfl) ?_ (fun hHeld => ?_)
    · exact ⟨d2, d3⟩
    obtain ⟨wd, hwd⟩ : ∃ wd, wd = w1.drew := ⟨_, rfl⟩
    rw [← hwd] at hHeld S2 FW HT d2 d3 ⊢
    clear hwd
    refine wpAnyH_take (i := 0) (v := ?_) rfl (by kernel_rfl) (by kernel_rfl) (by kernel_rfl) (fun _ _ _ h => h) (Or.inl ⟨by rfl, ?_⟩) (by assumption) ?_
    rotate_left
    · (intro w hSw; (try dsimp only at hSw); go_simp; try with_reducible rfl)
    (try simp only [Act.put, List.getElem_toArray, List.getElem_cons_zero, List.getElem_cons_succ, List.setIfInBounds_toArray, List.set_cons_zero, List.set_cons_succ])
    refine wpAnyH_take (i := 1) (v := ?_) rfl (by kernel_rfl) (by kernel_rfl) (by kernel_rfl) (fun _ _ _ h => h) (Or.inl ⟨by rfl, ?_⟩) (by assumption) ?_
    rotate_left
    · (intro w hSw; (try dsimp only at hSw); go_simp; try with_reducible rfl)
    (try simp only [Act.put, List.getElem_toArray, List.getElem_cons_zero, List.getElem_cons_succ, List.setIfInBounds_toArray, List.set_cons_zero, List.set_cons_succ])
    refine wpAnyH_take (i := 3) (v := ?_) rfl (by kernel_rfl) (by kernel_rfl) (by kernel_rfl) (fun _ _ _ h => h) (Or.inl ⟨by rfl, ?_⟩) (by assumption) ?_
    rotate_left
    · (intro w hSw; (try dsimp only at hSw); go_simp; try with_reducible rfl)
    (try simp only [Act.put, List.getElem_toArray, List.getElem_cons_zero, List.getElem_cons_succ, List.setIfInBounds_toArray, List.set_cons_zero, List.set_cons_succ])
    refine wpAnyH_take (i := 4) (v := ?_) rfl (by kernel_rfl) (by kernel_rfl) (by kernel_rfl) (fun _ _ _ h => h) (Or.inl ⟨by rfl, ?_⟩) (by assumption) ?_
    rotate_left
    · (intro w hSw; (try dsimp only at hSw); go_simp; try with_reducible rfl)
    (try simp only [Act.put, List.getElem_toArray, List.getElem_cons_zero, List.getElem_cons_succ, List.setIfInBounds_toArray, List.set_cons_zero, List.set_cons_succ])
    refine wpAnyH_take (i := 7) (v := ?_) rfl (by kernel_rfl) (by kernel_rfl) (by kernel_rfl) (fun _ _ _ h => h) (Or.inl ⟨by rfl, ?_⟩) (by assumption) ?_
    rotate_left
    · (intro w hSw; (try dsimp only at hSw); go_simp; try with_reducible rfl)
    (try simp only [Act.put, List.getElem_toArray, List.getElem_cons_zero, List.getElem_cons_succ, List.setIfInBounds_toArray, List.set_cons_zero, List.set_cons_succ])
    refine wpAnyH_take (i := 8) (v := ?_) rfl (by kernel_rfl) (by kernel_rfl) (by kernel_rfl) (fun _ _ _ h => h) (Or.inl ⟨by rfl, ?_⟩) (by assumption) ?_
    rotate_left
    · (intro w hSw; (try dsimp only at hSw); go_simp; try with_reducible rfl)
    (try simp only [Act.put, List.getElem_toArray, List.getElem_cons_zero, List.getElem_cons_succ, List.setIfInBounds_toArray, List.set_cons_zero, List.set_cons_succ])
    refine wpAnyH_take (i := 9) (v := ?_) rfl (by kernel_rfl) (by kernel_rfl) (by kernel_rfl) (fun _ _ _ h => h) (Or.inl ⟨by rfl, ?_⟩) (by assumption) ?_
    rotate_left
    · (intro w hSw; (try dsimp only at hSw); go_simp; try with_reducible rfl)
    (try simp only [Act.put, List.getElem_toArray, List.getElem_cons_zero, List.getElem_cons_succ, List.setIfInBounds_toArray, List.set_cons_zero, List.set_cons_succ])
    refine wpAnyH_ready (rs := [2]) (by kernel_rfl) (by simp) ?_
    refine AllReadyH.cons rfl (fun K hK => ?_) AllReadyH.nil
    go_simp
    refine (ofc_any (m : Int) m _ rfl hm).mono ?_
    rintro e wa ⟨a1, c1, rfl, iy, _, fy⟩
    have IA := hide iy
    have d2 := fr_cell fy d2
    have d3 := fr_cell fy d3
    have S2 := hide (S2.out.fr fy)
    have HT := hide (HT.out.fr fy)
    have FW := hide (FW.out.trans fy)
    clear iy fy 
    (try go_wp2_with fail)
    refine hK.out _ _ ?_ (fun hHeld => ?_)
    · (try dsimp only)
      exact ⟨d2, d3⟩
    clear hK K
    (try simp only [Act.put, List.getElem_toArray, List.getElem_cons_zero, List.getElem_cons_succ, List.setIfInBounds_toArray, List.set_cons_zero, List.set_cons_succ])
    refine wpAnyH_ready (rs := [5]) (by kernel_rfl) (by simp) ?_
    refine AllReadyH.cons rfl (fun K hK => ?_) AllReadyH.nil
    go_simp
    refine (upc_any _ m x A _ IA.out (by omega) (by omega) (by omega) HA.out).mono ?_
    rintro e wb ⟨a2, c2, rfl, iy, fy⟩
    have IB := hide iy
    have d2 := fr_cell fy d2
    have d3 := fr_cell fy d3
    have S2 := hide (S2.out.fr fy)
    have HT := hide (HT.out.fr fy)
    have FW := hide (FW.out.trans fy)
    clear iy fy IA
    (try go_wp2_with fail)
    refine hK.out _ _ ?_ (fun hHeld => ?_)
    · (try dsimp only)
      exact ⟨d2, d3⟩
    clear hK K
    (try simp only [Act.put, List.getElem_toArray, List.getElem_cons_zero, List.getElem_cons_succ, List.setIfInBounds_toArray, List.set_cons_zero, List.set_cons_succ])
    refine wpAnyH_ready (rs := [6]) (by kernel_rfl) (by simp) ?_
    refine AllReadyH.cons rfl (fun K hK => ?_) AllReadyH.nil
    go_simp
    refine (ofc_any 1 1 _ rfl (by omega)).mono ?_
    rintro e wc ⟨a3, c3, rfl, iy, _, fy⟩
    have IC := hide iy
    have d2 := fr_cell fy d2
    have d3 := fr_cell fy d3
    have S2 := hide (S2.out.fr fy)
    have HT := hide (HT.out.fr fy)
    have IB := hide (IB.out.fr fy)
    have FW := hide (FW.out.trans fy)
    clear iy fy 
    (try go_wp2_with fail)
    refine hK.out _ _ ?_ (fun hHeld => ?_)
    · (try dsimp only)
      exact ⟨d2, d3⟩
    clear hK K
    (try simp only [Act.put, List.getElem_toArray, List.getElem_cons_zero, List.getElem_cons_succ, List.setIfInBounds_toArray, List.set_cons_zero, List.set_cons_succ])
    refine wpAnyH_ready (rs := [10]) (by kernel_rfl) (by simp) ?_
    refine AllReadyH.cons rfl (fun K hK => ?_) AllReadyH.nil
    go_simp
    refine (upc_any _ 1 (-x) B _ IC.out (by have := wsm (x := 1) (by omega); omega) (by omega) (by omega) HB.out).mono ?_
    rintro e we ⟨a4, c4, rfl, iy, fy⟩
    have ID := hide iy
    have d2 := fr_cell fy d2
    have d3 := fr_cell fy d3
    have S2 := hide (S2.out.fr fy)
    have HT := hide (HT.out.fr fy)
    have IB := hide (IB.out.fr fy)
    have FW := hide (FW.out.trans fy)
    clear iy fy IC
    (try go_wp2_with fail)
    refine hK.out _ _ ?_ (fun hHeld => ?_)
    · (try dsimp only)
      exact ⟨d2, d3⟩
    clear hK K
    (try simp only [Act.put, List.getElem_toArray, List.getElem_cons_zero, List.getElem_cons_succ, List.setIfInBounds_toArray, List.set_cons_zero, List.set_cons_succ])
    refine wpAnyH_ready (rs := [11]) (by kernel_rfl) (by simp) ?_
    refine AllReadyH.cons rfl (fun K hK => ?_) AllReadyH.nil
    go_simp
    refine (lowest_any _ _ A B _ HT.out IB.out ID.out (by omega) (by omega) hB0).mono ?_
    rintro e wr ⟨v, rfl, ir, fy⟩
    have RV := hide ir
    have d2 := fr_cell fy d2
    have d3 := fr_cell fy d3
    have S2 := hide (S2.out.fr fy)
    have FW := hide (FW.out.trans fy)
    obtain ⟨u1, u2, u3, u4, u5, u6, rfl⟩ := ir.form
    clear ir fy
    (try go_wp2_with fail)
    refine hK.out _ _ ?_ (fun hHeld => ?_)
    · (try dsimp only)
      exact ⟨d2, d3⟩
    clear hK K
    (try simp only [Act.put, List.getElem_toArray, List.getElem_cons_zero, List.getElem_cons_succ, List.setIfInBounds_toArray, List.set_cons_zero, List.set_cons_succ])
    refine wpAnyH_ready (rs := [12]) (by kernel_rfl) (by simp) ?_
    refine AllReadyH.cons rfl (fun K hK => ?_) AllReadyH.nil
    have q_ := S2.out.1
    have q2_ := S2.out.2.1
    have z_ := S2.out.2.2.1 0
    have z2_ := S2.out.2.2.1 1
    have RV := hide (S2.out.rat RV.out u1 u2 u3 (.slice u4 u5 u6))
    have FW := hide (S2.out.set_fr FW.out (.slice u1 u2 u3) (.slice u4 u5 u6))
    have S2 := hide (S2.out.set u1 u2 u3 u4 u5 u6)
    go_simp
    (try go_wp2_with fail)
    refine hK.out _ _ ?_ (fun hHeld => ?_)
    · (try dsimp only)
      exact ⟨(World.cell?_setCell_other _ _ _ _ (fun e => by injection e; omega)).trans ((World.cell?_setCell_other _ _ _ _ (fun e => by injection e; omega)).trans d2), (World.cell?_setCell_other _ _ _ _ (fun e => by injection e; omega)).trans ((World.cell?_setCell_other _ _ _ _ (fun e => by injection e; omega)).trans d3)⟩
    clear hK K
    (try simp only [Act.put, List.getElem_toArray, List.getElem_cons_zero, List.getElem_cons_succ, List.setIfInBounds_toArray, List.set_cons_zero, List.set_cons_succ])
    refine wpAnyH_take (i := 13) (v := ?_) rfl (by kernel_rfl) (by kernel_rfl) (by kernel_rfl) (fun _ _ _ h => h) (Or.inl ⟨by rfl, ?_⟩) (by assumption) ?_
    rotate_left
    · (intro w hSw; (try dsimp only at hSw); go_simp; try with_reducible rfl)
    (try simp only [Act.put, List.getElem_toArray, List.getElem_cons_zero, List.getElem_cons_succ, List.setIfInBounds_toArray, List.set_cons_zero, List.set_cons_succ])
    refine wpAnyH_done (by kernel_rfl) ?_ _
    go_wp2_with fail
    exact bodyPost_ret (results_rat_ok rfl _ _ (w.heap.size + 1) _ _ rfl S2.out.1 S2.out.2.1) rfl ⟨_, rfl, RV.out, FW.out⟩
end Go.Proofs.YthdgdomgcogpjaaDoor
