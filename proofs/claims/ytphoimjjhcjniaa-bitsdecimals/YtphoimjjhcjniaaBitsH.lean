/- The value of bits as a quotient: the laws' own 'of'. -/
import Derived.Test.YtphoimjjhcjniaaBitsG
namespace Go.Proofs.Ytphoimjjhcjniaa
set_option linter.unusedVariables false
set_option linter.unusedSimpArgs false
open Go.RowKit

/-- Two Nats that are handed back through their cells. -/
theorem results_nat2 {fn : Func} {p p' : Tmp} (h : fn.results = #[.cell p 42, .cell p' 42]) (tmps : Array Value) (w : World) (b b' : Nat) (v v' : Value) (hp : tmps.getD p undef = .pointer (some ⟨b, 0, none⟩)) (hp' : tmps.getD p' undef = .pointer (some ⟨b', 0, none⟩)) (hc : w.cell? ⟨b, 0, none⟩ = some v) (hc' : w.cell? ⟨b', 0, none⟩ = some v') :
    (results fn tmps).run Try.prog w = .ok (.tuple #[.agg #[v], .agg #[v']]) w := by
  have hp1 : tmps[p]?.getD undef = .pointer (some ⟨b, 0, none⟩) := by simpa using hp
  have hp2 : tmps[p']?.getD undef = .pointer (some ⟨b', 0, none⟩) := by simpa using hp'
  simp [results, h, hp1, hp2]
  go_simp

/-- A Nat stays as it is where a cell that holds no number is written. -/
theorem IsNat.put2 {w : World} {v : Value} {x : Nat} (h : IsNat w v x) {p : Addr} {a : Option Addr} {n c : Nat} (hc : w.cell? p = some (.slice a n c)) (u : Value) : IsNat (w.setCell p u) v x := by
  obtain ⟨a1, cap, rfl, h2, h3, h4⟩ := h
  refine ⟨a1, cap, rfl, h2, h3, ?_⟩
  rcases h4 with h4 | ⟨g, off, rfl, hg, hcs⟩
  · exact .inl h4
  · refine .inr ⟨g, off, rfl, by simpa using hg, fun j hj => ?_⟩
    rw [World.cell?_setCell_other w _ _ _ (fun e => ?_)]
    · exact hcs j hj
    · have k := hcs j hj
      rw [← e, hc] at k
      cases k
theorem cell_put2 {w : World} {p q : Addr} {v u : Value} (h : w.cell? p = some v) (hne : p ≠ q) : (w.setCell q u).cell? p = some v := by
  rw [World.cell?_setCell_other w _ _ _ (fun e => hne e.symm)]
  exact h

/-- The terms of the value of bits that aren't negative. -/
def vNum (b : Nat) : Nat := bM b * 2 ^ (bX b).toNat
def vDen (b : Nat) : Nat := 2 ^ (-bX b).toNat

set_option maxHeartbeats 4000000 in
set_option maxRecDepth 4000 in
theorem ofLaw_any7 (b : Nat) (w : World) (hb : b < 18446744073709551616) :
    Calls Try.prog 13 #[.int .u64 (b : Int)] w fun e w' => ∃ a1 c1 a2 c2, e = .returned (.tuple #[.agg #[.slice a1 (nlen 4294967296 (vNum b)) c1], .agg #[.slice a2 (nlen 4294967296 (vDen b)) c2]]) ∧ IsNat w' (.agg #[.slice a1 (nlen 4294967296 (vNum b)) c1]) (vNum b) ∧ IsNat w' (.agg #[.slice a2 (nlen 4294967296 (vDen b)) c2]) (vDen b) ∧ Fr w w' := by
  have HO := hide (fun w => of_any7 b w hb)
  have m0 := bM_lt b
  obtain ⟨x0, x1⟩ := bX_bd b
  unfold bval at HO
  obtain ⟨V1, v1⟩ : ∃ V, vNum b = V := ⟨_, rfl⟩
  obtain ⟨V2, v2⟩ : ∃ V, vDen b = V := ⟨_, rfl⟩
  rw [v1, v2]
  unfold vNum at v1
  unfold vDen at v2
  generalize bC b = C at *
  generalize bN b = N at *
  generalize bM b = M at *
  generalize bX b = X at *
  have HX1 : Hid (0 ≤ X → M * 2 ^ X.toNat = V1 ∧ 1 = V2) := fun h => ⟨v1, by rw [← v2, show (-X).toNat = 0 by omega, Nat.pow_zero]⟩
  have HX2 : Hid (¬ 0 ≤ X → M = V1 ∧ 1 * 2 ^ (-X).toNat = V2) := fun h => ⟨by rw [← v1, show X.toNat = 0 by omega, Nat.pow_zero, Nat.mul_one], by rw [Nat.one_mul]; exact v2⟩
  clear v1 v2
  go_enter Try.func13, Try.ntmps13
  go_wp2_with fail
  obtain ⟨W, hW⟩ : ∃ W, W = (w.alloc (Obj.cells #[Value.slice none 0 0] 42)).alloc (Obj.cells #[Value.slice none 0 0] 42) := ⟨_, rfl⟩
  have fW : Fr w W := by rw [hW]; exact (Fr.alloc _ _).trans (Fr.alloc _ _)
  have r0 : W.cell? ⟨w.heap.size, 0, none⟩ = some (.slice none 0 0) := by rw [hW]; simp [go_sem]
  have r1 : W.cell? ⟨w.heap.size + 1, 0, none⟩ = some (.slice none 0 0) := by rw [hW]; simp [go_sem]
  have z0 : W.frozen? ⟨w.heap.size, 0, none⟩ = false := by rw [hW]; simp [go_sem]
  have z1 : W.frozen? ⟨w.heap.size + 1, 0, none⟩ = false := by rw [hW]; simp [go_sem]
  rw [← hW]
  clear hW
  refine (HO.out _).mono ?_
  rintro e w1 ⟨rfl, f1⟩
  have z0 := fr_free f1 r0 z0
  have z1 := fr_free f1 r1 z1
  have r0 := fr_cell f1 r0
  have r1 := fr_cell f1 r1
  have F := hide (fW.trans f1)
  clear fW f1 HO
  have s0 := cell_lt r0
  have s1 := cell_lt r1
  simp only [] at s0 s1
  have s0 := cell_lt r0
  have s1 := cell_lt r1
  simp only [] at s0 s1
  have s0 := cell_lt r0
  have s1 := cell_lt r1
  simp only [] at s0 s1
  have s0 := cell_lt r0
  have s1 := cell_lt r1
  simp only [] at s0 s1
  by_cases cx : 0 ≤ X
  · obtain ⟨hP, rfl⟩ := HX1.out (by omega)
    have HP := hide hP
    have nM : nlen 4294967296 M ≤ 2 := wsm (by omega)
    have hneg : IntKind.i64.wrap (-X) = -X := i64_small (by omega) (by omega)
    clear hP
    go_wp2_with fail
    obtain ⟨W, hW⟩ : ∃ W, W = w1.alloc (Obj.cells #[.int .i64 (C : Int), .bool N, .int .u64 (M : Int), .int .i64 X] 25) := ⟨_, rfl⟩
    have fW : Fr w1 W := by rw [hW]; exact Fr.alloc _ _
    have d2 : W.cell? ⟨w1.heap.size, 2, none⟩ = some (.int .u64 (M : Int)) := by rw [hW]; simp [go_sem]
    have d3 : W.cell? ⟨w1.heap.size, 3, none⟩ = some (.int .i64 X) := by rw [hW]; simp [go_sem]
    rw [← hW]
    clear hW
    have z0 := fr_free fW r0 z0
    have z1 := fr_free fW r1 z1
    have r0 := fr_cell fW r0
    have r1 := fr_cell fW r1
    have FW := hide (F.out.trans fW)
    clear fW
    refine wp_region_held_drew (S := (fun w' => w'.cell? ⟨w1.heap.size, 2, none⟩ = some (.int .u64 (M : Int)) ∧ w'.cell? ⟨w1.heap.size, 3, none⟩ = some (.int .i64 X) ∧ Hid (Fr w w'))) (by kernel_rfl) ?_ (fun hHeld => ?_)
    · exact ⟨fr_cell (Fr.drew W) d2, fr_cell (Fr.drew W) d3, FW.out.trans (Fr.drew W)⟩
    refine wpAnyH_take (i := 0) (v := ?_) rfl (by kernel_rfl) (by kernel_rfl) (by kernel_rfl) (fun _ _ _ h => h) (Or.inl ⟨by rfl, ?_⟩) (by assumption) ?_
    rotate_left
    · (intro w hSw; (try dsimp only at hSw); go_simp; try with_reducible rfl)
    (try simp only [Act.put, List.getElem_toArray, List.getElem_cons_zero, List.getElem_cons_succ, List.setIfInBounds_toArray, List.set_cons_zero, List.set_cons_succ])
    refine wpAnyH_take (i := 1) (v := ?_) rfl (by kernel_rfl) (by kernel_rfl) (by kernel_rfl) (fun _ _ _ h => h) (Or.inl ⟨by rfl, ?_⟩) (by assumption) ?_
    rotate_left
    · (intro w hSw; (try dsimp only at hSw); go_simp; try with_reducible rfl)
    (try simp only [Act.put, List.getElem_toArray, List.getElem_cons_zero, List.getElem_cons_succ, List.setIfInBounds_toArray, List.set_cons_zero, List.set_cons_succ])
    refine wpAnyH_take (i := 3) (v := ?_) rfl (by kernel_rfl) (by kernel_rfl) (by kernel_rfl) (fun _ _ _ h => h) (Or.inl ⟨by rfl, ?_⟩) (by assumption) ?_
    rotate_left
    · (intro w hSw; (try dsimp only at hSw); go_simp; try with_reducible rfl)
    (try simp only [Act.put, List.getElem_toArray, List.getElem_cons_zero, List.getElem_cons_succ, List.setIfInBounds_toArray, List.set_cons_zero, List.set_cons_succ])
    refine wpAnyH_take (i := 4) (v := ?_) rfl (by kernel_rfl) (by kernel_rfl) (by kernel_rfl) (fun _ _ _ h => h) (Or.inl ⟨by rfl, ?_⟩) (by assumption) ?_
    rotate_left
    · (intro w hSw; (try dsimp only at hSw); go_simp; try with_reducible rfl)
    (try simp only [Act.put, List.getElem_toArray, List.getElem_cons_zero, List.getElem_cons_succ, List.setIfInBounds_toArray, List.set_cons_zero, List.set_cons_succ])
    refine wpAnyH_ready (rs := [2]) (by kernel_rfl) (by simp) ?_
    refine AllReadyH.cons rfl (fun K hK => ?_) AllReadyH.nil
    go_simp
    refine (ofc_any _ M _ rfl (by omega)).mono ?_
    rintro e wn ⟨a3, c3, rfl, i3, _, fy⟩
    have I3 := hide i3
    have fy' := (Fr.drew W).trans fy
    have fz := hide fy'
    have z0 := fr_free fy' r0 z0
    have z1 := fr_free fy' r1 z1
    have r0 := fr_cell fy' r0
    have r1 := fr_cell fy' r1
    clear i3 fy fy'
    (try go_wp2_with fail)
    refine hK.out _ _ ?_ (fun hHeld => ?_)
    · (try dsimp only)
      exact ⟨fr_cell fz.out d2, fr_cell fz.out d3, FW.out.trans fz.out⟩
    clear hK K
    (try simp only [Act.put, List.getElem_toArray, List.getElem_cons_zero, List.getElem_cons_succ, List.setIfInBounds_toArray, List.set_cons_zero, List.set_cons_succ])
    refine wpAnyH_ready (rs := [5]) (by kernel_rfl) (by simp) ?_
    refine AllReadyH.cons rfl (fun K hK => ?_) AllReadyH.nil
    go_simp
    refine (upc_any _ M _ V1 _ I3.out (by omega) (by omega) (by omega) HP.out).mono ?_
    rintro e wn5 ⟨a4, c4, rfl, i4, fy⟩
    have I4 := hide i4
    have fz := hide (fz.out.trans fy)
    have z0 := fr_free fy r0 z0
    have z1 := fr_free fy r1 z1
    have r0 := fr_cell fy r0
    have r1 := fr_cell fy r1
    clear i4 fy I3
    (try go_wp2_with fail)
    refine hK.out _ _ ?_ (fun hHeld => ?_)
    · (try dsimp only)
      exact ⟨fr_cell fz.out d2, fr_cell fz.out d3, FW.out.trans fz.out⟩
    clear hK K
    (try simp only [Act.put, List.getElem_toArray, List.getElem_cons_zero, List.getElem_cons_succ, List.setIfInBounds_toArray, List.set_cons_zero, List.set_cons_succ])
    refine wpAnyH_ready (rs := [6]) (by kernel_rfl) (by simp) ?_
    refine AllReadyH.cons rfl (fun K hK => ?_) AllReadyH.nil
    go_simp
    refine (ofc_any 1 1 _ rfl (by omega)).mono ?_
    rintro e wm ⟨a5, c5, rfl, i5, _, fy⟩
    have I5 := hide i5
    have I4 := hide (I4.out.fr fy)
    have fz := hide (fz.out.trans fy)
    have z0 := fr_free fy r0 z0
    have z1 := fr_free fy r1 z1
    have r0 := fr_cell fy r0
    have r1 := fr_cell fy r1
    clear i5 fy
    (try go_wp2_with fail)
    refine hK.out _ _ ?_ (fun hHeld => ?_)
    · (try dsimp only)
      exact ⟨fr_cell fz.out d2, fr_cell fz.out d3, FW.out.trans fz.out⟩
    clear hK K
    (try simp only [Act.put, List.getElem_toArray, List.getElem_cons_zero, List.getElem_cons_succ, List.setIfInBounds_toArray, List.set_cons_zero, List.set_cons_succ])
    refine wpAnyH_ready (rs := [7]) (by kernel_rfl) (by simp) ?_
    refine AllReadyH.cons rfl (fun K hK => ?_) AllReadyH.nil
    go_simp
    (try go_wp2_with fail)
    refine hK.out _ _ ?_ (fun hHeld => ?_)
    · (try dsimp only)
      exact ⟨cell_put2 (fr_cell fz.out d2) (fun h => by injection h with h1 h2 h3; omega), cell_put2 (fr_cell fz.out d3) (fun h => by injection h with h1 h2 h3; omega), Below.setCell (FW.out.trans fz.out) (by simp) _⟩
    clear hK K
    (try simp only [Act.put, List.getElem_toArray, List.getElem_cons_zero, List.getElem_cons_succ, List.setIfInBounds_toArray, List.set_cons_zero, List.set_cons_succ])
    refine wpAnyH_ready (rs := [8]) (by kernel_rfl) (by simp) ?_
    refine AllReadyH.cons rfl (fun K hK => ?_) AllReadyH.nil
    go_simp
    (try go_wp2_with fail)
    refine hK.out _ _ ?_ (fun hHeld => ?_)
    · (try dsimp only)
      exact ⟨cell_put2 (cell_put2 (fr_cell fz.out d2) (fun h => by injection h with h1 h2 h3; omega)) (fun h => by injection h with h1 h2 h3; omega), cell_put2 (cell_put2 (fr_cell fz.out d3) (fun h => by injection h with h1 h2 h3; omega)) (fun h => by injection h with h1 h2 h3; omega), Below.setCell (Below.setCell (FW.out.trans fz.out) (by simp) _) (by simp) _⟩
    clear hK K
    (try simp only [Act.put, List.getElem_toArray, List.getElem_cons_zero, List.getElem_cons_succ, List.setIfInBounds_toArray, List.set_cons_zero, List.set_cons_succ])
    refine wpAnyH_done (by kernel_rfl) ?_ _
    go_wp2_with fail
    (try simp only [Exit.inBlock, Exit.then])
    refine bodyPost_ret (results_nat2 rfl _ _ w.heap.size (w.heap.size + 1) (.slice a4 (nlen 4294967296 V1) c4) (.slice a5 (nlen 4294967296 1) c5) rfl rfl ?_ ?_) rfl ?_
    · exact cell_put2 (World.cell?_setCell_same _ _ _ r0) (fun h => by injection h with h1 h2 h3; omega)
    · exact World.cell?_setCell_same _ _ _ (cell_put2 r1 (fun h => by injection h with h1 h2 h3; omega))
    · refine ⟨_, _, _, _, rfl, ?_, ?_, ?_⟩
      · exact IsNat.put2 (IsNat.put2 I4.out r0 _) (cell_put2 r1 (fun h => by injection h with h1 h2 h3; omega)) _
      · exact IsNat.put2 (IsNat.put2 I5.out r0 _) (cell_put2 r1 (fun h => by injection h with h1 h2 h3; omega)) _
      · exact Below.setCell (Below.setCell (FW.out.trans fz.out) (by simp) _) (by simp) _
  · obtain ⟨rfl, hP⟩ := HX2.out (by omega)
    have HP := hide hP
    have nM : nlen 4294967296 M ≤ 2 := wsm (by omega)
    have hneg : IntKind.i64.wrap (-X) = -X := i64_small (by omega) (by omega)
    clear hP
    go_wp2_with fail
    obtain ⟨W, hW⟩ : ∃ W, W = w1.alloc (Obj.cells #[.int .i64 (C : Int), .bool N, .int .u64 (M : Int), .int .i64 X] 25) := ⟨_, rfl⟩
    have fW : Fr w1 W := by rw [hW]; exact Fr.alloc _ _
    have d2 : W.cell? ⟨w1.heap.size, 2, none⟩ = some (.int .u64 (M : Int)) := by rw [hW]; simp [go_sem]
    have d3 : W.cell? ⟨w1.heap.size, 3, none⟩ = some (.int .i64 X) := by rw [hW]; simp [go_sem]
    rw [← hW]
    clear hW
    have z0 := fr_free fW r0 z0
    have z1 := fr_free fW r1 z1
    have r0 := fr_cell fW r0
    have r1 := fr_cell fW r1
    have FW := hide (F.out.trans fW)
    clear fW
    refine wp_region_held_drew (S := (fun w' => w'.cell? ⟨w1.heap.size, 2, none⟩ = some (.int .u64 (M : Int)) ∧ w'.cell? ⟨w1.heap.size, 3, none⟩ = some (.int .i64 X) ∧ Hid (Fr w w'))) (by kernel_rfl) ?_ (fun hHeld => ?_)
    · exact ⟨fr_cell (Fr.drew W) d2, fr_cell (Fr.drew W) d3, FW.out.trans (Fr.drew W)⟩
    refine wpAnyH_take (i := 0) (v := ?_) rfl (by kernel_rfl) (by kernel_rfl) (by kernel_rfl) (fun _ _ _ h => h) (Or.inl ⟨by rfl, ?_⟩) (by assumption) ?_
    rotate_left
    · (intro w hSw; (try dsimp only at hSw); go_simp; try with_reducible rfl)
    (try simp only [Act.put, List.getElem_toArray, List.getElem_cons_zero, List.getElem_cons_succ, List.setIfInBounds_toArray, List.set_cons_zero, List.set_cons_succ])
    refine wpAnyH_take (i := 1) (v := ?_) rfl (by kernel_rfl) (by kernel_rfl) (by kernel_rfl) (fun _ _ _ h => h) (Or.inl ⟨by rfl, ?_⟩) (by assumption) ?_
    rotate_left
    · (intro w hSw; (try dsimp only at hSw); go_simp; try with_reducible rfl)
    (try simp only [Act.put, List.getElem_toArray, List.getElem_cons_zero, List.getElem_cons_succ, List.setIfInBounds_toArray, List.set_cons_zero, List.set_cons_succ])
    refine wpAnyH_take (i := 4) (v := ?_) rfl (by kernel_rfl) (by kernel_rfl) (by kernel_rfl) (fun _ _ _ h => h) (Or.inl ⟨by rfl, ?_⟩) (by assumption) ?_
    rotate_left
    · (intro w hSw; (try dsimp only at hSw); go_simp; try with_reducible rfl)
    (try simp only [Act.put, List.getElem_toArray, List.getElem_cons_zero, List.getElem_cons_succ, List.setIfInBounds_toArray, List.set_cons_zero, List.set_cons_succ])
    refine wpAnyH_take (i := 5) (v := ?_) rfl (by kernel_rfl) (by kernel_rfl) (by kernel_rfl) (fun _ _ _ h => h) (Or.inl ⟨by rfl, ?_⟩) (by assumption) ?_
    rotate_left
    · (intro w hSw; (try dsimp only at hSw); go_simp; try with_reducible rfl)
    (try simp only [Act.put, List.getElem_toArray, List.getElem_cons_zero, List.getElem_cons_succ, List.setIfInBounds_toArray, List.set_cons_zero, List.set_cons_succ])
    refine wpAnyH_take (i := 6) (v := ?_) rfl (by kernel_rfl) (by kernel_rfl) (by kernel_rfl) (fun _ _ _ h => h) (Or.inl ⟨by rfl, ?_⟩) (by assumption) ?_
    rotate_left
    · (intro w hSw; (try dsimp only at hSw); go_simp; try with_reducible rfl)
    (try simp only [Act.put, List.getElem_toArray, List.getElem_cons_zero, List.getElem_cons_succ, List.setIfInBounds_toArray, List.set_cons_zero, List.set_cons_succ])
    refine wpAnyH_ready (rs := [2]) (by kernel_rfl) (by simp) ?_
    refine AllReadyH.cons rfl (fun K hK => ?_) AllReadyH.nil
    go_simp
    refine (ofc_any _ M _ rfl (by omega)).mono ?_
    rintro e wn ⟨a3, c3, rfl, i3, _, fy⟩
    have I3 := hide i3
    have fy' := (Fr.drew W).trans fy
    have fz := hide fy'
    have z0 := fr_free fy' r0 z0
    have z1 := fr_free fy' r1 z1
    have r0 := fr_cell fy' r0
    have r1 := fr_cell fy' r1
    clear i3 fy fy'
    (try go_wp2_with fail)
    refine hK.out _ _ ?_ (fun hHeld => ?_)
    · (try dsimp only)
      exact ⟨fr_cell fz.out d2, fr_cell fz.out d3, FW.out.trans fz.out⟩
    clear hK K
    (try simp only [Act.put, List.getElem_toArray, List.getElem_cons_zero, List.getElem_cons_succ, List.setIfInBounds_toArray, List.set_cons_zero, List.set_cons_succ])
    refine wpAnyH_ready (rs := [3]) (by kernel_rfl) (by simp) ?_
    refine AllReadyH.cons rfl (fun K hK => ?_) AllReadyH.nil
    go_simp
    refine (ofc_any 1 1 _ rfl (by omega)).mono ?_
    rintro e wn5 ⟨a5, c5, rfl, i5, _, fy⟩
    have I5 := hide i5
    have I3 := hide (I3.out.fr fy)
    have fz := hide (fz.out.trans fy)
    have z0 := fr_free fy r0 z0
    have z1 := fr_free fy r1 z1
    have r0 := fr_cell fy r0
    have r1 := fr_cell fy r1
    clear i5 fy
    (try go_wp2_with fail)
    refine hK.out _ _ ?_ (fun hHeld => ?_)
    · (try dsimp only)
      exact ⟨fr_cell fz.out d2, fr_cell fz.out d3, FW.out.trans fz.out⟩
    clear hK K
    (try simp only [Act.put, List.getElem_toArray, List.getElem_cons_zero, List.getElem_cons_succ, List.setIfInBounds_toArray, List.set_cons_zero, List.set_cons_succ])
    refine wpAnyH_ready (rs := [7]) (by kernel_rfl) (by simp) ?_
    refine AllReadyH.cons rfl (fun K hK => ?_) AllReadyH.nil
    go_simp
    refine (upc_any _ 1 _ V2 _ I5.out (by rw [nl1]; omega) (by omega) (by omega) HP.out).mono ?_
    rintro e wm ⟨a4, c4, rfl, i4, fy⟩
    have I4 := hide i4
    have I3 := hide (I3.out.fr fy)
    have fz := hide (fz.out.trans fy)
    have z0 := fr_free fy r0 z0
    have z1 := fr_free fy r1 z1
    have r0 := fr_cell fy r0
    have r1 := fr_cell fy r1
    clear i4 fy I5
    (try go_wp2_with fail)
    refine hK.out _ _ ?_ (fun hHeld => ?_)
    · (try dsimp only)
      exact ⟨fr_cell fz.out d2, fr_cell fz.out d3, FW.out.trans fz.out⟩
    clear hK K
    (try simp only [Act.put, List.getElem_toArray, List.getElem_cons_zero, List.getElem_cons_succ, List.setIfInBounds_toArray, List.set_cons_zero, List.set_cons_succ])
    refine wpAnyH_ready (rs := [8]) (by kernel_rfl) (by simp) ?_
    refine AllReadyH.cons rfl (fun K hK => ?_) AllReadyH.nil
    go_simp
    (try go_wp2_with fail)
    refine hK.out _ _ ?_ (fun hHeld => ?_)
    · (try dsimp only)
      exact ⟨cell_put2 (fr_cell fz.out d2) (fun h => by injection h with h1 h2 h3; omega), cell_put2 (fr_cell fz.out d3) (fun h => by injection h with h1 h2 h3; omega), Below.setCell (FW.out.trans fz.out) (by simp) _⟩
    clear hK K
    (try simp only [Act.put, List.getElem_toArray, List.getElem_cons_zero, List.getElem_cons_succ, List.setIfInBounds_toArray, List.set_cons_zero, List.set_cons_succ])
    refine wpAnyH_ready (rs := [9]) (by kernel_rfl) (by simp) ?_
    refine AllReadyH.cons rfl (fun K hK => ?_) AllReadyH.nil
    go_simp
    (try go_wp2_with fail)
    refine hK.out _ _ ?_ (fun hHeld => ?_)
    · (try dsimp only)
      exact ⟨cell_put2 (cell_put2 (fr_cell fz.out d2) (fun h => by injection h with h1 h2 h3; omega)) (fun h => by injection h with h1 h2 h3; omega), cell_put2 (cell_put2 (fr_cell fz.out d3) (fun h => by injection h with h1 h2 h3; omega)) (fun h => by injection h with h1 h2 h3; omega), Below.setCell (Below.setCell (FW.out.trans fz.out) (by simp) _) (by simp) _⟩
    clear hK K
    (try simp only [Act.put, List.getElem_toArray, List.getElem_cons_zero, List.getElem_cons_succ, List.setIfInBounds_toArray, List.set_cons_zero, List.set_cons_succ])
    refine wpAnyH_done (by kernel_rfl) ?_ _
    go_wp2_with fail
    (try simp only [Exit.inBlock, Exit.then])
    refine bodyPost_ret (results_nat2 rfl _ _ w.heap.size (w.heap.size + 1) (.slice a3 (nlen 4294967296 M) c3) (.slice a4 (nlen 4294967296 V2) c4) rfl rfl ?_ ?_) rfl ?_
    · exact cell_put2 (World.cell?_setCell_same _ _ _ r0) (fun h => by injection h with h1 h2 h3; omega)
    · exact World.cell?_setCell_same _ _ _ (cell_put2 r1 (fun h => by injection h with h1 h2 h3; omega))
    · refine ⟨_, _, _, _, rfl, ?_, ?_, ?_⟩
      · exact IsNat.put2 (IsNat.put2 I3.out r0 _) (cell_put2 r1 (fun h => by injection h with h1 h2 h3; omega)) _
      · exact IsNat.put2 (IsNat.put2 I4.out r0 _) (cell_put2 r1 (fun h => by injection h with h1 h2 h3; omega)) _
      · exact Below.setCell (Below.setCell (FW.out.trans fz.out) (by simp) _) (by simp) _

theorem vDen_pos (b : Nat) : 0 < vDen b := Nat.pow_pos (by omega)
theorem vNum_nl (b : Nat) : nlen 4294967296 (vNum b) ≤ 33 := by
  have m0 := bM_lt b
  obtain ⟨x0, x1⟩ := bX_bd b
  have := nl_up (k := (bX b).toNat) (wsm (x := bM b) (by omega))
  unfold vNum
  omega
theorem vDen_nl (b : Nat) : nlen 4294967296 (vDen b) ≤ 35 := by
  obtain ⟨x0, x1⟩ := bX_bd b
  have := nl_up (k := (-bX b).toNat) (Nat.le_of_eq nl1)
  rw [Nat.one_mul] at this
  unfold vDen
  omega
theorem pow_parts {m a b c : Nat} (h : a + b = c) : m * 2 ^ a * 2 ^ b = m * 2 ^ c := by rw [Nat.mul_assoc, ← Nat.pow_add, h]
theorem v_bV {b : Nat} (hb : b < 9218868437227405312) : vNum b * 2 ^ 1074 = bV b * vDen b := by
  have e0 : bE b = b / 4503599627370496 := by unfold bE; omega
  have f0 : bF b = b % 4503599627370496 := rfl
  unfold vNum vDen bV bM bX
  rw [← e0, ← f0]
  by_cases h1 : b < 4503599627370496
  · have hE : bE b = 0 := by omega
    have hF : bF b = b := by omega
    rw [hE, hF]
    simp only [show ¬ (0 : Nat) = 2047 by omega, if_false, if_true, h1]
    by_cases h2 : b = 0
    · subst h2
      generalize 2 ^ 1074 = P
      simp
    · rw [if_neg h2, show ((-1074 : Int)).toNat = 0 by rfl, show (-(-1074 : Int)).toNat = 1074 by rfl, Nat.pow_zero, Nat.mul_one]
  · have hE : bE b ≠ 0 := by omega
    have hE2 : bE b ≠ 2047 := by omega
    simp only [hE, hE2, if_false, h1]
    generalize bF b = F at *
    by_cases h2 : bE b ≤ 1075
    · rw [show ((bE b : Int) - 1075).toNat = 0 by omega, Nat.pow_zero, Nat.mul_one]
      have key : ∀ c : Nat, c = 1074 → (F + 4503599627370496) * 2 ^ c = (F + 4503599627370496) * 2 ^ (bE b - 1) * 2 ^ (-((bE b : Int) - 1075)).toNat := fun c hc => (pow_parts (by omega)).symm
      exact key 1074 rfl
    · rw [show (-((bE b : Int) - 1075)).toNat = 0 by omega, Nat.pow_zero, Nat.mul_one]
      have key : ∀ c : Nat, c = 1074 → (F + 4503599627370496) * 2 ^ ((bE b : Int) - 1075).toNat * 2 ^ c = (F + 4503599627370496) * 2 ^ (bE b - 1) := fun c hc => pow_parts (by omega)
      exact key 1074 rfl
end Go.Proofs.Ytphoimjjhcjniaa
