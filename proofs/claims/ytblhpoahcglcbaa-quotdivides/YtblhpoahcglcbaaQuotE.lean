/- Half. -/
import Derived.Test.YtblhpoahcglcbaaQuotD
import Derived.Test.YtblhpoahcglcbaaTimesC
import Derived.Deep.RegionHeld3
namespace Go.Proofs.Ytblhpoahcglcbaa
set_option linter.unusedVariables false
set_option linter.unusedSimpArgs false
open Go.RowKit

attribute [local go_sem] World.cell?_alloc_some
theorem nl_div {x y n : Nat} (h : nlen 4294967296 x ≤ n) : nlen 4294967296 (x / y) ≤ n := Nat.le_trans (nlen_mono b32 (Nat.div_le_self x y)) h
theorem nl_mod {x y n : Nat} (h : nlen 4294967296 x ≤ n) : nlen 4294967296 (x % y) ≤ n := Nat.le_trans (nlen_mono b32 (Nat.mod_le x y)) h

theorem nl_sum {x y n : Nat} (hx : nlen 4294967296 x ≤ n) (hy : nlen 4294967296 y ≤ n) : nlen 4294967296 (x + y) ≤ n + 1 := nlen_le b32 (sum_lt b32 (lt_of_nlen b32 hx) (lt_of_nlen b32 hy))

/-- The whole number next to a quotient, of two as near the greater one. -/
def halfN (x y : Nat) : Nat := if x % y + x % y < y then x / y else x / y + 1

set_option maxHeartbeats 1000000 in
theorem half_no (va vb : Value) (x : Nat) (w : World) (ha : IsNat w va x) (hb : IsNat w vb 0) :
    Calls Try.prog 19 #[va, vb] w fun e w' => e = .returned (.tuple #[.agg #[.slice none 0 0], .bool false]) ∧ Fr w w' := by
  have HA := hide ha
  have HB := hide hb
  obtain ⟨a, ca, rfl, a2, a3, a4⟩ := ha
  obtain ⟨b, cb, rfl, b2, b3, b4⟩ := hb
  clear a4 b4
  go_enter Try.func19, Try.ntmps19
  go_wp2_with fail
  obtain ⟨W, hW⟩ : ∃ W, W = ((w.alloc (Obj.cells #[Value.slice a (nlen 4294967296 x) ca] 25)).alloc (Obj.cells #[Value.slice b (nlen 4294967296 0) cb] 25)).alloc (Obj.cells #[Value.slice none 0 0] 25) := ⟨_, rfl⟩
  have fW : Fr w W := by rw [hW]; exact ((Fr.alloc _ _).trans (Fr.alloc _ _)).trans (Fr.alloc _ _)
  have c4 : W.cell? ⟨w.heap.size + 1 + 1, 0, none⟩ = some (.slice none 0 0) := by rw [hW]; simp [go_sem]
  have z4 : W.frozen? ⟨w.heap.size + 1 + 1, 0, none⟩ = false := by rw [hW]; simp [go_sem]
  rw [← hW]
  clear hW
  refine (div_no _ _ x _ (IsNat.fr HA.out fW) (IsNat.fr HB.out fW)).mono ?_
  rintro e w1 ⟨rfl, f1⟩
  have z4 := fr_free f1 c4 z4
  have c4 := fr_cell f1 c4
  have sl := cell_lt c4
  have F := fW.trans f1
  have za : ∀ o o', ((w1.alloc o).alloc o').frozen? ⟨w.heap.size + 1 + 1, 0, none⟩ = false := fun o o' => fr_free ((Fr.alloc w1 o).trans (Fr.alloc _ o')) c4 z4
  clear fW f1
  go_wp2_with fail
  (try simp only [Exit.inBlock, Exit.then])
  refine bodyPost_ret (results_nat_ok rfl _ _ (w.heap.size + 1 + 1) (.slice none 0 0) rfl ?_) rfl ?_
  · exact World.cell?_setCell_same _ _ _ (fr_cell ((Fr.alloc _ _).trans (Fr.alloc _ _)) c4)
  · exact ⟨rfl, Below.setCell (F.trans ((Fr.alloc _ _).trans (Fr.alloc _ _))) (by simp; omega) _⟩

set_option maxHeartbeats 2000000 in
theorem half_yes (va vb : Value) (x y : Nat) (w : World) (ha : IsNat w va x) (hb : IsNat w vb y) (hx : nlen 4294967296 x ≤ 1000000000) (hy : nlen 4294967296 y ≤ 1000000000) (hy0 : y ≠ 0) :
    Calls Try.prog 19 #[va, vb] w fun e w' => ∃ a c, e = .returned (.tuple #[.agg #[.slice a (nlen 4294967296 (halfN x y)) c], .bool true]) ∧ Res w w' a c (halfN x y) := by
  have HA := hide ha
  have HB := hide hb
  obtain ⟨a, ca, rfl, a2, a3, a4⟩ := ha
  obtain ⟨b, cb, rfl, b2, b3, b4⟩ := hb
  clear a4 b4
  have nq := nl_div (y := y) hx
  have nr := nl_mod (y := y) hx
  go_enter Try.func19, Try.ntmps19
  go_wp2_with fail
  obtain ⟨W, hW⟩ : ∃ W, W = ((w.alloc (Obj.cells #[Value.slice a (nlen 4294967296 x) ca] 25)).alloc (Obj.cells #[Value.slice b (nlen 4294967296 y) cb] 25)).alloc (Obj.cells #[Value.slice none 0 0] 25) := ⟨_, rfl⟩
  have fW : Fr w W := by rw [hW]; exact ((Fr.alloc _ _).trans (Fr.alloc _ _)).trans (Fr.alloc _ _)
  have c3 : W.cell? ⟨w.heap.size + 1, 0, none⟩ = some (.slice b (nlen 4294967296 y) cb) := by rw [hW]; simp [go_sem]
  have c4 : W.cell? ⟨w.heap.size + 1 + 1, 0, none⟩ = some (.slice none 0 0) := by rw [hW]; simp [go_sem]
  have z4 : W.frozen? ⟨w.heap.size + 1 + 1, 0, none⟩ = false := by rw [hW]; simp [go_sem]
  rw [← hW]
  clear hW
  refine (div_yes _ _ x y _ (IsNat.fr HA.out fW) (IsNat.fr HB.out fW) (by omega) (by omega) hy0).mono ?_
  rintro e w1 ⟨q, cq, r, cr, rfl, ⟨iq, lq, f1⟩, ⟨ir, lr, _⟩⟩
  go_wp2_with fail
  obtain ⟨W2, hW2⟩ : ∃ W2, W2 = (w1.alloc (Obj.cells #[Value.slice q (nlen 4294967296 (x / y)) cq] 25)).alloc (Obj.cells #[Value.slice r (nlen 4294967296 (x % y)) cr] 25) := ⟨_, rfl⟩
  have f2 : Fr w1 W2 := by rw [hW2]; exact (Fr.alloc _ _).trans (Fr.alloc _ _)
  have c6 : W2.cell? ⟨w1.heap.size, 0, none⟩ = some (.slice q (nlen 4294967296 (x / y)) cq) := by rw [hW2]; simp [go_sem]
  have c7 : W2.cell? ⟨w1.heap.size + 1, 0, none⟩ = some (.slice r (nlen 4294967296 (x % y)) cr) := by rw [hW2]; simp [go_sem]
  rw [← hW2]
  clear hW2
  have f3 := f1.trans f2
  have hs1 : w.heap.size + 1 + 1 < w1.heap.size := Nat.lt_of_lt_of_le (cell_lt c4) f1.size
  have c3 := fr_cell f3 c3
  have z4 := fr_free f3 c4 z4
  have c4 := fr_cell f3 c4
  have IB := hide (IsNat.fr HB.out (fW.trans f3))
  have IQ := hide (IsNat.fr iq f2)
  have IR := hide (IsNat.fr ir f2)
  have LQ : Hid (∀ g off s, q = some ⟨g, off, s⟩ → w.heap.size + 1 + 1 < g) := fun g off s e => by have h1 := lq g off s e; have h2 := fW.size; have h3 := cell_lt (by assumption : W.cell? ⟨w.heap.size + 1 + 1, 0, none⟩ = _); simp only at h3; omega
  have FW := hide (fW.trans f3)
  have s4 := cell_lt c4
  clear iq ir lq lr f1 f2 f3 fW HA HB
  obtain ⟨cz, hcz⟩ : ∃ cz, cmpZ (x % y + x % y) y = cz := ⟨_, rfl⟩
  have hc1 : Hid (cz < 0 → x % y + x % y < y) := fun h => by
    rw [← hcz] at h; unfold cmpZ at h
    by_cases c : x % y + x % y < y
    · exact c
    · rw [if_neg c] at h; split at h <;> omega
  have hc2 : Hid (0 ≤ cz → ¬ x % y + x % y < y) := fun h c => by
    rw [← hcz] at h; unfold cmpZ at h
    rw [if_pos c] at h; omega
  have HCZ := hide hcz
  clear hcz
  refine wp_region_held_drew (S := (fun w' => w'.cell? ⟨w1.heap.size + 1, 0, none⟩ = some (.slice r (nlen 4294967296 (x % y)) cr) ∧ w'.cell? ⟨w.heap.size + 1, 0, none⟩ = some (.slice b (nlen 4294967296 y) cb) ∧ Hid (Fr W2 w'))) (by kernel_rfl) ?_ (fun hHeld => ?_)
  · exact ⟨c7, c3, Fr.drew _⟩
  refine wpAnyH_take (i := 0) (v := ?_) rfl (by kernel_rfl) (by kernel_rfl) (by kernel_rfl) (fun _ _ _ h => h) (Or.inl ⟨by rfl, ?_⟩) (by assumption) ?_
  rotate_left
  · (intro w hSw; (try dsimp only at hSw); go_simp; try with_reducible rfl)
  (try simp only [Act.put, List.getElem_toArray, List.getElem_cons_zero, List.getElem_cons_succ, List.setIfInBounds_toArray, List.set_cons_zero, List.set_cons_succ])
  refine wpAnyH_take (i := 1) (v := ?_) rfl (by kernel_rfl) (by kernel_rfl) (by kernel_rfl) (fun _ _ _ h => h) (Or.inl ⟨by rfl, ?_⟩) (by assumption) ?_
  rotate_left
  · (intro w hSw; (try dsimp only at hSw); go_simp; try with_reducible rfl)
  (try simp only [Act.put, List.getElem_toArray, List.getElem_cons_zero, List.getElem_cons_succ, List.setIfInBounds_toArray, List.set_cons_zero, List.set_cons_succ])
  refine wpAnyH_take (i := 3) (v := ?_) rfl (by kernel_rfl) (by kernel_rfl) (by kernel_rfl) (fun _ _ _ h => h) (Or.inl ⟨by rfl, ?_⟩) (by assumption) ?_
  rotate_left
  · (intro w hSw; (try dsimp only at hSw); go_simp; try with_reducible rfl)
  (try simp only [Act.put, List.getElem_toArray, List.getElem_cons_zero, List.getElem_cons_succ, List.setIfInBounds_toArray, List.set_cons_zero, List.set_cons_succ])
  refine wpAnyH_ready (rs := [2]) (by kernel_rfl) (by simp) ?_
  refine AllReadyH.cons rfl (fun K hK => ?_) AllReadyH.nil
  go_simp
  have hh := hHeld
  refine (add_any _ _ (x % y) (x % y) _ (IsNat.fr IR.out hh.2.2.out) (IsNat.fr IR.out hh.2.2.out) (by omega) (by omega)).mono ?_
  rintro e wn ⟨a5, c5, rfl, i5, _, fy⟩
  have fz := hide (hh.2.2.out.trans fy)
  have I5 := hide i5; clear i5 fy
  clear hh
  (try go_wp2_with fail)
  refine hK.out _ _ ?_ (fun hHeld => ?_)
  · (try dsimp only)
    exact ⟨fr_cell fz.out c7, fr_cell fz.out c3, fz⟩
  clear hK K
  (try simp only [Act.put, List.getElem_toArray, List.getElem_cons_zero, List.getElem_cons_succ, List.setIfInBounds_toArray, List.set_cons_zero, List.set_cons_succ])
  refine wpAnyH_ready (rs := [4]) (by kernel_rfl) (by simp) ?_
  refine AllReadyH.cons rfl (fun K hK => ?_) AllReadyH.nil
  go_simp
  have hh := hHeld
  refine (cmp_any _ _ _ y _ I5.out (IsNat.fr IB.out hh.2.2.out) (Nat.le_trans (nl_sum nr nr) (by omega)) (by omega)).mono ?_
  rintro e wn ⟨rfl, fy⟩
  have fz := hide (hh.2.2.out.trans fy)
  rw [HCZ.out]; clear fy I5
  clear hh
  (try go_wp2_with fail)
  refine hK.out _ _ ?_ (fun hHeld => ?_)
  · (try dsimp only)
    exact ⟨fr_cell fz.out c7, fr_cell fz.out c3, fz⟩
  clear hK K
  (try simp only [Act.put, List.getElem_toArray, List.getElem_cons_zero, List.getElem_cons_succ, List.setIfInBounds_toArray, List.set_cons_zero, List.set_cons_succ])
  refine wpAnyH_take (i := 5) (v := ?_) rfl (by kernel_rfl) (by kernel_rfl) (by kernel_rfl) (fun _ _ _ h => h) (Or.inl ⟨by rfl, ?_⟩) (by assumption) ?_
  rotate_left
  · (intro w hSw; (try dsimp only at hSw); go_simp; try with_reducible rfl)
  (try simp only [Act.put, List.getElem_toArray, List.getElem_cons_zero, List.getElem_cons_succ, List.setIfInBounds_toArray, List.set_cons_zero, List.set_cons_succ])
  refine wpAnyH_done (by kernel_rfl) ?_ _
  have c6 := fr_cell fz.out c6
  have z4 := fr_free fz.out c4 z4
  have c4 := fr_cell fz.out c4
  have s4 := cell_lt c4
  have IQ := hide (IsNat.fr IQ.out fz.out)
  have FW := hide (FW.out.trans fz.out)
  clear hHeld
  by_cases hz : cz < 0
  · have hh : halfN x y = x / y := by unfold halfN; rw [if_pos (hc1.out hz)]
    have HH := hide hh
    clear hh
    go_wp2_with fail
    (try simp only [Exit.inBlock, Exit.then])
    refine bodyPost_ret (results_nat_ok rfl _ _ (w.heap.size + 1 + 1) (.slice q (nlen 4294967296 (x / y)) cq) rfl ?_) rfl ?_
    · exact World.cell?_setCell_same _ _ _ c4
    · rw [HH.out]
      refine ⟨_, _, rfl, ?_, fun g off s e => ?_, ?_⟩
      · exact IsNat.put IQ.out _ _ (fun g off s e => by have := LQ.out g off s e; simp; omega)
      · have := LQ.out g off s e; omega
      · exact Below.setCell FW.out (by simp; omega) _
  · have hh : halfN x y = x / y + 1 := by unfold halfN; rw [if_neg (hc2.out (by omega))]
    have HH := hide hh
    clear hh
    obtain ⟨W3, hW3⟩ : ∃ W3, W3 = wn := ⟨_, rfl⟩
    subst hW3
    go_wp2_with fail
    refine wp_region_held_drew (S := (fun w' => w'.cell? ⟨w1.heap.size, 0, none⟩ = some (.slice q (nlen 4294967296 (x / y)) cq) ∧ Hid (Fr w w'))) (by kernel_rfl) ?_ (fun hHeld => ?_)
    · exact ⟨c6, FW.out.trans (Fr.drew _)⟩
    refine wpAnyH_take (i := 0) (v := ?_) rfl (by kernel_rfl) (by kernel_rfl) (by kernel_rfl) (fun _ _ _ h => h) (Or.inl ⟨by rfl, ?_⟩) (by assumption) ?_
    rotate_left
    · (intro w hSw; (try dsimp only at hSw); go_simp; try with_reducible rfl)
    (try simp only [Act.put, List.getElem_toArray, List.getElem_cons_zero, List.getElem_cons_succ, List.setIfInBounds_toArray, List.set_cons_zero, List.set_cons_succ])
    refine wpAnyH_ready (rs := [1]) (by kernel_rfl) (by simp) ?_
    refine AllReadyH.cons rfl (fun K hK => ?_) AllReadyH.nil
    go_simp
    refine (of_one _).mono ?_
    rintro e wn ⟨a8, c8, rfl, i8, _, fy⟩
    have fz := hide ((Fr.drew W3).trans fy)
    have I8 := hide i8
    clear i8 fy
    (try go_wp2_with fail)
    refine hK.out _ _ ?_ (fun hHeld => ?_)
    · (try dsimp only)
      exact ⟨fr_cell fz.out c6, FW.out.trans fz.out⟩
    clear hK K
    (try simp only [Act.put, List.getElem_toArray, List.getElem_cons_zero, List.getElem_cons_succ, List.setIfInBounds_toArray, List.set_cons_zero, List.set_cons_succ])
    refine wpAnyH_ready (rs := [2]) (by kernel_rfl) (by simp) ?_
    refine AllReadyH.cons rfl (fun K hK => ?_) AllReadyH.nil
    go_simp
    refine (add_any _ _ (x / y) 1 _ (IsNat.fr IQ.out fz.out) I8.out (by omega) (by rw [nl1]; omega)).mono ?_
    rintro e wm ⟨a9, c9, rfl, i9, l9, fy⟩
    have I9 := hide i9
    have s9 := fz.out.size
    have L9 : Hid (∀ g off s, a9 = some ⟨g, off, s⟩ → w.heap.size + 1 + 1 < g) := fun g off s e => by have := l9 g off s e; omega
    have c6' := fr_cell fz.out c6
    have fz := hide (fz.out.trans fy)
    have z4 := fr_free fz.out c4 z4
    have c4 := fr_cell fz.out c4
    clear i9 fy l9 I8
    (try go_wp2_with fail)
    refine hK.out _ _ ?_ (fun hHeld => ?_)
    · (try dsimp only)
      exact ⟨fr_cell fz.out c6, FW.out.trans fz.out⟩
    clear hK K
    (try simp only [Act.put, List.getElem_toArray, List.getElem_cons_zero, List.getElem_cons_succ, List.setIfInBounds_toArray, List.set_cons_zero, List.set_cons_succ])
    refine wpAnyH_ready (rs := [3]) (by kernel_rfl) (by simp) ?_
    refine AllReadyH.cons rfl (fun K hK => ?_) AllReadyH.nil
    go_simp
    (try go_wp2_with fail)
    refine hK.out _ _ ?_ (fun hHeld => ?_)
    · (try dsimp only)
      exact ⟨(World.cell?_setCell_other wm _ _ _ (fun h => by injection h with h1 h2 h3; omega)).trans (fr_cell fz.out c6), Below.setCell (FW.out.trans fz.out) (by simp; omega) _⟩
    clear hK K
    (try simp only [Act.put, List.getElem_toArray, List.getElem_cons_zero, List.getElem_cons_succ, List.setIfInBounds_toArray, List.set_cons_zero, List.set_cons_succ])
    refine wpAnyH_take (i := 4) (v := ?_) rfl (by kernel_rfl) (by kernel_rfl) (by kernel_rfl) (fun _ _ _ h => h) (Or.inl ⟨by rfl, ?_⟩) (by assumption) ?_
    rotate_left
    · (intro w hSw; (try dsimp only at hSw); go_simp; try with_reducible rfl)
    (try simp only [Act.put, List.getElem_toArray, List.getElem_cons_zero, List.getElem_cons_succ, List.setIfInBounds_toArray, List.set_cons_zero, List.set_cons_succ])
    refine wpAnyH_done (by kernel_rfl) ?_ _
    go_wp2_with fail
    (try simp only [Exit.inBlock, Exit.then])
    refine bodyPost_ret (results_nat_ok rfl _ _ (w.heap.size + 1 + 1) (.slice a9 (nlen 4294967296 (x / y + 1)) c9) rfl ?_) rfl ?_
    · exact World.cell?_setCell_same _ _ _ c4
    · rw [HH.out]
      refine ⟨_, _, rfl, ?_, fun g off s e => ?_, ?_⟩
      · exact IsNat.put I9.out _ _ (fun g off s e => by have := L9.out g off s e; simp; omega)
      · have := L9.out g off s e; omega
      · exact Below.setCell (FW.out.trans fz.out) (by simp; omega) _
end Go.Proofs.Ytblhpoahcglcbaa
