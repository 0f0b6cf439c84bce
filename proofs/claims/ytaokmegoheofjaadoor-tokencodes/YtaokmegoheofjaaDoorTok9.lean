/- The law TokenCodes. -/
import Derived.Test.YtaokmegoheofjaaDoorTok7
import Derived.Test.YtaokmegoheofjaaDoorTokX
import Derived.Deep.RegionHeld3
namespace Go.Proofs.YtaokmegoheofjaaDoor
set_option linter.unusedVariables false
set_option linter.unusedSimpArgs false
open Go.RowKit

theorem answer_err {l : List Int} (hl : Rg l) (h : (answer l).1 ≠ []) : (answer l).2.2 = 0 := by
  unfold answer at h ⊢
  split
  · rename_i h1; rw [if_pos h1] at h; exact absurd rfl h
  · rename_i h1
    rw [if_neg h1] at h
    rcases tall_cases hl with ⟨T, r1, r2⟩ | ⟨T, a, o, e, r1, r2, r3, r4⟩
    · rw [r2]
    · rw [r4] at h; exact absurd rfl h

/-- The signs of a token are those by which it is told, or it has none. -/
theorem codes_facts (k : Int) (t : List Int) (c : Int) (ht : Rg t) :
    codeL k t c = [] ∨ (codeL k t c ≠ [] ∧ Rg (codeL k t c) ∧ (codeL k t c).length ≤ 100000000 ∧ ∃ x q, answer (codeL k t c) = ([x], q, 0) ∧ x.kind = k ∧ strOfNums x.text = strOfNums t ∧ x.count = c ∧ (x.place : Int) = 0) := by
  unfold codeL
  by_cases h1 : 4096 < t.length ∨ c < 0 ∨ 4096 < c
  · rw [if_pos h1]; exact .inl rfl
  rw [if_neg h1]
  have hrg := signs_rg k t c ht
  have hlen := signs_len k t c (by omega) (by omega)
  have herr := fun h => answer_err hrg h
  have hne : (answer (signsL k t c)).1 ≠ [] → signsL k t c ≠ [] := fun h e => by rw [e] at h; exact h rfl
  generalize signsL k t c = L at *
  obtain ⟨T, q, r, hA⟩ : ∃ T q r, answer L = (T, q, r) := ⟨_, _, _, rfl⟩
  rw [hA] at herr hne ⊢
  match T, hA, herr, hne with
  | [], _, _, _ => exact .inl rfl
  | [x], hA, herr, hne =>
    simp only
    by_cases h2 : x.kind = k ∧ strOfNums x.text = strOfNums t ∧ x.count = c ∧ (x.place : Int) = 0
    · rw [if_pos h2]
      have hr : r = 0 := herr (by simp)
      subst hr
      exact .inr ⟨hne (by simp), hrg, hlen, x, q, hA, h2⟩
    · rw [if_neg h2]; exact .inl rfl
  | _ :: _ :: _, _, _, _ => exact .inl rfl

attribute [local go_sem] World.cell?_alloc_some
set_option maxHeartbeats 4000000 in
set_option maxRecDepth 4000 in
theorem law_TokenCodes (k : Int) (s : ByteArray) (c a : Int) (w : World) (hk : (Lit.int .u8 k).wf = true) (hs : s.size ≤ maxLen) (hc : (Lit.int .i64 c).wf = true) (ha : (Lit.int .i64 a).wf = true) (hL' : Lead w ∧ MaxOk w) :
    Calls Tryd.prog 5 #[.agg #[.int .u8 k, .string s, .int .i64 c, .int .i64 a]] w fun e w' => e = .returned (.bool true) ∧ Fr w w' := by
  obtain ⟨hL, hE⟩ := hL'
  have hkb : 0 ≤ k ∧ k ≤ 255 := by
    simp [Lit.wf, IntKind.min, IntKind.max, IntKind.signed, IntKind.bits] at hk
    omega
  unfold maxLen at hs
  obtain ⟨M, hM⟩ : ∃ M : Nat, M = if s.size ≤ 40 then s.size else 40 := ⟨_, rfl⟩
  have hm1 : min (s.size : Int) 40 = (M : Int) := by rw [hM]; split <;> omega
  have hM1 : (M : Int) ≤ (s.size : Int) := by rw [hM]; split <;> omega
  have hM2 : M ≤ 40 := by rw [hM]; split <;> omega
  have zb := cut_size s M (by omega)
  obtain ⟨r, hr, hr2⟩ : ∃ r : Int, k.tmod 19 = r ∧ 0 ≤ r ∧ r < 19 := ⟨k % 19, Int.tmod_eq_emod_of_nonneg hkb.1, by omega, by omega⟩
  have hr0 : IntKind.i64.wrap r = r := i64_small (by omega) (by omega)
  clear hM hk hc ha
  have HL := hide hL
  have HE := hide hE
  clear hL hE
  go_enter Tryd.func5, Tryd.ntmps5
  go_wp2_with fail
  obtain ⟨V, hV⟩ : ∃ V, V = w.alloc (Obj.cells #[Value.int IntKind.u8 k, Value.string s, Value.int IntKind.i64 c, Value.int IntKind.i64 a] 36) := ⟨_, rfl⟩
  have FV : Hid (Fr w V) := hide (by rw [hV]; exact Fr.alloc _ _)
  obtain ⟨d0, d1, d2, d3⟩ : V.cell? ⟨w.heap.size, 0, none⟩ = some (.int .u8 k) ∧ V.cell? ⟨w.heap.size, 1, none⟩ = some (.string s) ∧ V.cell? ⟨w.heap.size, 2, none⟩ = some (.int .i64 c) ∧ V.cell? ⟨w.heap.size, 3, none⟩ = some (.int .i64 a) := by rw [hV]; exact four_cells (Fr.refl _)
  rw [← hV]
  generalize w.heap.size = B at *
  clear hV
  refine wp_region_held_drew (S := (fun w' => w'.cell? ⟨B, 0, none⟩ = some (.int .u8 k) ∧ w'.cell? ⟨B, 1, none⟩ = some (.string s) ∧ w'.cell? ⟨B, 2, none⟩ = some (.int .i64 c) ∧ w'.cell? ⟨B, 3, none⟩ = some (.int .i64 a))) (by kernel_rfl) ?_ (fun hHeld => ?_)
  · exact ⟨fr_cell (Fr.drew V) d0, fr_cell (Fr.drew V) d1, fr_cell (Fr.drew V) d2, fr_cell (Fr.drew V) d3⟩
  refine wpAnyH_take (i := 0) (v := ?_) rfl (by kernel_rfl) (by kernel_rfl) (by kernel_rfl) (fun _ _ _ h => h) (Or.inl ⟨by rfl, ?_⟩) (by assumption) ?_
  rotate_left
  · (intro w hSw; (try dsimp only at hSw); go_simp; try with_reducible rfl)
  (try simp only [Act.put, List.getElem_toArray, List.getElem_cons_zero, List.getElem_cons_succ, List.setIfInBounds_toArray, List.set_cons_zero, List.set_cons_succ])
  refine wpAnyH_take (i := 1) (v := ?_) rfl (by kernel_rfl) (by kernel_rfl) (by kernel_rfl) (fun _ _ _ h => h) (Or.inl ⟨by rfl, ?_⟩) (by assumption) ?_
  rotate_left
  · (intro w hSw; (try dsimp only at hSw); go_simp; try with_reducible rfl)
  (try simp only [Act.put, List.getElem_toArray, List.getElem_cons_zero, List.getElem_cons_succ, List.setIfInBounds_toArray, List.set_cons_zero, List.set_cons_succ])
  refine wpAnyH_take (i := 2) (v := ?_) rfl (by kernel_rfl) (by kernel_rfl) (by kernel_rfl) (fun _ _ _ h => h) (Or.inl ⟨by rfl, ?_⟩) (by assumption) ?_
  rotate_left
  · (intro w hSw; (try dsimp only at hSw); go_simp; try with_reducible rfl)
  (try simp only [Act.put, List.getElem_toArray, List.getElem_cons_zero, List.getElem_cons_succ, List.setIfInBounds_toArray, List.set_cons_zero, List.set_cons_succ])
  refine wpAnyH_take (i := 3) (v := ?_) rfl (by kernel_rfl) (by kernel_rfl) (by kernel_rfl) (fun _ _ _ h => h) (Or.inl ⟨by rfl, ?_⟩) (by assumption) ?_
  rotate_left
  · (intro w hSw; (try dsimp only at hSw); go_simp; try with_reducible rfl)
  (try simp only [Act.put, List.getElem_toArray, List.getElem_cons_zero, List.getElem_cons_succ, List.setIfInBounds_toArray, List.set_cons_zero, List.set_cons_succ])
  refine wpAnyH_take (i := 4) (v := ?_) rfl (by kernel_rfl) (by kernel_rfl) (by kernel_rfl) (fun _ _ _ h => h) (Or.inl ⟨by rfl, ?_⟩) (by assumption) ?_
  rotate_left
  · (intro w hSw; (try dsimp only at hSw); go_simp; try with_reducible rfl)
  (try simp only [Act.put, List.getElem_toArray, List.getElem_cons_zero, List.getElem_cons_succ, List.setIfInBounds_toArray, List.set_cons_zero, List.set_cons_succ])
  refine wpAnyH_take (i := 5) (v := ?_) rfl (by kernel_rfl) (by kernel_rfl) (by kernel_rfl) (fun _ _ _ h => h) (Or.inl ⟨by rfl, ?_⟩) (by assumption) ?_
  rotate_left
  · (intro w hSw; (try dsimp only at hSw); go_simp; try with_reducible rfl)
  (try simp only [Act.put, List.getElem_toArray, List.getElem_cons_zero, List.getElem_cons_succ, List.setIfInBounds_toArray, List.set_cons_zero, List.set_cons_succ])
  refine wpAnyH_take (i := 6) (v := ?_) rfl (by kernel_rfl) (by kernel_rfl) (by kernel_rfl) (fun _ _ _ h => h) (Or.inl ⟨by rfl, ?_⟩) (by assumption) ?_
  rotate_left
  · (intro w hSw; (try dsimp only at hSw); go_simp; try with_reducible rfl)
  (try simp only [Act.put, List.getElem_toArray, List.getElem_cons_zero, List.getElem_cons_succ, List.setIfInBounds_toArray, List.set_cons_zero, List.set_cons_succ])
  refine wpAnyH_take (i := 7) (v := ?_) rfl (by kernel_rfl) (by kernel_rfl) (by kernel_rfl) (fun _ _ _ h => h) (Or.inl ⟨by rfl, ?_⟩) (by assumption) ?_
  rotate_left
  · (intro w hSw; (try dsimp only at hSw); go_simp; try with_reducible rfl)
  (try simp only [Act.put, List.getElem_toArray, List.getElem_cons_zero, List.getElem_cons_succ, List.setIfInBounds_toArray, List.set_cons_zero, List.set_cons_succ])
  refine wpAnyH_take (i := 8) (v := ?_) rfl (by kernel_rfl) (by kernel_rfl) (by kernel_rfl) (fun _ _ _ h => h) (Or.inl ⟨by rfl, ?_⟩) (by assumption) ?_
  rotate_left
  · (intro w hSw; (try dsimp only at hSw); go_simp; try with_reducible rfl)
  (try simp only [Act.put, List.getElem_toArray, List.getElem_cons_zero, List.getElem_cons_succ, List.setIfInBounds_toArray, List.set_cons_zero, List.set_cons_succ])
  refine wpAnyH_take (i := 9) (v := ?_) rfl (by kernel_rfl) (by kernel_rfl) (by kernel_rfl) (fun _ _ _ h => h) (Or.inl ⟨by rfl, ?_⟩) (by assumption) ?_
  rotate_left
  · (intro w hSw; (try dsimp only at hSw); go_simp; try with_reducible rfl)
  (try simp only [Act.put, List.getElem_toArray, List.getElem_cons_zero, List.getElem_cons_succ, List.setIfInBounds_toArray, List.set_cons_zero, List.set_cons_succ])
  refine wpAnyH_take (i := 10) (v := ?_) rfl (by kernel_rfl) (by kernel_rfl) (by kernel_rfl) (fun _ _ _ h => h) (Or.inl ⟨by rfl, ?_⟩) (by assumption) ?_
  rotate_left
  · (intro w hSw; (try dsimp only at hSw); go_simp; try with_reducible rfl)
  (try simp only [Act.put, List.getElem_toArray, List.getElem_cons_zero, List.getElem_cons_succ, List.setIfInBounds_toArray, List.set_cons_zero, List.set_cons_succ])
  refine wpAnyH_done (by kernel_rfl) ?_ _
  have d0 := fr_cell (Fr.drew V) d0
  have d3 := fr_cell (Fr.drew V) d3
  have F1 : Hid (Fr w V.drew) := hide (FV.out.trans (Fr.drew V))
  generalize s.extract 0 M = Y at *
  generalize V.drew = W at *
  clear hm1 hM1 FV
  subst zb
  have HCF := hide (codes_facts r (ints Y) c (ints_range Y))
  have HC := hide (fun w hL hE => code_any r Y c a w hL hE (by unfold maxLen; omega))
  have HW := hide (fun w hL hE => wakes_any w hL hE)
  rw [str_ints] at HCF
  generalize codeL r (ints Y) c = Q at *
  go_wp2_with fail
  refine (HC.out _ (HL.out.fr (F1.out.trans (Fr.alloc _ _))) (HE.out.fr (F1.out.trans (Fr.alloc _ _)))).mono ?_
  rintro e w1 ⟨rfl, f1⟩
  rcases HCF.out with h0 | ⟨hne, hrg, hlen, x, q, hA, x1, x2, x3, x4⟩
  · subst h0
    rw [str_nil]
    go_wp2_with fail
    refine (HW.out _ (HL.out.fr (F1.out.trans ((Fr.alloc _ _).trans f1))) (HE.out.fr (F1.out.trans ((Fr.alloc _ _).trans f1)))).mono ?_
    rintro e w2 ⟨rfl, f2⟩
    go_wp2_with fail
    go_ret
    exact ⟨rfl, F1.out.trans ((Fr.alloc _ _).trans (f1.trans f2))⟩
  · have hzq := ints_length (strOfNums Q)
    have hiq := ints_nums Q hrg
    rw [hiq] at hzq
    have hemp : (strOfNums Q).toList.isEmpty = false := by
      rw [Lib.toList_data]
      have := Lib.size_eq (strOfNums Q)
      cases hd : (strOfNums Q).data.toList with
      | nil => rw [hd, List.length_nil] at this; have h3 := List.length_pos_iff.2 hne; omega
      | cons => rfl
    have HR := hide (fun w => refAll11_any (strOfNums Q) w (by unfold maxLen; omega))
    rw [hiq, hA] at HR
    generalize strOfNums Q = S at *
    obtain ⟨xk, xt, xc, xp⟩ := x
    simp only at x1 x2 x3 x4
    have k4 := (four_cells f1).1
    clear hA hne hrg hlen hiq hzq HCF HC
    have F2 := hide (F1.out.trans ((Fr.alloc _ _).trans f1))
    go_wp2_with fail
    refine (HR.out _).mono ?_
    rintro e w2 ⟨f2, v2, rfl, o2⟩
    obtain ⟨a2, c2, rfl⟩ := own_form o2
    obtain ⟨g2, rfl, _, _, q2⟩ := own_cells o2 (by simp)
    obtain ⟨y0, y1, y2, y3⟩ := q2 0 _ rfl
    simp only [Nat.mul_zero, Nat.zero_add] at y0 y1 y2 y3
    rw [x1] at y0
    rw [x2] at y1
    rw [x3] at y2
    rw [x4] at y3
    have k5 := fr_cell f2 k4
    have F3 := hide (F2.out.trans f2)
    generalize W.heap.size = G at *
    have HEQ := fun w => eqIn_ref w r c 0 r c 0 Y Y
    simp only [and_self, decide_true] at HEQ
    clear q2 o2 k4 f1 f2 x1 x2 x3 x4 F2 d0 d3
    go_wp2_with fail
    refine wp_region_held_drew (S := (fun w' => w'.cell? ⟨G, 0, none⟩ = some (.int .i64 r) ∧ w'.cell? ⟨g2, 0, none⟩ = some (.int .i64 r) ∧ w'.cell? ⟨g2, 1, none⟩ = some (.string Y) ∧ w'.cell? ⟨g2, 2, none⟩ = some (.int .i64 c) ∧ w'.cell? ⟨g2, 3, none⟩ = some (.int .i64 0) ∧ Hid (Fr w w'))) (by kernel_rfl) ?_ (fun hHeld => ?_)
    · exact ⟨fr_cell (Fr.drew w2) k5, fr_cell (Fr.drew w2) y0, fr_cell (Fr.drew w2) y1, fr_cell (Fr.drew w2) y2, fr_cell (Fr.drew w2) y3, hide (F3.out.trans (Fr.drew w2))⟩
    refine wpAnyH_ready (rs := [0]) (by kernel_rfl) (by simp) ?_
    refine AllReadyH.cons rfl (fun K hK => ?_) AllReadyH.nil
    go_simp
    obtain ⟨i0, i1, i2, i3, i4, i5⟩ := hHeld
    refine (HW.out _ (HL.out.fr i5.out) (HE.out.fr i5.out)).mono ?_
    rintro e wn ⟨rfl, fy⟩
    (try go_wp2_with fail)
    refine hK.out _ _ ?_ (fun hHeld => ?_)
    · (try dsimp only)
      exact ⟨fr_cell fy i0, fr_cell fy i1, fr_cell fy i2, fr_cell fy i3, fr_cell fy i4, hide (i5.out.trans fy)⟩
    clear hK K
    (try simp only [Act.put, List.getElem_toArray, List.getElem_cons_zero, List.getElem_cons_succ, List.setIfInBounds_toArray, List.set_cons_zero, List.set_cons_succ])
    refine wpAnyH_take (i := 1) (v := ?_) rfl (by kernel_rfl) (by kernel_rfl) (by kernel_rfl) (fun _ _ _ h => h) (Or.inl ⟨by rfl, ?_⟩) (by assumption) ?_
    rotate_left
    · (intro w hSw; (try dsimp only at hSw); go_simp; try with_reducible rfl)
    (try simp only [Act.put, List.getElem_toArray, List.getElem_cons_zero, List.getElem_cons_succ, List.setIfInBounds_toArray, List.set_cons_zero, List.set_cons_succ])
    refine wpAnyH_take (i := 2) (v := ?_) rfl (by kernel_rfl) (by kernel_rfl) (by kernel_rfl) (fun _ _ _ h => h) (Or.inl ⟨by rfl, ?_⟩) (by assumption) ?_
    rotate_left
    · (intro w hSw; (try dsimp only at hSw); go_simp; try with_reducible rfl)
    (try simp only [Act.put, List.getElem_toArray, List.getElem_cons_zero, List.getElem_cons_succ, List.setIfInBounds_toArray, List.set_cons_zero, List.set_cons_succ])
    refine wpAnyH_take (i := 3) (v := ?_) rfl (by kernel_rfl) (by kernel_rfl) (by kernel_rfl) (fun _ _ _ h => h) (Or.inl ⟨by rfl, ?_⟩) (by assumption) ?_
    rotate_left
    · (intro w hSw; (try dsimp only at hSw); go_simp; try with_reducible rfl)
    (try simp only [Act.put, List.getElem_toArray, List.getElem_cons_zero, List.getElem_cons_succ, List.setIfInBounds_toArray, List.set_cons_zero, List.set_cons_succ])
    refine wpAnyH_take (i := 4) (v := ?_) rfl (by kernel_rfl) (by kernel_rfl) (by kernel_rfl) (fun _ _ _ h => h) (Or.inl ⟨by rfl, ?_⟩) (by assumption) ?_
    rotate_left
    · (intro w hSw; (try dsimp only at hSw); go_simp; try with_reducible rfl)
    (try simp only [Act.put, List.getElem_toArray, List.getElem_cons_zero, List.getElem_cons_succ, List.setIfInBounds_toArray, List.set_cons_zero, List.set_cons_succ])
    refine wpAnyH_take (i := 5) (v := ?_) rfl (by kernel_rfl) (by kernel_rfl) (by kernel_rfl) (fun _ _ _ h => h) (Or.inl ⟨by rfl, ?_⟩) (by assumption) ?_
    rotate_left
    · (intro w hSw; (try dsimp only at hSw); go_simp; try with_reducible rfl)
    (try simp only [Act.put, List.getElem_toArray, List.getElem_cons_zero, List.getElem_cons_succ, List.setIfInBounds_toArray, List.set_cons_zero, List.set_cons_succ])
    refine wpAnyH_take (i := 6) (v := ?_) rfl (by kernel_rfl) (by kernel_rfl) (by kernel_rfl) (fun _ _ _ h => h) (Or.inl ⟨by rfl, ?_⟩) (by assumption) ?_
    rotate_left
    · (intro w hSw; (try dsimp only at hSw); go_simp; try with_reducible rfl)
    (try simp only [Act.put, List.getElem_toArray, List.getElem_cons_zero, List.getElem_cons_succ, List.setIfInBounds_toArray, List.set_cons_zero, List.set_cons_succ])
    refine wpAnyH_take (i := 7) (v := ?_) rfl (by kernel_rfl) (by kernel_rfl) (by kernel_rfl) (fun _ _ _ h => h) (Or.inl ⟨by rfl, ?_⟩) (by assumption) ?_
    rotate_left
    · (intro w hSw; (try dsimp only at hSw); go_simp; try with_reducible rfl)
    (try simp only [Act.put, List.getElem_toArray, List.getElem_cons_zero, List.getElem_cons_succ, List.setIfInBounds_toArray, List.set_cons_zero, List.set_cons_succ])
    refine wpAnyH_take (i := 8) (v := ?_) rfl (by kernel_rfl) (by kernel_rfl) (by kernel_rfl) (fun _ _ _ h => h) (Or.inl ⟨by rfl, ?_⟩) (by assumption) ?_
    rotate_left
    · (intro w hSw; (try dsimp only at hSw); go_simp; try with_reducible rfl)
    (try simp only [Act.put, List.getElem_toArray, List.getElem_cons_zero, List.getElem_cons_succ, List.setIfInBounds_toArray, List.set_cons_zero, List.set_cons_succ])
    refine wpAnyH_take (i := 9) (v := ?_) rfl (by kernel_rfl) (by kernel_rfl) (by kernel_rfl) (fun _ _ _ h => h) (Or.inl ⟨by rfl, ?_⟩) (by assumption) ?_
    rotate_left
    · (intro w hSw; (try dsimp only at hSw); go_simp; try with_reducible rfl)
    (try simp only [Act.put, List.getElem_toArray, List.getElem_cons_zero, List.getElem_cons_succ, List.setIfInBounds_toArray, List.set_cons_zero, List.set_cons_succ])
    refine wpAnyH_take (i := 10) (v := ?_) rfl (by kernel_rfl) (by kernel_rfl) (by kernel_rfl) (fun _ _ _ h => h) (Or.inl ⟨by rfl, ?_⟩) (by assumption) ?_
    rotate_left
    · (intro w hSw; (try dsimp only at hSw); go_simp; try with_reducible rfl)
    (try simp only [Act.put, List.getElem_toArray, List.getElem_cons_zero, List.getElem_cons_succ, List.setIfInBounds_toArray, List.set_cons_zero, List.set_cons_succ])
    refine wpAnyH_take (i := 11) (v := ?_) rfl (by kernel_rfl) (by kernel_rfl) (by kernel_rfl) (fun _ _ _ h => h) (Or.inl ⟨by rfl, ?_⟩) (by assumption) ?_
    rotate_left
    · (intro w hSw; (try dsimp only at hSw); go_simp; try with_reducible rfl)
    (try simp only [Act.put, List.getElem_toArray, List.getElem_cons_zero, List.getElem_cons_succ, List.setIfInBounds_toArray, List.set_cons_zero, List.set_cons_succ])
    refine wpAnyH_take (i := 12) (v := ?_) rfl (by kernel_rfl) (by kernel_rfl) (by kernel_rfl) (fun _ _ _ h => h) (Or.inl ⟨by rfl, ?_⟩) (by assumption) ?_
    rotate_left
    · (intro w hSw; (try dsimp only at hSw); go_simp; try with_reducible rfl)
    (try simp only [Act.put, List.getElem_toArray, List.getElem_cons_zero, List.getElem_cons_succ, List.setIfInBounds_toArray, List.set_cons_zero, List.set_cons_succ])
    refine wpAnyH_take (i := 13) (v := ?_) rfl (by kernel_rfl) (by kernel_rfl) (by kernel_rfl) (fun _ _ _ h => h) (Or.inl ⟨by rfl, ?_⟩) (by assumption) ?_
    rotate_left
    · (intro w hSw; (try dsimp only at hSw); go_simp; try with_reducible rfl)
    (try simp only [Act.put, List.getElem_toArray, List.getElem_cons_zero, List.getElem_cons_succ, List.setIfInBounds_toArray, List.set_cons_zero, List.set_cons_succ])
    refine wpAnyH_take (i := 14) (v := ?_) rfl (by kernel_rfl) (by kernel_rfl) (by kernel_rfl) (fun _ _ _ h => h) (Or.inl ⟨by rfl, ?_⟩) (by assumption) ?_
    rotate_left
    · (intro w hSw; (try dsimp only at hSw); go_simp; try with_reducible rfl)
    (try simp only [Act.put, List.getElem_toArray, List.getElem_cons_zero, List.getElem_cons_succ, List.setIfInBounds_toArray, List.set_cons_zero, List.set_cons_succ])
    refine wpAnyH_take (i := 15) (v := ?_) rfl (by kernel_rfl) (by kernel_rfl) (by kernel_rfl) (fun _ _ _ h => h) (Or.inl ⟨by rfl, ?_⟩) (by assumption) ?_
    rotate_left
    · (intro w hSw; (try dsimp only at hSw); go_simp; try with_reducible rfl)
    (try simp only [Act.put, List.getElem_toArray, List.getElem_cons_zero, List.getElem_cons_succ, List.setIfInBounds_toArray, List.set_cons_zero, List.set_cons_succ])
    refine wpAnyH_take (i := 16) (v := ?_) rfl (by kernel_rfl) (by kernel_rfl) (by kernel_rfl) (fun _ _ _ h => h) (Or.inl ⟨by rfl, ?_⟩) (by assumption) ?_
    rotate_left
    · (intro w hSw; (try dsimp only at hSw); go_simp; try with_reducible rfl)
    (try simp only [Act.put, List.getElem_toArray, List.getElem_cons_zero, List.getElem_cons_succ, List.setIfInBounds_toArray, List.set_cons_zero, List.set_cons_succ])
    refine wpAnyH_take (i := 17) (v := ?_) rfl (by kernel_rfl) (by kernel_rfl) (by kernel_rfl) (fun _ _ _ h => h) (Or.inl ⟨by rfl, ?_⟩) (by assumption) ?_
    rotate_left
    · (intro w hSw; (try dsimp only at hSw); go_simp; try with_reducible rfl)
    (try simp only [Act.put, List.getElem_toArray, List.getElem_cons_zero, List.getElem_cons_succ, List.setIfInBounds_toArray, List.set_cons_zero, List.set_cons_succ])
    refine wpAnyH_take (i := 18) (v := ?_) rfl (by kernel_rfl) (by kernel_rfl) (by kernel_rfl) (fun _ _ _ h => h) (Or.inl ⟨by rfl, ?_⟩) (by assumption) ?_
    rotate_left
    · (intro w hSw; (try dsimp only at hSw); go_simp; try with_reducible rfl)
    (try simp only [Act.put, List.getElem_toArray, List.getElem_cons_zero, List.getElem_cons_succ, List.setIfInBounds_toArray, List.set_cons_zero, List.set_cons_succ])
    refine wpAnyH_take (i := 19) (v := ?_) rfl (by kernel_rfl) (by kernel_rfl) (by kernel_rfl) (fun _ _ _ h => h) (Or.inl ⟨by rfl, ?_⟩) (by assumption) ?_
    rotate_left
    · (intro w hSw; (try dsimp only at hSw); go_simp; try with_reducible rfl)
    (try simp only [Act.put, List.getElem_toArray, List.getElem_cons_zero, List.getElem_cons_succ, List.setIfInBounds_toArray, List.set_cons_zero, List.set_cons_succ])
    refine wpAnyH_take (i := 20) (v := ?_) rfl (by kernel_rfl) (by kernel_rfl) (by kernel_rfl) (fun _ _ _ h => h) (Or.inl ⟨by rfl, ?_⟩) (by assumption) ?_
    rotate_left
    · (intro w hSw; (try dsimp only at hSw); go_simp; try with_reducible rfl)
    (try simp only [Act.put, List.getElem_toArray, List.getElem_cons_zero, List.getElem_cons_succ, List.setIfInBounds_toArray, List.set_cons_zero, List.set_cons_succ])
    refine wpAnyH_take (i := 21) (v := ?_) rfl (by kernel_rfl) (by kernel_rfl) (by kernel_rfl) (fun _ _ _ h => h) (Or.inl ⟨by rfl, ?_⟩) (by assumption) ?_
    rotate_left
    · (intro w hSw; (try dsimp only at hSw); go_simp; try with_reducible rfl)
    (try simp only [Act.put, List.getElem_toArray, List.getElem_cons_zero, List.getElem_cons_succ, List.setIfInBounds_toArray, List.set_cons_zero, List.set_cons_succ])
    refine wpAnyH_done (by kernel_rfl) ?_ _
    obtain ⟨_, _, _, _, _, FZ⟩ := hHeld
    go_wp2_with fail
    go_ret
    exact ⟨rfl, FZ.out⟩
end Go.Proofs.YtaokmegoheofjaaDoor
