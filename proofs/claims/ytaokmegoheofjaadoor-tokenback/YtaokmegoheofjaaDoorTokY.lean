/- The law TokenJoins. -/
import Derived.Test.YtaokmegoheofjaaDoorTokW
import Derived.Test.YtaokmegoheofjaaDoorTokM
import Derived.Deep.RegionHeld3
namespace Go.Proofs.YtaokmegoheofjaaDoor
set_option linter.unusedVariables false
set_option linter.unusedSimpArgs false
open Go.RowKit

theorem answer_small (l : List Int) (h : l.length ≤ 4096) : answer l = tall l := by unfold answer; rw [if_neg (by omega)]
theorem cut_size (s : ByteArray) (M : Nat) (h : M ≤ s.size) : (s.extract 0 M).size = M := by
  have := ints_length (s.extract 0 M)
  rw [ints_extract, List.length_take, List.length_drop, ints_length] at this
  omega

theorem reach_place {l : List Int} {T : List Tk} {a : Nat} (h : Reach l T a) : ∀ (i : Nat) (x : Tk), T[i]? = some x → x.place ≤ l.length := by
  induction h with
  | nil => intro i x hx; simp at hx
  | @snoc T a k t c n h1 h2 h3 ih =>
    intro i x hx
    rcases Nat.lt_or_ge i T.length with hi | hi
    · rw [List.getElem?_append_left hi] at hx; exact ih i x hx
    · rw [List.getElem?_append_right hi] at hx
      have := List.mem_of_getElem? hx
      simp at this
      subst this
      simp only
      omega
theorem tall_place {l : List Int} (hl : Rg l) (i : Nat) (x : Tk) (hx : (tall l).1[i]? = some x) : x.place ≤ l.length := by
  rcases tall_cases hl with ⟨T, r1, r2⟩ | ⟨T, a, o, e, r1, r2, r3, r4⟩
  · rw [r2] at hx; exact reach_place r1 i x hx
  · rw [r4] at hx; simp at hx

theorem own_cellsM {w : World} {base c n : Nat} {e : TypeId} {a : Option Addr} {T : List Tk} (h : w.ownsRow base e 4 (.slice a n c) n (rowT T)) (hT : 0 < n) :
    ∃ g, a = some ⟨g, 0, none⟩ ∧ base ≤ g ∧ g < w.heap.size ∧ ∀ (i : Nat) (x : Tk), T[i]? = some x → w.cell? ⟨g, i * 4, none⟩ = some (.int .i64 x.kind) ∧ w.cell? ⟨g, i * 4 + 1, none⟩ = some (.string (strOfNums x.text)) ∧ w.cell? ⟨g, i * 4 + 2, none⟩ = some (.int .i64 x.count) ∧ w.cell? ⟨g, i * 4 + 3, none⟩ = some (.int .i64 (x.place : Int)) := by
  obtain ⟨g, h1, h2, h3, h4⟩ := own_cells h hT
  refine ⟨g, h1, h2, h3, fun i x hx => ?_⟩
  rw [Nat.mul_comm i 4]
  exact h4 i x hx

theorem tall_len {l : List Int} (hl : Rg l) : (tall l).1.length ≤ l.length ∧ (tall l).2.1 ≤ l.length := by
  rcases tall_cases hl with ⟨T, r1, r2⟩ | ⟨T, a, o, e, r1, r2, r3, r4⟩
  · rw [r2]; have := r1.le hl; exact ⟨this.2, Nat.le_refl _⟩
  · rw [r4]
    have hne : l.drop a ≠ [] := by intro h; have := congrArg List.length h; rw [List.length_drop] at this; simp at this; omega
    have := nextN_no _ (rg_drop hl a) hne r3
    rw [List.length_drop] at this
    simp only [List.length_nil]
    omega

/-- The tokens that are told of two codes and of both with a Semicolon between. -/
theorem joined_facts (l1 l2 : List Int) (h1 : Rg l1) (h2 : Rg l2) (e1 : (tall l1).2.2 = 0) (e2 : (tall l2).2.2 = 0) :
    ∃ T3 : List Tk, tall (l1 ++ 59 :: l2) = (T3, l1.length + 1 + l2.length, 0) ∧ T3.length = (tall l1).1.length + 1 + (tall l2).1.length ∧ (∀ (i : Nat) (x : Tk), (tall l1).1[i]? = some x → T3[i]? = some x) ∧ (∃ x : Tk, T3[(tall l1).1.length]? = some x ∧ x.kind = 11) ∧ (∀ (i : Nat) (x : Tk), (tall l2).1[i]? = some x → T3[(tall l1).1.length + 1 + i]? = some (shiftT (l1.length + 1) x)) := by
  refine ⟨_, by rw [tall_join h1 h2 e1, if_pos e2], by first | (simp; done) | (simp; omega), fun i x hx => ?_, ⟨⟨11, [59], 1, l1.length⟩, ?_, rfl⟩, fun i x hx => ?_⟩
  · have hi := (List.getElem?_eq_some_iff.1 hx).1
    rw [List.append_assoc, List.getElem?_append_left hi, hx]
  · rw [List.append_assoc, List.getElem?_append_right (Nat.le_refl _)]; simp
  · rw [List.getElem?_append_right (by simp <;> omega)]
    simp [hx]

attribute [local go_sem] World.cell?_alloc_some
set_option maxHeartbeats 4000000 in
set_option maxRecDepth 4000 in
theorem law_TokenJoins (s t : ByteArray) (w : World) (hs : s.size ≤ maxLen) (ht : t.size ≤ maxLen) (hL' : Lead w ∧ MaxOk w) :
    Calls Tryd.prog 8 #[.string s, .string t] w fun e w' => e = .returned (.bool true) ∧ Fr w w' := by
  obtain ⟨hL, hE⟩ := hL'
  unfold maxLen at hs ht
  obtain ⟨M, hM⟩ : ∃ M : Nat, M = if s.size ≤ 200 then s.size else 200 := ⟨_, rfl⟩
  obtain ⟨N, hN⟩ : ∃ N : Nat, N = if t.size ≤ 200 then t.size else 200 := ⟨_, rfl⟩
  have hm1 : min (s.size : Int) 200 = (M : Int) := by rw [hM]; split <;> omega
  have hm2 : min (t.size : Int) 200 = (N : Int) := by rw [hN]; split <;> omega
  have hM1 : (M : Int) ≤ (s.size : Int) := by rw [hM]; split <;> omega
  have hN1 : (N : Int) ≤ (t.size : Int) := by rw [hN]; split <;> omega
  have hM2 : M ≤ 200 := by rw [hM]; split <;> omega
  have hN2 : N ≤ 200 := by rw [hN]; split <;> omega
  have za := cut_size s M (by omega)
  have zb := cut_size t N (by omega)
  clear hM hN
  have HL := hide hL
  have HE := hide hE
  clear hL hE
  go_enter Tryd.func8, Tryd.ntmps8
  go_wp2_with fail
  refine wp_region_held_drew (S := (fun w' => Hid (Fr w w'))) (by kernel_rfl) ?_ (fun hHeld => ?_)
  · exact hide (Fr.drew _)
  refine wpAnyH_take (i := 0) (v := ?_) rfl (by kernel_rfl) (by kernel_rfl) (by kernel_rfl) (fun _ _ _ h => h) (Or.inl ⟨by rfl, ?_⟩) (by assumption) ?_
  rotate_left
  · (intro w hSw; (try dsimp only at hSw); go_simp; try with_reducible rfl)
  (try simp only [Act.put, List.getElem_toArray, List.getElem_cons_zero, List.getElem_cons_succ, List.setIfInBounds_toArray, List.set_cons_zero, List.set_cons_succ])
  refine wpAnyH_take (i := 1) (v := ?_) rfl (by kernel_rfl) (by kernel_rfl) (by kernel_rfl) (fun _ _ _ h => h) (Or.inl ⟨by rfl, ?_⟩) (by assumption) ?_
  rotate_left
  · (intro w hSw; (try dsimp only at hSw); go_simp; try with_reducible rfl)
  (try simp only [Act.put, List.getElem_toArray, List.getElem_cons_zero, List.getElem_cons_succ, List.setIfInBounds_toArray, List.set_cons_zero, List.set_cons_succ])
  refine wpAnyH_take (i := 2) (v := ?_) rfl (by kernel_rfl) (by kernel_rfl) (by kernel_rfl) (fun _ _ _ h => h) (Or.inl ⟨by rfl, ?_⟩) (by assumption) ?_
  rotate_left
  · (intro w hSw; (try dsimp only at hSw); go_simp; try with_reducible rfl)
  (try simp only [Act.put, List.getElem_toArray, List.getElem_cons_zero, List.getElem_cons_succ, List.setIfInBounds_toArray, List.set_cons_zero, List.set_cons_succ])
  refine wpAnyH_take (i := 3) (v := ?_) rfl (by kernel_rfl) (by kernel_rfl) (by kernel_rfl) (fun _ _ _ h => h) (Or.inl ⟨by rfl, ?_⟩) (by assumption) ?_
  rotate_left
  · (intro w hSw; (try dsimp only at hSw); go_simp; try with_reducible rfl)
  (try simp only [Act.put, List.getElem_toArray, List.getElem_cons_zero, List.getElem_cons_succ, List.setIfInBounds_toArray, List.set_cons_zero, List.set_cons_succ])
  refine wpAnyH_take (i := 4) (v := ?_) rfl (by kernel_rfl) (by kernel_rfl) (by kernel_rfl) (fun _ _ _ h => h) (Or.inl ⟨by rfl, ?_⟩) (by assumption) ?_
  rotate_left
  · (intro w hSw; (try dsimp only at hSw); go_simp; try with_reducible rfl)
  (try simp only [Act.put, List.getElem_toArray, List.getElem_cons_zero, List.getElem_cons_succ, List.setIfInBounds_toArray, List.set_cons_zero, List.set_cons_succ])
  refine wpAnyH_take (i := 5) (v := ?_) rfl (by kernel_rfl) (by kernel_rfl) (by kernel_rfl) (fun _ _ _ h => h) (Or.inl ⟨by rfl, ?_⟩) (by assumption) ?_
  rotate_left
  · (intro w hSw; (try dsimp only at hSw); go_simp; try with_reducible rfl)
  (try simp only [Act.put, List.getElem_toArray, List.getElem_cons_zero, List.getElem_cons_succ, List.setIfInBounds_toArray, List.set_cons_zero, List.set_cons_succ])
  refine wpAnyH_take (i := 6) (v := ?_) rfl (by kernel_rfl) (by kernel_rfl) (by kernel_rfl) (fun _ _ _ h => h) (Or.inl ⟨by rfl, ?_⟩) (by assumption) ?_
  rotate_left
  · (intro w hSw; (try dsimp only at hSw); go_simp; try with_reducible rfl)
  (try simp only [Act.put, List.getElem_toArray, List.getElem_cons_zero, List.getElem_cons_succ, List.setIfInBounds_toArray, List.set_cons_zero, List.set_cons_succ])
  refine wpAnyH_take (i := 7) (v := ?_) rfl (by kernel_rfl) (by kernel_rfl) (by kernel_rfl) (fun _ _ _ h => h) (Or.inl ⟨by rfl, ?_⟩) (by assumption) ?_
  rotate_left
  · (intro w hSw; (try dsimp only at hSw); go_simp; try with_reducible rfl)
  (try simp only [Act.put, List.getElem_toArray, List.getElem_cons_zero, List.getElem_cons_succ, List.setIfInBounds_toArray, List.set_cons_zero, List.set_cons_succ])
  refine wpAnyH_take (i := 8) (v := ?_) rfl (by kernel_rfl) (by kernel_rfl) (by kernel_rfl) (fun _ _ _ h => h) (Or.inl ⟨by rfl, ?_⟩) (by assumption) ?_
  rotate_left
  · (intro w hSw; (try dsimp only at hSw); go_simp; try with_reducible rfl)
  (try simp only [Act.put, List.getElem_toArray, List.getElem_cons_zero, List.getElem_cons_succ, List.setIfInBounds_toArray, List.set_cons_zero, List.set_cons_succ])
  refine wpAnyH_take (i := 9) (v := ?_) rfl (by kernel_rfl) (by kernel_rfl) (by kernel_rfl) (fun _ _ _ h => h) (Or.inl ⟨by rfl, ?_⟩) (by assumption) ?_
  rotate_left
  · (intro w hSw; (try dsimp only at hSw); go_simp; try with_reducible rfl)
  (try simp only [Act.put, List.getElem_toArray, List.getElem_cons_zero, List.getElem_cons_succ, List.setIfInBounds_toArray, List.set_cons_zero, List.set_cons_succ])
  refine wpAnyH_take (i := 10) (v := ?_) rfl (by kernel_rfl) (by kernel_rfl) (by kernel_rfl) (fun _ _ _ h => h) (Or.inl ⟨by rfl, ?_⟩) (by assumption) ?_
  rotate_left
  · (intro w hSw; (try dsimp only at hSw); go_simp; try with_reducible rfl)
  (try simp only [Act.put, List.getElem_toArray, List.getElem_cons_zero, List.getElem_cons_succ, List.setIfInBounds_toArray, List.set_cons_zero, List.set_cons_succ])
  refine wpAnyH_take (i := 11) (v := ?_) rfl (by kernel_rfl) (by kernel_rfl) (by kernel_rfl) (fun _ _ _ h => h) (Or.inl ⟨by rfl, ?_⟩) (by assumption) ?_
  rotate_left
  · (intro w hSw; (try dsimp only at hSw); go_simp; try with_reducible rfl)
  (try simp only [Act.put, List.getElem_toArray, List.getElem_cons_zero, List.getElem_cons_succ, List.setIfInBounds_toArray, List.set_cons_zero, List.set_cons_succ])
  refine wpAnyH_done (by kernel_rfl) ?_ _
  generalize s.extract 0 M = A at *
  generalize t.extract 0 N = B at *
  have f0 := hide (Fr.drew w)
  generalize w.drew = w0 at *
  clear hm1 hm2 hM1 hN1
  subst za zb
  have hA := hide (fun w hL hE => tokAll_any A w hL hE (by unfold maxLen; omega))
  have hB := hide (fun w hL hE => tokAll_any B w hL hE (by unfold maxLen; omega))
  have zC : (A ++ (⟨#[59]⟩ : ByteArray) ++ B).size = A.size + 1 + B.size := by rw [ByteArray.size_append, ByteArray.size_append]; rfl
  have hC := hide (fun w hL hE => tokAll_any (A ++ (⟨#[59]⟩ : ByteArray) ++ B) w hL hE (by unfold maxLen; omega))
  have zA := ints_length A
  have zB := ints_length B
  have iC : ints (A ++ (⟨#[59]⟩ : ByteArray) ++ B) = ints A ++ 59 :: ints B := by rw [ints_append, ints_append, show ints (⟨#[59]⟩ : ByteArray) = [59] by rfl]; simp
  rw [answer_small _ (by omega)] at hA hB
  rw [iC, answer_small _ (by simp; omega)] at hC
  have HJ := hide (joined_facts (ints A) (ints B) (ints_range A) (ints_range B))
  have HK := hide (tall_join (ints_range A) (ints_range B))
  have HT1 : Hid ((tall (ints A)).2.2 = 0 → (tall (ints A)).2.1 = (ints A).length) := hide (fun h => (reach_semi (l2 := []) (ints_range A) h).2)
  rw [zA, zB] at HJ
  rw [zA] at HT1
  have b1 := tall_len (ints_range A)
  have b2 := tall_len (ints_range B)
  have PB := hide (fun i x => tall_place (ints_range B) i x)
  rw [zA] at b1
  rw [zB] at b2
  obtain ⟨T1, n1, e1, h1⟩ : ∃ T1 n1 e1, tall (ints A) = (T1, n1, e1) := ⟨_, _, _, rfl⟩
  obtain ⟨T2, n2, e2, h2⟩ : ∃ T2 n2 e2, tall (ints B) = (T2, n2, e2) := ⟨_, _, _, rfl⟩
  rw [h1, h2] at HJ HK
  rw [h1] at hA HT1 b1
  rw [h2] at hB b2 PB
  rw [zB] at PB
  simp only at b1 b2
  clear h1 h2 iC
  have hsumA : (A ++ (⟨#[59]⟩ : ByteArray)).size = A.size + 1 := by rw [ByteArray.size_append]; rfl
  have HW := hide (fun w hL hE => wakes_any w hL hE)
  go_wp2_with fail
  refine (hA.out _ (HL.out.fr f0.out) (HE.out.fr f0.out)).mono ?_
  rintro e w1 ⟨f1, v1, rfl, o1⟩
  obtain ⟨a1, c1, rfl⟩ := own_form o1
  have F1 := hide (f0.out.trans f1)
  have O1 := hide o1
  clear o1 f0
  go_wp2_with fail
  refine (hB.out _ (HL.out.fr F1.out) (HE.out.fr F1.out)).mono ?_
  rintro e w2 ⟨f2, v2, rfl, o2⟩
  obtain ⟨a2, c2, rfl⟩ := own_form o2
  have F2 := hide (F1.out.trans f2)
  have O1b := hide (own_fr O1.out f2)
  have O2 := hide o2
  clear o2 F1 O1 f1 f2
  go_wp2_with fail
  refine (hC.out _ (HL.out.fr F2.out) (HE.out.fr F2.out)).mono ?_
  rintro e w3 ⟨f3, v3, rfl, o3⟩
  have F3 := hide (F2.out.trans f3)
  have O1 := hide (own_fr O1b.out f3)
  have O2b := hide (own_fr O2.out f3)
  have O3 := hide o3
  clear o3 F2 O1b O2 f3
  have HW3 := hide (HW.out w3 (HL.out.fr F3.out) (HE.out.fr F3.out))
  clear hA hB hC HW
  by_cases c1 : e1 = 0
  · subst c1
    by_cases c2 : e2 = 0
    · subst c2
      obtain ⟨T3, h3, l3, k3, ⟨xs, s3, s3k⟩, j3⟩ := HJ.out rfl rfl
      rw [h3] at O3 ⊢
      have L3 := hide l3
      have K3 := hide k3
      have S3 := hide s3
      have J3 := hide j3
      clear h3 l3 k3 s3 j3 HJ HK
      simp only at *
      obtain ⟨a3, c3, rfl⟩ := own_form O3.out
      obtain ⟨g3, rfl, hg3, hg3', q3⟩ := own_cellsM O3.out (by have := L3.out; omega)
      have Q3 := hide q3
      have p3 := (q3 _ xs S3.out).1
      rw [s3k] at p3
      clear q3
      rw [L3.out]
      generalize hP1 : T1.length = P1 at *
      generalize hP2 : T2.length = P2 at *
      have HP1 := hide hP1
      have HP2 := hide hP2
      have bP1 : P1 ≤ 200 := by omega
      have bP2 : P2 ≤ 200 := by omega
      have bA : A.size ≤ 200 := by omega
      have bB : B.size ≤ 200 := by omega
      clear hP1 hP2 b1 b2 zA zB zC hs ht
      go_wp2_with fail
      refine HW3.out.mono ?_
      rintro e w4 ⟨rfl, f4⟩
      have r3 := fr_cell f4 p3
      have F4 := hide (F3.out.trans f4)
      have O1d := hide (own_fr O1.out f4)
      have O2d := hide (own_fr O2b.out f4)
      have Q4 : Hid (∀ (i : Nat) (x : Tk), T3[i]? = some x → w4.cell? ⟨g3, i * 4, none⟩ = some (.int .i64 x.kind) ∧ w4.cell? ⟨g3, i * 4 + 1, none⟩ = some (.string (strOfNums x.text)) ∧ w4.cell? ⟨g3, i * 4 + 2, none⟩ = some (.int .i64 x.count) ∧ w4.cell? ⟨g3, i * 4 + 3, none⟩ = some (.int .i64 (x.place : Int))) :=
        hide (fun i x hx => ⟨fr_cell f4 (Q3.out i x hx).1, fr_cell f4 (Q3.out i x hx).2.1, fr_cell f4 (Q3.out i x hx).2.2.1, fr_cell f4 (Q3.out i x hx).2.2.2⟩)
      clear O1 O2b O3 Q3 p3 F3 f4 S3 L3 HW3 s3k xs
      go_wp2_with fail
      clear r3
      go_loopw [103] (fun i wr => ∃ k : Nat, k ≤ P1 ∧ i = .int .i64 k ∧ Hid (Fr w4 wr)) (fun i _ => P1 - (intOf i).toNat)
      case atStart => exact ⟨0, by omega, rfl, Fr.refl _⟩
      case round =>
        obtain ⟨k, hk, rfl, HF⟩ := hrel
        by_cases hlt : k < P1
        · obtain ⟨x, hx⟩ : ∃ x, T1[k]? = some x := ⟨_, List.getElem?_eq_getElem (by rw [HP1.out]; exact hlt)⟩
          obtain ⟨g1, rfl, _, _, q1⟩ := own_cellsM O1d.out (by omega)
          obtain ⟨u0, u1, u2, u3⟩ := q1 k x hx
          obtain ⟨y0, y1, y2, y3⟩ := Q4.out k x (K3.out k x hx)
          have u0 := fr_cell HF.out u0
          have u1 := fr_cell HF.out u1
          have u2 := fr_cell HF.out u2
          have u3 := fr_cell HF.out u3
          have y0 := fr_cell HF.out y0
          have y1 := fr_cell HF.out y1
          have y2 := fr_cell HF.out y2
          have y3 := fr_cell HF.out y3
          obtain ⟨xk, xt, xc, xp⟩ := x
          simp only at u0 u1 u2 u3 y0 y1 y2 y3
          generalize strOfNums xt = xs at *
          have HEQ := fun w => eqIn_tok w xk xc xp xk xc xp xs xs
          simp only [and_self, decide_true] at HEQ
          have hi3 : (k : Int) < (P1 : Int) + 1 + (P2 : Int) := by omega
          clear q1 hx
          go_wp2_with fail
          go_quiet (fail)
          go_wp2_with fail
          go_roundw
          case rel => exact ⟨k + 1, by omega, by go_num, hide (HF.out.trans ((Fr.alloc _ _).trans (Fr.drewN _ _)))⟩
          case measure => simp [intOf]; omega
        · have F5 := hide (F4.out.trans HF.out)
          have O2e := hide (own_fr O2d.out HF.out)
          have Q5 : Hid (∀ (i : Nat) (x : Tk), T3[i]? = some x → wr.cell? ⟨g3, i * 4, none⟩ = some (.int .i64 x.kind) ∧ wr.cell? ⟨g3, i * 4 + 1, none⟩ = some (.string (strOfNums x.text)) ∧ wr.cell? ⟨g3, i * 4 + 2, none⟩ = some (.int .i64 x.count) ∧ wr.cell? ⟨g3, i * 4 + 3, none⟩ = some (.int .i64 (x.place : Int))) :=
            hide (fun i x hx => ⟨fr_cell HF.out (Q4.out i x hx).1, fr_cell HF.out (Q4.out i x hx).2.1, fr_cell HF.out (Q4.out i x hx).2.2.1, fr_cell HF.out (Q4.out i x hx).2.2.2⟩)
          obtain ⟨V, hV⟩ : ∃ V, V = wr := ⟨_, rfl⟩
          subst hV
          clear O1d O2d Q4 HF F4
          go_wp2_with fail
          go_loopw [117] (fun i wr => ∃ k : Nat, k ≤ P2 ∧ i = .int .i64 k ∧ Hid (Fr V wr)) (fun i _ => P2 - (intOf i).toNat)
          case atStart => exact ⟨0, by omega, rfl, Fr.refl _⟩
          case round =>
            obtain ⟨m, hm, rfl, HF⟩ := hrel
            by_cases hlt2 : m < P2
            · obtain ⟨x, hx⟩ : ∃ x, T2[m]? = some x := ⟨_, List.getElem?_eq_getElem (by rw [HP2.out]; exact hlt2)⟩
              obtain ⟨g2, rfl, _, _, q2⟩ := own_cellsM O2e.out (by omega)
              obtain ⟨u0, u1, u2, u3⟩ := q2 m x hx
              have hj := J3.out m x hx
              obtain ⟨y0, y1, y2, y3⟩ := Q5.out _ _ hj
              have hpl := PB.out m x hx
              have u0 := fr_cell HF.out u0
              have u1 := fr_cell HF.out u1
              have u2 := fr_cell HF.out u2
              have u3 := fr_cell HF.out u3
              have y0 := fr_cell HF.out y0
              have y1 := fr_cell HF.out y1
              have y2 := fr_cell HF.out y2
              have y3 := fr_cell HF.out y3
              obtain ⟨xk, xt, xc, xp⟩ := x
              simp only [shiftT] at u0 u1 u2 u3 y0 y1 y2 y3 hpl
              rw [show ((xp + (A.size + 1) : Nat) : Int) = (xp : Int) + ((A.size : Int) + 1) by omega] at y3
              generalize strOfNums xt = xs at *
              have HEQ := fun w => eqIn_tok w xk xc ((xp : Int) + ((A.size : Int) + 1)) xk xc ((xp : Int) + ((A.size : Int) + 1)) xs xs
              simp only [and_self, decide_true] at HEQ
              have hi3 : (P1 : Int) + 1 + (m : Int) < (P1 : Int) + 1 + (P2 : Int) := by omega
              clear q2 hx hj
              go_wp2_with fail
              go_quiet (fail)
              go_wp2_with fail
              go_roundw
              case rel => exact ⟨m + 1, by omega, by go_num, hide (HF.out.trans ((Fr.alloc _ _).trans (Fr.drewN _ _)))⟩
              case measure => simp [intOf]; omega
            · go_wp2_with fail
              go_ret
              exact ⟨rfl, F5.out.trans HF.out⟩
    · have h3 := HK.out rfl
      rw [if_neg c2] at h3
      rw [h3] at O3 ⊢
      clear h3 HJ HK
      simp only at *
      obtain ⟨a3, c3, rfl⟩ := own_form O3.out
      have c2' : (e2 == 0) = false := by simpa using c2
      go_wp2_with fail
      refine HW3.out.mono ?_
      rintro e w4 ⟨rfl, f4⟩
      go_wp2_with fail
      go_ret
      exact ⟨rfl, F3.out.trans f4⟩
  · clear HJ HK
    have c1' : (e1 == 0) = false := by simpa using c1
    generalize tall (ints A ++ 59 :: ints B) = R at *
    obtain ⟨a3, c3, rfl⟩ := own_form O3.out
    go_wp2_with fail
    refine HW3.out.mono ?_
    rintro e w4 ⟨rfl, f4⟩
    go_wp2_with fail
    go_ret
    exact ⟨rfl, F3.out.trans f4⟩
end Go.Proofs.YtaokmegoheofjaaDoor
