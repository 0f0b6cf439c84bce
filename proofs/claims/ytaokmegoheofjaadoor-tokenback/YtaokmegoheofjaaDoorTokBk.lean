/- The law TokenBack. -/
import Derived.Test.YtaokmegoheofjaaDoorTokY
import Derived.Test.YtaokmegoheofjaaDoorTokBa
import Derived.Test.YtaokmegoheofjaaDoorTokBf
namespace Go.Proofs.YtaokmegoheofjaaDoor
set_option linter.unusedVariables false
set_option linter.unusedSimpArgs false
open Go.RowKit

theorem get_ints (s : ByteArray) (k : Nat) : ((s.get! k).toNat : Int) = (ints s).getD k 0 := by
  have e : ints s = s.data.toList.map (fun b => (b.toNat : Int)) := by simp [ints]
  rw [e, ← Lib.getD_get!']
  simp only [List.getD_eq_getElem?_getD, List.getElem?_map]
  cases s.data.toList[k]? <;> rfl
theorem low_get {s t : ByteArray} (h : (ints s).map lowB = (ints t).map lowB) (k : Nat) : lowB ((s.get! k).toNat : Int) = lowB ((t.get! k).toNat : Int) := by
  rw [get_ints, get_ints]
  have e : ∀ l : List Int, lowB (l.getD k 0) = (l.map lowB).getD k 0 := by
    intro l
    simp only [List.getD_eq_getElem?_getD, List.getElem?_map]
    cases l[k]? <;> rfl
  rw [e, e, h]

attribute [local go_sem] World.cell?_alloc_some
set_option maxHeartbeats 4000000 in
set_option maxRecDepth 4000 in
theorem law_TokenBack (s : ByteArray) (w : World) (hs : s.size ≤ maxLen) (hL' : (Lead w ∧ U8 w) ∧ MaxOk w) :
    Calls Tryd.prog 6 #[.string s] w fun e w' => e = .returned (.bool true) ∧ Fr w w' := by
  obtain ⟨⟨hL, hU⟩, hE⟩ := hL'
  unfold maxLen at hs
  obtain ⟨M, hM⟩ : ∃ M : Nat, M = if s.size ≤ 300 then s.size else 300 := ⟨_, rfl⟩
  have hm1 : min (s.size : Int) 300 = (M : Int) := by rw [hM]; split <;> omega
  have hM1 : (M : Int) ≤ (s.size : Int) := by rw [hM]; split <;> omega
  have hM2 : M ≤ 300 := by rw [hM]; split <;> omega
  have za := cut_size s M (by omega)
  clear hM
  obtain ⟨A, hA⟩ : ∃ A, s.extract 0 M = A := ⟨_, rfl⟩
  rw [hA] at za
  subst za
  have HL := hide hL
  have HE := hide hE
  have HU := hide hU
  clear hL hE hU
  have zA := ints_length A
  have HW := hide (fun w hL hE => wakes_any w hL hE)
  have HT := hide (fun w hL hE => tokAll_any A w hL hE (by unfold maxLen; omega))
  rw [answer_small _ (by omega)] at HT
  have HB := hide (back_facts (ints_range A) (by omega))
  obtain ⟨T, m, r, hT⟩ : ∃ T m r, tall (ints A) = (T, m, r) := ⟨_, _, _, rfl⟩
  rw [hT] at HT HB
  simp only at HB
  clear hT
  rw [zA] at HB
  clear zA
  go_enter Tryd.func6, Tryd.ntmps6
  go_wp2_with fail
  refine (HT.out _ HL.out HE.out).mono ?_
  rintro e w1 ⟨f1, v1, rfl, o1⟩
  obtain ⟨a1, c1, rfl⟩ := own_form o1
  have F1 := hide f1
  have O1 := hide o1
  clear o1 f1 HT
  by_cases c1 : r = 0
  · subst c1
    obtain ⟨b1, b2, b3, b4, b5, b6⟩ := HB.out rfl
    subst b1
    have B2 := hide b2
    have B3 := hide b3
    have B4 := hide b4
    have B6 := hide b6
    have b7 := map_len b3
    have zA := ints_length A
    rw [zA] at b7
    simp only at *
    generalize hP : T.length = P at *
    have HP := hide hP
    have bP : P ≤ 300 := by omega
    clear b2 b3 b4 b6 HB hP
    go_wp2_with fail
    go_loopw [6, 30] (fun tv i wr => ∃ k : Nat, k ≤ P ∧ i = .int .i64 k ∧ tv = .string (strOfNums (codesL (T.take k))) ∧ Hid (Fr w1 wr)) (fun _ i _ => P - (intOf i).toNat)
    case atStart => exact ⟨0, by omega, rfl, rfl, Fr.refl _⟩
    case round =>
      obtain ⟨k, hk, rfl, rfl, HF⟩ := hrel
      by_cases hlt : k < P
      · obtain ⟨x, hx⟩ : ∃ x, T[k]? = some x := ⟨_, List.getElem?_eq_getElem (by rw [HP.out]; exact hlt)⟩
        obtain ⟨g1, rfl, _, _, q1⟩ := own_cellsM O1.out (by omega)
        obtain ⟨u0, u1, u2, u3⟩ := q1 k x hx
        obtain ⟨d1, d2, d3, d4, d5⟩ := B6.out k x hx
        have hnext := codesL_next T k x hx
        have u0 := fr_cell HF.out u0
        have u1 := fr_cell HF.out u1
        have u2 := fr_cell HF.out u2
        have u3 := fr_cell HF.out u3
        obtain ⟨xk, xt, xc, xp⟩ := x
        simp only at u0 u1 u2 u3 d1 d2 d3 d4 hnext
        have HC := hide (fun w hL hE => code_any xk (strOfNums xt) xc xp w hL hE (by have := ints_length (strOfNums xt); rw [ints_nums _ d3] at this; unfold maxLen; omega))
        rw [ints_nums _ d3] at HC
        have hQr : Rg (codesL (T.take (k + 1))) := fun y hy => B2.out y (by
          rw [← List.take_append_drop (k + 1) T]
          unfold codesL at hy ⊢
          rw [List.flatMap_append]
          exact List.mem_append_left _ hy)
        have hX : (strOfNums (codesL (T.take k))).size = xp := by
          have := ints_length (strOfNums (codesL (T.take k)))
          rw [ints_nums _ (fun y hy => hQr y (by rw [hnext]; exact List.mem_append_left _ hy))] at this
          omega
        have hY : (strOfNums (codeL xk xt xc)).size ≤ 300 ∧ (strOfNums (codeL xk xt xc)).toList.isEmpty = false ∧ xp + (strOfNums (codeL xk xt xc)).size ≤ 300 := by
          have h1 := ints_length (strOfNums (codeL xk xt xc))
          rw [ints_nums _ (fun y hy => hQr y (by rw [hnext]; exact List.mem_append_right _ hy))] at h1
          rw [hnext, List.length_append] at d5
          have h2 : (codeL xk xt xc).length ≠ 0 := fun h => d2 (List.eq_nil_of_length_eq_zero h)
          refine ⟨by omega, ?_, by omega⟩
          rw [Lib.toList_data]
          have h3 := Lib.size_eq (strOfNums (codeL xk xt xc))
          cases hl : (strOfNums (codeL xk xt xc)).data.toList with
          | nil => rw [hl, List.length_nil] at h3; omega
          | cons _ _ => rfl
        have HN : Hid (strOfNums (codesL (T.take k)) ++ strOfNums (codeL xk xt xc) = strOfNums (codesL (T.take (k + 1)))) := by
          refine hide (str_of ?_)
          rw [ints_append, ints_nums _ (fun y hy => hQr y (by rw [hnext]; exact List.mem_append_left _ hy)), ints_nums _ (fun y hy => hQr y (by rw [hnext]; exact List.mem_append_right _ hy)), hnext]
        obtain ⟨y1, y2, y3⟩ := hY
        generalize strOfNums xt = xs at *
        generalize strOfNums (codeL xk xt xc) = Y at *
        generalize strOfNums (codesL (T.take k)) = X at *
        have hq : ((xp : Int) != (X.size : Int)) = false := by rw [hX]; simp
        clear q1 hx hnext hQr d1 d2 d3 d4 d5
        go_wp2_with fail
        refine (HC.out _ (HL.out.fr (F1.out.trans (HF.out.trans (Fr.alloc _ _)))) (HE.out.fr (F1.out.trans (HF.out.trans (Fr.alloc _ _))))).mono ?_
        rintro e w2 ⟨rfl, f2⟩
        obtain ⟨r0, r1, r2, r3⟩ := four_cells f2
        have F2 := hide (HF.out.trans ((Fr.alloc _ _).trans f2))
        go_wp2_with fail
        go_roundw
        case rel => exact ⟨k + 1, by omega, by go_num, by rw [HN.out], F2⟩
        case measure => simp [intOf]; omega
      · have hkP : k = P := by omega
        subst hkP
        have hTk : T.take k = T := List.take_of_length_le (by rw [HP.out]; exact Nat.le_refl _)
        rw [hTk]
        have zC : (strOfNums (codesL T)).size = A.size := by
          have := ints_length (strOfNums (codesL T))
          rw [ints_nums _ B2.out] at this
          omega
        have HT2 := hide (fun w hL hE => tokAll_any (strOfNums (codesL T)) w hL hE (by unfold maxLen; omega))
        rw [ints_nums _ B2.out, answer_small _ (by omega), B4.out] at HT2
        have HFo := hide (fun w hU => fold_any A (strOfNums (codesL T)) w hU (by omega) zC.symm (fun j => low_get (by rw [ints_nums _ B2.out]; exact B3.out.symm) j))
        generalize strOfNums (codesL T) = C at *
        have F2 := hide (F1.out.trans HF.out)
        have O2 := hide (own_fr O1.out HF.out)
        simp only at HT2
        clear HF O1 F1
        go_wp2_with fail
        refine (HT2.out _ (HL.out.fr F2.out) (HE.out.fr F2.out)).mono ?_
        rintro e w3 ⟨f3, v3, rfl, o3⟩
        obtain ⟨a3, c3, rfl⟩ := own_form o3
        have F3 := hide (F2.out.trans f3)
        have O2b := hide (own_fr O2.out f3)
        have O3 := hide o3
        clear o3 F2 O2 f3
        rw [HP.out] at O3 ⊢
        go_wp2_with fail
        refine (HW.out _ (HL.out.fr F3.out) (HE.out.fr F3.out)).mono ?_
        rintro e w4 ⟨rfl, f4⟩
        have F4 := hide (F3.out.trans f4)
        have O2c := hide (own_fr O2b.out f4)
        have O3b := hide (own_fr O3.out f4)
        clear O2b O3 f4 F3
        go_wp2_with fail
        refine (HFo.out _ (HU.out.fr F4.out)).mono ?_
        rintro e w5 ⟨rfl, f5⟩
        have F5 := hide (F4.out.trans f5)
        have O2d := hide (own_fr O2c.out f5)
        have O3c := hide (own_fr O3b.out f5)
        clear O2c O3b f5 F4
        go_wp2_with fail
        obtain ⟨V, hV⟩ : ∃ V, V = w5 := ⟨_, rfl⟩
        subst hV
        go_loopw [89] (fun i wr => ∃ j : Nat, j ≤ k ∧ i = .int .i64 j ∧ Hid (Fr V wr)) (fun i _ => k - (intOf i).toNat)
        case atStart => exact ⟨0, by omega, rfl, Fr.refl _⟩
        case round =>
          obtain ⟨j, hj, rfl, HF⟩ := hrel
          by_cases hlt2 : j < k
          · obtain ⟨x, hx⟩ : ∃ x, T[j]? = some x := ⟨_, List.getElem?_eq_getElem (by rw [HP.out]; exact hlt2)⟩
            obtain ⟨g1, rfl, _, _, q1⟩ := own_cellsM O2d.out (by omega)
            obtain ⟨g3, rfl, _, _, q3⟩ := own_cellsM O3c.out (by omega)
            obtain ⟨u0, u1, u2, u3⟩ := q1 j x hx
            obtain ⟨y0, y1, y2, y3⟩ := q3 j x hx
            have u0 := fr_cell HF.out u0
            have u1 := fr_cell HF.out u1
            have u2 := fr_cell HF.out u2
            have u3 := fr_cell HF.out u3
            have y0 := fr_cell HF.out y0
            have y1 := fr_cell HF.out y1
            have y2 := fr_cell HF.out y2
            have y3 := fr_cell HF.out y3
            obtain ⟨xk, xt, xc, xp⟩ := x
            simp only at u0 u1 u2 u3 y0 y1 y2 y3
            generalize strOfNums xt = xs at *
            have HEQ := fun w => eqIn_tok w xk xc xp xk xc xp xs xs
            simp only [and_self, decide_true] at HEQ
            clear q1 q3 hx
            go_wp2_with fail
            go_quiet (fail)
            go_wp2_with fail
            go_roundw
            case rel => exact ⟨j + 1, by omega, by go_num, hide (HF.out.trans (Fr.drewN _ _))⟩
            case measure => simp [intOf]; omega
          · go_wp2_with fail
            go_ret
            exact ⟨rfl, F5.out.trans HF.out⟩
  · have c1' : (r == 0) = false := by simpa using c1
    go_wp2_with fail
    refine (HW.out _ (HL.out.fr F1.out) (HE.out.fr F1.out)).mono ?_
    rintro e w2 ⟨rfl, f2⟩
    go_wp2_with fail
    go_ret
    exact ⟨rfl, F1.out.trans f2⟩
end Go.Proofs.YtaokmegoheofjaaDoor
