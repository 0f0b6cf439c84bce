/- The law TokenWrong. -/
import Derived.Test.YtaokmegoheofjaaDoorTokY
namespace Go.Proofs.YtaokmegoheofjaaDoor
set_option linter.unusedVariables false
set_option linter.unusedSimpArgs false
open Go.RowKit

theorem or_low : ∀ c : Fin 256, ((c : Nat) ||| 32 = 97 ↔ lowB c = 97) ∧ ((c : Nat) ||| 32 = 103 ↔ lowB c = 103) ∧ ((c : Nat) ||| 32 = 101 ↔ lowB c = 101) := by decide +kernel
theorem or_low' (c : Int) (h0 : 0 ≤ c) (h1 : c ≤ 255) : ∃ v : Int, bits .or .u8 c 32 = v ∧ (lowB c = 97 → v = 97) ∧ (lowB c = 103 → v = 103) ∧ (lowB c = 101 → v = 101) := by
  have h := or_low ⟨c.toNat, by omega⟩
  have hb := Go.u8_or_nat c.toNat 32 (by omega) (by omega)
  rw [show ((c.toNat : Nat) : Int) = c by omega] at hb
  rw [show (((⟨c.toNat, by omega⟩ : Fin 256) : Nat) : Int) = c by simp; omega] at h
  refine ⟨_, hb, fun hh => ?_, fun hh => ?_, fun hh => ?_⟩
  · have := h.1.2 hh; simp only at this; omega
  · have := h.2.1.2 hh; simp only at this; omega
  · have := h.2.2.2 hh; simp only at this; omega

/-- The ends that the law tries. -/
def endsL : List ByteArray := [⟨#[]⟩, ⟨#[34]⟩, ⟨#[120]⟩, ⟨#[93]⟩]
theorem ends_size (k : Nat) (d : ByteArray) (h : endsL[k]? = some d) : d.size ≤ 1 := by
  match k, h with
  | 0, h => simp [endsL] at h; subst h; decide
  | 1, h => simp [endsL] at h; subst h; decide
  | 2, h => simp [endsL] at h; subst h; decide
  | 3, h => simp [endsL] at h; subst h; decide
  | k + 4, h => simp [endsL] at h
theorem ends_of (l : List Int) (h : l = [] ∨ l = [34] ∨ l = [120] ∨ l = [93]) : ∃ k d, k < 4 ∧ endsL[k]? = some d ∧ ints d = l := by
  rcases h with rfl | rfl | rfl | rfl
  · exact ⟨0, _, by omega, rfl, rfl⟩
  · exact ⟨1, _, by omega, rfl, rfl⟩
  · exact ⟨2, _, by omega, rfl, rfl⟩
  · exact ⟨3, _, by omega, rfl, rfl⟩

attribute [local go_sem] World.cell?_alloc_some
set_option maxHeartbeats 4000000 in
set_option maxRecDepth 4000 in
theorem law_TokenWrong (s t : ByteArray) (w : World) (hs : s.size ≤ maxLen) (ht : t.size ≤ maxLen) (hL' : Lead w ∧ MaxOk w) :
    Calls Tryd.prog 7 #[.string s, .string t] w fun e w' => e = .returned (.bool true) ∧ Fr w w' := by
  obtain ⟨hL, hE⟩ := hL'
  unfold maxLen at hs ht
  obtain ⟨M, hM⟩ : ∃ M : Nat, M = if s.size ≤ 200 then s.size else 200 := ⟨_, rfl⟩
  obtain ⟨N, hN⟩ : ∃ N : Nat, N = if t.size ≤ 20 then t.size else 20 := ⟨_, rfl⟩
  have hm1 : min (s.size : Int) 200 = (M : Int) := by rw [hM]; split <;> omega
  have hm2 : min (t.size : Int) 20 = (N : Int) := by rw [hN]; split <;> omega
  have hM1 : (M : Int) ≤ (s.size : Int) := by rw [hM]; split <;> omega
  have hN1 : (N : Int) ≤ (t.size : Int) := by rw [hN]; split <;> omega
  have hM2 : M ≤ 200 := by rw [hM]; split <;> omega
  have hN2 : N ≤ 20 := by rw [hN]; split <;> omega
  have za := cut_size s M (by omega)
  have zb := cut_size t N (by omega)
  clear hM hN
  have HL := hide hL
  have HE := hide hE
  clear hL hE
  go_enter Tryd.func7, Tryd.ntmps7
  go_wp2_with fail
  refine wp_region_held_drew (S := (fun w' => Hid (Fr w w'))) (by kernel_rfl) ?_ (fun hHeld => ?_)
  · exact hide (Fr.drew _)
  refine wpAnyH_take (i := 0) (v := ?_) rfl (by kernel_rfl) (by kernel_rfl) (by kernel_rfl) (fun _ _ _ h => h) (Or.inl ⟨by rfl, ?_⟩) (by assumption) ?_
  rotate_left
  · (intro w hSw; (try dsimp only at hSw); go_simp; try with_reducible rfl)
  (try simp only [Act.put, List.getElem_toArray, List.getElem_cons_zero, List.getElem_cons_succ, List.setIfInBounds_toArray, List.set_cons_zero, List.set_cons_succ])
  refine wpAnyH_take (i := 1) (v := ?_) rfl (by kernel_rfl) (by kernel_rfl) (by kernel_rfl) (fun _ _ _ h => h) (Or.inl ⟨by rfl, ?_⟩) (by assumption) ?_
  rotate_left
  · (intro w hSw; (try dsimp only at hSw); go_simp; try with_reducible rfl)
  (try simp only [Act.put, List.getElem_toArray, List.getElem_cons_zero, List.getElem_cons_succ, List.setIfInBounds_toArray, List.set_cons_zero, List.set_cons_succ])
  refine wpAnyH_take (i := 2) (v := ?_) rfl (by kernel_rfl) (by kernel_rfl) (by kernel_rfl) (fun _ _ _ h => h) (Or.inl ⟨by rfl, ?_⟩) (by assumption) ?_
  rotate_left
  · (intro w hSw; (try dsimp only at hSw); go_simp; try with_reducible rfl)
  (try simp only [Act.put, List.getElem_toArray, List.getElem_cons_zero, List.getElem_cons_succ, List.setIfInBounds_toArray, List.set_cons_zero, List.set_cons_succ])
  refine wpAnyH_take (i := 3) (v := ?_) rfl (by kernel_rfl) (by kernel_rfl) (by kernel_rfl) (fun _ _ _ h => h) (Or.inl ⟨by rfl, ?_⟩) (by assumption) ?_
  rotate_left
  · (intro w hSw; (try dsimp only at hSw); go_simp; try with_reducible rfl)
  (try simp only [Act.put, List.getElem_toArray, List.getElem_cons_zero, List.getElem_cons_succ, List.setIfInBounds_toArray, List.set_cons_zero, List.set_cons_succ])
  refine wpAnyH_take (i := 4) (v := ?_) rfl (by kernel_rfl) (by kernel_rfl) (by kernel_rfl) (fun _ _ _ h => h) (Or.inl ⟨by rfl, ?_⟩) (by assumption) ?_
  rotate_left
  · (intro w hSw; (try dsimp only at hSw); go_simp; try with_reducible rfl)
  (try simp only [Act.put, List.getElem_toArray, List.getElem_cons_zero, List.getElem_cons_succ, List.setIfInBounds_toArray, List.set_cons_zero, List.set_cons_succ])
  refine wpAnyH_take (i := 5) (v := ?_) rfl (by kernel_rfl) (by kernel_rfl) (by kernel_rfl) (fun _ _ _ h => h) (Or.inl ⟨by rfl, ?_⟩) (by assumption) ?_
  rotate_left
  · (intro w hSw; (try dsimp only at hSw); go_simp; try with_reducible rfl)
  (try simp only [Act.put, List.getElem_toArray, List.getElem_cons_zero, List.getElem_cons_succ, List.setIfInBounds_toArray, List.set_cons_zero, List.set_cons_succ])
  refine wpAnyH_take (i := 6) (v := ?_) rfl (by kernel_rfl) (by kernel_rfl) (by kernel_rfl) (fun _ _ _ h => h) (Or.inl ⟨by rfl, ?_⟩) (by assumption) ?_
  rotate_left
  · (intro w hSw; (try dsimp only at hSw); go_simp; try with_reducible rfl)
  (try simp only [Act.put, List.getElem_toArray, List.getElem_cons_zero, List.getElem_cons_succ, List.setIfInBounds_toArray, List.set_cons_zero, List.set_cons_succ])
  refine wpAnyH_take (i := 7) (v := ?_) rfl (by kernel_rfl) (by kernel_rfl) (by kernel_rfl) (fun _ _ _ h => h) (Or.inl ⟨by rfl, ?_⟩) (by assumption) ?_
  rotate_left
  · (intro w hSw; (try dsimp only at hSw); go_simp; try with_reducible rfl)
  (try simp only [Act.put, List.getElem_toArray, List.getElem_cons_zero, List.getElem_cons_succ, List.setIfInBounds_toArray, List.set_cons_zero, List.set_cons_succ])
  refine wpAnyH_take (i := 8) (v := ?_) rfl (by kernel_rfl) (by kernel_rfl) (by kernel_rfl) (fun _ _ _ h => h) (Or.inl ⟨by rfl, ?_⟩) (by assumption) ?_
  rotate_left
  · (intro w hSw; (try dsimp only at hSw); go_simp; try with_reducible rfl)
  (try simp only [Act.put, List.getElem_toArray, List.getElem_cons_zero, List.getElem_cons_succ, List.setIfInBounds_toArray, List.set_cons_zero, List.set_cons_succ])
  refine wpAnyH_take (i := 9) (v := ?_) rfl (by kernel_rfl) (by kernel_rfl) (by kernel_rfl) (fun _ _ _ h => h) (Or.inl ⟨by rfl, ?_⟩) (by assumption) ?_
  rotate_left
  · (intro w hSw; (try dsimp only at hSw); go_simp; try with_reducible rfl)
  (try simp only [Act.put, List.getElem_toArray, List.getElem_cons_zero, List.getElem_cons_succ, List.setIfInBounds_toArray, List.set_cons_zero, List.set_cons_succ])
  refine wpAnyH_take (i := 10) (v := ?_) rfl (by kernel_rfl) (by kernel_rfl) (by kernel_rfl) (fun _ _ _ h => h) (Or.inl ⟨by rfl, ?_⟩) (by assumption) ?_
  rotate_left
  · (intro w hSw; (try dsimp only at hSw); go_simp; try with_reducible rfl)
  (try simp only [Act.put, List.getElem_toArray, List.getElem_cons_zero, List.getElem_cons_succ, List.setIfInBounds_toArray, List.set_cons_zero, List.set_cons_succ])
  refine wpAnyH_take (i := 11) (v := ?_) rfl (by kernel_rfl) (by kernel_rfl) (by kernel_rfl) (fun _ _ _ h => h) (Or.inl ⟨by rfl, ?_⟩) (by assumption) ?_
  rotate_left
  · (intro w hSw; (try dsimp only at hSw); go_simp; try with_reducible rfl)
  (try simp only [Act.put, List.getElem_toArray, List.getElem_cons_zero, List.getElem_cons_succ, List.setIfInBounds_toArray, List.set_cons_zero, List.set_cons_succ])
  refine wpAnyH_done (by kernel_rfl) ?_ _
  generalize s.extract 0 M = A at *
  generalize t.extract 0 N = B at *
  have f0 := hide (Fr.drew w)
  generalize w.drew = w0 at *
  clear hm1 hm2 hM1 hN1
  subst za zb
  have HA := hide (fun (X : ByteArray) (hX : X.size ≤ 4096) w hL hE => by have := tokAll_any X w hL hE (by unfold maxLen; omega); rw [answer_small _ (by rw [ints_length]; omega)] at this; exact this)
  have HW := hide (fun w hL hE => wakes_any w hL hE)
  have zA := ints_length A
  have b1 := tall_len (ints_range A)
  rw [zA] at b1
  have HWR := hide (wrong_ahead (ints_range A))
  have HOK : Hid ((tall (ints A)).2.2 = 0 → (tall (ints A)).2.1 = A.size) := hide (fun h => by rw [← zA]; exact (reach_semi (l2 := []) (ints_range A) h).2)
  have ha := HA.out A (by omega)
  obtain ⟨T1, n1, e1, h1⟩ : ∃ T1 n1 e1, tall (ints A) = (T1, n1, e1) := ⟨_, _, _, rfl⟩
  rw [h1] at ha b1 HWR HOK
  rw [zA] at HWR
  simp only at b1
  have hA := hide ha
  clear ha h1
  go_wp2_with fail
  refine (hA.out _ (HL.out.fr f0.out) (HE.out.fr f0.out)).mono ?_
  rintro e w1 ⟨f1, v1, rfl, o1⟩
  obtain ⟨a1, c1, rfl⟩ := own_form o1
  have F1 := hide (f0.out.trans f1)
  clear o1 f0 f1 hA
  by_cases c0 : e1 = 0
  · subst c0
    have hn := HOK.out rfl
    subst hn
    go_wp2_with fail
    refine (HW.out _ (HL.out.fr F1.out) (HE.out.fr F1.out)).mono ?_
    rintro e w2 ⟨rfl, f2⟩
    go_wp2_with fail
    go_ret
    exact ⟨rfl, F1.out.trans f2⟩
  have c0' : (e1 == 0) = false := by simpa using c0
  obtain ⟨hle, hcases⟩ := HWR.out c0
  have HC := hide hcases
  clear hcases HWR HOK c0
  -- what stands ahead
  have hpz : (A.extract 0 n1).size = n1 := cut_size A n1 hle
  have hpi : ints (A.extract 0 n1) = (ints A).take n1 := ints_ext0 A n1
  generalize hP : A.extract 0 n1 = P at *
  have HP := hide hP
  have HPI := hide hpi
  clear hpi
  go_wp2_with fail
  obtain ⟨V, hV⟩ : ∃ V, V = w1.alloc (Obj.cells #[Value.string ⟨#[]⟩, Value.string ⟨#[34]⟩, Value.string ⟨#[120]⟩, Value.string ⟨#[93]⟩] 9) := ⟨_, rfl⟩
  have CE : Hid (∀ k d, endsL[k]? = some d → V.cell? ⟨w1.heap.size, k, none⟩ = some (.string d)) := by
    refine hide fun k d h => ?_
    rw [hV]
    match k, h with
    | 0, h => simp [endsL] at h; subst h; simp [go_sem]
    | 1, h => simp [endsL] at h; subst h; simp [go_sem]
    | 2, h => simp [endsL] at h; subst h; simp [go_sem]
    | 3, h => simp [endsL] at h; subst h; simp [go_sem]
    | k + 4, h => simp [endsL] at h
  have FV : Hid (Fr w V) := hide (F1.out.trans (by rw [hV]; exact Fr.alloc _ _))
  rw [← hV]
  generalize w1.heap.size = G at *
  clear hV F1
  have hge : decide (A.size < n1) = false := decide_eq_false (by omega)
  have hneg : decide ((n1 : Int) < 0) = false := decide_eq_false (by omega)
  simp only [hneg, hge, Bool.false_or]
  clear hneg hge
  go_loopw [9, 56] (fun b i wr => ∃ (k : Nat) (x : Bool), k ≤ 4 ∧ i = .int .i64 k ∧ b = .bool x ∧ Hid (∀ j d, j < k → endsL[j]? = some d → (tall (ints P ++ ints d)).2.2 = 0 → x = true) ∧ Hid (Fr V wr)) (fun _ i _ => 4 - (intOf i).toNat)
  case atStart => exact ⟨0, false, by omega, rfl, rfl, hide (fun j d h => by omega), Fr.refl _⟩
  case round =>
    obtain ⟨k, x, hk, rfl, rfl, HX, HF⟩ := hrel
    by_cases hlt : k < 4
    · obtain ⟨d, hd⟩ : ∃ d, endsL[k]? = some d := ⟨_, List.getElem?_eq_getElem hlt⟩
      have hdz := ends_size k d hd
      have hcell := fr_cell HF.out (CE.out k d hd)
      have HD := hide hd
      have hpd : (P ++ d).size = P.size + d.size := ByteArray.size_append
      have hT := HA.out (P ++ d) (by omega)
      rw [ints_append] at hT
      obtain ⟨T2, n2, e2, h2⟩ : ∃ T2 n2 e2, tall (ints P ++ ints d) = (T2, n2, e2) := ⟨_, _, _, rfl⟩
      rw [h2] at hT
      have H2 : Hid ((tall (ints P ++ ints d)).2.2 = e2) := hide (by rw [h2])
      have HT := hide hT
      clear hT h2 hd
      have hi4 : (k : Int) < 4 := by omega
      cases x with
      | true =>
        go_wp2_with fail
        refine (HT.out _ (HL.out.fr (FV.out.trans HF.out)) (HE.out.fr (FV.out.trans HF.out))).mono ?_
        rintro e w3 ⟨f3, v3, rfl, o3⟩
        obtain ⟨a3, c3, rfl⟩ := own_form o3
        clear o3
        go_wp2_with fail
        go_roundw
        case rel =>
          exact ⟨k + 1, true, by omega, by go_num, rfl, hide (fun _ _ _ _ _ => rfl), hide (HF.out.trans f3)⟩
        case measure => simp [intOf]; omega
      | false =>
        by_cases h0 : e2 = 0
        · subst h0
          go_wp2_with fail
          refine (HT.out _ (HL.out.fr (FV.out.trans HF.out)) (HE.out.fr (FV.out.trans HF.out))).mono ?_
          rintro e w3 ⟨f3, v3, rfl, o3⟩
          obtain ⟨a3, c3, rfl⟩ := own_form o3
          clear o3
          go_wp2_with fail
          go_roundw
          case rel =>
            exact ⟨k + 1, true, by omega, by go_num, rfl, hide (fun _ _ _ _ _ => rfl), hide (HF.out.trans f3)⟩
          case measure => simp [intOf]; omega
        · have h0' : (e2 == 0) = false := by simpa using h0
          go_wp2_with fail
          refine (HT.out _ (HL.out.fr (FV.out.trans HF.out)) (HE.out.fr (FV.out.trans HF.out))).mono ?_
          rintro e w3 ⟨f3, v3, rfl, o3⟩
          obtain ⟨a3, c3, rfl⟩ := own_form o3
          clear o3
          go_wp2_with fail
          go_roundw
          case rel =>
            refine ⟨k + 1, false, by omega, by go_num, rfl, hide (fun j d' hj hjd hz => ?_), hide (HF.out.trans f3)⟩
            by_cases hjk : j = k
            · subst hjk
              rw [HD.out] at hjd
              cases hjd
              rw [H2.out] at hz
              exact absurd hz h0
            · exact HX.out j d' (by omega) hjd hz
          case measure => simp [intOf]; omega
    · have FW := hide (FV.out.trans HF.out)
      have hk4 : k = 4 := by omega
      subst hk4
      have HEND : Hid (e1 ≠ 4 → x = true) := by
        refine hide fun h4 => ?_
        rcases HC.out with ⟨h, _⟩ | ⟨_, end', h1, h2, _⟩
        · exact absurd h h4
        · obtain ⟨j, d, hj, hd, hi⟩ := ends_of end' h1
          refine HX.out j d hj hd ?_
          rw [hi, HPI.out]
          exact h2
      by_cases hat : n1 = A.size
      · have hx := HEND.out (by rcases HC.out with ⟨_, h⟩ | ⟨h, _⟩ <;> first | omega | exact h)
        subst hx
        subst hat
        clear HC HEND HX HPI HP CE HA
        go_wp2_with fail
        refine (HW.out _ (HL.out.fr FW.out) (HE.out.fr FW.out)).mono ?_
        rintro e w3 ⟨rfl, f3⟩
        go_wp2_with fail
        go_ret
        exact ⟨rfl, FW.out.trans f3⟩
      · have hlt' : n1 < A.size := by omega
        have hz1 : (A.extract 0 (n1 + 1)).size = n1 + 1 := cut_size A (n1 + 1) (by omega)
        have hi1 : ints (A.extract 0 (n1 + 1)) = (ints A).take (n1 + 1) := ints_ext0 A (n1 + 1)
        have HQ := hide (HA.out (A.extract 0 (n1 + 1) ++ B) (by rw [ByteArray.size_append]; omega))
        rw [ints_append, hi1] at HQ
        obtain ⟨T2, n2, e2, h2⟩ : ∃ T2 n2 e2, tall ((ints A).take (n1 + 1) ++ ints B) = (T2, n2, e2) := ⟨_, _, _, rfl⟩
        rw [h2] at HQ
        have qc := bt_at A n1 hlt'
        have rc := bt_range A n1 hlt'
        obtain ⟨ov, hov, o1, o2, o3⟩ := or_low' _ rc.1 rc.2
        have HFIN : Hid (e1 = 4 ∨ (x = true ∧ (e2 ≠ 0 ∨ ov = 97 ∨ ov = 103 ∨ ov = 101))) := by
          refine hide ?_
          rcases HC.out with ⟨h, _⟩ | ⟨h4, end', h1, h3, h5⟩
          · exact .inl h
          · refine .inr ⟨HEND.out h4, ?_⟩
            rcases h5 with h5 | ⟨_, h5⟩
            · exact absurd h5 hat
            · rcases h5 (bt A n1) _ (drop_bt A n1 hlt') with h | h | h | h
              · exact .inr (.inl (o1 h))
              · exact .inr (.inr (.inl (o2 h)))
              · exact .inr (.inr (.inr (o3 h)))
              · have := h (ints B) (ints_range B)
                rw [h2] at this
                exact .inl this
        have hsz2 : ((n1 + 1 : Nat) : Int) ≤ (A.size : Int) := by omega
        generalize hP2 : A.extract 0 (n1 + 1) = P2 at *
        have HP2 := hide hP2
        generalize bt A n1 = c at *
        clear HC HEND HX HPI HA h2 o1 o2 o3 hi1 CE
        go_wp2_with fail
        refine (HQ.out _ (HL.out.fr FW.out) (HE.out.fr FW.out)).mono ?_
        rintro e w3 ⟨f3, v3, rfl, o3⟩
        obtain ⟨a3, c3, rfl⟩ := own_form o3
        have FZ := hide (FW.out.trans f3)
        clear o3 f3
        go_wp2_with fail
        refine (HW.out _ (HL.out.fr FZ.out) (HE.out.fr FZ.out)).mono ?_
        rintro e w4 ⟨rfl, f4⟩
        have FY := hide (FZ.out.trans f4)
        clear f4
        by_cases g0 : e2 = 0
        · subst g0
          rcases HFIN.out with h4 | ⟨hx, h | h | h | h⟩
          · subst h4
            cases x <;> (go_wp2_with fail; go_ret; exact ⟨rfl, FY.out⟩)
          · exact absurd rfl h
          all_goals (
            subst hx
            subst h
            by_cases h4 : e1 = 4
            · subst h4
              go_wp2_with fail
              go_ret
              exact ⟨rfl, FY.out⟩
            · have h4' : (e1 == 4) = false := by simpa using h4
              go_wp2_with fail
              go_ret
              exact ⟨rfl, FY.out⟩)
        · have g0' : (e2 == 0) = false := by simpa using g0
          by_cases h4 : e1 = 4
          · subst h4
            cases x <;> (go_wp2_with fail; go_ret; exact ⟨rfl, FY.out⟩)
          · have hx : x = true := by rcases HFIN.out with h | ⟨h, _⟩; exact absurd h h4; exact h
            subst hx
            have h4' : (e1 == 4) = false := by simpa using h4
            go_wp2_with fail
            go_ret
            exact ⟨rfl, FY.out⟩
end Go.Proofs.YtaokmegoheofjaaDoor
