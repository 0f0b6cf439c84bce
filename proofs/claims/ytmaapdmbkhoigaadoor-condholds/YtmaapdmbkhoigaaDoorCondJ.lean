/- Layer 13, the document's: Parse. -/
import Derived.Test.YtmaapdmbkhoigaaDoorCondI
namespace Go.Proofs.YtmaapdmbkhoigaaDoor
set_option linter.unusedVariables false
set_option linter.unusedSimpArgs false
open Go.RowKit
open Go.Lib (hasPrefix trimPrefix trimLeftB trimRightB)

theorem neD_at (L : List UInt8) : ((bs L).size = 0 ∧ neD L = false) ∨ (0 < (bs L).size ∧ ∃ z : Int, (∀ h : 0 < (bs L).size, (((bs L)[0]'h).toNat : Int) = z) ∧ neD L = decide (z = 45)) := by
  cases L with
  | nil => exact .inl ⟨rfl, rfl⟩
  | cons a r =>
    refine .inr ⟨by rw [bs_size]; simp, (a.toNat : Int), fun h => rfl, ?_⟩
    unfold neD
    by_cases h : a = 45
    · subst h; rfl
    · have h' : ¬ (a.toNat : Int) = 45 := fun e => h (UInt8.toNat_inj.1 (by show a.toNat = 45; omega))
      rw [decide_eq_false h']
      simpa using h
theorem szD_at (L : List UInt8) : (neD L = true → 1 ≤ (bs L).size ∧ (bs L).extract 1 (bs L).size = bs (szD L)) ∧ (neD L = false → bs (szD L) = bs L) := by
  refine ⟨fun h => ?_, fun h => by unfold szD; rw [h]; rfl⟩
  cases L with
  | nil => simp [neD] at h
  | cons a r =>
    refine ⟨by rw [bs_size]; simp, ?_⟩
    rw [bs_from _ _ _ (bs_size _)]
    unfold szD
    rw [if_pos h]
    rfl

theorem dot_at (L : List UInt8) : (∀ k, (∀ j, j < k → (bs (szD L)).data.toList[j]? ≠ some 46) → (bs (szD L)).data.toList[k]? = some 46 → (bs (szD L)).extract 0 k = bs (whD L) ∧ (bs (szD L)).extract (k + 1) (bs (szD L)).size = bs (pvD L)) ∧ ((∀ j, j < (bs (szD L)).size → (bs (szD L)).data.toList[j]? ≠ some 46) → bs (whD L) = bs (szD L) ∧ bs (pvD L) = bs [48]) := by
  rw [bs_data, bs_size]
  unfold pvD poD paD whD
  generalize szD L = m
  have tw : ∀ (m : List UInt8) (k : Nat), (∀ j, j < k → m[j]? ≠ some 46) → k ≤ m.length → (m.take k).takeWhile (fun x => x != 46) = m.take k := by
    intro m
    induction m with
    | nil => intro k _ _; simp
    | cons a m ih =>
      intro k h hk
      cases k with
      | zero => rfl
      | succ k =>
        have h0 := h 0 (by omega)
        rw [List.take_succ_cons, List.takeWhile_cons, if_pos (by simpa using h0), ih k (fun j hj => by have := h (j + 1) (by omega); simpa using this) (by simpa using hk)]
  refine ⟨fun k h hk => ?_, fun h => ?_⟩
  · have hlt : k < m.length := (List.getElem?_eq_some_iff.1 hk).1
    have hm : m = m.take k ++ 46 :: m.drop (k + 1) := by
      conv => lhs; rw [← List.take_append_drop k m]
      rw [List.drop_eq_getElem_cons hlt]
      congr 2
      exact (List.getElem?_eq_some_iff.1 hk).2
    have e : m.takeWhile (fun x => x != 46) = m.take k := by
      conv => lhs; rw [hm]
      have hh := tw m k h (by omega)
      rw [List.takeWhile_append, hh, if_pos rfl, List.takeWhile_cons]
      simp
    rw [e, List.length_take, Nat.min_eq_left (by omega), if_pos (by simpa using hlt), bs_upto, bs_from _ _ _ rfl]
    exact ⟨rfl, rfl⟩
  · have e : m.takeWhile (fun x => x != 46) = m := by
      have hh := tw m m.length h (Nat.le_refl _)
      rwa [List.take_length] at hh
    rw [e]
    simp

set_option maxHeartbeats 8000000 in
set_option maxRecDepth 4000 in
theorem refParse_long (a b : UInt8) (r : List UInt8) (w : World) (hl : (a :: b :: r).length ≤ 1000) :
    Calls Tryd.prog 9 #[.string (bs (a :: b :: r))] w fun e w' => e = .returned (.tuple #[cA (a :: b :: r), .bool (okD (a :: b :: r))]) ∧ Fr w w' := by
  have SG := hide (sgs_of a b r)
  have hz : (bs (a :: b :: r)).size = (a :: b :: r).length := bs_size _
  have h2 : 2 ≤ (bs (a :: b :: r)).size := by rw [hz]; simp
  have h3 : (bs (a :: b :: r)).size ≤ 1000 := by rw [hz]; exact hl
  have x2 : (bs (a :: b :: r)).extract 0 2 = bs [a, b] := bs_upto _ 2
  have x1 : (bs (a :: b :: r)).extract 0 1 = bs [a] := bs_upto _ 1
  have y2 : opD (a :: b :: r) = 2 ∨ opD (a :: b :: r) = 4 ∨ opD (a :: b :: r) = 6 → (bs (a :: b :: r)).extract 2 (bs (a :: b :: r)).size = bs (reD (a :: b :: r)) := by
    intro h; rw [bs_from _ _ _ hz]; unfold reD; rw [if_pos h]
  have y1 : ¬ (opD (a :: b :: r) = 2 ∨ opD (a :: b :: r) = 4 ∨ opD (a :: b :: r) = 6) → (bs (a :: b :: r)).extract 1 (bs (a :: b :: r)).size = bs (reD (a :: b :: r)) := by
    intro h; rw [bs_from _ _ _ hz]; unfold reD; rw [if_neg h]
  have HLn : (reD (a :: b :: r)).length ≤ 1000 := by unfold reD; rw [List.length_drop]; omega
  have Y1 := hide y1
  have Y2 := hide y2
  clear y1 y2 hz hl
  generalize a :: b :: r = l at *
  generalize bs [a] = T1 at *
  generalize bs [a, b] = T2 at *
  generalize bs l = s at *
  have i2 : (2 : Int) ≤ s.size := by omega
  have EY := hide (fun (h0 : opD l ≠ 0) (h : numOk (reD l) = true) => And.intro (cA_yes (l := l) (by unfold okD; rw [decide_eq_true h0, h]; rfl)) (show okD l = true by unfold okD; rw [decide_eq_true h0, h]; rfl))
  have EN := hide (fun (h : numOk (reD l) = false) => And.intro (cA_no (l := l) (by unfold okD; rw [h, Bool.and_false])) (show okD l = false by unfold okD; rw [h, Bool.and_false]))
  have E0 := hide (fun (h : opD l = 0) => And.intro (cA_no (l := l) (by unfold okD; rw [h]; rfl)) (show okD l = false by unfold okD; rw [h]; rfl))
  generalize reD l = L at *
  generalize opD l = o at *
  rw [numOk_pv] at EY EN
  have zL : (bs L).size ≤ 1000 := by rw [bs_size]; exact HLn
  have zS : (bs (szD L)).size ≤ 1000 := by rw [bs_size]; have := szD_le L; omega
  have zU : (bs (whD L)).size ≤ 1001 := by rw [bs_size]; have := whD_le L; omega
  have zV : (bs (pvD L)).size ≤ 1001 := by rw [bs_size]; have := pvD_le L; omega
  have HNe := hide (neD_at L)
  have HSz := hide (szD_at L)
  have HW := hide (dot_at L)
  have HRU := hide (fun w => refRun_any (whD L) w (Nat.le_trans (whD_le L) (by omega)))
  have HRV := hide (fun w => refRun_any (pvD L) w (by have := pvD_le L; omega))
  have hwt : bs (trimLeftB (bs (whD L)).data.toList 48) = bs (wD L) := by rw [bs_data]; rfl
  have hpt : bs (trimRightB (bs (pvD L)).data.toList 48) = bs (pD L) := by rw [bs_data, pD_pv]
  have HWT := hide hwt
  have HPT := hide hpt
  have HNN : Hid (nD L = (neD L && !((bs (wD L)).toList.isEmpty && (bs (pD L)).toList.isEmpty))) := by
    refine hide ?_
    unfold nD
    rw [bs_empty, bs_empty]
    cases wD L <;> rfl
  have zW : (bs (wD L)).size ≤ 1001 := by rw [bs_size]; have := trimLeft_len (whD L); have := whD_le L; unfold wD; omega
  have zP : (bs (pD L)).size ≤ 1001 := by rw [bs_size, pD_pv]; have := trimRight_le (pvD L); have := pvD_le L; omega
  clear hwt hpt HLn
  generalize runD (whD L) = ra at *
  generalize runD (pvD L) = rb at *
  generalize bs (wD L) = WB at *
  generalize bs (pD L) = PB at *
  generalize bs (whD L) = UB at *
  generalize bs (pvD L) = VB at *
  generalize bs (szD L) = S2 at *
  generalize bs L = LB at *
  generalize nD L = nn at *
  generalize neD L = g at *
  go_enter Tryd.func9, Tryd.ntmps9
  go_upto_region 4 with fail
  obtain ⟨W3, hW3⟩ : ∃ V, V = ((w.alloc (Obj.cells #[.int .i64 0, .bool false, .string ⟨#[]⟩, .string ⟨#[]⟩] 28)).alloc (Obj.cells #[.int .i64 0, .bool false, .string ⟨#[]⟩, .string ⟨#[]⟩] 28)).alloc (Obj.cells #[.int .i64 0, .bool false, .string ⟨#[]⟩, .string ⟨#[]⟩] 28) := ⟨_, rfl⟩
  have f1 := Fr.alloc w (Obj.cells #[.int .i64 0, .bool false, .string ⟨#[]⟩, .string ⟨#[]⟩] 28)
  have f2 := f1.trans (Fr.alloc _ (Obj.cells #[.int .i64 0, .bool false, .string ⟨#[]⟩, .string ⟨#[]⟩] 28))
  have F := f2.trans (Fr.alloc _ (Obj.cells #[.int .i64 0, .bool false, .string ⟨#[]⟩, .string ⟨#[]⟩] 28))
  have Qr := ((Quad.new (Fr.refl w) (.int .i64 0) (.bool false) (.string ⟨#[]⟩) (.string ⟨#[]⟩) 28).fr (Fr.alloc _ (Obj.cells #[.int .i64 0, .bool false, .string ⟨#[]⟩, .string ⟨#[]⟩] 28))).fr (Fr.alloc _ (Obj.cells #[.int .i64 0, .bool false, .string ⟨#[]⟩, .string ⟨#[]⟩] 28))
  have Qn : Quad w (((w.alloc (Obj.cells #[.int .i64 0, .bool false, .string ⟨#[]⟩, .string ⟨#[]⟩] 28)).alloc (Obj.cells #[.int .i64 0, .bool false, .string ⟨#[]⟩, .string ⟨#[]⟩] 28)).alloc (Obj.cells #[.int .i64 0, .bool false, .string ⟨#[]⟩, .string ⟨#[]⟩] 28)) (w.heap.size + 1) (.int .i64 0) (.bool false) (.string ⟨#[]⟩) (.string ⟨#[]⟩) := by simpa using (Quad.new f1 (.int .i64 0) (.bool false) (.string ⟨#[]⟩) (.string ⟨#[]⟩) 28).fr (Fr.alloc _ (Obj.cells #[.int .i64 0, .bool false, .string ⟨#[]⟩, .string ⟨#[]⟩] 28))
  have Qc : Quad w (((w.alloc (Obj.cells #[.int .i64 0, .bool false, .string ⟨#[]⟩, .string ⟨#[]⟩] 28)).alloc (Obj.cells #[.int .i64 0, .bool false, .string ⟨#[]⟩, .string ⟨#[]⟩] 28)).alloc (Obj.cells #[.int .i64 0, .bool false, .string ⟨#[]⟩, .string ⟨#[]⟩] 28)) (w.heap.size + 1 + 1) (.int .i64 0) (.bool false) (.string ⟨#[]⟩) (.string ⟨#[]⟩) := by simpa using Quad.new f2 (.int .i64 0) (.bool false) (.string ⟨#[]⟩) (.string ⟨#[]⟩) 28
  rw [← hW3] at Qr Qn Qc F ⊢
  clear hW3 f1 f2
  have F := hide F
  have Qr := hide Qr
  have Qn := hide Qn
  have Qc := hide Qc
  go_upto_region 7 with fail
  go_cut [31] (fun s31 wx => s31 = .bool (decide (o = 2 ∨ o = 4 ∨ o = 6)) ∧ W3 = wx)
  case first => as_aux_lemma =>
    obtain ⟨_, t2, t4, t6, _, _, _, _, _, _, _, _, _⟩ := SG.out
    have ho : o = 2 ∨ o = 4 ∨ o = 6 ∨ (¬ o = 2 ∧ ¬ o = 4 ∧ ¬ o = 6) := by omega
    rcases ho with rfl | rfl | rfl | ⟨h2, h4, h6⟩
    · rw [decide_eq_true rfl] at t2
      go_wp2_with fail
      go_meet
      exact ⟨rfl, rfl⟩
    · rw [decide_eq_false (by omega)] at t2
      rw [decide_eq_true rfl] at t4
      go_wp2_with fail
      go_meet
      exact ⟨rfl, rfl⟩
    · rw [decide_eq_false (by omega)] at t2 t4
      rw [decide_eq_true rfl] at t6
      go_wp2_with fail
      go_meet
      exact ⟨rfl, rfl⟩
    · rw [decide_eq_false h2] at t2
      rw [decide_eq_false h4] at t4
      rw [decide_eq_false h6] at t6
      go_wp2_with fail
      go_meet
      exact ⟨by rw [decide_eq_false (by omega)], rfl⟩
  case rest => as_aux_lemma =>
    obtain ⟨rfl, rfl⟩ := hcut
    by_cases ht : o = 2 ∨ o = 4 ∨ o = 6
    · rw [decide_eq_true ht]
      go_upto_block 0 with fail
      go_cut [36] (fun s36 wx => Hid (o ≠ 0) ∧ Hid (Quad w wx w.heap.size (.int .i64 0) (.bool false) (.string ⟨#[]⟩) (.string ⟨#[]⟩)) ∧ Hid (Quad w wx (w.heap.size + 1) (.int .i64 0) (.bool false) (.string ⟨#[]⟩) (.string ⟨#[]⟩)) ∧ Hid (Quad w wx (w.heap.size + 1 + 1) (.int .i64 (o : Int)) (.bool false) (.string ⟨#[]⟩) (.string ⟨#[]⟩)) ∧ Hid (Fr w wx))
      case first => as_aux_lemma =>
        obtain ⟨_, t2, t4, t6, l1, l3, l5, _, _, _, _, _, _⟩ := SG.out
        have NE := hide (show o ≠ 0 by omega)
        have c0 := Qc.out.1
        have z0 := Qc.out.2.2.2.2.1 0
        have G1 := hide (fun u => Qr.out.far (b' := w.heap.size + 1 + 1) (o := 0) (by omega) u)
        have G2 := hide (fun u => Qn.out.far (b' := w.heap.size + 1 + 1) (o := 0) (by omega) u)
        have G3 := hide (fun u => Qc.out.put0 u)
        have G4 := hide (fun u => Qc.out.fit F.out 0 u)
        rcases ht with rfl | rfl | rfl
        · rw [decide_eq_true rfl] at t2
          go_wp2_with fail
          go_meet
          exact ⟨NE, hide (G1.out _), hide (G2.out _), hide (G3.out _), hide (G4.out _)⟩
        · rw [decide_eq_false (by omega)] at t2
          rw [decide_eq_true rfl] at t4
          go_wp2_with fail
          go_meet
          exact ⟨NE, hide (G1.out _), hide (G2.out _), hide (G3.out _), hide (G4.out _)⟩
        · rw [decide_eq_false (by omega)] at t2 t4
          rw [decide_eq_true rfl] at t6
          go_wp2_with fail
          go_meet
          exact ⟨NE, hide (G1.out _), hide (G2.out _), hide (G3.out _), hide (G4.out _)⟩
      case rest => as_aux_lemma =>
        obtain ⟨NE, Qr, Qn, Qc, F⟩ := hcut
        obtain ⟨V1, hV1⟩ : ∃ V, V = wc := ⟨_, rfl⟩
        rw [← hV1] at Qr Qn Qc F ⊢
        clear hV1
        have hS : s.extract 2 s.size = LB := Y2.out ht
        clear Y1 Y2 ht SG x1 x2 E0
        go_upto_region 24 with fail
        go_cut [8] (fun s8 wx => s8 = .bool g ∧ V1 = wx)
        case first => as_aux_lemma =>
          rcases HNe.out with ⟨h1, h2⟩ | ⟨h1, z, h2, h3⟩
          · clear HNe
            go_wp2_with fail
            go_meet
            exact ⟨by rw [h2], rfl⟩
          · have h1' : (0 : Int) < LB.size := by omega
            have hb := h2 h1
            clear HNe h2
            by_cases hz : z = 45
            · rw [decide_eq_true hz] at h3
              have hz' : (z == 45) = true := by simpa using hz
              clear hz
              go_wp2_with fail
              go_meet
              exact ⟨by rw [h3], rfl⟩
            · rw [decide_eq_false hz] at h3
              have hz' : (z == 45) = false := by simpa using hz
              clear hz
              go_wp2_with fail
              go_meet
              exact ⟨by rw [h3], rfl⟩
        case rest => as_aux_lemma =>
          obtain ⟨rfl, rfl⟩ := hcut
          go_upto_if 65 with fail
          go_cut [0] (fun s0 wx => s0 = .string S2 ∧ V1 = wx)
          case first => as_aux_lemma =>
            have hh := HSz.out
            cases g
            · have h0 := hh.2 rfl
              go_wp2_with fail
              go_meet
              exact ⟨by rw [h0], rfl⟩
            · obtain ⟨h1, h2⟩ := hh.1 rfl
              have h1' : (1 : Int) ≤ LB.size := by omega
              go_wp2_with fail
              go_meet
              exact ⟨rfl, rfl⟩
          case rest => as_aux_lemma =>
            obtain ⟨rfl, rfl⟩ := hcut
            clear HNe HSz
            go_upto_block 1 with fail
            go_cut [9, 10, 11] (fun s9 s10 s11 wx => s9 = .string UB ∧ s10 = .string VB ∧ V1 = wx)
            case first => as_aux_lemma =>
              go_wp2_with fail
              go_loopw [9, 10, 11] (fun s9 s10 i wr => ∃ k : Nat, k ≤ S2.size ∧ s9 = .string S2 ∧ s10 = .string ⟨#[48]⟩ ∧ i = .int .i64 k ∧ Hid (∀ j, j < k → S2.data.toList[j]? ≠ some 46) ∧ V1 = wr) (fun _ _ i _ => S2.size - (intOf i).toNat)
              case atStart => exact ⟨0, by omega, rfl, rfl, rfl, hide (by intro j hj; omega), rfl⟩
              case round =>
                obtain ⟨k, hk, rfl, rfl, rfl, hA, rfl⟩ := hrel
                by_cases hlt : k < S2.size
                · obtain ⟨c, hc, hd⟩ := data_at S2 k hlt
                  obtain ⟨z, hz⟩ : ∃ z : Int, (c.toNat : Int) = z := ⟨_, rfl⟩
                  have hzb := byte_bd c
                  rw [hz] at hzb
                  have hcz : ((S2[k]'hlt).toNat : Int) = z := by rw [hc, hz]
                  have kt : ((k : Int) + 1).toNat = k + 1 := by omega
                  have HD := hide hd
                  have HZ := hide hz
                  clear hd hz hc
                  by_cases h1 : z = 46
                  · have h46 : (z == 46) = true := by simpa using h1
                    have hc46 : c = 46 := UInt8.toNat_inj.1 (by have := HZ.out; show c.toNat = 46; omega)
                    obtain ⟨e1, e2⟩ := HW.out.1 k hA.out (by rw [← hc46]; exact HD.out)
                    have E1 := hide e1
                    have E2 := hide e2
                    clear e1 e2 h1
                    go_wp2_with fail
                    go_meet
                    exact ⟨by rw [E1.out], by rw [E2.out], rfl⟩
                  · have h46 : (z == 46) = false := by simpa using h1
                    have hc46 : c ≠ 46 := fun e => h1 (by rw [← HZ.out, e]; rfl)
                    have hA := hide (show ∀ j, j < k + 1 → S2.data.toList[j]? ≠ some 46 from fun j hj => by
                      by_cases e : j = k
                      · subst e; rw [HD.out]; intro h; injection h with h; exact hc46 h
                      · exact hA.out j (by omega))
                    clear h1 hc46
                    go_wp2_with fail
                    go_roundw
                    case rel => exact ⟨k + 1, by omega, rfl, rfl, by go_num, hA, by first | rfl | trivial⟩
                    case measure => simp [intOf]; omega
                · have : k = S2.size := by omega
                  subst this
                  obtain ⟨e1, e2⟩ := HW.out.2 hA.out
                  have E1 := hide e1
                  have E2 := hide e2
                  clear e1 e2
                  go_wp2_with fail
                  go_meet
                  exact ⟨by rw [E1.out], by rw [E2.out], rfl⟩
            case rest => as_aux_lemma =>
              obtain ⟨rfl, rfl, rfl⟩ := hcut
              clear HW zS
              go_wp2_with fail
              refine (HRU.out _).mono ?_
              rintro e w5 ⟨rfl, hw⟩
              obtain rfl := hw.symm
              go_wp2_with fail
              refine (HRV.out _).mono ?_
              rintro e w5 ⟨rfl, hw⟩
              obtain rfl := hw.symm
              clear HRU HRV
              have hab : (ra = false ∨ (ra = true ∧ rb = false)) ∨ (ra = true ∧ rb = true) := by cases ra <;> cases rb <;> simp
              rcases hab with hab | hab
              · have EN' := EN.out (by rcases hab with rfl | ⟨rfl, rfl⟩ <;> rfl)
                rcases hab with rfl | ⟨rfl, rfl⟩
                · skip
                  obtain ⟨n0, n1, n2, n3, _, _⟩ := Qn.out
                  obtain ⟨r0, r1, r2, r3, z, _⟩ := Qr.out
                  have z0 := z 0
                  have z1 := z 1
                  have z2 := z 2
                  have z3 := z 3
                  have R := hide (Qr.out.set (.int .i64 0) (.bool false) (.string ⟨#[]⟩) (.string ⟨#[]⟩))
                  have FR := hide (Qr.out.set_fr F.out (.int .i64 0) (.bool false) (.string ⟨#[]⟩) (.string ⟨#[]⟩))
                  clear z
                  go_upto_region 38 with fail
                  repeat (first | go_values | go_skip | go_guarded | go_step)
                  exact bodyPost_ret (results_cond (.inr rfl) rfl _ R.out rfl) rfl ⟨by rw [EN'.1, EN'.2]; rfl, FR.out⟩
                · skip
                  obtain ⟨n0, n1, n2, n3, _, _⟩ := Qn.out
                  obtain ⟨r0, r1, r2, r3, z, _⟩ := Qr.out
                  have z0 := z 0
                  have z1 := z 1
                  have z2 := z 2
                  have z3 := z 3
                  have R := hide (Qr.out.set (.int .i64 0) (.bool false) (.string ⟨#[]⟩) (.string ⟨#[]⟩))
                  have FR := hide (Qr.out.set_fr F.out (.int .i64 0) (.bool false) (.string ⟨#[]⟩) (.string ⟨#[]⟩))
                  clear z
                  go_upto_region 38 with fail
                  repeat (first | go_values | go_skip | go_guarded | go_step)
                  exact bodyPost_ret (results_cond (.inr rfl) rfl _ R.out rfl) rfl ⟨by rw [EN'.1, EN'.2]; rfl, FR.out⟩
              · obtain ⟨rfl, rfl⟩ := hab
                have EZ := hide (EY.out NE.out rfl)
                clear EY EN NE
                go_upto_block 3 with fail
                go_cut [9] (fun s9 wx => s9 = .string WB ∧ V1 = wx)
                case first => as_aux_lemma =>
                  go_wp2_with fail
                  go_loopw [9] (fun s9 wr => ∃ t : ByteArray, s9 = .string t ∧ t.size ≤ 1001 ∧ Hid (bs (trimLeftB t.data.toList 48) = WB) ∧ V1 = wr) (fun s9 _ => bLen s9)
                  case atStart => exact ⟨UB, rfl, zU, HWT, rfl⟩
                  case round =>
                    obtain ⟨t, rfl, ht, hT, rfl⟩ := hrel
                    by_cases h0 : t.size = 0
                    · have E1 : Hid (WB = t) := hide (by
                        have hl : t.data.toList = [] := List.length_eq_zero_iff.1 (by rw [len_data]; exact h0)
                        have h1 := hT.out
                        rw [hl] at h1
                        rw [bs_eta t, hl, ← h1]; rfl)
                      go_wp2_with fail
                      go_meet
                      exact ⟨by rw [E1.out], rfl⟩
                    · have hp : 0 < t.size := by omega
                      have hp' : (0 : Int) < t.size := by omega
                      have hp1 : (1 : Int) ≤ t.size := by omega
                      obtain ⟨c, hc, hd⟩ := data_at t 0 hp
                      obtain ⟨z, hz⟩ : ∃ z : Int, (c.toNat : Int) = z := ⟨_, rfl⟩
                      have hzb := byte_bd c
                      rw [hz] at hzb
                      have hcz : ((t[0]'hp).toNat : Int) = z := by rw [hc, hz]
                      obtain ⟨m, hm⟩ : ∃ m, t.data.toList = c :: m := by
                        cases hq : t.data.toList with
                        | nil => rw [hq] at hd; simp at hd
                        | cons x m => rw [hq] at hd; simp at hd; exact ⟨m, by rw [hd]⟩
                      have HD := hide hm
                      have HZ := hide hz
                      clear hd hz hc hm
                      by_cases h1 : z = 48
                      · have h48 : (z == 48) = true := by simpa using h1
                        have hc48 : c = 48 := UInt8.toNat_inj.1 (by have := HZ.out; show c.toNat = 48; omega)
                        have hx : (t.extract 1 t.size).data.toList = m := by rw [Go.Lib.extract_data, HD.out, List.take_of_length_le (by have := len_data t; rw [HD.out] at this; simp at this; simp; omega)]; rfl
                        have hT2 := hide (show bs (trimLeftB (t.extract 1 t.size).data.toList 48) = WB by
                          rw [hx]
                          have := hT.out
                          rw [HD.out, hc48] at this
                          exact this)
                        have hsz : (t.extract 1 t.size).size + 1 = t.size := by
                          rw [← len_data, hx, ← len_data t, HD.out]; rfl
                        clear h1 hx
                        generalize hx2 : t.extract 1 t.size = t2 at hT2 hsz
                        go_wp2_with fail
                        go_roundw
                        case rel => exact ⟨t2, rfl, by omega, hT2, by first | rfl | trivial⟩
                        case measure => simp only [bLen]; omega
                      · have h48 : (z == 48) = false := by simpa using h1
                        have hc48 : ¬ c = 48 := fun e => h1 (by rw [← HZ.out, e]; rfl)
                        have E1 : Hid (WB = t) := hide (by
                          have h2 := hT.out
                          rw [HD.out] at h2
                          unfold trimLeftB at h2
                          rw [List.dropWhile_cons_of_neg (by simpa using hc48)] at h2
                          rw [bs_eta t, HD.out, ← h2])
                        clear h1 hc48
                        go_wp2_with fail
                        go_meet
                        exact ⟨by rw [E1.out], rfl⟩
                case rest => as_aux_lemma =>
                  obtain ⟨rfl, rfl⟩ := hcut
                  clear HWT zU
                  go_upto_block 5 with fail
                  go_cut [10] (fun s10 wx => s10 = .string PB ∧ V1 = wx)
                  case first => as_aux_lemma =>
                    go_wp2_with fail
                    go_loopw [10] (fun s10 wr => ∃ t : ByteArray, s10 = .string t ∧ t.size ≤ 1001 ∧ Hid (bs (trimRightB t.data.toList 48) = PB) ∧ V1 = wr) (fun s10 _ => bLen s10)
                    case atStart => exact ⟨VB, rfl, zV, HPT, rfl⟩
                    case round =>
                      obtain ⟨t, rfl, ht, hT, rfl⟩ := hrel
                      by_cases h0 : t.size = 0
                      · have E1 : Hid (PB = t) := hide (by
                          have hl : t.data.toList = [] := List.length_eq_zero_iff.1 (by rw [len_data]; exact h0)
                          have h1 := hT.out
                          rw [hl] at h1
                          rw [bs_eta t, hl, ← h1]; rfl)
                        go_wp2_with fail
                        go_meet
                        exact ⟨by rw [E1.out], rfl⟩
                      · have hp' : (0 : Int) < t.size := by omega
                        obtain ⟨j, hj⟩ : ∃ j : Nat, (t.size : Int) - 1 = j := ⟨t.size - 1, by omega⟩
                        have hlt : j < t.size := by omega
                        have htj : (j : Int) ≤ t.size := by omega
                        have hjt : (j : Int).toNat = j := by omega
                        have hj1 := hide (show t.size = j + 1 by omega)
                        obtain ⟨c, hc, hd⟩ := data_at t j hlt
                        obtain ⟨z, hz⟩ : ∃ z : Int, (c.toNat : Int) = z := ⟨_, rfl⟩
                        have hzb := byte_bd c
                        rw [hz] at hzb
                        have hcz : ((t[j]'hlt).toNat : Int) = z := by rw [hc, hz]
                        have hm : t.data.toList = t.data.toList.take j ++ [c] := by
                          have := take_snoc hd
                          rw [← this, List.take_of_length_le (by rw [len_data, hj1.out]; omega)]
                        have HD := hide hm
                        have HZ := hide hz
                        clear hd hz hc hm h0
                        by_cases h1 : z = 48
                        · have h48 : (z == 48) = true := by simpa using h1
                          have hc48 : c = 48 := UInt8.toNat_inj.1 (by have := HZ.out; show c.toNat = 48; omega)
                          have hx : (t.extract 0 j).data.toList = t.data.toList.take j := by rw [Go.Lib.extract_data]; rfl
                          have hT2 := hide (show bs (trimRightB (t.extract 0 j).data.toList 48) = PB by
                            rw [hx]
                            have := hT.out
                            rw [HD.out, hc48, trimRight_snoc] at this
                            exact this)
                          have hsz := hide (show (t.extract 0 j).size = j by
                            rw [← len_data, hx, List.length_take, len_data, hj1.out]; omega)
                          clear h1 hx
                          generalize hx2 : t.extract 0 j = t2 at hT2 hsz
                          go_wp2_with fail
                          go_roundw
                          case rel => exact ⟨t2, rfl, by rw [hsz.out]; omega, hT2, by first | rfl | trivial⟩
                          case measure => simp only [bLen]; rw [hsz.out, hj1.out]; omega
                        · have h48 : (z == 48) = false := by simpa using h1
                          have hc48 : ¬ c = 48 := fun e => h1 (by rw [← HZ.out, e]; rfl)
                          have E1 : Hid (PB = t) := hide (by
                            have h2 := hT.out
                            rw [HD.out] at h2
                            unfold trimRightB at h2
                            rw [List.reverse_append, List.reverse_singleton, List.singleton_append, List.dropWhile_cons_of_neg (by simpa using hc48), List.reverse_cons, List.reverse_reverse, ← HD.out] at h2
                            rw [bs_eta t, ← h2])
                          clear h1 hc48
                          go_wp2_with fail
                          go_meet
                          exact ⟨by rw [E1.out], rfl⟩
                  case rest => as_aux_lemma =>
                    obtain ⟨rfl, rfl⟩ := hcut
                    clear HPT zV
                    obtain ⟨x, hx⟩ : ∃ x, WB.toList.isEmpty = x := ⟨_, rfl⟩
                    obtain ⟨y, hy⟩ : ∃ y, PB.toList.isEmpty = y := ⟨_, rfl⟩
                    rw [hx, hy] at HNN
                    have c1 := Qc.out.2.1
                    have c2 := Qc.out.2.2.1
                    have c3 := Qc.out.2.2.2.1
                    have z1 := Qc.out.2.2.2.2.1 1
                    have z2 := Qc.out.2.2.2.2.1 2
                    have z3 := Qc.out.2.2.2.2.1 3
                    have G := hide (fun q : Bool => show Quad w (((V1.setCell ⟨w.heap.size + 1 + 1, 2, none⟩ (.string WB)).setCell ⟨w.heap.size + 1 + 1, 3, none⟩ (.string PB)).setCell ⟨w.heap.size + 1 + 1, 1, none⟩ (.bool q)) (w.heap.size + 1 + 1) (.int .i64 (o : Int)) (.bool q) (.string WB) (.string PB) ∧ Quad w (((V1.setCell ⟨w.heap.size + 1 + 1, 2, none⟩ (.string WB)).setCell ⟨w.heap.size + 1 + 1, 3, none⟩ (.string PB)).setCell ⟨w.heap.size + 1 + 1, 1, none⟩ (.bool q)) w.heap.size (.int .i64 0) (.bool false) (.string ⟨#[]⟩) (.string ⟨#[]⟩) ∧ Fr w (((V1.setCell ⟨w.heap.size + 1 + 1, 2, none⟩ (.string WB)).setCell ⟨w.heap.size + 1 + 1, 3, none⟩ (.string PB)).setCell ⟨w.heap.size + 1 + 1, 1, none⟩ (.bool q)) from ⟨((Qc.out.put2 _).put3 _).put _, ((Qr.out.far (by omega) _).far (by omega) _).far (by omega) _, ((Qc.out.put2 _).put3 _).fit ((Qc.out.put2 _).fit (Qc.out.fit F.out 2 _) 3 _) 1 _⟩)
                    have hgx : (g = false) ∨ (g = true ∧ x = false) ∨ (g = true ∧ x = true ∧ y = false) ∨ (g = true ∧ x = true ∧ y = true) := by cases g <;> cases x <;> cases y <;> simp
                    clear Qc Qr Qn F
                    rcases hgx with rfl | ⟨rfl, rfl⟩ | ⟨rfl, rfl, rfl⟩ | ⟨rfl, rfl, rfl⟩
                    · go_upto_region 46 with fail
                      obtain ⟨V2, hV2⟩ : ∃ V, V = ((V1.setCell ⟨w.heap.size + 1 + 1, 2, none⟩ (.string WB)).setCell ⟨w.heap.size + 1 + 1, 3, none⟩ (.string PB)).setCell ⟨w.heap.size + 1 + 1, 1, none⟩ (.bool false) := ⟨_, rfl⟩
                      obtain ⟨QC, QR, FF⟩ := G.out false
                      rw [← hV2] at QC QR FF ⊢
                      clear hV2 G c1 c2 c3 z1 z2 z3
                      have hQ := hide QR
                      obtain ⟨c0, c1, c2, c3, _, _⟩ := QC
                      obtain ⟨r0, r1, r2, r3, z, _⟩ := QR
                      have z0 := z 0
                      have z1 := z 1
                      have z2 := z 2
                      have z3 := z 3
                      have R := hide (hQ.out.set (.int .i64 (o : Int)) (.bool false) (.string WB) (.string PB))
                      have FR := hide (hQ.out.set_fr FF (.int .i64 (o : Int)) (.bool false) (.string WB) (.string PB))
                      clear z
                      repeat (first | go_values | go_skip | go_guarded | go_step)
                      exact bodyPost_ret (results_cond (.inr rfl) rfl _ R.out rfl) rfl ⟨by rw [EZ.out.1, EZ.out.2, HNN.out]; rfl, FR.out⟩
                    · go_upto_region 46 with fail
                      obtain ⟨V2, hV2⟩ : ∃ V, V = ((V1.setCell ⟨w.heap.size + 1 + 1, 2, none⟩ (.string WB)).setCell ⟨w.heap.size + 1 + 1, 3, none⟩ (.string PB)).setCell ⟨w.heap.size + 1 + 1, 1, none⟩ (.bool true) := ⟨_, rfl⟩
                      obtain ⟨QC, QR, FF⟩ := G.out true
                      rw [← hV2] at QC QR FF ⊢
                      clear hV2 G c1 c2 c3 z1 z2 z3
                      have hQ := hide QR
                      obtain ⟨c0, c1, c2, c3, _, _⟩ := QC
                      obtain ⟨r0, r1, r2, r3, z, _⟩ := QR
                      have z0 := z 0
                      have z1 := z 1
                      have z2 := z 2
                      have z3 := z 3
                      have R := hide (hQ.out.set (.int .i64 (o : Int)) (.bool true) (.string WB) (.string PB))
                      have FR := hide (hQ.out.set_fr FF (.int .i64 (o : Int)) (.bool true) (.string WB) (.string PB))
                      clear z
                      repeat (first | go_values | go_skip | go_guarded | go_step)
                      exact bodyPost_ret (results_cond (.inr rfl) rfl _ R.out rfl) rfl ⟨by rw [EZ.out.1, EZ.out.2, HNN.out]; rfl, FR.out⟩
                    · go_upto_region 46 with fail
                      obtain ⟨V2, hV2⟩ : ∃ V, V = ((V1.setCell ⟨w.heap.size + 1 + 1, 2, none⟩ (.string WB)).setCell ⟨w.heap.size + 1 + 1, 3, none⟩ (.string PB)).setCell ⟨w.heap.size + 1 + 1, 1, none⟩ (.bool true) := ⟨_, rfl⟩
                      obtain ⟨QC, QR, FF⟩ := G.out true
                      rw [← hV2] at QC QR FF ⊢
                      clear hV2 G c1 c2 c3 z1 z2 z3
                      have hQ := hide QR
                      obtain ⟨c0, c1, c2, c3, _, _⟩ := QC
                      obtain ⟨r0, r1, r2, r3, z, _⟩ := QR
                      have z0 := z 0
                      have z1 := z 1
                      have z2 := z 2
                      have z3 := z 3
                      have R := hide (hQ.out.set (.int .i64 (o : Int)) (.bool true) (.string WB) (.string PB))
                      have FR := hide (hQ.out.set_fr FF (.int .i64 (o : Int)) (.bool true) (.string WB) (.string PB))
                      clear z
                      repeat (first | go_values | go_skip | go_guarded | go_step)
                      exact bodyPost_ret (results_cond (.inr rfl) rfl _ R.out rfl) rfl ⟨by rw [EZ.out.1, EZ.out.2, HNN.out]; rfl, FR.out⟩
                    · go_upto_region 46 with fail
                      obtain ⟨V2, hV2⟩ : ∃ V, V = ((V1.setCell ⟨w.heap.size + 1 + 1, 2, none⟩ (.string WB)).setCell ⟨w.heap.size + 1 + 1, 3, none⟩ (.string PB)).setCell ⟨w.heap.size + 1 + 1, 1, none⟩ (.bool false) := ⟨_, rfl⟩
                      obtain ⟨QC, QR, FF⟩ := G.out false
                      rw [← hV2] at QC QR FF ⊢
                      clear hV2 G c1 c2 c3 z1 z2 z3
                      have hQ := hide QR
                      obtain ⟨c0, c1, c2, c3, _, _⟩ := QC
                      obtain ⟨r0, r1, r2, r3, z, _⟩ := QR
                      have z0 := z 0
                      have z1 := z 1
                      have z2 := z 2
                      have z3 := z 3
                      have R := hide (hQ.out.set (.int .i64 (o : Int)) (.bool false) (.string WB) (.string PB))
                      have FR := hide (hQ.out.set_fr FF (.int .i64 (o : Int)) (.bool false) (.string WB) (.string PB))
                      clear z
                      repeat (first | go_values | go_skip | go_guarded | go_step)
                      exact bodyPost_ret (results_cond (.inr rfl) rfl _ R.out rfl) rfl ⟨by rw [EZ.out.1, EZ.out.2, HNN.out]; rfl, FR.out⟩
    · rw [decide_eq_false ht]
      go_upto_block 0 with fail
      go_cut [36] (fun s36 wx => Hid (o ≠ 0) ∧ Hid (Quad w wx w.heap.size (.int .i64 0) (.bool false) (.string ⟨#[]⟩) (.string ⟨#[]⟩)) ∧ Hid (Quad w wx (w.heap.size + 1) (.int .i64 0) (.bool false) (.string ⟨#[]⟩) (.string ⟨#[]⟩)) ∧ Hid (Quad w wx (w.heap.size + 1 + 1) (.int .i64 (o : Int)) (.bool false) (.string ⟨#[]⟩) (.string ⟨#[]⟩)) ∧ Hid (Fr w wx))
      case first => as_aux_lemma =>
        obtain ⟨o6, _, _, _, _, _, _, s1, s3, s5, s2, s4, s6⟩ := SG.out
        have s1 := s1 (by omega)
        have s3 := s3 (by omega)
        have s5 := s5 (by omega)
        have ho : o = 0 ∨ o = 1 ∨ o = 3 ∨ o = 5 := by omega
        rcases ho with rfl | rfl | rfl | rfl
        · rw [decide_eq_false (by omega)] at s1 s3 s5
          have EN' := E0.out rfl
          clear E0
          obtain ⟨n0, n1, n2, n3, _, _⟩ := Qn.out
          obtain ⟨r0, r1, r2, r3, z, _⟩ := Qr.out
          have z0 := z 0
          have z1 := z 1
          have z2 := z 2
          have z3 := z 3
          have R := hide (Qr.out.set (.int .i64 0) (.bool false) (.string ⟨#[]⟩) (.string ⟨#[]⟩))
          have FR := hide (Qr.out.set_fr F.out (.int .i64 0) (.bool false) (.string ⟨#[]⟩) (.string ⟨#[]⟩))
          clear z
          go_upto_region 10 with fail
          repeat (first | go_values | go_skip | go_guarded | go_step)
          exact bodyPost_ret (results_cond (.inr rfl) rfl _ R.out rfl) rfl ⟨by rw [EN'.1, EN'.2]; rfl, FR.out⟩
        · have NE := hide (show (1 : Nat) ≠ 0 by omega)
          rw [decide_eq_true rfl] at s1
          have c0 := Qc.out.1
          have z0 := Qc.out.2.2.2.2.1 0
          have G1 := hide (fun u => Qr.out.far (b' := w.heap.size + 1 + 1) (o := 0) (by omega) u)
          have G2 := hide (fun u => Qn.out.far (b' := w.heap.size + 1 + 1) (o := 0) (by omega) u)
          have G3 := hide (fun u => Qc.out.put0 u)
          have G4 := hide (fun u => Qc.out.fit F.out 0 u)
          go_wp2_with fail
          go_meet
          exact ⟨NE, hide (G1.out _), hide (G2.out _), hide (G3.out _), hide (G4.out _)⟩
        · have NE := hide (show (3 : Nat) ≠ 0 by omega)
          rw [decide_eq_false (by omega)] at s1
          rw [decide_eq_true rfl] at s3
          have c0 := Qc.out.1
          have z0 := Qc.out.2.2.2.2.1 0
          have G1 := hide (fun u => Qr.out.far (b' := w.heap.size + 1 + 1) (o := 0) (by omega) u)
          have G2 := hide (fun u => Qn.out.far (b' := w.heap.size + 1 + 1) (o := 0) (by omega) u)
          have G3 := hide (fun u => Qc.out.put0 u)
          have G4 := hide (fun u => Qc.out.fit F.out 0 u)
          go_wp2_with fail
          go_meet
          exact ⟨NE, hide (G1.out _), hide (G2.out _), hide (G3.out _), hide (G4.out _)⟩
        · have NE := hide (show (5 : Nat) ≠ 0 by omega)
          rw [decide_eq_false (by omega)] at s1
          rw [decide_eq_false (by omega)] at s3
          rw [decide_eq_true rfl] at s5
          have c0 := Qc.out.1
          have z0 := Qc.out.2.2.2.2.1 0
          have G1 := hide (fun u => Qr.out.far (b' := w.heap.size + 1 + 1) (o := 0) (by omega) u)
          have G2 := hide (fun u => Qn.out.far (b' := w.heap.size + 1 + 1) (o := 0) (by omega) u)
          have G3 := hide (fun u => Qc.out.put0 u)
          have G4 := hide (fun u => Qc.out.fit F.out 0 u)
          go_wp2_with fail
          go_meet
          exact ⟨NE, hide (G1.out _), hide (G2.out _), hide (G3.out _), hide (G4.out _)⟩
      case rest => as_aux_lemma =>
        obtain ⟨NE, Qr, Qn, Qc, F⟩ := hcut
        obtain ⟨V1, hV1⟩ : ∃ V, V = wc := ⟨_, rfl⟩
        rw [← hV1] at Qr Qn Qc F ⊢
        clear hV1
        have hS : s.extract 1 s.size = LB := Y1.out ht
        clear Y1 Y2 ht SG x1 x2 E0
        go_upto_region 24 with fail
        go_cut [8] (fun s8 wx => s8 = .bool g ∧ V1 = wx)
        case first => as_aux_lemma =>
          rcases HNe.out with ⟨h1, h2⟩ | ⟨h1, z, h2, h3⟩
          · clear HNe
            go_wp2_with fail
            go_meet
            exact ⟨by rw [h2], rfl⟩
          · have h1' : (0 : Int) < LB.size := by omega
            have hb := h2 h1
            clear HNe h2
            by_cases hz : z = 45
            · rw [decide_eq_true hz] at h3
              have hz' : (z == 45) = true := by simpa using hz
              clear hz
              go_wp2_with fail
              go_meet
              exact ⟨by rw [h3], rfl⟩
            · rw [decide_eq_false hz] at h3
              have hz' : (z == 45) = false := by simpa using hz
              clear hz
              go_wp2_with fail
              go_meet
              exact ⟨by rw [h3], rfl⟩
        case rest => as_aux_lemma =>
          obtain ⟨rfl, rfl⟩ := hcut
          go_upto_if 65 with fail
          go_cut [0] (fun s0 wx => s0 = .string S2 ∧ V1 = wx)
          case first => as_aux_lemma =>
            have hh := HSz.out
            cases g
            · have h0 := hh.2 rfl
              go_wp2_with fail
              go_meet
              exact ⟨by rw [h0], rfl⟩
            · obtain ⟨h1, h2⟩ := hh.1 rfl
              have h1' : (1 : Int) ≤ LB.size := by omega
              go_wp2_with fail
              go_meet
              exact ⟨rfl, rfl⟩
          case rest => as_aux_lemma =>
            obtain ⟨rfl, rfl⟩ := hcut
            clear HNe HSz
            go_upto_block 1 with fail
            go_cut [9, 10, 11] (fun s9 s10 s11 wx => s9 = .string UB ∧ s10 = .string VB ∧ V1 = wx)
            case first => as_aux_lemma =>
              go_wp2_with fail
              go_loopw [9, 10, 11] (fun s9 s10 i wr => ∃ k : Nat, k ≤ S2.size ∧ s9 = .string S2 ∧ s10 = .string ⟨#[48]⟩ ∧ i = .int .i64 k ∧ Hid (∀ j, j < k → S2.data.toList[j]? ≠ some 46) ∧ V1 = wr) (fun _ _ i _ => S2.size - (intOf i).toNat)
              case atStart => exact ⟨0, by omega, rfl, rfl, rfl, hide (by intro j hj; omega), rfl⟩
              case round =>
                obtain ⟨k, hk, rfl, rfl, rfl, hA, rfl⟩ := hrel
                by_cases hlt : k < S2.size
                · obtain ⟨c, hc, hd⟩ := data_at S2 k hlt
                  obtain ⟨z, hz⟩ : ∃ z : Int, (c.toNat : Int) = z := ⟨_, rfl⟩
                  have hzb := byte_bd c
                  rw [hz] at hzb
                  have hcz : ((S2[k]'hlt).toNat : Int) = z := by rw [hc, hz]
                  have kt : ((k : Int) + 1).toNat = k + 1 := by omega
                  have HD := hide hd
                  have HZ := hide hz
                  clear hd hz hc
                  by_cases h1 : z = 46
                  · have h46 : (z == 46) = true := by simpa using h1
                    have hc46 : c = 46 := UInt8.toNat_inj.1 (by have := HZ.out; show c.toNat = 46; omega)
                    obtain ⟨e1, e2⟩ := HW.out.1 k hA.out (by rw [← hc46]; exact HD.out)
                    have E1 := hide e1
                    have E2 := hide e2
                    clear e1 e2 h1
                    go_wp2_with fail
                    go_meet
                    exact ⟨by rw [E1.out], by rw [E2.out], rfl⟩
                  · have h46 : (z == 46) = false := by simpa using h1
                    have hc46 : c ≠ 46 := fun e => h1 (by rw [← HZ.out, e]; rfl)
                    have hA := hide (show ∀ j, j < k + 1 → S2.data.toList[j]? ≠ some 46 from fun j hj => by
                      by_cases e : j = k
                      · subst e; rw [HD.out]; intro h; injection h with h; exact hc46 h
                      · exact hA.out j (by omega))
                    clear h1 hc46
                    go_wp2_with fail
                    go_roundw
                    case rel => exact ⟨k + 1, by omega, rfl, rfl, by go_num, hA, by first | rfl | trivial⟩
                    case measure => simp [intOf]; omega
                · have : k = S2.size := by omega
                  subst this
                  obtain ⟨e1, e2⟩ := HW.out.2 hA.out
                  have E1 := hide e1
                  have E2 := hide e2
                  clear e1 e2
                  go_wp2_with fail
                  go_meet
                  exact ⟨by rw [E1.out], by rw [E2.out], rfl⟩
            case rest => as_aux_lemma =>
              obtain ⟨rfl, rfl, rfl⟩ := hcut
              clear HW zS
              go_wp2_with fail
              refine (HRU.out _).mono ?_
              rintro e w5 ⟨rfl, hw⟩
              obtain rfl := hw.symm
              go_wp2_with fail
              refine (HRV.out _).mono ?_
              rintro e w5 ⟨rfl, hw⟩
              obtain rfl := hw.symm
              clear HRU HRV
              have hab : (ra = false ∨ (ra = true ∧ rb = false)) ∨ (ra = true ∧ rb = true) := by cases ra <;> cases rb <;> simp
              rcases hab with hab | hab
              · have EN' := EN.out (by rcases hab with rfl | ⟨rfl, rfl⟩ <;> rfl)
                rcases hab with rfl | ⟨rfl, rfl⟩
                · skip
                  obtain ⟨n0, n1, n2, n3, _, _⟩ := Qn.out
                  obtain ⟨r0, r1, r2, r3, z, _⟩ := Qr.out
                  have z0 := z 0
                  have z1 := z 1
                  have z2 := z 2
                  have z3 := z 3
                  have R := hide (Qr.out.set (.int .i64 0) (.bool false) (.string ⟨#[]⟩) (.string ⟨#[]⟩))
                  have FR := hide (Qr.out.set_fr F.out (.int .i64 0) (.bool false) (.string ⟨#[]⟩) (.string ⟨#[]⟩))
                  clear z
                  go_upto_region 38 with fail
                  repeat (first | go_values | go_skip | go_guarded | go_step)
                  exact bodyPost_ret (results_cond (.inr rfl) rfl _ R.out rfl) rfl ⟨by rw [EN'.1, EN'.2]; rfl, FR.out⟩
                · skip
                  obtain ⟨n0, n1, n2, n3, _, _⟩ := Qn.out
                  obtain ⟨r0, r1, r2, r3, z, _⟩ := Qr.out
                  have z0 := z 0
                  have z1 := z 1
                  have z2 := z 2
                  have z3 := z 3
                  have R := hide (Qr.out.set (.int .i64 0) (.bool false) (.string ⟨#[]⟩) (.string ⟨#[]⟩))
                  have FR := hide (Qr.out.set_fr F.out (.int .i64 0) (.bool false) (.string ⟨#[]⟩) (.string ⟨#[]⟩))
                  clear z
                  go_upto_region 38 with fail
                  repeat (first | go_values | go_skip | go_guarded | go_step)
                  exact bodyPost_ret (results_cond (.inr rfl) rfl _ R.out rfl) rfl ⟨by rw [EN'.1, EN'.2]; rfl, FR.out⟩
              · obtain ⟨rfl, rfl⟩ := hab
                have EZ := hide (EY.out NE.out rfl)
                clear EY EN NE
                go_upto_block 3 with fail
                go_cut [9] (fun s9 wx => s9 = .string WB ∧ V1 = wx)
                case first => as_aux_lemma =>
                  go_wp2_with fail
                  go_loopw [9] (fun s9 wr => ∃ t : ByteArray, s9 = .string t ∧ t.size ≤ 1001 ∧ Hid (bs (trimLeftB t.data.toList 48) = WB) ∧ V1 = wr) (fun s9 _ => bLen s9)
                  case atStart => exact ⟨UB, rfl, zU, HWT, rfl⟩
                  case round =>
                    obtain ⟨t, rfl, ht, hT, rfl⟩ := hrel
                    by_cases h0 : t.size = 0
                    · have E1 : Hid (WB = t) := hide (by
                        have hl : t.data.toList = [] := List.length_eq_zero_iff.1 (by rw [len_data]; exact h0)
                        have h1 := hT.out
                        rw [hl] at h1
                        rw [bs_eta t, hl, ← h1]; rfl)
                      go_wp2_with fail
                      go_meet
                      exact ⟨by rw [E1.out], rfl⟩
                    · have hp : 0 < t.size := by omega
                      have hp' : (0 : Int) < t.size := by omega
                      have hp1 : (1 : Int) ≤ t.size := by omega
                      obtain ⟨c, hc, hd⟩ := data_at t 0 hp
                      obtain ⟨z, hz⟩ : ∃ z : Int, (c.toNat : Int) = z := ⟨_, rfl⟩
                      have hzb := byte_bd c
                      rw [hz] at hzb
                      have hcz : ((t[0]'hp).toNat : Int) = z := by rw [hc, hz]
                      obtain ⟨m, hm⟩ : ∃ m, t.data.toList = c :: m := by
                        cases hq : t.data.toList with
                        | nil => rw [hq] at hd; simp at hd
                        | cons x m => rw [hq] at hd; simp at hd; exact ⟨m, by rw [hd]⟩
                      have HD := hide hm
                      have HZ := hide hz
                      clear hd hz hc hm
                      by_cases h1 : z = 48
                      · have h48 : (z == 48) = true := by simpa using h1
                        have hc48 : c = 48 := UInt8.toNat_inj.1 (by have := HZ.out; show c.toNat = 48; omega)
                        have hx : (t.extract 1 t.size).data.toList = m := by rw [Go.Lib.extract_data, HD.out, List.take_of_length_le (by have := len_data t; rw [HD.out] at this; simp at this; simp; omega)]; rfl
                        have hT2 := hide (show bs (trimLeftB (t.extract 1 t.size).data.toList 48) = WB by
                          rw [hx]
                          have := hT.out
                          rw [HD.out, hc48] at this
                          exact this)
                        have hsz : (t.extract 1 t.size).size + 1 = t.size := by
                          rw [← len_data, hx, ← len_data t, HD.out]; rfl
                        clear h1 hx
                        generalize hx2 : t.extract 1 t.size = t2 at hT2 hsz
                        go_wp2_with fail
                        go_roundw
                        case rel => exact ⟨t2, rfl, by omega, hT2, by first | rfl | trivial⟩
                        case measure => simp only [bLen]; omega
                      · have h48 : (z == 48) = false := by simpa using h1
                        have hc48 : ¬ c = 48 := fun e => h1 (by rw [← HZ.out, e]; rfl)
                        have E1 : Hid (WB = t) := hide (by
                          have h2 := hT.out
                          rw [HD.out] at h2
                          unfold trimLeftB at h2
                          rw [List.dropWhile_cons_of_neg (by simpa using hc48)] at h2
                          rw [bs_eta t, HD.out, ← h2])
                        clear h1 hc48
                        go_wp2_with fail
                        go_meet
                        exact ⟨by rw [E1.out], rfl⟩
                case rest => as_aux_lemma =>
                  obtain ⟨rfl, rfl⟩ := hcut
                  clear HWT zU
                  go_upto_block 5 with fail
                  go_cut [10] (fun s10 wx => s10 = .string PB ∧ V1 = wx)
                  case first => as_aux_lemma =>
                    go_wp2_with fail
                    go_loopw [10] (fun s10 wr => ∃ t : ByteArray, s10 = .string t ∧ t.size ≤ 1001 ∧ Hid (bs (trimRightB t.data.toList 48) = PB) ∧ V1 = wr) (fun s10 _ => bLen s10)
                    case atStart => exact ⟨VB, rfl, zV, HPT, rfl⟩
                    case round =>
                      obtain ⟨t, rfl, ht, hT, rfl⟩ := hrel
                      by_cases h0 : t.size = 0
                      · have E1 : Hid (PB = t) := hide (by
                          have hl : t.data.toList = [] := List.length_eq_zero_iff.1 (by rw [len_data]; exact h0)
                          have h1 := hT.out
                          rw [hl] at h1
                          rw [bs_eta t, hl, ← h1]; rfl)
                        go_wp2_with fail
                        go_meet
                        exact ⟨by rw [E1.out], rfl⟩
                      · have hp' : (0 : Int) < t.size := by omega
                        obtain ⟨j, hj⟩ : ∃ j : Nat, (t.size : Int) - 1 = j := ⟨t.size - 1, by omega⟩
                        have hlt : j < t.size := by omega
                        have htj : (j : Int) ≤ t.size := by omega
                        have hjt : (j : Int).toNat = j := by omega
                        have hj1 := hide (show t.size = j + 1 by omega)
                        obtain ⟨c, hc, hd⟩ := data_at t j hlt
                        obtain ⟨z, hz⟩ : ∃ z : Int, (c.toNat : Int) = z := ⟨_, rfl⟩
                        have hzb := byte_bd c
                        rw [hz] at hzb
                        have hcz : ((t[j]'hlt).toNat : Int) = z := by rw [hc, hz]
                        have hm : t.data.toList = t.data.toList.take j ++ [c] := by
                          have := take_snoc hd
                          rw [← this, List.take_of_length_le (by rw [len_data, hj1.out]; omega)]
                        have HD := hide hm
                        have HZ := hide hz
                        clear hd hz hc hm h0
                        by_cases h1 : z = 48
                        · have h48 : (z == 48) = true := by simpa using h1
                          have hc48 : c = 48 := UInt8.toNat_inj.1 (by have := HZ.out; show c.toNat = 48; omega)
                          have hx : (t.extract 0 j).data.toList = t.data.toList.take j := by rw [Go.Lib.extract_data]; rfl
                          have hT2 := hide (show bs (trimRightB (t.extract 0 j).data.toList 48) = PB by
                            rw [hx]
                            have := hT.out
                            rw [HD.out, hc48, trimRight_snoc] at this
                            exact this)
                          have hsz := hide (show (t.extract 0 j).size = j by
                            rw [← len_data, hx, List.length_take, len_data, hj1.out]; omega)
                          clear h1 hx
                          generalize hx2 : t.extract 0 j = t2 at hT2 hsz
                          go_wp2_with fail
                          go_roundw
                          case rel => exact ⟨t2, rfl, by rw [hsz.out]; omega, hT2, by first | rfl | trivial⟩
                          case measure => simp only [bLen]; rw [hsz.out, hj1.out]; omega
                        · have h48 : (z == 48) = false := by simpa using h1
                          have hc48 : ¬ c = 48 := fun e => h1 (by rw [← HZ.out, e]; rfl)
                          have E1 : Hid (PB = t) := hide (by
                            have h2 := hT.out
                            rw [HD.out] at h2
                            unfold trimRightB at h2
                            rw [List.reverse_append, List.reverse_singleton, List.singleton_append, List.dropWhile_cons_of_neg (by simpa using hc48), List.reverse_cons, List.reverse_reverse, ← HD.out] at h2
                            rw [bs_eta t, ← h2])
                          clear h1 hc48
                          go_wp2_with fail
                          go_meet
                          exact ⟨by rw [E1.out], rfl⟩
                  case rest => as_aux_lemma =>
                    obtain ⟨rfl, rfl⟩ := hcut
                    clear HPT zV
                    obtain ⟨x, hx⟩ : ∃ x, WB.toList.isEmpty = x := ⟨_, rfl⟩
                    obtain ⟨y, hy⟩ : ∃ y, PB.toList.isEmpty = y := ⟨_, rfl⟩
                    rw [hx, hy] at HNN
                    have c1 := Qc.out.2.1
                    have c2 := Qc.out.2.2.1
                    have c3 := Qc.out.2.2.2.1
                    have z1 := Qc.out.2.2.2.2.1 1
                    have z2 := Qc.out.2.2.2.2.1 2
                    have z3 := Qc.out.2.2.2.2.1 3
                    have G := hide (fun q : Bool => show Quad w (((V1.setCell ⟨w.heap.size + 1 + 1, 2, none⟩ (.string WB)).setCell ⟨w.heap.size + 1 + 1, 3, none⟩ (.string PB)).setCell ⟨w.heap.size + 1 + 1, 1, none⟩ (.bool q)) (w.heap.size + 1 + 1) (.int .i64 (o : Int)) (.bool q) (.string WB) (.string PB) ∧ Quad w (((V1.setCell ⟨w.heap.size + 1 + 1, 2, none⟩ (.string WB)).setCell ⟨w.heap.size + 1 + 1, 3, none⟩ (.string PB)).setCell ⟨w.heap.size + 1 + 1, 1, none⟩ (.bool q)) w.heap.size (.int .i64 0) (.bool false) (.string ⟨#[]⟩) (.string ⟨#[]⟩) ∧ Fr w (((V1.setCell ⟨w.heap.size + 1 + 1, 2, none⟩ (.string WB)).setCell ⟨w.heap.size + 1 + 1, 3, none⟩ (.string PB)).setCell ⟨w.heap.size + 1 + 1, 1, none⟩ (.bool q)) from ⟨((Qc.out.put2 _).put3 _).put _, ((Qr.out.far (by omega) _).far (by omega) _).far (by omega) _, ((Qc.out.put2 _).put3 _).fit ((Qc.out.put2 _).fit (Qc.out.fit F.out 2 _) 3 _) 1 _⟩)
                    have hgx : (g = false) ∨ (g = true ∧ x = false) ∨ (g = true ∧ x = true ∧ y = false) ∨ (g = true ∧ x = true ∧ y = true) := by cases g <;> cases x <;> cases y <;> simp
                    clear Qc Qr Qn F
                    rcases hgx with rfl | ⟨rfl, rfl⟩ | ⟨rfl, rfl, rfl⟩ | ⟨rfl, rfl, rfl⟩
                    · go_upto_region 46 with fail
                      obtain ⟨V2, hV2⟩ : ∃ V, V = ((V1.setCell ⟨w.heap.size + 1 + 1, 2, none⟩ (.string WB)).setCell ⟨w.heap.size + 1 + 1, 3, none⟩ (.string PB)).setCell ⟨w.heap.size + 1 + 1, 1, none⟩ (.bool false) := ⟨_, rfl⟩
                      obtain ⟨QC, QR, FF⟩ := G.out false
                      rw [← hV2] at QC QR FF ⊢
                      clear hV2 G c1 c2 c3 z1 z2 z3
                      have hQ := hide QR
                      obtain ⟨c0, c1, c2, c3, _, _⟩ := QC
                      obtain ⟨r0, r1, r2, r3, z, _⟩ := QR
                      have z0 := z 0
                      have z1 := z 1
                      have z2 := z 2
                      have z3 := z 3
                      have R := hide (hQ.out.set (.int .i64 (o : Int)) (.bool false) (.string WB) (.string PB))
                      have FR := hide (hQ.out.set_fr FF (.int .i64 (o : Int)) (.bool false) (.string WB) (.string PB))
                      clear z
                      repeat (first | go_values | go_skip | go_guarded | go_step)
                      exact bodyPost_ret (results_cond (.inr rfl) rfl _ R.out rfl) rfl ⟨by rw [EZ.out.1, EZ.out.2, HNN.out]; rfl, FR.out⟩
                    · go_upto_region 46 with fail
                      obtain ⟨V2, hV2⟩ : ∃ V, V = ((V1.setCell ⟨w.heap.size + 1 + 1, 2, none⟩ (.string WB)).setCell ⟨w.heap.size + 1 + 1, 3, none⟩ (.string PB)).setCell ⟨w.heap.size + 1 + 1, 1, none⟩ (.bool true) := ⟨_, rfl⟩
                      obtain ⟨QC, QR, FF⟩ := G.out true
                      rw [← hV2] at QC QR FF ⊢
                      clear hV2 G c1 c2 c3 z1 z2 z3
                      have hQ := hide QR
                      obtain ⟨c0, c1, c2, c3, _, _⟩ := QC
                      obtain ⟨r0, r1, r2, r3, z, _⟩ := QR
                      have z0 := z 0
                      have z1 := z 1
                      have z2 := z 2
                      have z3 := z 3
                      have R := hide (hQ.out.set (.int .i64 (o : Int)) (.bool true) (.string WB) (.string PB))
                      have FR := hide (hQ.out.set_fr FF (.int .i64 (o : Int)) (.bool true) (.string WB) (.string PB))
                      clear z
                      repeat (first | go_values | go_skip | go_guarded | go_step)
                      exact bodyPost_ret (results_cond (.inr rfl) rfl _ R.out rfl) rfl ⟨by rw [EZ.out.1, EZ.out.2, HNN.out]; rfl, FR.out⟩
                    · go_upto_region 46 with fail
                      obtain ⟨V2, hV2⟩ : ∃ V, V = ((V1.setCell ⟨w.heap.size + 1 + 1, 2, none⟩ (.string WB)).setCell ⟨w.heap.size + 1 + 1, 3, none⟩ (.string PB)).setCell ⟨w.heap.size + 1 + 1, 1, none⟩ (.bool true) := ⟨_, rfl⟩
                      obtain ⟨QC, QR, FF⟩ := G.out true
                      rw [← hV2] at QC QR FF ⊢
                      clear hV2 G c1 c2 c3 z1 z2 z3
                      have hQ := hide QR
                      obtain ⟨c0, c1, c2, c3, _, _⟩ := QC
                      obtain ⟨r0, r1, r2, r3, z, _⟩ := QR
                      have z0 := z 0
                      have z1 := z 1
                      have z2 := z 2
                      have z3 := z 3
                      have R := hide (hQ.out.set (.int .i64 (o : Int)) (.bool true) (.string WB) (.string PB))
                      have FR := hide (hQ.out.set_fr FF (.int .i64 (o : Int)) (.bool true) (.string WB) (.string PB))
                      clear z
                      repeat (first | go_values | go_skip | go_guarded | go_step)
                      exact bodyPost_ret (results_cond (.inr rfl) rfl _ R.out rfl) rfl ⟨by rw [EZ.out.1, EZ.out.2, HNN.out]; rfl, FR.out⟩
                    · go_upto_region 46 with fail
                      obtain ⟨V2, hV2⟩ : ∃ V, V = ((V1.setCell ⟨w.heap.size + 1 + 1, 2, none⟩ (.string WB)).setCell ⟨w.heap.size + 1 + 1, 3, none⟩ (.string PB)).setCell ⟨w.heap.size + 1 + 1, 1, none⟩ (.bool false) := ⟨_, rfl⟩
                      obtain ⟨QC, QR, FF⟩ := G.out false
                      rw [← hV2] at QC QR FF ⊢
                      clear hV2 G c1 c2 c3 z1 z2 z3
                      have hQ := hide QR
                      obtain ⟨c0, c1, c2, c3, _, _⟩ := QC
                      obtain ⟨r0, r1, r2, r3, z, _⟩ := QR
                      have z0 := z 0
                      have z1 := z 1
                      have z2 := z 2
                      have z3 := z 3
                      have R := hide (hQ.out.set (.int .i64 (o : Int)) (.bool false) (.string WB) (.string PB))
                      have FR := hide (hQ.out.set_fr FF (.int .i64 (o : Int)) (.bool false) (.string WB) (.string PB))
                      clear z
                      repeat (first | go_values | go_skip | go_guarded | go_step)
                      exact bodyPost_ret (results_cond (.inr rfl) rfl _ R.out rfl) rfl ⟨by rw [EZ.out.1, EZ.out.2, HNN.out]; rfl, FR.out⟩

theorem refParse_any (l : List UInt8) (w : World) (hl : l.length ≤ 1000) :
    Calls Tryd.prog 9 #[.string (bs l)] w fun e w' => e = .returned (.tuple #[cA l, .bool (okD l)]) ∧ Fr w w' := by
  cases l with
  | nil => exact refParse_short [] w (by decide)
  | cons a l =>
    cases l with
    | nil => exact refParse_short [a] w (by simp)
    | cons b r => exact refParse_long a b r w hl
end Go.Proofs.YtmaapdmbkhoigaaDoor
