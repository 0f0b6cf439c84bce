/- The program's Elapsed, and the document's. -/
import Derived.Test.YtiemiekkjaknfaaDoorColN
import Derived.Test.YtiemiekkjaknfaaDoorColM
namespace Go.Proofs.YtiemiekkjaknfaaDoor
set_option linter.unusedVariables false
set_option linter.unusedSimpArgs false
open Go.RowKit

theorem rep_text (c : UInt8) (n : Nat) : (⟨(Lib.repeatL [c] n).toArray⟩ : ByteArray) = strOfNums (List.replicate n (c.toNat : Int)) := by
  refine str_of ?_
  rw [ints_mk]
  induction n with
  | zero => rfl
  | succ n ih => simp only [Lib.repeatL, List.replicate_succ, List.singleton_append, List.map_cons] at ih ⊢; rw [ih]
theorem rep_range (c : UInt8) (n : Nat) : ∀ x ∈ List.replicate n (c.toNat : Int), 0 ≤ x ∧ x ≤ 255 := by
  intro x hx
  have := c.toNat_lt
  rw [List.mem_replicate] at hx
  omega
theorem repeat_any (c : UInt8) (n : Nat) (w : World) (h1 : 1 ≤ n) (h9 : n ≤ 9) :
    Calls Tryd.prog 28 #[.string ⟨#[c]⟩, .int .i64 n] w fun e w' => e = .returned (.string (strOfNums (List.replicate n (c.toNat : Int)))) ∧ Fr w w' := by
  rw [← rep_text]
  refine (Tryd.strings_Repeat ⟨#[c]⟩ n w (by omega) (by show 1 * n ≤ _; omega)).mono ?_
  rintro e w' ⟨rfl, f⟩
  exact ⟨rfl, f⟩
theorem sameRep_any (s : ByteArray) (c : UInt8) (w : World) (hL : Led12 w) (hc : c.toNat < 128) (hl : 97 ≤ c.toNat) (h9 : s.size ≤ 9) :
    Calls Tryd.prog 19 #[.string s, .string (strOfNums (List.replicate s.size (c.toNat : Int)))] w fun e w' => e = .returned (.bool (decide (low (ints s) = List.replicate (ints s).length (c.toNat : Int)))) ∧ Fr w w' := by
  have hi : ints (strOfNums (List.replicate s.size (c.toNat : Int))) = List.replicate s.size (c.toNat : Int) := ints_nums _ (rep_range c _)
  have hz : (strOfNums (List.replicate s.size (c.toNat : Int))).size = s.size := by rw [← ints_length, hi, List.length_replicate]
  refine (same_any s (strOfNums (List.replicate s.size (c.toNat : Int))) w hL.u hL.f (by omega) (by omega) ?_).mono ?_
  · rw [asc_ints, hi]
    intro x hx
    rw [List.mem_replicate] at hx
    omega
  · rintro e w' ⟨rfl, f⟩
    refine ⟨?_, f⟩
    rw [hi, low_rep _ _ (by omega), ints_length]

theorem arr0 (w : World) : (Instr.index 54 (.agg #[.string ⟨#[104]⟩, .string ⟨#[109]⟩, .string ⟨#[115]⟩]) (.int .i64 0)).run Tryd.prog w = .ok (.string ⟨#[104]⟩) w := by kernel_rfl
theorem arr1 (w : World) : (Instr.index 54 (.agg #[.string ⟨#[104]⟩, .string ⟨#[109]⟩, .string ⟨#[115]⟩]) (.int .i64 1)).run Tryd.prog w = .ok (.string ⟨#[109]⟩) w := by kernel_rfl
theorem arr2 (w : World) : (Instr.index 54 (.agg #[.string ⟨#[104]⟩, .string ⟨#[109]⟩, .string ⟨#[115]⟩]) (.int .i64 2)).run Tryd.prog w = .ok (.string ⟨#[115]⟩) w := by kernel_rfl
attribute [local go_sem] arr0 arr1 arr2

set_option maxHeartbeats 2000000 in
set_option maxRecDepth 4000 in
theorem elapsed_any (s : ByteArray) (w : World) (hL : Led12 w) (hs : s.size ≤ 200) :
    Calls Tryd.prog 13 #[.string s] w fun e w' => e = .returned (elV (elN (ints s))) ∧ Fr w w' := by
  by_cases hbad : s.size < 1 ∨ 9 < s.size
  · rw [el_out (ints s) (by rw [ints_length]; exact hbad)]
    clear hL
    rcases hbad with hb | hb
    · go_enter Tryd.func13, Tryd.ntmps13
      go_wp2_with fail
      go_ret3
      exact ⟨by simp only [elV, str_nil]; rfl, Fr.refl _⟩
    · go_enter Tryd.func13, Tryd.ntmps13
      go_wp2_with fail
      go_ret3
      exact ⟨by simp only [elV, str_nil]; rfl, Fr.refl _⟩
  · have hz1 : 1 ≤ s.size := by omega
    have hz9 : s.size ≤ 9 := by omega
    have HR := hide (fun c w => repeat_any c s.size w hz1 hz9)
    have HS := hide (fun c w (hL : Led12 w) hc hl => sameRep_any s c w hL hc hl hz9)
    have HL := hide (fun w' (k : Fr w w') => hL.fr k)
    have HLen := hide (ints_length s)
    have HY := hide (fun c hc h => el_yes (ints s) c (by rw [HLen.out]; exact hz1) (by rw [HLen.out]; exact hz9) hc h)
    have HNo := hide (el_no (ints s))
    have HRh := hide (fun w => HR.out 104 w)
    have HRm := hide (fun w => HR.out 109 w)
    have HRs := hide (fun w => HR.out 115 w)
    have HSh := hide (fun w hL => HS.out 104 w hL (by decide) (by decide))
    have HSm := hide (fun w hL => HS.out 109 w hL (by decide) (by decide))
    have HSs := hide (fun w hL => HS.out 115 w hL (by decide) (by decide))
    change Hid (∀ w, Calls Tryd.prog 28 #[.string ⟨#[104]⟩, .int .i64 s.size] w fun e w' => e = .returned (.string (strOfNums (List.replicate s.size (104 : Int)))) ∧ Fr w w') at HRh
    change Hid (∀ w, Calls Tryd.prog 28 #[.string ⟨#[109]⟩, .int .i64 s.size] w fun e w' => e = .returned (.string (strOfNums (List.replicate s.size (109 : Int)))) ∧ Fr w w') at HRm
    change Hid (∀ w, Calls Tryd.prog 28 #[.string ⟨#[115]⟩, .int .i64 s.size] w fun e w' => e = .returned (.string (strOfNums (List.replicate s.size (115 : Int)))) ∧ Fr w w') at HRs
    change Hid (∀ w, Led12 w → Calls Tryd.prog 19 #[.string s, .string (strOfNums (List.replicate s.size (104 : Int)))] w fun e w' => e = .returned (.bool (decide (low (ints s) = List.replicate (ints s).length (104 : Int)))) ∧ Fr w w') at HSh
    change Hid (∀ w, Led12 w → Calls Tryd.prog 19 #[.string s, .string (strOfNums (List.replicate s.size (109 : Int)))] w fun e w' => e = .returned (.bool (decide (low (ints s) = List.replicate (ints s).length (109 : Int)))) ∧ Fr w w') at HSm
    change Hid (∀ w, Led12 w → Calls Tryd.prog 19 #[.string s, .string (strOfNums (List.replicate s.size (115 : Int)))] w fun e w' => e = .returned (.bool (decide (low (ints s) = List.replicate (ints s).length (115 : Int)))) ∧ Fr w w') at HSs
    have t1 : strOfNums [104] = ⟨#[104]⟩ := by kernel_rfl
    have t2 : strOfNums [109] = ⟨#[109]⟩ := by kernel_rfl
    have t3 : strOfNums [115] = ⟨#[115]⟩ := by kernel_rfl
    have T1 := hide t1
    have T2 := hide t2
    have T3 := hide t3
    clear HR HS hL t1 t2 t3
    generalize strOfNums (List.replicate s.size (104 : Int)) = S1 at *
    generalize strOfNums (List.replicate s.size (109 : Int)) = S2 at *
    generalize strOfNums (List.replicate s.size (115 : Int)) = S3 at *
    by_cases p1 : low (ints s) = List.replicate (ints s).length (104 : Int)
    · have E := hide (HY.out 104 (by simp) p1)
      rw [decide_eq_true p1] at HSh
      clear p1 HY HNo
      go_enter Tryd.func13, Tryd.ntmps13
      go_wp2_with fail
      refine wp_loop_rounds 4 ?_
      rw [rounds_succ]
      go_wp2_with fail
      refine (HRh.out _).mono ?_
      rintro e w1 ⟨rfl, f1⟩
      go_wp2_with fail
      refine (HSh.out _ (HL.out _ f1)).mono ?_
      rintro e w2 ⟨rfl, f2⟩
      go_wp2_with fail
      go_ret3
      exact ⟨by rw [E.out, HLen.out]; simp only [elV, T1.out]; rfl, f1.trans f2⟩
    · rw [decide_eq_false p1] at HSh
      by_cases p2 : low (ints s) = List.replicate (ints s).length (109 : Int)
      · have E := hide (HY.out 109 (by simp) p2)
        rw [decide_eq_true p2] at HSm
        clear p1 p2 HY HNo
        go_enter Tryd.func13, Tryd.ntmps13
        go_wp2_with fail
        refine wp_loop_rounds 4 ?_
        rw [rounds_succ]
        go_wp2_with fail
        refine (HRh.out _).mono ?_
        rintro e w1 ⟨rfl, f1⟩
        go_wp2_with fail
        refine (HSh.out _ (HL.out _ f1)).mono ?_
        rintro e w2 ⟨rfl, f2⟩
        go_wp2_with fail
        rw [rounds_succ]
        go_wp2_with fail
        refine (HRm.out _).mono ?_
        rintro e w3 ⟨rfl, f3⟩
        go_wp2_with fail
        refine (HSm.out _ (HL.out _ (f1.trans (f2.trans f3)))).mono ?_
        rintro e w4 ⟨rfl, f4⟩
        go_wp2_with fail
        go_ret3
        exact ⟨by rw [E.out, HLen.out]; simp only [elV, T2.out]; rfl, f1.trans (f2.trans (f3.trans f4))⟩
      · rw [decide_eq_false p2] at HSm
        by_cases p3 : low (ints s) = List.replicate (ints s).length (115 : Int)
        · have E := hide (HY.out 115 (by simp) p3)
          rw [decide_eq_true p3] at HSs
          clear p1 p2 p3 HY HNo
          go_enter Tryd.func13, Tryd.ntmps13
          go_wp2_with fail
          refine wp_loop_rounds 4 ?_
          rw [rounds_succ]
          go_wp2_with fail
          refine (HRh.out _).mono ?_
          rintro e w1 ⟨rfl, f1⟩
          go_wp2_with fail
          refine (HSh.out _ (HL.out _ f1)).mono ?_
          rintro e w2 ⟨rfl, f2⟩
          go_wp2_with fail
          rw [rounds_succ]
          go_wp2_with fail
          refine (HRm.out _).mono ?_
          rintro e w3 ⟨rfl, f3⟩
          go_wp2_with fail
          refine (HSm.out _ (HL.out _ (f1.trans (f2.trans f3)))).mono ?_
          rintro e w4 ⟨rfl, f4⟩
          go_wp2_with fail
          rw [rounds_succ]
          go_wp2_with fail
          refine (HRs.out _).mono ?_
          rintro e w5 ⟨rfl, f5⟩
          go_wp2_with fail
          refine (HSs.out _ (HL.out _ (f1.trans (f2.trans (f3.trans (f4.trans f5)))))).mono ?_
          rintro e w6 ⟨rfl, f6⟩
          go_wp2_with fail
          go_ret3
          exact ⟨by rw [E.out, HLen.out]; simp only [elV, T3.out]; rfl, f1.trans (f2.trans (f3.trans (f4.trans (f5.trans f6))))⟩
        · have E := hide (HNo.out (by rintro c (rfl | rfl | rfl) <;> assumption))
          rw [decide_eq_false p3] at HSs
          clear p1 p2 p3 HY HNo
          go_enter Tryd.func13, Tryd.ntmps13
          go_wp2_with fail
          refine wp_loop_rounds 4 ?_
          rw [rounds_succ]
          go_wp2_with fail
          refine (HRh.out _).mono ?_
          rintro e w1 ⟨rfl, f1⟩
          go_wp2_with fail
          refine (HSh.out _ (HL.out _ f1)).mono ?_
          rintro e w2 ⟨rfl, f2⟩
          go_wp2_with fail
          rw [rounds_succ]
          go_wp2_with fail
          refine (HRm.out _).mono ?_
          rintro e w3 ⟨rfl, f3⟩
          go_wp2_with fail
          refine (HSm.out _ (HL.out _ (f1.trans (f2.trans f3)))).mono ?_
          rintro e w4 ⟨rfl, f4⟩
          go_wp2_with fail
          rw [rounds_succ]
          go_wp2_with fail
          refine (HRs.out _).mono ?_
          rintro e w5 ⟨rfl, f5⟩
          go_wp2_with fail
          refine (HSs.out _ (HL.out _ (f1.trans (f2.trans (f3.trans (f4.trans f5)))))).mono ?_
          rintro e w6 ⟨rfl, f6⟩
          go_wp2_with fail
          rw [rounds_succ]
          go_wp2_with fail
          go_ret3
          exact ⟨by rw [E.out]; simp only [elV, str_nil]; rfl, f1.trans (f2.trans (f3.trans (f4.trans (f5.trans f6))))⟩

theorem all_same (l : List Int) (c : Int) (h : ∀ k, k < l.length → l[k]? = some c) : l = List.replicate l.length c := by
  apply List.ext_getElem?
  intro k
  by_cases hk : k < l.length
  · rw [h k hk, List.getElem?_replicate, if_pos hk]
  · rw [List.getElem?_eq_none (by omega), List.getElem?_eq_none (by rw [List.length_replicate]; omega)]

set_option maxHeartbeats 2000000 in
set_option maxRecDepth 4000 in
theorem refElapsed_any (s : ByteArray) (w : World) (hs : s.size ≤ 200) :
    Calls Tryd.prog 14 #[.string s] w fun e w' => e = .returned (elV (elN (ints s))) ∧ Fr w w' := by
  have HLs := hide (fun w => low12_any s w (by omega))
  have hT := ints_nums _ (low_nums (ints s) (ints_range s))
  have hlen : (low (ints s)).length = s.size := by unfold low; rw [List.length_map, ints_length]
  have hz := ints_length (strOfNums (low (ints s)))
  rw [hT, hlen] at hz
  have HT := hide hT
  have HLen := hide (ints_length s)
  have HLL := hide hlen
  clear hT hlen
  generalize strOfNums (low (ints s)) = T at *
  by_cases hbad : T.size < 1 ∨ 9 < T.size
  · rw [el_out (ints s) (by rw [HLen.out]; omega)]
    rcases hbad with hb | hb
    · go_enter Tryd.func14, Tryd.ntmps14
      go_wp2_with fail
      refine (HLs.out _).mono ?_
      rintro e w1 ⟨rfl, f1⟩
      go_wp2_with fail
      go_ret3
      exact ⟨by simp only [elV, str_nil]; rfl, f1⟩
    · go_enter Tryd.func14, Tryd.ntmps14
      go_wp2_with fail
      refine (HLs.out _).mono ?_
      rintro e w1 ⟨rfl, f1⟩
      go_wp2_with fail
      go_ret3
      exact ⟨by simp only [elV, str_nil]; rfl, f1⟩
  · have hz1 : 1 ≤ T.size := by omega
    have hz9 : T.size ≤ 9 := by omega
    have h00 : 0 < T.size := by omega
    clear hbad
    have q0 := bt_at T 0 h00
    have r0 := bt_range T 0 h00
    have HQ := hide (fun k hk => bt_at T k hk)
    have HG := hide (fun k hk => bt_get T k hk)
    have HO := hide (str_one T 0 h00)
    have HNo := hide (el_no (ints s))
    have HY := hide (fun c hc h => el_yes (ints s) c (by rw [HLen.out]; omega) (by rw [HLen.out]; omega) hc h)
    have hz' := hz
    obtain ⟨c, hc⟩ : ∃ c, bt T 0 = c := ⟨_, rfl⟩
    have HB0 := hide hc
    rw [hc] at q0 r0 HO
    clear hc
    have hget0 : (low (ints s))[0]? = some c := by rw [← HT.out, HG.out 0 (by omega), HB0.out]
    have HG0 := hide hget0
    have HSZ := hide hz'
    clear hget0 hz hz'
    have HNN : Hid (∀ c', c' ≠ c → low (ints s) ≠ List.replicate (ints s).length c') := hide (by
      intro c' hne e
      have h := HG0.out
      rw [e, List.getElem?_replicate, if_pos (by rw [HLen.out, HSZ.out]; omega)] at h
      injection h with h
      exact hne h)
    by_cases hc3 : c = 104 ∨ c = 109 ∨ c = 115
    · rcases hc3 with rfl | rfl | rfl
      all_goals
        go_enter Tryd.func14, Tryd.ntmps14
        go_wp2_with fail
        refine (HLs.out _).mono ?_
        rintro e w1 ⟨rfl, f1⟩
        go_wp2_with fail
        go_loopw [6] (fun i wr => ∃ k : Nat, k ≤ T.size ∧ i = .int .i64 k ∧ Hid (∀ j, j < k → (low (ints s))[j]? = some (bt T 0)) ∧ Fr w wr) (fun i _ => T.size - (intOf i).toNat)
        case atStart => exact ⟨0, by omega, rfl, hide (by intro j hj; omega), f1⟩
        case round =>
          obtain ⟨k, hk, rfl, HI, hF⟩ := hrel
          by_cases hlt : k < T.size
          · have qk := HQ.out k hlt
            have gk := hide (HG.out k hlt)
            obtain ⟨x, hx⟩ : ∃ x, bt T k = x := ⟨_, rfl⟩
            rw [hx] at qk gk
            clear hx
            by_cases hxc : x = bt T 0
            · have HI2 : Hid (∀ j, j < k + 1 → (low (ints s))[j]? = some (bt T 0)) := hide (by
                intro j hj
                by_cases e : j = k
                · subst e; rw [← HT.out, gk.out, hxc]
                · exact HI.out j (by omega))
              rw [hxc, HB0.out] at qk
              clear hxc
              go_wp2_with fail
              go_quiet (fail)
              go_wp2_with fail
              go_roundw
              case rel => exact ⟨k + 1, by omega, by go_num, HI2, hF.trans (Fr.drewN _ _)⟩
              case measure => simp [intOf]; omega
            · have HNE : Hid (elN (ints s) = ([], 0, false)) := hide (HNo.out (by
                intro c' _ e
                by_cases hcc : c' = bt T 0
                · have h : (low (ints s))[k]? = some x := by rw [← HT.out]; exact gk.out
                  rw [e, List.getElem?_replicate, if_pos (by rw [HLen.out, HSZ.out]; omega)] at h
                  injection h with h
                  exact hxc (h.symm.trans hcc)
                · exact HNN.out c' (by rw [← HB0.out]; exact hcc) e))
              have hb := hxc
              rw [HB0.out] at hb
              have hne := bne_iff_ne.2 hb
              clear hxc hb
              go_wp2_with fail
              go_quiet (fail)
              go_wp2_with fail
              go_ret3
              exact ⟨by rw [HNE.out]; simp only [elV, str_nil]; rfl, hF.trans (Fr.drewN _ _)⟩
          · have hke : k = T.size := by omega
            subst hke
            have E := hide (HY.out (bt T 0) (by rw [HB0.out]; simp) (by
              refine (all_same (low (ints s)) (bt T 0) ?_).trans ?_
              · intro j hj; exact HI.out j (by rw [← HSZ.out, ← HLL.out]; exact hj)
              · rw [HLL.out, HLen.out]))
            go_wp2_with fail
            go_ret3
            exact ⟨by rw [E.out, HB0.out, HLen.out, HSZ.out, elV, ← HO.out]; rfl, hF⟩
    · have n1 : (c != 104) = true := by rw [bne_iff_ne]; omega
      have n2 : (c != 109) = true := by rw [bne_iff_ne]; omega
      have n3 : (c != 115) = true := by rw [bne_iff_ne]; omega
      have E := hide (HNo.out (by intro c' hc' e; exact HNN.out c' (by omega) e))
      clear hc3
      go_enter Tryd.func14, Tryd.ntmps14
      go_wp2_with fail
      refine (HLs.out _).mono ?_
      rintro e w1 ⟨rfl, f1⟩
      go_wp2_with fail
      go_ret3
      exact ⟨by rw [E.out]; simp only [elV, str_nil]; rfl, f1⟩
end Go.Proofs.YtiemiekkjaknfaaDoor
