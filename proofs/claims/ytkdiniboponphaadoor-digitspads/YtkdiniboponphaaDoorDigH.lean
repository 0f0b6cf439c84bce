/- The law DigitsPads. -/
import Derived.Test.YtkdiniboponphaaDoorDigF
import Derived.Deep.DeepCutAuto
namespace Go.Proofs.YtkdiniboponphaaDoor
set_option linter.unusedVariables false
set_option linter.unusedSimpArgs false
open Go.RowKit

attribute [local go_sem] World.cell?_alloc_some
/-- What is wanted of Pad. -/
def wantP (s : ByteArray) (n : Int) : ByteArray := if n ≤ 65536 then bs (padD n.toNat s.data.toList) else s
theorem wantP_few {s : ByteArray} {n : Int} (h : n ≤ (s.size : Int)) : wantP s n = s := by
  unfold wantP
  split
  · unfold padD
    rw [len_data, show n.toNat - s.size = 0 by omega]
    exact (bs_eta s).symm
  · rfl
theorem wantP_great {s : ByteArray} {n : Int} (h : ¬ n ≤ 65536) : wantP s n = s := by unfold wantP; rw [if_neg h]
theorem wantP_more {s : ByteArray} {n : Int} {c : Nat} (h : n ≤ 65536) (hc : n - (s.size : Int) = c) : bs (Lib.repeatL [48] c) ++ s = wantP s n := by
  unfold wantP
  rw [if_pos h]
  conv => lhs; rw [bs_eta s, bs_append, repeat_zeros]
  unfold padD
  rw [len_data, show n.toNat - s.size = c by omega]
theorem same_text {a b : ByteArray} (h : a = b) : (a.toList == b.toList) = true := by rw [h]; simp

set_option maxHeartbeats 4000000 in
set_option maxRecDepth 4000 in
theorem law_DigitsPads (s0 : ByteArray) (n : Int) (w : World) (hs0 : s0.size ≤ maxLen) (hn : (Lit.int .i64 n).wf = true) (hP : PT w) :
    Calls Tryd.prog 6 #[.string s0, .int .i64 n] w fun e w' => e = .returned (.bool true) ∧ Fr w w' := by
  have hnb : -9223372036854775808 ≤ n ∧ n ≤ 9223372036854775807 := by simpa [Lit.wf, IntKind.min, IntKind.max, IntKind.signed, IntKind.bits] using hn
  obtain ⟨n0, n1⟩ := hnb
  unfold maxLen at hs0
  obtain ⟨m, hm, m1, m2⟩ : ∃ m : Nat, min (s0.size : Int) 60 = (m : Int) ∧ m ≤ s0.size ∧ m ≤ 60 := ⟨min s0.size 60, by omega, by omega, by omega⟩
  obtain ⟨s, hs⟩ : ∃ s, s0.extract 0 m = s := ⟨_, rfl⟩
  have hsz : s.size = m := by rw [← hs]; exact (cut_data s0 m m1).2.2.1
  have hsb : s.size ≤ 60 := by omega
  obtain ⟨T, hT⟩ : ∃ T, bs (Lib.trimRightB s.data.toList 48) = T := ⟨_, rfl⟩
  obtain ⟨WT, hWT⟩ : ∃ WT, wantP s n = WT := ⟨_, rfl⟩
  have HTR := hide (fun w => trim_any6 s w (by unfold maxLen; omega))
  rw [hT] at HTR
  have HPD := hide (fun w => pad_any s n w (by omega) n0 n1)
  rw [show (if n ≤ 65536 then bs (padD n.toNat s.data.toList) else s) = WT from hWT] at HPD
  have hTs : T.size ≤ 60 := by rw [← hT, bs_size]; have := trimRight_le s.data.toList; rw [len_data] at this; omega
  have hzz : (⟨#[48, 48, 48]⟩ : ByteArray).size = 3 := rfl
  obtain ⟨T3, hT3⟩ : ∃ T3, T ++ (⟨#[48, 48, 48]⟩ : ByteArray) = T3 := ⟨_, rfl⟩
  have hT3' : T3 = bs (Lib.trimRightB s.data.toList 48 ++ [48, 48, 48]) := by
    rw [← hT3, ← hT, ← bs_append]
  have HT3 : Hid (∀ w, Calls Tryd.prog 22 #[.string T3] w fun e w' => e = .returned (.string T) ∧ w' = w) := by
    refine hide ?_
    intro w
    have h := trim_any6 T3 w (by rw [hT3', bs_size, List.length_append]; have := trimRight_le s.data.toList; rw [len_data] at this; unfold maxLen; simp; omega)
    rw [hT3', bs_data] at h
    rw [show Lib.trimRightB s.data.toList 48 ++ [48, 48, 48] = ((Lib.trimRightB s.data.toList 48 ++ [48]) ++ [48]) ++ [48] by simp, trimRight_snoc, trimRight_snoc, trimRight_snoc, trimRight_twice, hT] at h
    rw [hT3']
    rw [show Lib.trimRightB s.data.toList 48 ++ [48, 48, 48] = ((Lib.trimRightB s.data.toList 48 ++ [48]) ++ [48]) ++ [48] by simp]
    exact h
  have HW := hide hWT
  have HTT := hide hT
  have HP := hide hP
  have HTS := hide (same_text (rfl : T = T))
  clear hWT hT hn hP hT3'
  -- THE WAYS
  by_cases hA : n ≤ 65536
  · by_cases hB : n ≤ (s.size : Int)
    · have hB' : n ≤ (m : Int) := by omega
      have HWV : wantP s n = s := wantP_few hB
      have FF : Hid (Fr w w) := hide (Fr.refl _)
      go_enter Tryd.func6, Tryd.ntmps6
      have HWW : Hid (WT = s) := hide (by rw [← HW.out]; exact HWV)
      go_wp2_with fail
      refine (HTR.out _).mono ?_
      rintro e w' ⟨rfl, hw⟩
      obtain rfl := hw.symm
      clear hw
      go_wp2_with fail
      go_loopw [7] (fun i wr => ∃ k : Nat, k ≤ s.size ∧ i = .int .i64 k ∧ Hid (∀ (j : Nat) b, k ≤ j → s.data.toList[j]? = some b → b = 48) ∧ Hid (Fr w wr)) (fun i _ => (intOf i).toNat)
      case atStart =>
        refine ⟨m, by omega, rfl, hide (fun j b hj hb => ?_), FF⟩
        rw [List.getElem?_eq_none (by rw [len_data]; omega)] at hb
        cases hb
      case round =>
        obtain ⟨k, hk, rfl, hK, hF⟩ := hrel
        by_cases hstop : 0 < k ∧ s.data.toList[k - 1]? = some 48
        · obtain ⟨k0, h48⟩ := hstop
          obtain ⟨j, rfl⟩ : ∃ j, k = j + 1 := ⟨k - 1, by omega⟩
          obtain ⟨c, hc, hd⟩ := data_at s j (by omega)
          rw [Nat.add_sub_cancel, hd] at h48
          cases h48
          have hcz : ((s[j]'(by omega)).toNat : Int) = 48 := by rw [hc]; rfl
          have HD := hide hd
          clear hd hc
          go_wp2_with fail
          go_roundw
          case rel =>
            refine ⟨j, by omega, by go_num, hide (fun i b hi hb => ?_), hF⟩
            rcases Nat.lt_or_ge j i with q | q
            · exact hK.out i b q hb
            · obtain rfl : i = j := by omega
              rw [HD.out] at hb
              cases hb
              rfl
          case measure => simp [intOf]
        · have hTk : T = s.extract 0 k := by
            rw [← HTT.out, Lib.trimRightB_take s.data.toList 48 k (by rw [len_data]; omega) hK.out (fun b h0 hb e => hstop ⟨h0, by rw [hb, e]⟩), ← (cut_data s k hk).1]
          have hkm : k ≤ m := by omega
          have q1 := same_text hTk
          have q2 := same_text HWW.out
          have q3 := same_text (rfl : T = T)
          have FW := hide hF.out
          have HT0 := hide hTk
          clear hTk
          by_cases hk0 : k = 0
          · subst hk0
            clear hstop
            have qT : T.toList = [] := by rw [HT0.out, Lib.toList_data, (cut_data s 0 hk).1]; rfl
            go_wp2_with fail
            refine (wakes_any _ (PT.fr HP.out FW.out)).mono ?_
            rintro e w4 ⟨rfl, f4⟩
            have FW := hide (FW.out.trans f4)
            clear f4
            go_wp2_with fail
            refine (HPD.out _).mono ?_
            rintro e w5 ⟨rfl, f5⟩
            have FW := hide (FW.out.trans f5)
            clear f5
            go_wp2_with fail
            refine (HT3.out _).mono ?_
            rintro e w' ⟨rfl, rfl⟩
            go_wp2_with fail
            go_ret
            exact ⟨rfl, FW.out⟩
          · obtain ⟨j, rfl⟩ : ∃ j, k = j + 1 := ⟨k - 1, by omega⟩
            obtain ⟨c, hc, hd⟩ := data_at s j (by omega)
            have hne : ¬ (c.toNat = 48) := fun h => hstop ⟨by omega, by rw [Nat.add_sub_cancel, hd, show c = 48 from UInt8.toNat_inj.1 h]⟩
            obtain ⟨z, hz⟩ : ∃ z : Int, (c.toNat : Int) = z := ⟨_, rfl⟩
            have hcz : ((s[j]'(by omega)).toNat : Int) = z := by rw [hc, hz]
            have hzb : (z == 48) = false := by rw [← hz]; simp; omega
            clear hstop hd hc hne hz
            go_wp2_with fail
            refine (wakes_any _ (PT.fr HP.out FW.out)).mono ?_
            rintro e w4 ⟨rfl, f4⟩
            have FW := hide (FW.out.trans f4)
            clear f4
            go_wp2_with fail
            refine (HPD.out _).mono ?_
            rintro e w5 ⟨rfl, f5⟩
            have FW := hide (FW.out.trans f5)
            clear f5
            go_wp2_with fail
            refine (HT3.out _).mono ?_
            rintro e w' ⟨rfl, rfl⟩
            go_wp2_with fail
            go_ret
            exact ⟨rfl, FW.out⟩
    · obtain ⟨c, hc⟩ : ∃ c : Nat, n - (s.size : Int) = (c : Int) := ⟨(n - s.size).toNat, by omega⟩
      have hB' : ¬ n ≤ (m : Int) := by omega
      have hc' : n - (m : Int) = (c : Int) := by omega
      obtain ⟨WV, hWV⟩ : ∃ WV, bs (Lib.repeatL [48] c) ++ s = WV := ⟨_, rfl⟩
      have HWV : wantP s n = WV := by rw [← hWV]; exact (wantP_more hA hc).symm
      have hz : (bs (Lib.repeatL [48] c)).size = c := by rw [bs_size, Lib.repeatL_length]; simp
      have HR := hide (Tryd.strings_Repeat (bs [48]) c w (by omega) (by rw [bs_size]; simp; omega))
      rw [bs_data] at HR
      go_enter Tryd.func6, Tryd.ntmps6
      go_wp2_with fail
      refine HR.out.mono ?_
      rintro e w1 ⟨rfl, f1⟩
      have FF := hide f1
      clear f1
      have HWW : Hid (WT = WV) := hide (by rw [← HW.out]; exact HWV)
      go_wp2_with fail
      refine (HTR.out _).mono ?_
      rintro e w' ⟨rfl, hw⟩
      obtain rfl := hw.symm
      clear hw
      go_wp2_with fail
      go_loopw [7] (fun i wr => ∃ k : Nat, k ≤ s.size ∧ i = .int .i64 k ∧ Hid (∀ (j : Nat) b, k ≤ j → s.data.toList[j]? = some b → b = 48) ∧ Hid (Fr w wr)) (fun i _ => (intOf i).toNat)
      case atStart =>
        refine ⟨m, by omega, rfl, hide (fun j b hj hb => ?_), FF⟩
        rw [List.getElem?_eq_none (by rw [len_data]; omega)] at hb
        cases hb
      case round =>
        obtain ⟨k, hk, rfl, hK, hF⟩ := hrel
        by_cases hstop : 0 < k ∧ s.data.toList[k - 1]? = some 48
        · obtain ⟨k0, h48⟩ := hstop
          obtain ⟨j, rfl⟩ : ∃ j, k = j + 1 := ⟨k - 1, by omega⟩
          obtain ⟨c, hc, hd⟩ := data_at s j (by omega)
          rw [Nat.add_sub_cancel, hd] at h48
          cases h48
          have hcz : ((s[j]'(by omega)).toNat : Int) = 48 := by rw [hc]; rfl
          have HD := hide hd
          clear hd hc
          go_wp2_with fail
          go_roundw
          case rel =>
            refine ⟨j, by omega, by go_num, hide (fun i b hi hb => ?_), hF⟩
            rcases Nat.lt_or_ge j i with q | q
            · exact hK.out i b q hb
            · obtain rfl : i = j := by omega
              rw [HD.out] at hb
              cases hb
              rfl
          case measure => simp [intOf]
        · have hTk : T = s.extract 0 k := by
            rw [← HTT.out, Lib.trimRightB_take s.data.toList 48 k (by rw [len_data]; omega) hK.out (fun b h0 hb e => hstop ⟨h0, by rw [hb, e]⟩), ← (cut_data s k hk).1]
          have hkm : k ≤ m := by omega
          have q1 := same_text hTk
          have q2 := same_text HWW.out
          have q3 := same_text (rfl : T = T)
          have FW := hide hF.out
          have HT0 := hide hTk
          clear hTk
          by_cases hk0 : k = 0
          · subst hk0
            clear hstop
            have qT : T.toList = [] := by rw [HT0.out, Lib.toList_data, (cut_data s 0 hk).1]; rfl
            go_wp2_with fail
            refine (wakes_any _ (PT.fr HP.out FW.out)).mono ?_
            rintro e w4 ⟨rfl, f4⟩
            have FW := hide (FW.out.trans f4)
            clear f4
            go_wp2_with fail
            refine (HPD.out _).mono ?_
            rintro e w5 ⟨rfl, f5⟩
            have FW := hide (FW.out.trans f5)
            clear f5
            go_wp2_with fail
            refine (HT3.out _).mono ?_
            rintro e w' ⟨rfl, rfl⟩
            go_wp2_with fail
            go_ret
            exact ⟨rfl, FW.out⟩
          · obtain ⟨j, rfl⟩ : ∃ j, k = j + 1 := ⟨k - 1, by omega⟩
            obtain ⟨c, hc, hd⟩ := data_at s j (by omega)
            have hne : ¬ (c.toNat = 48) := fun h => hstop ⟨by omega, by rw [Nat.add_sub_cancel, hd, show c = 48 from UInt8.toNat_inj.1 h]⟩
            obtain ⟨z, hz⟩ : ∃ z : Int, (c.toNat : Int) = z := ⟨_, rfl⟩
            have hcz : ((s[j]'(by omega)).toNat : Int) = z := by rw [hc, hz]
            have hzb : (z == 48) = false := by rw [← hz]; simp; omega
            clear hstop hd hc hne hz
            go_wp2_with fail
            refine (wakes_any _ (PT.fr HP.out FW.out)).mono ?_
            rintro e w4 ⟨rfl, f4⟩
            have FW := hide (FW.out.trans f4)
            clear f4
            go_wp2_with fail
            refine (HPD.out _).mono ?_
            rintro e w5 ⟨rfl, f5⟩
            have FW := hide (FW.out.trans f5)
            clear f5
            go_wp2_with fail
            refine (HT3.out _).mono ?_
            rintro e w' ⟨rfl, rfl⟩
            go_wp2_with fail
            go_ret
            exact ⟨rfl, FW.out⟩
  · have HWV : wantP s n = s := wantP_great hA
    have FF : Hid (Fr w w) := hide (Fr.refl _)
    go_enter Tryd.func6, Tryd.ntmps6
    have HWW : Hid (WT = s) := hide (by rw [← HW.out]; exact HWV)
    go_wp2_with fail
    refine (HTR.out _).mono ?_
    rintro e w' ⟨rfl, hw⟩
    obtain rfl := hw.symm
    clear hw
    go_wp2_with fail
    go_loopw [7] (fun i wr => ∃ k : Nat, k ≤ s.size ∧ i = .int .i64 k ∧ Hid (∀ (j : Nat) b, k ≤ j → s.data.toList[j]? = some b → b = 48) ∧ Hid (Fr w wr)) (fun i _ => (intOf i).toNat)
    case atStart =>
      refine ⟨m, by omega, rfl, hide (fun j b hj hb => ?_), FF⟩
      rw [List.getElem?_eq_none (by rw [len_data]; omega)] at hb
      cases hb
    case round =>
      obtain ⟨k, hk, rfl, hK, hF⟩ := hrel
      by_cases hstop : 0 < k ∧ s.data.toList[k - 1]? = some 48
      · obtain ⟨k0, h48⟩ := hstop
        obtain ⟨j, rfl⟩ : ∃ j, k = j + 1 := ⟨k - 1, by omega⟩
        obtain ⟨c, hc, hd⟩ := data_at s j (by omega)
        rw [Nat.add_sub_cancel, hd] at h48
        cases h48
        have hcz : ((s[j]'(by omega)).toNat : Int) = 48 := by rw [hc]; rfl
        have HD := hide hd
        clear hd hc
        go_wp2_with fail
        go_roundw
        case rel =>
          refine ⟨j, by omega, by go_num, hide (fun i b hi hb => ?_), hF⟩
          rcases Nat.lt_or_ge j i with q | q
          · exact hK.out i b q hb
          · obtain rfl : i = j := by omega
            rw [HD.out] at hb
            cases hb
            rfl
        case measure => simp [intOf]
      · have hTk : T = s.extract 0 k := by
          rw [← HTT.out, Lib.trimRightB_take s.data.toList 48 k (by rw [len_data]; omega) hK.out (fun b h0 hb e => hstop ⟨h0, by rw [hb, e]⟩), ← (cut_data s k hk).1]
        have hkm : k ≤ m := by omega
        have q1 := same_text hTk
        have q2 := same_text HWW.out
        have q3 := same_text (rfl : T = T)
        have FW := hide hF.out
        have HT0 := hide hTk
        clear hTk
        by_cases hk0 : k = 0
        · subst hk0
          clear hstop
          have qT : T.toList = [] := by rw [HT0.out, Lib.toList_data, (cut_data s 0 hk).1]; rfl
          go_wp2_with fail
          refine (wakes_any _ (PT.fr HP.out FW.out)).mono ?_
          rintro e w4 ⟨rfl, f4⟩
          have FW := hide (FW.out.trans f4)
          clear f4
          go_wp2_with fail
          refine (HPD.out _).mono ?_
          rintro e w5 ⟨rfl, f5⟩
          have FW := hide (FW.out.trans f5)
          clear f5
          go_wp2_with fail
          refine (HT3.out _).mono ?_
          rintro e w' ⟨rfl, rfl⟩
          go_wp2_with fail
          go_ret
          exact ⟨rfl, FW.out⟩
        · obtain ⟨j, rfl⟩ : ∃ j, k = j + 1 := ⟨k - 1, by omega⟩
          obtain ⟨c, hc, hd⟩ := data_at s j (by omega)
          have hne : ¬ (c.toNat = 48) := fun h => hstop ⟨by omega, by rw [Nat.add_sub_cancel, hd, show c = 48 from UInt8.toNat_inj.1 h]⟩
          obtain ⟨z, hz⟩ : ∃ z : Int, (c.toNat : Int) = z := ⟨_, rfl⟩
          have hcz : ((s[j]'(by omega)).toNat : Int) = z := by rw [hc, hz]
          have hzb : (z == 48) = false := by rw [← hz]; simp; omega
          clear hstop hd hc hne hz
          go_wp2_with fail
          refine (wakes_any _ (PT.fr HP.out FW.out)).mono ?_
          rintro e w4 ⟨rfl, f4⟩
          have FW := hide (FW.out.trans f4)
          clear f4
          go_wp2_with fail
          refine (HPD.out _).mono ?_
          rintro e w5 ⟨rfl, f5⟩
          have FW := hide (FW.out.trans f5)
          clear f5
          go_wp2_with fail
          refine (HT3.out _).mono ?_
          rintro e w' ⟨rfl, rfl⟩
          go_wp2_with fail
          go_ret
          exact ⟨rfl, FW.out⟩
end Go.Proofs.YtkdiniboponphaaDoor
