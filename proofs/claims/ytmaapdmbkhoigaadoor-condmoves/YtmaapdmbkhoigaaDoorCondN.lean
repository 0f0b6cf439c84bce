/- The law CondHolds. -/
import Derived.Test.YtmaapdmbkhoigaaDoorCondL
import Derived.Test.YtmaapdmbkhoigaaDoorCondM
namespace Go.Proofs.YtmaapdmbkhoigaaDoor
set_option linter.unusedVariables false
set_option linter.unusedSimpArgs false
open Go.RowKit

attribute [local go_sem] World.cell?_alloc_some
theorem u64_nat13 {b : Int} (h : (Lit.int .u64 b).wf = true) : ∃ x : Nat, b = (x : Int) ∧ x < 18446744073709551616 := by
  simp [Lit.wf, IntKind.min, IntKind.max, IntKind.signed, IntKind.bits] at h
  exact ⟨b.toNat, by omega, by omega⟩
/-- What is told of a text's condition holds by both. -/
theorem refHolds_told {l : List UInt8} (h : okD l = true) (b : Nat) (w : World) (hb : b < 18446744073709551616) :
    Calls Tryd.prog 16 #[.agg #[.int .i64 (opD l : Int), .bool (nD (reD l)), .string (bs (wD (reD l))), .string (bs (pD (reD l)))], .int .u64 (b : Int)] w fun e w' => e = .returned (.bool (hV (opD l) (nD (reD l)) (wD (reD l)) (pD (reD l)) b)) ∧ Fr w w' := by
  have hm := may_told h
  obtain ⟨h1, h6, wA, pA, lW, lP⟩ := may_has hm
  by_cases hc : bC b ≤ 1
  · have := refHolds_any13 b (opD l : Int) (nD (reD l)) (wD (reD l)) (pD (reD l)) w hb hc (by omega) (by omega) wA pA lW lP
    rw [Int.toNat_natCast] at this
    unfold hV
    rw [hm, decide_eq_true hc]
    exact this
  · have := refHolds_out13 b (opD l : Int) (nD (reD l)) (bs (wD (reD l))) (bs (pD (reD l))) w hb (by omega)
    unfold hV
    rw [hm, decide_eq_false hc]
    exact this
theorem parts_le (l : List UInt8) : (wD l).length ≤ l.length ∧ (pD l).length ≤ l.length + 1 := by
  refine ⟨Nat.le_trans (trimLeft_len _) (whD_le l), ?_⟩
  rw [pD_pv]
  exact Nat.le_trans (trimRight_le _) (pvD_le l)
theorem reD_le (l : List UInt8) : (reD l).length ≤ l.length := by unfold reD; rw [List.length_drop]; omega
/-- A text's head of m bytes at most. -/
theorem head_of (s : ByteArray) (m : Nat) (h : m ≤ s.size) : ∃ l : List UInt8, s.extract 0 m = bs l ∧ l.length = m := by
  refine ⟨s.data.toList.take m, ?_, by rw [List.length_take, len_data]; omega⟩
  rw [bs_eta s, bs_upto, bs_data]

set_option maxHeartbeats 4000000 in
set_option maxRecDepth 4000 in
theorem law_CondHolds (s0 : ByteArray) (bi : Int) (w : World) (hs0 : s0.size ≤ maxLen) (hbw : (Lit.int .u64 bi).wf = true) (hL : Led13 w) :
    Calls Tryd.prog 5 #[.string s0, .int .u64 bi] w fun e w' => e = .returned (.bool true) ∧ Fr w w' := by
  obtain ⟨b, rfl, hb⟩ := u64_nat13 hbw
  unfold maxLen at hs0
  obtain ⟨m, hm, m1, m2⟩ : ∃ m : Nat, min (s0.size : Int) 70 = (m : Int) ∧ m ≤ s0.size ∧ m ≤ 70 := ⟨min s0.size 70, by omega, by omega, by omega⟩
  obtain ⟨l, hl, hll⟩ := head_of s0 m m1
  have HL := hide (fun w' (f : Fr w w') => hL.fr f)
  have HPa := hide (fun w (h : Led13 w) => parse_any13 l w h.2.1 h.2.2 (by omega))
  have HW := hide (fun w (h : Led13 w) => wakes_any13 w h)
  have BO := hide (fun w => of_any7 b w hb)
  have m3 : (m : Int) ≤ s0.size := by omega
  have m4 : (m : Int).toNat = m := by omega
  clear hbw hL
  cases hok : okD l
  · rw [hok, cA_no hok] at HPa
    clear hok BO
    generalize bs l = s at *
    go_enter Tryd.func5, Tryd.ntmps5
    go_wp2_with fail
    refine (HPa.out _ (HL.out _ (Fr.refl _))).mono ?_
    rintro e w1 ⟨rfl, f1⟩
    have F := hide (f1.trans (Fr.alloc _ (.cells #[.int .i64 0, .bool false, .string ⟨#[]⟩, .string ⟨#[]⟩] 24)))
    clear f1
    go_wp2_with fail
    refine (HW.out _ (HL.out _ F.out)).mono ?_
    rintro e w2 ⟨rfl, f2⟩
    have F := hide (F.out.trans f2)
    go_wp2_with fail
    go_ret
    exact ⟨rfl, F.out⟩
  · rw [hok, cA_yes hok] at HPa
    have hmt := may_told hok
    have hpl := parts_le (reD l)
    have hrl := reD_le l
    have HH := hide (fun w (h : Led13 w) => (show Calls Tryd.prog 14 #[.agg #[.int .i64 (opD l : Int), .bool (nD (reD l)), .string (bs (wD (reD l))), .string (bs (pD (reD l)))], bval b] w fun e w' => e = .returned (.bool (hV (opD l) (nD (reD l)) (wD (reD l)) (pD (reD l)) b)) ∧ Fr w w' by
      have := holds_any13 (opD l : Int) (nD (reD l)) (wD (reD l)) (pD (reD l)) b w hb h.1 h.2.1 h.2.2 (by omega) (by omega)
      rwa [Int.toNat_natCast] at this))
    have HO := hide (fun w => ofc_any13 (opD l : Int) (nD (reD l)) (bs (wD (reD l))) (bs (pD (reD l))) w)
    have HR := hide (fun w => refHolds_told hok b w hb)
    clear hok hmt hpl hrl
    generalize hV (opD l) (nD (reD l)) (wD (reD l)) (pD (reD l)) b = R at *
    generalize bs (wD (reD l)) = WB at *
    generalize bs (pD (reD l)) = PB at *
    generalize nD (reD l) = n at *
    generalize opD l = op at *
    generalize bs l = s at *
    generalize bval b = v at *
    go_enter Tryd.func5, Tryd.ntmps5
    go_wp2_with fail
    refine (HPa.out _ (HL.out _ (Fr.refl _))).mono ?_
    rintro e w1 ⟨rfl, f1⟩
    have C := Quad.new f1 (.int .i64 (op : Int)) (.bool n) (.string WB) (.string PB) 24
    have F := f1.trans (Fr.alloc _ (.cells #[.int .i64 (op : Int), .bool n, .string WB, .string PB] 24))
    clear f1
    go_wp2_with fail
    obtain ⟨W3, hW3⟩ : ∃ W3, W3 = w1.alloc (Obj.cells #[.int .i64 (op : Int), .bool n, .string WB, .string PB] 24) := ⟨_, rfl⟩
    rw [← hW3] at C F ⊢
    clear hW3
    have C := hide C
    have F := hide F
    have b0 := fun p : FrBox W3 => (C.out.fr p.fr).1
    have b1 := fun p : FrBox W3 => (C.out.fr p.fr).2.1
    have b2 := fun p : FrBox W3 => (C.out.fr p.fr).2.2.1
    have b3 := fun p : FrBox W3 => (C.out.fr p.fr).2.2.2.1
    have k1 := hide (fun p : FrBox W3 => Calls.fr_of (HW.out p.now (HL.out _ (F.out.trans p.fr))))
    have k2 := hide (fun p : FrBox W3 => Calls.fr_of (BO.out p.now))
    have k3 := hide (fun p : FrBox W3 => Calls.fr_of (HH.out p.now (HL.out _ (F.out.trans p.fr))))
    have k4 := hide (fun p : FrBox W3 => Calls.fr_of (HO.out p.now))
    have k5 := hide (fun p : FrBox W3 => Calls.fr_of (HR.out p.now))
    have nb := FrBox.some W3
    refine wp_region_fr (by kernel_rfl) (by kernel_rfl) ?_
    repeat (quiet_step (first | with_reducible exact k1.out _ | with_reducible exact k2.out _ | with_reducible exact k3.out _ | with_reducible exact k4.out _ | with_reducible exact k5.out _))
    refine wpQuiet_nil ?_
    intro wq hq
    obtain ⟨p, hp⟩ := hq
    have fq := p.fr
    rw [← hp] at fq
    clear hp b0 b1 b2 b3 k1 k2 k3 k4 k5 nb p
    go_wp2_with fail
    go_ret
    exact ⟨rfl, F.out.trans fq⟩
end Go.Proofs.YtmaapdmbkhoigaaDoor
