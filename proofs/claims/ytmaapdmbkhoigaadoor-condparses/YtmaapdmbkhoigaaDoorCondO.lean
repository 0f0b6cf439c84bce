/- The law CondParses. -/
import Derived.Test.YtmaapdmbkhoigaaDoorCondN
namespace Go.Proofs.YtmaapdmbkhoigaaDoor
set_option linter.unusedVariables false
set_option linter.unusedSimpArgs false
open Go.RowKit

attribute [local go_sem] World.cell?_alloc_some
set_option maxHeartbeats 4000000 in
set_option maxRecDepth 4000 in
theorem law_CondParses (s0 : ByteArray) (w : World) (hs0 : s0.size ≤ maxLen) (hL : Led13 w) :
    Calls Tryd.prog 3 #[.string s0] w fun e w' => e = .returned (.bool true) ∧ Fr w w' := by
  unfold maxLen at hs0
  obtain ⟨m, hm, m1, m2⟩ : ∃ m : Nat, min (s0.size : Int) 80 = (m : Int) ∧ m ≤ s0.size ∧ m ≤ 80 := ⟨min s0.size 80, by omega, by omega, by omega⟩
  obtain ⟨l, hl, hll⟩ := head_of s0 m m1
  have HL := hide (fun w' (f : Fr w w') => hL.fr f)
  have HPa := hide (fun w (h : Led13 w) => parse_any13 l w h.2.1 h.2.2 (by omega))
  have HPb := hide (fun w => refParse_any l w (by omega))
  have HW := hide (fun w (h : Led13 w) => wakes_any13 w h)
  have m3 : (m : Int) ≤ s0.size := by omega
  have m4 : (m : Int).toNat = m := by omega
  clear hL
  cases hok : okD l
  · rw [hok, cA_no hok] at HPa HPb
    have HT := hide (fun w (h : Led13 w) => (show Calls Tryd.prog 11 #[.agg #[.int .i64 0, .bool false, .string ⟨#[]⟩, .string ⟨#[]⟩]] w fun e w' => e = .returned (.tuple #[.string ⟨#[]⟩, .bool false]) ∧ Fr w w' from text_out13 0 false ⟨#[]⟩ ⟨#[]⟩ w (by omega)))
    have HO := hide (fun w => ofc_any13 0 false ⟨#[]⟩ ⟨#[]⟩ w)
    clear hok
    generalize bs l = s at *
    go_enter Tryd.func3, Tryd.ntmps3
    go_wp2_with fail
    refine (HPa.out _ (HL.out _ (Fr.refl _))).mono ?_
    rintro e w1 ⟨rfl, f1⟩
    have C := hide (Quad.new f1 (.int .i64 0) (.bool false) (.string ⟨#[]⟩) (.string ⟨#[]⟩) 24)
    have F := hide (f1.trans (Fr.alloc _ (.cells #[.int .i64 0, .bool false, .string ⟨#[]⟩, .string ⟨#[]⟩] 24)))
    clear f1
    go_wp2_with fail
    refine (HPb.out _).mono ?_
    rintro e w2 ⟨rfl, f2⟩
    have C := hide ((C.out.fr f2).fr (Fr.alloc _ (.cells #[.int .i64 0, .bool false, .string ⟨#[]⟩, .string ⟨#[]⟩] 28)))
    have F := hide (F.out.trans f2)
    have D := hide (Quad.new F.out (.int .i64 0) (.bool false) (.string ⟨#[]⟩) (.string ⟨#[]⟩) 28)
    have F := hide (F.out.trans (Fr.alloc _ (.cells #[.int .i64 0, .bool false, .string ⟨#[]⟩, .string ⟨#[]⟩] 28)))
    clear f2
    go_wp2_with fail
    obtain ⟨W3, hW3⟩ : ∃ W3, W3 = w2.alloc (Obj.cells #[.int .i64 0, .bool false, .string ⟨#[]⟩, .string ⟨#[]⟩] 28) := ⟨_, rfl⟩
    rw [← hW3] at C D F ⊢
    clear hW3
    have b0 := fun p : FrBox W3 => (C.out.fr p.fr).1
    have b1 := fun p : FrBox W3 => (C.out.fr p.fr).2.1
    have b2 := fun p : FrBox W3 => (C.out.fr p.fr).2.2.1
    have b3 := fun p : FrBox W3 => (C.out.fr p.fr).2.2.2.1
    have d0 := fun p : FrBox W3 => (D.out.fr p.fr).1
    have d1 := fun p : FrBox W3 => (D.out.fr p.fr).2.1
    have d2 := fun p : FrBox W3 => (D.out.fr p.fr).2.2.1
    have d3 := fun p : FrBox W3 => (D.out.fr p.fr).2.2.2.1
    have k1 := hide (fun p : FrBox W3 => Calls.fr_of (HO.out p.now))
    have nb := FrBox.some W3
    refine wp_region_fr (by kernel_rfl) (by kernel_rfl) ?_
    repeat (quiet_step (first | with_reducible exact k1.out _))
    refine wpQuiet_nil ?_
    intro wq hq
    obtain ⟨p, hp⟩ := hq
    have fq := p.fr
    rw [← hp] at fq
    clear hp b0 b1 b2 b3 d0 d1 d2 d3 k1 nb p
    have C := C.out.fr fq
    have F := hide (F.out.trans fq)
    obtain ⟨c0, c1, c2, c3, _, _⟩ := C
    clear fq
    go_wp2_with fail
    refine (HT.out _ (HL.out _ F.out)).mono ?_
    rintro e w4 ⟨rfl, f4⟩
    have F := hide (F.out.trans f4)
    clear f4 c0 c1 c2 c3
    go_wp2_with fail
    refine (HW.out _ (HL.out _ F.out)).mono ?_
    rintro e w5 ⟨rfl, f5⟩
    have F := hide (F.out.trans f5)
    clear f5
    go_wp2_with fail
    go_ret
    exact ⟨rfl, F.out⟩
  · rw [hok, cA_yes hok] at HPa HPb
    have hmt := may_told hok
    have hpl := parts_le (reD l)
    have hrl := reD_le l
    obtain ⟨o1, o6, _, _, _, _⟩ := may_has hmt
    have HT := hide (fun w (h : Led13 w) => (show Calls Tryd.prog 11 #[.agg #[.int .i64 (opD l : Int), .bool (nD (reD l)), .string (bs (wD (reD l))), .string (bs (pD (reD l)))]] w fun e w' => e = .returned (.tuple #[.string (bs (txD (opD l) (nD (reD l)) (wD (reD l)) (pD (reD l)))), .bool true]) ∧ Fr w w' by
      have := text_gen13 (opD l : Int) (nD (reD l)) (wD (reD l)) (pD (reD l)) w h.2.1 h.2.2 (by omega) (by omega)
      rw [Int.toNat_natCast, hmt, if_pos rfl] at this
      exact this))
    have HO := hide (fun w => ofc_any13 (opD l : Int) (nD (reD l)) (bs (wD (reD l))) (bs (pD (reD l))) w)
    have HR := hide (fun w => (show Calls Tryd.prog 13 #[.agg #[.int .i64 (opD l : Int), .bool (nD (reD l)), .string (bs (wD (reD l))), .string (bs (pD (reD l)))]] w fun e w' => e = .returned (.string (bs (txD (opD l) (nD (reD l)) (wD (reD l)) (pD (reD l))))) ∧ Fr w w' by
      have := refText_any13 (opD l : Int) (nD (reD l)) (wD (reD l)) (pD (reD l)) w (by omega) (by omega)
      rw [sgR_of (by omega) (by omega), Int.toNat_natCast] at this
      exact this))
    clear hok hmt hpl hrl o1 o6
    generalize bs (txD (opD l) (nD (reD l)) (wD (reD l)) (pD (reD l))) = T at *
    generalize bs (wD (reD l)) = WB at *
    generalize bs (pD (reD l)) = PB at *
    generalize nD (reD l) = n at *
    generalize opD l = op at *
    generalize bs l = s at *
    go_enter Tryd.func3, Tryd.ntmps3
    go_wp2_with fail
    refine (HPa.out _ (HL.out _ (Fr.refl _))).mono ?_
    rintro e w1 ⟨rfl, f1⟩
    have C := hide (Quad.new f1 (.int .i64 (op : Int)) (.bool n) (.string WB) (.string PB) 24)
    have F := hide (f1.trans (Fr.alloc _ (.cells #[.int .i64 (op : Int), .bool n, .string WB, .string PB] 24)))
    clear f1
    go_wp2_with fail
    refine (HPb.out _).mono ?_
    rintro e w2 ⟨rfl, f2⟩
    have C := hide ((C.out.fr f2).fr (Fr.alloc _ (.cells #[.int .i64 (op : Int), .bool n, .string WB, .string PB] 28)))
    have F := hide (F.out.trans f2)
    have D := hide (Quad.new F.out (.int .i64 (op : Int)) (.bool n) (.string WB) (.string PB) 28)
    have F := hide (F.out.trans (Fr.alloc _ (.cells #[.int .i64 (op : Int), .bool n, .string WB, .string PB] 28)))
    clear f2
    go_wp2_with fail
    obtain ⟨W3, hW3⟩ : ∃ W3, W3 = w2.alloc (Obj.cells #[.int .i64 (op : Int), .bool n, .string WB, .string PB] 28) := ⟨_, rfl⟩
    rw [← hW3] at C D F ⊢
    clear hW3
    have b0 := fun p : FrBox W3 => (C.out.fr p.fr).1
    have b1 := fun p : FrBox W3 => (C.out.fr p.fr).2.1
    have b2 := fun p : FrBox W3 => (C.out.fr p.fr).2.2.1
    have b3 := fun p : FrBox W3 => (C.out.fr p.fr).2.2.2.1
    have d0 := fun p : FrBox W3 => (D.out.fr p.fr).1
    have d1 := fun p : FrBox W3 => (D.out.fr p.fr).2.1
    have d2 := fun p : FrBox W3 => (D.out.fr p.fr).2.2.1
    have d3 := fun p : FrBox W3 => (D.out.fr p.fr).2.2.2.1
    have k1 := hide (fun p : FrBox W3 => Calls.fr_of (HO.out p.now))
    have nb := FrBox.some W3
    refine wp_region_fr (by kernel_rfl) (by kernel_rfl) ?_
    repeat (quiet_step (first | with_reducible exact k1.out _))
    refine wpQuiet_nil ?_
    intro wq hq
    obtain ⟨p, hp⟩ := hq
    have fq := p.fr
    rw [← hp] at fq
    clear hp b0 b1 b2 b3 d0 d1 d2 d3 k1 nb p
    have C := C.out.fr fq
    have D := hide (D.out.fr fq)
    have F := hide (F.out.trans fq)
    obtain ⟨c0, c1, c2, c3, _, _⟩ := C
    clear fq
    go_wp2_with fail
    refine (HT.out _ (HL.out _ F.out)).mono ?_
    rintro e w4 ⟨rfl, f4⟩
    have F := hide (F.out.trans f4)
    have D := hide (D.out.fr f4)
    clear f4 c0 c1 c2 c3
    go_wp2_with fail
    refine (HW.out _ (HL.out _ F.out)).mono ?_
    rintro e w5 ⟨rfl, f5⟩
    have F := hide (F.out.trans f5)
    have D := D.out.fr f5
    obtain ⟨c0, c1, c2, c3, _, _⟩ := D
    clear f5
    go_wp2_with fail
    refine (HR.out _).mono ?_
    rintro e w6 ⟨rfl, f6⟩
    have F := hide (F.out.trans f6)
    clear f6 c0 c1 c2 c3
    go_wp2_with fail
    go_ret
    exact ⟨rfl, F.out⟩
end Go.Proofs.YtmaapdmbkhoigaaDoor
