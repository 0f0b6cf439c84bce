/- Layer 13: Holds. -/
import Derived.Test.YtmaapdmbkhoigaaDoorCondG
namespace Go.Proofs.YtmaapdmbkhoigaaDoor
set_option linter.unusedVariables false
set_option linter.unusedSimpArgs false
open Go.RowKit

theorem may_out {op : Int} {n : Bool} {W P : List UInt8} (h : op < 1 ∨ 6 < op) : mayD op.toNat n W P = false := by
  cases hm : mayD op.toNat n W P with
  | false => rfl
  | true =>
    have := may_has hm
    omega
theorem text_gen13 (op : Int) (n : Bool) (W P : List UInt8) (w : World) (hS : Sgn w) (hM : MaxOk w) (hW : W.length ≤ 400) (hP : P.length ≤ 400) :
    Calls Tryd.prog 11 #[.agg #[.int .i64 op, .bool n, .string (bs W), .string (bs P)]] w fun e w' => e = .returned (.tuple #[.string (if mayD op.toNat n W P = true then bs (txD op.toNat n W P) else ⟨#[]⟩), .bool (mayD op.toNat n W P)]) ∧ Fr w w' := by
  by_cases h : op < 1 ∨ 6 < op
  · rw [may_out h]
    exact text_out13 op n (bs W) (bs P) w h
  · obtain ⟨k, hk, rfl⟩ : ∃ k : Nat, k < 6 ∧ op = (k : Int) + 1 := ⟨(op - 1).toNat, by omega, by omega⟩
    have e : ((k : Int) + 1).toNat = k + 1 := by omega
    rw [e]
    exact text_any13 k n W P w hk hS hM hW hP

/-- What a way says of how two numbers stand. -/
def hB (op : Nat) (O : Int) : Bool :=
  match op with
  | 1 => decide (O < 0)
  | 2 => decide (O ≤ 0)
  | 3 => decide (0 < O)
  | 4 => decide (0 ≤ O)
  | 5 => O == 0
  | _ => O != 0
/-- Does the value of bits meet a condition? -/
def hV (op : Nat) (n : Bool) (W P : List UInt8) (b : Nat) : Bool := mayD op n W P && (decide (bC b ≤ 1) && hB op (ordZ (bG b) n (magZ b (valD (W ++ P)) P.length)))

set_option maxHeartbeats 4000000 in
set_option maxRecDepth 4000 in
theorem holds_any13 (op : Int) (n : Bool) (W P : List UInt8) (b : Nat) (w : World) (hb : b < 18446744073709551616) (hT : Tab w) (hS : Sgn w) (hM : MaxOk w) (hW : W.length ≤ 400) (hP : P.length ≤ 400) :
    Calls Tryd.prog 14 #[.agg #[.int .i64 op, .bool n, .string (bs W), .string (bs P)], bval b] w fun e w' => e = .returned (.bool (hV op.toNat n W P b)) ∧ Fr w w' := by
  have HTx := hide (fun w hS hM => text_gen13 op n W P w hS hM hW hP)
  have HSM := hide (fun w' (f : Fr w w') => And.intro (hT.fr f) (And.intro (hS.fr f) (hM.fr f)))
  clear hT hS hM hW hP
  have eb : bval b = .agg #[.int .i64 (bC b : Int), .bool (bN b), .int .u64 (bM b : Int), .int .i64 (bX b)] := rfl
  obtain ⟨W0, hW0⟩ : ∃ V, V = (w.alloc (Obj.cells #[.int .i64 op, .bool n, .string (bs W), .string (bs P)] 24)).alloc (Obj.cells #[.int .i64 (bC b : Int), .bool (bN b), .int .u64 (bM b : Int), .int .i64 (bX b)] 42) := ⟨_, rfl⟩
  have Q := (Quad.new (Fr.refl w) (.int .i64 op) (.bool n) (.string (bs W)) (.string (bs P)) 24).fr (Fr.alloc _ (.cells #[.int .i64 (bC b : Int), .bool (bN b), .int .u64 (bM b : Int), .int .i64 (bX b)] 42))
  have R : Quad w ((w.alloc (Obj.cells #[.int .i64 op, .bool n, .string (bs W), .string (bs P)] 24)).alloc (Obj.cells #[.int .i64 (bC b : Int), .bool (bN b), .int .u64 (bM b : Int), .int .i64 (bX b)] 42)) (w.heap.size + 1) (.int .i64 (bC b : Int)) (.bool (bN b)) (.int .u64 (bM b : Int)) (.int .i64 (bX b)) := by
    simpa using Quad.new (Fr.alloc w (.cells #[.int .i64 op, .bool n, .string (bs W), .string (bs P)] 24)) (.int .i64 (bC b : Int)) (.bool (bN b)) (.int .u64 (bM b : Int)) (.int .i64 (bX b)) 42
  have F := (Fr.alloc w (.cells #[.int .i64 op, .bool n, .string (bs W), .string (bs P)] 24)).trans (Fr.alloc _ (.cells #[.int .i64 (bC b : Int), .bool (bN b), .int .u64 (bM b : Int), .int .i64 (bX b)] 42))
  rw [← hW0] at Q R F
  have HW0 := hide hW0
  clear hW0
  by_cases hm : mayD op.toNat n W P = true
  · have hh := may_has hm
    obtain ⟨h1, h6, wA, pA, lW, lP⟩ := hh
    by_cases hc : bC b ≤ 1
    · obtain ⟨O, hO⟩ : ∃ O, ordZ (bG b) n (magZ b (valD (W ++ P)) P.length) = O := ⟨_, rfl⟩
      have HOr := hide (fun w hT => order_any13 b op n W P w hb hc hT wA pA lW lP O hO)
      have HV : Hid (hV op.toNat n W P b = hB op.toNat O) := hide (by unfold hV; rw [hm, decide_eq_true hc, hO]; rfl)
      rw [hm] at HTx
      simp only [if_true] at HTx
      rw [eb] at HOr ⊢
      clear hm wA pA lW lP hc hO eb
      generalize bs W = WB at *
      generalize bs P = PB at *
      generalize bs (txD op.toNat n W P) = T at *
      generalize bC b = c at *
      generalize bN b = g at *
      generalize bM b = m at *
      generalize bX b = x at *
      generalize hV op.toNat n W P b = R0 at *
      have hop : op = 1 ∨ op = 2 ∨ op = 3 ∨ op = 4 ∨ op = 5 ∨ op = 6 := by omega
      clear h1 h6
      rcases hop with rfl | rfl | rfl | rfl | rfl | rfl
      all_goals
        go_enter Tryd.func14, Tryd.ntmps14
        go_wp2_with fail
        rw [← HW0.out]
        have SM := HSM.out _ F
        refine (HTx.out _ SM.2.1 SM.2.2).mono ?_
        rintro e w1 ⟨rfl, f1⟩
        have Q := Q.fr f1
        have R := R.fr f1
        have F := hide (F.trans f1)
        have SM := HSM.out _ F.out
        obtain ⟨q0, q1, q2, q3, _, _⟩ := Q
        obtain ⟨r0, r1, r2, r3, _, _⟩ := R
        clear f1
        go_wp2_with fail
        refine (HOr.out _ SM.1).mono ?_
        rintro e w2 ⟨rfl, f2⟩
        have F := hide (F.out.trans f2)
        have q0 := fr_cell f2 q0
        clear f2 SM q1 q2 q3 r0 r1 r2 r3
        go_wp2_with fail
        go_ret
        exact ⟨by rw [HV.out]; rfl, F.out⟩
    · have HOr := hide (fun w => order_out13 b op n (bs W) (bs P) w hb (by omega))
      have HV : Hid (hV op.toNat n W P b = false) := hide (by unfold hV; rw [hm, decide_eq_false hc]; rfl)
      rw [hm] at HTx
      simp only [if_true] at HTx
      rw [eb] at HOr ⊢
      clear hm wA pA lW lP hc eb
      generalize bs W = WB at *
      generalize bs P = PB at *
      generalize bs (txD op.toNat n W P) = T at *
      generalize bC b = c at *
      generalize bN b = g at *
      generalize bM b = m at *
      generalize bX b = x at *
      generalize hV op.toNat n W P b = R0 at *
      go_enter Tryd.func14, Tryd.ntmps14
      go_wp2_with fail
      rw [← HW0.out]
      have SM := HSM.out _ F
      refine (HTx.out _ SM.2.1 SM.2.2).mono ?_
      rintro e w1 ⟨rfl, f1⟩
      have Q := Q.fr f1
      have R := R.fr f1
      have F := hide (F.trans f1)
      obtain ⟨q0, q1, q2, q3, _, _⟩ := Q
      obtain ⟨r0, r1, r2, r3, _, _⟩ := R
      clear f1 SM
      go_wp2_with fail
      refine (HOr.out _).mono ?_
      rintro e w2 ⟨rfl, f2⟩
      have F := hide (F.out.trans f2)
      clear f2 q0 q1 q2 q3 r0 r1 r2 r3
      go_wp2_with fail
      go_ret
      exact ⟨by rw [HV.out]; rfl, F.out⟩
  · have hm : mayD op.toNat n W P = false := by simpa using hm
    have HV : Hid (hV op.toNat n W P b = false) := hide (by unfold hV; rw [hm]; rfl)
    rw [hm] at HTx
    simp only [Bool.false_eq_true, if_false] at HTx
    rw [eb]
    clear hm eb
    generalize bs W = WB at *
    generalize bs P = PB at *
    generalize bC b = c at *
    generalize bN b = g at *
    generalize bM b = m at *
    generalize bX b = x at *
    generalize hV op.toNat n W P b = R0 at *
    go_enter Tryd.func14, Tryd.ntmps14
    go_wp2_with fail
    rw [← HW0.out]
    have SM := HSM.out _ F
    refine (HTx.out _ SM.2.1 SM.2.2).mono ?_
    rintro e w1 ⟨rfl, f1⟩
    have F := hide (F.trans f1)
    clear f1 SM
    go_wp2_with fail
    go_ret
    exact ⟨by rw [HV.out]; rfl, F.out⟩
end Go.Proofs.YtmaapdmbkhoigaaDoor
