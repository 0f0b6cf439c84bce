/- Layer 13, the document's: Holds. -/
import Derived.Test.YtmaapdmbkhoigaaDoorCondH
import Derived.Test.YtmaapdmbkhoigaaDoorCondK
import Derived.Test.YtmaapdmbkhoigaaDoorPackF
namespace Go.Proofs.YtmaapdmbkhoigaaDoor
set_option linter.unusedVariables false
set_option linter.unusedSimpArgs false
open Go.RowKit

attribute [local go_sem] World.cell?_alloc_some
theorem mag_doc (a x k l : Nat) : cmpZ (a * 5 ^ k * 10 ^ (l - k)) (x * 10 ^ (k - l)) = cmpZ (a * 10 ^ l) (x * 2 ^ k) := by
  have h1 : 10 ^ (min k l) ≠ 0 := Nat.ne_of_gt (Nat.pow_pos (by decide))
  have h2 : 5 ^ k ≠ 0 := Nat.ne_of_gt (Nat.pow_pos (by decide))
  rw [← cmpZ_scale h1, ← cmpZ_scale (x := a * 10 ^ l) h2]
  have e1 : a * 5 ^ k * 10 ^ (l - k) * 10 ^ (min k l) = a * 10 ^ l * 5 ^ k := by
    rw [Nat.mul_assoc (a * 5 ^ k), ← Nat.pow_add, show l - k + min k l = l by omega, Nat.mul_assoc, Nat.mul_comm (5 ^ k), ← Nat.mul_assoc]
  have e2 : x * 10 ^ (k - l) * 10 ^ (min k l) = x * 2 ^ k * 5 ^ k := by
    rw [Nat.mul_assoc, ← Nat.pow_add, show k - l + min k l = k by omega, Nat.mul_assoc, ← Nat.mul_pow]
  rw [e1, e2]

set_option maxHeartbeats 4000000 in
set_option maxRecDepth 4000 in
theorem refHolds_out13 (b : Nat) (op : Int) (n : Bool) (W P : ByteArray) (w : World) (hb : b < 18446744073709551616) (hc : 1 < bC b) :
    Calls Tryd.prog 16 #[.agg #[.int .i64 op, .bool n, .string W, .string P], .int .u64 (b : Int)] w fun e w' => e = .returned (.bool false) ∧ Fr w w' := by
  have HO := hide (fun w => refOf_any7 b w hb)
  unfold bval at HO
  have hc' : (1 : Int) < (bC b : Int) := by omega
  generalize bC b = c at *
  generalize bN b = g at *
  generalize bM b = m at *
  generalize bX b = x at *
  go_enter Tryd.func16, Tryd.ntmps16
  go_wp2_with fail
  refine (HO.out _).mono ?_
  rintro e w1 ⟨rfl, f1⟩
  have F := hide (((Fr.alloc w (.cells #[.int .i64 op, .bool n, .string W, .string P] 28)).trans f1).trans (Fr.alloc _ (.cells #[.int .i64 (c : Int), .bool g, .int .u64 (m : Int), .int .i64 x] 53)))
  clear f1
  go_wp2_with fail
  go_ret
  exact ⟨rfl, F.out⟩

set_option maxHeartbeats 8000000 in
set_option maxRecDepth 4000 in
theorem refHolds_any13 (b : Nat) (op : Int) (n : Bool) (W P : List UInt8) (w : World) (hb : b < 18446744073709551616) (hc : bC b ≤ 1) (h1 : 1 ≤ op) (h6 : op ≤ 6) (wA : AllD W) (pA : AllD P) (lW : W.length ≤ 30) (lP : P.length ≤ 30) :
    Calls Tryd.prog 16 #[.agg #[.int .i64 op, .bool n, .string (bs W), .string (bs P)], .int .u64 (b : Int)] w fun e w' => e = .returned (.bool (hB op.toNat (ordZ (bG b) n (magZ b (valD (W ++ P)) P.length)))) ∧ Fr w w' := by
  have HOf := hide (fun w => refOf_any7 b w hb)
  have hx := bX_low b
  have hm := bM_lt b
  obtain ⟨Y, hY⟩ : ∃ Y, bM b * 2 ^ (bX b).toNat * 5 ^ (-(bX b)).toNat = Y := ⟨_, rfl⟩
  obtain ⟨X, hX⟩ : ∃ X, valD (W ++ P) = X := ⟨_, rfl⟩
  obtain ⟨K, hK⟩ : ∃ K, (-(bX b)).toNat = K := ⟨_, rfl⟩
  obtain ⟨L, hL⟩ : ∃ L, P.length = L := ⟨_, rfl⟩
  obtain ⟨Z, hZ⟩ : ∃ Z, magZ b X L = Z := ⟨_, rfl⟩
  have HDe := hide (fun w => refDecimals_any (bM b) (bX b) Y w (by omega) (by omega) (by omega) hY)
  have hAll : AllD (W ++ P) := allD_append.2 ⟨wA, pA⟩
  have HDi := hide (fun w => refDigits_any13 (W ++ P) X w hAll (by rw [List.length_append]; omega) hX)
  have hcm : cmpZ (Y * 10 ^ (L - K)) (X * 10 ^ (K - L)) = Z := by
    rw [← hZ, ← hY, hK, mag_doc]
    unfold magZ
    rw [hK]
  have nY : nlen 10 Y ≤ 100000 := by
    rw [← hY, hK]
    have a1 : nlen 10 (bM b) ≤ 20 := nlen_le ten2 (show bM b < 10 ^ 20 by omega)
    have a2 := nlen10_pow (k := 2) a1 (by omega) (bX b).toNat
    have a3 : nlen 10 (5 ^ K) ≤ K + 1 := nlen_le ten2 (Nat.lt_of_le_of_lt (Nat.pow_le_pow_left (show 5 ≤ 10 by decide) K) (Nat.pow_lt_pow_right (by decide) (by omega)))
    have a4 := nlen_mul ten2 a2 a3
    omega
  have nX : nlen 10 X ≤ 60 := by
    rw [← hX]
    have := valD_lt _ hAll
    refine nlen_le ten2 (Nat.lt_of_lt_of_le this (Nat.pow_le_pow_right (by decide) (by rw [List.length_append]; omega)))
  have HCm := hide (fun va vb w ha hb => refCmpAt_any va vb Y X K L w ha hb (by omega) (by omega) (by omega) (by omega) Z hcm)
  have ZB : -1 ≤ Z ∧ Z ≤ 1 := by
    rw [← hZ]; unfold magZ cmpZ; split
    · omega
    · split <;> omega
  have hcat : bs W ++ bs P = bs (W ++ P) := bs_append _ _
  have zW : (bs W).size ≤ 30 := by rw [bs_size]; exact lW
  have zP : (bs P).size ≤ 30 := by rw [bs_size]; exact lP
  have zL : ((bs P).size : Int) = (L : Int) := by rw [bs_size, hL]
  obtain ⟨R0, hR⟩ : ∃ R0, hB op.toNat (ordZ (bG b) n (magZ b (valD (W ++ P)) P.length)) = R0 := ⟨_, rfl⟩
  rw [hR]
  rw [hX, hL, hZ] at hR
  unfold bG at hR
  unfold bval at HOf
  rw [hK] at HDe
  clear hX hL hZ hY hK wA pA lW lP hAll hcm
  have HR := hide hR
  clear hR
  have ZB0 := ZB.1
  have ZB1 := ZB.2
  clear ZB
  generalize bs (W ++ P) = T at *
  generalize bs W = WB at *
  generalize bs P = PB at *
  generalize bN b = g at *
  generalize bM b = m at *
  generalize bX b = x at *
  generalize bC b = c at *
  have hop : op = 1 ∨ op = 2 ∨ op = 3 ∨ op = 4 ∨ op = 5 ∨ op = 6 := by omega
  have hc2 : c = 0 ∨ c = 1 := by omega
  clear h1 h6 hc hb
  rcases hc2 with rfl | rfl
  · cases n
    · cases g
      · skip
        go_enter Tryd.func16, Tryd.ntmps16
        go_wp2_with fail
        refine (HOf.out _).mono ?_
        rintro e w1 ⟨rfl, f1⟩
        have F0 := (Fr.alloc w (.cells #[.int .i64 op, .bool false, .string WB, .string PB] 28)).trans f1
        have Q := ((Quad.new (Fr.refl w) (.int .i64 op) (.bool false) (.string WB) (.string PB) 28).fr f1).fr (Fr.alloc _ (.cells #[.int .i64 0, .bool false, .int .u64 (m : Int), .int .i64 x] 53))
        have V := Quad.new F0 (.int .i64 0) (.bool false) (.int .u64 (m : Int)) (.int .i64 x) 53
        have F := F0.trans (Fr.alloc _ (.cells #[.int .i64 0, .bool false, .int .u64 (m : Int), .int .i64 x] 53))
        obtain ⟨W1, hW1⟩ : ∃ W1, W1 = w1.alloc (Obj.cells #[.int .i64 0, .bool false, .int .u64 (m : Int), .int .i64 x] 53) := ⟨_, rfl⟩
        rw [← hW1] at Q V F
        have HW1 := hide hW1
        clear hW1 f1 F0
        have F := hide F
        have Q := hide Q
        have V := hide V
        go_wp2_with fail
        rw [← HW1.out]
        clear HW1
        refine (HDe.out _).mono ?_
        rintro e w2 ⟨v2, rfl, D2, f2⟩
        have D2 := hide D2
        have Q := hide (Q.out.fr f2)
        have V := hide (V.out.fr f2)
        have F := hide (F.out.trans f2)
        clear f2
        have q2 := Q.out.2.2.1
        have q3 := Q.out.2.2.2.1
        go_wp2_with fail
        refine (HDi.out _).mono ?_
        rintro e w3 ⟨v3, rfl, D3, f3⟩
        have D3 := hide D3
        have D2 := hide (D2.out.fr f3)
        have Q := hide (Q.out.fr f3)
        have V := hide (V.out.fr f3)
        have F := hide (F.out.trans f3)
        clear f3 q2 q3
        have q3 := Q.out.2.2.2.1
        go_wp2_with fail
        refine (HCm.out _ _ _ D2.out D3.out).mono ?_
        rintro e w4 ⟨rfl, f4⟩
        have Q := hide (Q.out.fr f4)
        have V := hide (V.out.fr f4)
        have F := hide (F.out.trans f4)
        clear f4 q3
        have q0 := Q.out.1
        have q1 := Q.out.2.1
        have v0 := V.out.1
        have v1 := V.out.2.1
        rcases hop with rfl | rfl | rfl | rfl | rfl | rfl
        all_goals
          go_wp2_with fail
          go_ret
          refine ⟨?_, F.out⟩
          rw [← HR.out]
          first
            | rfl
            | (refine congrArg (fun q => Ending.returned (Value.bool q)) ?_
               rw [Bool.eq_iff_iff]
               simp [hB, ordZ])
      · skip
        go_enter Tryd.func16, Tryd.ntmps16
        go_wp2_with fail
        refine (HOf.out _).mono ?_
        rintro e w1 ⟨rfl, f1⟩
        have F0 := (Fr.alloc w (.cells #[.int .i64 op, .bool false, .string WB, .string PB] 28)).trans f1
        have Q := ((Quad.new (Fr.refl w) (.int .i64 op) (.bool false) (.string WB) (.string PB) 28).fr f1).fr (Fr.alloc _ (.cells #[.int .i64 0, .bool true, .int .u64 (m : Int), .int .i64 x] 53))
        have V := Quad.new F0 (.int .i64 0) (.bool true) (.int .u64 (m : Int)) (.int .i64 x) 53
        have F := F0.trans (Fr.alloc _ (.cells #[.int .i64 0, .bool true, .int .u64 (m : Int), .int .i64 x] 53))
        obtain ⟨W1, hW1⟩ : ∃ W1, W1 = w1.alloc (Obj.cells #[.int .i64 0, .bool true, .int .u64 (m : Int), .int .i64 x] 53) := ⟨_, rfl⟩
        rw [← hW1] at Q V F
        have HW1 := hide hW1
        clear hW1 f1 F0
        have F := hide F
        have Q := hide Q
        have V := hide V
        go_wp2_with fail
        rw [← HW1.out]
        clear HW1
        refine (HDe.out _).mono ?_
        rintro e w2 ⟨v2, rfl, D2, f2⟩
        have D2 := hide D2
        have Q := hide (Q.out.fr f2)
        have V := hide (V.out.fr f2)
        have F := hide (F.out.trans f2)
        clear f2
        have q2 := Q.out.2.2.1
        have q3 := Q.out.2.2.2.1
        go_wp2_with fail
        refine (HDi.out _).mono ?_
        rintro e w3 ⟨v3, rfl, D3, f3⟩
        have D3 := hide D3
        have D2 := hide (D2.out.fr f3)
        have Q := hide (Q.out.fr f3)
        have V := hide (V.out.fr f3)
        have F := hide (F.out.trans f3)
        clear f3 q2 q3
        have q3 := Q.out.2.2.2.1
        go_wp2_with fail
        refine (HCm.out _ _ _ D2.out D3.out).mono ?_
        rintro e w4 ⟨rfl, f4⟩
        have Q := hide (Q.out.fr f4)
        have V := hide (V.out.fr f4)
        have F := hide (F.out.trans f4)
        clear f4 q3
        have q0 := Q.out.1
        have q1 := Q.out.2.1
        have v0 := V.out.1
        have v1 := V.out.2.1
        rcases hop with rfl | rfl | rfl | rfl | rfl | rfl
        all_goals
          go_wp2_with fail
          go_ret
          refine ⟨?_, F.out⟩
          rw [← HR.out]
          first
            | rfl
            | (refine congrArg (fun q => Ending.returned (Value.bool q)) ?_
               rw [Bool.eq_iff_iff]
               simp [hB, ordZ])
    · cases g
      · skip
        go_enter Tryd.func16, Tryd.ntmps16
        go_wp2_with fail
        refine (HOf.out _).mono ?_
        rintro e w1 ⟨rfl, f1⟩
        have F0 := (Fr.alloc w (.cells #[.int .i64 op, .bool true, .string WB, .string PB] 28)).trans f1
        have Q := ((Quad.new (Fr.refl w) (.int .i64 op) (.bool true) (.string WB) (.string PB) 28).fr f1).fr (Fr.alloc _ (.cells #[.int .i64 0, .bool false, .int .u64 (m : Int), .int .i64 x] 53))
        have V := Quad.new F0 (.int .i64 0) (.bool false) (.int .u64 (m : Int)) (.int .i64 x) 53
        have F := F0.trans (Fr.alloc _ (.cells #[.int .i64 0, .bool false, .int .u64 (m : Int), .int .i64 x] 53))
        obtain ⟨W1, hW1⟩ : ∃ W1, W1 = w1.alloc (Obj.cells #[.int .i64 0, .bool false, .int .u64 (m : Int), .int .i64 x] 53) := ⟨_, rfl⟩
        rw [← hW1] at Q V F
        have HW1 := hide hW1
        clear hW1 f1 F0
        have F := hide F
        have Q := hide Q
        have V := hide V
        go_wp2_with fail
        rw [← HW1.out]
        clear HW1
        refine (HDe.out _).mono ?_
        rintro e w2 ⟨v2, rfl, D2, f2⟩
        have D2 := hide D2
        have Q := hide (Q.out.fr f2)
        have V := hide (V.out.fr f2)
        have F := hide (F.out.trans f2)
        clear f2
        have q2 := Q.out.2.2.1
        have q3 := Q.out.2.2.2.1
        go_wp2_with fail
        refine (HDi.out _).mono ?_
        rintro e w3 ⟨v3, rfl, D3, f3⟩
        have D3 := hide D3
        have D2 := hide (D2.out.fr f3)
        have Q := hide (Q.out.fr f3)
        have V := hide (V.out.fr f3)
        have F := hide (F.out.trans f3)
        clear f3 q2 q3
        have q3 := Q.out.2.2.2.1
        go_wp2_with fail
        refine (HCm.out _ _ _ D2.out D3.out).mono ?_
        rintro e w4 ⟨rfl, f4⟩
        have Q := hide (Q.out.fr f4)
        have V := hide (V.out.fr f4)
        have F := hide (F.out.trans f4)
        clear f4 q3
        have q0 := Q.out.1
        have q1 := Q.out.2.1
        have v0 := V.out.1
        have v1 := V.out.2.1
        rcases hop with rfl | rfl | rfl | rfl | rfl | rfl
        all_goals
          go_wp2_with fail
          go_ret
          refine ⟨?_, F.out⟩
          rw [← HR.out]
          first
            | rfl
            | (refine congrArg (fun q => Ending.returned (Value.bool q)) ?_
               rw [Bool.eq_iff_iff]
               simp [hB, ordZ])
      · skip
        go_enter Tryd.func16, Tryd.ntmps16
        go_wp2_with fail
        refine (HOf.out _).mono ?_
        rintro e w1 ⟨rfl, f1⟩
        have F0 := (Fr.alloc w (.cells #[.int .i64 op, .bool true, .string WB, .string PB] 28)).trans f1
        have Q := ((Quad.new (Fr.refl w) (.int .i64 op) (.bool true) (.string WB) (.string PB) 28).fr f1).fr (Fr.alloc _ (.cells #[.int .i64 0, .bool true, .int .u64 (m : Int), .int .i64 x] 53))
        have V := Quad.new F0 (.int .i64 0) (.bool true) (.int .u64 (m : Int)) (.int .i64 x) 53
        have F := F0.trans (Fr.alloc _ (.cells #[.int .i64 0, .bool true, .int .u64 (m : Int), .int .i64 x] 53))
        obtain ⟨W1, hW1⟩ : ∃ W1, W1 = w1.alloc (Obj.cells #[.int .i64 0, .bool true, .int .u64 (m : Int), .int .i64 x] 53) := ⟨_, rfl⟩
        rw [← hW1] at Q V F
        have HW1 := hide hW1
        clear hW1 f1 F0
        have F := hide F
        have Q := hide Q
        have V := hide V
        go_wp2_with fail
        rw [← HW1.out]
        clear HW1
        refine (HDe.out _).mono ?_
        rintro e w2 ⟨v2, rfl, D2, f2⟩
        have D2 := hide D2
        have Q := hide (Q.out.fr f2)
        have V := hide (V.out.fr f2)
        have F := hide (F.out.trans f2)
        clear f2
        have q2 := Q.out.2.2.1
        have q3 := Q.out.2.2.2.1
        go_wp2_with fail
        refine (HDi.out _).mono ?_
        rintro e w3 ⟨v3, rfl, D3, f3⟩
        have D3 := hide D3
        have D2 := hide (D2.out.fr f3)
        have Q := hide (Q.out.fr f3)
        have V := hide (V.out.fr f3)
        have F := hide (F.out.trans f3)
        clear f3 q2 q3
        have q3 := Q.out.2.2.2.1
        go_wp2_with fail
        refine (HCm.out _ _ _ D2.out D3.out).mono ?_
        rintro e w4 ⟨rfl, f4⟩
        have Q := hide (Q.out.fr f4)
        have V := hide (V.out.fr f4)
        have F := hide (F.out.trans f4)
        clear f4 q3
        have q0 := Q.out.1
        have q1 := Q.out.2.1
        have v0 := V.out.1
        have v1 := V.out.2.1
        rcases hop with rfl | rfl | rfl | rfl | rfl | rfl
        all_goals
          go_wp2_with fail
          go_ret
          refine ⟨?_, F.out⟩
          rw [← HR.out]
          first
            | rfl
            | (refine congrArg (fun q => Ending.returned (Value.bool q)) ?_
               rw [Bool.eq_iff_iff]
               simp [hB, ordZ])
  · cases n
    · cases g
      · skip
        go_enter Tryd.func16, Tryd.ntmps16
        go_wp2_with fail
        refine (HOf.out _).mono ?_
        rintro e w1 ⟨rfl, f1⟩
        have F0 := (Fr.alloc w (.cells #[.int .i64 op, .bool false, .string WB, .string PB] 28)).trans f1
        have Q := ((Quad.new (Fr.refl w) (.int .i64 op) (.bool false) (.string WB) (.string PB) 28).fr f1).fr (Fr.alloc _ (.cells #[.int .i64 1, .bool false, .int .u64 (m : Int), .int .i64 x] 53))
        have V := Quad.new F0 (.int .i64 1) (.bool false) (.int .u64 (m : Int)) (.int .i64 x) 53
        have F := F0.trans (Fr.alloc _ (.cells #[.int .i64 1, .bool false, .int .u64 (m : Int), .int .i64 x] 53))
        obtain ⟨W1, hW1⟩ : ∃ W1, W1 = w1.alloc (Obj.cells #[.int .i64 1, .bool false, .int .u64 (m : Int), .int .i64 x] 53) := ⟨_, rfl⟩
        rw [← hW1] at Q V F
        have HW1 := hide hW1
        clear hW1 f1 F0
        have F := hide F
        have Q := hide Q
        have V := hide V
        go_wp2_with fail
        rw [← HW1.out]
        clear HW1
        refine (HDe.out _).mono ?_
        rintro e w2 ⟨v2, rfl, D2, f2⟩
        have D2 := hide D2
        have Q := hide (Q.out.fr f2)
        have V := hide (V.out.fr f2)
        have F := hide (F.out.trans f2)
        clear f2
        have q2 := Q.out.2.2.1
        have q3 := Q.out.2.2.2.1
        go_wp2_with fail
        refine (HDi.out _).mono ?_
        rintro e w3 ⟨v3, rfl, D3, f3⟩
        have D3 := hide D3
        have D2 := hide (D2.out.fr f3)
        have Q := hide (Q.out.fr f3)
        have V := hide (V.out.fr f3)
        have F := hide (F.out.trans f3)
        clear f3 q2 q3
        have q3 := Q.out.2.2.2.1
        go_wp2_with fail
        refine (HCm.out _ _ _ D2.out D3.out).mono ?_
        rintro e w4 ⟨rfl, f4⟩
        have Q := hide (Q.out.fr f4)
        have V := hide (V.out.fr f4)
        have F := hide (F.out.trans f4)
        clear f4 q3
        have q0 := Q.out.1
        have q1 := Q.out.2.1
        have v0 := V.out.1
        have v1 := V.out.2.1
        rcases hop with rfl | rfl | rfl | rfl | rfl | rfl
        all_goals
          go_wp2_with fail
          go_ret
          refine ⟨?_, F.out⟩
          rw [← HR.out]
          first
            | rfl
            | (refine congrArg (fun q => Ending.returned (Value.bool q)) ?_
               rw [Bool.eq_iff_iff]
               simp [hB, ordZ])
      · skip
        go_enter Tryd.func16, Tryd.ntmps16
        go_wp2_with fail
        refine (HOf.out _).mono ?_
        rintro e w1 ⟨rfl, f1⟩
        have F0 := (Fr.alloc w (.cells #[.int .i64 op, .bool false, .string WB, .string PB] 28)).trans f1
        have Q := ((Quad.new (Fr.refl w) (.int .i64 op) (.bool false) (.string WB) (.string PB) 28).fr f1).fr (Fr.alloc _ (.cells #[.int .i64 1, .bool true, .int .u64 (m : Int), .int .i64 x] 53))
        have V := Quad.new F0 (.int .i64 1) (.bool true) (.int .u64 (m : Int)) (.int .i64 x) 53
        have F := F0.trans (Fr.alloc _ (.cells #[.int .i64 1, .bool true, .int .u64 (m : Int), .int .i64 x] 53))
        obtain ⟨W1, hW1⟩ : ∃ W1, W1 = w1.alloc (Obj.cells #[.int .i64 1, .bool true, .int .u64 (m : Int), .int .i64 x] 53) := ⟨_, rfl⟩
        rw [← hW1] at Q V F
        have HW1 := hide hW1
        clear hW1 f1 F0
        have F := hide F
        have Q := hide Q
        have V := hide V
        go_wp2_with fail
        rw [← HW1.out]
        clear HW1
        refine (HDe.out _).mono ?_
        rintro e w2 ⟨v2, rfl, D2, f2⟩
        have D2 := hide D2
        have Q := hide (Q.out.fr f2)
        have V := hide (V.out.fr f2)
        have F := hide (F.out.trans f2)
        clear f2
        have q2 := Q.out.2.2.1
        have q3 := Q.out.2.2.2.1
        go_wp2_with fail
        refine (HDi.out _).mono ?_
        rintro e w3 ⟨v3, rfl, D3, f3⟩
        have D3 := hide D3
        have D2 := hide (D2.out.fr f3)
        have Q := hide (Q.out.fr f3)
        have V := hide (V.out.fr f3)
        have F := hide (F.out.trans f3)
        clear f3 q2 q3
        have q3 := Q.out.2.2.2.1
        go_wp2_with fail
        refine (HCm.out _ _ _ D2.out D3.out).mono ?_
        rintro e w4 ⟨rfl, f4⟩
        have Q := hide (Q.out.fr f4)
        have V := hide (V.out.fr f4)
        have F := hide (F.out.trans f4)
        clear f4 q3
        have q0 := Q.out.1
        have q1 := Q.out.2.1
        have v0 := V.out.1
        have v1 := V.out.2.1
        rcases hop with rfl | rfl | rfl | rfl | rfl | rfl
        all_goals
          go_wp2_with fail
          go_ret
          refine ⟨?_, F.out⟩
          rw [← HR.out]
          first
            | rfl
            | (refine congrArg (fun q => Ending.returned (Value.bool q)) ?_
               rw [Bool.eq_iff_iff]
               simp [hB, ordZ])
    · cases g
      · skip
        go_enter Tryd.func16, Tryd.ntmps16
        go_wp2_with fail
        refine (HOf.out _).mono ?_
        rintro e w1 ⟨rfl, f1⟩
        have F0 := (Fr.alloc w (.cells #[.int .i64 op, .bool true, .string WB, .string PB] 28)).trans f1
        have Q := ((Quad.new (Fr.refl w) (.int .i64 op) (.bool true) (.string WB) (.string PB) 28).fr f1).fr (Fr.alloc _ (.cells #[.int .i64 1, .bool false, .int .u64 (m : Int), .int .i64 x] 53))
        have V := Quad.new F0 (.int .i64 1) (.bool false) (.int .u64 (m : Int)) (.int .i64 x) 53
        have F := F0.trans (Fr.alloc _ (.cells #[.int .i64 1, .bool false, .int .u64 (m : Int), .int .i64 x] 53))
        obtain ⟨W1, hW1⟩ : ∃ W1, W1 = w1.alloc (Obj.cells #[.int .i64 1, .bool false, .int .u64 (m : Int), .int .i64 x] 53) := ⟨_, rfl⟩
        rw [← hW1] at Q V F
        have HW1 := hide hW1
        clear hW1 f1 F0
        have F := hide F
        have Q := hide Q
        have V := hide V
        go_wp2_with fail
        rw [← HW1.out]
        clear HW1
        refine (HDe.out _).mono ?_
        rintro e w2 ⟨v2, rfl, D2, f2⟩
        have D2 := hide D2
        have Q := hide (Q.out.fr f2)
        have V := hide (V.out.fr f2)
        have F := hide (F.out.trans f2)
        clear f2
        have q2 := Q.out.2.2.1
        have q3 := Q.out.2.2.2.1
        go_wp2_with fail
        refine (HDi.out _).mono ?_
        rintro e w3 ⟨v3, rfl, D3, f3⟩
        have D3 := hide D3
        have D2 := hide (D2.out.fr f3)
        have Q := hide (Q.out.fr f3)
        have V := hide (V.out.fr f3)
        have F := hide (F.out.trans f3)
        clear f3 q2 q3
        have q3 := Q.out.2.2.2.1
        go_wp2_with fail
        refine (HCm.out _ _ _ D2.out D3.out).mono ?_
        rintro e w4 ⟨rfl, f4⟩
        have Q := hide (Q.out.fr f4)
        have V := hide (V.out.fr f4)
        have F := hide (F.out.trans f4)
        clear f4 q3
        have q0 := Q.out.1
        have q1 := Q.out.2.1
        have v0 := V.out.1
        have v1 := V.out.2.1
        rcases hop with rfl | rfl | rfl | rfl | rfl | rfl
        all_goals
          go_wp2_with fail
          go_ret
          refine ⟨?_, F.out⟩
          rw [← HR.out]
          first
            | rfl
            | (refine congrArg (fun q => Ending.returned (Value.bool q)) ?_
               rw [Bool.eq_iff_iff]
               simp [hB, ordZ])
      · skip
        go_enter Tryd.func16, Tryd.ntmps16
        go_wp2_with fail
        refine (HOf.out _).mono ?_
        rintro e w1 ⟨rfl, f1⟩
        have F0 := (Fr.alloc w (.cells #[.int .i64 op, .bool true, .string WB, .string PB] 28)).trans f1
        have Q := ((Quad.new (Fr.refl w) (.int .i64 op) (.bool true) (.string WB) (.string PB) 28).fr f1).fr (Fr.alloc _ (.cells #[.int .i64 1, .bool true, .int .u64 (m : Int), .int .i64 x] 53))
        have V := Quad.new F0 (.int .i64 1) (.bool true) (.int .u64 (m : Int)) (.int .i64 x) 53
        have F := F0.trans (Fr.alloc _ (.cells #[.int .i64 1, .bool true, .int .u64 (m : Int), .int .i64 x] 53))
        obtain ⟨W1, hW1⟩ : ∃ W1, W1 = w1.alloc (Obj.cells #[.int .i64 1, .bool true, .int .u64 (m : Int), .int .i64 x] 53) := ⟨_, rfl⟩
        rw [← hW1] at Q V F
        have HW1 := hide hW1
        clear hW1 f1 F0
        have F := hide F
        have Q := hide Q
        have V := hide V
        go_wp2_with fail
        rw [← HW1.out]
        clear HW1
        refine (HDe.out _).mono ?_
        rintro e w2 ⟨v2, rfl, D2, f2⟩
        have D2 := hide D2
        have Q := hide (Q.out.fr f2)
        have V := hide (V.out.fr f2)
        have F := hide (F.out.trans f2)
        clear f2
        have q2 := Q.out.2.2.1
        have q3 := Q.out.2.2.2.1
        go_wp2_with fail
        refine (HDi.out _).mono ?_
        rintro e w3 ⟨v3, rfl, D3, f3⟩
        have D3 := hide D3
        have D2 := hide (D2.out.fr f3)
        have Q := hide (Q.out.fr f3)
        have V := hide (V.out.fr f3)
        have F := hide (F.out.trans f3)
        clear f3 q2 q3
        have q3 := Q.out.2.2.2.1
        go_wp2_with fail
        refine (HCm.out _ _ _ D2.out D3.out).mono ?_
        rintro e w4 ⟨rfl, f4⟩
        have Q := hide (Q.out.fr f4)
        have V := hide (V.out.fr f4)
        have F := hide (F.out.trans f4)
        clear f4 q3
        have q0 := Q.out.1
        have q1 := Q.out.2.1
        have v0 := V.out.1
        have v1 := V.out.2.1
        rcases hop with rfl | rfl | rfl | rfl | rfl | rfl
        all_goals
          go_wp2_with fail
          go_ret
          refine ⟨?_, F.out⟩
          rw [← HR.out]
          first
            | rfl
            | (refine congrArg (fun q => Ending.returned (Value.bool q)) ?_
               rw [Bool.eq_iff_iff]
               simp [hB, ordZ])
end Go.Proofs.YtmaapdmbkhoigaaDoor
