/- Quotients: Away, Of, Parts, Scale. -/
import Derived.Test.YtimglhbllcjpbaaDoorRatioE
import Derived.Test.YtimglhbllcjpbaaDoorNatF
namespace Go.Proofs.YtimglhbllcjpbaaDoor
set_option linter.unusedVariables false
set_option linter.unusedSimpArgs false
open Go.RowKit

attribute [local go_sem] World.cell?_alloc_some
/-- How far two numbers are from one another. -/
def awayN (x y : Nat) : Nat := (x - y) + (y - x)

set_option maxHeartbeats 600000 in
set_option maxRecDepth 4000 in
theorem awayR_any (va vb : Value) (n1 d1 n2 d2 : Nat) (w : World) (hT : Tab w) (ha : IsRat w va n1 d1) (hb : IsRat w vb n2 d2) (h1 : nlen 4294967296 n1 ≤ 1000000) (k1 : nlen 4294967296 d1 ≤ 1000000) (h2 : nlen 4294967296 n2 ≤ 1000000) (k2 : nlen 4294967296 d2 ≤ 1000000) :
    Calls Tryd.prog 20 #[va, vb] w fun e w' => ∃ v, e = .returned v ∧ IsRat w' v (awayN (n1 * d2) (n2 * d1)) (d1 * d2) ∧ Fr w w' := by
  have HA := hide ha
  have HB := hide hb
  have HT := hide hT
  obtain ⟨a, N, ca, b, M, cb, rfl⟩ := ha.form
  obtain ⟨a', N', ca', b', M', cb', rfl⟩ := hb.form
  have hd1 := ha.1
  have hd2 := hb.1
  have np1 : nlen 4294967296 (rN n1 d1) ≤ 1000000 := nl_le h1 (rN_le _ _)
  have nq1 : nlen 4294967296 (rD n1 d1) ≤ 1000000 := nl_le k1 (rD_le _ _)
  have np2 : nlen 4294967296 (rN n2 d2) ≤ 1000000 := nl_le h2 (rN_le _ _)
  have nq2 : nlen 4294967296 (rD n2 d2) ≤ 1000000 := nl_le k2 (rD_le _ _)
  have nL : nlen 4294967296 (rN n1 d1 * rD n2 d2) ≤ 2000000 := nlen_mul b32 np1 nq2
  have nR : nlen 4294967296 (rN n2 d2 * rD n1 d1) ≤ 2000000 := nlen_mul b32 np2 nq1
  have nD : nlen 4294967296 (rD n1 d1 * rD n2 d2) ≤ 2000000 := nlen_mul b32 nq1 nq2
  have hD0 : rD n1 d1 * rD n2 d2 ≠ 0 := Nat.mul_ne_zero (rD_pos hd1) (rD_pos hd2)
  obtain ⟨L, hL⟩ : ∃ L, rN n1 d1 * rD n2 d2 = L := ⟨_, rfl⟩
  obtain ⟨R, hR⟩ : ∃ R, rN n2 d2 * rD n1 d1 = R := ⟨_, rfl⟩
  obtain ⟨D, hD⟩ : ∃ D, rD n1 d1 * rD n2 d2 = D := ⟨_, rfl⟩
  rw [hL] at nL
  rw [hR] at nR
  rw [hD] at nD hD0
  have EL := hide hL
  have ER := hide hR
  have ED := hide hD
  have SAME : Hid (∀ wz v A, A = awayN L R → IsRat wz v A D → IsRat wz v (awayN (n1 * d2) (n2 * d1)) (d1 * d2)) := fun wz v A e h => h.same (Nat.mul_ne_zero hd1 hd2) (by
    subst e
    rw [← EL.out, ← ER.out, ← ED.out]
    unfold awayN
    rw [Nat.add_mul, Nat.add_mul]
    have e1 := @lev_sub n1 d1 n2 d2
    have e2 := @lev_sub n2 d2 n1 d1
    rw [Nat.mul_comm d2 d1, Nat.mul_comm (rD n2 d2) (rD n1 d1)] at e2
    rw [e1, e2])
  clear hL hR hD ha hb hT
  go_enter Tryd.func20, Tryd.ntmps20
  go_wp2_with fail
  obtain ⟨W, hW⟩ : ∃ W, W = (((w.alloc (Obj.cells #[Value.slice a N ca, Value.slice b M cb] 26)).alloc (Obj.cells #[Value.slice a' N' ca', Value.slice b' M' cb'] 26)).alloc (Obj.cells #[Value.slice none 0 0, Value.slice none 0 0] 26)) := ⟨_, rfl⟩
  have fW : Fr w W := by rw [hW]; exact (((Fr.alloc w (Obj.cells #[Value.slice a N ca, Value.slice b M cb] 26)).trans (Fr.alloc _ (Obj.cells #[Value.slice a' N' ca', Value.slice b' M' cb'] 26))).trans (Fr.alloc _ (Obj.cells #[Value.slice none 0 0, Value.slice none 0 0] 26)))
  have s4 : Slot2 w W (w.heap.size + 1 + 1) (.slice none 0 0) (.slice none 0 0) := by
    rw [hW]; simpa using Slot2.new ((Fr.alloc w (Obj.cells #[Value.slice a N ca, Value.slice b M cb] 26)).trans (Fr.alloc _ (Obj.cells #[Value.slice a' N' ca', Value.slice b' M' cb'] 26))) none 0 0 none 0 0 26
  rw [← hW]
  clear hW
  refine (levelled_any _ _ n1 d1 n2 d2 _ (HA.out.fr fW) (HB.out.fr fW) h1 k1 h2 k2 L R D EL.out ER.out ED.out).mono ?_
  rintro e w1 ⟨aL, cL, aR, cR, aD, cD, rfl, iL, iR, iD, f1⟩
  have FW := hide (fW.trans f1)
  have S4 := hide (s4.fr f1)
  have IL := hide iL
  have IR := hide iR
  have ID := hide iD
  have l1 := cell_lt S4.out.1
  simp only [] at l1
  clear iL iR iD s4 fW f1
  go_wp2_with fail
  obtain ⟨W1, hW1⟩ : ∃ W, W = (((w1.alloc (Obj.cells #[Value.slice aL (nlen 4294967296 L) cL] 24)).alloc (Obj.cells #[Value.slice aR (nlen 4294967296 R) cR] 24)).alloc (Obj.cells #[Value.slice aD (nlen 4294967296 D) cD] 24)) := ⟨_, rfl⟩
  have f1 : Fr w1 W1 := by rw [hW1]; exact (((Fr.alloc w1 (Obj.cells #[Value.slice aL (nlen 4294967296 L) cL] 24)).trans (Fr.alloc _ (Obj.cells #[Value.slice aR (nlen 4294967296 R) cR] 24))).trans (Fr.alloc _ (Obj.cells #[Value.slice aD (nlen 4294967296 D) cD] 24)))
  have s5 : Slot w1 W1 (w1.heap.size) (.slice aL (nlen 4294967296 L) cL) := by
    rw [hW1]; simpa using ((Slot.new (Fr.refl w1) aL (nlen 4294967296 L) cL 24).fr (Fr.alloc _ _)).fr (Fr.alloc _ _)
  have s6 : Slot w1 W1 (w1.heap.size + 1) (.slice aR (nlen 4294967296 R) cR) := by
    rw [hW1]; simpa using (Slot.new (Fr.alloc w1 (Obj.cells #[Value.slice aL (nlen 4294967296 L) cL] 24)) aR (nlen 4294967296 R) cR 24).fr (Fr.alloc _ _)
  have s7 : Slot w1 W1 (w1.heap.size + 1 + 1) (.slice aD (nlen 4294967296 D) cD) := by
    rw [hW1]; simpa using Slot.new ((Fr.alloc w1 (Obj.cells #[Value.slice aL (nlen 4294967296 L) cL] 24)).trans (Fr.alloc _ (Obj.cells #[Value.slice aR (nlen 4294967296 R) cR] 24))) aD (nlen 4294967296 D) cD 24
  rw [← hW1]
  clear hW1
  have S5 := hide s5
  have S6 := hide s6
  have S7 := hide s7
  have IL := hide (IL.out.fr f1)
  have IR := hide (IR.out.fr f1)
  have ID := hide (ID.out.fr f1)
  have S4 := hide (S4.out.fr f1)
  have FW := hide (FW.out.trans f1)
  clear f1 s5 s6 s7
  rcases Nat.lt_or_ge L R with hc | hc
  · refine (sub_no _ _ L R _ IL.out IR.out (by omega) (by omega) hc).mono ?_
    rintro e w2 ⟨rfl, f2⟩
    have IL := hide (IL.out.fr f2)
    have IR := hide (IR.out.fr f2)
    have ID := hide (ID.out.fr f2)
    have S4 := hide (S4.out.fr f2)
    have S5 := hide (S5.out.fr f2)
    have S6 := hide (S6.out.fr f2)
    have S7 := hide (S7.out.fr f2)
    have FW := hide (FW.out.trans f2)
    have l2 := cell_lt S7.out.1
    simp only [] at l2
    have q5 := S5.out.1
    have q6 := S6.out.1
    clear f2
    have FW0 := FW
    go_wp2_with fail
    obtain ⟨W2, hW2⟩ : ∃ W, W = (w2.alloc (Obj.cells #[Value.slice none 0 0] 24)) := ⟨_, rfl⟩
    have f2 : Fr w2 W2 := by rw [hW2]; exact (Fr.alloc w2 (Obj.cells #[Value.slice none 0 0] 24))
    have s8 : Slot w2 W2 (w2.heap.size) (.slice none 0 0) := by
      rw [hW2]; simpa using Slot.new (Fr.refl w2) none 0 0 24
    rw [← hW2]
    clear hW2
    have S8 := hide s8
    have IL := hide (IL.out.fr f2)
    have IR := hide (IR.out.fr f2)
    have ID := hide (ID.out.fr f2)
    have S4 := hide (S4.out.fr f2)
    have S5 := hide (S5.out.fr f2)
    have S6 := hide (S6.out.fr f2)
    have S7 := hide (S7.out.fr f2)
    have FW := hide (FW.out.trans f2)
    clear f2 s8 q5 q6
    refine (sub_yes _ _ R L _ IR.out IL.out (by omega) (by omega) (by omega)).mono ?_
    rintro e w3 ⟨as', cs, rfl, iy, _, fy⟩
    have IS := hide iy
    have ID := hide (ID.out.fr fy)
    have S4 := hide (S4.out.fr fy)
    have S7 := hide (S7.out.fr fy)
    have S8 := hide (S8.out.fr fy)
    have FW := hide (FW.out.trans fy)
    have eA : R - L = awayN L R := by unfold awayN; omega
    have nA : nlen 4294967296 (R - L) ≤ 2000000 := nl_le nR (by omega)
    obtain ⟨A, hA⟩ : ∃ A, R - L = A := ⟨_, rfl⟩
    rw [hA] at eA nA IS ⊢
    have EA := hide eA
    clear iy fy hA eA
    have q7 := S7.out.1
    have q8 := S8.out.1
    have z8 := S8.out.2.1
    go_wp2_with fail
    have ID := hide (S8.out.nat ID.out (.slice as' (nlen 4294967296 A) cs))
    have IS := hide (S8.out.nat IS.out (.slice as' (nlen 4294967296 A) cs))
    have S4 := hide (Slot.other2 S4.out S8.out (by omega) as' (nlen 4294967296 A) cs)
    have FW := hide (S8.out.old FW0.out |>.set_fr FW.out (.slice as' (nlen 4294967296 A) cs))
    refine (lowest_any _ _ A D _ (Tab.fr HT.out FW.out) IS.out ID.out (by omega) (by omega) hD0).mono ?_
    rintro e wr ⟨v, rfl, ir, fy⟩
    have RV := hide (SAME.out _ _ _ EA.out ir)
    have S4 := hide (S4.out.fr fy)
    have FW := hide (FW.out.trans fy)
    obtain ⟨u1, u2, u3, u4, u5, u6, rfl⟩ := ir.form
    clear ir fy
    have q_ := S4.out.1
    have q2_ := S4.out.2.1
    have z_ := S4.out.2.2.1 0
    have z2_ := S4.out.2.2.1 1
    have RV := hide (S4.out.rat RV.out u1 u2 u3 (.slice u4 u5 u6))
    have FW := hide (S4.out.set_fr FW.out (.slice u1 u2 u3) (.slice u4 u5 u6))
    have S4 := hide (S4.out.set u1 u2 u3 u4 u5 u6)
    go_wp2_with fail
    exact bodyPost_ret (results_rat rfl _ _ (w.heap.size + 1 + 1) _ _ rfl S4.out.1 S4.out.2.1) rfl ⟨_, rfl, RV.out, FW.out⟩
  · refine (sub_yes _ _ L R _ IL.out IR.out (by omega) (by omega) hc).mono ?_
    rintro e w2 ⟨as', cs, rfl, iy, _, f2⟩
    have IS := hide iy
    have ID := hide (ID.out.fr f2)
    have S4 := hide (S4.out.fr f2)
    have S7 := hide (S7.out.fr f2)
    have FW := hide (FW.out.trans f2)
    have eA : L - R = awayN L R := by unfold awayN; omega
    have nA : nlen 4294967296 (L - R) ≤ 2000000 := nl_le nL (by omega)
    obtain ⟨A, hA⟩ : ∃ A, L - R = A := ⟨_, rfl⟩
    rw [hA] at eA nA IS ⊢
    have EA := hide eA
    clear iy f2 hA S5 S6 eA
    have q7 := S7.out.1
    go_wp2_with fail
    obtain ⟨W2, hW2⟩ : ∃ W, W = (w2.alloc (Obj.cells #[Value.slice as' (nlen 4294967296 A) cs] 24)) := ⟨_, rfl⟩
    have f2 : Fr w2 W2 := by rw [hW2]; exact (Fr.alloc w2 (Obj.cells #[Value.slice as' (nlen 4294967296 A) cs] 24))
    rw [← hW2]
    clear hW2

    have IS := hide (IS.out.fr f2)
    have ID := hide (ID.out.fr f2)
    have S4 := hide (S4.out.fr f2)
    have FW := hide (FW.out.trans f2)
    clear f2 q7
    refine (lowest_any _ _ A D _ (Tab.fr HT.out FW.out) IS.out ID.out (by omega) (by omega) hD0).mono ?_
    rintro e wr ⟨v, rfl, ir, fy⟩
    have RV := hide (SAME.out _ _ _ EA.out ir)
    have S4 := hide (S4.out.fr fy)
    have FW := hide (FW.out.trans fy)
    obtain ⟨u1, u2, u3, u4, u5, u6, rfl⟩ := ir.form
    clear ir fy
    have q_ := S4.out.1
    have q2_ := S4.out.2.1
    have z_ := S4.out.2.2.1 0
    have z2_ := S4.out.2.2.1 1
    have RV := hide (S4.out.rat RV.out u1 u2 u3 (.slice u4 u5 u6))
    have FW := hide (S4.out.set_fr FW.out (.slice u1 u2 u3) (.slice u4 u5 u6))
    have S4 := hide (S4.out.set u1 u2 u3 u4 u5 u6)
    go_wp2_with fail
    exact bodyPost_ret (results_rat rfl _ _ (w.heap.size + 1 + 1) _ _ rfl S4.out.1 S4.out.2.1) rfl ⟨_, rfl, RV.out, FW.out⟩

set_option maxHeartbeats 600000 in
set_option maxRecDepth 4000 in
theorem ofR_no (va vb : Value) (x : Nat) (w : World) (ha : IsNat w va x) (hb : IsNat w vb 0) :
    Calls Tryd.prog 24 #[va, vb] w fun e w' => e = .returned (.tuple #[.agg #[.slice none 0 0, .slice none 0 0], .bool false]) ∧ Fr w w' := by
  have HB := hide hb
  obtain ⟨a, ca, rfl, a2, a3, a4⟩ := ha
  obtain ⟨b, cb, rfl, b2, b3, b4⟩ := hb
  clear a4 b4
  go_enter Tryd.func24, Tryd.ntmps24
  go_wp2_with fail
  obtain ⟨W, hW⟩ : ∃ W, W = (((w.alloc (Obj.cells #[Value.slice a (nlen 4294967296 x) ca] 24)).alloc (Obj.cells #[Value.slice b (nlen 4294967296 0) cb] 24)).alloc (Obj.cells #[Value.slice none 0 0, Value.slice none 0 0] 26)) := ⟨_, rfl⟩
  have fW : Fr w W := by rw [hW]; exact (((Fr.alloc w (Obj.cells #[Value.slice a (nlen 4294967296 x) ca] 24)).trans (Fr.alloc _ (Obj.cells #[Value.slice b (nlen 4294967296 0) cb] 24))).trans (Fr.alloc _ (Obj.cells #[Value.slice none 0 0, Value.slice none 0 0] 26)))
  have s4 : Slot2 w W (w.heap.size + 1 + 1) (.slice none 0 0) (.slice none 0 0) := by
    rw [hW]; simpa using Slot2.new ((Fr.alloc w (Obj.cells #[Value.slice a (nlen 4294967296 x) ca] 24)).trans (Fr.alloc _ (Obj.cells #[Value.slice b (nlen 4294967296 0) cb] 24))) none 0 0 none 0 0 26
  rw [← hW]
  clear hW
  refine (isNought_any _ 0 _ (HB.out.fr fW) (by rw [nlen_zero]; omega)).mono ?_
  rintro e w1 ⟨rfl, f1⟩
  have S4 := hide (s4.fr f1)
  have FW := hide (fW.trans f1)
  clear s4 fW f1
  have q_ := S4.out.1
  have q2_ := S4.out.2.1
  have z_ := S4.out.2.2.1 0
  have z2_ := S4.out.2.2.1 1
  have FW := hide (S4.out.set_fr FW.out (.slice none 0 0) (.slice none 0 0))
  have S4 := hide (S4.out.set none 0 0 none 0 0)
  go_wp2_with fail
  exact bodyPost_ret (results_rat_ok rfl _ _ (w.heap.size + 1 + 1) _ _ rfl S4.out.1 S4.out.2.1) rfl ⟨rfl, FW.out⟩

set_option maxHeartbeats 600000 in
set_option maxRecDepth 4000 in
theorem ofR_yes (va vb : Value) (x y : Nat) (w : World) (hT : Tab w) (ha : IsNat w va x) (hb : IsNat w vb y) (hx : nlen 4294967296 x ≤ 1000000) (hy : nlen 4294967296 y ≤ 1000000) (hy0 : y ≠ 0) :
    Calls Tryd.prog 24 #[va, vb] w fun e w' => ∃ v, e = .returned (.tuple #[v, .bool true]) ∧ IsRat w' v x y ∧ Fr w w' := by
  have HA := hide ha
  have HB := hide hb
  have HT := hide hT
  obtain ⟨a, ca, rfl, a2, a3, a4⟩ := ha
  obtain ⟨b, cb, rfl, b2, b3, b4⟩ := hb
  clear a4 b4 hT
  go_enter Tryd.func24, Tryd.ntmps24
  go_wp2_with fail
  obtain ⟨W, hW⟩ : ∃ W, W = (((w.alloc (Obj.cells #[Value.slice a (nlen 4294967296 x) ca] 24)).alloc (Obj.cells #[Value.slice b (nlen 4294967296 y) cb] 24)).alloc (Obj.cells #[Value.slice none 0 0, Value.slice none 0 0] 26)) := ⟨_, rfl⟩
  have fW : Fr w W := by rw [hW]; exact (((Fr.alloc w (Obj.cells #[Value.slice a (nlen 4294967296 x) ca] 24)).trans (Fr.alloc _ (Obj.cells #[Value.slice b (nlen 4294967296 y) cb] 24))).trans (Fr.alloc _ (Obj.cells #[Value.slice none 0 0, Value.slice none 0 0] 26)))
  have s2 : Slot w W (w.heap.size) (.slice a (nlen 4294967296 x) ca) := by
    rw [hW]; simpa using ((Slot.new (Fr.refl w) a (nlen 4294967296 x) ca 24).fr (Fr.alloc _ _)).fr (Fr.alloc _ _)
  have s3 : Slot w W (w.heap.size + 1) (.slice b (nlen 4294967296 y) cb) := by
    rw [hW]; simpa using (Slot.new (Fr.alloc w (Obj.cells #[Value.slice a (nlen 4294967296 x) ca] 24)) b (nlen 4294967296 y) cb 24).fr (Fr.alloc _ _)
  have s4 : Slot2 w W (w.heap.size + 1 + 1) (.slice none 0 0) (.slice none 0 0) := by
    rw [hW]; simpa using Slot2.new ((Fr.alloc w (Obj.cells #[Value.slice a (nlen 4294967296 x) ca] 24)).trans (Fr.alloc _ (Obj.cells #[Value.slice b (nlen 4294967296 y) cb] 24))) none 0 0 none 0 0 26
  rw [← hW]
  clear hW
  refine (isNought_any _ y _ (HB.out.fr fW) (by omega)).mono ?_
  rintro e w1 ⟨rfl, f1⟩
  rw [decide_eq_false hy0]
  have S4 := hide (s4.fr f1)
  have FW := hide (fW.trans f1)
  have q2 := (s2.fr f1).1
  have q3 := (s3.fr f1).1
  clear s2 s3 s4 fW f1
  go_wp2_with fail
  refine (lowest_any _ _ x y _ (Tab.fr HT.out FW.out) (HA.out.fr FW.out) (HB.out.fr FW.out) (by omega) (by omega) hy0).mono ?_
  rintro e wr ⟨v, rfl, ir, fy⟩
  have RV := hide ir
  have S4 := hide (S4.out.fr fy)
  have FW := hide (FW.out.trans fy)
  obtain ⟨u1, u2, u3, u4, u5, u6, rfl⟩ := ir.form
  clear ir fy
  have q_ := S4.out.1
  have q2_ := S4.out.2.1
  have z_ := S4.out.2.2.1 0
  have z2_ := S4.out.2.2.1 1
  have RV := hide (S4.out.rat RV.out u1 u2 u3 (.slice u4 u5 u6))
  have FW := hide (S4.out.set_fr FW.out (.slice u1 u2 u3) (.slice u4 u5 u6))
  have S4 := hide (S4.out.set u1 u2 u3 u4 u5 u6)
  go_wp2_with fail
  exact bodyPost_ret (results_rat_ok rfl _ _ (w.heap.size + 1 + 1) _ _ rfl S4.out.1 S4.out.2.1) rfl ⟨_, rfl, RV.out, FW.out⟩
end Go.Proofs.YtimglhbllcjpbaaDoor
