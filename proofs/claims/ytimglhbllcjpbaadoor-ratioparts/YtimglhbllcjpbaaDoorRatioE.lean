/- Quotients: Cmp, Add, Away, Mul. -/
import Derived.Test.YtimglhbllcjpbaaDoorRatioD
namespace Go.Proofs.YtimglhbllcjpbaaDoor
set_option linter.unusedVariables false
set_option linter.unusedSimpArgs false
open Go.RowKit

attribute [local go_sem] World.cell?_alloc_some
theorem lev_cmp {n1 d1 n2 d2 : Nat} (h1 : d1 ≠ 0) (h2 : d2 ≠ 0) : cmpZ (rN n1 d1 * rD n2 d2) (rN n2 d2 * rD n1 d1) = cmpZ (n1 * d2) (n2 * d1) := by
  have g1 := gcd_pos_right (n := n1) h1
  have g2 := gcd_pos_right (n := n2) h2
  have a1 := @rN_mul n1 d1
  have a2 := @rD_mul n1 d1
  have b1 := @rN_mul n2 d2
  have b2 := @rD_mul n2 d2
  have hk : Nat.gcd n1 d1 * Nat.gcd n2 d2 ≠ 0 := Nat.mul_ne_zero (by omega) (by omega)
  rw [← cmpZ_scale hk]
  generalize Nat.gcd n1 d1 = G1 at *
  generalize Nat.gcd n2 d2 = G2 at *
  generalize rN n1 d1 = P1 at *
  generalize rD n1 d1 = Q1 at *
  generalize rN n2 d2 = P2 at *
  generalize rD n2 d2 = Q2 at *
  subst a1 a2 b1 b2
  congr 1 <;> ac_rfl
theorem lev_add {n1 d1 n2 d2 : Nat} : (rN n1 d1 * rD n2 d2 + rN n2 d2 * rD n1 d1) * (d1 * d2) = (n1 * d2 + n2 * d1) * (rD n1 d1 * rD n2 d2) := by
  have a1 := @rN_mul n1 d1
  have a2 := @rD_mul n1 d1
  have b1 := @rN_mul n2 d2
  have b2 := @rD_mul n2 d2
  generalize Nat.gcd n1 d1 = G1 at *
  generalize Nat.gcd n2 d2 = G2 at *
  generalize rN n1 d1 = P1 at *
  generalize rD n1 d1 = Q1 at *
  generalize rN n2 d2 = P2 at *
  generalize rD n2 d2 = Q2 at *
  subst a1 a2 b1 b2
  rw [Nat.add_mul, Nat.add_mul]
  congr 1 <;> ac_rfl
theorem lev_sub {n1 d1 n2 d2 : Nat} : (rN n1 d1 * rD n2 d2 - rN n2 d2 * rD n1 d1) * (d1 * d2) = (n1 * d2 - n2 * d1) * (rD n1 d1 * rD n2 d2) := by
  have a1 := @rN_mul n1 d1
  have a2 := @rD_mul n1 d1
  have b1 := @rN_mul n2 d2
  have b2 := @rD_mul n2 d2
  generalize Nat.gcd n1 d1 = G1 at *
  generalize Nat.gcd n2 d2 = G2 at *
  generalize rN n1 d1 = P1 at *
  generalize rD n1 d1 = Q1 at *
  generalize rN n2 d2 = P2 at *
  generalize rD n2 d2 = Q2 at *
  subst a1 a2 b1 b2
  rw [Nat.sub_mul, Nat.sub_mul]
  congr 1 <;> ac_rfl
theorem lev_mul {n1 d1 n2 d2 : Nat} : (rN n1 d1 * rN n2 d2) * (d1 * d2) = (n1 * n2) * (rD n1 d1 * rD n2 d2) := by
  have a1 := @rN_mul n1 d1
  have a2 := @rD_mul n1 d1
  have b1 := @rN_mul n2 d2
  have b2 := @rD_mul n2 d2
  generalize Nat.gcd n1 d1 = G1 at *
  generalize Nat.gcd n2 d2 = G2 at *
  generalize rN n1 d1 = P1 at *
  generalize rD n1 d1 = Q1 at *
  generalize rN n2 d2 = P2 at *
  generalize rD n2 d2 = Q2 at *
  subst a1 a2 b1 b2
  ac_rfl

set_option maxHeartbeats 2000000 in
set_option maxRecDepth 4000 in
theorem cmpR_any (va vb : Value) (n1 d1 n2 d2 : Nat) (w : World) (hT : Tab w) (ha : IsRat w va n1 d1) (hb : IsRat w vb n2 d2) (h1 : nlen 4294967296 n1 ≤ 1000000) (k1 : nlen 4294967296 d1 ≤ 1000000) (h2 : nlen 4294967296 n2 ≤ 1000000) (k2 : nlen 4294967296 d2 ≤ 1000000) (Z : Int) (eZ : cmpZ (n1 * d2) (n2 * d1) = Z) :
    Calls Tryd.prog 14 #[va, vb] w fun e w' => e = .returned (.int .i64 Z) ∧ Fr w w' := by
  have HA := hide ha
  have HB := hide hb
  have HT := hide hT
  obtain ⟨a, N, ca, b, M, cb, rfl⟩ := ha.form
  obtain ⟨a', N', ca', b', M', cb', rfl⟩ := hb.form
  have hd1 := ha.1
  have hd2 := hb.1
  have np1 : nlen 4294967296 (rN n1 d1) ≤ 1000000 := nl_le h1 (rN_le _ _)
  have nq1 : nlen 4294967296 (rD n1 d1) ≤ 1000000 := nl_le k1 (rD_le _ _)
  have np2 : nlen 4294967296 (rN n2 d2) ≤ 1000000 := nl_le h2 (rN_le _ _)
  have nq2 : nlen 4294967296 (rD n2 d2) ≤ 1000000 := nl_le k2 (rD_le _ _)
  have nL : nlen 4294967296 (rN n1 d1 * rD n2 d2) ≤ 2000000 := nlen_mul b32 np1 nq2
  have nR : nlen 4294967296 (rN n2 d2 * rD n1 d1) ≤ 2000000 := nlen_mul b32 np2 nq1
  have nD : nlen 4294967296 (rD n1 d1 * rD n2 d2) ≤ 2000000 := nlen_mul b32 nq1 nq2
  have hD0 : rD n1 d1 * rD n2 d2 ≠ 0 := Nat.mul_ne_zero (rD_pos hd1) (rD_pos hd2)
  obtain ⟨L, hL⟩ : ∃ L, rN n1 d1 * rD n2 d2 = L := ⟨_, rfl⟩
  obtain ⟨R, hR⟩ : ∃ R, rN n2 d2 * rD n1 d1 = R := ⟨_, rfl⟩
  obtain ⟨D, hD⟩ : ∃ D, rD n1 d1 * rD n2 d2 = D := ⟨_, rfl⟩
  rw [hL] at nL
  rw [hR] at nR
  rw [hD] at nD hD0
  have EL := hide hL
  have ER := hide hR
  have ED := hide hD
  rw [← lev_cmp hd1 hd2, hL, hR] at eZ
  have EZ := hide eZ
  clear hL hR hD ha hb hT eZ
  go_enter Tryd.func14, Tryd.ntmps14
  go_wp2_with fail
  obtain ⟨W, hW⟩ : ∃ W, W = ((w.alloc (Obj.cells #[Value.slice a N ca, Value.slice b M cb] 26)).alloc (Obj.cells #[Value.slice a' N' ca', Value.slice b' M' cb'] 26)) := ⟨_, rfl⟩
  have fW : Fr w W := by rw [hW]; exact ((Fr.alloc w (Obj.cells #[Value.slice a N ca, Value.slice b M cb] 26)).trans (Fr.alloc _ (Obj.cells #[Value.slice a' N' ca', Value.slice b' M' cb'] 26)))
  have s2 : Slot2 w W (w.heap.size) (.slice a N ca) (.slice b M cb) := by
    rw [hW]; simpa using (Slot2.new (Fr.refl w) a N ca b M cb 26).fr (Fr.alloc _ _)
  have s3 : Slot2 w W (w.heap.size + 1) (.slice a' N' ca') (.slice b' M' cb') := by
    rw [hW]; simpa using Slot2.new (Fr.alloc w (Obj.cells #[Value.slice a N ca, Value.slice b M cb] 26)) a' N' ca' b' M' cb' 26
  rw [← hW]
  clear hW
  refine (levelled_any _ _ n1 d1 n2 d2 _ (HA.out.fr fW) (HB.out.fr fW) h1 k1 h2 k2 L R D EL.out ER.out ED.out).mono ?_
  rintro e w1 ⟨aL, cL, aR, cR, aD, cD, rfl, iL, iR, iD, f1⟩
  have F := hide (fW.trans f1)
  have IL := hide iL
  have IR := hide iR
  clear iL iR iD s2 s3 fW f1
  go_wp2_with fail
  obtain ⟨W1, hW1⟩ : ∃ W, W = (((w1.alloc (Obj.cells #[Value.slice aL (nlen 4294967296 L) cL] 24)).alloc (Obj.cells #[Value.slice aR (nlen 4294967296 R) cR] 24)).alloc (Obj.cells #[Value.slice aD (nlen 4294967296 D) cD] 24)) := ⟨_, rfl⟩
  have f1 : Fr w1 W1 := by rw [hW1]; exact (((Fr.alloc w1 (Obj.cells #[Value.slice aL (nlen 4294967296 L) cL] 24)).trans (Fr.alloc _ (Obj.cells #[Value.slice aR (nlen 4294967296 R) cR] 24))).trans (Fr.alloc _ (Obj.cells #[Value.slice aD (nlen 4294967296 D) cD] 24)))
  rw [← hW1]
  clear hW1
  refine (cmp_any _ _ L R _ (IL.out.fr f1) (IR.out.fr f1) (by omega) (by omega)).mono ?_
  rintro e w2 ⟨rfl, f2⟩
  rw [EZ.out]
  have F := hide ((F.out.trans f1).trans f2)
  go_wp2_with fail
  go_ret
  exact ⟨rfl, F.out⟩

set_option maxHeartbeats 2000000 in
set_option maxRecDepth 4000 in
theorem addR_any (va vb : Value) (n1 d1 n2 d2 : Nat) (w : World) (hT : Tab w) (ha : IsRat w va n1 d1) (hb : IsRat w vb n2 d2) (h1 : nlen 4294967296 n1 ≤ 1000000) (k1 : nlen 4294967296 d1 ≤ 1000000) (h2 : nlen 4294967296 n2 ≤ 1000000) (k2 : nlen 4294967296 d2 ≤ 1000000) :
    Calls Tryd.prog 16 #[va, vb] w fun e w' => ∃ v, e = .returned v ∧ IsRat w' v (n1 * d2 + n2 * d1) (d1 * d2) ∧ Fr w w' := by
  have HA := hide ha
  have HB := hide hb
  have HT := hide hT
  obtain ⟨a, N, ca, b, M, cb, rfl⟩ := ha.form
  obtain ⟨a', N', ca', b', M', cb', rfl⟩ := hb.form
  have hd1 := ha.1
  have hd2 := hb.1
  have np1 : nlen 4294967296 (rN n1 d1) ≤ 1000000 := nl_le h1 (rN_le _ _)
  have nq1 : nlen 4294967296 (rD n1 d1) ≤ 1000000 := nl_le k1 (rD_le _ _)
  have np2 : nlen 4294967296 (rN n2 d2) ≤ 1000000 := nl_le h2 (rN_le _ _)
  have nq2 : nlen 4294967296 (rD n2 d2) ≤ 1000000 := nl_le k2 (rD_le _ _)
  have nL : nlen 4294967296 (rN n1 d1 * rD n2 d2) ≤ 2000000 := nlen_mul b32 np1 nq2
  have nR : nlen 4294967296 (rN n2 d2 * rD n1 d1) ≤ 2000000 := nlen_mul b32 np2 nq1
  have nD : nlen 4294967296 (rD n1 d1 * rD n2 d2) ≤ 2000000 := nlen_mul b32 nq1 nq2
  have hD0 : rD n1 d1 * rD n2 d2 ≠ 0 := Nat.mul_ne_zero (rD_pos hd1) (rD_pos hd2)
  obtain ⟨L, hL⟩ : ∃ L, rN n1 d1 * rD n2 d2 = L := ⟨_, rfl⟩
  obtain ⟨R, hR⟩ : ∃ R, rN n2 d2 * rD n1 d1 = R := ⟨_, rfl⟩
  obtain ⟨D, hD⟩ : ∃ D, rD n1 d1 * rD n2 d2 = D := ⟨_, rfl⟩
  rw [hL] at nL
  rw [hR] at nR
  rw [hD] at nD hD0
  have EL := hide hL
  have ER := hide hR
  have ED := hide hD
  have nS : nlen 4294967296 (L + R) ≤ 2000001 := nl_sum nL nR
  have SAME : Hid (∀ wz v, IsRat wz v (L + R) D → IsRat wz v (n1 * d2 + n2 * d1) (d1 * d2)) := fun wz v h => h.same (Nat.mul_ne_zero hd1 hd2) (by rw [← EL.out, ← ER.out, ← ED.out]; exact lev_add)
  clear hL hR hD ha hb hT
  go_enter Tryd.func16, Tryd.ntmps16
  go_wp2_with fail
  obtain ⟨W, hW⟩ : ∃ W, W = (((w.alloc (Obj.cells #[Value.slice a N ca, Value.slice b M cb] 26)).alloc (Obj.cells #[Value.slice a' N' ca', Value.slice b' M' cb'] 26)).alloc (Obj.cells #[Value.slice none 0 0, Value.slice none 0 0] 26)) := ⟨_, rfl⟩
  have fW : Fr w W := by rw [hW]; exact (((Fr.alloc w (Obj.cells #[Value.slice a N ca, Value.slice b M cb] 26)).trans (Fr.alloc _ (Obj.cells #[Value.slice a' N' ca', Value.slice b' M' cb'] 26))).trans (Fr.alloc _ (Obj.cells #[Value.slice none 0 0, Value.slice none 0 0] 26)))
  have s4 : Slot2 w W (w.heap.size + 1 + 1) (.slice none 0 0) (.slice none 0 0) := by
    rw [hW]; simpa using Slot2.new ((Fr.alloc w (Obj.cells #[Value.slice a N ca, Value.slice b M cb] 26)).trans (Fr.alloc _ (Obj.cells #[Value.slice a' N' ca', Value.slice b' M' cb'] 26))) none 0 0 none 0 0 26
  rw [← hW]
  clear hW
  refine (levelled_any _ _ n1 d1 n2 d2 _ (HA.out.fr fW) (HB.out.fr fW) h1 k1 h2 k2 L R D EL.out ER.out ED.out).mono ?_
  rintro e w1 ⟨aL, cL, aR, cR, aD, cD, rfl, iL, iR, iD, f1⟩
  have FW := hide (fW.trans f1)
  have S4 := hide (s4.fr f1)
  have IL := hide iL
  have IR := hide iR
  have ID := hide iD
  clear iL iR iD s4 fW f1
  go_wp2_with fail
  obtain ⟨W1, hW1⟩ : ∃ W, W = (((w1.alloc (Obj.cells #[Value.slice aL (nlen 4294967296 L) cL] 24)).alloc (Obj.cells #[Value.slice aR (nlen 4294967296 R) cR] 24)).alloc (Obj.cells #[Value.slice aD (nlen 4294967296 D) cD] 24)) := ⟨_, rfl⟩
  have f1 : Fr w1 W1 := by rw [hW1]; exact (((Fr.alloc w1 (Obj.cells #[Value.slice aL (nlen 4294967296 L) cL] 24)).trans (Fr.alloc _ (Obj.cells #[Value.slice aR (nlen 4294967296 R) cR] 24))).trans (Fr.alloc _ (Obj.cells #[Value.slice aD (nlen 4294967296 D) cD] 24)))
  have s5 : Slot w1 W1 (w1.heap.size) (.slice aL (nlen 4294967296 L) cL) := by
    rw [hW1]; simpa using ((Slot.new (Fr.refl w1) aL (nlen 4294967296 L) cL 24).fr (Fr.alloc _ _)).fr (Fr.alloc _ _)
  have s6 : Slot w1 W1 (w1.heap.size + 1) (.slice aR (nlen 4294967296 R) cR) := by
    rw [hW1]; simpa using (Slot.new (Fr.alloc w1 (Obj.cells #[Value.slice aL (nlen 4294967296 L) cL] 24)) aR (nlen 4294967296 R) cR 24).fr (Fr.alloc _ _)
  have s7 : Slot w1 W1 (w1.heap.size + 1 + 1) (.slice aD (nlen 4294967296 D) cD) := by
    rw [hW1]; simpa using Slot.new ((Fr.alloc w1 (Obj.cells #[Value.slice aL (nlen 4294967296 L) cL] 24)).trans (Fr.alloc _ (Obj.cells #[Value.slice aR (nlen 4294967296 R) cR] 24))) aD (nlen 4294967296 D) cD 24
  rw [← hW1]
  clear hW1
  have l1 := cell_lt S4.out.1
  simp only [] at l1
  have S5 := hide s5
  have S6 := hide s6
  have S7 := hide s7
  have IL := hide (IL.out.fr f1)
  have IR := hide (IR.out.fr f1)
  have ID := hide (ID.out.fr f1)
  have S4 := hide (S4.out.fr f1)
  have FW := hide (FW.out.trans f1)
  have HT := hide (Tab.fr HT.out FW.out)
  clear f1 s5 s6 s7
  have IL := hide (IL.out.fr (Fr.drew _))
  have IR := hide (IR.out.fr (Fr.drew _))
  have ID := hide (ID.out.fr (Fr.drew _))
  have S4 := hide (S4.out.fr (Fr.drew _))
  have S5 := hide (S5.out.fr (Fr.drew _))
  have S6 := hide (S6.out.fr (Fr.drew _))
  have S7 := hide (S7.out.fr (Fr.drew _))
  have HT := hide (HT.out.fr (Fr.drew _))
  have FW := hide (FW.out.trans (Fr.drew _))
  have q5 := S5.out.1
  have q6 := S6.out.1
  have q7 := S7.out.1
  go_wp2_with fail
  refine wp_region_held_drew (S := (fun w' => w'.cell? ⟨w1.heap.size, 0, none⟩ = some (.slice aL (nlen 4294967296 L) cL) ∧ w'.cell? ⟨w1.heap.size + 1, 0, none⟩ = some (.slice aR (nlen 4294967296 R) cR) ∧ w'.cell? ⟨w1.heap.size + 1 + 1, 0, none⟩ = some (.slice aD (nlen 4294967296 D) cD))) (by kernel_rfl) ?_ (fun hHeld => ?_)
  · exact ⟨S5.out.1, S6.out.1, S7.out.1⟩
  obtain ⟨wd, hwd⟩ : ∃ wd, wd = W1.drew := ⟨_, rfl⟩
  rw [← hwd] at hHeld IL IR ID S4 S5 S6 S7 HT FW ⊢
  clear hwd
  refine wpAnyH_take (i := 0) (v := ?_) rfl (by kernel_rfl) (by kernel_rfl) (by kernel_rfl) (fun _ _ _ h => h) (Or.inl ⟨by rfl, ?_⟩) (by assumption) ?_
  rotate_left
  · (intro w hSw; (try dsimp only at hSw); go_simp; try with_reducible rfl)
  (try simp only [Act.put, List.getElem_toArray, List.getElem_cons_zero, List.getElem_cons_succ, List.setIfInBounds_toArray, List.set_cons_zero, List.set_cons_succ])
  refine wpAnyH_take (i := 1) (v := ?_) rfl (by kernel_rfl) (by kernel_rfl) (by kernel_rfl) (fun _ _ _ h => h) (Or.inl ⟨by rfl, ?_⟩) (by assumption) ?_
  rotate_left
  · (intro w hSw; (try dsimp only at hSw); go_simp; try with_reducible rfl)
  (try simp only [Act.put, List.getElem_toArray, List.getElem_cons_zero, List.getElem_cons_succ, List.setIfInBounds_toArray, List.set_cons_zero, List.set_cons_succ])
  refine wpAnyH_take (i := 3) (v := ?_) rfl (by kernel_rfl) (by kernel_rfl) (by kernel_rfl) (fun _ _ _ h => h) (Or.inl ⟨by rfl, ?_⟩) (by assumption) ?_
  rotate_left
  · (intro w hSw; (try dsimp only at hSw); go_simp; try with_reducible rfl)
  (try simp only [Act.put, List.getElem_toArray, List.getElem_cons_zero, List.getElem_cons_succ, List.setIfInBounds_toArray, List.set_cons_zero, List.set_cons_succ])
  refine wpAnyH_ready (rs := [2]) (by kernel_rfl) (by simp) ?_
  refine AllReadyH.cons rfl (fun K hK => ?_) AllReadyH.nil
  go_simp
  refine (add_any _ _ L R _ IL.out IR.out (by omega) (by omega)).mono ?_
  rintro e wn ⟨ay, cy, rfl, iy, _, fy⟩
  have IS := hide iy
  have ID := hide (ID.out.fr fy)
  have S4 := hide (S4.out.fr fy)
  have S5 := hide (S5.out.fr fy)
  have S6 := hide (S6.out.fr fy)
  have S7 := hide (S7.out.fr fy)
  have HT := hide (HT.out.fr fy)
  have FW := hide (FW.out.trans fy)
  clear iy fy
  (try go_wp2_with fail)
  refine hK.out _ _ ?_ (fun hHeld => ?_)
  · (try dsimp only)
    exact ⟨S5.out.1, S6.out.1, S7.out.1⟩
  clear hK K
  (try simp only [Act.put, List.getElem_toArray, List.getElem_cons_zero, List.getElem_cons_succ, List.setIfInBounds_toArray, List.set_cons_zero, List.set_cons_succ])
  refine wpAnyH_ready (rs := [4]) (by kernel_rfl) (by simp) ?_
  refine AllReadyH.cons rfl (fun K hK => ?_) AllReadyH.nil
  go_simp
  refine (lowest_any _ _ (L + R) D _ HT.out IS.out ID.out (by omega) (by omega) hD0).mono ?_
  rintro e wr ⟨v, rfl, ir, fy⟩
  have RV := hide (SAME.out _ _ ir)
  have S4 := hide (S4.out.fr fy)
  have S5 := hide (S5.out.fr fy)
  have S6 := hide (S6.out.fr fy)
  have S7 := hide (S7.out.fr fy)
  have FW := hide (FW.out.trans fy)
  obtain ⟨u1, u2, u3, u4, u5, u6, rfl⟩ := ir.form
  clear ir fy
  (try go_wp2_with fail)
  refine hK.out _ _ ?_ (fun hHeld => ?_)
  · (try dsimp only)
    exact ⟨S5.out.1, S6.out.1, S7.out.1⟩
  clear hK K
  (try simp only [Act.put, List.getElem_toArray, List.getElem_cons_zero, List.getElem_cons_succ, List.setIfInBounds_toArray, List.set_cons_zero, List.set_cons_succ])
  refine wpAnyH_ready (rs := [5]) (by kernel_rfl) (by simp) ?_
  refine AllReadyH.cons rfl (fun K hK => ?_) AllReadyH.nil
  have S5' := S5.out
  have l4 := cell_lt S4.out.1
  have q_ := S4.out.1
  have q2_ := S4.out.2.1
  have z_ := S4.out.2.2.1 0
  have z2_ := S4.out.2.2.1 1
  have RV := hide (S4.out.rat RV.out u1 u2 u3 (.slice u4 u5 u6))
  have FW := hide (S4.out.set_fr FW.out (.slice u1 u2 u3) (.slice u4 u5 u6))
  have S4 := hide (S4.out.set u1 u2 u3 u4 u5 u6)
  go_simp
  (try go_wp2_with fail)
  refine hK.out _ _ ?_ (fun hHeld => ?_)
  · (try dsimp only)
    exact ⟨(World.cell?_setCell_other _ _ _ _ (fun e => by injection e; omega)).trans ((World.cell?_setCell_other _ _ _ _ (fun e => by injection e; omega)).trans S5.out.1), (World.cell?_setCell_other _ _ _ _ (fun e => by injection e; omega)).trans ((World.cell?_setCell_other _ _ _ _ (fun e => by injection e; omega)).trans S6.out.1), (World.cell?_setCell_other _ _ _ _ (fun e => by injection e; omega)).trans ((World.cell?_setCell_other _ _ _ _ (fun e => by injection e; omega)).trans S7.out.1)⟩
  clear hK K
  (try simp only [Act.put, List.getElem_toArray, List.getElem_cons_zero, List.getElem_cons_succ, List.setIfInBounds_toArray, List.set_cons_zero, List.set_cons_succ])
  refine wpAnyH_done (by kernel_rfl) ?_ _
  go_wp2_with fail
  exact bodyPost_ret (results_rat rfl _ _ (w.heap.size + 1 + 1) _ _ rfl S4.out.1 S4.out.2.1) rfl ⟨_, rfl, RV.out, FW.out⟩

set_option maxHeartbeats 2000000 in
set_option maxRecDepth 4000 in
theorem mulR_any (va vb : Value) (n1 d1 n2 d2 : Nat) (w : World) (hT : Tab w) (ha : IsRat w va n1 d1) (hb : IsRat w vb n2 d2) (h1 : nlen 4294967296 n1 ≤ 1000000) (k1 : nlen 4294967296 d1 ≤ 1000000) (h2 : nlen 4294967296 n2 ≤ 1000000) (k2 : nlen 4294967296 d2 ≤ 1000000) :
    Calls Tryd.prog 18 #[va, vb] w fun e w' => ∃ v, e = .returned v ∧ IsRat w' v (n1 * n2) (d1 * d2) ∧ Fr w w' := by
  have HA := hide ha
  have HB := hide hb
  have HT := hide hT
  obtain ⟨a, N, ca, b, M, cb, rfl⟩ := ha.form
  obtain ⟨a', N', ca', b', M', cb', rfl⟩ := hb.form
  have hd1 := ha.1
  have hd2 := hb.1
  have np1 : nlen 4294967296 (rN n1 d1) ≤ 1000000 := nl_le h1 (rN_le _ _)
  have nq1 : nlen 4294967296 (rD n1 d1) ≤ 1000000 := nl_le k1 (rD_le _ _)
  have np2 : nlen 4294967296 (rN n2 d2) ≤ 1000000 := nl_le h2 (rN_le _ _)
  have nq2 : nlen 4294967296 (rD n2 d2) ≤ 1000000 := nl_le k2 (rD_le _ _)
  have hD0 : rD n1 d1 * rD n2 d2 ≠ 0 := Nat.mul_ne_zero (rD_pos hd1) (rD_pos hd2)
  have SAME : Hid (∀ wz v, IsRat wz v (rN n1 d1 * rN n2 d2) (rD n1 d1 * rD n2 d2) → IsRat wz v (n1 * n2) (d1 * d2)) := fun wz v h => h.same (Nat.mul_ne_zero hd1 hd2) lev_mul
  have TA : Hid (∀ wz, Fr w wz → Calls Tryd.prog 8 #[.agg #[.slice a N ca, .slice b M cb]] wz fun e w' => ∃ a c b k, e = .returned (.tuple #[.agg #[.slice a (nlen 4294967296 (rN n1 d1)) c], .agg #[.slice b (nlen 4294967296 (rD n1 d1)) k]]) ∧ IsNat w' (.agg #[.slice a (nlen 4294967296 (rN n1 d1)) c]) (rN n1 d1) ∧ IsNat w' (.agg #[.slice b (nlen 4294967296 (rD n1 d1)) k]) (rD n1 d1) ∧ Fr wz w') := fun wz f => terms_rat _ n1 d1 wz (HA.out.fr f) (by omega)
  have TB : Hid (∀ wz, Fr w wz → Calls Tryd.prog 8 #[.agg #[.slice a' N' ca', .slice b' M' cb']] wz fun e w' => ∃ a c b k, e = .returned (.tuple #[.agg #[.slice a (nlen 4294967296 (rN n2 d2)) c], .agg #[.slice b (nlen 4294967296 (rD n2 d2)) k]]) ∧ IsNat w' (.agg #[.slice a (nlen 4294967296 (rN n2 d2)) c]) (rN n2 d2) ∧ IsNat w' (.agg #[.slice b (nlen 4294967296 (rD n2 d2)) k]) (rD n2 d2) ∧ Fr wz w') := fun wz f => terms_rat _ n2 d2 wz (HB.out.fr f) (by omega)
  generalize rN n1 d1 = p1 at *
  generalize rD n1 d1 = q1 at *
  generalize rN n2 d2 = p2 at *
  generalize rD n2 d2 = q2 at *
  have nX : nlen 4294967296 (p1 * p2) ≤ 2000000 := nlen_mul b32 np1 np2
  have nY : nlen 4294967296 (q1 * q2) ≤ 2000000 := nlen_mul b32 nq1 nq2
  clear HA HB ha hb hT h1 k1 h2 k2
  go_enter Tryd.func18, Tryd.ntmps18
  go_wp2_with fail
  obtain ⟨W, hW⟩ : ∃ W, W = (((w.alloc (Obj.cells #[Value.slice a N ca, Value.slice b M cb] 26)).alloc (Obj.cells #[Value.slice a' N' ca', Value.slice b' M' cb'] 26)).alloc (Obj.cells #[Value.slice none 0 0, Value.slice none 0 0] 26)) := ⟨_, rfl⟩
  have fW : Fr w W := by rw [hW]; exact (((Fr.alloc w (Obj.cells #[Value.slice a N ca, Value.slice b M cb] 26)).trans (Fr.alloc _ (Obj.cells #[Value.slice a' N' ca', Value.slice b' M' cb'] 26))).trans (Fr.alloc _ (Obj.cells #[Value.slice none 0 0, Value.slice none 0 0] 26)))
  have s3 : Slot2 w W (w.heap.size + 1) (.slice a' N' ca') (.slice b' M' cb') := by
    rw [hW]; simpa using (Slot2.new (Fr.alloc w (Obj.cells #[Value.slice a N ca, Value.slice b M cb] 26)) a' N' ca' b' M' cb' 26).fr (Fr.alloc _ _)
  have s4 : Slot2 w W (w.heap.size + 1 + 1) (.slice none 0 0) (.slice none 0 0) := by
    rw [hW]; simpa using Slot2.new ((Fr.alloc w (Obj.cells #[Value.slice a N ca, Value.slice b M cb] 26)).trans (Fr.alloc _ (Obj.cells #[Value.slice a' N' ca', Value.slice b' M' cb'] 26))) none 0 0 none 0 0 26
  rw [← hW]
  clear hW
  refine (TA.out _ fW).mono ?_
  rintro e w1 ⟨ap, cp, aq, cq, rfl, ip, iq, f1⟩
  have S3 := hide (s3.fr f1)
  have S4 := hide (s4.fr f1)
  have FW := hide (fW.trans f1)
  have l1 := cell_lt S4.out.1
  simp only [] at l1
  clear s3 s4 fW f1 TA
  have q3 := S3.out.1
  have q3' := S3.out.2.1
  go_wp2_with fail
  obtain ⟨W1, hW1⟩ : ∃ W, W = ((w1.alloc (Obj.cells #[Value.slice ap (nlen 4294967296 p1) cp] 24)).alloc (Obj.cells #[Value.slice aq (nlen 4294967296 q1) cq] 24)) := ⟨_, rfl⟩
  have f1 : Fr w1 W1 := by rw [hW1]; exact ((Fr.alloc w1 (Obj.cells #[Value.slice ap (nlen 4294967296 p1) cp] 24)).trans (Fr.alloc _ (Obj.cells #[Value.slice aq (nlen 4294967296 q1) cq] 24)))
  have s7 : Slot w1 W1 (w1.heap.size) (.slice ap (nlen 4294967296 p1) cp) := by
    rw [hW1]; simpa using (Slot.new (Fr.refl w1) ap (nlen 4294967296 p1) cp 24).fr (Fr.alloc _ _)
  have s8 : Slot w1 W1 (w1.heap.size + 1) (.slice aq (nlen 4294967296 q1) cq) := by
    rw [hW1]; simpa using Slot.new (Fr.alloc w1 (Obj.cells #[Value.slice ap (nlen 4294967296 p1) cp] 24)) aq (nlen 4294967296 q1) cq 24
  rw [← hW1]
  clear hW1
  have S7 := hide s7
  have S8 := hide s8
  have S4 := hide (S4.out.fr f1)
  have FW := hide (FW.out.trans f1)
  have IP1 := hide (ip.fr f1)
  have IQ1 := hide (iq.fr f1)
  clear s7 s8 ip iq f1 q3 q3' S3
  refine (TB.out _ FW.out).mono ?_
  rintro e w2 ⟨ap', cp', aq', cq', rfl, ip, iq, f2⟩
  have S4 := hide (S4.out.fr f2)
  have S7 := hide (S7.out.fr f2)
  have S8 := hide (S8.out.fr f2)
  have IP1 := hide (IP1.out.fr f2)
  have IQ1 := hide (IQ1.out.fr f2)
  have FW := hide (FW.out.trans f2)
  have l2 := cell_lt S8.out.1
  simp only [] at l2
  clear f2 TB
  go_wp2_with fail
  obtain ⟨W2, hW2⟩ : ∃ W, W = ((w2.alloc (Obj.cells #[Value.slice ap' (nlen 4294967296 p2) cp'] 24)).alloc (Obj.cells #[Value.slice aq' (nlen 4294967296 q2) cq'] 24)) := ⟨_, rfl⟩
  have f2 : Fr w2 W2 := by rw [hW2]; exact ((Fr.alloc w2 (Obj.cells #[Value.slice ap' (nlen 4294967296 p2) cp'] 24)).trans (Fr.alloc _ (Obj.cells #[Value.slice aq' (nlen 4294967296 q2) cq'] 24)))
  have s9 : Slot w2 W2 (w2.heap.size) (.slice ap' (nlen 4294967296 p2) cp') := by
    rw [hW2]; simpa using (Slot.new (Fr.refl w2) ap' (nlen 4294967296 p2) cp' 24).fr (Fr.alloc _ _)
  have s10 : Slot w2 W2 (w2.heap.size + 1) (.slice aq' (nlen 4294967296 q2) cq') := by
    rw [hW2]; simpa using Slot.new (Fr.alloc w2 (Obj.cells #[Value.slice ap' (nlen 4294967296 p2) cp'] 24)) aq' (nlen 4294967296 q2) cq' 24
  rw [← hW2]
  clear hW2
  have IP2 := hide (ip.fr f2)
  have IQ2 := hide (iq.fr f2)
  have S9 := hide s9
  have S10 := hide s10
  have S4 := hide (S4.out.fr f2)
  have S7 := hide (S7.out.fr f2)
  have S8 := hide (S8.out.fr f2)
  have IP1 := hide (IP1.out.fr f2)
  have IQ1 := hide (IQ1.out.fr f2)
  have FW := hide (FW.out.trans f2)
  have HT := hide (Tab.fr HT.out FW.out)
  clear f2 ip iq s9 s10
  have S4 := hide (S4.out.fr (Fr.drew _))
  have S7 := hide (S7.out.fr (Fr.drew _))
  have S8 := hide (S8.out.fr (Fr.drew _))
  have S9 := hide (S9.out.fr (Fr.drew _))
  have S10 := hide (S10.out.fr (Fr.drew _))
  have IP1 := hide (IP1.out.fr (Fr.drew _))
  have IQ1 := hide (IQ1.out.fr (Fr.drew _))
  have IP2 := hide (IP2.out.fr (Fr.drew _))
  have IQ2 := hide (IQ2.out.fr (Fr.drew _))
  have HT := hide (HT.out.fr (Fr.drew _))
  have FW := hide (FW.out.trans (Fr.drew _))
  have c7 := S7.out.1
  have c8 := S8.out.1
  have c9 := S9.out.1
  have c10 := S10.out.1
  go_wp2_with fail
  refine wp_region_held_drew (S := (fun w' => w'.cell? ⟨w1.heap.size, 0, none⟩ = some (.slice ap (nlen 4294967296 p1) cp) ∧ w'.cell? ⟨w1.heap.size + 1, 0, none⟩ = some (.slice aq (nlen 4294967296 q1) cq) ∧ w'.cell? ⟨w2.heap.size, 0, none⟩ = some (.slice ap' (nlen 4294967296 p2) cp') ∧ w'.cell? ⟨w2.heap.size + 1, 0, none⟩ = some (.slice aq' (nlen 4294967296 q2) cq'))) (by kernel_rfl) ?_ (fun hHeld => ?_)
  · exact ⟨S7.out.1, S8.out.1, S9.out.1, S10.out.1⟩
  obtain ⟨wd, hwd⟩ : ∃ wd, wd = W2.drew := ⟨_, rfl⟩
  rw [← hwd] at hHeld S4 S7 S8 S9 S10 IP1 IQ1 IP2 IQ2 HT FW ⊢
  clear hwd
  refine wpAnyH_take (i := 0) (v := ?_) rfl (by kernel_rfl) (by kernel_rfl) (by kernel_rfl) (fun _ _ _ h => h) (Or.inl ⟨by rfl, ?_⟩) (by assumption) ?_
  rotate_left
  · (intro w hSw; (try dsimp only at hSw); go_simp; try with_reducible rfl)
  (try simp only [Act.put, List.getElem_toArray, List.getElem_cons_zero, List.getElem_cons_succ, List.setIfInBounds_toArray, List.set_cons_zero, List.set_cons_succ])
  refine wpAnyH_take (i := 1) (v := ?_) rfl (by kernel_rfl) (by kernel_rfl) (by kernel_rfl) (fun _ _ _ h => h) (Or.inl ⟨by rfl, ?_⟩) (by assumption) ?_
  rotate_left
  · (intro w hSw; (try dsimp only at hSw); go_simp; try with_reducible rfl)
  (try simp only [Act.put, List.getElem_toArray, List.getElem_cons_zero, List.getElem_cons_succ, List.setIfInBounds_toArray, List.set_cons_zero, List.set_cons_succ])
  refine wpAnyH_take (i := 3) (v := ?_) rfl (by kernel_rfl) (by kernel_rfl) (by kernel_rfl) (fun _ _ _ h => h) (Or.inl ⟨by rfl, ?_⟩) (by assumption) ?_
  rotate_left
  · (intro w hSw; (try dsimp only at hSw); go_simp; try with_reducible rfl)
  (try simp only [Act.put, List.getElem_toArray, List.getElem_cons_zero, List.getElem_cons_succ, List.setIfInBounds_toArray, List.set_cons_zero, List.set_cons_succ])
  refine wpAnyH_take (i := 4) (v := ?_) rfl (by kernel_rfl) (by kernel_rfl) (by kernel_rfl) (fun _ _ _ h => h) (Or.inl ⟨by rfl, ?_⟩) (by assumption) ?_
  rotate_left
  · (intro w hSw; (try dsimp only at hSw); go_simp; try with_reducible rfl)
  (try simp only [Act.put, List.getElem_toArray, List.getElem_cons_zero, List.getElem_cons_succ, List.setIfInBounds_toArray, List.set_cons_zero, List.set_cons_succ])
  refine wpAnyH_ready (rs := [2]) (by kernel_rfl) (by simp) ?_
  refine AllReadyH.cons rfl (fun K hK => ?_) AllReadyH.nil
  go_simp
  refine (mul_any _ _ p1 p2 _ IP1.out IP2.out (by omega) (by omega)).mono ?_
  rintro e wn ⟨ax, cx, rfl, ix, _, fy⟩
  have IX := hide ix
  have IQ1 := hide (IQ1.out.fr fy)
  have IQ2 := hide (IQ2.out.fr fy)
  have S4 := hide (S4.out.fr fy)
  have S7 := hide (S7.out.fr fy)
  have S8 := hide (S8.out.fr fy)
  have S9 := hide (S9.out.fr fy)
  have S10 := hide (S10.out.fr fy)
  have HT := hide (HT.out.fr fy)
  have FW := hide (FW.out.trans fy)
  clear ix fy IP1 IP2
  (try go_wp2_with fail)
  refine hK.out _ _ ?_ (fun hHeld => ?_)
  · (try dsimp only)
    exact ⟨S7.out.1, S8.out.1, S9.out.1, S10.out.1⟩
  clear hK K
  (try simp only [Act.put, List.getElem_toArray, List.getElem_cons_zero, List.getElem_cons_succ, List.setIfInBounds_toArray, List.set_cons_zero, List.set_cons_succ])
  refine wpAnyH_ready (rs := [5]) (by kernel_rfl) (by simp) ?_
  refine AllReadyH.cons rfl (fun K hK => ?_) AllReadyH.nil
  go_simp
  refine (mul_any _ _ q1 q2 _ IQ1.out IQ2.out (by omega) (by omega)).mono ?_
  rintro e wm ⟨ay, cy, rfl, iy, _, fy⟩
  have IY := hide iy
  have IX := hide (IX.out.fr fy)
  have S4 := hide (S4.out.fr fy)
  have S7 := hide (S7.out.fr fy)
  have S8 := hide (S8.out.fr fy)
  have S9 := hide (S9.out.fr fy)
  have S10 := hide (S10.out.fr fy)
  have HT := hide (HT.out.fr fy)
  have FW := hide (FW.out.trans fy)
  clear iy fy IQ1 IQ2
  (try go_wp2_with fail)
  refine hK.out _ _ ?_ (fun hHeld => ?_)
  · (try dsimp only)
    exact ⟨S7.out.1, S8.out.1, S9.out.1, S10.out.1⟩
  clear hK K
  (try simp only [Act.put, List.getElem_toArray, List.getElem_cons_zero, List.getElem_cons_succ, List.setIfInBounds_toArray, List.set_cons_zero, List.set_cons_succ])
  refine wpAnyH_ready (rs := [6]) (by kernel_rfl) (by simp) ?_
  refine AllReadyH.cons rfl (fun K hK => ?_) AllReadyH.nil
  go_simp
  refine (lowest_any _ _ (p1 * p2) (q1 * q2) _ HT.out IX.out IY.out (by omega) (by omega) hD0).mono ?_
  rintro e wr ⟨v, rfl, ir, fy⟩
  have RV := hide (SAME.out _ _ ir)
  have S4 := hide (S4.out.fr fy)
  have S7 := hide (S7.out.fr fy)
  have S8 := hide (S8.out.fr fy)
  have S9 := hide (S9.out.fr fy)
  have S10 := hide (S10.out.fr fy)
  have FW := hide (FW.out.trans fy)
  obtain ⟨u1, u2, u3, u4, u5, u6, rfl⟩ := ir.form
  clear ir fy
  (try go_wp2_with fail)
  refine hK.out _ _ ?_ (fun hHeld => ?_)
  · (try dsimp only)
    exact ⟨S7.out.1, S8.out.1, S9.out.1, S10.out.1⟩
  clear hK K
  (try simp only [Act.put, List.getElem_toArray, List.getElem_cons_zero, List.getElem_cons_succ, List.setIfInBounds_toArray, List.set_cons_zero, List.set_cons_succ])
  refine wpAnyH_ready (rs := [7]) (by kernel_rfl) (by simp) ?_
  refine AllReadyH.cons rfl (fun K hK => ?_) AllReadyH.nil
  have q_ := S4.out.1
  have q2_ := S4.out.2.1
  have z_ := S4.out.2.2.1 0
  have z2_ := S4.out.2.2.1 1
  have RV := hide (S4.out.rat RV.out u1 u2 u3 (.slice u4 u5 u6))
  have FW := hide (S4.out.set_fr FW.out (.slice u1 u2 u3) (.slice u4 u5 u6))
  have S4 := hide (S4.out.set u1 u2 u3 u4 u5 u6)
  go_simp
  (try go_wp2_with fail)
  refine hK.out _ _ ?_ (fun hHeld => ?_)
  · (try dsimp only)
    exact ⟨(World.cell?_setCell_other _ _ _ _ (fun e => by injection e; omega)).trans ((World.cell?_setCell_other _ _ _ _ (fun e => by injection e; omega)).trans S7.out.1), (World.cell?_setCell_other _ _ _ _ (fun e => by injection e; omega)).trans ((World.cell?_setCell_other _ _ _ _ (fun e => by injection e; omega)).trans S8.out.1), (World.cell?_setCell_other _ _ _ _ (fun e => by injection e; omega)).trans ((World.cell?_setCell_other _ _ _ _ (fun e => by injection e; omega)).trans S9.out.1), (World.cell?_setCell_other _ _ _ _ (fun e => by injection e; omega)).trans ((World.cell?_setCell_other _ _ _ _ (fun e => by injection e; omega)).trans S10.out.1)⟩
  clear hK K
  (try simp only [Act.put, List.getElem_toArray, List.getElem_cons_zero, List.getElem_cons_succ, List.setIfInBounds_toArray, List.set_cons_zero, List.set_cons_succ])
  refine wpAnyH_done (by kernel_rfl) ?_ _
  go_wp2_with fail
  exact bodyPost_ret (results_rat rfl _ _ (w.heap.size + 1 + 1) _ _ rfl S4.out.1 S4.out.2.1) rfl ⟨_, rfl, RV.out, FW.out⟩
end Go.Proofs.YtimglhbllcjpbaaDoor
