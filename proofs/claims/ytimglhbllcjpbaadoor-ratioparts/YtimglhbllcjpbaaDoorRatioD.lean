/- Quotients: levelled, Cmp, Add, Mul, Away. -/
import Derived.Test.YtimglhbllcjpbaaDoorRatioC
namespace Go.Proofs.YtimglhbllcjpbaaDoor
set_option linter.unusedVariables false
set_option linter.unusedSimpArgs false
open Go.RowKit

attribute [local go_sem] World.cell?_alloc_some
theorem IsRat.form {w : World} {v : Value} {n d : Nat} (h : IsRat w v n d) : ∃ a N c b M k, v = .agg #[.slice a N c, .slice b M k] := by
  obtain ⟨_, a, c, b, k, h1, _, _⟩ := h
  exact ⟨a, _, c, b, _, k, h1⟩
theorem Pair.calm {w : World} {v : Value} {p z : Nat} (h : Pair w v p z) (q : Addr) (u : Value) (hb : NoNum w q.block) : Pair (w.setCell q u) v p z := by
  obtain ⟨a, c, b, k, h1, h2, h3⟩ := h
  exact ⟨a, c, b, k, h1, h2.calm q u hb, h3.calm q u hb⟩
theorem Slot.rat {W0 w : World} {b : Nat} {u : Value} (h : Slot W0 w b u) {v : Value} {n d : Nat} (k : IsRat w v n d) (u' : Value) : IsRat (w.setCell ⟨b, 0, none⟩ u') v n d := ⟨k.1, k.2.calm _ _ h.2.2.1⟩
theorem Slot2.rat {W0 w : World} {b : Nat} {u v : Value} (h : Slot2 W0 w b u v) {va : Value} {n d : Nat} (k : IsRat w va n d) (a : Option Addr) (m c : Nat) (u2 : Value) : IsRat ((w.setCell ⟨b, 0, none⟩ (.slice a m c)).setCell ⟨b, 1, none⟩ u2) va n d := ⟨k.1, (k.2.calm _ _ h.2.2.2.1).calm _ _ (h.2.2.2.1.put h.1 _ _ _)⟩

set_option maxHeartbeats 4000000 in
set_option maxRecDepth 4000 in
theorem levelled_any (va vb : Value) (n1 d1 n2 d2 : Nat) (w : World) (ha : IsRat w va n1 d1) (hb : IsRat w vb n2 d2) (h1 : nlen 4294967296 n1 ≤ 1000000) (k1 : nlen 4294967296 d1 ≤ 1000000) (h2 : nlen 4294967296 n2 ≤ 1000000) (k2 : nlen 4294967296 d2 ≤ 1000000) (L R D : Nat) (eL : rN n1 d1 * rD n2 d2 = L) (eR : rN n2 d2 * rD n1 d1 = R) (eD : rD n1 d1 * rD n2 d2 = D) :
    Calls Tryd.prog 37 #[va, vb] w fun e w' => ∃ aL cL aR cR aD cD, e = .returned (.tuple #[.agg #[.slice aL (nlen 4294967296 L) cL], .agg #[.slice aR (nlen 4294967296 R) cR], .agg #[.slice aD (nlen 4294967296 D) cD]]) ∧ IsNat w' (.agg #[.slice aL (nlen 4294967296 L) cL]) L ∧ IsNat w' (.agg #[.slice aR (nlen 4294967296 R) cR]) R ∧ IsNat w' (.agg #[.slice aD (nlen 4294967296 D) cD]) D ∧ Fr w w' := by
  have HA := hide ha
  have HB := hide hb
  obtain ⟨a, N, ca, b, M, cb, rfl⟩ := ha.form
  obtain ⟨a', N', ca', b', M', cb', rfl⟩ := hb.form
  have np1 : nlen 4294967296 (rN n1 d1) ≤ 1000000 := nl_le h1 (rN_le _ _)
  have nq1 : nlen 4294967296 (rD n1 d1) ≤ 1000000 := nl_le k1 (rD_le _ _)
  have np2 : nlen 4294967296 (rN n2 d2) ≤ 1000000 := nl_le h2 (rN_le _ _)
  have nq2 : nlen 4294967296 (rD n2 d2) ≤ 1000000 := nl_le k2 (rD_le _ _)
  have TA : Hid (∀ wz, Fr w wz → Calls Tryd.prog 8 #[.agg #[.slice a N ca, .slice b M cb]] wz fun e w' => ∃ a c b k, e = .returned (.tuple #[.agg #[.slice a (nlen 4294967296 (rN n1 d1)) c], .agg #[.slice b (nlen 4294967296 (rD n1 d1)) k]]) ∧ IsNat w' (.agg #[.slice a (nlen 4294967296 (rN n1 d1)) c]) (rN n1 d1) ∧ IsNat w' (.agg #[.slice b (nlen 4294967296 (rD n1 d1)) k]) (rD n1 d1) ∧ Fr wz w') := fun wz f => terms_rat _ n1 d1 wz (HA.out.fr f) (by omega)
  have TB : Hid (∀ wz, Fr w wz → Calls Tryd.prog 8 #[.agg #[.slice a' N' ca', .slice b' M' cb']] wz fun e w' => ∃ a c b k, e = .returned (.tuple #[.agg #[.slice a (nlen 4294967296 (rN n2 d2)) c], .agg #[.slice b (nlen 4294967296 (rD n2 d2)) k]]) ∧ IsNat w' (.agg #[.slice a (nlen 4294967296 (rN n2 d2)) c]) (rN n2 d2) ∧ IsNat w' (.agg #[.slice b (nlen 4294967296 (rD n2 d2)) k]) (rD n2 d2) ∧ Fr wz w') := fun wz f => terms_rat _ n2 d2 wz (HB.out.fr f) (by omega)
  generalize rN n1 d1 = p1 at *
  generalize rD n1 d1 = q1 at *
  generalize rN n2 d2 = p2 at *
  generalize rD n2 d2 = q2 at *
  have EL := hide eL
  have ER := hide eR
  have ED := hide eD
  clear HA HB ha hb eL eR eD h1 k1 h2 k2
  go_enter Tryd.func37, Tryd.ntmps37
  go_wp2_with fail
  obtain ⟨W, hW⟩ : ∃ W, W = (((((w.alloc (Obj.cells #[Value.slice a N ca, Value.slice b M cb] 26)).alloc (Obj.cells #[Value.slice a' N' ca', Value.slice b' M' cb'] 26)).alloc (Obj.cells #[Value.slice none 0 0] 24)).alloc (Obj.cells #[Value.slice none 0 0] 24)).alloc (Obj.cells #[Value.slice none 0 0] 24)) := ⟨_, rfl⟩
  have fW : Fr w W := by rw [hW]; exact (((((Fr.alloc w (Obj.cells #[Value.slice a N ca, Value.slice b M cb] 26)).trans (Fr.alloc _ (Obj.cells #[Value.slice a' N' ca', Value.slice b' M' cb'] 26))).trans (Fr.alloc _ (Obj.cells #[Value.slice none 0 0] 24))).trans (Fr.alloc _ (Obj.cells #[Value.slice none 0 0] 24))).trans (Fr.alloc _ (Obj.cells #[Value.slice none 0 0] 24)))
  have s2 : Slot2 w W (w.heap.size) (.slice a N ca) (.slice b M cb) := by
    rw [hW]; simpa using ((((Slot2.new (Fr.refl w) a N ca b M cb 26).fr (Fr.alloc _ _)).fr (Fr.alloc _ _)).fr (Fr.alloc _ _)).fr (Fr.alloc _ _)
  have s3 : Slot2 w W (w.heap.size + 1) (.slice a' N' ca') (.slice b' M' cb') := by
    rw [hW]; simpa using (((Slot2.new (Fr.alloc w (Obj.cells #[Value.slice a N ca, Value.slice b M cb] 26)) a' N' ca' b' M' cb' 26).fr (Fr.alloc _ _)).fr (Fr.alloc _ _)).fr (Fr.alloc _ _)
  have s4 : Slot w W (w.heap.size + 1 + 1) (.slice none 0 0) := by
    rw [hW]; simpa using ((Slot.new ((Fr.alloc w (Obj.cells #[Value.slice a N ca, Value.slice b M cb] 26)).trans (Fr.alloc _ (Obj.cells #[Value.slice a' N' ca', Value.slice b' M' cb'] 26))) none 0 0 24).fr (Fr.alloc _ _)).fr (Fr.alloc _ _)
  have s5 : Slot w W (w.heap.size + 1 + 1 + 1) (.slice none 0 0) := by
    rw [hW]; simpa using (Slot.new (((Fr.alloc w (Obj.cells #[Value.slice a N ca, Value.slice b M cb] 26)).trans (Fr.alloc _ (Obj.cells #[Value.slice a' N' ca', Value.slice b' M' cb'] 26))).trans (Fr.alloc _ (Obj.cells #[Value.slice none 0 0] 24))) none 0 0 24).fr (Fr.alloc _ _)
  have s6 : Slot w W (w.heap.size + 1 + 1 + 1 + 1) (.slice none 0 0) := by
    rw [hW]; simpa using Slot.new ((((Fr.alloc w (Obj.cells #[Value.slice a N ca, Value.slice b M cb] 26)).trans (Fr.alloc _ (Obj.cells #[Value.slice a' N' ca', Value.slice b' M' cb'] 26))).trans (Fr.alloc _ (Obj.cells #[Value.slice none 0 0] 24))).trans (Fr.alloc _ (Obj.cells #[Value.slice none 0 0] 24))) none 0 0 24
  rw [← hW]
  clear hW
  refine (TA.out _ fW).mono ?_
  rintro e w1 ⟨ap, cp, aq, cq, rfl, ip, iq, f1⟩
  have S3 := hide (s3.fr f1)
  have S4 := hide (s4.fr f1)
  have S5 := hide (s5.fr f1)
  have S6 := hide (s6.fr f1)
  have FW := hide (fW.trans f1)
  have l1 := cell_lt S6.out.1
  simp only [] at l1
  clear s2 s3 s4 s5 s6 fW f1 TA
  have q3 := S3.out.1
  have q3' := S3.out.2.1
  go_wp2_with fail
  obtain ⟨W1, hW1⟩ : ∃ W, W = ((w1.alloc (Obj.cells #[Value.slice ap (nlen 4294967296 p1) cp] 24)).alloc (Obj.cells #[Value.slice aq (nlen 4294967296 q1) cq] 24)) := ⟨_, rfl⟩
  have f1 : Fr w1 W1 := by rw [hW1]; exact ((Fr.alloc w1 (Obj.cells #[Value.slice ap (nlen 4294967296 p1) cp] 24)).trans (Fr.alloc _ (Obj.cells #[Value.slice aq (nlen 4294967296 q1) cq] 24)))
  have s7 : Slot w1 W1 (w1.heap.size) (.slice ap (nlen 4294967296 p1) cp) := by
    rw [hW1]; simpa using (Slot.new (Fr.refl w1) ap (nlen 4294967296 p1) cp 24).fr (Fr.alloc _ _)
  have s8 : Slot w1 W1 (w1.heap.size + 1) (.slice aq (nlen 4294967296 q1) cq) := by
    rw [hW1]; simpa using Slot.new (Fr.alloc w1 (Obj.cells #[Value.slice ap (nlen 4294967296 p1) cp] 24)) aq (nlen 4294967296 q1) cq 24
  rw [← hW1]
  clear hW1
  have S7 := hide s7
  have S8 := hide s8
  have S4 := hide (S4.out.fr f1)
  have S5 := hide (S5.out.fr f1)
  have S6 := hide (S6.out.fr f1)
  have FW := hide (FW.out.trans f1)
  have IP1 := hide (ip.fr f1)
  have IQ1 := hide (iq.fr f1)
  clear s7 s8 ip iq f1 q3 q3' S3
  refine (TB.out _ FW.out).mono ?_
  rintro e w2 ⟨ap', cp', aq', cq', rfl, ip, iq, f2⟩
  have S4 := hide (S4.out.fr f2)
  have S5 := hide (S5.out.fr f2)
  have S6 := hide (S6.out.fr f2)
  have S7 := hide (S7.out.fr f2)
  have S8 := hide (S8.out.fr f2)
  have IP1 := hide (IP1.out.fr f2)
  have IQ1 := hide (IQ1.out.fr f2)
  have FW := hide (FW.out.trans f2)
  have l2 := cell_lt S8.out.1
  simp only [] at l2
  clear f2 TB
  go_wp2_with fail
  obtain ⟨W2, hW2⟩ : ∃ W, W = ((w2.alloc (Obj.cells #[Value.slice ap' (nlen 4294967296 p2) cp'] 24)).alloc (Obj.cells #[Value.slice aq' (nlen 4294967296 q2) cq'] 24)) := ⟨_, rfl⟩
  have f2 : Fr w2 W2 := by rw [hW2]; exact ((Fr.alloc w2 (Obj.cells #[Value.slice ap' (nlen 4294967296 p2) cp'] 24)).trans (Fr.alloc _ (Obj.cells #[Value.slice aq' (nlen 4294967296 q2) cq'] 24)))
  have s9 : Slot w2 W2 (w2.heap.size) (.slice ap' (nlen 4294967296 p2) cp') := by
    rw [hW2]; simpa using (Slot.new (Fr.refl w2) ap' (nlen 4294967296 p2) cp' 24).fr (Fr.alloc _ _)
  have s10 : Slot w2 W2 (w2.heap.size + 1) (.slice aq' (nlen 4294967296 q2) cq') := by
    rw [hW2]; simpa using Slot.new (Fr.alloc w2 (Obj.cells #[Value.slice ap' (nlen 4294967296 p2) cp'] 24)) aq' (nlen 4294967296 q2) cq' 24
  rw [← hW2]
  clear hW2
  have IP2 := hide (ip.fr f2)
  have IQ2 := hide (iq.fr f2)
  have S9 := hide s9
  have S10 := hide s10
  have S4 := hide (S4.out.fr f2)
  have S5 := hide (S5.out.fr f2)
  have S6 := hide (S6.out.fr f2)
  have S7 := hide (S7.out.fr f2)
  have S8 := hide (S8.out.fr f2)
  have IP1 := hide (IP1.out.fr f2)
  have IQ1 := hide (IQ1.out.fr f2)
  have FW := hide (FW.out.trans f2)
  clear f2 ip iq s9 s10
  have S4 := hide (S4.out.fr (Fr.drew _))
  have S5 := hide (S5.out.fr (Fr.drew _))
  have S6 := hide (S6.out.fr (Fr.drew _))
  have S7 := hide (S7.out.fr (Fr.drew _))
  have S8 := hide (S8.out.fr (Fr.drew _))
  have S9 := hide (S9.out.fr (Fr.drew _))
  have S10 := hide (S10.out.fr (Fr.drew _))
  have IP1 := hide (IP1.out.fr (Fr.drew _))
  have IQ1 := hide (IQ1.out.fr (Fr.drew _))
  have IP2 := hide (IP2.out.fr (Fr.drew _))
  have IQ2 := hide (IQ2.out.fr (Fr.drew _))
  have FW := hide (FW.out.trans (Fr.drew _))
  have c7 := S7.out.1
  have c8 := S8.out.1
  have c9 := S9.out.1
  have c10 := S10.out.1
  go_wp2_with fail
  refine wp_region_held_drew (S := (fun w' => w'.cell? ⟨w1.heap.size, 0, none⟩ = some (.slice ap (nlen 4294967296 p1) cp) ∧ w'.cell? ⟨w1.heap.size + 1, 0, none⟩ = some (.slice aq (nlen 4294967296 q1) cq) ∧ w'.cell? ⟨w2.heap.size, 0, none⟩ = some (.slice ap' (nlen 4294967296 p2) cp') ∧ w'.cell? ⟨w2.heap.size + 1, 0, none⟩ = some (.slice aq' (nlen 4294967296 q2) cq'))) (by kernel_rfl) ?_ (fun hHeld => ?_)
  · exact ⟨S7.out.1, S8.out.1, S9.out.1, S10.out.1⟩
  obtain ⟨wd, hwd⟩ : ∃ wd, wd = W2.drew := ⟨_, rfl⟩
  rw [← hwd] at hHeld S4 S5 S6 S7 S8 S9 S10 IP1 IQ1 IP2 IQ2 FW ⊢
  clear hwd
  refine wpAnyH_take (i := 0) (v := ?_) rfl (by kernel_rfl) (by kernel_rfl) (by kernel_rfl) (fun _ _ _ h => h) (Or.inl ⟨by rfl, ?_⟩) (by assumption) ?_
  rotate_left
  · (intro w hSw; (try dsimp only at hSw); go_simp; try with_reducible rfl)
  (try simp only [Act.put, List.getElem_toArray, List.getElem_cons_zero, List.getElem_cons_succ, List.setIfInBounds_toArray, List.set_cons_zero, List.set_cons_succ])
  refine wpAnyH_take (i := 1) (v := ?_) rfl (by kernel_rfl) (by kernel_rfl) (by kernel_rfl) (fun _ _ _ h => h) (Or.inl ⟨by rfl, ?_⟩) (by assumption) ?_
  rotate_left
  · (intro w hSw; (try dsimp only at hSw); go_simp; try with_reducible rfl)
  (try simp only [Act.put, List.getElem_toArray, List.getElem_cons_zero, List.getElem_cons_succ, List.setIfInBounds_toArray, List.set_cons_zero, List.set_cons_succ])
  refine wpAnyH_take (i := 3) (v := ?_) rfl (by kernel_rfl) (by kernel_rfl) (by kernel_rfl) (fun _ _ _ h => h) (Or.inl ⟨by rfl, ?_⟩) (by assumption) ?_
  rotate_left
  · (intro w hSw; (try dsimp only at hSw); go_simp; try with_reducible rfl)
  (try simp only [Act.put, List.getElem_toArray, List.getElem_cons_zero, List.getElem_cons_succ, List.setIfInBounds_toArray, List.set_cons_zero, List.set_cons_succ])
  refine wpAnyH_take (i := 4) (v := ?_) rfl (by kernel_rfl) (by kernel_rfl) (by kernel_rfl) (fun _ _ _ h => h) (Or.inl ⟨by rfl, ?_⟩) (by assumption) ?_
  rotate_left
  · (intro w hSw; (try dsimp only at hSw); go_simp; try with_reducible rfl)
  (try simp only [Act.put, List.getElem_toArray, List.getElem_cons_zero, List.getElem_cons_succ, List.setIfInBounds_toArray, List.set_cons_zero, List.set_cons_succ])
  refine wpAnyH_take (i := 6) (v := ?_) rfl (by kernel_rfl) (by kernel_rfl) (by kernel_rfl) (fun _ _ _ h => h) (Or.inl ⟨by rfl, ?_⟩) (by assumption) ?_
  rotate_left
  · (intro w hSw; (try dsimp only at hSw); go_simp; try with_reducible rfl)
  (try simp only [Act.put, List.getElem_toArray, List.getElem_cons_zero, List.getElem_cons_succ, List.setIfInBounds_toArray, List.set_cons_zero, List.set_cons_succ])
  refine wpAnyH_take (i := 7) (v := ?_) rfl (by kernel_rfl) (by kernel_rfl) (by kernel_rfl) (fun _ _ _ h => h) (Or.inl ⟨by rfl, ?_⟩) (by assumption) ?_
  rotate_left
  · (intro w hSw; (try dsimp only at hSw); go_simp; try with_reducible rfl)
  (try simp only [Act.put, List.getElem_toArray, List.getElem_cons_zero, List.getElem_cons_succ, List.setIfInBounds_toArray, List.set_cons_zero, List.set_cons_succ])
  refine wpAnyH_ready (rs := [2]) (by kernel_rfl) (by simp) ?_
  refine AllReadyH.cons rfl (fun K hK => ?_) AllReadyH.nil
  go_simp
  refine (mul_any _ _ p1 q2 _ IP1.out IQ2.out (by omega) (by omega)).mono ?_
  rintro e wL ⟨aL, cL, rfl, iL, _, fy⟩
  rw [EL.out] at iL ⊢
  have IL := hide iL
  have S4 := hide (S4.out.fr fy)
  have S5 := hide (S5.out.fr fy)
  have S6 := hide (S6.out.fr fy)
  have S7 := hide (S7.out.fr fy)
  have S8 := hide (S8.out.fr fy)
  have S9 := hide (S9.out.fr fy)
  have S10 := hide (S10.out.fr fy)
  have IP1 := hide (IP1.out.fr fy)
  have IQ1 := hide (IQ1.out.fr fy)
  have IP2 := hide (IP2.out.fr fy)
  have IQ2 := hide (IQ2.out.fr fy)
  have FW := hide (FW.out.trans fy)
  clear iL fy
  (try go_wp2_with fail)
  refine hK.out _ _ ?_ (fun hHeld => ?_)
  · (try dsimp only)
    exact ⟨S7.out.1, S8.out.1, S9.out.1, S10.out.1⟩
  clear hK K
  (try simp only [Act.put, List.getElem_toArray, List.getElem_cons_zero, List.getElem_cons_succ, List.setIfInBounds_toArray, List.set_cons_zero, List.set_cons_succ])
  refine wpAnyH_ready (rs := [5]) (by kernel_rfl) (by simp) ?_
  refine AllReadyH.cons rfl (fun K hK => ?_) AllReadyH.nil
  go_simp
  refine (mul_any _ _ p2 q1 _ IP2.out IQ1.out (by omega) (by omega)).mono ?_
  rintro e wR ⟨aR, cR, rfl, iR, _, fy⟩
  rw [ER.out] at iR ⊢
  have IR := hide iR
  have S4 := hide (S4.out.fr fy)
  have S5 := hide (S5.out.fr fy)
  have S6 := hide (S6.out.fr fy)
  have S7 := hide (S7.out.fr fy)
  have S8 := hide (S8.out.fr fy)
  have S9 := hide (S9.out.fr fy)
  have S10 := hide (S10.out.fr fy)
  have IP1 := hide (IP1.out.fr fy)
  have IQ1 := hide (IQ1.out.fr fy)
  have IP2 := hide (IP2.out.fr fy)
  have IQ2 := hide (IQ2.out.fr fy)
  have IL := hide (IL.out.fr fy)
  have FW := hide (FW.out.trans fy)
  clear iR fy
  (try go_wp2_with fail)
  refine hK.out _ _ ?_ (fun hHeld => ?_)
  · (try dsimp only)
    exact ⟨S7.out.1, S8.out.1, S9.out.1, S10.out.1⟩
  clear hK K
  (try simp only [Act.put, List.getElem_toArray, List.getElem_cons_zero, List.getElem_cons_succ, List.setIfInBounds_toArray, List.set_cons_zero, List.set_cons_succ])
  refine wpAnyH_ready (rs := [8]) (by kernel_rfl) (by simp) ?_
  refine AllReadyH.cons rfl (fun K hK => ?_) AllReadyH.nil
  go_simp
  refine (mul_any _ _ q1 q2 _ IQ1.out IQ2.out (by omega) (by omega)).mono ?_
  rintro e wD ⟨aD, cD, rfl, iD, _, fy⟩
  rw [ED.out] at iD ⊢
  have ID := hide iD
  have S4 := hide (S4.out.fr fy)
  have S5 := hide (S5.out.fr fy)
  have S6 := hide (S6.out.fr fy)
  have S7 := hide (S7.out.fr fy)
  have S8 := hide (S8.out.fr fy)
  have S9 := hide (S9.out.fr fy)
  have S10 := hide (S10.out.fr fy)
  have IP1 := hide (IP1.out.fr fy)
  have IQ1 := hide (IQ1.out.fr fy)
  have IP2 := hide (IP2.out.fr fy)
  have IQ2 := hide (IQ2.out.fr fy)
  have IL := hide (IL.out.fr fy)
  have IR := hide (IR.out.fr fy)
  have FW := hide (FW.out.trans fy)
  clear iD fy
  (try go_wp2_with fail)
  refine hK.out _ _ ?_ (fun hHeld => ?_)
  · (try dsimp only)
    exact ⟨S7.out.1, S8.out.1, S9.out.1, S10.out.1⟩
  clear hK K
  (try simp only [Act.put, List.getElem_toArray, List.getElem_cons_zero, List.getElem_cons_succ, List.setIfInBounds_toArray, List.set_cons_zero, List.set_cons_succ])
  refine wpAnyH_ready (rs := [9]) (by kernel_rfl) (by simp) ?_
  refine AllReadyH.cons rfl (fun K hK => ?_) AllReadyH.nil
  have q_ := S4.out.1
  have z_ := S4.out.2.1
  have S5 := hide (S5.out.other S4.out (by omega) aL (nlen 4294967296 L) cL)
  have S6 := hide (S6.out.other S4.out (by omega) aL (nlen 4294967296 L) cL)
  have S7 := hide (S7.out.other S4.out (by omega) aL (nlen 4294967296 L) cL)
  have S8 := hide (S8.out.other S4.out (by omega) aL (nlen 4294967296 L) cL)
  have S9 := hide (S9.out.other S4.out (by omega) aL (nlen 4294967296 L) cL)
  have S10 := hide (S10.out.other S4.out (by omega) aL (nlen 4294967296 L) cL)
  have IL := hide (S4.out.nat IL.out (.slice aL (nlen 4294967296 L) cL))
  have IR := hide (S4.out.nat IR.out (.slice aL (nlen 4294967296 L) cL))
  have ID := hide (S4.out.nat ID.out (.slice aL (nlen 4294967296 L) cL))
  have FW := hide (S4.out.set_fr FW.out (.slice aL (nlen 4294967296 L) cL))
  have S4 := hide (S4.out.set aL (nlen 4294967296 L) cL)
  go_simp
  (try go_wp2_with fail)
  refine hK.out _ _ ?_ (fun hHeld => ?_)
  · (try dsimp only)
    exact ⟨S7.out.1, S8.out.1, S9.out.1, S10.out.1⟩
  clear hK K
  (try simp only [Act.put, List.getElem_toArray, List.getElem_cons_zero, List.getElem_cons_succ, List.setIfInBounds_toArray, List.set_cons_zero, List.set_cons_succ])
  refine wpAnyH_ready (rs := [10]) (by kernel_rfl) (by simp) ?_
  refine AllReadyH.cons rfl (fun K hK => ?_) AllReadyH.nil
  obtain ⟨V1, hV1⟩ : ∃ V, V = wD.setCell ⟨w.heap.size + 1 + 1, 0, none⟩ (.slice aL (nlen 4294967296 L) cL) := ⟨_, rfl⟩
  rw [← hV1] at hHeld S4 S5 S6 S7 S8 S9 S10 IL IR ID FW ⊢
  clear hV1
  have q_ := S5.out.1
  have z_ := S5.out.2.1
  have S4 := hide (S4.out.other S5.out (by omega) aR (nlen 4294967296 R) cR)
  have S6 := hide (S6.out.other S5.out (by omega) aR (nlen 4294967296 R) cR)
  have S7 := hide (S7.out.other S5.out (by omega) aR (nlen 4294967296 R) cR)
  have S8 := hide (S8.out.other S5.out (by omega) aR (nlen 4294967296 R) cR)
  have S9 := hide (S9.out.other S5.out (by omega) aR (nlen 4294967296 R) cR)
  have S10 := hide (S10.out.other S5.out (by omega) aR (nlen 4294967296 R) cR)
  have IL := hide (S5.out.nat IL.out (.slice aR (nlen 4294967296 R) cR))
  have IR := hide (S5.out.nat IR.out (.slice aR (nlen 4294967296 R) cR))
  have ID := hide (S5.out.nat ID.out (.slice aR (nlen 4294967296 R) cR))
  have FW := hide (S5.out.set_fr FW.out (.slice aR (nlen 4294967296 R) cR))
  have S5 := hide (S5.out.set aR (nlen 4294967296 R) cR)
  go_simp
  (try go_wp2_with fail)
  refine hK.out _ _ ?_ (fun hHeld => ?_)
  · (try dsimp only)
    exact ⟨S7.out.1, S8.out.1, S9.out.1, S10.out.1⟩
  clear hK K
  (try simp only [Act.put, List.getElem_toArray, List.getElem_cons_zero, List.getElem_cons_succ, List.setIfInBounds_toArray, List.set_cons_zero, List.set_cons_succ])
  refine wpAnyH_ready (rs := [11]) (by kernel_rfl) (by simp) ?_
  refine AllReadyH.cons rfl (fun K hK => ?_) AllReadyH.nil
  obtain ⟨V2, hV2⟩ : ∃ V, V = V1.setCell ⟨w.heap.size + 1 + 1 + 1, 0, none⟩ (.slice aR (nlen 4294967296 R) cR) := ⟨_, rfl⟩
  rw [← hV2] at hHeld S4 S5 S6 S7 S8 S9 S10 IL IR ID FW ⊢
  clear hV2
  have q_ := S6.out.1
  have z_ := S6.out.2.1
  have S4 := hide (S4.out.other S6.out (by omega) aD (nlen 4294967296 D) cD)
  have S5 := hide (S5.out.other S6.out (by omega) aD (nlen 4294967296 D) cD)
  have S7 := hide (S7.out.other S6.out (by omega) aD (nlen 4294967296 D) cD)
  have S8 := hide (S8.out.other S6.out (by omega) aD (nlen 4294967296 D) cD)
  have S9 := hide (S9.out.other S6.out (by omega) aD (nlen 4294967296 D) cD)
  have S10 := hide (S10.out.other S6.out (by omega) aD (nlen 4294967296 D) cD)
  have IL := hide (S6.out.nat IL.out (.slice aD (nlen 4294967296 D) cD))
  have IR := hide (S6.out.nat IR.out (.slice aD (nlen 4294967296 D) cD))
  have ID := hide (S6.out.nat ID.out (.slice aD (nlen 4294967296 D) cD))
  have FW := hide (S6.out.set_fr FW.out (.slice aD (nlen 4294967296 D) cD))
  have S6 := hide (S6.out.set aD (nlen 4294967296 D) cD)
  go_simp
  (try go_wp2_with fail)
  refine hK.out _ _ ?_ (fun hHeld => ?_)
  · (try dsimp only)
    exact ⟨S7.out.1, S8.out.1, S9.out.1, S10.out.1⟩
  clear hK K
  (try simp only [Act.put, List.getElem_toArray, List.getElem_cons_zero, List.getElem_cons_succ, List.setIfInBounds_toArray, List.set_cons_zero, List.set_cons_succ])
  refine wpAnyH_done (by kernel_rfl) ?_ _
  go_wp2_with fail
  exact bodyPost_ret (results_nat3 rfl _ _ (w.heap.size + 1 + 1) (w.heap.size + 1 + 1 + 1) (w.heap.size + 1 + 1 + 1 + 1) _ _ _ rfl rfl rfl S4.out.1 S5.out.1 S6.out.1) rfl ⟨_, _, _, _, _, _, rfl, IL.out, IR.out, ID.out, FW.out⟩
end Go.Proofs.YtimglhbllcjpbaaDoor
