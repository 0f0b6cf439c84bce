/- Rounding: isNought, whole, quotient, power. -/
import Derived.Test.YthdgdomgcogpjaaDoorPackC
import Derived.Test.YthdgdomgcogpjaaDoorRoundP
import Derived.Test.YthdgdomgcogpjaaDoorRoundQ
namespace Go.Proofs.YthdgdomgcogpjaaDoor
set_option linter.unusedVariables false
set_option linter.unusedSimpArgs false
open Go.RowKit

attribute [local go_sem] World.cell?_alloc_some
theorem rnd_low {n d : Nat} (hd : d ≠ 0) : halfN (rN n d) (rD n d) = rndN n d := by
  have hg := gcd_pos_right (n := n) hd
  have e : rndN (rN n d) (rD n d) = rndN n d := by
    rw [← rnd_scale (a := rN n d) (k := Nat.gcd n d) (rD_pos hd) (by omega), rN_mul, rD_mul]
  exact e

set_option maxHeartbeats 1000000 in
set_option maxRecDepth 4000 in
theorem isNoughtR_any (v : Value) (n d : Nat) (w : World) (h : IsRat w v n d) (h1 : nlen 4294967296 n ≤ 1000000) :
    Calls Tryd.prog 40 #[v] w fun e w' => e = .returned (.bool (decide (n = 0))) ∧ Fr w w' := by
  have HA := hide h
  obtain ⟨a, N, ca, b, M, cb, rfl⟩ := h.form
  have hd := h.1
  have np1 : nlen 4294967296 (rN n d) ≤ 1000000 := nl_le h1 (rN_le _ _)
  have e0 : decide (n = 0) = ((nlen 2 (rN n d) : Int) == 0) := by
    by_cases c : n = 0
    · have c' := (rN_zero hd).2 c
      rw [c', nlen_zero, decide_eq_true c]; rfl
    · have c' : rN n d ≠ 0 := fun k => c ((rN_zero hd).1 k)
      have := nlen_pos (B := 2) (by omega) c'
      have h : nlen 2 (rN n d) ≠ 0 := by omega
      simp [h, c]
  rw [e0]
  have TA : Hid (∀ wz, Fr w wz → Calls Tryd.prog 25 #[.agg #[.slice a N ca, .slice b M cb]] wz fun e w' => ∃ a c b k, e = .returned (.tuple #[.agg #[.slice a (nlen 4294967296 (rN n d)) c], .agg #[.slice b (nlen 4294967296 (rD n d)) k]]) ∧ IsNat w' (.agg #[.slice a (nlen 4294967296 (rN n d)) c]) (rN n d) ∧ IsNat w' (.agg #[.slice b (nlen 4294967296 (rD n d)) k]) (rD n d) ∧ Fr wz w') := fun wz f => terms_rat _ n d wz (HA.out.fr f) (by omega)
  generalize rN n d = p at *
  generalize rD n d = q at *
  clear HA h h1 e0
  go_enter Tryd.func40, Tryd.ntmps40
  go_wp2_with fail
  obtain ⟨W, hW⟩ : ∃ W, W = (w.alloc (Obj.cells #[Value.slice a N ca, Value.slice b M cb] 27)) := ⟨_, rfl⟩
  have fW : Fr w W := by rw [hW]; exact (Fr.alloc w (Obj.cells #[Value.slice a N ca, Value.slice b M cb] 27))
  rw [← hW]
  clear hW
  refine (TA.out _ fW).mono ?_
  rintro e w1 ⟨ap, cp, aq, cq, rfl, ip, iq, f1⟩
  have FW := hide (fW.trans f1)
  clear fW f1 TA
  go_wp2_with fail
  obtain ⟨W1, hW1⟩ : ∃ W, W = ((w1.alloc (Obj.cells #[Value.slice ap (nlen 4294967296 p) cp] 25)).alloc (Obj.cells #[Value.slice aq (nlen 4294967296 q) cq] 25)) := ⟨_, rfl⟩
  have f1 : Fr w1 W1 := by rw [hW1]; exact ((Fr.alloc w1 (Obj.cells #[Value.slice ap (nlen 4294967296 p) cp] 25)).trans (Fr.alloc _ (Obj.cells #[Value.slice aq (nlen 4294967296 q) cq] 25)))
  have s4 : Slot w1 W1 (w1.heap.size) (.slice ap (nlen 4294967296 p) cp) := by
    rw [hW1]; simpa using (Slot.new (Fr.refl w1) ap (nlen 4294967296 p) cp 25).fr (Fr.alloc _ _)
  have s5 : Slot w1 W1 (w1.heap.size + 1) (.slice aq (nlen 4294967296 q) cq) := by
    rw [hW1]; simpa using Slot.new (Fr.alloc w1 (Obj.cells #[Value.slice ap (nlen 4294967296 p) cp] 25)) aq (nlen 4294967296 q) cq 25
  rw [← hW1]
  clear hW1
  refine (bits_any _ p _ (ip.fr f1) (by omega)).mono ?_
  rintro e w2 ⟨rfl, f2⟩
  have FW := hide (FW.out.trans (f1.trans f2))
  clear s4 s5 f1 f2 ip iq
  go_wp2_with fail
  go_ret
  exact ⟨rfl, FW.out⟩

set_option maxHeartbeats 1000000 in
set_option maxRecDepth 4000 in
theorem whole_any (v : Value) (n d : Nat) (w : World) (h : IsRat w v n d) (h1 : nlen 4294967296 n ≤ 1000000) (k1 : nlen 4294967296 d ≤ 1000000) (P : Nat) (eP : rndN n d = P) :
    Calls Tryd.prog 37 #[v] w fun e w' => ∃ a c, e = .returned (.agg #[.slice a (nlen 4294967296 P) c]) ∧ IsNat w' (.agg #[.slice a (nlen 4294967296 P) c]) P ∧ Fr w w' := by
  have HA := hide h
  obtain ⟨a, N, ca, b, M, cb, rfl⟩ := h.form
  have hd := h.1
  have np1 : nlen 4294967296 (rN n d) ≤ 1000000 := nl_le h1 (rN_le _ _)
  have nq1 : nlen 4294967296 (rD n d) ≤ 1000000 := nl_le k1 (rD_le _ _)
  have hq0 := rD_pos (n := n) hd
  rw [← rnd_low hd] at eP
  have TA : Hid (∀ wz, Fr w wz → Calls Tryd.prog 25 #[.agg #[.slice a N ca, .slice b M cb]] wz fun e w' => ∃ a c b k, e = .returned (.tuple #[.agg #[.slice a (nlen 4294967296 (rN n d)) c], .agg #[.slice b (nlen 4294967296 (rD n d)) k]]) ∧ IsNat w' (.agg #[.slice a (nlen 4294967296 (rN n d)) c]) (rN n d) ∧ IsNat w' (.agg #[.slice b (nlen 4294967296 (rD n d)) k]) (rD n d) ∧ Fr wz w') := fun wz f => terms_rat _ n d wz (HA.out.fr f) (by omega)
  generalize rN n d = p at *
  generalize rD n d = q at *
  have EP := hide eP
  clear HA h eP h1 k1
  go_enter Tryd.func37, Tryd.ntmps37
  go_wp2_with fail
  obtain ⟨W, hW⟩ : ∃ W, W = ((w.alloc (Obj.cells #[Value.slice a N ca, Value.slice b M cb] 27)).alloc (Obj.cells #[Value.slice none 0 0] 25)) := ⟨_, rfl⟩
  have fW : Fr w W := by rw [hW]; exact ((Fr.alloc w (Obj.cells #[Value.slice a N ca, Value.slice b M cb] 27)).trans (Fr.alloc _ (Obj.cells #[Value.slice none 0 0] 25)))
  have s2 : Slot w W (w.heap.size + 1) (.slice none 0 0) := by
    rw [hW]; simpa using Slot.new (Fr.alloc w (Obj.cells #[Value.slice a N ca, Value.slice b M cb] 27)) none 0 0 25
  rw [← hW]
  clear hW
  refine (TA.out _ fW).mono ?_
  rintro e w1 ⟨ap, cp, aq, cq, rfl, ip, iq, f1⟩
  have S2 := hide (s2.fr f1)
  have FW := hide (fW.trans f1)
  have l1 := cell_lt S2.out.1
  simp only [] at l1
  clear s2 fW f1 TA
  go_wp2_with fail
  obtain ⟨W1, hW1⟩ : ∃ W, W = ((w1.alloc (Obj.cells #[Value.slice ap (nlen 4294967296 p) cp] 25)).alloc (Obj.cells #[Value.slice aq (nlen 4294967296 q) cq] 25)) := ⟨_, rfl⟩
  have f1 : Fr w1 W1 := by rw [hW1]; exact ((Fr.alloc w1 (Obj.cells #[Value.slice ap (nlen 4294967296 p) cp] 25)).trans (Fr.alloc _ (Obj.cells #[Value.slice aq (nlen 4294967296 q) cq] 25)))
  have s4 : Slot w1 W1 (w1.heap.size) (.slice ap (nlen 4294967296 p) cp) := by
    rw [hW1]; simpa using (Slot.new (Fr.refl w1) ap (nlen 4294967296 p) cp 25).fr (Fr.alloc _ _)
  have s5 : Slot w1 W1 (w1.heap.size + 1) (.slice aq (nlen 4294967296 q) cq) := by
    rw [hW1]; simpa using Slot.new (Fr.alloc w1 (Obj.cells #[Value.slice ap (nlen 4294967296 p) cp] 25)) aq (nlen 4294967296 q) cq 25
  rw [← hW1]
  clear hW1
  have IP := hide (ip.fr f1)
  have IQ := hide (iq.fr f1)
  have S2 := hide (S2.out.fr f1)
  have FW := hide (FW.out.trans f1)
  clear s4 s5 f1 ip iq
  refine (half_yes _ _ p q _ IP.out IQ.out (by omega) (by omega) hq0).mono ?_
  rintro e w2 ⟨ax, cx, rfl, ix, _, f2⟩
  rw [EP.out] at ix ⊢
  have S2 := hide (S2.out.fr f2)
  have FW := hide (FW.out.trans f2)
  have IX := hide ix
  have l2 := cell_lt S2.out.1
  simp only [] at l2
  clear f2 IP IQ ix
  have q2 := S2.out.1
  have za : ∀ o, (w2.alloc o).frozen? ⟨w.heap.size + 1, 0, none⟩ = false := fun o => (S2.out.fr (Fr.alloc _ o)).2.1
  go_wp2_with fail
  have IX := hide (S2.out.nat IX.out (.slice ax (nlen 4294967296 P) cx))
  have FW := hide (S2.out.set_fr FW.out (.slice ax (nlen 4294967296 P) cx))
  have S2 := hide (S2.out.set ax (nlen 4294967296 P) cx)
  have S2 := hide (S2.out.fr (Fr.alloc _ (Obj.cells #[Value.slice ax (nlen 4294967296 P) cx] 25)))
  have IX := hide (IX.out.fr (Fr.alloc _ (Obj.cells #[Value.slice ax (nlen 4294967296 P) cx] 25)))
  have FW := hide (FW.out.trans (Fr.alloc _ (Obj.cells #[Value.slice ax (nlen 4294967296 P) cx] 25)))
  exact bodyPost_ret (results_nat rfl _ _ (w.heap.size + 1) _ rfl S2.out.1) rfl ⟨_, _, rfl, IX.out, FW.out⟩

set_option maxHeartbeats 1000000 in
set_option maxRecDepth 4000 in
theorem quotient_any (va vb : Value) (x y : Nat) (w : World) (hT : Tab w) (ha : IsNat w va x) (hb : IsNat w vb y) (hx : nlen 4294967296 x ≤ 1000000) (hy : nlen 4294967296 y ≤ 1000000) (hy0 : y ≠ 0) :
    Calls Tryd.prog 53 #[va, vb] w fun e w' => ∃ v, e = .returned v ∧ IsRat w' v x y ∧ Fr w w' := by
  have HA := hide ha
  have HB := hide hb
  have HT := hide hT
  obtain ⟨a, ca, rfl, a2, a3, a4⟩ := ha
  obtain ⟨b, cb, rfl, b2, b3, b4⟩ := hb
  clear a4 b4 hT
  go_enter Tryd.func53, Tryd.ntmps53
  go_wp2_with fail
  obtain ⟨W, hW⟩ : ∃ W, W = (((w.alloc (Obj.cells #[Value.slice a (nlen 4294967296 x) ca] 25)).alloc (Obj.cells #[Value.slice b (nlen 4294967296 y) cb] 25)).alloc (Obj.cells #[Value.slice none 0 0, Value.slice none 0 0] 27)) := ⟨_, rfl⟩
  have fW : Fr w W := by rw [hW]; exact (((Fr.alloc w (Obj.cells #[Value.slice a (nlen 4294967296 x) ca] 25)).trans (Fr.alloc _ (Obj.cells #[Value.slice b (nlen 4294967296 y) cb] 25))).trans (Fr.alloc _ (Obj.cells #[Value.slice none 0 0, Value.slice none 0 0] 27)))
  have s4 : Slot2 w W (w.heap.size + 1 + 1) (.slice none 0 0) (.slice none 0 0) := by
    rw [hW]; simpa using Slot2.new ((Fr.alloc w (Obj.cells #[Value.slice a (nlen 4294967296 x) ca] 25)).trans (Fr.alloc _ (Obj.cells #[Value.slice b (nlen 4294967296 y) cb] 25))) none 0 0 none 0 0 27
  rw [← hW]
  clear hW
  refine (ofR_yes _ _ x y _ (Tab.fr HT.out fW) (HA.out.fr fW) (HB.out.fr fW) hx hy hy0).mono ?_
  rintro e w1 ⟨v, rfl, ir, f1⟩
  have S4 := hide (s4.fr f1)
  have FW := hide (fW.trans f1)
  have RV := hide ir
  obtain ⟨u1, u2, u3, u4, u5, u6, rfl⟩ := ir.form
  have l1 := cell_lt S4.out.1
  simp only [] at l1
  have q4 := S4.out.1
  have q4' := S4.out.2.1
  have z4 := S4.out.2.2.1 0
  have z4' := S4.out.2.2.1 1
  have za : ∀ o, (w1.alloc o).frozen? ⟨w.heap.size + 1 + 1, 0, none⟩ = false := fun o => (S4.out.fr (Fr.alloc _ o)).2.2.1 0
  have zb : ∀ o, (w1.alloc o).frozen? ⟨w.heap.size + 1 + 1, 1, none⟩ = false := fun o => (S4.out.fr (Fr.alloc _ o)).2.2.1 1
  clear s4 fW f1 ir
  go_wp2_with fail
  have q_ := S4.out.1
  have q2_ := S4.out.2.1
  have z_ := S4.out.2.2.1 0
  have z2_ := S4.out.2.2.1 1
  have RV := hide (S4.out.rat RV.out u1 u2 u3 (.slice u4 u5 u6))
  have FW := hide (S4.out.set_fr FW.out (.slice u1 u2 u3) (.slice u4 u5 u6))
  have S4 := hide (S4.out.set u1 u2 u3 u4 u5 u6)
  have S4 := hide (S4.out.fr (Fr.alloc _ (Obj.cells #[Value.slice u1 u2 u3, Value.slice u4 u5 u6] 27)))
  have RV := hide (RV.out.fr (Fr.alloc _ (Obj.cells #[Value.slice u1 u2 u3, Value.slice u4 u5 u6] 27)))
  have FW := hide (FW.out.trans (Fr.alloc _ (Obj.cells #[Value.slice u1 u2 u3, Value.slice u4 u5 u6] 27)))
  refine bodyPost_ret (results_rat rfl _ _ (w.heap.size + 1 + 1) (.slice u1 u2 u3) (.slice u4 u5 u6) rfl ?_ ?_) rfl ?_
  · exact S4.out.1
  · exact S4.out.2.1
  · exact ⟨_, rfl, RV.out, FW.out⟩

theorem ten_pow_lt {j m : Nat} (hj : j ≤ m) (hm : 0 < m) : 10 ^ j < 4294967296 ^ m := Nat.lt_of_le_of_lt (Nat.pow_le_pow_right (by omega) hj) (Nat.pow_lt_pow_left (by omega) (by omega))
theorem nl_ten_m {A j m : Nat} (h : 10 ^ j = A) (hj : j ≤ m) (hm : 0 < m) : nlen 4294967296 A ≤ m := by
  subst h
  exact nlen_le b32 (ten_pow_lt hj hm)
theorem nl_ten {A j : Nat} (h : 10 ^ j = A) (hj : j ≤ 100000) : nlen 4294967296 A ≤ 100000 := nl_ten_m h hj (by omega)

set_option maxHeartbeats 1000000 in
set_option maxRecDepth 4000 in
theorem power_any (k : Int) (A B : Nat) (w : World) (hT : Tab w) (k0 : -100000 ≤ k) (kl : k ≤ 100000) (eA : 10 ^ k.toNat = A) (eB : 10 ^ (-k).toNat = B) :
    Calls Tryd.prog 67 #[.int .i64 k] w fun e w' => ∃ v, e = .returned v ∧ IsRat w' v A B ∧ Fr w w' := by
  have HT := hide hT
  have nA := nl_ten eA (by omega)
  have nB := nl_ten eB (by omega)
  have hB0 : B ≠ 0 := by rw [← eB]; exact ten_ne _
  have EA := hide eA
  have EB := hide eB
  clear eA eB hT
  go_enter Tryd.func67, Tryd.ntmps67
  go_wp2_with fail
  obtain ⟨W, hW⟩ : ∃ W, W = (w.alloc (Obj.cells #[Value.slice none 0 0, Value.slice none 0 0] 27)) := ⟨_, rfl⟩
  have fW : Fr w W := by rw [hW]; exact (Fr.alloc w (Obj.cells #[Value.slice none 0 0, Value.slice none 0 0] 27))
  have s4 : Slot2 w W (w.heap.size) (.slice none 0 0) (.slice none 0 0) := by
    rw [hW]; simpa using Slot2.new (Fr.refl w) none 0 0 none 0 0 27
  rw [← hW]
  clear hW
  refine (tend_any k A _ (by omega) (by omega) EA.out).mono ?_
  rintro e w1 ⟨a, ca, rfl, ia, f1⟩
  have S4 := hide (s4.fr f1)
  have FW := hide (fW.trans f1)
  have IA := hide ia
  clear s4 fW f1 ia
  go_wp2_with fail
  refine (tend_any (-k) B _ (by omega) (by omega) EB.out).mono ?_
  rintro e w2 ⟨b, cb, rfl, ib, f2⟩
  have S4 := hide (S4.out.fr f2)
  have FW := hide (FW.out.trans f2)
  have IA := hide (IA.out.fr f2)
  have IB := hide ib
  clear f2 ib
  go_wp2_with fail
  refine (quotient_any _ _ A B _ (Tab.fr HT.out FW.out) IA.out IB.out (by omega) (by omega) hB0).mono ?_
  rintro e w3 ⟨v, rfl, ir, f3⟩
  have S4 := hide (S4.out.fr f3)
  have FW := hide (FW.out.trans f3)
  have RV := hide ir
  obtain ⟨u1, u2, u3, u4, u5, u6, rfl⟩ := ir.form
  clear f3 ir
  have q4 := S4.out.1
  have q4' := S4.out.2.1
  have z4 := S4.out.2.2.1 0
  have z4' := S4.out.2.2.1 1
  go_wp2_with fail
  have q_ := S4.out.1
  have q2_ := S4.out.2.1
  have z_ := S4.out.2.2.1 0
  have z2_ := S4.out.2.2.1 1
  have RV := hide (S4.out.rat RV.out u1 u2 u3 (.slice u4 u5 u6))
  have FW := hide (S4.out.set_fr FW.out (.slice u1 u2 u3) (.slice u4 u5 u6))
  have S4 := hide (S4.out.set u1 u2 u3 u4 u5 u6)
  exact bodyPost_ret (results_rat rfl _ _ (w.heap.size) _ _ rfl S4.out.1 S4.out.2.1) rfl ⟨_, rfl, RV.out, FW.out⟩
end Go.Proofs.YthdgdomgcogpjaaDoor
