/- Rounding: Exp. -/
import Derived.Test.YthdgdomgcogpjaaDoorRoundB
namespace Go.Proofs.YthdgdomgcogpjaaDoor
set_option linter.unusedVariables false
set_option linter.unusedSimpArgs false
open Go.RowKit

attribute [local go_sem] World.cell?_alloc_some
set_option maxHeartbeats 1000000 in
set_option maxRecDepth 4000 in
theorem expR_no (v : Value) (n d : Nat) (w : World) (h : IsRat w v n d) (h1 : nlen 4294967296 n ≤ 1000) (k1 : nlen 4294967296 d ≤ 1000) (b1 : nlen 2 n ≤ 3000) (b2 : nlen 2 d ≤ 3000) (h0 : n = 0) :
    Calls Tryd.prog 12 #[v] w fun e w' => e = .returned (.tuple #[.int .i64 0, .bool false]) ∧ Fr w w' := by
  have HA := hide h
  obtain ⟨a, N, ca, b, M, cb, rfl⟩ := h.form
  have hd := h.1
  have np1 : nlen 4294967296 (rN n d) ≤ 1000 := nl_le h1 (rN_le _ _)
  have nq1 : nlen 4294967296 (rD n d) ≤ 1000 := nl_le k1 (rD_le _ _)
  have bp1 : nlen 2 (rN n d) ≤ 3000 := Nat.le_trans (nlen_mono (by omega) (rN_le _ _)) b1
  have bq1 : nlen 2 (rD n d) ≤ 3000 := Nat.le_trans (nlen_mono (by omega) (rD_le _ _)) b2
  have TA : Hid (∀ wz, Fr w wz → Calls Tryd.prog 25 #[.agg #[.slice a N ca, .slice b M cb]] wz fun e w' => ∃ a c b k, e = .returned (.tuple #[.agg #[.slice a (nlen 4294967296 (rN n d)) c], .agg #[.slice b (nlen 4294967296 (rD n d)) k]]) ∧ IsNat w' (.agg #[.slice a (nlen 4294967296 (rN n d)) c]) (rN n d) ∧ IsNat w' (.agg #[.slice b (nlen 4294967296 (rD n d)) k]) (rD n d) ∧ Fr wz w') := fun wz f => terms_rat _ n d wz (HA.out.fr f) (by omega)
  generalize rN n d = p at *
  generalize rD n d = q at *
  clear h
  go_enter Tryd.func12, Tryd.ntmps12
  go_wp2_with fail
  obtain ⟨W, hW⟩ : ∃ W, W = (w.alloc (Obj.cells #[Value.slice a N ca, Value.slice b M cb] 27)) := ⟨_, rfl⟩
  have fW : Fr w W := by rw [hW]; exact (Fr.alloc w (Obj.cells #[Value.slice a N ca, Value.slice b M cb] 27))
  have s1 : Slot2 w W (w.heap.size) (.slice a N ca) (.slice b M cb) := by
    rw [hW]; simpa using Slot2.new (Fr.refl w) a N ca b M cb 27
  rw [← hW]
  clear hW
  refine (TA.out _ fW).mono ?_
  rintro e w1 ⟨ap, cp, aq, cq, rfl, ip, iq, f1⟩
  have S1 := hide (s1.fr f1)
  have FW := hide (fW.trans f1)
  have l1 := cell_lt S1.out.1
  simp only [] at l1
  clear s1 fW f1 TA
  go_wp2_with fail
  obtain ⟨W1, hW1⟩ : ∃ W, W = ((w1.alloc (Obj.cells #[Value.slice ap (nlen 4294967296 p) cp] 25)).alloc (Obj.cells #[Value.slice aq (nlen 4294967296 q) cq] 25)) := ⟨_, rfl⟩
  have f1 : Fr w1 W1 := by rw [hW1]; exact ((Fr.alloc w1 (Obj.cells #[Value.slice ap (nlen 4294967296 p) cp] 25)).trans (Fr.alloc _ (Obj.cells #[Value.slice aq (nlen 4294967296 q) cq] 25)))
  have s4 : Slot w1 W1 (w1.heap.size) (.slice ap (nlen 4294967296 p) cp) := by
    rw [hW1]; simpa using (Slot.new (Fr.refl w1) ap (nlen 4294967296 p) cp 25).fr (Fr.alloc _ _)
  have s5 : Slot w1 W1 (w1.heap.size + 1) (.slice aq (nlen 4294967296 q) cq) := by
    rw [hW1]; simpa using Slot.new (Fr.alloc w1 (Obj.cells #[Value.slice ap (nlen 4294967296 p) cp] 25)) aq (nlen 4294967296 q) cq 25
  rw [← hW1]
  clear hW1
  have IP := hide (ip.fr f1)
  have IQ := hide (iq.fr f1)
  have S1 := hide (S1.out.fr f1)
  have FW := hide (FW.out.trans f1)
  have cA : ∀ p : FrBox W1, p.now.cell? ⟨w1.heap.size, 0, none⟩ = _ := fun p => fr_cell p.fr s4.1
  have cB : ∀ p : FrBox W1, p.now.cell? ⟨w1.heap.size + 1, 0, none⟩ = _ := fun p => fr_cell p.fr s5.1
  have kA : Hid (∀ z : FrBox W1, Calls Tryd.prog 28 #[.agg #[.slice ap (nlen 4294967296 p) cp]] z.now fun e w'' => e = .returned (.int .i64 (nlen 2 p : Int)) ∧ ∃ z : FrBox W1, w'' = z.now) := fun z => Calls.fr_of (bits_any _ p _ (IP.out.fr z.fr) (by omega))
  have kB : Hid (∀ z : FrBox W1, Calls Tryd.prog 28 #[.agg #[.slice aq (nlen 4294967296 q) cq]] z.now fun e w'' => e = .returned (.int .i64 (nlen 2 q : Int)) ∧ ∃ z : FrBox W1, w'' = z.now) := fun z => Calls.fr_of (bits_any _ q _ (IQ.out.fr z.fr) (by omega))
  clear s4 s5 f1 ip iq IP IQ
  generalize nlen 2 p = x at *
  generalize nlen 2 q = y at *
  have hwx : IntKind.i64.wrap ((x : Int) - y) = (x : Int) - y := by simp only [IntKind.wrap_i64]; omega
  have nb := FrBox.some W1
  go_wp2_with fail
  refine wp_region_fr (by kernel_rfl) (by kernel_rfl) ?_
  repeat (quiet_step (first | with_reducible exact kA.out _ | with_reducible exact kB.out _))
  refine wpQuiet_nil ?_
  intro wq hq
  obtain ⟨z, hz⟩ := hq
  have fq := z.fr
  rw [← hz] at fq
  have S1 := hide (S1.out.fr fq)
  have FW := hide (FW.out.trans fq)
  clear hz cA cB kA kB nb z fq
  have q1 := S1.out.1
  have q1' := S1.out.2.1
  go_wp2_with fail
  refine (isNoughtR_any _ n d _ (HA.out.fr FW.out) (by omega)).mono ?_
  rintro e w3 ⟨rfl, f3⟩
  have S1 := hide (S1.out.fr f3)
  have FW := hide (FW.out.trans f3)
  clear f3 q1 q1'
  have q1 := S1.out.1
  have q1' := S1.out.2.1
  rw [decide_eq_true h0]
  go_wp2_with fail
  go_ret2
  exact ⟨rfl, FW.out⟩

set_option maxHeartbeats 1000000 in
set_option maxRecDepth 4000 in
theorem expR_yes (v : Value) (n d : Nat) (w : World) (h : IsRat w v n d) (h1 : nlen 4294967296 n ≤ 1000) (k1 : nlen 4294967296 d ≤ 1000) (b1 : nlen 2 n ≤ 3000) (b2 : nlen 2 d ≤ 3000) (hT : Tab w) (E : Int) (hE : IsExp n d E) (E0 : -1500 ≤ E) (E1 : E ≤ 1500) :
    Calls Tryd.prog 12 #[v] w fun e w' => e = .returned (.tuple #[.int .i64 E, .bool true]) ∧ Fr w w' := by
  have HE := hide hE
  have HT := hide hT
  have hn0 : n ≠ 0 := hE.ne h.1
  clear hE hT
  have HA := hide h
  obtain ⟨a, N, ca, b, M, cb, rfl⟩ := h.form
  have hd := h.1
  have np1 : nlen 4294967296 (rN n d) ≤ 1000 := nl_le h1 (rN_le _ _)
  have nq1 : nlen 4294967296 (rD n d) ≤ 1000 := nl_le k1 (rD_le _ _)
  have bp1 : nlen 2 (rN n d) ≤ 3000 := Nat.le_trans (nlen_mono (by omega) (rN_le _ _)) b1
  have bq1 : nlen 2 (rD n d) ≤ 3000 := Nat.le_trans (nlen_mono (by omega) (rD_le _ _)) b2
  have TA : Hid (∀ wz, Fr w wz → Calls Tryd.prog 25 #[.agg #[.slice a N ca, .slice b M cb]] wz fun e w' => ∃ a c b k, e = .returned (.tuple #[.agg #[.slice a (nlen 4294967296 (rN n d)) c], .agg #[.slice b (nlen 4294967296 (rD n d)) k]]) ∧ IsNat w' (.agg #[.slice a (nlen 4294967296 (rN n d)) c]) (rN n d) ∧ IsNat w' (.agg #[.slice b (nlen 4294967296 (rD n d)) k]) (rD n d) ∧ Fr wz w') := fun wz f => terms_rat _ n d wz (HA.out.fr f) (by omega)
  generalize rN n d = p at *
  generalize rD n d = q at *
  clear h
  go_enter Tryd.func12, Tryd.ntmps12
  go_wp2_with fail
  obtain ⟨W, hW⟩ : ∃ W, W = (w.alloc (Obj.cells #[Value.slice a N ca, Value.slice b M cb] 27)) := ⟨_, rfl⟩
  have fW : Fr w W := by rw [hW]; exact (Fr.alloc w (Obj.cells #[Value.slice a N ca, Value.slice b M cb] 27))
  have s1 : Slot2 w W (w.heap.size) (.slice a N ca) (.slice b M cb) := by
    rw [hW]; simpa using Slot2.new (Fr.refl w) a N ca b M cb 27
  rw [← hW]
  clear hW
  refine (TA.out _ fW).mono ?_
  rintro e w1 ⟨ap, cp, aq, cq, rfl, ip, iq, f1⟩
  have S1 := hide (s1.fr f1)
  have FW := hide (fW.trans f1)
  have l1 := cell_lt S1.out.1
  simp only [] at l1
  clear s1 fW f1 TA
  go_wp2_with fail
  obtain ⟨W1, hW1⟩ : ∃ W, W = ((w1.alloc (Obj.cells #[Value.slice ap (nlen 4294967296 p) cp] 25)).alloc (Obj.cells #[Value.slice aq (nlen 4294967296 q) cq] 25)) := ⟨_, rfl⟩
  have f1 : Fr w1 W1 := by rw [hW1]; exact ((Fr.alloc w1 (Obj.cells #[Value.slice ap (nlen 4294967296 p) cp] 25)).trans (Fr.alloc _ (Obj.cells #[Value.slice aq (nlen 4294967296 q) cq] 25)))
  have s4 : Slot w1 W1 (w1.heap.size) (.slice ap (nlen 4294967296 p) cp) := by
    rw [hW1]; simpa using (Slot.new (Fr.refl w1) ap (nlen 4294967296 p) cp 25).fr (Fr.alloc _ _)
  have s5 : Slot w1 W1 (w1.heap.size + 1) (.slice aq (nlen 4294967296 q) cq) := by
    rw [hW1]; simpa using Slot.new (Fr.alloc w1 (Obj.cells #[Value.slice ap (nlen 4294967296 p) cp] 25)) aq (nlen 4294967296 q) cq 25
  rw [← hW1]
  clear hW1
  have IP := hide (ip.fr f1)
  have IQ := hide (iq.fr f1)
  have S1 := hide (S1.out.fr f1)
  have FW := hide (FW.out.trans f1)
  have cA : ∀ p : FrBox W1, p.now.cell? ⟨w1.heap.size, 0, none⟩ = _ := fun p => fr_cell p.fr s4.1
  have cB : ∀ p : FrBox W1, p.now.cell? ⟨w1.heap.size + 1, 0, none⟩ = _ := fun p => fr_cell p.fr s5.1
  have kA : Hid (∀ z : FrBox W1, Calls Tryd.prog 28 #[.agg #[.slice ap (nlen 4294967296 p) cp]] z.now fun e w'' => e = .returned (.int .i64 (nlen 2 p : Int)) ∧ ∃ z : FrBox W1, w'' = z.now) := fun z => Calls.fr_of (bits_any _ p _ (IP.out.fr z.fr) (by omega))
  have kB : Hid (∀ z : FrBox W1, Calls Tryd.prog 28 #[.agg #[.slice aq (nlen 4294967296 q) cq]] z.now fun e w'' => e = .returned (.int .i64 (nlen 2 q : Int)) ∧ ∃ z : FrBox W1, w'' = z.now) := fun z => Calls.fr_of (bits_any _ q _ (IQ.out.fr z.fr) (by omega))
  clear s4 s5 f1 ip iq IP IQ
  generalize nlen 2 p = x at *
  generalize nlen 2 q = y at *
  have hwx : IntKind.i64.wrap ((x : Int) - y) = (x : Int) - y := by simp only [IntKind.wrap_i64]; omega
  have nb := FrBox.some W1
  go_wp2_with fail
  refine wp_region_fr (by kernel_rfl) (by kernel_rfl) ?_
  repeat (quiet_step (first | with_reducible exact kA.out _ | with_reducible exact kB.out _))
  refine wpQuiet_nil ?_
  intro wq hq
  obtain ⟨z, hz⟩ := hq
  have fq := z.fr
  rw [← hz] at fq
  have S1 := hide (S1.out.fr fq)
  have FW := hide (FW.out.trans fq)
  clear hz cA cB kA kB nb z fq
  have q1 := S1.out.1
  have q1' := S1.out.2.1
  go_wp2_with fail
  refine (isNoughtR_any _ n d _ (HA.out.fr FW.out) (by omega)).mono ?_
  rintro e w3 ⟨rfl, f3⟩
  have S1 := hide (S1.out.fr f3)
  have FW := hide (FW.out.trans f3)
  clear f3 q1 q1'
  have q1 := S1.out.1
  have q1' := S1.out.2.1
  rw [decide_eq_false hn0]
  go_wp2_with fail
  refine (firstExp_any _ n d _ E _ (Tab.fr HT.out FW.out) (HA.out.fr FW.out) (by omega) (by omega) (by omega) (by omega) HE.out E0 E1).mono ?_
  rintro e w4 ⟨rfl, f4⟩
  have FW := hide (FW.out.trans f4)
  clear f4 S1 q1 q1'
  go_wp2_with fail
  go_ret2
  exact ⟨rfl, FW.out⟩
end Go.Proofs.YthdgdomgcogpjaaDoor
