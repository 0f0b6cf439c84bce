/- Rounding: To, At. -/
import Derived.Test.YthdgdomgcogpjaaDoorRoundD
namespace Go.Proofs.YthdgdomgcogpjaaDoor
set_option linter.unusedVariables false
set_option linter.unusedSimpArgs false
open Go.RowKit
open Go.Lib (decDigits)

attribute [local go_sem] World.cell?_alloc_some
set_option maxHeartbeats 1000000 in
theorem toR_zero (v : Value) (n d : Nat) (w : World) (h : IsRat w v n d) (h1 : nlen 4294967296 n ≤ 1000) (k1 : nlen 4294967296 d ≤ 1000) (b1 : nlen 2 n ≤ 3000) (b2 : nlen 2 d ≤ 3000) (c : Int) (c0 : -9223372036854775808 ≤ c) (c1 : c ≤ 9223372036854775807) (h0 : n = 0) :
    Calls Tryd.prog 14 #[v, .int .i64 c] w fun e w' => e = .returned (.tuple #[.agg #[.string ⟨#[]⟩, .int .i64 0], .bool false]) ∧ Fr w w' := by
  have HA := hide h
  obtain ⟨a, N, ca, b, M, cb, rfl⟩ := h.form
  clear h
  go_enter Tryd.func14, Tryd.ntmps14
  go_wp2_with fail
  obtain ⟨W, hW⟩ : ∃ W, W = ((w.alloc (Obj.cells #[Value.slice a N ca, Value.slice b M cb] 27)).alloc (Obj.cells #[Value.string ⟨#[]⟩, Value.int .i64 0] 43)) := ⟨_, rfl⟩
  have fW : Fr w W := by rw [hW]; exact (Fr.alloc w (Obj.cells #[Value.slice a N ca, Value.slice b M cb] 27)).trans (Fr.alloc _ (Obj.cells #[Value.string ⟨#[]⟩, Value.int .i64 0] 43))
  have s1 : Slot2 w W w.heap.size (.slice a N ca) (.slice b M cb) := by
    rw [hW]; simpa using (Slot2.new (Fr.refl w) a N ca b M cb 27).fr (Fr.alloc _ _)
  have r2 : Two w W (w.heap.size + 1) (Value.string ⟨#[]⟩) (Value.int .i64 0) := by
    rw [hW]; simpa using Two.new (Fr.alloc w (Obj.cells #[Value.slice a N ca, Value.slice b M cb] 27)) (Value.string ⟨#[]⟩) (Value.int .i64 0) 43
  rw [← hW]
  clear hW
  have S1 := hide s1
  have R2 := hide r2
  have FW := hide fW
  clear s1 r2 fW
  refine (expR_no _ n d _ (HA.out.fr FW.out) h1 k1 b1 b2 h0).mono ?_
  rintro e w1 ⟨rfl, f1⟩
  have S1 := hide (S1.out.fr f1)
  have R2 := hide (R2.out.fr f1)
  have FW := hide (FW.out.trans f1)
  clear f1
  have q1 := S1.out.1
  have q1' := S1.out.2.1
  have q2 := R2.out.1
  have q2' := R2.out.2.1
  have z2 := R2.out.2.2.1 0
  have z2' := R2.out.2.2.1 1
  go_wp2_with fail
  (try simp only [Exit.inBlock, Exit.then])
  have FW := hide (R2.out.set_fr FW.out (Value.string ⟨#[]⟩) (Value.int .i64 0))
  have R2 := hide (R2.out.set (Value.string ⟨#[]⟩) (Value.int .i64 0))
  exact bodyPost_ret (results_sci_ok rfl _ _ (w.heap.size + 1) _ _ rfl R2.out.1 R2.out.2.1) rfl ⟨rfl, FW.out⟩

set_option maxHeartbeats 1000000 in
theorem toR_out (v : Value) (n d : Nat) (w : World) (h : IsRat w v n d) (h1 : nlen 4294967296 n ≤ 1000) (k1 : nlen 4294967296 d ≤ 1000) (b1 : nlen 2 n ≤ 3000) (b2 : nlen 2 d ≤ 3000) (hT : Tab w) (E : Int) (hE : IsExp n d E) (E0 : -1500 ≤ E) (E1 : E ≤ 1500) (c : Int) (c0 : -9223372036854775808 ≤ c) (c1 : c ≤ 9223372036854775807) (hc : c < 1 ∨ 400 < c) :
    Calls Tryd.prog 14 #[v, .int .i64 c] w fun e w' => e = .returned (.tuple #[.agg #[.string ⟨#[]⟩, .int .i64 0], .bool false]) ∧ Fr w w' := by
  have HT := hide hT
  have HE := hide hE
  clear hT hE
  have HA := hide h
  obtain ⟨a, N, ca, b, M, cb, rfl⟩ := h.form
  clear h
  go_enter Tryd.func14, Tryd.ntmps14
  go_wp2_with fail
  obtain ⟨W, hW⟩ : ∃ W, W = ((w.alloc (Obj.cells #[Value.slice a N ca, Value.slice b M cb] 27)).alloc (Obj.cells #[Value.string ⟨#[]⟩, Value.int .i64 0] 43)) := ⟨_, rfl⟩
  have fW : Fr w W := by rw [hW]; exact (Fr.alloc w (Obj.cells #[Value.slice a N ca, Value.slice b M cb] 27)).trans (Fr.alloc _ (Obj.cells #[Value.string ⟨#[]⟩, Value.int .i64 0] 43))
  have s1 : Slot2 w W w.heap.size (.slice a N ca) (.slice b M cb) := by
    rw [hW]; simpa using (Slot2.new (Fr.refl w) a N ca b M cb 27).fr (Fr.alloc _ _)
  have r2 : Two w W (w.heap.size + 1) (Value.string ⟨#[]⟩) (Value.int .i64 0) := by
    rw [hW]; simpa using Two.new (Fr.alloc w (Obj.cells #[Value.slice a N ca, Value.slice b M cb] 27)) (Value.string ⟨#[]⟩) (Value.int .i64 0) 43
  rw [← hW]
  clear hW
  have S1 := hide s1
  have R2 := hide r2
  have FW := hide fW
  clear s1 r2 fW
  refine (expR_yes _ n d _ (HA.out.fr FW.out) h1 k1 b1 b2 (Tab.fr HT.out FW.out) E HE.out E0 E1).mono ?_
  rintro e w1 ⟨rfl, f1⟩
  have S1 := hide (S1.out.fr f1)
  have R2 := hide (R2.out.fr f1)
  have FW := hide (FW.out.trans f1)
  clear f1
  have q1 := S1.out.1
  have q1' := S1.out.2.1
  have q2 := R2.out.1
  have q2' := R2.out.2.1
  have z2 := R2.out.2.2.1 0
  have z2' := R2.out.2.2.1 1
  rcases hc with hc | hc
  · go_wp2_with fail
    (try simp only [Exit.inBlock, Exit.then])
    have FW := hide (R2.out.set_fr FW.out (Value.string ⟨#[]⟩) (Value.int .i64 0))
    have R2 := hide (R2.out.set (Value.string ⟨#[]⟩) (Value.int .i64 0))
    exact bodyPost_ret (results_sci_ok rfl _ _ (w.heap.size + 1) _ _ rfl R2.out.1 R2.out.2.1) rfl ⟨rfl, FW.out⟩
  · have hc' : ¬ c < 1 := by omega
    go_wp2_with fail
    (try simp only [Exit.inBlock, Exit.then])
    have FW := hide (R2.out.set_fr FW.out (Value.string ⟨#[]⟩) (Value.int .i64 0))
    have R2 := hide (R2.out.set (Value.string ⟨#[]⟩) (Value.int .i64 0))
    exact bodyPost_ret (results_sci_ok rfl _ _ (w.heap.size + 1) _ _ rfl R2.out.1 R2.out.2.1) rfl ⟨rfl, FW.out⟩

set_option maxHeartbeats 1000000 in
theorem toR_yes (v : Value) (n d : Nat) (w : World) (h : IsRat w v n d) (h1 : nlen 4294967296 n ≤ 1000) (k1 : nlen 4294967296 d ≤ 1000) (b1 : nlen 2 n ≤ 3000) (b2 : nlen 2 d ≤ 3000) (hT : Tab w) (hP : PT w) (E : Int) (hE : IsExp n d E) (E0 : -1500 ≤ E) (E1 : E ≤ 1500) (c : Nat) (c0 : 1 ≤ c) (c1 : c ≤ 400) (R : Nat) (eR : rndN (n * 10 ^ (-E).toNat * 10 ^ (c - 1)) (d * 10 ^ E.toNat) = R) (SD : ByteArray) (SE : Int) (hSD : bs (sciD c R) = SD) (hSE : sciE c R E = SE) :
    Calls Tryd.prog 14 #[v, .int .i64 c] w fun e w' => e = .returned (.tuple #[.agg #[.string SD, .int .i64 SE], .bool true]) ∧ Fr w w' := by
  have HT := hide hT
  have HP := hide hP
  have HE := hide hE
  have HSC : Hid (∀ w' , Fr w w' → Calls Tryd.prog 42 #[v, .int .i64 E, .int .i64 c] w' fun e w'' => e = .returned (.agg #[.string SD, .int .i64 SE]) ∧ Fr w' w'') := by
    intro w' f
    have := sci_any v n d E c w' (Tab.fr hT f) (PT.fr hP f) (h.fr f) h1 k1 E0 E1 c0 c1 R eR
    rwa [hSD, hSE] at this
  clear hT hP hE eR hSD hSE
  have HA := hide h
  obtain ⟨a, N, ca, b, M, cb, rfl⟩ := h.form
  clear h
  go_enter Tryd.func14, Tryd.ntmps14
  go_wp2_with fail
  obtain ⟨W, hW⟩ : ∃ W, W = ((w.alloc (Obj.cells #[Value.slice a N ca, Value.slice b M cb] 27)).alloc (Obj.cells #[Value.string ⟨#[]⟩, Value.int .i64 0] 43)) := ⟨_, rfl⟩
  have fW : Fr w W := by rw [hW]; exact (Fr.alloc w (Obj.cells #[Value.slice a N ca, Value.slice b M cb] 27)).trans (Fr.alloc _ (Obj.cells #[Value.string ⟨#[]⟩, Value.int .i64 0] 43))
  have s1 : Slot2 w W w.heap.size (.slice a N ca) (.slice b M cb) := by
    rw [hW]; simpa using (Slot2.new (Fr.refl w) a N ca b M cb 27).fr (Fr.alloc _ _)
  have r2 : Two w W (w.heap.size + 1) (Value.string ⟨#[]⟩) (Value.int .i64 0) := by
    rw [hW]; simpa using Two.new (Fr.alloc w (Obj.cells #[Value.slice a N ca, Value.slice b M cb] 27)) (Value.string ⟨#[]⟩) (Value.int .i64 0) 43
  rw [← hW]
  clear hW
  have S1 := hide s1
  have R2 := hide r2
  have FW := hide fW
  clear s1 r2 fW
  refine (expR_yes _ n d _ (HA.out.fr FW.out) h1 k1 b1 b2 (Tab.fr HT.out FW.out) E HE.out E0 E1).mono ?_
  rintro e w1 ⟨rfl, f1⟩
  have S1 := hide (S1.out.fr f1)
  have R2 := hide (R2.out.fr f1)
  have FW := hide (FW.out.trans f1)
  clear f1
  have q1 := S1.out.1
  have q1' := S1.out.2.1
  have q2 := R2.out.1
  have q2' := R2.out.2.1
  have z2 := R2.out.2.2.1 0
  have z2' := R2.out.2.2.1 1
  have hc0 : ¬ (c : Int) < 1 := by omega
  have hc1 : ¬ 400 < (c : Int) := by omega
  go_wp2_with fail
  refine (HSC.out _ FW.out).mono ?_
  rintro e w2 ⟨rfl, f1⟩
  clear q1 q1' q2 q2' z2 z2'
  have S1 := hide (S1.out.fr f1)
  have R2 := hide (R2.out.fr f1)
  have FW := hide (FW.out.trans f1)
  clear f1
  have q1 := S1.out.1
  have q1' := S1.out.2.1
  have q2 := R2.out.1
  have q2' := R2.out.2.1
  have z2 := R2.out.2.2.1 0
  have z2' := R2.out.2.2.1 1
  go_wp2_with fail
  (try simp only [Exit.inBlock, Exit.then])
  have FW := hide (R2.out.set_fr FW.out (Value.string SD) (Value.int .i64 SE))
  have R2 := hide (R2.out.set (Value.string SD) (Value.int .i64 SE))
  exact bodyPost_ret (results_sci_ok rfl _ _ (w.heap.size + 1) _ _ rfl R2.out.1 R2.out.2.1) rfl ⟨rfl, FW.out⟩

theorem at_goal (w : World) (a b : Option Addr) (N ca M cb : Nat) : ∃ W, W = ((w.alloc (Obj.cells #[Value.slice a N ca, Value.slice b M cb] 27)).alloc (Obj.cells #[Value.string ⟨#[]⟩, Value.string ⟨#[]⟩] 33)) ∧ Fr w W ∧ Slot2 w W w.heap.size (.slice a N ca) (.slice b M cb) ∧ Two w W (w.heap.size + 1) (.string ⟨#[]⟩) (.string ⟨#[]⟩) := by
  refine ⟨_, rfl, (Fr.alloc _ _).trans (Fr.alloc _ _), (Slot2.new (Fr.refl w) _ _ _ _ _ _ _).fr (Fr.alloc _ _), ?_⟩
  simpa using Two.new (Fr.alloc w (Obj.cells #[Value.slice a N ca, Value.slice b M cb] 27)) (.string ⟨#[]⟩) (.string ⟨#[]⟩) 33

set_option maxHeartbeats 1000000 in
theorem atR_out (v : Value) (n d : Nat) (w : World) (h : IsRat w v n d) (p : Int) (p0 : -9223372036854775808 ≤ p) (p1 : p ≤ 9223372036854775807) (hp : p < 0 ∨ 400 < p) :
    Calls Tryd.prog 10 #[v, .int .i64 p] w fun e w' => e = .returned (.tuple #[.agg #[.string ⟨#[]⟩, .string ⟨#[]⟩], .bool false]) ∧ Fr w w' := by
  have HA := hide h
  obtain ⟨a, N, ca, b, M, cb, rfl⟩ := h.form
  clear h
  have G := hide (at_goal w a b N ca M cb)
  rcases hp with hc | hc
  · go_enter Tryd.func10, Tryd.ntmps10
    go_wp2_with fail
    (try simp only [Exit.inBlock, Exit.then])
    obtain ⟨W, hW, fW, s1, r2⟩ := G.out
    subst hW
    exact bodyPost_ret (results_fix_ok rfl _ _ (w.heap.size + 1) _ _ rfl r2.1 r2.2.1) rfl ⟨rfl, fW⟩
  · have hc' : ¬ p < 0 := by omega
    go_enter Tryd.func10, Tryd.ntmps10
    go_wp2_with fail
    (try simp only [Exit.inBlock, Exit.then])
    obtain ⟨W, hW, fW, s1, r2⟩ := G.out
    subst hW
    exact bodyPost_ret (results_fix_ok rfl _ _ (w.heap.size + 1) _ _ rfl r2.1 r2.2.1) rfl ⟨rfl, fW⟩
end Go.Proofs.YthdgdomgcogpjaaDoor
