/- Rounding: sci, To. -/
import Derived.Test.YthdgdomgcogpjaaDoorRoundC
import Derived.Test.YthdgdomgcogpjaaDoorRoundS
namespace Go.Proofs.YthdgdomgcogpjaaDoor
set_option linter.unusedVariables false
set_option linter.unusedSimpArgs false
open Go.RowKit
open Go.Lib (decDigits)

attribute [local go_sem] World.cell?_alloc_some
/-- A variable of two cells, made behind W0. -/
def Two (W0 w : World) (b : Nat) (u v : Value) : Prop := w.cell? ⟨b, 0, none⟩ = some u ∧ w.cell? ⟨b, 1, none⟩ = some v ∧ (∀ o, w.frozen? ⟨b, o, none⟩ = false) ∧ W0.heap.size ≤ b
theorem Two.fr {W0 w w' : World} {b : Nat} {u v : Value} (h : Two W0 w b u v) (f : Fr w w') : Two W0 w' b u v := by
  refine ⟨fr_cell f h.1, fr_cell f h.2.1, fun o => ?_, h.2.2.2⟩
  have hb := f.block b (cell_lt h.1)
  have := h.2.2.1 o
  unfold World.frozen? at *
  rw [hb]; exact this
theorem Two.new {W0 w : World} (f : Fr W0 w) (u v : Value) (t : TypeId) : Two W0 (w.alloc (.cells #[u, v] t)) w.heap.size u v := ⟨by simp [go_sem], by simp [go_sem], fun o => by simp [go_sem], f.size⟩
theorem Two.set {W0 w : World} {b : Nat} {u v : Value} (h : Two W0 w b u v) (u' v' : Value) : Two W0 ((w.setCell ⟨b, 0, none⟩ u').setCell ⟨b, 1, none⟩ v') b u' v' := by
  have e1 : (w.setCell ⟨b, 0, none⟩ u').cell? ⟨b, 1, none⟩ = some v := (World.cell?_setCell_other _ _ _ _ (fun e => by injection e with _ e; omega)).trans h.2.1
  refine ⟨(World.cell?_setCell_other _ _ _ _ (fun e => by injection e with _ e; omega)).trans (World.cell?_setCell_same _ _ _ h.1), World.cell?_setCell_same _ _ _ e1, fun o => by simpa using h.2.2.1 o, h.2.2.2⟩
theorem Two.set0 {W0 w : World} {b : Nat} {u v : Value} (h : Two W0 w b u v) (u' : Value) : Two W0 (w.setCell ⟨b, 0, none⟩ u') b u' v :=
  ⟨World.cell?_setCell_same _ _ _ h.1, (World.cell?_setCell_other _ _ _ _ (fun e => by injection e with _ e; omega)).trans h.2.1, fun o => by simpa using h.2.2.1 o, h.2.2.2⟩
theorem Two.set_fr {W0 w : World} {b : Nat} {u v : Value} (h : Two W0 w b u v) (f : Fr W0 w) (v1 v2 : Value) : Fr W0 ((w.setCell ⟨b, 0, none⟩ v1).setCell ⟨b, 1, none⟩ v2) := Below.setCell (Below.setCell f h.2.2.2 _) h.2.2.2 _
theorem Two.set0_fr {W0 w : World} {b : Nat} {u v : Value} (h : Two W0 w b u v) (f : Fr W0 w) (v1 : Value) : Fr W0 (w.setCell ⟨b, 0, none⟩ v1) := Below.setCell f h.2.2.2 _
theorem results_sci {fn : Func} {p : Tmp} (h : fn.results = #[.cell p 43]) (tmps : Array Value) (w : World) (b : Nat) (v0 v1 : Value) (hp : tmps.getD p undef = .pointer (some ⟨b, 0, none⟩)) (hc : w.cell? ⟨b, 0, none⟩ = some v0) (hc' : w.cell? ⟨b, 1, none⟩ = some v1) :
    (results fn tmps).run Tryd.prog w = .ok (.agg #[v0, v1]) w := by
  have hp1 : tmps[p]?.getD undef = .pointer (some ⟨b, 0, none⟩) := by simpa using hp
  simp [results, h, hp1]
  go_simp
theorem results_sci_ok {fn : Func} {p u : Tmp} (h : fn.results = #[.cell p 43, .tmp u]) (tmps : Array Value) (w : World) (b : Nat) (v0 v1 : Value) (hp : tmps.getD p undef = .pointer (some ⟨b, 0, none⟩)) (hc : w.cell? ⟨b, 0, none⟩ = some v0) (hc' : w.cell? ⟨b, 1, none⟩ = some v1) :
    (results fn tmps).run Tryd.prog w = .ok (.tuple #[.agg #[v0, v1], tmps.getD u undef]) w := by
  have hp1 : tmps[p]?.getD undef = .pointer (some ⟨b, 0, none⟩) := by simpa using hp
  simp [results, h, hp1]
  go_simp
theorem results_fix {fn : Func} {p : Tmp} (h : fn.results = #[.cell p 33]) (tmps : Array Value) (w : World) (b : Nat) (v0 v1 : Value) (hp : tmps.getD p undef = .pointer (some ⟨b, 0, none⟩)) (hc : w.cell? ⟨b, 0, none⟩ = some v0) (hc' : w.cell? ⟨b, 1, none⟩ = some v1) :
    (results fn tmps).run Tryd.prog w = .ok (.agg #[v0, v1]) w := by
  have hp1 : tmps[p]?.getD undef = .pointer (some ⟨b, 0, none⟩) := by simpa using hp
  simp [results, h, hp1]
  go_simp
theorem results_fix_ok {fn : Func} {p u : Tmp} (h : fn.results = #[.cell p 33, .tmp u]) (tmps : Array Value) (w : World) (b : Nat) (v0 v1 : Value) (hp : tmps.getD p undef = .pointer (some ⟨b, 0, none⟩)) (hc : w.cell? ⟨b, 0, none⟩ = some v0) (hc' : w.cell? ⟨b, 1, none⟩ = some v1) :
    (results fn tmps).run Tryd.prog w = .ok (.tuple #[.agg #[v0, v1], tmps.getD u undef]) w := by
  have hp1 : tmps[p]?.getD undef = .pointer (some ⟨b, 0, none⟩) := by simpa using hp
  simp [results, h, hp1]
  go_simp
theorem nl_le2 {x y n : Nat} (h : nlen 4294967296 x ≤ n) (k : nlen 4294967296 y ≤ n) : nlen 4294967296 (x * y) ≤ n + n := nlen_mul b32 h k

set_option maxHeartbeats 1000000 in
set_option maxRecDepth 4000 in
theorem sci_any (v : Value) (n d : Nat) (E : Int) (c : Nat) (w : World) (hT : Tab w) (hP : PT w) (h : IsRat w v n d) (h1 : nlen 4294967296 n ≤ 1000) (k1 : nlen 4294967296 d ≤ 1000) (E0 : -1500 ≤ E) (E1 : E ≤ 1500) (c0 : 1 ≤ c) (c1 : c ≤ 400) (R : Nat) (eR : rndN (n * 10 ^ (-E).toNat * 10 ^ (c - 1)) (d * 10 ^ E.toNat) = R) :
    Calls Tryd.prog 42 #[v, .int .i64 E, .int .i64 c] w fun e w' => e = .returned (.agg #[.string (bs (sciD c R)), .int .i64 (sciE c R E)]) ∧ Fr w w' := by
  have HA := hide h
  have HT := hide hT
  have HP := hide hP
  obtain ⟨a, N, ca, b, M, cb, rfl⟩ := h.form
  obtain ⟨A, hA⟩ : ∃ A, 10 ^ (-E).toNat = A := ⟨_, rfl⟩
  obtain ⟨B, hB⟩ : ∃ B, 10 ^ (-(-E)).toNat = B := ⟨_, rfl⟩
  obtain ⟨C, hC⟩ : ∃ C, 10 ^ (c - 1) = C := ⟨_, rfl⟩
  have nA := nl_ten_m (m := 1500) hA (by omega) (by omega)
  have nB := nl_ten_m (m := 1500) hB (by omega) (by omega)
  have nC := nl_ten_m (m := 400) hC (by omega) (by omega)
  have hB' : 10 ^ E.toNat = B := by rw [← hB, Int.neg_neg]
  have hA0 : 0 < A := by rw [← hA]; exact Nat.pow_pos (by omega)
  have hB0 : 0 < B := by rw [← hB]; exact Nat.pow_pos (by omega)
  rw [hA, hC, hB'] at eR
  have hC2 : 10 ^ (((c : Nat) : Int) - 1).toNat = C := by rw [← hC, show (((c : Nat) : Int) - 1).toNat = c - 1 by omega]
  have hC3 : 10 ^ (-(((c : Nat) : Int) - 1)).toNat = 1 := by rw [show (-(((c : Nat) : Int) - 1)).toNat = 0 by omega]
  have nX : nlen 4294967296 (n * A) ≤ 2500 := nlen_mul b32 h1 nA
  have nY : nlen 4294967296 (d * B) ≤ 2500 := nlen_mul b32 k1 nB
  have nZ : nlen 4294967296 (n * A * C) ≤ 2900 := nlen_mul b32 nX nC
  have hd := h.1
  have nR : nlen 4294967296 R ≤ 3000 := by
    have hle : R ≤ n * A * C + 1 := by
      rw [← eR]
      unfold rndN
      have := Nat.div_le_self (n * A * C) (d * B)
      split <;> omega
    have h2 : nlen 4294967296 (n * A * C + 1) ≤ 2901 := nl_sum nZ (Nat.le_trans (nlen_le b32 (show 1 < 4294967296 ^ 1 by decide)) (by omega))
    exact Nat.le_trans (nlen_mono b32 hle) (by omega)
  have EA := hide hA
  have EB := hide hB
  have EC2 := hide hC2
  have EC3 := hide hC3
  have ER : Hid (rndN (n * A * C) (d * B * 1) = R) := by rw [Nat.mul_one]; exact eR
  obtain ⟨T, hTx⟩ : ∃ T, bs (decDigits R) = T := ⟨_, rfl⟩
  have TX : Hid (∀ w v, IsNat w v R → PT w → Calls Tryd.prog 36 #[v] w fun e w' => e = .returned (.string T) ∧ Fr w w') := by
    rw [← hTx]
    exact fun w v h hP => text_any v R w h (by omega) hP
  have zT : T.size ≤ 100000 := by rw [← hTx]; exact Nat.le_trans (dec_size nR) (by omega)
  obtain ⟨SD, hSD⟩ : ∃ SD, bs (sciD c R) = SD := ⟨_, rfl⟩
  obtain ⟨SE, hSE⟩ : ∃ SE, sciE c R E = SE := ⟨_, rfl⟩
  rw [hSD, hSE]
  have FIN : Hid ((T.size : Int) ≤ c → T = SD ∧ E = SE) := by
    intro hl
    rw [← hSD, ← hSE]
    have hl' : (decDigits R).length ≤ c := by rw [← bs_size, hTx]; omega
    unfold sciD sciE
    rw [List.take_of_length_le hl', if_neg (by omega), hTx]
    exact ⟨rfl, rfl⟩
  have FIN2 : Hid ((c : Int) < T.size → SD = T.extract 0 c ∧ SE = E + 1) := by
    intro hl
    rw [← hSD, ← hSE]
    have hl' : c < (decDigits R).length := by rw [← bs_size, hTx]; omega
    unfold sciD sciE
    rw [if_pos hl']
    refine ⟨?_, rfl⟩
    have := (cut_data T c (by omega)).1
    rw [bs_eta (T.extract 0 c), this, ← hTx, bs_data]
  clear hA hB hC hB' eR hC2 hC3 hTx h hT hP hSD hSE
  go_enter Tryd.func42, Tryd.ntmps42
  go_wp2_with fail
  obtain ⟨W, hW⟩ : ∃ W, W = ((w.alloc (Obj.cells #[Value.slice a N ca, Value.slice b M cb] 27)).alloc (Obj.cells #[Value.string ⟨#[]⟩, Value.int .i64 0] 43)) := ⟨_, rfl⟩
  have fW : Fr w W := by rw [hW]; exact (Fr.alloc w (Obj.cells #[Value.slice a N ca, Value.slice b M cb] 27)).trans (Fr.alloc _ (Obj.cells #[Value.string ⟨#[]⟩, Value.int .i64 0] 43))
  have s1 : Slot2 w W w.heap.size (.slice a N ca) (.slice b M cb) := by
    rw [hW]; simpa using (Slot2.new (Fr.refl w) a N ca b M cb 27).fr (Fr.alloc _ _)
  have r2 : Two w W (w.heap.size + 1) (Value.string ⟨#[]⟩) (Value.int .i64 0) := by
    rw [hW]; simpa using Two.new (Fr.alloc w (Obj.cells #[Value.slice a N ca, Value.slice b M cb] 27)) (Value.string ⟨#[]⟩) (Value.int .i64 0) 43
  rw [← hW]
  clear hW
  have S1 := hide s1
  have R2 := hide r2
  have FW := hide fW
  clear s1 r2 fW
  refine (scaleR_any _ n d (-E) A B _ (Tab.fr HT.out FW.out) (HA.out.fr FW.out) (by omega) (by omega) (by omega) (by omega) EA.out EB.out).mono ?_
  rintro e w1 ⟨v1, rfl, i1, f1⟩
  obtain ⟨u1, u2, u3, u4, u5, u6, rfl⟩ := i1.form
  have I1 := hide i1
  have R2 := hide (R2.out.fr f1)
  have FW := hide (FW.out.trans f1)
  clear i1 f1 S1
  go_wp2_with fail
  refine (scaleR_any _ (n * A) (d * B) ((c : Int) - 1) C 1 _ (Tab.fr HT.out FW.out) I1.out (by omega) (by omega) (by omega) (by omega) EC2.out EC3.out).mono ?_
  rintro e w2 ⟨v2, rfl, i2, f2⟩
  obtain ⟨u1, u2, u3, u4, u5, u6, rfl⟩ := i2.form
  have I2 := hide i2
  have R2 := hide (R2.out.fr f2)
  have FW := hide (FW.out.trans f2)
  clear i2 f2 I1
  go_wp2_with fail
  refine (whole_any _ (n * A * C) (d * B * 1) _ I2.out (by omega) (by rw [Nat.mul_one]; omega) R ER.out).mono ?_
  rintro e w3 ⟨a3, c3, rfl, i3, f3⟩
  have I3 := hide i3
  have R2 := hide (R2.out.fr f3)
  have FW := hide (FW.out.trans f3)
  clear i3 f3 I2
  go_wp2_with fail
  refine (TX.out _ _ I3.out (PT.fr HP.out FW.out)).mono ?_
  rintro e w4 ⟨rfl, f4⟩
  have R2 := hide (R2.out.fr f4)
  have FW := hide (FW.out.trans f4)
  clear f4 I3 TX
  have q2 := R2.out.1
  have q2' := R2.out.2.1
  have z2 := R2.out.2.2.1 0
  have z2' := R2.out.2.2.1 1
  by_cases hl : (T.size : Int) ≤ c
  · obtain ⟨e1, e2⟩ := FIN.out hl
    subst e2
    subst e1
    go_wp2_with fail
    (try simp only [Exit.inBlock, Exit.then])
    have FW := hide (R2.out.set_fr FW.out (.string T) (.int .i64 E))
    have R2 := hide (R2.out.set (.string T) (.int .i64 E))
    exact bodyPost_ret (results_sci rfl _ _ (w.heap.size + 1) _ _ rfl R2.out.1 R2.out.2.1) rfl ⟨rfl, FW.out⟩
  · obtain ⟨e1, e2⟩ := FIN2.out (by omega)
    subst e2
    subst e1
    have hcT : (c : Int) ≤ T.size := by omega
    go_wp2_with fail
    (try simp only [Exit.inBlock, Exit.then])
    have FW := hide (R2.out.set_fr FW.out (.string (T.extract 0 c)) (.int .i64 (E + 1)))
    have R2 := hide (R2.out.set (.string (T.extract 0 c)) (.int .i64 (E + 1)))
    exact bodyPost_ret (results_sci rfl _ _ (w.heap.size + 1) _ _ rfl R2.out.1 R2.out.2.1) rfl ⟨rfl, FW.out⟩
end Go.Proofs.YthdgdomgcogpjaaDoor
