/- numerarylaw09: value. -/
import Derived.Test.YthdgdomgcogpjaaDoorRatioV
import Derived.Test.YthdgdomgcogpjaaDoorVBitsC
import Derived.Test.YthdgdomgcogpjaaDoorRoundT
namespace Go.Proofs.YthdgdomgcogpjaaDoor
set_option linter.unusedVariables false
set_option linter.unusedSimpArgs false
open Go.RowKit

attribute [local go_sem] World.cell?_alloc_some
theorem or_top {u : Nat} (h : u < 9223372036854775808) : u ||| 9223372036854775808 = u + 9223372036854775808 := by
  have := Nat.two_pow_add_eq_or_of_lt (i := 63) (b := u) (by omega) 1
  rw [Nat.mul_one, show (2 : Nat) ^ 63 = 9223372036854775808 by rfl] at this
  rw [Nat.or_comm]
  omega
theorem tried_of {b : Nat} (hb : b < 18446744073709551616) (h : bC b ≠ 3) : triedN (bC b) (bN b) (bM b) (bX b) = b := by
  have e0 : bE b = b / 4503599627370496 % 2048 := rfl
  have f0 : bF b = b % 4503599627370496 := rfl
  unfold bC at h
  have hN : bN b = bS b := by
    unfold bN
    rw [if_neg]
    rintro ⟨h1, h2⟩
    rw [if_pos h1, if_neg h2] at h
    omega
  have hU : unsN (bC b) (bM b) (bX b) = b % 9223372036854775808 := by
    unfold unsN bC bM bX joinN
    generalize bE b = E at *
    generalize bF b = F at *
    by_cases h1 : E = 2047
    · by_cases h2 : F = 0
      · rw [if_pos h1, if_pos h2]
        rw [show ((2 : Nat) : Int) = 2 by rfl, if_neg (by omega), if_pos rfl]
        omega
      · rw [if_pos h1, if_neg h2] at h
        omega
    · simp only [h1, if_false]
      by_cases h2 : E = 0
      · by_cases h3 : F = 0
        · simp only [h2, h3, and_self, if_true]
          simp only [show ((0 : Nat) : Int) = 0 by rfl, show ¬ ((0 : Int) = 1) by omega, show ¬ ((0 : Int) = 2) by omega, show ¬ ((0 : Int) = 3) by omega, if_false]
          omega
        · simp only [h2, h3, and_false, if_true, if_false, show ((1 : Nat) : Int) = 1 by rfl]
          omega
      · simp only [h2, false_and, if_true, if_false, show ((1 : Nat) : Int) = 1 by rfl]
        omega
  unfold triedN
  rw [hU, hN]
  unfold bS
  by_cases s : 9223372036854775808 ≤ b
  · rw [decide_eq_true s, if_pos rfl, or_top (by omega)]
    omega
  · rw [decide_eq_false s, if_neg (by decide)]
    omega
theorem ok_of {b : Nat} (hb : b < 18446744073709551616) (h : bC b ≠ 3) : okN (bC b) (bN b) (bM b) (bX b) = true := by
  unfold okN
  rw [tried_of hb h]
  simp

theorem bM_lt (b : Nat) : bM b < 9007199254740992 := by
  unfold bM bF
  split
  · omega
  · split <;> omega
theorem bX_low (b : Nat) : -1074 ≤ bX b ∧ bX b ≤ 971 := by
  have lE : bE b < 2048 := Nat.mod_lt _ (by omega)
  unfold bX
  split
  · omega
  · split
    · split <;> omega
    · omega
theorem results_val {fn : Func} {p u1 u2 u3 : Tmp} (h : fn.results = #[.cell p 27, .tmp u1, .tmp u2, .tmp u3]) (tmps : Array Value) (w : World) (b : Nat) (v0 v1 : Value) (hp : tmps.getD p undef = .pointer (some ⟨b, 0, none⟩)) (hc : w.cell? ⟨b, 0, none⟩ = some v0) (hc' : w.cell? ⟨b, 1, none⟩ = some v1) :
    (results fn tmps).run Tryd.prog w = .ok (.tuple #[.agg #[v0, v1], tmps.getD u1 undef, tmps.getD u2 undef, tmps.getD u3 undef]) w := by
  have hp1 : tmps[p]?.getD undef = .pointer (some ⟨b, 0, none⟩) := by simpa using hp
  simp [results, h, hp1]
  go_simp

set_option maxHeartbeats 1000000 in
set_option maxRecDepth 4000 in
theorem value_no (b : Nat) (w : World) (hb : b < 18446744073709551616) (hc : 2 ≤ bC b) :
    Calls Tryd.prog 8 #[.int .u64 (b : Int)] w fun e w' => e = .returned (.tuple #[.agg #[.slice none 0 0, .slice none 0 0], .slice none 0 0, .int .i64 0, .bool false]) ∧ Fr w w' := by
  obtain ⟨m, hm⟩ : ∃ m, bM b = m := ⟨_, rfl⟩
  obtain ⟨x, hx⟩ : ∃ x, bX b = x := ⟨_, rfl⟩
  have hm64 : m < 18446744073709551616 := by rw [← hm]; have := bM_lt b; omega
  have x0 : -1074 ≤ x := by rw [← hx]; exact (bX_low b).1
  have x1 : x ≤ 971 := by rw [← hx]; exact (bX_low b).2
  obtain ⟨g, hg⟩ : ∃ g, bN b = g := ⟨_, rfl⟩
  obtain ⟨c, hcc⟩ : ∃ c, bC b = c := ⟨_, rfl⟩
  have eb : bval b = .agg #[.int .i64 (c : Int), .bool g, .int .u64 (m : Int), .int .i64 x] := by unfold bval; rw [hm, hx, hg, hcc]
  have RO : Hid (∀ wz, Calls Tryd.prog 33 #[.int .u64 (b : Int)] wz fun e w' => e = .returned (.agg #[.int .i64 (c : Int), .bool g, .int .u64 (m : Int), .int .i64 x]) ∧ Fr wz w') := by
    intro wz
    have := refOf_any7 b wz hb
    rwa [eb] at this
  have BO : Hid (∀ wz, Calls Tryd.prog 30 #[.int .u64 (b : Int)] wz fun e w' => e = .returned (.agg #[.int .i64 (c : Int), .bool g, .int .u64 (m : Int), .int .i64 x]) ∧ Fr wz w') := by
    intro wz
    have := of_any7 b wz hb
    rwa [eb] at this
  rw [hcc] at hc
  clear hm hx hcc
  clear eb hg
  go_enter Tryd.func8, Tryd.ntmps8
  go_wp2_with fail
  obtain ⟨W, hW⟩ : ∃ W, W = (w.alloc (Obj.cells #[Value.slice none 0 0, Value.slice none 0 0] 27)) := ⟨_, rfl⟩
  have fW : Fr w W := by rw [hW]; exact (Fr.alloc w (Obj.cells #[Value.slice none 0 0, Value.slice none 0 0] 27))
  have s2 : Slot2 w W (w.heap.size) (.slice none 0 0) (.slice none 0 0) := by
    rw [hW]; simpa using Slot2.new (Fr.refl w) none 0 0 none 0 0 27
  rw [← hW]
  clear hW
  refine (RO.out _).mono ?_
  rintro e w1 ⟨rfl, f1⟩
  have S2 := hide (s2.fr f1)
  have FW := hide (fW.trans f1)
  have l1 := cell_lt S2.out.1
  simp only [] at l1
  clear s2 fW f1
  go_wp2_with fail
  obtain ⟨W1, hW1⟩ : ∃ W1, W1 = w1.alloc (Obj.cells #[.int .i64 (c : Int), .bool g, .int .u64 (m : Int), .int .i64 x] 75) := ⟨_, rfl⟩
  have f1 : Fr w1 W1 := by rw [hW1]; exact Fr.alloc _ _
  obtain ⟨c0, c1, c2, c3⟩ : W1.cell? ⟨w1.heap.size, 0, none⟩ = some (.int .i64 (c : Int)) ∧ W1.cell? ⟨w1.heap.size, 1, none⟩ = some (.bool g) ∧ W1.cell? ⟨w1.heap.size, 2, none⟩ = some (.int .u64 (m : Int)) ∧ W1.cell? ⟨w1.heap.size, 3, none⟩ = some (.int .i64 x) := by rw [hW1]; exact four_cells (Fr.refl _)
  rw [← hW1]
  clear hW1
  have S2 := hide (S2.out.fr f1)
  have FW := hide (FW.out.trans f1)
  clear f1
  refine (BO.out _).mono ?_
  rintro e w2 ⟨rfl, f2⟩
  have S2 := hide (S2.out.fr f2)
  have FW := hide (FW.out.trans f2)
  have c0 := fr_cell f2 c0
  have c2 := fr_cell f2 c2
  have c3 := fr_cell f2 c3
  clear f2 BO RO c1
  go_wp2_with fail
  refine (valueR_other (c : Int) g m x _ hm64 (by omega) (by omega) (by omega) (by omega)).mono ?_
  rintro e w3 ⟨rfl, f3⟩
  have S2 := hide (S2.out.fr f3)
  have FW := hide (FW.out.trans f3)
  have c0 := fr_cell f3 c0
  clear f3
  have hc1 : (1 : Int) < c := by omega
  have l0 := cell_lt c0
  simp only [] at l0
  have q2 := S2.out.1
  have q2' := S2.out.2.1
  have z2 := S2.out.2.2.1 0
  have z2' := S2.out.2.2.1 1
  have za : ∀ o k, (w3.alloc o).frozen? ⟨w.heap.size, k, none⟩ = false := fun o k => (S2.out.fr (Fr.alloc _ o)).2.2.1 k
  go_wp2_with fail
  (try simp only [Exit.inBlock, Exit.then])
  have S2 := hide (S2.out.fr (Fr.alloc _ (Obj.cells #[Value.slice none 0 0, Value.slice none 0 0] 27)))
  have FW := hide (FW.out.trans (Fr.alloc _ (Obj.cells #[Value.slice none 0 0, Value.slice none 0 0] 27)))
  have q_ := S2.out.1
  have q2_ := S2.out.2.1
  have z_ := S2.out.2.2.1 0
  have z2_ := S2.out.2.2.1 1
  have FW := hide (S2.out.set_fr FW.out (.slice none 0 0) (.slice none 0 0))
  have S2 := hide (S2.out.set none 0 0 none 0 0)
  exact bodyPost_ret (results_val rfl _ _ w.heap.size _ _ rfl S2.out.1 S2.out.2.1) rfl ⟨rfl, FW.out⟩

theorem Slot2.dec {W0 w : World} {b : Nat} {u v : Value} (h : Slot2 W0 w b u v) {va : Value} {x : Nat} (k : IsDec w va x) (a : Option Addr) (n c : Nat) (u2 : Value) : IsDec ((w.setCell ⟨b, 0, none⟩ (.slice a n c)).setCell ⟨b, 1, none⟩ u2) va x := by
  have calm : ∀ {w : World} {p : Addr} {u : Value}, NoNum w p.block → IsDec w va x → IsDec (w.setCell p u) va x := by
    intro w p u hb h
    obtain ⟨a, c, rfl, h2, h3, h4⟩ := h
    refine ⟨a, c, rfl, h2, h3, ?_⟩
    by_cases h0 : nlen 10 x = 0
    · exact .inl h0
    · refine h4.set p u ?_
      rcases h4 with h4 | ⟨b, off, rfl, hb', hc⟩
      · omega
      · intro g off' s e
        rintro rfl
        simp only [Option.some.injEq, Addr.mk.injEq] at e
        obtain ⟨rfl, _, _⟩ := e
        exact hb _ _ _ (hc 0 (by omega))
  exact calm (p := ⟨b, 1, none⟩) (h.2.2.2.1.put h.1 _ _ _) (calm (p := ⟨b, 0, none⟩) h.2.2.2.1 k)

set_option maxHeartbeats 1000000 in
set_option maxRecDepth 4000 in
theorem value_yes (b : Nat) (w : World) (hb : b < 18446744073709551616) (hT : Tab w) (hc : bC b ≤ 1) (m : Nat) (x : Int) (hm : bM b = m) (hx : bX b = x) (n d D : Nat) (hn : m * 2 ^ x.toNat = n) (hd : 2 ^ (-x).toNat = d) (hD : m * 2 ^ x.toNat * 5 ^ (-x).toNat = D) :
    Calls Tryd.prog 8 #[.int .u64 (b : Int)] w fun e w' => ∃ v dv, e = .returned (.tuple #[v, dv, .int .i64 ((-x).toNat : Int), .bool true]) ∧ IsRat w' v n d ∧ IsDec w' dv D ∧ Fr w w' := by
  have HT := hide hT
  have OK := ok_of hb (by omega)
  have hm64 : m < 18446744073709551616 := by rw [← hm]; have := bM_lt b; omega
  have x0 : -1074 ≤ x := by rw [← hx]; exact (bX_low b).1
  have x1 : x ≤ 971 := by rw [← hx]; exact (bX_low b).2
  obtain ⟨g, hg⟩ : ∃ g, bN b = g := ⟨_, rfl⟩
  obtain ⟨c, hcc⟩ : ∃ c, bC b = c := ⟨_, rfl⟩
  have eb : bval b = .agg #[.int .i64 (c : Int), .bool g, .int .u64 (m : Int), .int .i64 x] := by unfold bval; rw [hm, hx, hg, hcc]
  have RO : Hid (∀ wz, Calls Tryd.prog 33 #[.int .u64 (b : Int)] wz fun e w' => e = .returned (.agg #[.int .i64 (c : Int), .bool g, .int .u64 (m : Int), .int .i64 x]) ∧ Fr wz w') := by
    intro wz
    have := refOf_any7 b wz hb
    rwa [eb] at this
  have BO : Hid (∀ wz, Calls Tryd.prog 30 #[.int .u64 (b : Int)] wz fun e w' => e = .returned (.agg #[.int .i64 (c : Int), .bool g, .int .u64 (m : Int), .int .i64 x]) ∧ Fr wz w') := by
    intro wz
    have := of_any7 b wz hb
    rwa [eb] at this
  rw [hcc] at hc
  rw [hm, hx, hg, hcc] at OK
  have VR : Hid (∀ wz, Tab wz → Calls Tryd.prog 29 #[.agg #[.int .i64 (c : Int), .bool g, .int .u64 (m : Int), .int .i64 x]] wz fun e w' => ∃ v, e = .returned (.tuple #[v, .bool true]) ∧ IsRat w' v n d ∧ Fr wz w') := by
    intro wz hT
    have := valueR_yes (c : Int) g m x wz hm64 (by omega) (by omega) hT (by omega) OK
    rwa [hn, hd] at this
  have DC : Hid (∀ wz, Calls Tryd.prog 34 #[.int .u64 (m : Int), .int .i64 x] wz fun r w' => ∃ v, r = .returned (.tuple #[v, .int .i64 ((-x).toNat : Int)]) ∧ IsDec w' v D ∧ Fr wz w') := fun wz => refDecimals_any m x D wz hm64 x0 (by omega) hD
  clear OK hm hx hcc hn hd hD hT
  generalize (-x).toNat = K at *
  clear eb hg
  go_enter Tryd.func8, Tryd.ntmps8
  go_wp2_with fail
  obtain ⟨W, hW⟩ : ∃ W, W = (w.alloc (Obj.cells #[Value.slice none 0 0, Value.slice none 0 0] 27)) := ⟨_, rfl⟩
  have fW : Fr w W := by rw [hW]; exact (Fr.alloc w (Obj.cells #[Value.slice none 0 0, Value.slice none 0 0] 27))
  have s2 : Slot2 w W (w.heap.size) (.slice none 0 0) (.slice none 0 0) := by
    rw [hW]; simpa using Slot2.new (Fr.refl w) none 0 0 none 0 0 27
  rw [← hW]
  clear hW
  refine (RO.out _).mono ?_
  rintro e w1 ⟨rfl, f1⟩
  have S2 := hide (s2.fr f1)
  have FW := hide (fW.trans f1)
  have l1 := cell_lt S2.out.1
  simp only [] at l1
  clear s2 fW f1
  go_wp2_with fail
  obtain ⟨W1, hW1⟩ : ∃ W1, W1 = w1.alloc (Obj.cells #[.int .i64 (c : Int), .bool g, .int .u64 (m : Int), .int .i64 x] 75) := ⟨_, rfl⟩
  have f1 : Fr w1 W1 := by rw [hW1]; exact Fr.alloc _ _
  obtain ⟨c0, c1, c2, c3⟩ : W1.cell? ⟨w1.heap.size, 0, none⟩ = some (.int .i64 (c : Int)) ∧ W1.cell? ⟨w1.heap.size, 1, none⟩ = some (.bool g) ∧ W1.cell? ⟨w1.heap.size, 2, none⟩ = some (.int .u64 (m : Int)) ∧ W1.cell? ⟨w1.heap.size, 3, none⟩ = some (.int .i64 x) := by rw [hW1]; exact four_cells (Fr.refl _)
  rw [← hW1]
  clear hW1
  have S2 := hide (S2.out.fr f1)
  have FW := hide (FW.out.trans f1)
  clear f1
  refine (BO.out _).mono ?_
  rintro e w2 ⟨rfl, f2⟩
  have S2 := hide (S2.out.fr f2)
  have FW := hide (FW.out.trans f2)
  have c0 := fr_cell f2 c0
  have c2 := fr_cell f2 c2
  have c3 := fr_cell f2 c3
  clear f2 BO RO c1
  go_wp2_with fail
  refine (VR.out _ (Tab.fr HT.out FW.out)).mono ?_
  rintro e w3 ⟨v3, rfl, i3, f3⟩
  have S2 := hide (S2.out.fr f3)
  have FW := hide (FW.out.trans f3)
  have c0 := fr_cell f3 c0
  have c2 := fr_cell f3 c2
  have c3 := fr_cell f3 c3
  have RV := hide i3
  obtain ⟨u1, u2, u3, u4, u5, u6, rfl⟩ := i3.form
  have l3 := cell_lt S2.out.1
  simp only [] at l3
  clear f3 i3 VR
  have hc1 : ¬ (1 : Int) < c := by omega
  go_wp2_with fail
  obtain ⟨W3, hW3⟩ : ∃ W, W = (w3.alloc (Obj.cells #[Value.slice u1 u2 u3, Value.slice u4 u5 u6] 27)) := ⟨_, rfl⟩
  have f3 : Fr w3 W3 := by rw [hW3]; exact (Fr.alloc w3 (Obj.cells #[Value.slice u1 u2 u3, Value.slice u4 u5 u6] 27))
  have s7 : Slot2 w3 W3 (w3.heap.size) (.slice u1 u2 u3) (.slice u4 u5 u6) := by
    rw [hW3]; simpa using Slot2.new (Fr.refl w3) u1 u2 u3 u4 u5 u6 27
  rw [← hW3]
  clear hW3
  have S7 := hide s7
  have S2 := hide (S2.out.fr f3)
  have RV := hide (RV.out.fr f3)
  have FW := hide (FW.out.trans f3)
  clear f3 s7
  refine (DC.out _).mono ?_
  rintro e w4 ⟨v4, rfl, i4, f4⟩
  have S2 := hide (S2.out.fr f4)
  have RV := hide (RV.out.fr f4)
  have S7 := hide (S7.out.fr f4)
  have FW := hide (FW.out.trans f4)
  have DV := hide i4
  clear f4 i4 DC
  have q2 := S2.out.1
  have q2' := S2.out.2.1
  have z2 := S2.out.2.2.1 0
  have z2' := S2.out.2.2.1 1
  have q7 := S7.out.1
  have q7' := S7.out.2.1
  go_wp2_with fail
  (try simp only [Exit.inBlock, Exit.then])
  have DV := hide (S2.out.dec DV.out u1 u2 u3 (.slice u4 u5 u6))
  have q_ := S2.out.1
  have q2_ := S2.out.2.1
  have z_ := S2.out.2.2.1 0
  have z2_ := S2.out.2.2.1 1
  have RV := hide (S2.out.rat RV.out u1 u2 u3 (.slice u4 u5 u6))
  have FW := hide (S2.out.set_fr FW.out (.slice u1 u2 u3) (.slice u4 u5 u6))
  have S2 := hide (S2.out.set u1 u2 u3 u4 u5 u6)
  exact bodyPost_ret (results_val rfl _ _ w.heap.size _ _ rfl S2.out.1 S2.out.2.1) rfl ⟨_, _, rfl, RV.out, DV.out, FW.out⟩
end Go.Proofs.YthdgdomgcogpjaaDoor
