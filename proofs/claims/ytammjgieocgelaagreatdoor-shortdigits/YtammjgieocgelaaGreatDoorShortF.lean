/- Layer 10: finite, Fifteen, Digits. -/
import Derived.Test.YtammjgieocgelaaGreatDoorShortV
import Derived.Test.YtammjgieocgelaaGreatDoorShortE
import Derived.Test.YtammjgieocgelaaGreatDoorShortL
import Derived.Test.YtammjgieocgelaaGreatDoorRoundV
namespace Go.Proofs.YtammjgieocgelaaGreatDoor
set_option linter.unusedVariables false
set_option linter.unusedSimpArgs false
open Go.RowKit
open Go.Lib (decDigits trimRightB)

attribute [local go_sem] World.cell?_alloc_some
theorem not_sign (b : Nat) (hb : b < 18446744073709551616) : bits .andNot .u64 (b : Int) 9223372036854775808 = ((b % 9223372036854775808 : Nat) : Int) := by
  by_cases c : 9223372036854775808 ≤ b
  · go_bits2
  · go_bits2
theorem and_rest (b : Nat) (hb : b < 18446744073709551616) : bits .and .u64 (b : Int) 9223372036854775807 = ((b % 9223372036854775808 : Nat) : Int) := by
  go_bits2
set_option maxHeartbeats 2000000 in
set_option maxRecDepth 4000 in
theorem finite_no (b : Nat) (w : World) (hb : b < 18446744073709551616) (hc : bC b ≠ 1) :
    Calls Tryz.prog 25 #[.int .u64 (b : Int)] w fun e w' => e = .returned (.tuple #[.agg #[.slice none 0 0, .slice none 0 0], .bool false]) ∧ Fr w w' := by
  obtain ⟨m, hm⟩ : ∃ m, bM b = m := ⟨_, rfl⟩
  obtain ⟨x, hx⟩ : ∃ x, bX b = x := ⟨_, rfl⟩
  have hm64 : m < 18446744073709551616 := by rw [← hm]; have := bM_lt b; omega
  have x0 : -1074 ≤ x := by rw [← hx]; exact (bX_low b).1
  have x1 : x ≤ 971 := by rw [← hx]; exact (bX_low b).2
  obtain ⟨g, hg⟩ : ∃ g, bN b = g := ⟨_, rfl⟩
  obtain ⟨c, hcc⟩ : ∃ c, bC b = c := ⟨_, rfl⟩
  have eb : bval b = .agg #[.int .i64 (c : Int), .bool g, .int .u64 (m : Int), .int .i64 x] := by unfold bval; rw [hm, hx, hg, hcc]
  have BO : Hid (∀ wz, Calls Tryz.prog 23 #[.int .u64 (b : Int)] wz fun e w' => e = .returned (.agg #[.int .i64 (c : Int), .bool g, .int .u64 (m : Int), .int .i64 x]) ∧ Fr wz w') := by
    intro wz
    have := of_any7 b wz hb
    rwa [eb] at this
  rw [hcc] at hc
  clear hm hx hcc eb hg
  have hc1 : ((c : Int) != 1) = true := by simp only [bne_iff_ne, ne_eq]; omega
  have hc2 : ¬ (c : Int) = 1 := by omega
  go_enter Tryz.func25, Tryz.ntmps25
  go_wp2_with fail
  obtain ⟨W, hW⟩ : ∃ W, W = w.alloc (Obj.cells #[Value.slice none 0 0, Value.slice none 0 0] 55) := ⟨_, rfl⟩
  have fW : Fr w W := by rw [hW]; exact Fr.alloc _ _
  have r2 : Slot2 w W (w.heap.size) (.slice none 0 0) (.slice none 0 0) := by
    rw [hW]; simpa using Slot2.new (Fr.refl w) none 0 0 none 0 0 55
  rw [← hW]
  clear hW
  have R2 := hide r2
  have FW := hide fW
  clear r2 fW
  refine (BO.out _).mono ?_
  rintro e w1 ⟨rfl, f1⟩
  have R2 := hide (R2.out.fr f1)
  have FW := hide (FW.out.trans f1)
  clear f1 BO
  have l2 := cell_lt R2.out.1
  simp only [] at l2
  have fz := Fr.alloc w1 (Obj.cells #[.int .i64 (c : Int), .bool g, .int .u64 (m : Int), .int .i64 x] 60)
  have R3 := hide (R2.out.fr fz)
  have q2 := R2.out.1
  have q2' := R2.out.2.1
  have z2 := R2.out.2.2.1 0
  have z2' := R2.out.2.2.1 1
  have q3 := R3.out.1
  have q3' := R3.out.2.1
  have z3 := R3.out.2.2.1 0
  have z3' := R3.out.2.2.1 1
  clear fz
  go_wp2_with fail
  (try simp only [Exit.inBlock, Exit.then])
  have FW := hide (R2.out.set_fr FW.out (.slice none 0 0) (.slice none 0 0))
  have R2 := hide (R2.out.set none 0 0 none 0 0)
  have FW := hide (FW.out.trans (Fr.alloc _ (Obj.cells #[.int .i64 (c : Int), .bool g, .int .u64 (m : Int), .int .i64 x] 60)))
  have R2 := hide (R2.out.fr (Fr.alloc _ (Obj.cells #[.int .i64 (c : Int), .bool g, .int .u64 (m : Int), .int .i64 x] 60)))
  exact bodyPost_ret (results_rat_ok rfl _ _ w.heap.size _ _ rfl R2.out.1 R2.out.2.1) rfl ⟨rfl, FW.out⟩

set_option maxHeartbeats 2000000 in
set_option maxRecDepth 4000 in
theorem finite_yes (b : Nat) (w : World) (hb : b < 18446744073709551616) (hT : Tab w) (hc : bC b = 1) :
    Calls Tryz.prog 25 #[.int .u64 (b : Int)] w fun e w' => ∃ v, e = .returned (.tuple #[v, .bool true]) ∧ IsRat w' v (vNum b) (vDen b) ∧ Fr w w' := by
  have HT := hide hT
  have OK := ok_of hb (by omega)
  obtain ⟨m, hm⟩ : ∃ m, bM b = m := ⟨_, rfl⟩
  obtain ⟨x, hx⟩ : ∃ x, bX b = x := ⟨_, rfl⟩
  have hm64 : m < 18446744073709551616 := by rw [← hm]; have := bM_lt b; omega
  have x0 : -1074 ≤ x := by rw [← hx]; exact (bX_low b).1
  have x1 : x ≤ 971 := by rw [← hx]; exact (bX_low b).2
  obtain ⟨g, hg⟩ : ∃ g, bN b = g := ⟨_, rfl⟩
  obtain ⟨c, hcc⟩ : ∃ c, bC b = c := ⟨_, rfl⟩
  have eb : bval b = .agg #[.int .i64 (c : Int), .bool g, .int .u64 (m : Int), .int .i64 x] := by unfold bval; rw [hm, hx, hg, hcc]
  have BO : Hid (∀ wz, Calls Tryz.prog 23 #[.int .u64 (b : Int)] wz fun e w' => e = .returned (.agg #[.int .i64 (c : Int), .bool g, .int .u64 (m : Int), .int .i64 x]) ∧ Fr wz w') := by
    intro wz
    have := of_any7 b wz hb
    rwa [eb] at this
  rw [hm, hx, hg, hcc] at OK
  have en : vNum b = m * 2 ^ x.toNat := by unfold vNum; rw [hm, hx]
  have ed : vDen b = 2 ^ (-x).toNat := by unfold vDen; rw [hx]
  have hc1 : c = 1 := by rw [← hcc]; exact hc
  have VR : Hid (∀ wz, Tab wz → Calls Tryz.prog 22 #[.agg #[.int .i64 1, .bool g, .int .u64 (m : Int), .int .i64 x]] wz fun e w' => ∃ v, e = .returned (.tuple #[v, .bool true]) ∧ IsRat w' v (vNum b) (vDen b) ∧ Fr wz w') := by
    intro wz hT
    have := valueR_yes (c : Int) g m x wz hm64 (by omega) (by omega) hT (by omega) OK
    rw [← en, ← ed, hc1] at this
    exact this
  obtain ⟨n, hn⟩ : ∃ n, vNum b = n := ⟨_, rfl⟩
  obtain ⟨d, hd⟩ : ∃ d, vDen b = d := ⟨_, rfl⟩
  rw [hn, hd] at VR ⊢
  subst hc1
  clear hm hx eb hg hcc OK en ed hn hd hT
  go_enter Tryz.func25, Tryz.ntmps25
  go_wp2_with fail
  obtain ⟨W, hW⟩ : ∃ W, W = w.alloc (Obj.cells #[Value.slice none 0 0, Value.slice none 0 0] 55) := ⟨_, rfl⟩
  have fW : Fr w W := by rw [hW]; exact Fr.alloc _ _
  have r2 : Slot2 w W (w.heap.size) (.slice none 0 0) (.slice none 0 0) := by
    rw [hW]; simpa using Slot2.new (Fr.refl w) none 0 0 none 0 0 55
  rw [← hW]
  clear hW
  have R2 := hide r2
  have FW := hide fW
  clear r2 fW
  refine (BO.out _).mono ?_
  rintro e w1 ⟨rfl, f1⟩
  have R2 := hide (R2.out.fr f1)
  have FW := hide (FW.out.trans f1)
  clear f1 BO
  go_wp2_with fail
  obtain ⟨W1, hW1⟩ : ∃ W1, W1 = w1.alloc (Obj.cells #[.int .i64 1, .bool g, .int .u64 (m : Int), .int .i64 x] 60) := ⟨_, rfl⟩
  have f1 : Fr w1 W1 := by rw [hW1]; exact Fr.alloc _ _
  have R2 := hide (R2.out.fr f1)
  have FW := hide (FW.out.trans f1)
  clear f1
  refine (VR.out _ (Tab.fr HT.out (by rw [hW1] at FW; exact FW.out))).mono ?_
  rintro e w3 ⟨v3, rfl, i3, f3⟩
  rw [← hW1] at f3
  clear hW1
  have R2 := hide (R2.out.fr f3)
  have FW := hide (FW.out.trans f3)
  have RV := hide i3
  obtain ⟨u1, u2, u3, u4, u5, u6, rfl⟩ := i3.form
  clear f3 i3 VR
  have q2 := R2.out.1
  have q2' := R2.out.2.1
  have z2 := R2.out.2.2.1 0
  have z2' := R2.out.2.2.1 1
  go_wp2_with fail
  (try simp only [Exit.inBlock, Exit.then])
  have RV := hide (R2.out.rat RV.out u1 u2 u3 (.slice u4 u5 u6))
  have FW := hide (R2.out.set_fr FW.out (.slice u1 u2 u3) (.slice u4 u5 u6))
  have R2 := hide (R2.out.set u1 u2 u3 u4 u5 u6)
  exact bodyPost_ret (results_rat_ok rfl _ _ w.heap.size _ _ rfl R2.out.1 R2.out.2.1) rfl ⟨_, rfl, RV.out, FW.out⟩

set_option maxHeartbeats 2000000 in
set_option maxRecDepth 4000 in
theorem digits_no (b : Nat) (w : World) (hb : b < 18446744073709551616) (hc : bC b ≠ 1) :
    Calls Tryz.prog 9 #[.int .u64 (b : Int)] w fun e w' => e = .returned (.tuple #[.agg #[.string ⟨#[]⟩, .int .i64 0], .bool false]) ∧ Fr w w' := by
  have FN := hide (fun wz => finite_no b wz hb hc)
  clear hc
  go_enter Tryz.func9, Tryz.ntmps9
  go_wp2_with fail
  obtain ⟨W, hW⟩ : ∃ W, W = w.alloc (Obj.cells #[Value.string ⟨#[]⟩, Value.int .i64 0] 27) := ⟨_, rfl⟩
  have fW : Fr w W := by rw [hW]; exact Fr.alloc _ _
  have r2 : Two w W w.heap.size (Value.string ⟨#[]⟩) (Value.int .i64 0) := by rw [hW]; exact Two.new (Fr.refl _) _ _ _
  rw [← hW]
  clear hW
  have R2 := hide r2
  have FW := hide fW
  clear r2 fW
  refine (FN.out _).mono ?_
  rintro e w1 ⟨rfl, f1⟩
  have R2 := hide (R2.out.fr f1)
  have FW := hide (FW.out.trans f1)
  clear f1 FN
  have l2 := cell_lt R2.out.1
  simp only [] at l2
  have R3 := hide (R2.out.fr (Fr.alloc _ (Obj.cells #[Value.slice none 0 0, Value.slice none 0 0] 55)))
  have q2 := R2.out.1
  have q2' := R2.out.2.1
  have z2 := R2.out.2.2.1 0
  have z2' := R2.out.2.2.1 1
  have q3 := R3.out.1
  have q3' := R3.out.2.1
  have z3 := R3.out.2.2.1 0
  have z3' := R3.out.2.2.1 1
  go_wp2_with fail
  (try simp only [Exit.inBlock, Exit.then])
  have FW := hide (R2.out.set_fr FW.out (Value.string ⟨#[]⟩) (Value.int .i64 0))
  have R2 := hide (R2.out.set (Value.string ⟨#[]⟩) (Value.int .i64 0))
  have FW := hide (FW.out.trans (Fr.alloc _ (Obj.cells #[Value.slice none 0 0, Value.slice none 0 0] 55)))
  have R2 := hide (R2.out.fr (Fr.alloc _ (Obj.cells #[Value.slice none 0 0, Value.slice none 0 0] 55)))
  exact bodyPost_ret (results_sci_ok rfl _ _ w.heap.size _ _ rfl R2.out.1 R2.out.2.1) rfl ⟨rfl, FW.out⟩

set_option maxHeartbeats 2000000 in
set_option maxRecDepth 4000 in
theorem fifteen_no (b : Nat) (w : World) (hb : b < 18446744073709551616) (hc : bC b ≠ 1) :
    Calls Tryz.prog 10 #[.int .u64 (b : Int)] w fun e w' => e = .returned (.tuple #[.agg #[.string ⟨#[]⟩, .int .i64 0], .bool false]) ∧ Fr w w' := by
  have FN := hide (fun wz => finite_no b wz hb hc)
  clear hc
  go_enter Tryz.func10, Tryz.ntmps10
  go_wp2_with fail
  obtain ⟨W, hW⟩ : ∃ W, W = w.alloc (Obj.cells #[Value.string ⟨#[]⟩, Value.int .i64 0] 27) := ⟨_, rfl⟩
  have fW : Fr w W := by rw [hW]; exact Fr.alloc _ _
  have r2 : Two w W w.heap.size (Value.string ⟨#[]⟩) (Value.int .i64 0) := by rw [hW]; exact Two.new (Fr.refl _) _ _ _
  rw [← hW]
  clear hW
  have R2 := hide r2
  have FW := hide fW
  clear r2 fW
  refine (FN.out _).mono ?_
  rintro e w1 ⟨rfl, f1⟩
  have R2 := hide (R2.out.fr f1)
  have FW := hide (FW.out.trans f1)
  clear f1 FN
  have l2 := cell_lt R2.out.1
  simp only [] at l2
  have R3 := hide (R2.out.fr (Fr.alloc _ (Obj.cells #[Value.slice none 0 0, Value.slice none 0 0] 55)))
  have q2 := R2.out.1
  have q2' := R2.out.2.1
  have z2 := R2.out.2.2.1 0
  have z2' := R2.out.2.2.1 1
  have q3 := R3.out.1
  have q3' := R3.out.2.1
  have z3 := R3.out.2.2.1 0
  have z3' := R3.out.2.2.1 1
  go_wp2_with fail
  (try simp only [Exit.inBlock, Exit.then])
  have FW := hide (R2.out.set_fr FW.out (Value.string ⟨#[]⟩) (Value.int .i64 0))
  have R2 := hide (R2.out.set (Value.string ⟨#[]⟩) (Value.int .i64 0))
  have FW := hide (FW.out.trans (Fr.alloc _ (Obj.cells #[Value.slice none 0 0, Value.slice none 0 0] 55)))
  have R2 := hide (R2.out.fr (Fr.alloc _ (Obj.cells #[Value.slice none 0 0, Value.slice none 0 0] 55)))
  exact bodyPost_ret (results_sci_ok rfl _ _ w.heap.size _ _ rfl R2.out.1 R2.out.2.1) rfl ⟨rfl, FW.out⟩

set_option maxHeartbeats 2000000 in
set_option maxRecDepth 4000 in
theorem fifteen_yes (b : Nat) (w : World) (hb : b < 18446744073709551616) (hL : Led w) (hc : bC b = 1) (SD : ByteArray) (SE : Int) (hSD : bs (trimRightB (sD b 15) 48) = SD) (hSE : sE b 15 = SE) :
    Calls Tryz.prog 10 #[.int .u64 (b : Int)] w fun e w' => e = .returned (.tuple #[.agg #[.string SD, .int .i64 SE], .bool true]) ∧ Fr w w' := by
  have HL := hide hL
  obtain ⟨n, hn⟩ : ∃ n, vNum b = n := ⟨_, rfl⟩
  obtain ⟨d, hd⟩ : ∃ d, vDen b = d := ⟨_, rfl⟩
  have FY : Hid (∀ wz, Tab wz → Calls Tryz.prog 25 #[.int .u64 (b : Int)] wz fun e w' => ∃ v, e = .returned (.tuple #[v, .bool true]) ∧ IsRat w' v n d ∧ Fr wz w') := by
    intro wz hT
    have := finite_yes b wz hb hT hc
    rwa [hn, hd] at this
  have TO : Hid (∀ (k : Nat) (wz : World) (v : Value), 1 ≤ k → k ≤ 400 → Led wz → IsRat wz v n d → Calls Tryz.prog 24 #[v, .int .i64 (k : Int)] wz fun e w' => e = .returned (.tuple #[.agg #[.string (bs (sD b k)), .int .i64 (sE b k)], .bool true]) ∧ Fr wz w') := by
    intro k wz v k1 k2 hL h
    obtain ⟨hE, e0, e1⟩ := vE_facts hb hc
    obtain ⟨h1, h2, h3, h4, h5, _⟩ := v_facts b
    rw [← hn, ← hd] at h
    exact toR_yes v (vNum b) (vDen b) wz h h4 h5 (by omega) (by omega) hL.1 hL.2 (vE b) hE (by omega) (by omega) k k1 k2 (sR b k) (s_rnd k1) _ _ rfl rfl
  obtain ⟨S0, hS0⟩ : ∃ S0, bs (sD b 15) = S0 := ⟨_, rfl⟩
  have T15 : Hid (∀ (wz : World) (v : Value), Led wz → IsRat wz v n d → Calls Tryz.prog 24 #[v, .int .i64 15] wz fun e w' => e = .returned (.tuple #[.agg #[.string S0, .int .i64 SE], .bool true]) ∧ Fr wz w') := by
    intro wz v hL h
    have := TO.out 15 wz v (by omega) (by omega) hL h
    rw [hS0, hSE] at this
    exact this
  have z0 : S0.size ≤ 400 := by rw [← hS0, bs_size, (s_facts hb hc (by omega)).1]; omega
  have TR : Hid (∀ wz, Calls Tryz.prog 26 #[.string S0] wz fun e w' => e = .returned (.string SD) ∧ w' = wz) := by
    intro wz
    have := trim_any6 S0 wz (by unfold maxLen; omega)
    rw [← hS0, bs_data, hSD] at this
    rw [← hS0]
    exact this
  clear TO hn hd hS0 hSD hSE hL hc
  go_enter Tryz.func10, Tryz.ntmps10
  go_wp2_with fail
  obtain ⟨W, hW⟩ : ∃ W, W = w.alloc (Obj.cells #[Value.string ⟨#[]⟩, Value.int .i64 0] 27) := ⟨_, rfl⟩
  have fW : Fr w W := by rw [hW]; exact Fr.alloc _ _
  have r2 : Two w W w.heap.size (Value.string ⟨#[]⟩) (Value.int .i64 0) := by rw [hW]; exact Two.new (Fr.refl _) _ _ _
  rw [← hW]
  clear hW
  have R2 := hide r2
  have FW := hide fW
  clear r2 fW
  refine (FY.out _ (HL.out.fr FW.out).1).mono ?_
  rintro e w1 ⟨v1, rfl, i1, f1⟩
  have R2 := hide (R2.out.fr f1)
  have FW := hide (FW.out.trans f1)
  have RV := hide i1
  obtain ⟨u1, u2, u3, u4, u5, u6, rfl⟩ := i1.form
  clear f1 i1 FY
  go_wp2_with fail
  obtain ⟨W1, hW1⟩ : ∃ W, W = (w1.alloc (Obj.cells #[Value.slice u1 u2 u3, Value.slice u4 u5 u6] 55)) := ⟨_, rfl⟩
  have fy : Fr w1 W1 := by rw [hW1]; exact (Fr.alloc w1 (Obj.cells #[Value.slice u1 u2 u3, Value.slice u4 u5 u6] 55))
  have s4 : Slot2 w1 W1 (w1.heap.size) (.slice u1 u2 u3) (.slice u4 u5 u6) := by
    rw [hW1]; simpa using Slot2.new (Fr.refl w1) u1 u2 u3 u4 u5 u6 55
  rw [← hW1]
  clear hW1
  have S4 := hide s4
  have RV := hide (RV.out.fr fy)
  have R2 := hide (R2.out.fr fy)
  have FW := hide (FW.out.trans fy)
  clear s4 fy
  refine (T15.out _ _ (HL.out.fr FW.out) RV.out).mono ?_
  rintro e w2 ⟨rfl, fy⟩
  have R2 := hide (R2.out.fr fy)
  have FW := hide (FW.out.trans fy)
  clear fy S4 RV T15
  have l2 : w.heap.size < w2.heap.size := by have := cell_lt R2.out.1; simpa using this
  go_wp2_with fail
  obtain ⟨W2, hW2⟩ : ∃ W, W = w2.alloc (Obj.cells #[.string S0, .int .i64 SE] 27) := ⟨_, rfl⟩
  have fy : Fr w2 W2 := by rw [hW2]; exact Fr.alloc _ _
  have s6 : Two w2 W2 w2.heap.size (.string S0) (.int .i64 SE) := by rw [hW2]; exact Two.new (Fr.refl _) _ _ _
  rw [← hW2]
  clear hW2
  have R2 := hide (R2.out.fr fy)
  have FW := hide (FW.out.trans fy)
  have S6 := hide s6
  clear s6 fy
  have R2 := hide (R2.out.fr (Fr.drew _))
  have S6 := hide (S6.out.fr (Fr.drew _))
  have FW := hide (FW.out.trans (Fr.drew _))
  refine wp_region_held_drew (S := (fun w' => w'.cell? ⟨w2.heap.size, 0, none⟩ = some (.string S0) ∧ w'.cell? ⟨w2.heap.size, 1, none⟩ = some (.int .i64 SE))) (by kernel_rfl) ?_ (fun hHeld => ?_)
  · exact ⟨S6.out.1, S6.out.2.1⟩
  obtain ⟨wd, hwd⟩ : ∃ wd, wd = W2.drew := ⟨_, rfl⟩
  rw [← hwd] at hHeld R2 S6 FW ⊢
  clear hwd
  refine wpAnyH_take (i := 0) (v := ?_) rfl (by kernel_rfl) (by kernel_rfl) (by kernel_rfl) (fun _ _ _ h => h) (Or.inl ⟨by rfl, ?_⟩) (by assumption) ?_
  rotate_left
  · (intro w hSw; (try dsimp only at hSw); go_simp; try with_reducible rfl)
  (try simp only [Act.put, List.getElem_toArray, List.getElem_cons_zero, List.getElem_cons_succ, List.setIfInBounds_toArray, List.set_cons_zero, List.set_cons_succ])
  refine wpAnyH_take (i := 1) (v := ?_) rfl (by kernel_rfl) (by kernel_rfl) (by kernel_rfl) (fun _ _ _ h => h) (Or.inl ⟨by rfl, ?_⟩) (by assumption) ?_
  rotate_left
  · (intro w hSw; (try dsimp only at hSw); go_simp; try with_reducible rfl)
  (try simp only [Act.put, List.getElem_toArray, List.getElem_cons_zero, List.getElem_cons_succ, List.setIfInBounds_toArray, List.set_cons_zero, List.set_cons_succ])
  refine wpAnyH_take (i := 3) (v := ?_) rfl (by kernel_rfl) (by kernel_rfl) (by kernel_rfl) (fun _ _ _ h => h) (Or.inl ⟨by rfl, ?_⟩) (by assumption) ?_
  rotate_left
  · (intro w hSw; (try dsimp only at hSw); go_simp; try with_reducible rfl)
  (try simp only [Act.put, List.getElem_toArray, List.getElem_cons_zero, List.getElem_cons_succ, List.setIfInBounds_toArray, List.set_cons_zero, List.set_cons_succ])
  refine wpAnyH_take (i := 4) (v := ?_) rfl (by kernel_rfl) (by kernel_rfl) (by kernel_rfl) (fun _ _ _ h => h) (Or.inl ⟨by rfl, ?_⟩) (by assumption) ?_
  rotate_left
  · (intro w hSw; (try dsimp only at hSw); go_simp; try with_reducible rfl)
  (try simp only [Act.put, List.getElem_toArray, List.getElem_cons_zero, List.getElem_cons_succ, List.setIfInBounds_toArray, List.set_cons_zero, List.set_cons_succ])
  refine wpAnyH_ready (rs := [2]) (by kernel_rfl) (by simp) ?_
  refine AllReadyH.cons rfl (fun K hK => ?_) AllReadyH.nil
  go_simp
  refine (TR.out _).mono ?_
  rintro r wn ⟨rfl, rfl⟩
  (try go_wp2_with fail)
  refine hK.out _ _ ?_ (fun hHeld => ?_)
  · (try dsimp only)
    exact ⟨S6.out.1, S6.out.2.1⟩
  clear hK K
  (try simp only [Act.put, List.getElem_toArray, List.getElem_cons_zero, List.getElem_cons_succ, List.setIfInBounds_toArray, List.set_cons_zero, List.set_cons_succ])
  refine wpAnyH_take (i := 5) (v := ?_) rfl (by kernel_rfl) (by kernel_rfl) (by kernel_rfl) (fun _ _ _ h => h) (Or.inl ⟨by rfl, ?_⟩) (by assumption) ?_
  rotate_left
  · (intro w hSw; (try dsimp only at hSw); go_simp; try with_reducible rfl)
  (try simp only [Act.put, List.getElem_toArray, List.getElem_cons_zero, List.getElem_cons_succ, List.setIfInBounds_toArray, List.set_cons_zero, List.set_cons_succ])
  refine wpAnyH_ready (rs := [6]) (by kernel_rfl) (by simp) ?_
  refine AllReadyH.cons rfl (fun K hK => ?_) AllReadyH.nil
  have q6 := S6.out.1
  have q6' := S6.out.2.1
  have q_ := R2.out.1
  have q2_ := R2.out.2.1
  have z_ := R2.out.2.2.1 0
  have z2_ := R2.out.2.2.1 1
  have FW := hide (R2.out.set_fr FW.out (.string SD) (.int .i64 SE))
  have R2 := hide (R2.out.set (.string SD) (.int .i64 SE))
  go_simp
  (try go_wp2_with fail)
  refine hK.out _ _ ?_ (fun hHeld => ?_)
  · (try dsimp only)
    exact ⟨(World.cell?_setCell_other _ _ _ _ (fun e => by injection e with e _ _; omega)).trans ((World.cell?_setCell_other _ _ _ _ (fun e => by injection e with e _ _; omega)).trans q6), (World.cell?_setCell_other _ _ _ _ (fun e => by injection e with e _ _; omega)).trans ((World.cell?_setCell_other _ _ _ _ (fun e => by injection e with e _ _; omega)).trans q6')⟩
  clear hK K
  (try simp only [Act.put, List.getElem_toArray, List.getElem_cons_zero, List.getElem_cons_succ, List.setIfInBounds_toArray, List.set_cons_zero, List.set_cons_succ])
  refine wpAnyH_take (i := 7) (v := ?_) rfl (by kernel_rfl) (by kernel_rfl) (by kernel_rfl) (fun _ _ _ h => h) (Or.inl ⟨by rfl, ?_⟩) (by assumption) ?_
  rotate_left
  · (intro w hSw; (try dsimp only at hSw); go_simp; try with_reducible rfl)
  (try simp only [Act.put, List.getElem_toArray, List.getElem_cons_zero, List.getElem_cons_succ, List.setIfInBounds_toArray, List.set_cons_zero, List.set_cons_succ])
  refine wpAnyH_done (by kernel_rfl) ?_ _
  go_wp2_with fail
  (try simp only [Exit.inBlock, Exit.then])
  exact bodyPost_ret (results_sci_ok rfl _ _ w.heap.size _ _ rfl R2.out.1 R2.out.2.1) rfl ⟨rfl, FW.out⟩

set_option maxHeartbeats 2000000 in
set_option maxRecDepth 4000 in
theorem digits_yes (b c : Nat) (w : World) (hb : b < 18446744073709551616) (hL : Led w) (hc : bC b = 1) (c1 : 1 ≤ c) (c2 : c ≤ 17) (hno : ∀ j, 1 ≤ j → j < c → told b j = false) (hyes : c < 17 → told b c = true) (SD : ByteArray) (SE : Int) (hSD : bs (sD b c) = SD) (hSE : sE b c = SE) :
    Calls Tryz.prog 9 #[.int .u64 (b : Int)] w fun e w' => e = .returned (.tuple #[.agg #[.string SD, .int .i64 SE], .bool true]) ∧ Fr w w' := by
  have HL := hide hL
  obtain ⟨n, hn⟩ : ∃ n, vNum b = n := ⟨_, rfl⟩
  obtain ⟨d, hd⟩ : ∃ d, vDen b = d := ⟨_, rfl⟩
  have FY : Hid (∀ wz, Tab wz → Calls Tryz.prog 25 #[.int .u64 (b : Int)] wz fun e w' => ∃ v, e = .returned (.tuple #[v, .bool true]) ∧ IsRat w' v n d ∧ Fr wz w') := by
    intro wz hT
    have := finite_yes b wz hb hT hc
    rwa [hn, hd] at this
  have TO : Hid (∀ (k : Nat) (wz : World) (v : Value), 1 ≤ k → k ≤ 400 → Led wz → IsRat wz v n d → Calls Tryz.prog 24 #[v, .int .i64 (k : Int)] wz fun e w' => e = .returned (.tuple #[.agg #[.string (bs (sD b k)), .int .i64 (sE b k)], .bool true]) ∧ Fr wz w') := by
    intro k wz v k1 k2 hL h
    obtain ⟨hE, e0, e1⟩ := vE_facts hb hc
    obtain ⟨h1, h2, h3, h4, h5, _⟩ := v_facts b
    rw [← hn, ← hd] at h
    exact toR_yes v (vNum b) (vDen b) wz h h4 h5 (by omega) (by omega) hL.1 hL.2 (vE b) hE (by omega) (by omega) k k1 k2 (sR b k) (s_rnd k1) _ _ rfl rfl
  have BK : Hid (∀ (k : Nat), 1 ≤ k → k ≤ 17 → ∃ N : Nat, told b k = decide (N = b % 9223372036854775808) ∧ ∀ wz, Calls Tryz.prog 17 #[.agg #[.string (bs (sD b k)), .int .i64 (sE b k)]] wz fun r w' => r = .returned (.tuple #[.int .u64 (N : Int), .bool true]) ∧ Fr wz w') := by
    intro k k1 k2
    refine ⟨backN (sD b k) (sE b k), told_dec b k, fun wz => ?_⟩
    obtain ⟨a1, a2, a3, a4, _⟩ := s_facts hb hc k1
    obtain ⟨_, e0, e1⟩ := vE_facts hb hc
    exact back_yes _ _ _ wz (by rw [bs_data]; exact ⟨by omega, by omega, a2, a3, by omega, by omega⟩) (by rw [bs_data])
  have END := hide (fun (k : Nat) (k1 : 1 ≤ k) (k2 : k < 17) hF ht => told_end c1 c2 hno hyes k1 k2 hF ht)
  have ALL := hide (fun hF => told_all c1 c2 hyes hF)
  have HSD := hide hSD
  have HSE := hide hSE
  have T17 : Hid (∀ (wz : World) (v : Value), Led wz → IsRat wz v n d → Calls Tryz.prog 24 #[v, .int .i64 17] wz fun e w' => e = .returned (.tuple #[.agg #[.string (bs (sD b 17)), .int .i64 (sE b 17)], .bool true]) ∧ Fr wz w') := fun wz v hL h => TO.out 17 wz v (by omega) (by omega) hL h
  have hnot : bits .andNot .u64 (b : Int) 9223372036854775808 = ((b % 9223372036854775808 : Nat) : Int) := not_sign b hb
  obtain ⟨B, hB⟩ : ∃ B, b % 9223372036854775808 = B := ⟨_, rfl⟩
  rw [hB] at BK hnot
  clear hn hd hSD hSE hL hc hno hyes c1 c2 hB
  go_enter Tryz.func9, Tryz.ntmps9
  go_wp2_with fail
  obtain ⟨W, hW⟩ : ∃ W, W = w.alloc (Obj.cells #[Value.string ⟨#[]⟩, Value.int .i64 0] 27) := ⟨_, rfl⟩
  have fW : Fr w W := by rw [hW]; exact Fr.alloc _ _
  have r2 : Two w W w.heap.size (Value.string ⟨#[]⟩) (Value.int .i64 0) := by rw [hW]; exact Two.new (Fr.refl _) _ _ _
  rw [← hW]
  clear hW
  have R2 := hide r2
  have FW := hide fW
  clear r2 fW
  refine (FY.out _ (HL.out.fr FW.out).1).mono ?_
  rintro e w1 ⟨v1, rfl, i1, f1⟩
  have R2 := hide (R2.out.fr f1)
  have FW := hide (FW.out.trans f1)
  have RV := hide i1
  obtain ⟨u1, u2, u3, u4, u5, u6, rfl⟩ := i1.form
  clear f1 i1 FY
  go_wp2_with fail
  obtain ⟨W1, hW1⟩ : ∃ W, W = (w1.alloc (Obj.cells #[Value.slice u1 u2 u3, Value.slice u4 u5 u6] 55)) := ⟨_, rfl⟩
  have fy : Fr w1 W1 := by rw [hW1]; exact (Fr.alloc w1 (Obj.cells #[Value.slice u1 u2 u3, Value.slice u4 u5 u6] 55))
  have s4 : Slot2 w1 W1 (w1.heap.size) (.slice u1 u2 u3) (.slice u4 u5 u6) := by
    rw [hW1]; simpa using Slot2.new (Fr.refl w1) u1 u2 u3 u4 u5 u6 55
  rw [← hW1]
  clear hW1
  have S4 := hide s4
  have RV := hide (RV.out.fr fy)
  have R2 := hide (R2.out.fr fy)
  have FW := hide (FW.out.trans fy)
  clear s4 fy
  go_loopw [6] (fun s6 wr => ∃ k : Nat, 1 ≤ k ∧ k ≤ 17 ∧ s6 = .int .i64 k ∧ Hid (∀ j, 1 ≤ j → j < k → told b j = false) ∧ Hid (Fr W1 wr)) (fun s6 _ => 17 - (intOf s6).toNat)
  case atStart => exact ⟨1, by omega, by omega, rfl, hide (fun j h1 h2 => by omega), hide (Fr.refl _)⟩
  case round =>
    obtain ⟨k, k1, k2, rfl, hF, FR⟩ := hrel
    obtain ⟨V, rfl⟩ : ∃ V, V = wr := ⟨_, rfl⟩
    have RV := hide (RV.out.fr FR.out)
    have R2 := hide (R2.out.fr FR.out)
    have S4 := hide (S4.out.fr FR.out)
    have FW := hide (FW.out.trans FR.out)
    by_cases hk : k < 17
    · have hk' : (k : Int) < 17 := by omega
      obtain ⟨N, hN, BKk⟩ := BK.out k k1 (by omega)
      have TOk := TO.out k V _ k1 (by omega) (HL.out.fr FW.out) RV.out
      obtain ⟨S0, hS0⟩ : ∃ S0, bs (sD b k) = S0 := ⟨_, rfl⟩
      obtain ⟨E0, hE0⟩ : ∃ E0, sE b k = E0 := ⟨_, rfl⟩
      rw [hS0, hE0] at TOk BKk
      have HS0 := hide hS0
      have HE0 := hide hE0
      have HN := hide hN
      have TOk := hide TOk
      have BKk := hide BKk
      clear hS0 hE0 hN
      have q4 := S4.out.1
      have q4' := S4.out.2.1
      go_wp2_with fail
      refine TOk.out.mono ?_
      rintro e w4 ⟨rfl, fy⟩
      clear TOk q4 q4'
      have FR := hide (FR.out.trans fy)
      have R2 := hide (R2.out.fr fy)
      have FW := hide (FW.out.trans fy)
      clear fy
      go_wp2_with fail
      obtain ⟨W4, hW4⟩ : ∃ W, W = w4.alloc (Obj.cells #[.string S0, .int .i64 E0] 27) := ⟨_, rfl⟩
      have fy : Fr w4 W4 := by rw [hW4]; exact Fr.alloc _ _
      have s6 : Two w4 W4 w4.heap.size (.string S0) (.int .i64 E0) := by rw [hW4]; exact Two.new (Fr.refl _) _ _ _
      rw [← hW4]
      clear hW4
      have S6 := hide s6
      have FR := hide (FR.out.trans fy)
      have R2 := hide (R2.out.fr fy)
      have FW := hide (FW.out.trans fy)
      clear fy s6
      refine (BKk.out _).mono ?_
      rintro e w5 ⟨rfl, fy⟩
      have S6 := hide (S6.out.fr fy)
      have FR := hide (FR.out.trans fy)
      have R2 := hide (R2.out.fr fy)
      have FW := hide (FW.out.trans fy)
      clear fy BKk
      by_cases ht : N = B
      · have hkc := END.out k k1 hk hF.out (by rw [HN.out]; exact decide_eq_true ht)
        subst hkc
        have e1 : S0 = SD := by rw [← HS0.out, HSD.out]
        have e2 : E0 = SE := by rw [← HE0.out, HSE.out]
        subst e1
        subst e2
        subst ht
        have q6 := S6.out.1
        have q6' := S6.out.2.1
        have q2 := R2.out.1
        have q2' := R2.out.2.1
        have z2 := R2.out.2.2.1 0
        have z2' := R2.out.2.2.1 1
        go_wp2_with fail
        (try simp only [Exit.inBlock, Exit.then])
        have FW := hide (R2.out.set_fr FW.out (.string S0) (.int .i64 E0))
        have R2 := hide (R2.out.set (.string S0) (.int .i64 E0))
        exact bodyPost_ret (results_sci_ok rfl _ _ w.heap.size _ _ rfl R2.out.1 R2.out.2.1) rfl ⟨rfl, FW.out⟩
      · have hNB : ((N : Int) == (B : Int)) = false := by simp only [beq_eq_false_iff_ne, ne_eq]; omega
        have hNB2 : ¬ (N : Int) = (B : Int) := by omega
        go_wp2_with fail
        go_roundw
        case rel =>
          refine ⟨k + 1, by omega, by omega, by go_num, hide (fun j h1 h2 => ?_), FR⟩
          rcases Nat.lt_or_ge j k with h | h
          · exact hF.out j h1 h
          · rw [show j = k by omega, HN.out]; exact decide_eq_false ht
        case measure => simp [intOf]; omega
    · obtain rfl : k = 17 := by omega
      have hkc := ALL.out hF.out
      subst hkc
      have T17k := T17.out V _ (HL.out.fr FW.out) RV.out
      rw [HSD.out, HSE.out] at T17k
      have T17k := hide T17k
      have q4 := S4.out.1
      have q4' := S4.out.2.1
      go_wp2_with fail
      refine T17k.out.mono ?_
      rintro e w4 ⟨rfl, fy⟩
      clear q4 q4'
      have R2 := hide (R2.out.fr fy)
      have FW := hide (FW.out.trans fy)
      clear fy
      have q2 := R2.out.1
      have q2' := R2.out.2.1
      have z2 := R2.out.2.2.1 0
      have z2' := R2.out.2.2.1 1
      go_wp2_with fail
      (try simp only [Exit.inBlock, Exit.then])
      have FW := hide (R2.out.set_fr FW.out (.string SD) (.int .i64 SE))
      have R2 := hide (R2.out.set (.string SD) (.int .i64 SE))
      exact bodyPost_ret (results_sci_ok rfl _ _ w.heap.size _ _ rfl R2.out.1 R2.out.2.1) rfl ⟨rfl, FW.out⟩
end Go.Proofs.YtammjgieocgelaaGreatDoor
