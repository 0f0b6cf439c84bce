/- next: the token at the beginning of a text. -/
import Derived.Test.YtaokmegoheofjaaDoorTokF
namespace Go.Proofs.YtaokmegoheofjaaDoor
set_option linter.unusedVariables false
set_option linter.unusedSimpArgs false
open Go.RowKit

theorem first_small (s : ByteArray) (h0 : 0 < s.size) (hc : bt s 0 < 128) : rfirst (ints s) = (bt s 0, 1, true) := by
  have r := bt_range s 0 h0
  have hz : rsize (bt s 0) = 1 := by have := rsize_cases (bt s 0); omega
  rw [tail_bt s h0]
  have hn : nums (bt s 0) = [bt s 0] := by rw [nums, if_pos hc]
  have := rfirst_nums (bt s 0) (by omega) ((ints s).drop 1)
  rw [hn, hz] at this
  exact this

theorem nx_form (A : Nx) : ∃ (a1 : Int) (a2 : ByteArray) (a3 a4 a5 : Int), nxV A = .tuple #[.agg #[.int .i64 a1, .string a2, .int .i64 a3, .int .i64 0], .int .i64 a4, .int .i64 a5] := by
  cases A with
  | ok k t c n => exact ⟨_, _, _, _, _, rfl⟩
  | no o e => exact ⟨_, _, _, _, _, rfl⟩

theorem tok_new (w : World) : Fr w (w.alloc (Obj.cells #[Value.int IntKind.i64 0, Value.string ⟨#[]⟩, Value.int IntKind.i64 0, Value.int IntKind.i64 0] 39)) := Fr.alloc _ _

set_option maxHeartbeats 2000000 in
set_option maxRecDepth 4000 in
theorem next_1 (s : ByteArray) (b : Nat) (w : World) (hL : Lead w) (hE : MaxOk w) (hK : IsKinds w b) (hs : s.size ≤ 4096) (h0 : 0 < s.size) (hc : bt s 0 < 128) (hk : kindB (bt s 0) = 1) :
    Calls Tryd.prog 17 #[.string s, .map (some b)] w fun e w' => e = .returned (nxV (nextN (ints s))) ∧ Fr w w' := by
  have hmx : s.size ≤ maxLen := by unfold maxLen; omega
  have q0 := bt_at s 0 h0
  have r0 := bt_range s 0 h0
  have HF := hide (first_small s h0 hc)
  have HT : Hid (∀ w1, Fr w w1 → (Instr.lookup 46 (.map (some b)) (.int .u8 (lowB (bt s 0))) false).run Tryd.prog w1 = .ok (.int .i64 1) w1) := hide (fun w1 f1 => by have := kinds_told (hK.fr f1) r0.1 hc; rwa [hk] at this)
  have HN : Hid (nextN (ints s) = quoteN 1 34 5 ((ints s).drop 1)) := by
    refine hide ?_
    rw [tail_bt s h0]
    simp only [nextN, hk]
    rfl
  have HC : Hid (∀ w1, Fr w w1 → Calls Tryd.prog 30 #[.string s, .int .i64 1, .string ⟨#[34]⟩, .int .i64 5] w1 fun e w' => e = .returned (nxV (nextN (ints s))) ∧ Fr w1 w') := by
    refine hide ?_
    intro w1 f1
    rw [HN.out]
    exact between_any s 34 1 5 w1 (hL.fr f1) (hE.fr f1) hs h0
  obtain ⟨a1, a2, a3, a4, a5, ha⟩ := nx_form (nextN (ints s))
  have HA := hide ha
  clear HN ha
  rw [HA.out]
  rw [HA.out] at HC
  generalize bt s 0 = c at *
  go_enter Tryd.func17, Tryd.ntmps17
  go_wp2_with fail
  refine (first_any s _ (hL.fr (tok_new _)) hmx).mono ?_
  rintro r w1 ⟨rfl, f1⟩
  rw [HF.out]
  have hk1 := HT.out w1 ((tok_new _).trans f1)
  go_wp2_with (go_at_call 29; refine (small_any _ _ r0.1 r0.2).mono ?_; rintro e w' ⟨rfl, rfl⟩)
  refine (HC.out _ ((tok_new _).trans f1)).mono ?_
  rintro r w2 ⟨rfl, f2⟩
  have c4 := four_cells (f1.trans f2)
  have f4 := var_free (f1.trans f2)
  go_wp2_with fail
  exact bodyPost_ret (results_put rfl _ (f1.trans f2) _ _ _ _ rfl) rfl ⟨rfl, fr_put4 (f1.trans f2) _ _ _ _⟩

set_option maxHeartbeats 2000000 in
set_option maxRecDepth 4000 in
theorem next_5 (s : ByteArray) (b : Nat) (w : World) (hL : Lead w) (hE : MaxOk w) (hK : IsKinds w b) (hs : s.size ≤ 4096) (h0 : 0 < s.size) (hc : bt s 0 < 128) (hk : kindB (bt s 0) = 5) :
    Calls Tryd.prog 17 #[.string s, .map (some b)] w fun e w' => e = .returned (nxV (nextN (ints s))) ∧ Fr w w' := by
  have hmx : s.size ≤ maxLen := by unfold maxLen; omega
  have q0 := bt_at s 0 h0
  have r0 := bt_range s 0 h0
  have HF := hide (first_small s h0 hc)
  have HT : Hid (∀ w1, Fr w w1 → (Instr.lookup 46 (.map (some b)) (.int .u8 (lowB (bt s 0))) false).run Tryd.prog w1 = .ok (.int .i64 5) w1) := hide (fun w1 f1 => by have := kinds_told (hK.fr f1) r0.1 hc; rwa [hk] at this)
  have HN : Hid (nextN (ints s) = quoteN 5 93 7 ((ints s).drop 1)) := by
    refine hide ?_
    rw [tail_bt s h0]
    simp only [nextN, hk]
    rfl
  have HC : Hid (∀ w1, Fr w w1 → Calls Tryd.prog 30 #[.string s, .int .i64 5, .string ⟨#[93]⟩, .int .i64 7] w1 fun e w' => e = .returned (nxV (nextN (ints s))) ∧ Fr w1 w') := by
    refine hide ?_
    intro w1 f1
    rw [HN.out]
    exact between_any s 93 5 7 w1 (hL.fr f1) (hE.fr f1) hs h0
  obtain ⟨a1, a2, a3, a4, a5, ha⟩ := nx_form (nextN (ints s))
  have HA := hide ha
  clear HN ha
  rw [HA.out]
  rw [HA.out] at HC
  generalize bt s 0 = c at *
  go_enter Tryd.func17, Tryd.ntmps17
  go_wp2_with fail
  refine (first_any s _ (hL.fr (tok_new _)) hmx).mono ?_
  rintro r w1 ⟨rfl, f1⟩
  rw [HF.out]
  have hk1 := HT.out w1 ((tok_new _).trans f1)
  go_wp2_with (go_at_call 29; refine (small_any _ _ r0.1 r0.2).mono ?_; rintro e w' ⟨rfl, rfl⟩)
  refine (HC.out _ ((tok_new _).trans f1)).mono ?_
  rintro r w2 ⟨rfl, f2⟩
  have c4 := four_cells (f1.trans f2)
  have f4 := var_free (f1.trans f2)
  go_wp2_with fail
  exact bodyPost_ret (results_put rfl _ (f1.trans f2) _ _ _ _ rfl) rfl ⟨rfl, fr_put4 (f1.trans f2) _ _ _ _⟩

set_option maxHeartbeats 2000000 in
set_option maxRecDepth 4000 in
theorem next_2 (s : ByteArray) (b : Nat) (w : World) (hL : Lead w) (hE : MaxOk w) (hK : IsKinds w b) (hs : s.size ≤ 4096) (h0 : 0 < s.size) (hc : bt s 0 < 128) (hk : kindB (bt s 0) = 2) :
    Calls Tryd.prog 17 #[.string s, .map (some b)] w fun e w' => e = .returned (nxV (nextN (ints s))) ∧ Fr w w' := by
  have hmx : s.size ≤ maxLen := by unfold maxLen; omega
  have q0 := bt_at s 0 h0
  have r0 := bt_range s 0 h0
  have HF := hide (first_small s h0 hc)
  have HT : Hid (∀ w1, Fr w w1 → (Instr.lookup 46 (.map (some b)) (.int .u8 (lowB (bt s 0))) false).run Tryd.prog w1 = .ok (.int .i64 2) w1) := hide (fun w1 f1 => by have := kinds_told (hK.fr f1) r0.1 hc; rwa [hk] at this)
  have HN : Hid (nextN (ints s) = markN 2 6 ((ints s).drop 1)) := by
    refine hide ?_
    rw [tail_bt s h0]
    simp only [nextN, hk]
    rfl
  have HC : Hid (∀ w1, Fr w w1 → Calls Tryd.prog 31 #[.string s, .int .i64 2, .int .i64 6] w1 fun e w' => e = .returned (nxV (nextN (ints s))) ∧ Fr w1 w') := by
    refine hide ?_
    intro w1 f1
    rw [HN.out]
    exact behind_any s 2 6 w1 (hL.fr f1) hmx h0
  obtain ⟨a1, a2, a3, a4, a5, ha⟩ := nx_form (nextN (ints s))
  have HA := hide ha
  clear HN ha
  rw [HA.out]
  rw [HA.out] at HC
  generalize bt s 0 = c at *
  go_enter Tryd.func17, Tryd.ntmps17
  go_wp2_with fail
  refine (first_any s _ (hL.fr (tok_new _)) hmx).mono ?_
  rintro r w1 ⟨rfl, f1⟩
  rw [HF.out]
  have hk1 := HT.out w1 ((tok_new _).trans f1)
  go_wp2_with (go_at_call 29; refine (small_any _ _ r0.1 r0.2).mono ?_; rintro e w' ⟨rfl, rfl⟩)
  refine (HC.out _ ((tok_new _).trans f1)).mono ?_
  rintro r w2 ⟨rfl, f2⟩
  have c4 := four_cells (f1.trans f2)
  have f4 := var_free (f1.trans f2)
  go_wp2_with fail
  exact bodyPost_ret (results_put rfl _ (f1.trans f2) _ _ _ _ rfl) rfl ⟨rfl, fr_put4 (f1.trans f2) _ _ _ _⟩

set_option maxHeartbeats 2000000 in
set_option maxRecDepth 4000 in
theorem next_3 (s : ByteArray) (b : Nat) (w : World) (hL : Lead w) (hE : MaxOk w) (hK : IsKinds w b) (hs : s.size ≤ 4096) (h0 : 0 < s.size) (hc : bt s 0 < 128) (hk : kindB (bt s 0) = 3) :
    Calls Tryd.prog 17 #[.string s, .map (some b)] w fun e w' => e = .returned (nxV (nextN (ints s))) ∧ Fr w w' := by
  have hmx : s.size ≤ maxLen := by unfold maxLen; omega
  have q0 := bt_at s 0 h0
  have r0 := bt_range s 0 h0
  have HF := hide (first_small s h0 hc)
  have HT : Hid (∀ w1, Fr w w1 → (Instr.lookup 46 (.map (some b)) (.int .u8 (lowB (bt s 0))) false).run Tryd.prog w1 = .ok (.int .i64 3) w1) := hide (fun w1 f1 => by have := kinds_told (hK.fr f1) r0.1 hc; rwa [hk] at this)
  have HN : Hid (nextN (ints s) = markN 3 8 ((ints s).drop 1)) := by
    refine hide ?_
    rw [tail_bt s h0]
    simp only [nextN, hk]
    rfl
  have HC : Hid (∀ w1, Fr w w1 → Calls Tryd.prog 31 #[.string s, .int .i64 3, .int .i64 8] w1 fun e w' => e = .returned (nxV (nextN (ints s))) ∧ Fr w1 w') := by
    refine hide ?_
    intro w1 f1
    rw [HN.out]
    exact behind_any s 3 8 w1 (hL.fr f1) hmx h0
  obtain ⟨a1, a2, a3, a4, a5, ha⟩ := nx_form (nextN (ints s))
  have HA := hide ha
  clear HN ha
  rw [HA.out]
  rw [HA.out] at HC
  generalize bt s 0 = c at *
  go_enter Tryd.func17, Tryd.ntmps17
  go_wp2_with fail
  refine (first_any s _ (hL.fr (tok_new _)) hmx).mono ?_
  rintro r w1 ⟨rfl, f1⟩
  rw [HF.out]
  have hk1 := HT.out w1 ((tok_new _).trans f1)
  go_wp2_with (go_at_call 29; refine (small_any _ _ r0.1 r0.2).mono ?_; rintro e w' ⟨rfl, rfl⟩)
  refine (HC.out _ ((tok_new _).trans f1)).mono ?_
  rintro r w2 ⟨rfl, f2⟩
  have c4 := four_cells (f1.trans f2)
  have f4 := var_free (f1.trans f2)
  go_wp2_with fail
  exact bodyPost_ret (results_put rfl _ (f1.trans f2) _ _ _ _ rfl) rfl ⟨rfl, fr_put4 (f1.trans f2) _ _ _ _⟩

set_option maxHeartbeats 2000000 in
set_option maxRecDepth 4000 in
theorem next_4 (s : ByteArray) (b : Nat) (w : World) (hL : Lead w) (hE : MaxOk w) (hK : IsKinds w b) (hs : s.size ≤ 4096) (h0 : 0 < s.size) (hc : bt s 0 < 128) (hk : kindB (bt s 0) = 4) :
    Calls Tryd.prog 17 #[.string s, .map (some b)] w fun e w' => e = .returned (nxV (nextN (ints s))) ∧ Fr w w' := by
  have hmx : s.size ≤ maxLen := by unfold maxLen; omega
  have q0 := bt_at s 0 h0
  have r0 := bt_range s 0 h0
  have HF := hide (first_small s h0 hc)
  have HT : Hid (∀ w1, Fr w w1 → (Instr.lookup 46 (.map (some b)) (.int .u8 (lowB (bt s 0))) false).run Tryd.prog w1 = .ok (.int .i64 4) w1) := hide (fun w1 f1 => by have := kinds_told (hK.fr f1) r0.1 hc; rwa [hk] at this)
  have HN : Hid (nextN (ints s) = markN 4 8 ((ints s).drop 1)) := by
    refine hide ?_
    rw [tail_bt s h0]
    simp only [nextN, hk]
    rfl
  have HC : Hid (∀ w1, Fr w w1 → Calls Tryd.prog 31 #[.string s, .int .i64 4, .int .i64 8] w1 fun e w' => e = .returned (nxV (nextN (ints s))) ∧ Fr w1 w') := by
    refine hide ?_
    intro w1 f1
    rw [HN.out]
    exact behind_any s 4 8 w1 (hL.fr f1) hmx h0
  obtain ⟨a1, a2, a3, a4, a5, ha⟩ := nx_form (nextN (ints s))
  have HA := hide ha
  clear HN ha
  rw [HA.out]
  rw [HA.out] at HC
  generalize bt s 0 = c at *
  go_enter Tryd.func17, Tryd.ntmps17
  go_wp2_with fail
  refine (first_any s _ (hL.fr (tok_new _)) hmx).mono ?_
  rintro r w1 ⟨rfl, f1⟩
  rw [HF.out]
  have hk1 := HT.out w1 ((tok_new _).trans f1)
  go_wp2_with (go_at_call 29; refine (small_any _ _ r0.1 r0.2).mono ?_; rintro e w' ⟨rfl, rfl⟩)
  refine (HC.out _ ((tok_new _).trans f1)).mono ?_
  rintro r w2 ⟨rfl, f2⟩
  have c4 := four_cells (f1.trans f2)
  have f4 := var_free (f1.trans f2)
  go_wp2_with fail
  exact bodyPost_ret (results_put rfl _ (f1.trans f2) _ _ _ _ rfl) rfl ⟨rfl, fr_put4 (f1.trans f2) _ _ _ _⟩

set_option maxHeartbeats 2000000 in
set_option maxRecDepth 4000 in
theorem next_13 (s : ByteArray) (b : Nat) (w : World) (hL : Lead w) (hE : MaxOk w) (hK : IsKinds w b) (hs : s.size ≤ 4096) (h0 : 0 < s.size) (hc : bt s 0 < 128) (hk : kindB (bt s 0) = 13) :
    Calls Tryd.prog 17 #[.string s, .map (some b)] w fun e w' => e = .returned (nxV (nextN (ints s))) ∧ Fr w w' := by
  have hmx : s.size ≤ maxLen := by unfold maxLen; omega
  have q0 := bt_at s 0 h0
  have r0 := bt_range s 0 h0
  have HF := hide (first_small s h0 hc)
  have HT : Hid (∀ w1, Fr w w1 → (Instr.lookup 46 (.map (some b)) (.int .u8 (lowB (bt s 0))) false).run Tryd.prog w1 = .ok (.int .i64 13) w1) := hide (fun w1 f1 => by have := kinds_told (hK.fr f1) r0.1 hc; rwa [hk] at this)
  have HN : Hid (nextN (ints s) = powerN ((ints s).drop 1)) := by
    refine hide ?_
    rw [tail_bt s h0]
    simp only [nextN, hk]
    rfl
  have HC : Hid (∀ w1, Fr w w1 → Calls Tryd.prog 32 #[.string s] w1 fun e w' => e = .returned (nxV (nextN (ints s))) ∧ Fr w1 w') := by
    refine hide ?_
    intro w1 f1
    rw [HN.out]
    exact power_any s w1 hmx h0
  obtain ⟨a1, a2, a3, a4, a5, ha⟩ := nx_form (nextN (ints s))
  have HA := hide ha
  clear HN ha
  rw [HA.out]
  rw [HA.out] at HC
  generalize bt s 0 = c at *
  go_enter Tryd.func17, Tryd.ntmps17
  go_wp2_with fail
  refine (first_any s _ (hL.fr (tok_new _)) hmx).mono ?_
  rintro r w1 ⟨rfl, f1⟩
  rw [HF.out]
  have hk1 := HT.out w1 ((tok_new _).trans f1)
  go_wp2_with (go_at_call 29; refine (small_any _ _ r0.1 r0.2).mono ?_; rintro e w' ⟨rfl, rfl⟩)
  refine (HC.out _ ((tok_new _).trans f1)).mono ?_
  rintro r w2 ⟨rfl, f2⟩
  have c4 := four_cells (f1.trans f2)
  have f4 := var_free (f1.trans f2)
  go_wp2_with fail
  exact bodyPost_ret (results_put rfl _ (f1.trans f2) _ _ _ _ rfl) rfl ⟨rfl, fr_put4 (f1.trans f2) _ _ _ _⟩

set_option maxHeartbeats 2000000 in
set_option maxRecDepth 4000 in
theorem next_14 (s : ByteArray) (b : Nat) (w : World) (hL : Lead w) (hE : MaxOk w) (hK : IsKinds w b) (hs : s.size ≤ 4096) (h0 : 0 < s.size) (hc : bt s 0 < 128) (hk : kindB (bt s 0) = 14) :
    Calls Tryd.prog 17 #[.string s, .map (some b)] w fun e w' => e = .returned (nxV (nextN (ints s))) ∧ Fr w w' := by
  have hmx : s.size ≤ maxLen := by unfold maxLen; omega
  have q0 := bt_at s 0 h0
  have r0 := bt_range s 0 h0
  have HF := hide (first_small s h0 hc)
  have HT : Hid (∀ w1, Fr w w1 → (Instr.lookup 46 (.map (some b)) (.int .u8 (lowB (bt s 0))) false).run Tryd.prog w1 = .ok (.int .i64 14) w1) := hide (fun w1 f1 => by have := kinds_told (hK.fr f1) r0.1 hc; rwa [hk] at this)
  have HN : Hid (nextN (ints s) = Nx.ok 14 [lowB (bt s 0)] (same (lowB (bt s 0)) (ints s)).length (same (lowB (bt s 0)) (ints s)).length) := by
    refine hide ?_
    rw [tail_bt s h0]
    simp only [nextN, hk]
    rw [← tail_bt s h0]
    rfl
  have HC : Hid (∀ w1, Fr w w1 → Calls Tryd.prog 34 #[.string s] w1 fun e w' => e = .returned (nxV (nextN (ints s))) ∧ Fr w1 w') := by
    refine hide ?_
    intro w1 f1
    rw [HN.out]
    exact date_any s w1 hmx h0 ((kind_facts r0.1 r0.2).2.2.2.2.2.1 hk)
  obtain ⟨a1, a2, a3, a4, a5, ha⟩ := nx_form (nextN (ints s))
  have HA := hide ha
  clear HN ha
  rw [HA.out]
  rw [HA.out] at HC
  generalize bt s 0 = c at *
  go_enter Tryd.func17, Tryd.ntmps17
  go_wp2_with fail
  refine (first_any s _ (hL.fr (tok_new _)) hmx).mono ?_
  rintro r w1 ⟨rfl, f1⟩
  rw [HF.out]
  have hk1 := HT.out w1 ((tok_new _).trans f1)
  go_wp2_with (go_at_call 29; refine (small_any _ _ r0.1 r0.2).mono ?_; rintro e w' ⟨rfl, rfl⟩)
  refine (HC.out _ ((tok_new _).trans f1)).mono ?_
  rintro r w2 ⟨rfl, f2⟩
  have c4 := four_cells (f1.trans f2)
  have f4 := var_free (f1.trans f2)
  go_wp2_with fail
  exact bodyPost_ret (results_put rfl _ (f1.trans f2) _ _ _ _ rfl) rfl ⟨rfl, fr_put4 (f1.trans f2) _ _ _ _⟩

set_option maxHeartbeats 2000000 in
set_option maxRecDepth 4000 in
theorem next_15 (s : ByteArray) (b : Nat) (w : World) (hL : Lead w) (hE : MaxOk w) (hK : IsKinds w b) (hs : s.size ≤ 4096) (h0 : 0 < s.size) (hc : bt s 0 < 128) (hk : kindB (bt s 0) = 15) :
    Calls Tryd.prog 17 #[.string s, .map (some b)] w fun e w' => e = .returned (nxV (nextN (ints s))) ∧ Fr w w' := by
  have hmx : s.size ≤ maxLen := by unfold maxLen; omega
  have q0 := bt_at s 0 h0
  have r0 := bt_range s 0 h0
  have HF := hide (first_small s h0 hc)
  have HT : Hid (∀ w1, Fr w w1 → (Instr.lookup 46 (.map (some b)) (.int .u8 (lowB (bt s 0))) false).run Tryd.prog w1 = .ok (.int .i64 15) w1) := hide (fun w1 f1 => by have := kinds_told (hK.fr f1) r0.1 hc; rwa [hk] at this)
  have HN : Hid (nextN (ints s) = wordN 15 [⟨#[65, 77, 47, 80, 77]⟩, ⟨#[65, 47, 80]⟩] (ints s)) := by
    refine hide ?_
    rw [tail_bt s h0]
    simp only [nextN, hk]
    rw [← tail_bt s h0]
    rfl
  have HC : Hid (∀ w1, Fr w w1 → ∀ B, w1.cell? ⟨B, 0, none⟩ = some (.string ⟨#[65, 77, 47, 80, 77]⟩) → w1.cell? ⟨B, 1, none⟩ = some (.string ⟨#[65, 47, 80]⟩) → Calls Tryd.prog 33 #[.string s, .int .i64 15, .slice (some ⟨B, 0, none⟩) 2 2] w1 fun e w' => e = .returned (nxV (nextN (ints s))) ∧ Fr w1 w') := by
    refine hide ?_
    intro w1 f1 B h1 h2
    rw [HN.out]
    exact word2_any s _ _ 15 B w1 hs (by decide) (by decide) h1 h2
  obtain ⟨a1, a2, a3, a4, a5, ha⟩ := nx_form (nextN (ints s))
  have HA := hide ha
  clear HN ha
  rw [HA.out]
  rw [HA.out] at HC
  generalize bt s 0 = c at *
  go_enter Tryd.func17, Tryd.ntmps17
  go_wp2_with fail
  refine (first_any s _ (hL.fr (tok_new _)) hmx).mono ?_
  rintro r w1 ⟨rfl, f1⟩
  rw [HF.out]
  have hk1 := HT.out w1 ((tok_new _).trans f1)
  go_wp2_with (go_at_call 29; refine (small_any _ _ r0.1 r0.2).mono ?_; rintro e w' ⟨rfl, rfl⟩)
  refine (HC.out _ ((tok_new _).trans (f1.trans (Fr.alloc _ _))) _ (by simp [go_sem]) (by simp [go_sem])).mono ?_
  rintro r w2 ⟨rfl, f2'⟩
  have f2 := (Fr.alloc _ _).trans f2'
  have c4 := four_cells (f1.trans f2)
  have f4 := var_free (f1.trans f2)
  go_wp2_with fail
  exact bodyPost_ret (results_put rfl _ (f1.trans f2) _ _ _ _ rfl) rfl ⟨rfl, fr_put4 (f1.trans f2) _ _ _ _⟩

set_option maxHeartbeats 2000000 in
set_option maxRecDepth 4000 in
theorem next_16 (s : ByteArray) (b : Nat) (w : World) (hL : Lead w) (hE : MaxOk w) (hK : IsKinds w b) (hs : s.size ≤ 4096) (h0 : 0 < s.size) (hc : bt s 0 < 128) (hk : kindB (bt s 0) = 16) :
    Calls Tryd.prog 17 #[.string s, .map (some b)] w fun e w' => e = .returned (nxV (nextN (ints s))) ∧ Fr w w' := by
  have hmx : s.size ≤ maxLen := by unfold maxLen; omega
  have q0 := bt_at s 0 h0
  have r0 := bt_range s 0 h0
  have HF := hide (first_small s h0 hc)
  have HT : Hid (∀ w1, Fr w w1 → (Instr.lookup 46 (.map (some b)) (.int .u8 (lowB (bt s 0))) false).run Tryd.prog w1 = .ok (.int .i64 16) w1) := hide (fun w1 f1 => by have := kinds_told (hK.fr f1) r0.1 hc; rwa [hk] at this)
  have HN : Hid (nextN (ints s) = wordN 16 [⟨#[71, 101, 110, 101, 114, 97, 108]⟩] (ints s)) := by
    refine hide ?_
    rw [tail_bt s h0]
    simp only [nextN, hk]
    rw [← tail_bt s h0]
    rfl
  have HC : Hid (∀ w1, Fr w w1 → ∀ B, w1.cell? ⟨B, 0, none⟩ = some (.string ⟨#[71, 101, 110, 101, 114, 97, 108]⟩) → Calls Tryd.prog 33 #[.string s, .int .i64 16, .slice (some ⟨B, 0, none⟩) 1 1] w1 fun e w' => e = .returned (nxV (nextN (ints s))) ∧ Fr w1 w') := by
    refine hide ?_
    intro w1 f1 B h1
    rw [HN.out]
    exact word1_any s _ 16 B w1 hs (by decide) h1
  obtain ⟨a1, a2, a3, a4, a5, ha⟩ := nx_form (nextN (ints s))
  have HA := hide ha
  clear HN ha
  rw [HA.out]
  rw [HA.out] at HC
  generalize bt s 0 = c at *
  go_enter Tryd.func17, Tryd.ntmps17
  go_wp2_with fail
  refine (first_any s _ (hL.fr (tok_new _)) hmx).mono ?_
  rintro r w1 ⟨rfl, f1⟩
  rw [HF.out]
  have hk1 := HT.out w1 ((tok_new _).trans f1)
  go_wp2_with (go_at_call 29; refine (small_any _ _ r0.1 r0.2).mono ?_; rintro e w' ⟨rfl, rfl⟩)
  refine (HC.out _ ((tok_new _).trans (f1.trans (Fr.alloc _ _))) _ (by simp [go_sem])).mono ?_
  rintro r w2 ⟨rfl, f2'⟩
  have f2 := (Fr.alloc _ _).trans f2'
  have c4 := four_cells (f1.trans f2)
  have f4 := var_free (f1.trans f2)
  go_wp2_with fail
  exact bodyPost_ret (results_put rfl _ (f1.trans f2) _ _ _ _ rfl) rfl ⟨rfl, fr_put4 (f1.trans f2) _ _ _ _⟩

set_option maxHeartbeats 2000000 in
set_option maxRecDepth 4000 in
theorem next_0 (s : ByteArray) (b : Nat) (w : World) (hL : Lead w) (hE : MaxOk w) (hK : IsKinds w b) (hs : s.size ≤ 4096) (h0 : 0 < s.size) (hc : bt s 0 < 128) (hk : kindB (bt s 0) = 0) :
    Calls Tryd.prog 17 #[.string s, .map (some b)] w fun e w' => e = .returned (nxV (nextN (ints s))) ∧ Fr w w' := by
  have hmx : s.size ≤ maxLen := by unfold maxLen; omega
  have q0 := bt_at s 0 h0
  have r0 := bt_range s 0 h0
  have HF := hide (first_small s h0 hc)
  have HT : Hid (∀ w1, Fr w w1 → (Instr.lookup 46 (.map (some b)) (.int .u8 (lowB (bt s 0))) false).run Tryd.prog w1 = .ok (.int .i64 0) w1) := hide (fun w1 f1 => by have := kinds_told (hK.fr f1) r0.1 hc; rwa [hk] at this)
  have HN : Hid (nextN (ints s) = .no 0 9) := by
    refine hide ?_
    rw [tail_bt s h0]
    simp only [nextN, hk]
    rfl
  generalize bt s 0 = c at *
  go_enter Tryd.func17, Tryd.ntmps17
  go_wp2_with fail
  refine (first_any s _ (hL.fr (tok_new _)) hmx).mono ?_
  rintro r w1 ⟨rfl, f1⟩
  rw [HF.out]
  have hk1 := HT.out w1 ((tok_new _).trans f1)
  have c4 := four_cells f1
  have f4 := var_free f1
  go_wp2_with (go_at_call 29; refine (small_any _ _ r0.1 r0.2).mono ?_; rintro e w' ⟨rfl, rfl⟩)
  exact bodyPost_ret (results_put rfl _ f1 _ _ _ _ rfl) rfl ⟨by rw [HN.out]; simp only [nxV, tkV, str_nil]; rfl, fr_put4 f1 _ _ _ _⟩

set_option maxHeartbeats 2000000 in
set_option maxRecDepth 4000 in
theorem next_6 (s : ByteArray) (b : Nat) (w : World) (hL : Lead w) (hE : MaxOk w) (hK : IsKinds w b) (hs : s.size ≤ 4096) (h0 : 0 < s.size) (hc : bt s 0 < 128) (hk : kindB (bt s 0) = 6) :
    Calls Tryd.prog 17 #[.string s, .map (some b)] w fun e w' => e = .returned (nxV (nextN (ints s))) ∧ Fr w w' := by
  have hmx : s.size ≤ maxLen := by unfold maxLen; omega
  have q0 := bt_at s 0 h0
  have r0 := bt_range s 0 h0
  have HF := hide (first_small s h0 hc)
  have HT : Hid (∀ w1, Fr w w1 → (Instr.lookup 46 (.map (some b)) (.int .u8 (lowB (bt s 0))) false).run Tryd.prog w1 = .ok (.int .i64 6) w1) := hide (fun w1 f1 => by have := kinds_told (hK.fr f1) r0.1 hc; rwa [hk] at this)
  have HN : Hid (nextN (ints s) = .ok 6 [bt s 0] 1 1) := by
    refine hide ?_
    rw [tail_bt s h0]
    have h128 : ¬ (128 ≤ bt s 0) := by omega
    simp only [nextN, hk, h128, if_false]
    rfl
  have HX := hide (str_one s 0 h0)
  generalize bt s 0 = c at *
  go_enter Tryd.func17, Tryd.ntmps17
  go_wp2_with fail
  refine (first_any s _ (hL.fr (tok_new _)) hmx).mono ?_
  rintro r w1 ⟨rfl, f1⟩
  rw [HF.out]
  have hk1 := HT.out w1 ((tok_new _).trans f1)
  have c4 := four_cells f1
  have f4 := var_free f1
  go_wp2_with (go_at_call 29; refine (small_any _ _ r0.1 r0.2).mono ?_; rintro e w' ⟨rfl, rfl⟩)
  exact bodyPost_ret (results_put rfl _ f1 _ _ _ _ rfl) rfl ⟨by rw [HN.out]; simp only [nxV, tkV]; rw [← HX.out]; rfl, fr_put4 f1 _ _ _ _⟩

set_option maxHeartbeats 2000000 in
set_option maxRecDepth 4000 in
theorem next_7 (s : ByteArray) (b : Nat) (w : World) (hL : Lead w) (hE : MaxOk w) (hK : IsKinds w b) (hs : s.size ≤ 4096) (h0 : 0 < s.size) (hc : bt s 0 < 128) (hk : kindB (bt s 0) = 7) :
    Calls Tryd.prog 17 #[.string s, .map (some b)] w fun e w' => e = .returned (nxV (nextN (ints s))) ∧ Fr w w' := by
  have hmx : s.size ≤ maxLen := by unfold maxLen; omega
  have q0 := bt_at s 0 h0
  have r0 := bt_range s 0 h0
  have HF := hide (first_small s h0 hc)
  have HT : Hid (∀ w1, Fr w w1 → (Instr.lookup 46 (.map (some b)) (.int .u8 (lowB (bt s 0))) false).run Tryd.prog w1 = .ok (.int .i64 7) w1) := hide (fun w1 f1 => by have := kinds_told (hK.fr f1) r0.1 hc; rwa [hk] at this)
  have HN : Hid (nextN (ints s) = .ok 7 [bt s 0] 1 1) := by
    refine hide ?_
    rw [tail_bt s h0]
    have h128 : ¬ (128 ≤ bt s 0) := by omega
    simp only [nextN, hk, h128, if_false]
    rfl
  have HX := hide (str_one s 0 h0)
  generalize bt s 0 = c at *
  go_enter Tryd.func17, Tryd.ntmps17
  go_wp2_with fail
  refine (first_any s _ (hL.fr (tok_new _)) hmx).mono ?_
  rintro r w1 ⟨rfl, f1⟩
  rw [HF.out]
  have hk1 := HT.out w1 ((tok_new _).trans f1)
  have c4 := four_cells f1
  have f4 := var_free f1
  go_wp2_with (go_at_call 29; refine (small_any _ _ r0.1 r0.2).mono ?_; rintro e w' ⟨rfl, rfl⟩)
  exact bodyPost_ret (results_put rfl _ f1 _ _ _ _ rfl) rfl ⟨by rw [HN.out]; simp only [nxV, tkV]; rw [← HX.out]; rfl, fr_put4 f1 _ _ _ _⟩

set_option maxHeartbeats 2000000 in
set_option maxRecDepth 4000 in
theorem next_8 (s : ByteArray) (b : Nat) (w : World) (hL : Lead w) (hE : MaxOk w) (hK : IsKinds w b) (hs : s.size ≤ 4096) (h0 : 0 < s.size) (hc : bt s 0 < 128) (hk : kindB (bt s 0) = 8) :
    Calls Tryd.prog 17 #[.string s, .map (some b)] w fun e w' => e = .returned (nxV (nextN (ints s))) ∧ Fr w w' := by
  have hmx : s.size ≤ maxLen := by unfold maxLen; omega
  have q0 := bt_at s 0 h0
  have r0 := bt_range s 0 h0
  have HF := hide (first_small s h0 hc)
  have HT : Hid (∀ w1, Fr w w1 → (Instr.lookup 46 (.map (some b)) (.int .u8 (lowB (bt s 0))) false).run Tryd.prog w1 = .ok (.int .i64 8) w1) := hide (fun w1 f1 => by have := kinds_told (hK.fr f1) r0.1 hc; rwa [hk] at this)
  have HN : Hid (nextN (ints s) = .ok 8 [bt s 0] 1 1) := by
    refine hide ?_
    rw [tail_bt s h0]
    have h128 : ¬ (128 ≤ bt s 0) := by omega
    simp only [nextN, hk, h128, if_false]
    rfl
  have HX := hide (str_one s 0 h0)
  generalize bt s 0 = c at *
  go_enter Tryd.func17, Tryd.ntmps17
  go_wp2_with fail
  refine (first_any s _ (hL.fr (tok_new _)) hmx).mono ?_
  rintro r w1 ⟨rfl, f1⟩
  rw [HF.out]
  have hk1 := HT.out w1 ((tok_new _).trans f1)
  have c4 := four_cells f1
  have f4 := var_free f1
  go_wp2_with (go_at_call 29; refine (small_any _ _ r0.1 r0.2).mono ?_; rintro e w' ⟨rfl, rfl⟩)
  exact bodyPost_ret (results_put rfl _ f1 _ _ _ _ rfl) rfl ⟨by rw [HN.out]; simp only [nxV, tkV]; rw [← HX.out]; rfl, fr_put4 f1 _ _ _ _⟩

set_option maxHeartbeats 2000000 in
set_option maxRecDepth 4000 in
theorem next_9 (s : ByteArray) (b : Nat) (w : World) (hL : Lead w) (hE : MaxOk w) (hK : IsKinds w b) (hs : s.size ≤ 4096) (h0 : 0 < s.size) (hc : bt s 0 < 128) (hk : kindB (bt s 0) = 9) :
    Calls Tryd.prog 17 #[.string s, .map (some b)] w fun e w' => e = .returned (nxV (nextN (ints s))) ∧ Fr w w' := by
  have hmx : s.size ≤ maxLen := by unfold maxLen; omega
  have q0 := bt_at s 0 h0
  have r0 := bt_range s 0 h0
  have HF := hide (first_small s h0 hc)
  have HT : Hid (∀ w1, Fr w w1 → (Instr.lookup 46 (.map (some b)) (.int .u8 (lowB (bt s 0))) false).run Tryd.prog w1 = .ok (.int .i64 9) w1) := hide (fun w1 f1 => by have := kinds_told (hK.fr f1) r0.1 hc; rwa [hk] at this)
  have HN : Hid (nextN (ints s) = .ok 9 [bt s 0] 1 1) := by
    refine hide ?_
    rw [tail_bt s h0]
    have h128 : ¬ (128 ≤ bt s 0) := by omega
    simp only [nextN, hk, h128, if_false]
    rfl
  have HX := hide (str_one s 0 h0)
  generalize bt s 0 = c at *
  go_enter Tryd.func17, Tryd.ntmps17
  go_wp2_with fail
  refine (first_any s _ (hL.fr (tok_new _)) hmx).mono ?_
  rintro r w1 ⟨rfl, f1⟩
  rw [HF.out]
  have hk1 := HT.out w1 ((tok_new _).trans f1)
  have c4 := four_cells f1
  have f4 := var_free f1
  go_wp2_with (go_at_call 29; refine (small_any _ _ r0.1 r0.2).mono ?_; rintro e w' ⟨rfl, rfl⟩)
  exact bodyPost_ret (results_put rfl _ f1 _ _ _ _ rfl) rfl ⟨by rw [HN.out]; simp only [nxV, tkV]; rw [← HX.out]; rfl, fr_put4 f1 _ _ _ _⟩

set_option maxHeartbeats 2000000 in
set_option maxRecDepth 4000 in
theorem next_10 (s : ByteArray) (b : Nat) (w : World) (hL : Lead w) (hE : MaxOk w) (hK : IsKinds w b) (hs : s.size ≤ 4096) (h0 : 0 < s.size) (hc : bt s 0 < 128) (hk : kindB (bt s 0) = 10) :
    Calls Tryd.prog 17 #[.string s, .map (some b)] w fun e w' => e = .returned (nxV (nextN (ints s))) ∧ Fr w w' := by
  have hmx : s.size ≤ maxLen := by unfold maxLen; omega
  have q0 := bt_at s 0 h0
  have r0 := bt_range s 0 h0
  have HF := hide (first_small s h0 hc)
  have HT : Hid (∀ w1, Fr w w1 → (Instr.lookup 46 (.map (some b)) (.int .u8 (lowB (bt s 0))) false).run Tryd.prog w1 = .ok (.int .i64 10) w1) := hide (fun w1 f1 => by have := kinds_told (hK.fr f1) r0.1 hc; rwa [hk] at this)
  have HN : Hid (nextN (ints s) = .ok 10 [bt s 0] 1 1) := by
    refine hide ?_
    rw [tail_bt s h0]
    have h128 : ¬ (128 ≤ bt s 0) := by omega
    simp only [nextN, hk, h128, if_false]
    rfl
  have HX := hide (str_one s 0 h0)
  generalize bt s 0 = c at *
  go_enter Tryd.func17, Tryd.ntmps17
  go_wp2_with fail
  refine (first_any s _ (hL.fr (tok_new _)) hmx).mono ?_
  rintro r w1 ⟨rfl, f1⟩
  rw [HF.out]
  have hk1 := HT.out w1 ((tok_new _).trans f1)
  have c4 := four_cells f1
  have f4 := var_free f1
  go_wp2_with (go_at_call 29; refine (small_any _ _ r0.1 r0.2).mono ?_; rintro e w' ⟨rfl, rfl⟩)
  exact bodyPost_ret (results_put rfl _ f1 _ _ _ _ rfl) rfl ⟨by rw [HN.out]; simp only [nxV, tkV]; rw [← HX.out]; rfl, fr_put4 f1 _ _ _ _⟩

set_option maxHeartbeats 2000000 in
set_option maxRecDepth 4000 in
theorem next_11 (s : ByteArray) (b : Nat) (w : World) (hL : Lead w) (hE : MaxOk w) (hK : IsKinds w b) (hs : s.size ≤ 4096) (h0 : 0 < s.size) (hc : bt s 0 < 128) (hk : kindB (bt s 0) = 11) :
    Calls Tryd.prog 17 #[.string s, .map (some b)] w fun e w' => e = .returned (nxV (nextN (ints s))) ∧ Fr w w' := by
  have hmx : s.size ≤ maxLen := by unfold maxLen; omega
  have q0 := bt_at s 0 h0
  have r0 := bt_range s 0 h0
  have HF := hide (first_small s h0 hc)
  have HT : Hid (∀ w1, Fr w w1 → (Instr.lookup 46 (.map (some b)) (.int .u8 (lowB (bt s 0))) false).run Tryd.prog w1 = .ok (.int .i64 11) w1) := hide (fun w1 f1 => by have := kinds_told (hK.fr f1) r0.1 hc; rwa [hk] at this)
  have HN : Hid (nextN (ints s) = .ok 11 [bt s 0] 1 1) := by
    refine hide ?_
    rw [tail_bt s h0]
    have h128 : ¬ (128 ≤ bt s 0) := by omega
    simp only [nextN, hk, h128, if_false]
    rfl
  have HX := hide (str_one s 0 h0)
  generalize bt s 0 = c at *
  go_enter Tryd.func17, Tryd.ntmps17
  go_wp2_with fail
  refine (first_any s _ (hL.fr (tok_new _)) hmx).mono ?_
  rintro r w1 ⟨rfl, f1⟩
  rw [HF.out]
  have hk1 := HT.out w1 ((tok_new _).trans f1)
  have c4 := four_cells f1
  have f4 := var_free f1
  go_wp2_with (go_at_call 29; refine (small_any _ _ r0.1 r0.2).mono ?_; rintro e w' ⟨rfl, rfl⟩)
  exact bodyPost_ret (results_put rfl _ f1 _ _ _ _ rfl) rfl ⟨by rw [HN.out]; simp only [nxV, tkV]; rw [← HX.out]; rfl, fr_put4 f1 _ _ _ _⟩

set_option maxHeartbeats 2000000 in
set_option maxRecDepth 4000 in
theorem next_12 (s : ByteArray) (b : Nat) (w : World) (hL : Lead w) (hE : MaxOk w) (hK : IsKinds w b) (hs : s.size ≤ 4096) (h0 : 0 < s.size) (hc : bt s 0 < 128) (hk : kindB (bt s 0) = 12) :
    Calls Tryd.prog 17 #[.string s, .map (some b)] w fun e w' => e = .returned (nxV (nextN (ints s))) ∧ Fr w w' := by
  have hmx : s.size ≤ maxLen := by unfold maxLen; omega
  have q0 := bt_at s 0 h0
  have r0 := bt_range s 0 h0
  have HF := hide (first_small s h0 hc)
  have HT : Hid (∀ w1, Fr w w1 → (Instr.lookup 46 (.map (some b)) (.int .u8 (lowB (bt s 0))) false).run Tryd.prog w1 = .ok (.int .i64 12) w1) := hide (fun w1 f1 => by have := kinds_told (hK.fr f1) r0.1 hc; rwa [hk] at this)
  have HN : Hid (nextN (ints s) = .ok 12 [bt s 0] 1 1) := by
    refine hide ?_
    rw [tail_bt s h0]
    have h128 : ¬ (128 ≤ bt s 0) := by omega
    simp only [nextN, hk, h128, if_false]
    rfl
  have HX := hide (str_one s 0 h0)
  generalize bt s 0 = c at *
  go_enter Tryd.func17, Tryd.ntmps17
  go_wp2_with fail
  refine (first_any s _ (hL.fr (tok_new _)) hmx).mono ?_
  rintro r w1 ⟨rfl, f1⟩
  rw [HF.out]
  have hk1 := HT.out w1 ((tok_new _).trans f1)
  have c4 := four_cells f1
  have f4 := var_free f1
  go_wp2_with (go_at_call 29; refine (small_any _ _ r0.1 r0.2).mono ?_; rintro e w' ⟨rfl, rfl⟩)
  exact bodyPost_ret (results_put rfl _ f1 _ _ _ _ rfl) rfl ⟨by rw [HN.out]; simp only [nxV, tkV]; rw [← HX.out]; rfl, fr_put4 f1 _ _ _ _⟩

set_option maxHeartbeats 2000000 in
set_option maxRecDepth 4000 in
theorem next_17 (s : ByteArray) (b : Nat) (w : World) (hL : Lead w) (hE : MaxOk w) (hK : IsKinds w b) (hs : s.size ≤ 4096) (h0 : 0 < s.size) (hc : bt s 0 < 128) (hk : kindB (bt s 0) = 17) :
    Calls Tryd.prog 17 #[.string s, .map (some b)] w fun e w' => e = .returned (nxV (nextN (ints s))) ∧ Fr w w' := by
  have hmx : s.size ≤ maxLen := by unfold maxLen; omega
  have q0 := bt_at s 0 h0
  have r0 := bt_range s 0 h0
  have HF := hide (first_small s h0 hc)
  have HT : Hid (∀ w1, Fr w w1 → (Instr.lookup 46 (.map (some b)) (.int .u8 (lowB (bt s 0))) false).run Tryd.prog w1 = .ok (.int .i64 17) w1) := hide (fun w1 f1 => by have := kinds_told (hK.fr f1) r0.1 hc; rwa [hk] at this)
  have HN : Hid (nextN (ints s) = .ok 17 [bt s 0] 1 1) := by
    refine hide ?_
    rw [tail_bt s h0]
    have h128 : ¬ (128 ≤ bt s 0) := by omega
    simp only [nextN, hk, h128, if_false]
    rfl
  have HX := hide (str_one s 0 h0)
  generalize bt s 0 = c at *
  go_enter Tryd.func17, Tryd.ntmps17
  go_wp2_with fail
  refine (first_any s _ (hL.fr (tok_new _)) hmx).mono ?_
  rintro r w1 ⟨rfl, f1⟩
  rw [HF.out]
  have hk1 := HT.out w1 ((tok_new _).trans f1)
  have c4 := four_cells f1
  have f4 := var_free f1
  go_wp2_with (go_at_call 29; refine (small_any _ _ r0.1 r0.2).mono ?_; rintro e w' ⟨rfl, rfl⟩)
  exact bodyPost_ret (results_put rfl _ f1 _ _ _ _ rfl) rfl ⟨by rw [HN.out]; simp only [nxV, tkV]; rw [← HX.out]; rfl, fr_put4 f1 _ _ _ _⟩

set_option maxHeartbeats 2000000 in
set_option maxRecDepth 4000 in
theorem next_big (s : ByteArray) (b : Nat) (w : World) (hL : Lead w) (hE : MaxOk w) (hK : IsKinds w b) (hs : s.size ≤ 4096) (h0 : 0 < s.size) (hc : 128 ≤ bt s 0) :
    Calls Tryd.prog 17 #[.string s, .map (some b)] w fun e w' => e = .returned (nxV (nextN (ints s))) ∧ Fr w w' := by
  have hmx : s.size ≤ maxLen := by unfold maxLen; omega
  have q0 := bt_at s 0 h0
  have r0 := bt_range s 0 h0
  have hk := kindB_big hc
  have HN0 : Hid (nextN (ints s) = if (rfirst (ints s)).2.2 = true then .ok 17 ((ints s).take (rfirst (ints s)).2.1.toNat) 1 (rfirst (ints s)).2.1.toNat else .no 0 4) := by
    refine hide ?_
    conv => lhs; rw [tail_bt s h0]
    simp only [nextN, hk, hc, if_true]
    rw [← tail_bt s h0]
    rfl
  rcases rfirst_cases (ints s) (ints_range s) with hf | ⟨m, t, hm, ht, hf⟩
  · have HN : Hid (nextN (ints s) = .no 0 4) := by
      refine hide ?_
      rw [HN0.out, hf]
      rfl
    have HF := hide hf
    clear HN0 hf
    generalize bt s 0 = c at *
    go_enter Tryd.func17, Tryd.ntmps17
    go_wp2_with fail
    refine (first_any s _ (hL.fr (tok_new _)) hmx).mono ?_
    rintro r w1 ⟨rfl, f1⟩
    rw [HF.out]
    have c4 := four_cells f1
    have f4 := var_free f1
    go_wp2_with fail
    exact bodyPost_ret (results_put rfl _ f1 _ _ _ _ rfl) rfl ⟨by rw [HN.out]; simp only [nxV, tkV, str_nil]; rfl, fr_put4 f1 _ _ _ _⟩
  · have hnl := nums_length m hm
    have hrc := rsize_cases m
    have hm128 : 127 < m := by
      obtain ⟨b', r', g1, g2, g3, g4, g5⟩ := head_nums m hm
      have e := tail_bt s h0
      rw [ht, g1, List.cons_append, List.cons.injEq] at e
      have : rsize m ≠ 1 := fun h1 => by have := g4 h1; omega
      omega
    have hz : (nums m).length ≤ s.size := by
      have := congrArg List.length ht
      rw [ints_length, List.length_append] at this
      omega
    have HN : Hid (nextN (ints s) = .ok 17 (nums m) 1 (nums m).length) := by
      refine hide ?_
      rw [HN0.out, hf, if_pos rfl, show (rsize m).toNat = (nums m).length by omega]
      conv => lhs; rw [ht, List.take_left]
    have HX : Hid (s.extract 0 (nums m).length = strOfNums (nums m)) := hide (by rw [str_ext, List.drop_zero, ht, Nat.sub_zero, List.take_left])
    have HF := hide hf
    have HNL := hide hnl
    have hN4 : (nums m).length ≤ 4 := by omega
    have HT : Hid (∀ w1, Fr w w1 → ∃ v, (Instr.lookup 46 (.map (some b)) (.int .u8 (lowB (bt s 0))) false).run Tryd.prog w1 = .ok (.int .i64 v) w1) := hide (fun w1 f1 => kinds_any_key (hK.fr f1) r0.1 r0.2)
    clear HN0 hf ht hnl hrc hm
    generalize bt s 0 = c at *
    generalize nums m = u at *
    generalize hN : u.length = N at *
    go_enter Tryd.func17, Tryd.ntmps17
    go_wp2_with fail
    refine (first_any s _ (hL.fr (tok_new _)) hmx).mono ?_
    rintro r w1 ⟨rfl, f1⟩
    rw [HF.out, ← HNL.out]
    obtain ⟨v, hk1⟩ := HT.out w1 ((tok_new _).trans f1)
    have c4 := four_cells f1
    have f4 := var_free f1
    go_wp2_with (go_at_call 29; refine (small_any _ _ r0.1 r0.2).mono ?_; rintro e w' ⟨rfl, rfl⟩)
    exact bodyPost_ret (results_put rfl _ f1 _ _ _ _ rfl) rfl ⟨by rw [HN.out]; simp only [nxV, tkV]; rw [← HX.out]; rfl, fr_put4 f1 _ _ _ _⟩

theorem next_any (s : ByteArray) (b : Nat) (w : World) (hL : Lead w) (hE : MaxOk w) (hK : IsKinds w b) (hs : s.size ≤ 4096) (h0 : 0 < s.size) :
    Calls Tryd.prog 17 #[.string s, .map (some b)] w fun e w' => e = .returned (nxV (nextN (ints s))) ∧ Fr w w' := by
  by_cases hc : 128 ≤ bt s 0
  · exact next_big s b w hL hE hK hs h0 hc
  · have hc' : bt s 0 < 128 := by omega
    have r0 := bt_range s 0 h0
    have hf := kind_facts r0.1 r0.2
    have h1 := hf.2.2.2.2.2.2.2.2.2.2.1
    have h2 := hf.2.2.2.2.2.2.2.2.2.2.2.1
    have hall : kindB (bt s 0) = 0 ∨ kindB (bt s 0) = 1 ∨ kindB (bt s 0) = 2 ∨ kindB (bt s 0) = 3 ∨ kindB (bt s 0) = 4 ∨ kindB (bt s 0) = 5 ∨ kindB (bt s 0) = 6 ∨ kindB (bt s 0) = 7 ∨ kindB (bt s 0) = 8 ∨ kindB (bt s 0) = 9 ∨ kindB (bt s 0) = 10 ∨ kindB (bt s 0) = 11 ∨ kindB (bt s 0) = 12 ∨ kindB (bt s 0) = 13 ∨ kindB (bt s 0) = 14 ∨ kindB (bt s 0) = 15 ∨ kindB (bt s 0) = 16 ∨ kindB (bt s 0) = 17 := by omega
    rcases hall with h | h | h | h | h | h | h | h | h | h | h | h | h | h | h | h | h | h
    · exact next_0 s b w hL hE hK hs h0 hc' h
    · exact next_1 s b w hL hE hK hs h0 hc' h
    · exact next_2 s b w hL hE hK hs h0 hc' h
    · exact next_3 s b w hL hE hK hs h0 hc' h
    · exact next_4 s b w hL hE hK hs h0 hc' h
    · exact next_5 s b w hL hE hK hs h0 hc' h
    · exact next_6 s b w hL hE hK hs h0 hc' h
    · exact next_7 s b w hL hE hK hs h0 hc' h
    · exact next_8 s b w hL hE hK hs h0 hc' h
    · exact next_9 s b w hL hE hK hs h0 hc' h
    · exact next_10 s b w hL hE hK hs h0 hc' h
    · exact next_11 s b w hL hE hK hs h0 hc' h
    · exact next_12 s b w hL hE hK hs h0 hc' h
    · exact next_13 s b w hL hE hK hs h0 hc' h
    · exact next_14 s b w hL hE hK hs h0 hc' h
    · exact next_15 s b w hL hE hK hs h0 hc' h
    · exact next_16 s b w hL hE hK hs h0 hc' h
    · exact next_17 s b w hL hE hK hs h0 hc' h
end Go.Proofs.YtaokmegoheofjaaDoor
