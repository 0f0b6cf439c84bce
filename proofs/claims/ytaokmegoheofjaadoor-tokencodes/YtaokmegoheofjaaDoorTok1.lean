/- The document's First: the token at the beginning of a text. -/
import Derived.Test.YtaokmegoheofjaaDoorTokO
namespace Go.Proofs.YtaokmegoheofjaaDoor
set_option linter.unusedVariables false
set_option linter.unusedSimpArgs false
open Go.RowKit

theorem ref_form (A : Nx) : ∃ (a1 : Int) (a2 : ByteArray) (a3 a4 a5 a6 : Int), refV A = .tuple #[.agg #[.int .i64 a1, .string a2, .int .i64 a3, .int .i64 0], .int .i64 a4, .int .i64 a5, .int .i64 a6] := by
  cases A with
  | ok k t c n => exact ⟨_, _, _, _, _, _, rfl⟩
  | no o e => exact ⟨_, _, _, _, _, _, rfl⟩
/-- Each byte's kind, the other way. -/
theorem kind_back : ∀ c : Fin 256, (kindB c = 6 → (c : Int) = 48 ∨ (c : Int) = 35 ∨ (c : Int) = 63) ∧ (kindB c = 7 → (c : Int) = 46) ∧ (kindB c = 8 → (c : Int) = 44) ∧ (kindB c = 9 → (c : Int) = 37) ∧ (kindB c = 10 → (c : Int) = 47) ∧ (kindB c = 11 → (c : Int) = 59) ∧ (kindB c = 12 → (c : Int) = 64)
    ∧ (kindB c = 13 → (c : Int) = 69 ∨ (c : Int) = 101) ∧ ((c : Int) < 128 → (kindB c = 17 ↔ (c : Int) ∈ plainB)) := by decide +kernel
/-- What a byte of no single sign isn't. -/
theorem kind_not : ∀ c : Fin 256, (kindB c = 0 ∨ kindB c = 13 ∨ kindB c = 14 ∨ kindB c = 15 ∨ kindB c = 16 ∨ kindB c = 17) → (c : Int) ≠ 34 ∧ (c : Int) ≠ 92 ∧ (c : Int) ≠ 95 ∧ (c : Int) ≠ 42 ∧ (c : Int) ≠ 91 ∧ (c : Int) ≠ 48 ∧ (c : Int) ≠ 35 ∧ (c : Int) ≠ 63 ∧ (c : Int) ≠ 46 ∧ (c : Int) ≠ 44 ∧ (c : Int) ≠ 37 ∧ (c : Int) ≠ 47 ∧ (c : Int) ≠ 59 ∧ (c : Int) ≠ 64 := by decide +kernel
theorem kind_get {p : Int → Prop} [DecidablePred p] (h : ∀ c : Fin 256, p (c : Nat)) {c : Int} (h0 : 0 ≤ c) (h1 : c ≤ 255) : p c := by
  have := h ⟨c.toNat, by omega⟩
  rwa [show (((⟨c.toNat, by omega⟩ : Fin 256) : Nat) : Int) = c by simp; omega] at this

set_option maxHeartbeats 4000000 in
set_option maxRecDepth 4000 in
theorem ref_34 (s : ByteArray) (w : World) (hs : s.size ≤ 10000) (h0 : 0 < s.size) (hc : bt s 0 = 34) :
    Calls Tryd.prog 18 #[.string s] w fun e w' => e = .returned (refV (nextN (ints s))) ∧ Fr w w' := by
  have hmx : s.size ≤ maxLen := by unfold maxLen; omega
  have q0 := bt_at s 0 h0
  have r0 := bt_range s 0 h0
  have hV := Vars.new w 42
  have HN : Hid (nextN (ints s) = quoteN 1 34 5 ((ints s).drop 1)) := by
    refine hide ?_
    rw [tail_bt s h0, hc]
    rfl
  have HC : Hid (∀ w1, Fr w w1 → Calls Tryd.prog 35 #[.string s, .int .i64 1, .int .u8 34, .int .i64 5] w1 fun e w' => e = .returned (refV (nextN (ints s))) ∧ Fr w1 w') := by
    refine hide ?_
    intro w1 f1
    rw [HN.out]
    exact closed_any s 1 34 5 w1 hs h0 (by decide) (by decide)
  obtain ⟨a1, a2, a3, a4, a5, a6, ha⟩ := ref_form (nextN (ints s))
  have HA := hide ha
  clear HN ha
  rw [HA.out]
  rw [HA.out] at HC
  rw [hc] at q0
  clear hc r0
  go_enter Tryd.func18, Tryd.ntmps18
  go_upto_region 2 with fail
  generalize (w.alloc _).alloc _ = V at *
  go_wp2_with fail
  refine (HC.out _ hV.fr).mono ?_
  rintro r w1 ⟨rfl, f1⟩
  have hW := hV.go f1
  obtain ⟨x0, x1, x2, x3, c0, c1, c2, c3⟩ := hW.c
  have ff := hW.f
  obtain ⟨n0, n1, n2, n3⟩ := hW.n
  go_wp2_with fail
  exact bodyPost_ret (results_vars rfl _ hW _ _ _ _ rfl) rfl ⟨rfl, fr_vars hW _ _ _ _⟩

set_option maxHeartbeats 4000000 in
set_option maxRecDepth 4000 in
theorem ref_91 (s : ByteArray) (w : World) (hs : s.size ≤ 10000) (h0 : 0 < s.size) (hc : bt s 0 = 91) :
    Calls Tryd.prog 18 #[.string s] w fun e w' => e = .returned (refV (nextN (ints s))) ∧ Fr w w' := by
  have hmx : s.size ≤ maxLen := by unfold maxLen; omega
  have q0 := bt_at s 0 h0
  have r0 := bt_range s 0 h0
  have hV := Vars.new w 42
  have HN : Hid (nextN (ints s) = quoteN 5 93 7 ((ints s).drop 1)) := by
    refine hide ?_
    rw [tail_bt s h0, hc]
    rfl
  have HC : Hid (∀ w1, Fr w w1 → Calls Tryd.prog 35 #[.string s, .int .i64 5, .int .u8 93, .int .i64 7] w1 fun e w' => e = .returned (refV (nextN (ints s))) ∧ Fr w1 w') := by
    refine hide ?_
    intro w1 f1
    rw [HN.out]
    exact closed_any s 5 93 7 w1 hs h0 (by decide) (by decide)
  obtain ⟨a1, a2, a3, a4, a5, a6, ha⟩ := ref_form (nextN (ints s))
  have HA := hide ha
  clear HN ha
  rw [HA.out]
  rw [HA.out] at HC
  rw [hc] at q0
  clear hc r0
  go_enter Tryd.func18, Tryd.ntmps18
  go_upto_region 2 with fail
  generalize (w.alloc _).alloc _ = V at *
  go_wp2_with fail
  refine (HC.out _ hV.fr).mono ?_
  rintro r w1 ⟨rfl, f1⟩
  have hW := hV.go f1
  obtain ⟨x0, x1, x2, x3, c0, c1, c2, c3⟩ := hW.c
  have ff := hW.f
  obtain ⟨n0, n1, n2, n3⟩ := hW.n
  go_wp2_with fail
  exact bodyPost_ret (results_vars rfl _ hW _ _ _ _ rfl) rfl ⟨rfl, fr_vars hW _ _ _ _⟩

set_option maxHeartbeats 4000000 in
set_option maxRecDepth 4000 in
theorem ref_92 (s : ByteArray) (w : World) (hs : s.size ≤ 10000) (h0 : 0 < s.size) (hc : bt s 0 = 92) :
    Calls Tryd.prog 18 #[.string s] w fun e w' => e = .returned (refV (nextN (ints s))) ∧ Fr w w' := by
  have hmx : s.size ≤ maxLen := by unfold maxLen; omega
  have q0 := bt_at s 0 h0
  have r0 := bt_range s 0 h0
  have hV := Vars.new w 42
  have HN : Hid (nextN (ints s) = markN 2 6 ((ints s).drop 1)) := by
    refine hide ?_
    rw [tail_bt s h0, hc]
    rfl
  have HC : Hid (∀ w1, Fr w w1 → Calls Tryd.prog 36 #[.string s, .int .i64 2, .int .i64 6] w1 fun e w' => e = .returned (refV (nextN (ints s))) ∧ Fr w1 w') := by
    refine hide ?_
    intro w1 f1
    rw [HN.out]
    exact marked_any s 2 6 w1 hmx h0
  obtain ⟨a1, a2, a3, a4, a5, a6, ha⟩ := ref_form (nextN (ints s))
  have HA := hide ha
  clear HN ha
  rw [HA.out]
  rw [HA.out] at HC
  rw [hc] at q0
  clear hc r0
  go_enter Tryd.func18, Tryd.ntmps18
  go_upto_region 2 with fail
  generalize (w.alloc _).alloc _ = V at *
  go_wp2_with fail
  refine (HC.out _ hV.fr).mono ?_
  rintro r w1 ⟨rfl, f1⟩
  have hW := hV.go f1
  obtain ⟨x0, x1, x2, x3, c0, c1, c2, c3⟩ := hW.c
  have ff := hW.f
  obtain ⟨n0, n1, n2, n3⟩ := hW.n
  go_wp2_with fail
  exact bodyPost_ret (results_vars rfl _ hW _ _ _ _ rfl) rfl ⟨rfl, fr_vars hW _ _ _ _⟩

set_option maxHeartbeats 4000000 in
set_option maxRecDepth 4000 in
theorem ref_95 (s : ByteArray) (w : World) (hs : s.size ≤ 10000) (h0 : 0 < s.size) (hc : bt s 0 = 95) :
    Calls Tryd.prog 18 #[.string s] w fun e w' => e = .returned (refV (nextN (ints s))) ∧ Fr w w' := by
  have hmx : s.size ≤ maxLen := by unfold maxLen; omega
  have q0 := bt_at s 0 h0
  have r0 := bt_range s 0 h0
  have hV := Vars.new w 42
  have HN : Hid (nextN (ints s) = markN 3 8 ((ints s).drop 1)) := by
    refine hide ?_
    rw [tail_bt s h0, hc]
    rfl
  have HC : Hid (∀ w1, Fr w w1 → Calls Tryd.prog 36 #[.string s, .int .i64 3, .int .i64 8] w1 fun e w' => e = .returned (refV (nextN (ints s))) ∧ Fr w1 w') := by
    refine hide ?_
    intro w1 f1
    rw [HN.out]
    exact marked_any s 3 8 w1 hmx h0
  obtain ⟨a1, a2, a3, a4, a5, a6, ha⟩ := ref_form (nextN (ints s))
  have HA := hide ha
  clear HN ha
  rw [HA.out]
  rw [HA.out] at HC
  rw [hc] at q0
  clear hc r0
  go_enter Tryd.func18, Tryd.ntmps18
  go_upto_region 2 with fail
  generalize (w.alloc _).alloc _ = V at *
  go_wp2_with fail
  refine (HC.out _ hV.fr).mono ?_
  rintro r w1 ⟨rfl, f1⟩
  have hW := hV.go f1
  obtain ⟨x0, x1, x2, x3, c0, c1, c2, c3⟩ := hW.c
  have ff := hW.f
  obtain ⟨n0, n1, n2, n3⟩ := hW.n
  go_wp2_with fail
  exact bodyPost_ret (results_vars rfl _ hW _ _ _ _ rfl) rfl ⟨rfl, fr_vars hW _ _ _ _⟩

set_option maxHeartbeats 4000000 in
set_option maxRecDepth 4000 in
theorem ref_42 (s : ByteArray) (w : World) (hs : s.size ≤ 10000) (h0 : 0 < s.size) (hc : bt s 0 = 42) :
    Calls Tryd.prog 18 #[.string s] w fun e w' => e = .returned (refV (nextN (ints s))) ∧ Fr w w' := by
  have hmx : s.size ≤ maxLen := by unfold maxLen; omega
  have q0 := bt_at s 0 h0
  have r0 := bt_range s 0 h0
  have hV := Vars.new w 42
  have HN : Hid (nextN (ints s) = markN 4 8 ((ints s).drop 1)) := by
    refine hide ?_
    rw [tail_bt s h0, hc]
    rfl
  have HC : Hid (∀ w1, Fr w w1 → Calls Tryd.prog 36 #[.string s, .int .i64 4, .int .i64 8] w1 fun e w' => e = .returned (refV (nextN (ints s))) ∧ Fr w1 w') := by
    refine hide ?_
    intro w1 f1
    rw [HN.out]
    exact marked_any s 4 8 w1 hmx h0
  obtain ⟨a1, a2, a3, a4, a5, a6, ha⟩ := ref_form (nextN (ints s))
  have HA := hide ha
  clear HN ha
  rw [HA.out]
  rw [HA.out] at HC
  rw [hc] at q0
  clear hc r0
  go_enter Tryd.func18, Tryd.ntmps18
  go_upto_region 2 with fail
  generalize (w.alloc _).alloc _ = V at *
  go_wp2_with fail
  refine (HC.out _ hV.fr).mono ?_
  rintro r w1 ⟨rfl, f1⟩
  have hW := hV.go f1
  obtain ⟨x0, x1, x2, x3, c0, c1, c2, c3⟩ := hW.c
  have ff := hW.f
  obtain ⟨n0, n1, n2, n3⟩ := hW.n
  go_wp2_with fail
  exact bodyPost_ret (results_vars rfl _ hW _ _ _ _ rfl) rfl ⟨rfl, fr_vars hW _ _ _ _⟩

set_option maxHeartbeats 4000000 in
set_option maxRecDepth 4000 in
theorem ref_48 (s : ByteArray) (w : World) (hs : s.size ≤ 10000) (h0 : 0 < s.size) (hc : bt s 0 = 48) :
    Calls Tryd.prog 18 #[.string s] w fun e w' => e = .returned (refV (nextN (ints s))) ∧ Fr w w' := by
  have hmx : s.size ≤ maxLen := by unfold maxLen; omega
  have q0 := bt_at s 0 h0
  have r0 := bt_range s 0 h0
  have hV := Vars.new w 42
  have HN : Hid (nextN (ints s) = .ok 6 [48] 1 1) := by
    refine hide ?_
    rw [tail_bt s h0, hc]
    rfl
  have hx := str_one s 0 h0
  rw [hc] at hx q0
  have HX := hide hx
  clear hc r0 hx
  go_enter Tryd.func18, Tryd.ntmps18
  go_upto_region 2 with fail
  generalize (w.alloc _).alloc _ = V at *
  obtain ⟨x0, x1, x2, x3, c0, c1, c2, c3⟩ := hV.c
  have ff := hV.f
  obtain ⟨n0, n1, n2, n3⟩ := hV.n
  go_wp2_with fail
  exact bodyPost_ret (results_vars rfl _ hV _ _ _ _ rfl) rfl ⟨by rw [HN.out]; simp only [refV, tkV]; rw [← HX.out]; rfl, fr_vars hV _ _ _ _⟩

set_option maxHeartbeats 4000000 in
set_option maxRecDepth 4000 in
theorem ref_35 (s : ByteArray) (w : World) (hs : s.size ≤ 10000) (h0 : 0 < s.size) (hc : bt s 0 = 35) :
    Calls Tryd.prog 18 #[.string s] w fun e w' => e = .returned (refV (nextN (ints s))) ∧ Fr w w' := by
  have hmx : s.size ≤ maxLen := by unfold maxLen; omega
  have q0 := bt_at s 0 h0
  have r0 := bt_range s 0 h0
  have hV := Vars.new w 42
  have HN : Hid (nextN (ints s) = .ok 6 [35] 1 1) := by
    refine hide ?_
    rw [tail_bt s h0, hc]
    rfl
  have hx := str_one s 0 h0
  rw [hc] at hx q0
  have HX := hide hx
  clear hc r0 hx
  go_enter Tryd.func18, Tryd.ntmps18
  go_upto_region 2 with fail
  generalize (w.alloc _).alloc _ = V at *
  obtain ⟨x0, x1, x2, x3, c0, c1, c2, c3⟩ := hV.c
  have ff := hV.f
  obtain ⟨n0, n1, n2, n3⟩ := hV.n
  go_wp2_with fail
  exact bodyPost_ret (results_vars rfl _ hV _ _ _ _ rfl) rfl ⟨by rw [HN.out]; simp only [refV, tkV]; rw [← HX.out]; rfl, fr_vars hV _ _ _ _⟩

set_option maxHeartbeats 4000000 in
set_option maxRecDepth 4000 in
theorem ref_63 (s : ByteArray) (w : World) (hs : s.size ≤ 10000) (h0 : 0 < s.size) (hc : bt s 0 = 63) :
    Calls Tryd.prog 18 #[.string s] w fun e w' => e = .returned (refV (nextN (ints s))) ∧ Fr w w' := by
  have hmx : s.size ≤ maxLen := by unfold maxLen; omega
  have q0 := bt_at s 0 h0
  have r0 := bt_range s 0 h0
  have hV := Vars.new w 42
  have HN : Hid (nextN (ints s) = .ok 6 [63] 1 1) := by
    refine hide ?_
    rw [tail_bt s h0, hc]
    rfl
  have hx := str_one s 0 h0
  rw [hc] at hx q0
  have HX := hide hx
  clear hc r0 hx
  go_enter Tryd.func18, Tryd.ntmps18
  go_upto_region 2 with fail
  generalize (w.alloc _).alloc _ = V at *
  obtain ⟨x0, x1, x2, x3, c0, c1, c2, c3⟩ := hV.c
  have ff := hV.f
  obtain ⟨n0, n1, n2, n3⟩ := hV.n
  go_wp2_with fail
  exact bodyPost_ret (results_vars rfl _ hV _ _ _ _ rfl) rfl ⟨by rw [HN.out]; simp only [refV, tkV]; rw [← HX.out]; rfl, fr_vars hV _ _ _ _⟩

set_option maxHeartbeats 4000000 in
set_option maxRecDepth 4000 in
theorem ref_46 (s : ByteArray) (w : World) (hs : s.size ≤ 10000) (h0 : 0 < s.size) (hc : bt s 0 = 46) :
    Calls Tryd.prog 18 #[.string s] w fun e w' => e = .returned (refV (nextN (ints s))) ∧ Fr w w' := by
  have hmx : s.size ≤ maxLen := by unfold maxLen; omega
  have q0 := bt_at s 0 h0
  have r0 := bt_range s 0 h0
  have hV := Vars.new w 42
  have HN : Hid (nextN (ints s) = .ok 7 [46] 1 1) := by
    refine hide ?_
    rw [tail_bt s h0, hc]
    rfl
  have hx := str_one s 0 h0
  rw [hc] at hx q0
  have HX := hide hx
  clear hc r0 hx
  go_enter Tryd.func18, Tryd.ntmps18
  go_upto_region 2 with fail
  generalize (w.alloc _).alloc _ = V at *
  obtain ⟨x0, x1, x2, x3, c0, c1, c2, c3⟩ := hV.c
  have ff := hV.f
  obtain ⟨n0, n1, n2, n3⟩ := hV.n
  go_wp2_with fail
  refine wp_loop_rounds 1 ?_
  repeat any_goals (rw [rounds_succ]; go_wp2_with fail)
  exact bodyPost_ret (results_vars rfl _ hV _ _ _ _ rfl) rfl ⟨by rw [HN.out]; simp only [refV, tkV]; rw [← HX.out]; rfl, fr_vars hV _ _ _ _⟩

set_option maxHeartbeats 4000000 in
set_option maxRecDepth 4000 in
theorem ref_44 (s : ByteArray) (w : World) (hs : s.size ≤ 10000) (h0 : 0 < s.size) (hc : bt s 0 = 44) :
    Calls Tryd.prog 18 #[.string s] w fun e w' => e = .returned (refV (nextN (ints s))) ∧ Fr w w' := by
  have hmx : s.size ≤ maxLen := by unfold maxLen; omega
  have q0 := bt_at s 0 h0
  have r0 := bt_range s 0 h0
  have hV := Vars.new w 42
  have HN : Hid (nextN (ints s) = .ok 8 [44] 1 1) := by
    refine hide ?_
    rw [tail_bt s h0, hc]
    rfl
  have hx := str_one s 0 h0
  rw [hc] at hx q0
  have HX := hide hx
  clear hc r0 hx
  go_enter Tryd.func18, Tryd.ntmps18
  go_upto_region 2 with fail
  generalize (w.alloc _).alloc _ = V at *
  obtain ⟨x0, x1, x2, x3, c0, c1, c2, c3⟩ := hV.c
  have ff := hV.f
  obtain ⟨n0, n1, n2, n3⟩ := hV.n
  go_wp2_with fail
  refine wp_loop_rounds 2 ?_
  repeat any_goals (rw [rounds_succ]; go_wp2_with fail)
  exact bodyPost_ret (results_vars rfl _ hV _ _ _ _ rfl) rfl ⟨by rw [HN.out]; simp only [refV, tkV]; rw [← HX.out]; rfl, fr_vars hV _ _ _ _⟩

set_option maxHeartbeats 4000000 in
set_option maxRecDepth 4000 in
theorem ref_37 (s : ByteArray) (w : World) (hs : s.size ≤ 10000) (h0 : 0 < s.size) (hc : bt s 0 = 37) :
    Calls Tryd.prog 18 #[.string s] w fun e w' => e = .returned (refV (nextN (ints s))) ∧ Fr w w' := by
  have hmx : s.size ≤ maxLen := by unfold maxLen; omega
  have q0 := bt_at s 0 h0
  have r0 := bt_range s 0 h0
  have hV := Vars.new w 42
  have HN : Hid (nextN (ints s) = .ok 9 [37] 1 1) := by
    refine hide ?_
    rw [tail_bt s h0, hc]
    rfl
  have hx := str_one s 0 h0
  rw [hc] at hx q0
  have HX := hide hx
  clear hc r0 hx
  go_enter Tryd.func18, Tryd.ntmps18
  go_upto_region 2 with fail
  generalize (w.alloc _).alloc _ = V at *
  obtain ⟨x0, x1, x2, x3, c0, c1, c2, c3⟩ := hV.c
  have ff := hV.f
  obtain ⟨n0, n1, n2, n3⟩ := hV.n
  go_wp2_with fail
  refine wp_loop_rounds 3 ?_
  repeat any_goals (rw [rounds_succ]; go_wp2_with fail)
  exact bodyPost_ret (results_vars rfl _ hV _ _ _ _ rfl) rfl ⟨by rw [HN.out]; simp only [refV, tkV]; rw [← HX.out]; rfl, fr_vars hV _ _ _ _⟩

set_option maxHeartbeats 4000000 in
set_option maxRecDepth 4000 in
theorem ref_47 (s : ByteArray) (w : World) (hs : s.size ≤ 10000) (h0 : 0 < s.size) (hc : bt s 0 = 47) :
    Calls Tryd.prog 18 #[.string s] w fun e w' => e = .returned (refV (nextN (ints s))) ∧ Fr w w' := by
  have hmx : s.size ≤ maxLen := by unfold maxLen; omega
  have q0 := bt_at s 0 h0
  have r0 := bt_range s 0 h0
  have hV := Vars.new w 42
  have HN : Hid (nextN (ints s) = .ok 10 [47] 1 1) := by
    refine hide ?_
    rw [tail_bt s h0, hc]
    rfl
  have hx := str_one s 0 h0
  rw [hc] at hx q0
  have HX := hide hx
  clear hc r0 hx
  go_enter Tryd.func18, Tryd.ntmps18
  go_upto_region 2 with fail
  generalize (w.alloc _).alloc _ = V at *
  obtain ⟨x0, x1, x2, x3, c0, c1, c2, c3⟩ := hV.c
  have ff := hV.f
  obtain ⟨n0, n1, n2, n3⟩ := hV.n
  go_wp2_with fail
  refine wp_loop_rounds 4 ?_
  repeat any_goals (rw [rounds_succ]; go_wp2_with fail)
  exact bodyPost_ret (results_vars rfl _ hV _ _ _ _ rfl) rfl ⟨by rw [HN.out]; simp only [refV, tkV]; rw [← HX.out]; rfl, fr_vars hV _ _ _ _⟩

set_option maxHeartbeats 4000000 in
set_option maxRecDepth 4000 in
theorem ref_59 (s : ByteArray) (w : World) (hs : s.size ≤ 10000) (h0 : 0 < s.size) (hc : bt s 0 = 59) :
    Calls Tryd.prog 18 #[.string s] w fun e w' => e = .returned (refV (nextN (ints s))) ∧ Fr w w' := by
  have hmx : s.size ≤ maxLen := by unfold maxLen; omega
  have q0 := bt_at s 0 h0
  have r0 := bt_range s 0 h0
  have hV := Vars.new w 42
  have HN : Hid (nextN (ints s) = .ok 11 [59] 1 1) := by
    refine hide ?_
    rw [tail_bt s h0, hc]
    rfl
  have hx := str_one s 0 h0
  rw [hc] at hx q0
  have HX := hide hx
  clear hc r0 hx
  go_enter Tryd.func18, Tryd.ntmps18
  go_upto_region 2 with fail
  generalize (w.alloc _).alloc _ = V at *
  obtain ⟨x0, x1, x2, x3, c0, c1, c2, c3⟩ := hV.c
  have ff := hV.f
  obtain ⟨n0, n1, n2, n3⟩ := hV.n
  go_wp2_with fail
  refine wp_loop_rounds 5 ?_
  repeat any_goals (rw [rounds_succ]; go_wp2_with fail)
  exact bodyPost_ret (results_vars rfl _ hV _ _ _ _ rfl) rfl ⟨by rw [HN.out]; simp only [refV, tkV]; rw [← HX.out]; rfl, fr_vars hV _ _ _ _⟩

set_option maxHeartbeats 4000000 in
set_option maxRecDepth 4000 in
theorem ref_64 (s : ByteArray) (w : World) (hs : s.size ≤ 10000) (h0 : 0 < s.size) (hc : bt s 0 = 64) :
    Calls Tryd.prog 18 #[.string s] w fun e w' => e = .returned (refV (nextN (ints s))) ∧ Fr w w' := by
  have hmx : s.size ≤ maxLen := by unfold maxLen; omega
  have q0 := bt_at s 0 h0
  have r0 := bt_range s 0 h0
  have hV := Vars.new w 42
  have HN : Hid (nextN (ints s) = .ok 12 [64] 1 1) := by
    refine hide ?_
    rw [tail_bt s h0, hc]
    rfl
  have hx := str_one s 0 h0
  rw [hc] at hx q0
  have HX := hide hx
  clear hc r0 hx
  go_enter Tryd.func18, Tryd.ntmps18
  go_upto_region 2 with fail
  generalize (w.alloc _).alloc _ = V at *
  obtain ⟨x0, x1, x2, x3, c0, c1, c2, c3⟩ := hV.c
  have ff := hV.f
  obtain ⟨n0, n1, n2, n3⟩ := hV.n
  go_wp2_with fail
  refine wp_loop_rounds 6 ?_
  repeat any_goals (rw [rounds_succ]; go_wp2_with fail)
  exact bodyPost_ret (results_vars rfl _ hV _ _ _ _ rfl) rfl ⟨by rw [HN.out]; simp only [refV, tkV]; rw [← HX.out]; rfl, fr_vars hV _ _ _ _⟩

end Go.Proofs.YtaokmegoheofjaaDoor