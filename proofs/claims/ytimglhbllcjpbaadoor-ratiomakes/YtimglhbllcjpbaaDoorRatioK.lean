/- The law RatioMakes. -/
import Derived.Test.YtimglhbllcjpbaaDoorRatioJ
import Derived.Test.YtimglhbllcjpbaaDoorRatioL
namespace Go.Proofs.YtimglhbllcjpbaaDoor
set_option linter.unusedVariables false
set_option linter.unusedSimpArgs false
open Go.RowKit

attribute [local go_sem] World.cell?_alloc_some
theorem IsFrac.den {w : World} {x y : Nat} {t1 t4 : Option Addr} {t2 t3 t5 t6 : Nat} (h : IsFrac w (.agg #[.slice t1 t2 t3, .slice t4 t5 t6]) x y) : t5 = nlen 10 y := by
  obtain ⟨a, n, c, b, m, k, h1, _, ⟨b', k', h3, _⟩⟩ := h
  simp only [Value.agg.injEq] at h1
  injection h1 with h1
  injection h1 with _ h1
  injection h1 with h1
  injection h1 with _ e1
  injection h3 with _ e2
  omega

set_option maxHeartbeats 2000000 in
set_option maxRecDepth 4000 in
theorem law_RatioMakes (a0 : Option Addr) (len0 cap0 : Nat) (z0 : List Int) (a1 : Option Addr) (len1 cap1 : Nat) (z1 : List Int) (w : World) (h0 : IsRow .u32 w a0 len0 cap0 z0) (h1 : IsRow .u32 w a1 len1 cap1 z1) (hT : Tab w) :
    Calls Tryd.prog 3 #[.slice a0 len0 cap0, .slice a1 len1 cap1] w fun e w' => e = .returned (.bool true) ∧ Fr w w' := by
  obtain ⟨x, hx⟩ := arg_row h0
  obtain ⟨y, hy⟩ := arg_row h1
  have HX := hide hx
  have HY := hide hy
  have HT := hide hT
  have nx := hx.nl
  have ny := hy.nl
  have mx : nlen 10 x ≤ 100000 := by have := nl10 (lt_of_nlen b32 nx); omega
  have my : nlen 10 y ≤ 100000 := by have := nl10 (lt_of_nlen b32 ny); omega
  clear h0 h1 hx hy hT
  go_enter Tryd.func3, Tryd.ntmps3
  go_wp2_with fail
  refine (ofL_any _ _ x y _ HT.out HX.out HY.out).mono ?_
  rintro e w1 ⟨u1, u2, u3, u4, u5, u6, t1, t2, t3, t4, t5, t6, rfl, rv, rf, f1⟩
  have e5 := rf.den
  have FW := hide f1
  have RV := hide rv
  have RF := hide rf
  clear rv rf f1 HX HY
  by_cases hy0 : y = 0
  · subst hy0
    rw [nlen_zero] at e5
    subst e5
    clear RV
    simp only [ne_eq, not_true_eq_false, decide_false]
    go_wp2_with fail
    obtain ⟨W1, hW1⟩ : ∃ W, W = (((w1.alloc (Obj.cells #[Value.slice u1 u2 u3, Value.slice u4 u5 u6] 26)).alloc (Obj.cells #[Value.slice t1 t2 t3, Value.slice t4 0 t6] 29)).alloc (Obj.cells #[Value.slice none 0 0, Value.slice none 0 0] 26)) := ⟨_, rfl⟩
    have f1 : Fr w1 W1 := by rw [hW1]; exact (((Fr.alloc w1 (Obj.cells #[Value.slice u1 u2 u3, Value.slice u4 u5 u6] 26)).trans (Fr.alloc _ (Obj.cells #[Value.slice t1 t2 t3, Value.slice t4 0 t6] 29))).trans (Fr.alloc _ (Obj.cells #[Value.slice none 0 0, Value.slice none 0 0] 26)))
    have s5 : Slot2 w1 W1 (w1.heap.size) (.slice u1 u2 u3) (.slice u4 u5 u6) := by
      rw [hW1]; simpa using ((Slot2.new (Fr.refl w1) u1 u2 u3 u4 u5 u6 26).fr (Fr.alloc _ _)).fr (Fr.alloc _ _)
    have s6 : Slot2 w1 W1 (w1.heap.size + 1) (.slice t1 t2 t3) (.slice t4 0 t6) := by
      rw [hW1]; simpa using (Slot2.new (Fr.alloc w1 (Obj.cells #[Value.slice u1 u2 u3, Value.slice u4 u5 u6] 26)) t1 t2 t3 t4 0 t6 29).fr (Fr.alloc _ _)
    rw [← hW1]
    clear hW1
    have S5 := hide s5
    have S6 := hide s6
    have FW := hide (FW.out.trans f1)
    clear s5 s6 f1
    refine (terms_rat _ 0 1 _ (rat_zero _ (by omega) rfl) (by rw [nlen_zero]; omega)).mono ?_
    rintro e w2 ⟨a2, c2, b2, k2, rfl, i2, j2, f2⟩
    have E1 : Hid (rN 0 1 = 0) := hide (by simp [rN])
    have E2 : Hid (rD 0 1 = 1) := hide (by simp [rD])
    rw [E1.out] at i2 ⊢
    rw [E2.out] at j2 ⊢
    have S5 := hide (S5.out.fr f2)
    have S6 := hide (S6.out.fr f2)
    have FW := hide (FW.out.trans f2)
    clear f2 E1 E2
    have l2 := cell_lt S6.out.1
    simp only [] at l2
    go_wp2_with fail
    obtain ⟨W2, hW2⟩ : ∃ W, W = ((w2.alloc (Obj.cells #[Value.slice a2 (nlen 4294967296 0) c2] 24)).alloc (Obj.cells #[Value.slice b2 (nlen 4294967296 1) k2] 24)) := ⟨_, rfl⟩
    have f2 : Fr w2 W2 := by rw [hW2]; exact ((Fr.alloc w2 (Obj.cells #[Value.slice a2 (nlen 4294967296 0) c2] 24)).trans (Fr.alloc _ (Obj.cells #[Value.slice b2 (nlen 4294967296 1) k2] 24)))
    have s9 : Slot w2 W2 (w2.heap.size) (.slice a2 (nlen 4294967296 0) c2) := by
      rw [hW2]; simpa using (Slot.new (Fr.refl w2) a2 (nlen 4294967296 0) c2 24).fr (Fr.alloc _ _)
    have s10 : Slot w2 W2 (w2.heap.size + 1) (.slice b2 (nlen 4294967296 1) k2) := by
      rw [hW2]; simpa using Slot.new (Fr.alloc w2 (Obj.cells #[Value.slice a2 (nlen 4294967296 0) c2] 24)) b2 (nlen 4294967296 1) k2 24
    rw [← hW2]
    clear hW2
    have S9 := hide s9
    have I2 := hide (i2.fr f2)
    have J2 := hide (j2.fr f2)
    have S5 := hide (S5.out.fr f2)
    have S6 := hide (S6.out.fr f2)
    have FW := hide (FW.out.trans f2)
    clear f2 i2 j2 s9 s10
    refine (small_any _ 1 _ J2.out).mono ?_
    rintro e w3 ⟨rfl, f3⟩
    rw [if_pos (by omega), decide_eq_true (by omega)]
    have S5 := hide (S5.out.fr f3)
    have S6 := hide (S6.out.fr f3)
    have S9 := hide (S9.out.fr f3)
    have I2 := hide (I2.out.fr f3)
    have FW := hide (FW.out.trans f3)
    clear f3 J2
    go_wp2_with fail
    refine (wakes_any _ (Tab.fr HT.out FW.out)).mono ?_
    rintro e w4 ⟨rfl, f4⟩
    have S5 := hide (S5.out.fr f4)
    have S6 := hide (S6.out.fr f4)
    have S9 := hide (S9.out.fr f4)
    have I2 := hide (I2.out.fr f4)
    have FW := hide (FW.out.trans f4)
    clear f4
    have q5 := S5.out.1
    have q5' := S5.out.2.1
    have q6 := S6.out.1
    have q6' := S6.out.2.1
    have q9 := S9.out.1
    go_wp2_with fail
    refine (bits_any _ 0 _ I2.out (by rw [nlen_zero]; omega)).mono ?_
    rintro e w6 ⟨rfl, f6⟩
    rw [nlen_zero]
    have FW := hide (FW.out.trans f6)
    go_wp2_with fail
    go_ret
    exact ⟨rfl, FW.out⟩
  · have RV := hide (RV.out hy0)
    have p5 := nlen_pos (B := 10) (by omega) hy0
    have hp : 0 < t5 := by omega
    rw [decide_eq_true hy0]
    clear e5 p5
    go_wp2_with fail
    obtain ⟨W1, hW1⟩ : ∃ W, W = (((w1.alloc (Obj.cells #[Value.slice u1 u2 u3, Value.slice u4 u5 u6] 26)).alloc (Obj.cells #[Value.slice t1 t2 t3, Value.slice t4 t5 t6] 29)).alloc (Obj.cells #[Value.slice none 0 0, Value.slice none 0 0] 26)) := ⟨_, rfl⟩
    have f1 : Fr w1 W1 := by rw [hW1]; exact (((Fr.alloc w1 (Obj.cells #[Value.slice u1 u2 u3, Value.slice u4 u5 u6] 26)).trans (Fr.alloc _ (Obj.cells #[Value.slice t1 t2 t3, Value.slice t4 t5 t6] 29))).trans (Fr.alloc _ (Obj.cells #[Value.slice none 0 0, Value.slice none 0 0] 26)))
    have s5 : Slot2 w1 W1 (w1.heap.size) (.slice u1 u2 u3) (.slice u4 u5 u6) := by
      rw [hW1]; simpa using ((Slot2.new (Fr.refl w1) u1 u2 u3 u4 u5 u6 26).fr (Fr.alloc _ _)).fr (Fr.alloc _ _)
    have s6 : Slot2 w1 W1 (w1.heap.size + 1) (.slice t1 t2 t3) (.slice t4 t5 t6) := by
      rw [hW1]; simpa using (Slot2.new (Fr.alloc w1 (Obj.cells #[Value.slice u1 u2 u3, Value.slice u4 u5 u6] 26)) t1 t2 t3 t4 t5 t6 29).fr (Fr.alloc _ _)
    rw [← hW1]
    clear hW1
    have S5 := hide s5
    have S6 := hide s6
    have FW := hide (FW.out.trans f1)
    have RV := hide (RV.out.fr f1)
    have RF := hide (RF.out.fr f1)
    clear s5 s6 f1
    refine (terms_rat _ 0 1 _ (rat_zero _ (by omega) rfl) (by rw [nlen_zero]; omega)).mono ?_
    rintro e w2 ⟨a2, c2, b2, k2, rfl, i2, j2, f2⟩
    have E1 : Hid (rN 0 1 = 0) := hide (by simp [rN])
    have E2 : Hid (rD 0 1 = 1) := hide (by simp [rD])
    rw [E1.out] at i2 ⊢
    rw [E2.out] at j2 ⊢
    have S5 := hide (S5.out.fr f2)
    have S6 := hide (S6.out.fr f2)
    have RV := hide (RV.out.fr f2)
    have RF := hide (RF.out.fr f2)
    have FW := hide (FW.out.trans f2)
    clear f2 E1 E2
    have l2 := cell_lt S6.out.1
    simp only [] at l2
    go_wp2_with fail
    obtain ⟨W2, hW2⟩ : ∃ W, W = ((w2.alloc (Obj.cells #[Value.slice a2 (nlen 4294967296 0) c2] 24)).alloc (Obj.cells #[Value.slice b2 (nlen 4294967296 1) k2] 24)) := ⟨_, rfl⟩
    have f2 : Fr w2 W2 := by rw [hW2]; exact ((Fr.alloc w2 (Obj.cells #[Value.slice a2 (nlen 4294967296 0) c2] 24)).trans (Fr.alloc _ (Obj.cells #[Value.slice b2 (nlen 4294967296 1) k2] 24)))
    have s9 : Slot w2 W2 (w2.heap.size) (.slice a2 (nlen 4294967296 0) c2) := by
      rw [hW2]; simpa using (Slot.new (Fr.refl w2) a2 (nlen 4294967296 0) c2 24).fr (Fr.alloc _ _)
    have s10 : Slot w2 W2 (w2.heap.size + 1) (.slice b2 (nlen 4294967296 1) k2) := by
      rw [hW2]; simpa using Slot.new (Fr.alloc w2 (Obj.cells #[Value.slice a2 (nlen 4294967296 0) c2] 24)) b2 (nlen 4294967296 1) k2 24
    rw [← hW2]
    clear hW2
    have S9 := hide s9
    have I2 := hide (i2.fr f2)
    have J2 := hide (j2.fr f2)
    have S5 := hide (S5.out.fr f2)
    have S6 := hide (S6.out.fr f2)
    have RV := hide (RV.out.fr f2)
    have RF := hide (RF.out.fr f2)
    have FW := hide (FW.out.trans f2)
    clear f2 i2 j2 s9 s10
    refine (small_any _ 1 _ J2.out).mono ?_
    rintro e w3 ⟨rfl, f3⟩
    rw [if_pos (by omega), decide_eq_true (by omega)]
    have S5 := hide (S5.out.fr f3)
    have S6 := hide (S6.out.fr f3)
    have RV := hide (RV.out.fr f3)
    have RF := hide (RF.out.fr f3)
    have S9 := hide (S9.out.fr f3)
    have I2 := hide (I2.out.fr f3)
    have FW := hide (FW.out.trans f3)
    clear f3 J2
    go_wp2_with fail
    refine (wakes_any _ (Tab.fr HT.out FW.out)).mono ?_
    rintro e w4 ⟨rfl, f4⟩
    have S5 := hide (S5.out.fr f4)
    have S6 := hide (S6.out.fr f4)
    have RV := hide (RV.out.fr f4)
    have RF := hide (RF.out.fr f4)
    have S9 := hide (S9.out.fr f4)
    have I2 := hide (I2.out.fr f4)
    have FW := hide (FW.out.trans f4)
    clear f4
    have q5 := S5.out.1
    have q5' := S5.out.2.1
    have q6 := S6.out.1
    have q6' := S6.out.2.1
    have q9 := S9.out.1
    go_wp2_with fail
    refine (same_yes _ _ x y x y _ RV.out RF.out (by omega) (by omega) mx my rfl).mono ?_
    rintro e w5 ⟨rfl, f5⟩
    have S9 := hide (S9.out.fr f5)
    have I2 := hide (I2.out.fr f5)
    have FW := hide (FW.out.trans f5)
    clear f5 q5 q5' q6 q6' q9
    have q9 := S9.out.1
    go_wp2_with fail
    refine (bits_any _ 0 _ I2.out (by rw [nlen_zero]; omega)).mono ?_
    rintro e w6 ⟨rfl, f6⟩
    rw [nlen_zero]
    have FW := hide (FW.out.trans f6)
    go_wp2_with fail
    go_ret
    exact ⟨rfl, FW.out⟩
end Go.Proofs.YtimglhbllcjpbaaDoor
