/- The law's of; the law TimesPow. -/
import Derived.Test.YtlkjajediboihaaTimesD
import Derived.Test.YtlkjajediboihaaDecP
namespace Go.Proofs.Ytlkjajediboihaa
set_option linter.unusedVariables false
set_option linter.unusedSimpArgs false
open Go.RowKit

set_option maxHeartbeats 400000 in
theorem ofLaw_any (va : Value) (x : Nat) (w : World) (ha : IsNat w va x) (hx : nlen 4294967296 x ≤ 1000) :
    Calls Try.prog 14 #[va] w fun e w' => ∃ v, e = .returned v ∧ IsDec w' v x ∧ Fr w w' := by
  have HA := hide ha
  obtain ⟨a, ca, rfl, a2, a3, a4⟩ := ha
  clear a4
  go_enter Try.func14, Try.ntmps14
  go_wp2_with fail
  refine (limbs_any _ x _ (HA.out.fr (Fr.alloc _ _)) (by omega)).mono ?_
  rintro e w1 ⟨v1, rfl, hown, f1⟩
  obtain ⟨a1, c1, rfl, _, _, _⟩ := own_form hown
  have hcs := own_cs hown
  clear hown
  go_wp2_with fail
  refine (refMade_any x _ c1 a1 _ (lt_nlen b32 x) hx hcs).mono ?_
  rintro e w2 ⟨v2, rfl, h2, f2⟩
  have H2 := hide h2
  clear h2 hcs
  go_wp2_with fail
  go_ret
  exact ⟨_, rfl, H2, ((Fr.alloc _ _).trans f1).trans f2⟩
theorem nlen_one {B : Nat} (hB : 2 ≤ B) : nlen B 1 = 1 := nlen_eq hB (by rw [Nat.pow_one]; omega) (.inr (by simp))
theorem nlen_powB {B x n : Nat} (hB : 2 ≤ B) (h : nlen B x ≤ n) : ∀ j, nlen B (x ^ j) ≤ n * j + 1 := by
  intro j
  induction j with
  | zero => rw [Nat.pow_zero, nlen_one hB]; omega
  | succ j ih =>
    rw [Nat.pow_succ]
    have := nlen_mul hB ih h
    rw [Nat.mul_succ]
    omega
theorem refOf_one (w : World) : Calls Try.prog 18 #[.int .u64 1] w fun e w' => ∃ v, e = .returned v ∧ IsDec w' v 1 ∧ Fr w w' := refOf_any 1 w (by omega)

set_option maxHeartbeats 2000000 in
theorem law_TimesPow (n k : Int) (w : World) (h0 : (Lit.int .u32 n).wf = true) (h1 : (Lit.int .i64 k).wf = true) :
    Calls Try.prog 4 #[.int .u32 n, .int .i64 k] w fun e w' => e = .returned (.bool true) ∧ Fr w w' := by
  obtain ⟨n0, n1⟩ := u32_bd h0
  have hk : -9223372036854775808 ≤ k ∧ k ≤ 9223372036854775807 := by
    simp [Lit.wf, IntKind.min, IntKind.max, IntKind.signed, IntKind.bits] at h1
    omega
  obtain ⟨k0, k1⟩ := hk
  clear h0 h1
  obtain ⟨N, rfl⟩ : ∃ N : Nat, n = N := ⟨n.toNat, by omega⟩
  have d1 : nlen 10 N ≤ 10 := nlen_le ten2 (by omega)
  have m1 : nlen 4294967296 N ≤ 1 := nlen_le b32 (by omega)
  have Dp := hide (nlen_powB ten2 d1)
  have Mp := hide (nlen_pow m1)
  have kc : (k ≤ 0 ∧ ∃ c : Nat, c = 0) ∨ (0 < k ∧ ∃ c : Nat, k % 40 = c ∧ c < 40) := by
    rcases Int.lt_or_le 0 k with h | h
    · exact .inr ⟨h, (k % 40).toNat, by omega, by omega⟩
    · exact .inl ⟨h, 0, rfl⟩
  go_enter Try.func4, Try.ntmps4
  rcases kc with ⟨kz, cnt, hc⟩ | ⟨kz, cnt, hc, hc2⟩
  · obtain ⟨hc3⟩ : Nonempty (cnt = 0) := ⟨hc⟩
    have pw : ∀ (w : World) (va : Value), IsNat w va N → Calls Try.prog 19 #[va, .int .i64 0] w fun e w' => ∃ a c, e = .returned (.agg #[.slice a (nlen 4294967296 (N ^ cnt)) c]) ∧ Res w w' a c (N ^ cnt) := fun w va h => by
      rw [hc, Nat.pow_zero]; exact pow_none 0 va N w (by omega) (by omega) h
    have pm : ∀ (w : World) (va : Value), IsNat w va N → Calls Try.prog 19 #[va, .int .i64 k] w fun e w' => ∃ a c, e = .returned (.agg #[.slice a (nlen 4294967296 1) c]) ∧ Res w w' a c 1 := fun w va h => pow_none k va N w k0 kz h
    have PW := hide pw
    have PM := hide pm
    have hc2 : cnt < 40 := by omega
    have HC0 := hide hc
    clear hc hc3
    clear pw pm
    go_wp2_with fail
    refine (refOf_one _).mono ?_
    rintro e w1 ⟨v1, rfl, e1, f1⟩
    have E1 := hide e1
    have F1 := hide f1
    clear e1 f1
    go_wp2_with fail
    go_loopw [6, 14] (fun o i wr => ∃ j : Nat, j ≤ cnt ∧ i = .int .i64 j ∧ Hid (IsDec wr o (N ^ j)) ∧ Hid (Fr w wr)) (fun _ i _ => cnt - (intOf i).toNat)
    case atStart => exact ⟨0, by omega, rfl, by rw [Nat.pow_zero]; exact E1, F1⟩
    case round =>
      obtain ⟨j, hj, rfl, hD, hF⟩ := hrel
      by_cases c : j < cnt
      · exfalso; have := HC0.out; omega
      · obtain rfl : j = cnt := by omega
        go_wp2_with fail
        refine (of_any N _ (by omega)).mono ?_
        rintro e w2 ⟨a2, c2, rfl, i2, _, f2⟩
        go_wp2_with fail
        refine (PM.out _ _ i2).mono ?_
        rintro e w3 ⟨a3, c3, rfl, i3, _, f3⟩
        go_wp2_with fail
        refine (small_any _ _ _ i3).mono ?_
        rintro e w4 ⟨rfl, f4⟩
        rw [if_pos (by omega), decide_eq_true (by omega)]
        have hD4 := hide (((hD.out.fr f2).fr f3).fr f4)
        have F4 := hide (((hF.out.trans f2).trans f3).trans f4)
        clear i2 i3 f2 f3 f4 hD hF
        go_wp2_with fail
        refine (wakes_any _).mono ?_
        rintro e w5 ⟨rfl, f5⟩
        go_wp2_with fail
        refine (of_any N _ (by omega)).mono ?_
        rintro e w6 ⟨a6, c6, rfl, i6, _, f6⟩
        go_wp2_with fail
        refine (PW.out _ _ i6).mono ?_
        rintro e w7 ⟨a7, c7, rfl, i7, _, f7⟩
        have hm := Mp.out j
        go_wp2_with fail
        refine (ofLaw_any _ _ _ i7 (by omega)).mono ?_
        rintro e w8 ⟨v8, rfl, i8, f8⟩
        have hD8 := hide ((((hD4.out.fr f5).fr f6).fr f7).fr f8)
        have F8 := hide ((((F4.out.trans f5).trans f6).trans f7).trans f8)
        have I8 := hide i8
        clear i6 i7 i8 f5 f6 f7 f8 hD4 F4
        go_wp2_with fail
        refine (refCmp_any _ _ _ _ _ I8.out hD8.out (by have := Dp.out j; omega) (by have := Dp.out j; omega)).mono ?_
        rintro e w9 ⟨rfl, f9⟩
        rw [show cmpZ (N ^ j) (N ^ j) = 0 by simp [cmpZ]]
        have F9 := F8.out.trans f9
        clear f9
        go_wp2_with fail
        go_ret
        exact ⟨rfl, F9⟩
  · have pw : ∀ (w : World) (va : Value), IsNat w va N → Calls Try.prog 19 #[va, .int .i64 (cnt : Int)] w fun e w' => ∃ a c, e = .returned (.agg #[.slice a (nlen 4294967296 (N ^ cnt)) c]) ∧ Res w w' a c (N ^ cnt) := fun w va h => by
      have := pow_any cnt (cnt : Int) va N w (by omega) (by omega) (by omega) h (fun j hj => by have := Mp.out j; omega)
      rwa [Int.toNat_natCast] at this
    have pm : ∀ (w : World) (va : Value), IsNat w va N → Calls Try.prog 19 #[va, .int .i64 0] w fun e w' => ∃ a c, e = .returned (.agg #[.slice a (nlen 4294967296 1) c]) ∧ Res w w' a c 1 := fun w va h => pow_none 0 va N w (by omega) (by omega) h
    have PW := hide pw
    have PM := hide pm
    clear pw pm
    go_wp2_with fail
    rw [hc]
    refine (refOf_one _).mono ?_
    rintro e w1 ⟨v1, rfl, e1, f1⟩
    have E1 := hide e1
    have F1 := hide f1
    clear e1 f1
    go_wp2_with fail
    go_loopw [6, 14] (fun o i wr => ∃ j : Nat, j ≤ cnt ∧ i = .int .i64 j ∧ Hid (IsDec wr o (N ^ j)) ∧ Hid (Fr w wr)) (fun _ i _ => cnt - (intOf i).toNat)
    case atStart => exact ⟨0, by omega, rfl, by rw [Nat.pow_zero]; exact E1, F1⟩
    case round =>
      obtain ⟨j, hj, rfl, hD, hF⟩ := hrel
      by_cases c : j < cnt
      · go_wp2_with fail
        refine (refTimes_any _ _ N _ hD.out (by have := Dp.out j; omega) (by omega)).mono ?_
        rintro e w2 ⟨v2, rfl, e2, f2⟩
        rw [← Nat.pow_succ] at e2
        have E2 := hide e2
        have F2 := hide (hF.out.trans f2)
        clear e2 f2
        go_wp2_with fail
        go_roundw
        case rel => exact ⟨j + 1, by omega, by go_num, E2, F2⟩
        case measure => simp [intOf]; omega
      · obtain rfl : j = cnt := by omega
        go_wp2_with fail
        refine (of_any N _ (by omega)).mono ?_
        rintro e w2 ⟨a2, c2, rfl, i2, _, f2⟩
        go_wp2_with fail
        refine (PM.out _ _ i2).mono ?_
        rintro e w3 ⟨a3, c3, rfl, i3, _, f3⟩
        go_wp2_with fail
        refine (small_any _ _ _ i3).mono ?_
        rintro e w4 ⟨rfl, f4⟩
        rw [if_pos (by omega), decide_eq_true (by omega)]
        have hD4 := hide (((hD.out.fr f2).fr f3).fr f4)
        have F4 := hide (((hF.out.trans f2).trans f3).trans f4)
        clear i2 i3 f2 f3 f4 hD hF
        go_wp2_with fail
        refine (wakes_any _).mono ?_
        rintro e w5 ⟨rfl, f5⟩
        go_wp2_with fail
        refine (of_any N _ (by omega)).mono ?_
        rintro e w6 ⟨a6, c6, rfl, i6, _, f6⟩
        go_wp2_with fail
        refine (PW.out _ _ i6).mono ?_
        rintro e w7 ⟨a7, c7, rfl, i7, _, f7⟩
        have hm := Mp.out j
        go_wp2_with fail
        refine (ofLaw_any _ _ _ i7 (by omega)).mono ?_
        rintro e w8 ⟨v8, rfl, i8, f8⟩
        have hD8 := hide ((((hD4.out.fr f5).fr f6).fr f7).fr f8)
        have F8 := hide ((((F4.out.trans f5).trans f6).trans f7).trans f8)
        have I8 := hide i8
        clear i6 i7 i8 f5 f6 f7 f8 hD4 F4
        go_wp2_with fail
        refine (refCmp_any _ _ _ _ _ I8.out hD8.out (by have := Dp.out j; omega) (by have := Dp.out j; omega)).mono ?_
        rintro e w9 ⟨rfl, f9⟩
        rw [show cmpZ (N ^ j) (N ^ j) = 0 by simp [cmpZ]]
        have F9 := F8.out.trans f9
        clear f9
        go_wp2_with fail
        go_ret
        exact ⟨rfl, F9⟩
end Go.Proofs.Ytlkjajediboihaa
