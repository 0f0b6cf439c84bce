/- The document's decimals: Times, Cmp, Sub, Of, Made; the law's same and of. -/
import Derived.Test.YtimglhbllcjpbaaDoorDecL
namespace Go.Proofs.YtimglhbllcjpbaaDoor
set_option linter.unusedVariables false
set_option linter.unusedSimpArgs false
open Go.RowKit

theorem times_end {x k i : Nat} (hx : x < 10 ^ i) (hk : k ≤ 1099511627776) : x * k < 10 ^ (i + 13) := by
  rw [Nat.pow_add]
  have e : (10 : Nat) ^ 13 = 10000000000000 := by decide
  rw [e]
  have hp := pow_pos' ten2 i
  calc x * k ≤ 10 ^ i * k := Nat.mul_le_mul_right _ (Nat.le_of_lt hx)
    _ < 10 ^ i * 10000000000000 := Nat.mul_lt_mul_of_pos_left (by omega) hp

theorem tcarry_le {B : Nat} (hB : 2 ≤ B) (x m i : Nat) : tcarry B x m i ≤ m := by
  rcases Nat.eq_zero_or_pos m with h | h
  · subst h; unfold tcarry; rw [Nat.mul_zero, Nat.zero_div]; omega
  · exact Nat.le_of_lt (tcarry_lt hB x m i h)
set_option maxHeartbeats 1000000 in
set_option maxRecDepth 4000 in
theorem refTimes_any (va : Value) (x m : Nat) (w : World) (ha : IsDec w va x) (hx : nlen 10 x ≤ 1000000000) (hm : m ≤ 1099511627776) :
    Calls Tryd.prog 47 #[va, .int .i64 m] w fun e w' => ∃ v, e = .returned v ∧ IsDec w' v (x * m) ∧ Fr w w' := by
  have HA := hide ha
  obtain ⟨i0, hi, hz0, hz1, hz2⟩ := info_parts info64
  obtain ⟨a, ca, rfl, a2, a3, a4⟩ := ha
  clear a4
  have lx := hide (fun i (h : nlen 10 x ≤ i) => lt_of_nlen (B := 10) ten2 h)
  generalize nlen 10 x = N1 at *
  go_enter Tryd.func47, Tryd.ntmps47
  go_wp2_with fail
  go_loopw [5, 6, 7] (fun o c i wr => ∃ (k : Nat) (ao : Option Addr) (co : Nat), k ≤ N1 + 13 ∧ i = .int .i64 k ∧ c = .int .i64 (tcarry 10 x m k : Int) ∧ o = .slice ao k co ∧ Hid (wr.ownsRow w.heap.size 3 1 (.slice ao k co) k (rowOf .i64 k (dg 10 (x * m)))) ∧ Hid (Fr w wr)) (fun _ _ i _ => N1 + 14 - (intOf i).toNat)
  case atStart => exact ⟨0, none, 0, by omega, rfl, by rw [tcarry_zero]; rfl, rfl, World.ownsRow_nil _ _ _ _, Fr.refl _⟩
  case round =>
    obtain ⟨k, ao, co, hk, rfl, rfl, rfl, hO, hF⟩ := hrel
    have hcl := tcarry_le ten2 x m k
    have hst := times_step ten2 x m k
    have lx' := dg_lt ten2 x k
    have ls' := dg_lt ten2 (x * m) k
    by_cases hend : N1 ≤ k ∧ tcarry 10 x m k = 0
    · obtain ⟨e1, e3⟩ := hend
      have hlt : Hid (x * m < 10 ^ k) := by
        have h3 := tcarry_end x m k (lx.out k e1)
        rw [e3] at h3
        unfold Hid
        rcases Nat.lt_or_ge (x * m) (10 ^ k) with l | l
        · exact l
        · have := Nat.div_pos l (pow_pos' ten2 k); omega
      obtain ⟨_, _, he, hc1, hc2, _⟩ := own_form hO.out
      simp only [Value.slice.injEq] at he
      obtain ⟨rfl, _, rfl⟩ := he
      rw [e3]
      clear hst lx' ls' hcl
      go_wp2_with fail
      refine (trim_any (x * m) k co ao _ hlt.out hc1 hc2 (own_addr hO.out) (own_cs hO.out)).mono ?_
      rintro e w1 ⟨rfl, rfl⟩
      have hd : Hid (IsDec w1 (.slice ao (nlen 10 (x * m)) co) (x * m)) := ⟨ao, co, rfl, by have := nlen_le ten2 hlt.out; omega, hc2, (own_cs hO.out).less (nlen_le ten2 hlt.out)⟩
      go_wp2_with fail
      go_ret
      exact ⟨_, rfl, hd, hF⟩
    · have hk2 : k < N1 + 13 := by
        rcases Nat.lt_or_ge k (N1 + 13) with l | l
        · exact l
        · exfalso
          apply hend
          obtain rfl : k = N1 + 13 := by omega
          refine ⟨by omega, ?_⟩
          rw [tcarry_end x m _ (lx.out _ (by omega))]
          exact Nat.div_eq_of_lt (times_end (lx.out _ (Nat.le_refl _)) hm)
      have HRX := hide (refAt_any _ x k wr (HA.out.fr hF.out) (by omega))
      have hcont : k < N1 ∨ (¬ k < N1 ∧ 0 < tcarry 10 x m k) := by omega
      have HD : ∃ d1, dg 10 (x * m) k = d1 := ⟨_, rfl⟩
      obtain ⟨d1, HD⟩ := HD
      have HC : ∃ c1, tcarry 10 x m (k + 1) = c1 := ⟨_, rfl⟩
      obtain ⟨c1, HC⟩ := HC
      rw [HC, HD] at hst
      rw [HD] at ls'
      generalize tcarry 10 x m k = c0 at *
      generalize dg 10 x k = dx at *
      have HC' := hide HC
      have HD' := hide HD
      obtain ⟨P, hP⟩ : ∃ P : Nat, P = dx * m := ⟨_, rfl⟩
      have hP2 : P ≤ 9 * m := by rw [hP]; exact Nat.mul_le_mul_right _ (by omega)
      have hPi : (dx : Int) * m = (P : Int) := by rw [hP]; simp
      rw [← hP] at hst
      have hq1 : Hid (((c0 : Int) + P) % 10 = d1) := by unfold Hid; omega
      have hq2 : Hid (((c0 : Int) + P) / 10 = c1) := by unfold Hid; omega
      have hbd : 0 ≤ (c0 : Int) + P ∧ (c0 : Int) + P ≤ 10995116277760 := by omega
      obtain ⟨bd1, bd2⟩ := hbd
      clear HC HD hst hend hP
      rcases hcont with g1 | ⟨g1, g2⟩
      all_goals (
        go_wp2_with fail
        refine HRX.out.mono ?_
        rintro e w' ⟨rfl, rfl⟩
        go_wp2_with (at_builtin; refine wpList_append_own _ rfl _ _ 27 rfl w.heap.size 3 i0 (.int .i64 0) 1 8 Tryd.underlying27 hi hz0 hz1 hz2 rfl (by decide) _ _ _ rfl (hO.out.alloc _) ⟨w'.heap.size, 0, none⟩ 1 1 [.int .i64 (((c0 : Int) + P) % 10)] rfl rfl ?c1 ?c2 ?c3 ?c4 ?c5 ?_)
        case c1 => exact cell_one_new _ _ _
        case c2 => intro u hu; simp at hu; subst hu; rfl
        case c3 => unfold maxLen; omega
        case c4 => omega
        case c5 => have := hF.out.size; simp; omega
        intro v' w2 hown' hgrow _
        obtain ⟨a2, c2, hv2, _, _, _⟩ := own_form hown'
        rw [hv2] at hown'
        rw [hv2]
        have hF2 : Fr w w2 := Below.grown (Below.alloc hF.out hF.out.size _) hgrow (by have := hF.out.size; simp; omega) (own_below hO.out)
        have hown2 : w2.ownsRow w.heap.size 3 1 (.slice a2 (k + 1) c2) (k + 1) (rowOf .i64 (k + 1) (dg 10 (x * m))) := by
          rw [← rowOf_snoc, HD'.out, ← hq1.out]; exact hown'
        have HO2 := hide hown2
        have HF2 := hide hF2
        clear hgrow hown' hv2 hown2 hF2
        go_wp2_with fail
        go_roundw
        case rel => exact ⟨k + 1, a2, c2, by omega, by go_num, by rw [HC'.out, ← hq2.out], rfl, HO2, HF2⟩
        case measure => simp [intOf]; omega)

set_option maxHeartbeats 1000000 in
set_option maxRecDepth 4000 in
theorem refCmp_any (va vb : Value) (x y : Nat) (w : World) (ha : IsDec w va x) (hb : IsDec w vb y) (hx : nlen 10 x ≤ 1000000000) (hy : nlen 10 y ≤ 1000000000) :
    Calls Tryd.prog 27 #[va, vb] w fun e w' => e = .returned (.int .i64 (cmpZ x y)) ∧ Fr w w' := by
  obtain ⟨a, ca, rfl, a2, a3, a4⟩ := ha
  obtain ⟨b, cb, rfl, b2, b3, b4⟩ := hb
  rcases Nat.lt_trichotomy (nlen 10 x) (nlen 10 y) with c | c | c
  · have hxy : x < y := by
      rcases Nat.lt_or_ge x y with l | l
      · exact l
      · have := nlen_mono ten2 l; omega
    have e : cmpZ x y = -1 := by unfold cmpZ; rw [if_pos hxy]
    rw [e]
    clear a4 b4 e hxy
    generalize nlen 10 x = N1 at *
    generalize nlen 10 y = N2 at *
    have c' : ¬ N1 = N2 := by omega
    go_enter Tryd.func27, Tryd.ntmps27
    go_wp2
    go_ret
    exact ⟨rfl, Fr.refl _⟩
  · have A4 := hide a4
    have B4 := hide b4
    rw [← c] at B4
    rw [← c] at b2 hy
    rw [← c]
    have hM3 : Hid (x / 10 ^ nlen 10 x = y / 10 ^ nlen 10 x) := by
      unfold Hid
      rw [Nat.div_eq_of_lt (lt_nlen ten2 x), Nat.div_eq_of_lt (lt_of_nlen ten2 (by omega))]
    clear a4 b4 c
    generalize nlen 10 x = M at *
    go_enter Tryd.func27, Tryd.ntmps27
    go_wp2_with fail
    go_loopw [5] (fun i wr => ∃ k q : Nat, k ≤ M ∧ i = .int .i64 ((k : Int) - 1) ∧ Hid (x / 10 ^ k = y / 10 ^ k) ∧ wr = w.drewN q) (fun i _ => (intOf i + 1).toNat)
    case atStart => exact ⟨M, 0, by omega, by go_num, hM3, rfl⟩
    case round =>
      obtain ⟨k, q, hk, rfl, hE, rfl⟩ := hrel
      by_cases c : k = 0
      · subst c
        go_wp2_with fail
        go_ret
        refine ⟨?_, ?_⟩
        · have := hE.out
          simp at this
          simp [cmpZ, this]
        · exact ⟨rfl, rfl, rfl, Nat.le_refl _, fun _ _ => rfl⟩
      · obtain ⟨k, rfl⟩ : ∃ j, k = j + 1 := ⟨k - 1, by omega⟩
        have e0 : ((k + 1 : Nat) : Int) - 1 = (k : Int) := by omega
        rw [e0]
        rcases A4.out with h | ⟨g1, o1, rfl, _, hc1⟩
        · omega
        rcases B4.out with h | ⟨g2, o2, rfl, _, hc2⟩
        · omega
        have x1 := hc1 k (by omega)
        have x2 := hc2 k (by omega)
        clear hc1 hc2
        have cl : Hid (dg 10 x k < dg 10 y k → x < y) := fun h => cmp_lt ten2 hE.out h
        have cg : Hid (dg 10 y k < dg 10 x k → y < x) := fun h => cmp_lt ten2 hE.out.symm h
        have ce : Hid (dg 10 x k = dg 10 y k → x / 10 ^ k = y / 10 ^ k) := fun h => cmp_eq ten2 hE.out h
        have lx := dg_lt ten2 x k
        have ly := dg_lt ten2 y k
        generalize dg 10 x k = dx at *
        generalize dg 10 y k = dy at *
        go_wp2_with fail
        go_quiet (fail)
        by_cases c1 : dx < dy
        · go_wp2_with fail
          go_ret
          exact ⟨by rw [cmpZ, if_pos (cl.out c1)]; rfl, rfl, rfl, rfl, Nat.le_refl _, fun _ _ => rfl⟩
        · go_wp2_with fail
          go_quiet (fail)
          by_cases c2 : dy < dx
          · go_wp2_with fail
            go_ret
            have := cg.out c2
            exact ⟨by rw [cmpZ, if_neg (by omega), if_neg (by omega)]; rfl, rfl, rfl, rfl, Nat.le_refl _, fun _ _ => rfl⟩
          · have hE2 := hide (ce.out (by omega))
            go_wp2_with fail
            go_roundw
            case rel => exact ⟨k, _, by omega, by go_num, hE2, rfl⟩
            case measure => simp [intOf]
  · have hxy : y < x := by
      rcases Nat.lt_or_ge y x with l | l
      · exact l
      · have := nlen_mono ten2 l; omega
    have e : cmpZ x y = 1 := by unfold cmpZ; rw [if_neg (by omega), if_neg (by omega)]
    rw [e]
    clear a4 b4 e hxy
    generalize nlen 10 x = N1 at *
    generalize nlen 10 y = N2 at *
    have c' : ¬ N1 = N2 := by omega
    have c'' : ¬ N1 < N2 := by omega
    go_enter Tryd.func27, Tryd.ntmps27
    go_wp2
    go_ret
    exact ⟨rfl, Fr.refl _⟩
end Go.Proofs.YtimglhbllcjpbaaDoor
