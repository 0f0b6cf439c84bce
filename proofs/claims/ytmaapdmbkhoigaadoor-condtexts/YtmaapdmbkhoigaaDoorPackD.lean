/- PackD: several texts in one. -/
import Derived.Test.YtmaapdmbkhoigaaDoorPackA
/- The document's decimals: at, trim, Add, Times. -/
namespace Go.Proofs.YtmaapdmbkhoigaaDoor
set_option linter.unusedVariables false
set_option linter.unusedSimpArgs false
open Go.RowKit

theorem ten2 : 2 ≤ 10 := by decide
/-- A number in decimals, as the document has it: the least significant one first, none behind the last that isn't 0. -/
def IsDec (w : World) (v : Value) (x : Nat) : Prop :=
  ∃ a cap, v = .slice a (nlen 10 x) cap ∧ nlen 10 x ≤ cap ∧ cap ≤ maxLen ∧ Cs .i64 w a (nlen 10 x) (dg 10 x)
theorem IsDec.fr {w w' : World} {v : Value} {x : Nat} (h : IsDec w v x) (q : Fr w w') : IsDec w' v x := by
  obtain ⟨a, cap, h1, h2, h3, h4⟩ := h
  exact ⟨a, cap, h1, h2, h3, h4.fr q⟩
set_option maxHeartbeats 400000 in
set_option maxRecDepth 4000 in
theorem refAt_any (v : Value) (x i : Nat) (w : World) (h : IsDec w v x) (hi : i ≤ 1000000000000) :
    Calls Tryd.prog 56 #[v, .int .i64 i] w fun e w' => e = .returned (.int .i64 (dg 10 x i : Int)) ∧ w' = w := by
  obtain ⟨a, cap, rfl, h2, h3, h4⟩ := h
  have hlt := dg_lt ten2 x i
  by_cases c : i < nlen 10 x
  · rcases h4 with h4 | ⟨b, off, rfl, hb, hc⟩
    · omega
    · have hci := hc i c
      generalize dg 10 x i = d at *
      generalize nlen 10 x = N at *
      go_enter Tryd.func56, Tryd.ntmps56
      go_wp2
      go_ret
      exact ⟨rfl, rfl⟩
  · have e : dg 10 x i = 0 := dg_out (lt_of_nlen ten2 (by omega))
    rw [e]
    clear e hlt h4
    generalize nlen 10 x = N at *
    go_enter Tryd.func56, Tryd.ntmps56
    go_wp2
    go_ret
    exact ⟨rfl, rfl⟩

set_option maxHeartbeats 400000 in
set_option maxRecDepth 4000 in
theorem trim_any (x N cap : Nat) (a : Option Addr) (w : World) (hx : x < 10 ^ N) (h1 : N ≤ cap) (h2 : cap ≤ maxLen) (hn : a = none → cap = 0) (h : Cs .i64 w a N (dg 10 x)) :
    Calls Tryd.prog 57 #[.slice a N cap] w fun e w' => e = .returned (.slice a (nlen 10 x) cap) ∧ w' = w := by
  have HX := hide hx
  have HN := hide hn
  clear hx hn
  unfold maxLen at h2
  go_enter Tryd.func57, Tryd.ntmps57
  go_wp2
  go_loop [3] (fun s => ∃ k : Nat, k ≤ N ∧ s = .int .i64 k ∧ Hid (x < 10 ^ k)) (fun s => (intOf s).toNat)
  case atStart => exact ⟨N, by omega, rfl, HX⟩
  case round =>
    obtain ⟨k, hk, rfl, HK⟩ := hrel
    by_cases c : k = 0
    · subst c
      have e : x = 0 := by have := HK.out; rw [Nat.pow_zero] at this; omega
      subst e
      rcases a with _ | ad
      · obtain rfl := HN.out rfl
        obtain rfl : N = 0 := by omega
        go_wp2
        go_ret
        exact ⟨by rw [nlen_zero]; rfl, rfl⟩
      · go_wp2
        go_ret
        exact ⟨by rw [nlen_zero]; rfl, rfl⟩
    · obtain ⟨k, rfl⟩ : ∃ j, k = j + 1 := ⟨k - 1, by omega⟩
      rcases h with h | ⟨b, off, rfl, hb, hc⟩
      · omega
      · have hci := hc k (by omega)
        have hlt := dg_lt ten2 x k
        by_cases c0 : dg 10 x k = 0
        · have HK2 : Hid (x < 10 ^ k) := lt_of_dg HK.out c0
          rw [c0] at hci
          clear c0 hlt hc
          go_wp2
          go_round
          case rel => exact ⟨k, by omega, by go_num, HK2⟩
          case measure => simp [intOf]
        · have hl := hide (nlen_eq ten2 HK.out (.inr (le_of_dg c0)))
          clear hc
          generalize dg 10 x k = d at *
          go_wp2
          go_ret
          exact ⟨by rw [hl.out]; rfl, rfl⟩

theorem own_addr {w : World} {base n c : Nat} {e : TypeId} {a : Option Addr} {xs : List Value} (h : w.ownsRow base e 1 (.slice a n c) n xs) : a = none → c = 0 := by
  rintro rfl
  rcases h.2 with ⟨hv, hn⟩ | ⟨g, cap, cur, hv, hb, hh, _⟩
  · simp only [Value.slice.injEq] at hv; exact hv.2.2
  · simp at hv

end Go.Proofs.YtmaapdmbkhoigaaDoor

/- The document's decimals: Times, Cmp, Sub, Of, Made; the law's same and of. -/
namespace Go.Proofs.YtmaapdmbkhoigaaDoor
set_option linter.unusedVariables false
set_option linter.unusedSimpArgs false
open Go.RowKit

theorem times_end {x k i : Nat} (hx : x < 10 ^ i) (hk : k ≤ 1099511627776) : x * k < 10 ^ (i + 13) := by
  rw [Nat.pow_add]
  have e : (10 : Nat) ^ 13 = 10000000000000 := by decide
  rw [e]
  have hp := pow_pos' ten2 i
  calc x * k ≤ 10 ^ i * k := Nat.mul_le_mul_right _ (Nat.le_of_lt hx)
    _ < 10 ^ i * 10000000000000 := Nat.mul_lt_mul_of_pos_left (by omega) hp

theorem tcarry_le {B : Nat} (hB : 2 ≤ B) (x m i : Nat) : tcarry B x m i ≤ m := by
  rcases Nat.eq_zero_or_pos m with h | h
  · subst h; unfold tcarry; rw [Nat.mul_zero, Nat.zero_div]; omega
  · exact Nat.le_of_lt (tcarry_lt hB x m i h)
set_option maxHeartbeats 1000000 in
set_option maxRecDepth 4000 in
theorem refTimes_any (va : Value) (x m : Nat) (w : World) (ha : IsDec w va x) (hx : nlen 10 x ≤ 1000000000) (hm : m ≤ 1099511627776) :
    Calls Tryd.prog 36 #[va, .int .i64 m] w fun e w' => ∃ v, e = .returned v ∧ IsDec w' v (x * m) ∧ Fr w w' := by
  have HA := hide ha
  obtain ⟨i0, hi, hz0, hz1, hz2⟩ := info_parts info64
  obtain ⟨a, ca, rfl, a2, a3, a4⟩ := ha
  clear a4
  have lx := hide (fun i (h : nlen 10 x ≤ i) => lt_of_nlen (B := 10) ten2 h)
  generalize nlen 10 x = N1 at *
  go_enter Tryd.func36, Tryd.ntmps36
  go_wp2_with fail
  go_loopw [5, 6, 7] (fun o c i wr => ∃ (k : Nat) (ao : Option Addr) (co : Nat), k ≤ N1 + 13 ∧ i = .int .i64 k ∧ c = .int .i64 (tcarry 10 x m k : Int) ∧ o = .slice ao k co ∧ Hid (wr.ownsRow w.heap.size 3 1 (.slice ao k co) k (rowOf .i64 k (dg 10 (x * m)))) ∧ Hid (Fr w wr)) (fun _ _ i _ => N1 + 14 - (intOf i).toNat)
  case atStart => exact ⟨0, none, 0, by omega, rfl, by rw [tcarry_zero]; rfl, rfl, World.ownsRow_nil _ _ _ _, Fr.refl _⟩
  case round =>
    obtain ⟨k, ao, co, hk, rfl, rfl, rfl, hO, hF⟩ := hrel
    have hcl := tcarry_le ten2 x m k
    have hst := times_step ten2 x m k
    have lx' := dg_lt ten2 x k
    have ls' := dg_lt ten2 (x * m) k
    by_cases hend : N1 ≤ k ∧ tcarry 10 x m k = 0
    · obtain ⟨e1, e3⟩ := hend
      have hlt : Hid (x * m < 10 ^ k) := by
        have h3 := tcarry_end x m k (lx.out k e1)
        rw [e3] at h3
        unfold Hid
        rcases Nat.lt_or_ge (x * m) (10 ^ k) with l | l
        · exact l
        · have := Nat.div_pos l (pow_pos' ten2 k); omega
      obtain ⟨_, _, he, hc1, hc2, _⟩ := own_form hO.out
      simp only [Value.slice.injEq] at he
      obtain ⟨rfl, _, rfl⟩ := he
      rw [e3]
      clear hst lx' ls' hcl
      go_wp2_with fail
      refine (trim_any (x * m) k co ao _ hlt.out hc1 hc2 (own_addr hO.out) (own_cs hO.out)).mono ?_
      rintro e w1 ⟨rfl, rfl⟩
      have hd : Hid (IsDec w1 (.slice ao (nlen 10 (x * m)) co) (x * m)) := ⟨ao, co, rfl, by have := nlen_le ten2 hlt.out; omega, hc2, (own_cs hO.out).less (nlen_le ten2 hlt.out)⟩
      go_wp2_with fail
      go_ret
      exact ⟨_, rfl, hd, hF⟩
    · have hk2 : k < N1 + 13 := by
        rcases Nat.lt_or_ge k (N1 + 13) with l | l
        · exact l
        · exfalso
          apply hend
          obtain rfl : k = N1 + 13 := by omega
          refine ⟨by omega, ?_⟩
          rw [tcarry_end x m _ (lx.out _ (by omega))]
          exact Nat.div_eq_of_lt (times_end (lx.out _ (Nat.le_refl _)) hm)
      have HRX := hide (refAt_any _ x k wr (HA.out.fr hF.out) (by omega))
      have hcont : k < N1 ∨ (¬ k < N1 ∧ 0 < tcarry 10 x m k) := by omega
      have HD : ∃ d1, dg 10 (x * m) k = d1 := ⟨_, rfl⟩
      obtain ⟨d1, HD⟩ := HD
      have HC : ∃ c1, tcarry 10 x m (k + 1) = c1 := ⟨_, rfl⟩
      obtain ⟨c1, HC⟩ := HC
      rw [HC, HD] at hst
      rw [HD] at ls'
      generalize tcarry 10 x m k = c0 at *
      generalize dg 10 x k = dx at *
      have HC' := hide HC
      have HD' := hide HD
      obtain ⟨P, hP⟩ : ∃ P : Nat, P = dx * m := ⟨_, rfl⟩
      have hP2 : P ≤ 9 * m := by rw [hP]; exact Nat.mul_le_mul_right _ (by omega)
      have hPi : (dx : Int) * m = (P : Int) := by rw [hP]; simp
      rw [← hP] at hst
      have hq1 : Hid (((c0 : Int) + P) % 10 = d1) := by unfold Hid; omega
      have hq2 : Hid (((c0 : Int) + P) / 10 = c1) := by unfold Hid; omega
      have hbd : 0 ≤ (c0 : Int) + P ∧ (c0 : Int) + P ≤ 10995116277760 := by omega
      obtain ⟨bd1, bd2⟩ := hbd
      clear HC HD hst hend hP
      rcases hcont with g1 | ⟨g1, g2⟩
      all_goals (
        go_wp2_with fail
        refine HRX.out.mono ?_
        rintro e w' ⟨rfl, rfl⟩
        go_wp2_with (at_builtin; refine wpList_append_own _ rfl _ _ 66 rfl w.heap.size 3 i0 (.int .i64 0) 1 8 Tryd.underlying66 hi hz0 hz1 hz2 rfl (by decide) _ _ _ rfl (hO.out.alloc _) ⟨w'.heap.size, 0, none⟩ 1 1 [.int .i64 (((c0 : Int) + P) % 10)] rfl rfl ?c1 ?c2 ?c3 ?c4 ?c5 ?_)
        case c1 => exact cell_one_new _ _ _
        case c2 => intro u hu; simp at hu; subst hu; rfl
        case c3 => unfold maxLen; omega
        case c4 => omega
        case c5 => have := hF.out.size; simp; omega
        intro v' w2 hown' hgrow _
        obtain ⟨a2, c2, hv2, _, _, _⟩ := own_form hown'
        rw [hv2] at hown'
        rw [hv2]
        have hF2 : Fr w w2 := Below.grown (Below.alloc hF.out hF.out.size _) hgrow (by have := hF.out.size; simp; omega) (own_below hO.out)
        have hown2 : w2.ownsRow w.heap.size 3 1 (.slice a2 (k + 1) c2) (k + 1) (rowOf .i64 (k + 1) (dg 10 (x * m))) := by
          rw [← rowOf_snoc, HD'.out, ← hq1.out]; exact hown'
        have HO2 := hide hown2
        have HF2 := hide hF2
        clear hgrow hown' hv2 hown2 hF2
        go_wp2_with fail
        go_roundw
        case rel => exact ⟨k + 1, a2, c2, by omega, by go_num, by rw [HC'.out, ← hq2.out], rfl, HO2, HF2⟩
        case measure => simp [intOf]; omega)

set_option maxHeartbeats 1000000 in
set_option maxRecDepth 4000 in
theorem refCmp_any (va vb : Value) (x y : Nat) (w : World) (ha : IsDec w va x) (hb : IsDec w vb y) (hx : nlen 10 x ≤ 1000000000) (hy : nlen 10 y ≤ 1000000000) :
    Calls Tryd.prog 39 #[va, vb] w fun e w' => e = .returned (.int .i64 (cmpZ x y)) ∧ Fr w w' := by
  obtain ⟨a, ca, rfl, a2, a3, a4⟩ := ha
  obtain ⟨b, cb, rfl, b2, b3, b4⟩ := hb
  rcases Nat.lt_trichotomy (nlen 10 x) (nlen 10 y) with c | c | c
  · have hxy : x < y := by
      rcases Nat.lt_or_ge x y with l | l
      · exact l
      · have := nlen_mono ten2 l; omega
    have e : cmpZ x y = -1 := by unfold cmpZ; rw [if_pos hxy]
    rw [e]
    clear a4 b4 e hxy
    generalize nlen 10 x = N1 at *
    generalize nlen 10 y = N2 at *
    have c' : ¬ N1 = N2 := by omega
    go_enter Tryd.func39, Tryd.ntmps39
    go_wp2
    go_ret
    exact ⟨rfl, Fr.refl _⟩
  · have A4 := hide a4
    have B4 := hide b4
    rw [← c] at B4
    rw [← c] at b2 hy
    rw [← c]
    have hM3 : Hid (x / 10 ^ nlen 10 x = y / 10 ^ nlen 10 x) := by
      unfold Hid
      rw [Nat.div_eq_of_lt (lt_nlen ten2 x), Nat.div_eq_of_lt (lt_of_nlen ten2 (by omega))]
    clear a4 b4 c
    generalize nlen 10 x = M at *
    go_enter Tryd.func39, Tryd.ntmps39
    go_wp2_with fail
    go_loopw [5] (fun i wr => ∃ k q : Nat, k ≤ M ∧ i = .int .i64 ((k : Int) - 1) ∧ Hid (x / 10 ^ k = y / 10 ^ k) ∧ wr = w.drewN q) (fun i _ => (intOf i + 1).toNat)
    case atStart => exact ⟨M, 0, by omega, by go_num, hM3, rfl⟩
    case round =>
      obtain ⟨k, q, hk, rfl, hE, rfl⟩ := hrel
      by_cases c : k = 0
      · subst c
        go_wp2_with fail
        go_ret
        refine ⟨?_, ?_⟩
        · have := hE.out
          simp at this
          simp [cmpZ, this]
        · exact ⟨rfl, rfl, rfl, Nat.le_refl _, fun _ _ => rfl⟩
      · obtain ⟨k, rfl⟩ : ∃ j, k = j + 1 := ⟨k - 1, by omega⟩
        have e0 : ((k + 1 : Nat) : Int) - 1 = (k : Int) := by omega
        rw [e0]
        rcases A4.out with h | ⟨g1, o1, rfl, _, hc1⟩
        · omega
        rcases B4.out with h | ⟨g2, o2, rfl, _, hc2⟩
        · omega
        have x1 := hc1 k (by omega)
        have x2 := hc2 k (by omega)
        clear hc1 hc2
        have cl : Hid (dg 10 x k < dg 10 y k → x < y) := fun h => cmp_lt ten2 hE.out h
        have cg : Hid (dg 10 y k < dg 10 x k → y < x) := fun h => cmp_lt ten2 hE.out.symm h
        have ce : Hid (dg 10 x k = dg 10 y k → x / 10 ^ k = y / 10 ^ k) := fun h => cmp_eq ten2 hE.out h
        have lx := dg_lt ten2 x k
        have ly := dg_lt ten2 y k
        generalize dg 10 x k = dx at *
        generalize dg 10 y k = dy at *
        go_wp2_with fail
        go_quiet (fail)
        by_cases c1 : dx < dy
        · go_wp2_with fail
          go_ret
          exact ⟨by rw [cmpZ, if_pos (cl.out c1)]; rfl, rfl, rfl, rfl, Nat.le_refl _, fun _ _ => rfl⟩
        · go_wp2_with fail
          go_quiet (fail)
          by_cases c2 : dy < dx
          · go_wp2_with fail
            go_ret
            have := cg.out c2
            exact ⟨by rw [cmpZ, if_neg (by omega), if_neg (by omega)]; rfl, rfl, rfl, rfl, Nat.le_refl _, fun _ _ => rfl⟩
          · have hE2 := hide (ce.out (by omega))
            go_wp2_with fail
            go_roundw
            case rel => exact ⟨k, _, by omega, by go_num, hE2, rfl⟩
            case measure => simp [intOf]
  · have hxy : y < x := by
      rcases Nat.lt_or_ge y x with l | l
      · exact l
      · have := nlen_mono ten2 l; omega
    have e : cmpZ x y = 1 := by unfold cmpZ; rw [if_neg (by omega), if_neg (by omega)]
    rw [e]
    clear a4 b4 e hxy
    generalize nlen 10 x = N1 at *
    generalize nlen 10 y = N2 at *
    have c' : ¬ N1 = N2 := by omega
    have c'' : ¬ N1 < N2 := by omega
    go_enter Tryd.func39, Tryd.ntmps39
    go_wp2
    go_ret
    exact ⟨rfl, Fr.refl _⟩
end Go.Proofs.YtmaapdmbkhoigaaDoor

/- The document's decimals: Sub, Of, Made; the law's same and of. -/
namespace Go.Proofs.YtmaapdmbkhoigaaDoor
set_option linter.unusedVariables false
set_option linter.unusedSimpArgs false
open Go.RowKit

set_option maxHeartbeats 1000000 in
set_option maxRecDepth 4000 in
theorem refOf_any (x : Nat) (w : World) (hx : x < 18446744073709551616) :
    Calls Tryd.prog 35 #[.int .u64 x] w fun e w' => ∃ v, e = .returned v ∧ IsDec w' v x ∧ Fr w w' := by
  obtain ⟨i0, hi, hz0, hz1, hz2⟩ := info_parts info64
  have hl := hide (nlen_le (B := 10) (k := 20) ten2 (show x < 10 ^ 20 by omega))
  go_enter Tryd.func35, Tryd.ntmps35
  go_wp2_with fail
  go_loopw [0, 3] (fun n o wr => ∃ (k m : Nat) (ao : Option Addr) (co : Nat), m < 18446744073709551616 ∧ n = .int .u64 m ∧ Hid (x / 10 ^ k = m ∧ (k = 0 ∨ 10 ^ (k - 1) ≤ x)) ∧ k ≤ 20 ∧ o = .slice ao k co ∧ Hid (wr.ownsRow w.heap.size 3 1 (.slice ao k co) k (rowOf .i64 k (dg 10 x))) ∧ Hid (Fr w wr)) (fun n _ _ => (intOf n).toNat)
  case atStart => exact ⟨0, x, none, 0, hx, rfl, ⟨by simp, .inl rfl⟩, by omega, rfl, World.ownsRow_nil _ _ _ _, Fr.refl _⟩
  case round =>
    obtain ⟨k, m, ao, co, hm, rfl, hE, hk, rfl, hO, hF⟩ := hrel
    by_cases hend : m = 0
    · subst hend
      have hlt : x < 10 ^ k := by
        rcases Nat.lt_or_ge x (10 ^ k) with l | l
        · exact l
        · have := Nat.div_pos l (pow_pos' ten2 k); have := hE.out.1; omega
      have hn := nlen_eq ten2 hlt hE.out.2
      obtain ⟨_, _, he, hc1, hc2, _⟩ := own_form hO.out
      simp only [Value.slice.injEq] at he
      obtain ⟨rfl, _, rfl⟩ := he
      have hd : Hid (IsDec wr (.slice ao k co) x) := ⟨ao, co, by rw [hn], by omega, hc2, by rw [hn]; exact own_cs hO.out⟩
      clear hn hlt
      go_wp2_with fail
      go_ret
      exact ⟨_, rfl, hd, hF⟩
    · have hle : 10 ^ k ≤ x := by
        rcases Nat.lt_or_ge x (10 ^ k) with l | l
        · have := Nat.div_eq_of_lt l; have := hE.out.1; omega
        · exact l
      have hk2 : k < 20 := by
        rcases Nat.lt_or_ge k 20 with l | l
        · exact l
        · have : (10 : Nat) ^ 20 ≤ 10 ^ k := Nat.pow_le_pow_right (by omega) l
          omega
      have hq1 : Hid ((m : Int) % 10 = (dg 10 x k : Int)) := by have := hE.out.1; unfold Hid dg; rw [this]; omega
      have hq3 : Hid (x / 10 ^ (k + 1) = m / 10) := by have := hE.out.1; unfold Hid; rw [Nat.pow_succ, ← Nat.div_div_eq_div_mul, this]
      have HL := hide hle
      clear hle
      have hm0 : 0 < m := by omega
      go_wp2_with (at_builtin; refine wpList_append_own _ rfl _ _ 66 rfl w.heap.size 3 i0 (.int .i64 0) 1 8 Tryd.underlying66 hi hz0 hz1 hz2 rfl (by decide) _ _ _ rfl (hO.out.alloc _) ⟨wr.heap.size, 0, none⟩ 1 1 [.int .i64 ((m : Int) % 10)] rfl rfl ?c1 ?c2 ?c3 ?c4 ?c5 ?_)
      case c1 => exact cell_one_new _ _ _
      case c2 => intro u hu; simp at hu; subst hu; rfl
      case c3 => unfold maxLen; omega
      case c4 => omega
      case c5 => have := hF.out.size; simp; omega
      intro v' w2 hown' hgrow _
      obtain ⟨a2, c2, hv2, _, _, _⟩ := own_form hown'
      rw [hv2] at hown'
      rw [hv2]
      have hF2 : Fr w w2 := Below.grown (Below.alloc hF.out hF.out.size _) hgrow (by have := hF.out.size; simp; omega) (own_below hO.out)
      have hown2 : w2.ownsRow w.heap.size 3 1 (.slice a2 (k + 1) c2) (k + 1) (rowOf .i64 (k + 1) (dg 10 x)) := by
        rw [← rowOf_snoc, ← hq1.out]; exact hown'
      have HO2 := hide hown2
      have HF2 := hide hF2
      clear hgrow hown' hv2 hown2 hF2
      go_wp2_with fail
      go_roundw
      case rel => exact ⟨k + 1, m / 10, a2, c2, by omega, by go_num, ⟨hq3.out, .inr (by simpa using HL.out)⟩, by omega, rfl, HO2, HF2⟩
      case measure => simp [intOf]; omega
end Go.Proofs.YtmaapdmbkhoigaaDoor

/- The document's Made; the law's same and of. -/
namespace Go.Proofs.YtmaapdmbkhoigaaDoor
set_option linter.unusedVariables false
set_option linter.unusedSimpArgs false
open Go.RowKit

end Go.Proofs.YtmaapdmbkhoigaaDoor

/- The document's decimals: Mul. -/
namespace Go.Proofs.YtmaapdmbkhoigaaDoor
set_option linter.unusedVariables false
set_option linter.unusedSimpArgs false
open Go.RowKit

end Go.Proofs.YtmaapdmbkhoigaaDoor

/- The document's decimals: Sub, Of, Made; the law's same and of. -/
namespace Go.Proofs.YtmaapdmbkhoigaaDoor
set_option linter.unusedVariables false
set_option linter.unusedSimpArgs false
open Go.RowKit

end Go.Proofs.YtmaapdmbkhoigaaDoor

/- The document's Div. -/
namespace Go.Proofs.YtmaapdmbkhoigaaDoor
set_option linter.unusedVariables false
set_option linter.unusedSimpArgs false
open Go.RowKit

theorem IsDec.put {w : World} {x c g j : Nat} {a : Option Addr} {u : Value} (h : IsDec w (.slice a (nlen 10 x) c) x) (hne : ∀ b off s, a = some ⟨b, off, s⟩ → b ≠ g) : IsDec (w.setCell ⟨g, j, none⟩ u) (.slice a (nlen 10 x) c) x := by
  obtain ⟨a', c', h1, h2, h3, h4⟩ := h
  have h1' : a = a' := by injection h1
  exact ⟨a', c', h1, h2, h3, h4.set _ u fun b off s e => hne b off s (h1'.trans e)⟩

end Go.Proofs.YtmaapdmbkhoigaaDoor

/- The document's Tens and Decimals (layer 7's reference). -/
namespace Go.Proofs.YtmaapdmbkhoigaaDoor
set_option linter.unusedVariables false
set_option linter.unusedSimpArgs false
open Go.RowKit

theorem dg_shift10 (y s j : Nat) : dg 10 (y * 10 ^ s) j = if j < s then 0 else dg 10 y (j - s) := by
  unfold dg
  split
  · rename_i h
    obtain ⟨d, rfl⟩ : ∃ d, s = j + (d + 1) := ⟨s - j - 1, by omega⟩
    rw [Nat.pow_add, show y * (10 ^ j * 10 ^ (d + 1)) = 10 ^ j * (y * 10 ^ (d + 1)) by ac_rfl, Nat.mul_div_cancel_left _ (Nat.pow_pos (by omega)), Nat.pow_succ, ← Nat.mul_assoc, Nat.mul_mod_left]
  · rename_i h
    obtain ⟨d, rfl⟩ : ∃ d, j = s + d := ⟨j - s, by omega⟩
    rw [Nat.pow_add, ← Nat.div_div_eq_div_mul, Nat.mul_div_cancel _ (Nat.pow_pos (by omega)), Nat.add_sub_cancel_left]
theorem nlen_shift10 {y : Nat} (hy : y ≠ 0) (s : Nat) : nlen 10 (y * 10 ^ s) = s + nlen 10 y := by
  have h1 := lt_nlen ten2 y
  have h2 := nlen_low ten2 y hy
  have h3 := nlen_pos ten2 hy
  refine nlen_eq ten2 ?_ (.inr ?_)
  · rw [Nat.pow_add, Nat.mul_comm]
    exact Nat.mul_lt_mul_of_pos_left h1 (Nat.pow_pos (by omega))
  · rw [show s + nlen 10 y - 1 = s + (nlen 10 y - 1) by omega, Nat.pow_add, Nat.mul_comm y]
    exact Nat.mul_le_mul_left _ h2
theorem made_own (w : World) (n : Nat) (e : TypeId) (hn : n ≤ maxLen) : (w.alloc (.cells (madeCells #[.int .i64 0] n) e)).ownsRow w.heap.size e 1 (.slice (some ⟨w.heap.size, 0, none⟩) n n) n (rowOf .i64 n (fun _ => 0)) := by
  refine ⟨by rw [rowOf_len, Nat.mul_one], .inr ⟨w.heap.size, n, madeCells #[.int .i64 0] n, rfl, Nat.le_refl _, heap_alloc_new w _, Nat.le_refl _, hn, by rw [size_madeCells, Nat.mul_one], ?_⟩⟩
  rw [Nat.mul_one, List.take_of_length_le (by rw [Array.length_toList, size_madeCells]; exact Nat.le_refl _)]
  unfold madeCells rowOf
  rw [Array.toList_map, Array.toList_range]
  refine List.map_congr_left (fun j _ => ?_)
  have h0 : j % (#[Value.int .i64 0] : Array Value).size = 0 := Nat.mod_one j
  rw [h0]
  rfl
theorem rowOf_join (n m : Nat) (f g : Nat → Nat) : rowOf .i64 n f ++ rowOf .i64 m g = rowOf .i64 (n + m) (fun j => if j < n then f j else g (j - n)) := by
  apply List.ext_getElem?
  intro j
  rcases Nat.lt_or_ge j n with h | h
  · rw [List.getElem?_append_left (by rw [rowOf_len]; exact h), rowOf_at h, rowOf_at (by omega), if_pos h]
  · rw [List.getElem?_append_right (by rw [rowOf_len]; exact h), rowOf_len]
    rcases Nat.lt_or_ge j (n + m) with h2 | h2
    · rw [rowOf_at (by omega), rowOf_at h2, if_neg (by omega)]
    · rw [List.getElem?_eq_none (by rw [rowOf_len]; omega), List.getElem?_eq_none (by rw [rowOf_len]; omega)]

set_option maxHeartbeats 1000000 in
set_option maxRecDepth 4000 in
theorem refTens_any (va : Value) (x : Nat) (k : Int) (w : World) (ha : IsDec w va x) (hx : nlen 10 x ≤ 1000000) (k0 : -9223372036854775808 ≤ k) (k1 : k ≤ 1000000) :
    Calls Tryd.prog 38 #[va, .int .i64 k] w fun e w' => ∃ v, e = .returned v ∧ IsDec w' v (x * 10 ^ k.toNat) ∧ Fr w w' := by
  have HA := hide ha
  obtain ⟨a, ca, rfl, a2, a3, a4⟩ := ha
  by_cases hx0 : x = 0
  · subst hx0
    rw [nlen_zero] at *
    have HA2 : Hid (IsDec w (.slice a 0 ca) (0 * 10 ^ k.toNat)) := by rw [Nat.zero_mul]; exact HA
    clear a4 HA
    go_enter Tryd.func38, Tryd.ntmps38
    go_wp2_with fail
    go_ret
    exact ⟨_, rfl, HA2.out, Fr.refl _⟩
  · have np := nlen_pos ten2 hx0
    by_cases hk : k < 1
    · have HA2 : Hid (IsDec w (.slice a (nlen 10 x) ca) (x * 10 ^ k.toNat)) := by rw [show k.toNat = 0 by omega, Nat.pow_zero, Nat.mul_one]; exact HA
      clear a4 HA
      generalize nlen 10 x = N at *
      have z : ((N : Int) == 0) = false := by simp only [beq_eq_false_iff_ne]; omega
      go_enter Tryd.func38, Tryd.ntmps38
      go_wp2_with fail
      go_ret
      exact ⟨_, rfl, HA2.out, Fr.refl _⟩
    · obtain ⟨K, rfl⟩ : ∃ K : Nat, k = K := ⟨k.toNat, by omega⟩
      obtain ⟨i0, hi, hz0, hz1, hz2⟩ := info_parts info64
      have hl := nlen_shift10 hx0 K
      have hd := dg_shift10 x K
      rw [Int.toNat_natCast]
      have HD := hide hd
      have HL := hide hl
      clear hd hl HA
      generalize nlen 10 x = N at *
      have z : ((N : Int) == 0) = false := by simp only [beq_eq_false_iff_ne]; omega
      have hmk := run_make_row' (P := Tryd.prog) 66 3 (.int .i64 0) 8 Tryd.underlying66 info64 rfl .i64 .i64 K (by omega) (by omega)
      rcases a4 with h0 | ⟨b, off, rfl, hb, hc⟩
      · omega
      · have HC := hide hc
        clear hc
        go_enter Tryd.func38, Tryd.ntmps38
        have HM := hide (made_own w K 3 (by unfold maxLen; omega))
        go_wp2_with (at_builtin; refine wpList_append_own _ rfl _ _ 66 rfl w.heap.size 3 i0 (.int .i64 0) 1 8 Tryd.underlying66 hi hz0 hz1 hz2 rfl (by decide) _ _ _ rfl HM.out ⟨b, off, none⟩ N ca (rowOf .i64 N (dg 10 x)) rfl (by rw [rowOf_len, Nat.mul_one]) ?c1 ?c2 ?c3 ?c4 ?c5 ?_)
        case c1 =>
          intro j u hu
          obtain ⟨hj, rfl⟩ := rowOf_get hu
          exact HC.out j hj
        case c2 =>
          intro u hu
          obtain ⟨j, _, rfl⟩ := List.mem_map.1 hu
          rfl
        case c3 => unfold maxLen; omega
        case c4 => omega
        intro v' w2 hown' hgrow _
        obtain ⟨a5, c5, hv2, hc1, hc2, _⟩ := own_form hown'
        rw [hv2] at hown'
        rw [hv2]
        have hF2 : Fr w w2 := Below.grown (Below.alloc (Fr.refl w) (Nat.le_refl _) _) hgrow (by simp) (own_below HM.out)
        rw [rowOf_join] at hown'
        have hR : Hid (IsDec w2 (.slice a5 (K + N) c5) (x * 10 ^ K)) := by
          refine ⟨a5, c5, by rw [HL.out], by rw [HL.out]; exact hc1, hc2, ?_⟩
          rw [HL.out]
          have e : dg 10 (x * 10 ^ K) = fun j => if j < K then 0 else dg 10 x (j - K) := funext HD.out
          rw [e]
          exact own_cs hown'
        have HF2 := hide hF2
        clear hgrow hown' hv2 hF2 HM hc1 hc2
        go_wp2_with fail
        go_ret
        exact ⟨_, rfl, hR, HF2.out⟩

theorem nlen10_mul {x k n : Nat} (h : nlen 10 x ≤ n) (hk : k ≤ 10) : nlen 10 (x * k) ≤ n + 1 := by
  refine nlen_le ten2 ?_
  rw [Nat.pow_succ]
  rcases Nat.eq_zero_or_pos k with h0 | h0
  · subst h0
    rw [Nat.mul_zero]
    exact Nat.mul_pos (Nat.pow_pos (by omega)) (by omega)
  · exact Nat.lt_of_lt_of_le (Nat.mul_lt_mul_of_pos_right (lt_of_nlen ten2 h) h0) (Nat.mul_le_mul_left _ hk)
theorem nlen10_pow {x k n : Nat} (h : nlen 10 x ≤ n) (hk : k ≤ 10) (j : Nat) : nlen 10 (x * k ^ j) ≤ n + j := by
  induction j with
  | zero => rw [Nat.pow_zero, Nat.mul_one]; exact h
  | succ j ih =>
    rw [Nat.pow_succ, ← Nat.mul_assoc]
    exact nlen10_mul ih hk

set_option maxHeartbeats 2000000 in
set_option maxRecDepth 4000 in
theorem refDecimals_any (m : Nat) (e : Int) (P : Nat) (w : World) (hm : m < 18446744073709551616) (e0 : -1074 ≤ e) (e1 : e ≤ 1000) (hP : m * 2 ^ e.toNat * 5 ^ (-e).toNat = P) :
    Calls Tryd.prog 23 #[.int .u64 (m : Int), .int .i64 e] w fun r w' => ∃ v, r = .returned (.tuple #[v, .int .i64 ((-e).toNat : Int)]) ∧ IsDec w' v P ∧ Fr w w' := by
  have hl : nlen 10 m ≤ 20 := nlen_le ten2 (show m < 10 ^ 20 by omega)
  have HL := hide (fun j => nlen10_pow (k := 2) hl (by omega) j)
  have HP := hide hP
  clear hP
  go_enter Tryd.func23, Tryd.ntmps23
  go_wp2_with fail
  refine (refOf_any m _ hm).mono ?_
  rintro e' w1 ⟨v1, rfl, i1, f1⟩
  have I1 := hide i1
  have F1 := hide f1
  clear i1 f1
  go_wp2_with fail
  go_loopw [6, 7] (fun s6 s7 wr => ∃ (k : Nat) (v : Value), k ≤ e.toNat ∧ s7 = .int .i64 k ∧ s6 = v ∧ Hid (IsDec wr v (m * 2 ^ k)) ∧ Hid (Fr w wr)) (fun _ s7 _ => e.toNat - (intOf s7).toNat)
  case atStart => exact ⟨0, v1, by omega, rfl, rfl, by rw [Nat.pow_zero, Nat.mul_one]; exact I1, F1⟩
  case round =>
    obtain ⟨k, v, hk, rfl, rfl, hI, hF⟩ := hrel
    by_cases c : k < e.toNat
    · have hke : (k : Int) < e := by omega
      clear I1 F1
      go_wp2_with fail
      refine (refTimes_any _ _ 2 _ hI.out (by have := HL.out k; omega) (by omega)).mono ?_
      rintro e' w2 ⟨v2, rfl, i2, f2⟩
      have I2 : Hid (IsDec w2 v2 (m * 2 ^ (k + 1))) := by rw [Nat.pow_succ, ← Nat.mul_assoc]; exact i2
      have F2 := hide (hF.out.trans f2)
      clear i2 f2
      go_wp2_with fail
      go_roundw
      case rel => exact ⟨k + 1, v2, by omega, by go_num, rfl, I2, F2⟩
      case measure => simp [intOf]; omega
    · have hke : ¬ (k : Int) < e := by omega
      obtain rfl : k = e.toNat := by omega
      obtain ⟨A, hA⟩ : ∃ A, m * 2 ^ e.toNat = A := ⟨_, rfl⟩
      have lA : nlen 10 A ≤ 1020 := by rw [← hA]; have := HL.out e.toNat; omega
      rw [hA] at hI HP
      have HLA := hide (fun j => nlen10_pow (k := 5) lA (by omega) j)
      obtain ⟨V, rfl⟩ : ∃ V, V = wr := ⟨_, rfl⟩
      clear hA HL I1 F1 lA c hk
      go_wp2_with fail
      go_loopw [6, 8, 9] (fun s6 s8 s9 wr => ∃ (k : Nat) (v : Value), k ≤ (-e).toNat ∧ s8 = .int .i64 k ∧ s9 = .int .i64 (e + k) ∧ s6 = v ∧ Hid (IsDec wr v (A * 5 ^ k)) ∧ Hid (Fr w wr)) (fun _ s8 _ _ => (-e).toNat - (intOf s8).toNat)
      case atStart => exact ⟨0, _, by omega, rfl, by go_num, rfl, by rw [Nat.pow_zero, Nat.mul_one]; exact hI, hF⟩
      case round =>
        obtain ⟨k, v, hk, rfl, rfl, rfl, hI, hF⟩ := hrel
        by_cases c : k < (-e).toNat
        · have hke' : e + (k : Int) < 0 := by omega
          go_wp2_with fail
          refine (refTimes_any _ _ 5 _ hI.out (by have := HLA.out k; omega) (by omega)).mono ?_
          rintro e' w2 ⟨v2, rfl, i2, f2⟩
          have I2 : Hid (IsDec w2 v2 (A * 5 ^ (k + 1))) := by rw [Nat.pow_succ, ← Nat.mul_assoc]; exact i2
          have F2 := hide (hF.out.trans f2)
          clear i2 f2
          go_wp2_with fail
          go_roundw
          case rel => exact ⟨k + 1, v2, by omega, by go_num, by go_num, rfl, I2, F2⟩
          case measure => simp [intOf]; omega
        · have hke' : 0 ≤ e + (k : Int) := by omega
          obtain rfl : k = (-e).toNat := by omega
          go_wp2_with fail
          go_ret2
          refine ⟨_, rfl, ?_, hF.out⟩
          rw [← HP.out]
          exact hI.out
end Go.Proofs.YtmaapdmbkhoigaaDoor
