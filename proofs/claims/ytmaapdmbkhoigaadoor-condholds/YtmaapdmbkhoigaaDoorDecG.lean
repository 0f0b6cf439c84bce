/- The document's Add, of digits with noughts at their end, too. -/
import Derived.Test.YtmaapdmbkhoigaaDoorPackD
namespace Go.Proofs.YtmaapdmbkhoigaaDoor
set_option linter.unusedVariables false
set_option linter.unusedSimpArgs false
open Go.RowKit

/-- Digits, the least significant one first, noughts at the end or not. -/
def IsDecN (w : World) (v : Value) (N x : Nat) : Prop :=
  ∃ a cap, v = .slice a N cap ∧ N ≤ cap ∧ cap ≤ maxLen ∧ x < 10 ^ N ∧ Cs .i64 w a N (dg 10 x)
theorem IsDecN.fr {w w' : World} {v : Value} {N x : Nat} (h : IsDecN w v N x) (q : Fr w w') : IsDecN w' v N x := by
  obtain ⟨a, cap, h1, h2, h3, h5, h4⟩ := h
  exact ⟨a, cap, h1, h2, h3, h5, h4.fr q⟩
theorem isDecN_nil (w : World) : IsDecN w (.slice none 0 0) 0 0 := ⟨none, 0, rfl, by omega, by omega, by decide, .inl rfl⟩

set_option maxHeartbeats 400000 in
set_option maxRecDepth 4000 in
theorem refAt_gen (v : Value) (N x i : Nat) (w : World) (h : IsDecN w v N x) (hi : i ≤ 1000000000000) :
    Calls Tryd.prog 56 #[v, .int .i64 i] w fun e w' => e = .returned (.int .i64 (dg 10 x i : Int)) ∧ w' = w := by
  obtain ⟨a, cap, rfl, h2, h3, h5, h4⟩ := h
  have hlt := dg_lt ten2 x i
  by_cases c : i < N
  · rcases h4 with h4 | ⟨b, off, rfl, hb, hc⟩
    · omega
    · have hci := hc i c
      obtain ⟨d, hd⟩ : ∃ d, dg 10 x i = d := ⟨_, rfl⟩
      rw [hd] at hci hlt ⊢
      clear hd h5 hc
      go_enter Tryd.func56, Tryd.ntmps56
      go_wp2
      go_ret
      exact ⟨rfl, rfl⟩
  · have e : dg 10 x i = 0 := dg_out (Nat.lt_of_lt_of_le h5 (Nat.pow_le_pow_right (by decide) (by omega)))
    rw [e]
    clear e hlt h4
    clear h5
    go_enter Tryd.func56, Tryd.ntmps56
    go_wp2
    go_ret
    exact ⟨rfl, rfl⟩

set_option maxHeartbeats 1000000 in
set_option maxRecDepth 4000 in
theorem refAdd_gen (va vb : Value) (x y N1 N2 : Nat) (w : World) (ha : IsDecN w va N1 x) (hb : IsDecN w vb N2 y) (hx : N1 ≤ 1000000000) (hy : N2 ≤ 1000000000) :
    Calls Tryd.prog 37 #[va, vb] w fun e w' => ∃ v, e = .returned v ∧ IsDec w' v (x + y) ∧ Fr w w' := by
  have HA := hide ha
  have HB := hide hb
  obtain ⟨i0, hi, hz0, hz1, hz2⟩ := info_parts info64
  obtain ⟨a, ca, rfl, a2, a3, a5, a4⟩ := ha
  obtain ⟨b, cb, rfl, b2, b3, b5, b4⟩ := hb
  clear a4 b4
  have lx := hide (fun i (h : N1 ≤ i) => Nat.lt_of_lt_of_le a5 (Nat.pow_le_pow_right (n := 10) (by decide) h))
  have ly := hide (fun i (h : N2 ≤ i) => Nat.lt_of_lt_of_le b5 (Nat.pow_le_pow_right (n := 10) (by decide) h))
  clear a5 b5
  go_enter Tryd.func37, Tryd.ntmps37
  go_wp2_with fail
  go_loopw [5, 6, 7] (fun o c i wr => ∃ (k : Nat) (ao : Option Addr) (co : Nat), k ≤ N1 + N2 + 1 ∧ i = .int .i64 k ∧ c = .int .i64 (carry 10 x y k : Int) ∧ o = .slice ao k co ∧ Hid (wr.ownsRow w.heap.size 3 1 (.slice ao k co) k (rowOf .i64 k (dg 10 (x + y)))) ∧ Hid (Fr w wr)) (fun _ _ i _ => N1 + N2 + 2 - (intOf i).toNat)
  case atStart => exact ⟨0, none, 0, by omega, rfl, by rw [carry_zero]; rfl, rfl, World.ownsRow_nil _ _ _ _, Fr.refl _⟩
  case round =>
    obtain ⟨k, ao, co, hk, rfl, rfl, rfl, hO, hF⟩ := hrel
    have hcl := carry_le ten2 x y k
    have hst := sum_step ten2 x y k
    have lx' := dg_lt ten2 x k
    have ly' := dg_lt ten2 y k
    have ls' := dg_lt ten2 (x + y) k
    by_cases hend : N1 ≤ k ∧ N2 ≤ k ∧ carry 10 x y k = 0
    · obtain ⟨e1, e2, e3⟩ := hend
      have hlt : Hid (x + y < 10 ^ k) := by
        have h3 := carry_end x y k (lx.out k e1) (ly.out k e2)
        rw [e3] at h3
        unfold Hid
        rcases Nat.lt_or_ge (x + y) (10 ^ k) with l | l
        · exact l
        · have := Nat.div_pos l (pow_pos' ten2 k); omega
      obtain ⟨_, _, he, hc1, hc2, _⟩ := own_form hO.out
      simp only [Value.slice.injEq] at he
      obtain ⟨rfl, _, rfl⟩ := he
      rw [e3]
      clear hst lx' ly' ls' hcl
      go_wp2_with fail
      refine (trim_any (x + y) k co ao _ hlt.out hc1 hc2 (own_addr hO.out) (own_cs hO.out)).mono ?_
      rintro e w1 ⟨rfl, rfl⟩
      have hd : Hid (IsDec w1 (.slice ao (nlen 10 (x + y)) co) (x + y)) := ⟨ao, co, rfl, by have := nlen_le ten2 hlt.out; omega, hc2, (own_cs hO.out).less (nlen_le ten2 hlt.out)⟩
      go_wp2_with fail
      go_ret
      exact ⟨_, rfl, hd, hF⟩
    · have hk2 : k ≤ N1 + N2 := by
        rcases Nat.lt_or_ge (N1 + N2) k with l | l
        · exfalso
          apply hend
          refine ⟨by omega, by omega, ?_⟩
          obtain rfl : k = N1 + N2 + 1 := by omega
          rw [carry_end x y _ (lx.out _ (by omega)) (ly.out _ (by omega))]
          exact Nat.div_eq_of_lt (sum_lt ten2 (lx.out _ (by omega)) (ly.out _ (by omega)))
        · exact l
      have HRX := hide (refAt_gen _ N1 x k wr (HA.out.fr hF.out) (by omega))
      have HRY := hide (refAt_gen _ N2 y k wr (HB.out.fr hF.out) (by omega))
      have hcont : k < N1 ∨ (¬ k < N1 ∧ k < N2) ∨ (¬ k < N1 ∧ ¬ k < N2 ∧ 0 < carry 10 x y k) := by omega
      have HD : ∃ d1, dg 10 (x + y) k = d1 := ⟨_, rfl⟩
      obtain ⟨d1, HD⟩ := HD
      have HC : ∃ c1, carry 10 x y (k + 1) = c1 := ⟨_, rfl⟩
      obtain ⟨c1, HC⟩ := HC
      rw [HC, HD] at hst
      rw [HD] at ls'
      generalize carry 10 x y k = c0 at *
      generalize dg 10 x k = dx at *
      generalize dg 10 y k = dy at *
      have HC' := hide HC
      have HD' := hide HD
      obtain ⟨S, hS⟩ : ∃ S : Nat, S = c0 + dx + dy := ⟨_, rfl⟩
      have hS2 : S ≤ 19 := by omega
      have hq1 : Hid (((c0 : Int) + dx + dy) % 10 = d1) := by unfold Hid; omega
      have hq2 : Hid (((c0 : Int) + dx + dy) / 10 = c1) := by unfold Hid; omega
      clear HC HD hst hend hS hS2
      rcases hcont with g1 | ⟨g1, g2⟩ | ⟨g1, g2, g3⟩
      all_goals (
        go_wp2_with fail
        refine HRX.out.mono ?_
        rintro e w' ⟨rfl, rfl⟩
        go_wp2_with fail
        refine HRY.out.mono ?_
        rintro e w' ⟨rfl, rfl⟩
        go_wp2_with (at_builtin; refine wpList_append_own _ rfl _ _ 66 rfl w.heap.size 3 i0 (.int .i64 0) 1 8 Tryd.underlying66 hi hz0 hz1 hz2 rfl (by decide) _ _ _ rfl (hO.out.alloc _) ⟨w'.heap.size, 0, none⟩ 1 1 [.int .i64 (((c0 : Int) + dx + dy) % 10)] rfl rfl ?c1 ?c2 ?c3 ?c4 ?c5 ?_)
        case c1 => exact cell_one_new _ _ _
        case c2 => intro u hu; simp at hu; subst hu; rfl
        case c3 => unfold maxLen; omega
        case c4 => omega
        case c5 => have := hF.out.size; simp; omega
        intro v' w2 hown' hgrow _
        obtain ⟨a2, c2, hv2, _, _, _⟩ := own_form hown'
        rw [hv2] at hown'
        rw [hv2]
        have hF2 : Fr w w2 := Below.grown (Below.alloc hF.out hF.out.size _) hgrow (by have := hF.out.size; simp; omega) (own_below hO.out)
        have hown2 : w2.ownsRow w.heap.size 3 1 (.slice a2 (k + 1) c2) (k + 1) (rowOf .i64 (k + 1) (dg 10 (x + y))) := by
          rw [← rowOf_snoc, HD'.out, ← hq1.out]; exact hown'
        have HO2 := hide hown2
        have HF2 := hide hF2
        clear hgrow hown' hv2 hown2 hF2
        go_wp2_with fail
        go_roundw
        case rel => exact ⟨k + 1, a2, c2, by omega, by go_num, by rw [HC'.out, ← hq2.out], rfl, HO2, HF2⟩
        case measure => simp [intOf]; omega)
end Go.Proofs.YtmaapdmbkhoigaaDoor
