/- The document's decimals: Sub, Of, Made; the law's same and of. -/
import Derived.Test.YtimglhbllcjpbaaDoorDecM
namespace Go.Proofs.YtimglhbllcjpbaaDoor
set_option linter.unusedVariables false
set_option linter.unusedSimpArgs false
open Go.RowKit

set_option maxHeartbeats 1000000 in
set_option maxRecDepth 4000 in
theorem refSub_new (va vb : Value) (x y : Nat) (w : World) (ha : IsDec w va x) (hb : IsDec w vb y) (hx : nlen 10 x ≤ 1000000000) (hy : nlen 10 y ≤ 1000000000) (hle : y ≤ x) :
    Calls Tryd.prog 45 #[va, vb] w fun e w' => ∃ a c, e = .returned (.slice a (nlen 10 (x - y)) c) ∧ IsDec w' (.slice a (nlen 10 (x - y)) c) (x - y) ∧ (∀ g off s, a = some ⟨g, off, s⟩ → w.heap.size ≤ g) ∧ Fr w w' := by
  have HB := hide hb
  obtain ⟨i0, hi, hz0, hz1, hz2⟩ := info_parts info64
  obtain ⟨a, ca, rfl, a2, a3, a4⟩ := ha
  obtain ⟨b, cb, rfl, b2, b3, b4⟩ := hb
  have A4 := hide a4
  clear a4 b4
  have lx : Hid (x - y < 10 ^ nlen 10 x) := by have := lt_nlen ten2 x; unfold Hid; omega
  generalize nlen 10 x = N1 at *
  generalize nlen 10 y = N2 at *
  go_enter Tryd.func45, Tryd.ntmps45
  go_wp2_with fail
  go_loopw [5, 6, 7] (fun o c i wr => ∃ (k : Nat) (ao : Option Addr) (co : Nat), k ≤ N1 ∧ i = .int .i64 k ∧ c = .int .i64 (carry 10 y (x - y) k : Int) ∧ o = .slice ao k co ∧ Hid (wr.ownsRow w.heap.size 3 1 (.slice ao k co) k (rowOf .i64 k (dg 10 (x - y)))) ∧ Hid (Fr w wr)) (fun _ _ i _ => N1 - (intOf i).toNat)
  case atStart => exact ⟨0, none, 0, by omega, rfl, by rw [carry_zero]; rfl, rfl, World.ownsRow_nil _ _ _ _, Fr.refl _⟩
  case round =>
    obtain ⟨k, ao, co, hk, rfl, rfl, rfl, hO, hF⟩ := hrel
    by_cases hend : k = N1
    · subst hend
      obtain ⟨_, _, he, hc1, hc2, hnew⟩ := own_form hO.out
      simp only [Value.slice.injEq] at he
      obtain ⟨rfl, _, rfl⟩ := he
      have HNEW := hide hnew
      clear hnew
      go_wp2_with fail
      refine (trim_any (x - y) k co ao _ lx.out hc1 hc2 (own_addr hO.out) (own_cs hO.out)).mono ?_
      rintro e w1 ⟨rfl, rfl⟩
      have hd : Hid (IsDec w1 (.slice ao (nlen 10 (x - y)) co) (x - y)) := ⟨ao, co, rfl, by have := nlen_le ten2 lx.out; omega, hc2, (own_cs hO.out).less (nlen_le ten2 lx.out)⟩
      go_wp2_with fail
      go_ret
      exact ⟨_, _, rfl, hd, fun g off s e => (HNEW.out g off s e).1, hF⟩
    · have hk2 : k < N1 := by omega
      have hcl := carry_le ten2 y (x - y) k
      have hcl2 := carry_le ten2 y (x - y) (k + 1)
      have hst := sum_step ten2 y (x - y) k
      rw [show y + (x - y) = x by omega] at hst
      have lx' := dg_lt ten2 x k
      have ly' := dg_lt ten2 y k
      have ls' := dg_lt ten2 (x - y) k
      have HRY := hide (refAt_any _ y k wr (HB.out.fr hF.out) (by omega))
      rcases (A4.out.fr hF.out) with h | ⟨g1, o1, rfl, _, hc1⟩
      · omega
      have x1 := hc1 k hk2
      clear hc1
      have HD : ∃ d1, dg 10 (x - y) k = d1 := ⟨_, rfl⟩
      obtain ⟨d1, HD⟩ := HD
      have HC : ∃ c1, carry 10 y (x - y) (k + 1) = c1 := ⟨_, rfl⟩
      obtain ⟨c1, HC⟩ := HC
      rw [HC, HD] at hst
      rw [HC] at hcl2
      rw [HD] at ls'
      generalize carry 10 y (x - y) k = c0 at *
      generalize dg 10 x k = dx at *
      generalize dg 10 y k = dy at *
      have HC' := hide HC
      have HD' := hide HD
      have hcase : ((dx : Int) - dy - c0 < 0 ∧ c1 = 1 ∧ (dx : Int) - dy - c0 + 10 = d1) ∨ (¬ ((dx : Int) - dy - c0 < 0) ∧ c1 = 0 ∧ (dx : Int) - dy - c0 = d1) := by omega
      clear HC HD hst hend
      rcases hcase with ⟨g1, g2, g3⟩ | ⟨g1, g2, g3⟩
      · have hq1 := hide g3
        have hq2 := hide g2
        clear g2 g3
        go_wp2_with fail
        refine HRY.out.mono ?_
        rintro e w' ⟨rfl, rfl⟩
        go_wp2_with (at_builtin; refine wpList_append_own _ rfl _ _ 27 rfl w.heap.size 3 i0 (.int .i64 0) 1 8 Tryd.underlying27 hi hz0 hz1 hz2 rfl (by decide) _ _ _ rfl (hO.out.alloc _) ⟨w'.heap.size, 0, none⟩ 1 1 [.int .i64 ((dx : Int) - dy - c0 + 10)] rfl rfl ?c1 ?c2 ?c3 ?c4 ?c5 ?_)
        case c1 => exact cell_one_new _ _ _
        case c2 => intro u hu; simp at hu; subst hu; rfl
        case c3 => unfold maxLen; omega
        case c4 => omega
        case c5 => have := hF.out.size; simp; omega
        intro v' w2 hown' hgrow _
        obtain ⟨a2, c2, hv2, _, _, _⟩ := own_form hown'
        rw [hv2] at hown'
        rw [hv2]
        have hF2 : Fr w w2 := Below.grown (Below.alloc hF.out hF.out.size _) hgrow (by have := hF.out.size; simp; omega) (own_below hO.out)
        have hown2 : w2.ownsRow w.heap.size 3 1 (.slice a2 (k + 1) c2) (k + 1) (rowOf .i64 (k + 1) (dg 10 (x - y))) := by
          rw [← rowOf_snoc, HD'.out, ← hq1.out]; exact hown'
        have HO2 := hide hown2
        have HF2 := hide hF2
        clear hgrow hown' hv2 hown2 hF2
        go_wp2_with fail
        go_roundw
        case rel => exact ⟨k + 1, a2, c2, by omega, by go_num, by rw [HC'.out, hq2.out]; rfl, rfl, HO2, HF2⟩
        case measure => simp [intOf]; omega
      · have hq1 := hide g3
        have hq2 := hide g2
        clear g2 g3
        go_wp2_with fail
        refine HRY.out.mono ?_
        rintro e w' ⟨rfl, rfl⟩
        go_wp2_with (at_builtin; refine wpList_append_own _ rfl _ _ 27 rfl w.heap.size 3 i0 (.int .i64 0) 1 8 Tryd.underlying27 hi hz0 hz1 hz2 rfl (by decide) _ _ _ rfl (hO.out.alloc _) ⟨w'.heap.size, 0, none⟩ 1 1 [.int .i64 ((dx : Int) - dy - c0)] rfl rfl ?c1 ?c2 ?c3 ?c4 ?c5 ?_)
        case c1 => exact cell_one_new _ _ _
        case c2 => intro u hu; simp at hu; subst hu; rfl
        case c3 => unfold maxLen; omega
        case c4 => omega
        case c5 => have := hF.out.size; simp; omega
        intro v' w2 hown' hgrow _
        obtain ⟨a2, c2, hv2, _, _, _⟩ := own_form hown'
        rw [hv2] at hown'
        rw [hv2]
        have hF2 : Fr w w2 := Below.grown (Below.alloc hF.out hF.out.size _) hgrow (by have := hF.out.size; simp; omega) (own_below hO.out)
        have hown2 : w2.ownsRow w.heap.size 3 1 (.slice a2 (k + 1) c2) (k + 1) (rowOf .i64 (k + 1) (dg 10 (x - y))) := by
          rw [← rowOf_snoc, HD'.out, ← hq1.out]; exact hown'
        have HO2 := hide hown2
        have HF2 := hide hF2
        clear hgrow hown' hv2 hown2 hF2
        go_wp2_with fail
        go_roundw
        case rel => exact ⟨k + 1, a2, c2, by omega, by go_num, by rw [HC'.out, hq2.out]; rfl, rfl, HO2, HF2⟩
        case measure => simp [intOf]; omega
theorem refSub_any (va vb : Value) (x y : Nat) (w : World) (ha : IsDec w va x) (hb : IsDec w vb y) (hx : nlen 10 x ≤ 1000000000) (hy : nlen 10 y ≤ 1000000000) (hle : y ≤ x) :
    Calls Tryd.prog 45 #[va, vb] w fun e w' => ∃ v, e = .returned v ∧ IsDec w' v (x - y) ∧ Fr w w' :=
  (refSub_new va vb x y w ha hb hx hy hle).mono fun e w' ⟨a, c, he, hd, _, hf⟩ => ⟨_, he, hd, hf⟩
end Go.Proofs.YtimglhbllcjpbaaDoor
