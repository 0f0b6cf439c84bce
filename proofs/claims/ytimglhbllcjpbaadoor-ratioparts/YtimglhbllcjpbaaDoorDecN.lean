/- The document's decimals: Sub, Of, Made; the law's same and of. -/
import Derived.Test.YtimglhbllcjpbaaDoorDecM
namespace Go.Proofs.YtimglhbllcjpbaaDoor
set_option linter.unusedVariables false
set_option linter.unusedSimpArgs false
open Go.RowKit

set_option maxHeartbeats 1000000 in
set_option maxRecDepth 4000 in
theorem refOf_any (x : Nat) (w : World) (hx : x < 18446744073709551616) :
    Calls Tryd.prog 48 #[.int .u64 x] w fun e w' => ∃ v, e = .returned v ∧ IsDec w' v x ∧ Fr w w' := by
  obtain ⟨i0, hi, hz0, hz1, hz2⟩ := info_parts info64
  have hl := hide (nlen_le (B := 10) (k := 20) ten2 (show x < 10 ^ 20 by omega))
  go_enter Tryd.func48, Tryd.ntmps48
  go_wp2_with fail
  go_loopw [0, 3] (fun n o wr => ∃ (k m : Nat) (ao : Option Addr) (co : Nat), m < 18446744073709551616 ∧ n = .int .u64 m ∧ Hid (x / 10 ^ k = m ∧ (k = 0 ∨ 10 ^ (k - 1) ≤ x)) ∧ k ≤ 20 ∧ o = .slice ao k co ∧ Hid (wr.ownsRow w.heap.size 3 1 (.slice ao k co) k (rowOf .i64 k (dg 10 x))) ∧ Hid (Fr w wr)) (fun n _ _ => (intOf n).toNat)
  case atStart => exact ⟨0, x, none, 0, hx, rfl, ⟨by simp, .inl rfl⟩, by omega, rfl, World.ownsRow_nil _ _ _ _, Fr.refl _⟩
  case round =>
    obtain ⟨k, m, ao, co, hm, rfl, hE, hk, rfl, hO, hF⟩ := hrel
    by_cases hend : m = 0
    · subst hend
      have hlt : x < 10 ^ k := by
        rcases Nat.lt_or_ge x (10 ^ k) with l | l
        · exact l
        · have := Nat.div_pos l (pow_pos' ten2 k); have := hE.out.1; omega
      have hn := nlen_eq ten2 hlt hE.out.2
      obtain ⟨_, _, he, hc1, hc2, _⟩ := own_form hO.out
      simp only [Value.slice.injEq] at he
      obtain ⟨rfl, _, rfl⟩ := he
      have hd : Hid (IsDec wr (.slice ao k co) x) := ⟨ao, co, by rw [hn], by omega, hc2, by rw [hn]; exact own_cs hO.out⟩
      clear hn hlt
      go_wp2_with fail
      go_ret
      exact ⟨_, rfl, hd, hF⟩
    · have hle : 10 ^ k ≤ x := by
        rcases Nat.lt_or_ge x (10 ^ k) with l | l
        · have := Nat.div_eq_of_lt l; have := hE.out.1; omega
        · exact l
      have hk2 : k < 20 := by
        rcases Nat.lt_or_ge k 20 with l | l
        · exact l
        · have : (10 : Nat) ^ 20 ≤ 10 ^ k := Nat.pow_le_pow_right (by omega) l
          omega
      have hq1 : Hid ((m : Int) % 10 = (dg 10 x k : Int)) := by have := hE.out.1; unfold Hid dg; rw [this]; omega
      have hq3 : Hid (x / 10 ^ (k + 1) = m / 10) := by have := hE.out.1; unfold Hid; rw [Nat.pow_succ, ← Nat.div_div_eq_div_mul, this]
      have HL := hide hle
      clear hle
      have hm0 : 0 < m := by omega
      go_wp2_with (at_builtin; refine wpList_append_own _ rfl _ _ 27 rfl w.heap.size 3 i0 (.int .i64 0) 1 8 Tryd.underlying27 hi hz0 hz1 hz2 rfl (by decide) _ _ _ rfl (hO.out.alloc _) ⟨wr.heap.size, 0, none⟩ 1 1 [.int .i64 ((m : Int) % 10)] rfl rfl ?c1 ?c2 ?c3 ?c4 ?c5 ?_)
      case c1 => exact cell_one_new _ _ _
      case c2 => intro u hu; simp at hu; subst hu; rfl
      case c3 => unfold maxLen; omega
      case c4 => omega
      case c5 => have := hF.out.size; simp; omega
      intro v' w2 hown' hgrow _
      obtain ⟨a2, c2, hv2, _, _, _⟩ := own_form hown'
      rw [hv2] at hown'
      rw [hv2]
      have hF2 : Fr w w2 := Below.grown (Below.alloc hF.out hF.out.size _) hgrow (by have := hF.out.size; simp; omega) (own_below hO.out)
      have hown2 : w2.ownsRow w.heap.size 3 1 (.slice a2 (k + 1) c2) (k + 1) (rowOf .i64 (k + 1) (dg 10 x)) := by
        rw [← rowOf_snoc, ← hq1.out]; exact hown'
      have HO2 := hide hown2
      have HF2 := hide hF2
      clear hgrow hown' hv2 hown2 hF2
      go_wp2_with fail
      go_roundw
      case rel => exact ⟨k + 1, m / 10, a2, c2, by omega, by go_num, ⟨hq3.out, .inr (by simpa using HL.out)⟩, by omega, rfl, HO2, HF2⟩
      case measure => simp [intOf]; omega
end Go.Proofs.YtimglhbllcjpbaaDoor
