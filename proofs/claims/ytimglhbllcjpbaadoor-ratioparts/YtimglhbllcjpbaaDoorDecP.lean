/- The document's decimals: Mul. -/
import Derived.Test.YtimglhbllcjpbaaDoorDecO
import Derived.Test.YtimglhbllcjpbaaDoorTimesP
namespace Go.Proofs.YtimglhbllcjpbaaDoor
set_option linter.unusedVariables false
set_option linter.unusedSimpArgs false
open Go.RowKit

theorem refTimes10 (va : Value) (x : Nat) (w : World) (ha : IsDec w va x) (hx : nlen 10 x ≤ 1000000000) :
    Calls Tryd.prog 47 #[va, .int .i64 10] w fun e w' => ∃ v, e = .returned v ∧ IsDec w' v (x * 10) ∧ Fr w w' :=
  refTimes_any va x 10 w ha hx (by omega)

set_option maxHeartbeats 1000000 in
set_option maxRecDepth 4000 in
theorem refMul_any (va vb : Value) (x y : Nat) (w : World) (ha : IsDec w va x) (hb : IsDec w vb y) (hx : nlen 10 x ≤ 100000000) (hy : nlen 10 y ≤ 100000000) :
    Calls Tryd.prog 39 #[va, vb] w fun e w' => ∃ v, e = .returned v ∧ IsDec w' v (x * y) ∧ Fr w w' := by
  have HA := hide ha
  obtain ⟨b, cb, rfl, b2, b3, b4⟩ := hb
  have H := hide b4
  have HX := hide (lt_nlen ten2 y)
  have HB := hide (Nat.le_refl (nlen 10 y))
  clear b4 ha
  generalize hn : nlen 10 y = n at *
  have HN := hide hn
  clear hn
  go_enter Tryd.func39, Tryd.ntmps39
  go_wp2_with fail
  go_loopw [5, 6] (fun o i wr => ∃ k : Nat, k ≤ n ∧ i = .int .i64 ((k : Int) - 1) ∧ Hid (IsDec wr o (x * (y / 10 ^ k))) ∧ Hid (Fr w wr)) (fun _ i _ => (intOf i + 1).toNat)
  case atStart =>
    refine ⟨n, by omega, by go_num, ?_, Fr.refl _⟩
    rw [Nat.div_eq_of_lt HX.out, Nat.mul_zero]
    exact isDec_nil _
  case round =>
    obtain ⟨k, hk, rfl, hD, hF⟩ := hrel
    by_cases c : k = 0
    · subst c
      have hD2 := hide (show IsDec wr _ (x * y) by have := hD.out; simpa using this)
      go_wp2_with fail
      go_ret
      exact ⟨_, rfl, hD2, hF⟩
    · obtain ⟨k, rfl⟩ : ∃ j, k = j + 1 := ⟨k - 1, by omega⟩
      have e0 : ((k + 1 : Nat) : Int) - 1 = (k : Int) := by omega
      rw [e0]
      have hst := div_step ten2 y k
      have hlt := dg_lt ten2 y k
      have hle : y / 10 ^ (k + 1) ≤ y := Nat.div_le_self _ _
      have hb0 : nlen 10 (y / 10 ^ (k + 1)) ≤ 100000000 := Nat.le_trans (nlen_mono ten2 hle) (by rw [HN.out]; omega)
      have hb1 : nlen 10 (x * (y / 10 ^ (k + 1))) ≤ 200000000 := Nat.le_trans (nlen_mul ten2 hx hb0) (by omega)
      have hb2 : nlen 10 (x * (y / 10 ^ (k + 1)) * 10) ≤ 200000002 := Nat.le_trans (nlen_mul (n := 200000000) (m := 2) ten2 hb1 (nlen_le ten2 (by omega))) (by omega)
      have hb3 : nlen 10 (x * dg 10 y k) ≤ 100000001 := Nat.le_trans (nlen_mul (m := 1) ten2 hx (nlen_le ten2 (by omega))) (by omega)
      rcases H.out.fr hF.out with h | ⟨g, off, rfl, hg, hc⟩
      · omega
      have ST := hide hst
      have B1 := hide hb1
      have B2 := hide hb2
      have HC := hide hc
      clear hst hle hb0 hb1 hb2 hc
      go_wp2_with fail
      refine (refTimes10 _ _ _ hD.out (by have := B1.out; omega)).mono ?_
      rintro e w1 ⟨v1, rfl, h1, f1⟩
      have hci := fr_cell f1 (HC.out k (by omega))
      generalize hd : dg 10 y k = d at *
      go_wp2_with fail
      refine (refTimes_any _ x d _ (HA.out.fr (hF.out.trans f1)) (by omega) (by omega)).mono ?_
      rintro e w2 ⟨v2, rfl, h2, f2⟩
      have E1 := hide (h1.fr f2)
      have E2 := hide h2
      have F2 := hide ((hF.out.trans f1).trans f2)
      clear h1 h2 f1 f2 hci
      go_wp2_with fail
      refine (refAdd_any _ _ _ _ _ E1.out E2.out (by have := B2.out; omega) (by omega)).mono ?_
      rintro e w3 ⟨v3, rfl, h3, f3⟩
      have e3 : x * (y / 10 ^ (k + 1)) * 10 + x * d = x * (y / 10 ^ k) := by rw [ST.out, Nat.mul_assoc, ← Nat.mul_add, Nat.mul_comm _ 10]
      rw [e3] at h3
      have E3 := hide h3
      have F3 := hide (F2.out.trans f3)
      clear h3 f3 e3
      go_wp2_with fail
      go_roundw
      case rel => exact ⟨k, by omega, by go_num, E3, F3⟩
      case measure => simp [intOf]
end Go.Proofs.YtimglhbllcjpbaaDoor
