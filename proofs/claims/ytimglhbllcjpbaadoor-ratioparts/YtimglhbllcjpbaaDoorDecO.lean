/- The document's Made; the law's same and of. -/
import Derived.Test.YtimglhbllcjpbaaDoorDecN
namespace Go.Proofs.YtimglhbllcjpbaaDoor
set_option linter.unusedVariables false
set_option linter.unusedSimpArgs false
open Go.RowKit

theorem nl10 {x n : Nat} (h : x < 4294967296 ^ n) : nlen 10 x ≤ 10 * n := by
  refine nlen_le ten2 (Nat.lt_of_lt_of_le h ?_)
  rw [Nat.pow_mul]
  exact Nat.pow_le_pow_left (by decide) n

theorem refTimes32 (va : Value) (x : Nat) (w : World) (ha : IsDec w va x) (hx : nlen 10 x ≤ 1000000000) :
    Calls Tryd.prog 47 #[va, .int .i64 4294967296] w fun e w' => ∃ v, e = .returned v ∧ IsDec w' v (x * 4294967296) ∧ Fr w w' :=
  refTimes_any va x 4294967296 w ha hx (by omega)

set_option maxHeartbeats 1000000 in
set_option maxRecDepth 4000 in
theorem refMade_any (x n cap : Nat) (a : Option Addr) (w : World) (hx : x < 4294967296 ^ n) (hn : n ≤ 1000) (h : Cs .u32 w a n (dg 4294967296 x)) :
    Calls Tryd.prog 31 #[.slice a n cap] w fun e w' => ∃ v, e = .returned v ∧ IsDec w' v x ∧ Fr w w' := by
  have HX := hide hx
  have H := hide h
  have HB := hide (nl10 hx)
  clear hx h
  go_enter Tryd.func31, Tryd.ntmps31
  go_wp2_with fail
  go_loopw [3, 4] (fun o i wr => ∃ k : Nat, k ≤ n ∧ i = .int .i64 ((k : Int) - 1) ∧ Hid (IsDec wr o (x / 4294967296 ^ k)) ∧ Hid (Fr w wr)) (fun _ i _ => (intOf i + 1).toNat)
  case atStart =>
    refine ⟨n, by omega, by go_num, ?_, Fr.refl _⟩
    rw [Nat.div_eq_of_lt HX.out]
    exact isDec_nil _
  case round =>
    obtain ⟨k, hk, rfl, hD, hF⟩ := hrel
    by_cases c : k = 0
    · subst c
      have hD2 := hide (show IsDec wr _ x by have := hD.out; simpa using this)
      go_wp2_with fail
      go_ret
      exact ⟨_, rfl, hD2, hF⟩
    · obtain ⟨k, rfl⟩ : ∃ j, k = j + 1 := ⟨k - 1, by omega⟩
      have e0 : ((k + 1 : Nat) : Int) - 1 = (k : Int) := by omega
      rw [e0]
      have hst := div_step b32 x k
      have hlt := dg_lt b32 x k
      have hle : x / 4294967296 ^ (k + 1) ≤ x := Nat.div_le_self _ _
      have hle2 : x / 4294967296 ^ k ≤ x := Nat.div_le_self _ _
      have hb1 : nlen 10 (x / 4294967296 ^ (k + 1)) ≤ 10000 := Nat.le_trans (nlen_mono ten2 hle) (by have := HB.out; omega)
      have hb2 : nlen 10 (x / 4294967296 ^ k) ≤ 10000 := Nat.le_trans (nlen_mono ten2 hle2) (by have := HB.out; omega)
      rcases H.out.fr hF.out with h | ⟨g, off, rfl, hg, hc⟩
      · omega
      have ST := hide hst
      have B1 := hide hb1
      have B2 := hide hb2
      have HC := hide hc
      clear hst hle hle2 hb1 hb2 hc
      go_wp2_with fail
      refine (refTimes32 _ _ _ hD.out (by have := B1.out; omega)).mono ?_
      rintro e w1 ⟨v1, rfl, h1, f1⟩
      have hci := fr_cell f1 (HC.out k (by omega))
      generalize hd : dg 4294967296 x k = d at *
      go_wp2_with fail
      refine (refOf_any d _ (by omega)).mono ?_
      rintro e w2 ⟨v2, rfl, h2, f2⟩
      have hs : nlen 10 (x / 4294967296 ^ (k + 1) * 4294967296) ≤ 10000 := Nat.le_trans (nlen_mono ten2 (by rw [ST.out]; omega)) B2.out
      have hs2 : nlen 10 d ≤ 10000 := Nat.le_trans (nlen_mono ten2 (by rw [ST.out]; omega)) B2.out
      have E1 := hide (h1.fr f2)
      have E2 := hide h2
      have F2 := hide ((hF.out.trans f1).trans f2)
      clear h1 h2 f1 f2 hci
      go_wp2_with fail
      refine (refAdd_any _ _ _ _ _ E1.out E2.out (by omega) (by omega)).mono ?_
      rintro e w3 ⟨v3, rfl, h3, f3⟩
      have e3 : x / 4294967296 ^ (k + 1) * 4294967296 + d = x / 4294967296 ^ k := by rw [ST.out]; omega
      rw [e3] at h3
      have E3 := hide h3
      have F3 := hide (F2.out.trans f3)
      clear h3 f3 e3
      go_wp2_with fail
      go_roundw
      case rel => exact ⟨k, by omega, by go_num, E3, F3⟩
      case measure => simp [intOf]
end Go.Proofs.YtimglhbllcjpbaaDoor
