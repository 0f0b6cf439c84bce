/- Powers of ten (layer 5's Ten), for a seat that holds no other function of layer 5. -/
import Derived.Test.YtphoimjjhcjniaaTimesC
namespace Go.Proofs.Ytphoimjjhcjniaa
open Go.RowKit

theorem nlen_pow {x n : Nat} (h : nlen 4294967296 x ≤ n) : ∀ j, nlen 4294967296 (x ^ j) ≤ n * j + 1 := by
  intro j
  induction j with
  | zero => rw [Nat.pow_zero, nl1]; omega
  | succ j ih =>
    rw [Nat.pow_succ]
    have := nlen_mul b32 ih h
    rw [Nat.mul_succ]
    omega
theorem nlten : nlen 4294967296 10 = 1 := nlen_eq b32 (by decide) (.inr (by decide))

set_option maxHeartbeats 1000000 in
set_option maxRecDepth 4000 in
theorem ten_any (k : Int) (w : World) (k0 : -9223372036854775808 ≤ k) (k1 : k ≤ 100000) :
    Calls Try.prog 19 #[.int .i64 k] w fun e w' => ∃ a c, e = .returned (.agg #[.slice a (nlen 4294967296 (10 ^ k.toNat)) c]) ∧ IsNat w' (.agg #[.slice a (nlen 4294967296 (10 ^ k.toNat)) c]) (10 ^ k.toNat) ∧ Fr w w' := by
  have HB : Hid (∀ j, j ≤ max 1 k.toNat → nlen 4294967296 (10 ^ j) ≤ 100000000000) := by
    unfold Hid
    intro j hj
    have := nlen_pow (x := 10) (n := 1) (by rw [nlten]; omega) j
    omega
  go_enter Try.func19, Try.ntmps19
  go_wp2_with fail
  refine (of_int 10 _ (by omega) (by omega)).mono ?_
  rintro e w1 ⟨a1, c1, rfl, h1, _, f1⟩
  have H1 := hide h1
  have z4 := var_free f1
  have c4 := var_cell f1
  have F := hide ((Fr.alloc _ _).trans f1)
  clear f1 h1
  go_wp2_with fail
  refine (pow_any k.toNat k _ _ _ (Nat.le_refl _) k0 (by omega) H1.out (by simpa using HB.out)).mono ?_
  rintro e w2 ⟨a2, c2, rfl, h2, l2, f2⟩
  have z4 := fr_free f2 c4 z4
  have c4 := fr_cell f2 c4
  have FF := hide (F.out.trans f2)
  have H2 := hide h2
  have L2 := hide l2
  have s1 := cell_lt (by assumption : w1.cell? ⟨w.heap.size, 0, none⟩ = _)
  simp only [] at s1
  clear h2 l2 f2
  rw [show (10 : Int).toNat = 10 by rfl] at *
  go_wp2_with fail
  (try simp only [Exit.inBlock, Exit.then])
  refine bodyPost_ret (results_nat rfl _ _ w.heap.size (.slice a2 (nlen 4294967296 (10 ^ k.toNat)) c2) rfl ?_) rfl ?_
  · go_simp
  · refine ⟨_, _, rfl, ?_, Below.setCell FF.out (by simp) _⟩
    exact IsNat.put H2.out _ _ (fun g off s e => by have := L2.out g off s e; simp; omega)
theorem wsm {x : Nat} (h : x < 18446744073709551616) : nlen 4294967296 x ≤ 2 := nlen_le b32 h
theorem ofc_any (n : Int) (x : Nat) (w : World) (e : n = x) (h : x < 18446744073709551616) : Calls Try.prog 16 #[.int .u64 n] w fun e w' => ∃ a c, e = .returned (.agg #[.slice a (nlen 4294967296 x) c]) ∧ Res w w' a c x := by
  subst e
  have := of_int (x : Int) w (by omega) (by omega)
  rwa [Int.toNat_natCast] at this
/-- The same with the numbers told. -/
theorem tenc_any (k : Int) (P : Nat) (w : World) (h0 : 0 ≤ k) (h1 : k ≤ 100000) (e : 10 ^ k.toNat = P) :
    Calls Try.prog 19 #[.int .i64 k] w fun e w' => ∃ a c, e = .returned (.agg #[.slice a (nlen 4294967296 P) c]) ∧ IsNat w' (.agg #[.slice a (nlen 4294967296 P) c]) P ∧ Fr w w' := by
  subst e
  exact ten_any k w (by omega) h1
end Go.Proofs.Ytphoimjjhcjniaa
