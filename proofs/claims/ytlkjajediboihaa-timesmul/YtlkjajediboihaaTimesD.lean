/- What layer 3's laws take: few, wakes; the products at hand. -/
import Derived.Test.YtlkjajediboihaaTimesC
import Derived.Test.YtlkjajediboihaaNatU
namespace Go.Proofs.Ytlkjajediboihaa
set_option linter.unusedVariables false
set_option linter.unusedSimpArgs false
open Go.RowKit

set_option maxHeartbeats 400000 in
theorem few_any (a : Option Addr) (len cap : Nat) (w : World) (h1 : len ≤ cap) (h2 : cap ≤ maxLen) (h3 : a = none → cap = 0) :
    Calls Try.prog 8 #[.slice a len cap] w fun e w' => e = .returned (.slice a (min len 15) cap) ∧ w' = w := by
  unfold maxLen at h2
  have hm : ∃ m, min len 15 = m ∧ m ≤ len ∧ m ≤ 15 ∧ (len ≤ 15 → m = len) ∧ (15 ≤ len → m = 15) := ⟨_, rfl, by omega, by omega, by omega, by omega⟩
  obtain ⟨m, hm, m1, m2, m3, m4⟩ := hm
  rw [hm]
  clear hm
  by_cases c : len ≤ 15
  · obtain rfl := m3 c
    clear m3 m4
    rcases a with _ | ad
    · obtain rfl := h3 rfl
      obtain rfl : m = 0 := by omega
      go_enter Try.func8, Try.ntmps8
      go_wp2
      go_ret
      exact ⟨rfl, rfl⟩
    · go_enter Try.func8, Try.ntmps8
      go_wp2
      go_ret
      exact ⟨rfl, rfl⟩
  · obtain rfl := m4 (by omega)
    clear m3 m4
    rcases a with _ | ad
    · have := h3 rfl; omega
    · go_enter Try.func8, Try.ntmps8
      go_wp2
      go_ret
      exact ⟨rfl, rfl⟩

/-- What came in, as the laws take it: cut to 15 limbs at most, and the Nat that is made of it. -/
theorem came {w : World} {a : Option Addr} {len cap : Nat} {zs : List Int} (h : IsRow .u32 w a len cap zs) :
    ∃ k x, k ≤ 15 ∧ k ≤ cap ∧ x < 4294967296 ^ k ∧ Cs .u32 w a k (dg 4294967296 x) ∧ (∀ wz, Calls Try.prog 8 #[.slice a len cap] wz fun e w' => e = .returned (.slice a k cap) ∧ w' = wz) ∧
      ∀ wz, Fr w wz → Calls Try.prog 7 #[.slice a k cap] wz fun e w' => ∃ a' c', e = .returned (.agg #[.slice a' (nlen 4294967296 x) c']) ∧ Res wz w' a' c' x := by
  obtain ⟨h1, h2, h3, h4, h5⟩ := row_take h (min len 15) (by omega)
  refine ⟨min len 15, lnum zs (min len 15), by omega, by omega, h2, h1, fun wz => few_any a len cap wz h4 h5 ?_, fun wz fz => ?_⟩
  · intro e
    rcases h with ⟨_, _, h, _⟩ | ⟨x, hx, _⟩
    · exact h
    · rw [e] at hx; cases hx
  · refine (made_any _ cap a _ (lnum zs (min len 15)) wz (by omega) (h1.fr fz) h2 (fun j _ => rfl)).mono ?_
    rintro e w' ⟨a', c', rfl, hl, hN, hf⟩
    exact ⟨_, _, rfl, hN, fun g off s e => Nat.le_of_lt (hl g off s (natA_some e)), hf⟩

theorem nlen_pow {x n : Nat} (h : nlen 4294967296 x ≤ n) : ∀ j, nlen 4294967296 (x ^ j) ≤ n * j + 1 := by
  intro j
  induction j with
  | zero => rw [Nat.pow_zero, nl1]; omega
  | succ j ih =>
    rw [Nat.pow_succ]
    have := nlen_mul b32 ih h
    rw [Nat.mul_succ]
    omega
theorem mul_env {w : World} {L : List (Value × Nat)} {va vb : Value} {x y : Nat} (h : Env w L) (ha : (va, x) ∈ L) (hb : (vb, y) ∈ L) (hs : nlen 4294967296 (x * y) ≤ 1000) :
    Calls Try.prog 15 #[va, vb] w fun e w' => ∃ a c, e = .returned (.agg #[.slice a (nlen 4294967296 (x * y)) c]) ∧ Env w' ((.agg #[.slice a (nlen 4294967296 (x * y)) c], x * y) :: L) ∧ Fr w w' := by
  refine (mul_any va vb x y w (h _ ha).1 (h _ hb).1 (by have := (h _ ha).2; simp at this; omega) (by have := (h _ hb).2; simp at this; omega)).mono ?_
  rintro e w' ⟨a, c, rfl, h1, h2, h3⟩
  exact ⟨a, c, rfl, (h.fr h3).cons h1 hs, h3⟩
theorem pow_env {w : World} {L : List (Value × Nat)} {va : Value} {x : Nat} (k : Int) (h : Env w L) (ha : (va, x) ∈ L) (k0 : 0 ≤ k) (k1 : k ≤ 1000) (hs : nlen 4294967296 (x ^ k.toNat) ≤ 1000) :
    Calls Try.prog 19 #[va, .int .i64 k] w fun e w' => ∃ a c, e = .returned (.agg #[.slice a (nlen 4294967296 (x ^ k.toNat)) c]) ∧ Env w' ((.agg #[.slice a (nlen 4294967296 (x ^ k.toNat)) c], x ^ k.toNat) :: L) ∧ Fr w w' := by
  have hn := (h _ ha).2
  simp at hn
  have hb : ∀ j, j ≤ max 1 k.toNat → nlen 4294967296 (x ^ j) ≤ 100000000000 := fun j hj => by
    have h1 := nlen_pow hn j
    have h2 : 1000 * j ≤ 1000 * 1000 := Nat.mul_le_mul_left _ (by omega)
    omega
  refine (pow_any k.toNat k va x w (Nat.le_refl _) (by omega) (by omega) (h _ ha).1 hb).mono ?_
  rintro e w' ⟨a, c, rfl, h1, h2, h3⟩
  exact ⟨a, c, rfl, (h.fr h3).cons h1 hs, h3⟩

theorem w10 : nlen 4294967296 (10 ^ 19) = 2 := nlen_eq b32 (by decide) (.inr (by decide))
theorem nlw3 : nlen 4294967296 12884901888 = 2 := nlen_eq b32 (by decide) (.inr (by decide))
theorem wsm {x : Nat} (h : x < 18446744073709551616) : nlen 4294967296 x ≤ 2 := nlen_le b32 h

theorem none_bd : ∀ j, j ≤ 0 → nlen 4294967296 (prodN (fun _ => 1) j) ≤ 100000000000 := fun j hj => by
  obtain rfl : j = 0 := by omega
  show nlen 4294967296 1 ≤ _
  rw [nl1]; omega
set_option maxHeartbeats 1000000 in
theorem wakes_any (w : World) : Calls Try.prog 12 #[] w fun e w' => e = .returned (.bool true) ∧ Fr w w' := by
  have ho : ∀ (n : Int) (x : Nat) (w : World), n = x → x < 18446744073709551616 → Calls Try.prog 17 #[.int .u64 n] w fun e w' => ∃ a c, e = .returned (.agg #[.slice a (nlen 4294967296 x) c]) ∧ Res w w' a c x := fun n x w e h => by
    subst e
    have := of_int (x : Int) w (by omega) (by omega)
    rwa [Int.toNat_natCast] at this
  have Ho := hide ho
  clear ho
  go_enter Try.func12, Try.ntmps12
  go_wp2_with fail
  refine (Ho.out 10 10 _ rfl (by omega)).mono ?_
  rintro e w1 ⟨a1, c1, rfl, h1, _, f1⟩
  go_wp2_with fail
  refine (pow_any 19 19 _ 10 _ (by decide) (by omega) (by omega) h1 (fun j hj => by have := nlen_pow (wsm (x := 10) (by omega)) j; simp at hj; omega)).mono ?_
  rintro e w2 ⟨a2, c2, rfl, h2, _, f2⟩
  have F := f1.trans f2
  rw [show (10 : Nat) ^ (19 : Int).toNat = 10000000000000000000 by decide] at *
  clear h1 f1 f2
  go_wp2_with fail
  refine (small_any _ _ _ h2).mono ?_
  rintro e w3 ⟨rfl, f3⟩
  rw [if_pos (by omega), decide_eq_true (by omega)]
  have F := F.trans f3
  clear h2 f3
  go_wp2_with fail
  refine (Ho.out 4294967296 4294967296 _ rfl (by omega)).mono ?_
  rintro e w4 ⟨a4, c4, rfl, h4, _, f4⟩
  go_wp2_with fail
  refine (Ho.out 3 3 _ rfl (by omega)).mono ?_
  rintro e w5 ⟨a5, c5, rfl, h5, _, f5⟩
  have h4 := IsNat.fr h4 f5
  go_wp2_with fail
  refine (mul_any _ _ _ _ _ h4 h5 (by have := wsm (x := 4294967296) (by omega); omega) (by have := wsm (x := 3) (by omega); omega)).mono ?_
  rintro e w6 ⟨a6, c6, rfl, h6, _, f6⟩
  rw [show 4294967296 * 3 = 12884901888 from rfl] at *
  go_wp2_with fail
  refine (limbs_any _ _ _ h6 (by rw [nlw3]; omega)).mono ?_
  rintro e w7 ⟨v7, rfl, h7, f7⟩
  rw [nlw3] at h7
  obtain ⟨a7, c7, rfl, _, _, _⟩ := own_form h7
  have F := (((F.trans f4).trans f5).trans f6).trans f7
  clear h4 h5 h6 f4 f5 f6 f7
  rcases own_cs h7 with h0 | ⟨g, off, rfl, hg, hc⟩
  · omega
  · have e1 : w7.cell? ⟨g, off + 1, none⟩ = some (.int .u32 3) := by have := hc 1 (by omega); rw [show dg 4294967296 12884901888 1 = 3 by decide] at this; exact this
    clear hc h7 hg
    go_wp2_with fail
    refine (all_any none 0 0 (fun _ => 1) _ (.inl rfl) (by omega) (fun j hj => by omega) none_bd).mono ?_
    rintro e w8 ⟨a8, c8, rfl, h8, _, f8⟩
    rw [show prodN (fun _ => 1) 0 = 1 from rfl] at *
    have e1 := fr_cell f8 e1
    go_wp2_with fail
    refine (small_any _ _ _ h8).mono ?_
    rintro e w9 ⟨rfl, f9⟩
    rw [if_pos (by omega), decide_eq_true (by omega)]
    have e1 := fr_cell f9 e1
    have F := (F.trans f8).trans f9
    clear h8 f8 f9
    go_wp2_with fail
    go_ret
    exact ⟨rfl, F⟩
end Go.Proofs.Ytlkjajediboihaa
