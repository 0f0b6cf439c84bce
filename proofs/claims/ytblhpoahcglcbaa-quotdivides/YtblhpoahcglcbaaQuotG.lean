/- What layer 4's laws take: few, wakes. -/
import Derived.Test.YtblhpoahcglcbaaQuotF
import Derived.Test.YtblhpoahcglcbaaNatU
namespace Go.Proofs.Ytblhpoahcglcbaa
set_option linter.unusedVariables false
set_option linter.unusedSimpArgs false
open Go.RowKit

set_option maxHeartbeats 400000 in
theorem few_any (a : Option Addr) (len cap b : Nat) (w : World) (hb : b ≤ 1000) (h1 : len ≤ cap) (h2 : cap ≤ maxLen) (h3 : a = none → cap = 0) :
    Calls Try.prog 7 #[.slice a len cap, .int .i64 b] w fun e w' => e = .returned (.slice a (min len b) cap) ∧ w' = w := by
  unfold maxLen at h2
  have hm : ∃ m, min len b = m ∧ m ≤ len ∧ m ≤ b ∧ (len ≤ b → m = len) ∧ (b ≤ len → m = b) := ⟨_, rfl, by omega, by omega, by omega, by omega⟩
  obtain ⟨m, hm, m1, m2, m3, m4⟩ := hm
  rw [hm]
  clear hm
  by_cases c : len ≤ b
  · obtain rfl := m3 c
    clear m3 m4
    rcases a with _ | ad
    · obtain rfl := h3 rfl
      obtain rfl : m = 0 := by omega
      go_enter Try.func7, Try.ntmps7
      go_wp2
      go_ret
      exact ⟨rfl, rfl⟩
    · go_enter Try.func7, Try.ntmps7
      go_wp2
      go_ret
      exact ⟨rfl, rfl⟩
  · obtain rfl := m4 (by omega)
    clear m3 m4
    rcases a with _ | ad
    · have := h3 rfl; omega
    · go_enter Try.func7, Try.ntmps7
      go_wp2
      go_ret
      exact ⟨rfl, rfl⟩

/-- What came in, as the laws take it: cut to b limbs at most, and the Nat that is made of it. -/
theorem came {w : World} {a : Option Addr} {len cap : Nat} {zs : List Int} (b : Nat) (hb : b ≤ 1000) (h : IsRow .u32 w a len cap zs) :
    ∃ k x, k ≤ b ∧ k ≤ cap ∧ x < 4294967296 ^ k ∧ Cs .u32 w a k (dg 4294967296 x) ∧ (∀ wz, Calls Try.prog 7 #[.slice a len cap, .int .i64 b] wz fun e w' => e = .returned (.slice a k cap) ∧ w' = wz) ∧
      ∀ wz, Fr w wz → Calls Try.prog 9 #[.slice a k cap] wz fun e w' => ∃ a' c', e = .returned (.agg #[.slice a' (nlen 4294967296 x) c']) ∧ Res wz w' a' c' x := by
  obtain ⟨h1, h2, h3, h4, h5⟩ := row_take h (min len b) (by omega)
  refine ⟨min len b, lnum zs (min len b), by omega, by omega, h2, h1, fun wz => few_any a len cap b wz hb h4 h5 ?_, fun wz fz => ?_⟩
  · intro e
    rcases h with ⟨_, _, h, _⟩ | ⟨x, hx, _⟩
    · exact h
    · rw [e] at hx; cases hx
  · refine (made_any _ cap a _ (lnum zs (min len b)) wz (by omega) (h1.fr fz) h2 (fun j _ => rfl)).mono ?_
    rintro e w' ⟨a', c', rfl, hl, hN, hf⟩
    exact ⟨_, _, rfl, hN, fun g off s e => Nat.le_of_lt (hl g off s (natA_some e)), hf⟩

theorem nlen_pow {x n : Nat} (h : nlen 4294967296 x ≤ n) : ∀ j, nlen 4294967296 (x ^ j) ≤ n * j + 1 := by
  intro j
  induction j with
  | zero => rw [Nat.pow_zero, nl1]; omega
  | succ j ih =>
    rw [Nat.pow_succ]
    have := nlen_mul b32 ih h
    rw [Nat.mul_succ]
    omega
theorem wsm {x : Nat} (h : x < 18446744073709551616) : nlen 4294967296 x ≤ 2 := nlen_le b32 h
theorem ofc_any (n : Int) (x : Nat) (w : World) (e : n = x) (h : x < 18446744073709551616) : Calls Try.prog 20 #[.int .u64 n] w fun e w' => ∃ a c, e = .returned (.agg #[.slice a (nlen 4294967296 x) c]) ∧ Res w w' a c x := by
  subst e
  have := of_int (x : Int) w (by omega) (by omega)
  rwa [Int.toNat_natCast] at this
theorem powc_any (k : Int) (K : Nat) (va : Value) (x P : Nat) (w : World) (e : k = K) (hk : K ≤ 1000) (hx : x < 18446744073709551616) (hP : x ^ K = P) (h : IsNat w va x) :
    Calls Try.prog 33 #[va, .int .i64 k] w fun e w' => ∃ a c, e = .returned (.agg #[.slice a (nlen 4294967296 P) c]) ∧ Res w w' a c P := by
  subst e
  have := pow_any K K va x w (by omega) (by omega) (by omega) h (fun j hj => by
    have h1 := nlen_pow (wsm hx) j
    have h2 : 2 * j ≤ 2 * 1000 := Nat.mul_le_mul_left _ (by omega)
    omega)
  rwa [Int.toNat_natCast, hP] at this
theorem nl20 : nlen 4294967296 100000000000000000000 ≤ 3 := nlen_le b32 (by decide)
theorem nl10' : nlen 4294967296 10000000000 ≤ 2 := nlen_le b32 (by decide)

set_option maxHeartbeats 1000000 in
theorem wakes_any (w : World) : Calls Try.prog 11 #[] w fun e w' => e = .returned (.bool true) ∧ Fr w w' := by
  go_enter Try.func11, Try.ntmps11
  go_wp2_with fail
  refine (ofc_any 10 10 _ rfl (by omega)).mono ?_
  rintro e w1 ⟨a1, c1, rfl, h1, _, f1⟩
  go_wp2_with fail
  refine (powc_any 20 20 _ 10 100000000000000000000 _ rfl (by omega) (by omega) (by decide) h1).mono ?_
  rintro e w2 ⟨a2, c2, rfl, h2, _, f2⟩
  have F := f1.trans f2
  clear h1 f1 f2
  go_wp2_with fail
  refine (ofc_any 10 10 _ rfl (by omega)).mono ?_
  rintro e w3 ⟨a3, c3, rfl, h3, _, f3⟩
  go_wp2_with fail
  refine (powc_any 10 10 _ 10 10000000000 _ rfl (by omega) (by omega) (by decide) h3).mono ?_
  rintro e w4 ⟨a4, c4, rfl, h4, _, f4⟩
  have F := (F.trans f3).trans f4
  have h2 := (h2.fr f3).fr f4
  clear h3 f3 f4
  go_wp2_with fail
  refine (div_yes _ _ _ _ _ h2 h4 (by have := nl20; omega) (by have := nl10'; omega) (by decide)).mono ?_
  rintro e w5 ⟨aq, cq, ar, cr, rfl, ⟨hq, _, f5⟩, ⟨hr, _, _⟩⟩
  rw [show 100000000000000000000 / 10000000000 = 10000000000 by decide, show 100000000000000000000 % 10000000000 = 0 by decide] at *
  have F := F.trans f5
  clear h2 h4 f5
  go_wp2_with fail
  obtain ⟨W, hW⟩ : ∃ W, W = (w5.alloc (Obj.cells #[Value.slice aq (nlen 4294967296 10000000000) cq] 25)).alloc (Obj.cells #[Value.slice ar (nlen 4294967296 0) cr] 25) := ⟨_, rfl⟩
  have fW : Fr w5 W := by rw [hW]; exact (Fr.alloc _ _).trans (Fr.alloc _ _)
  have d2 : W.cell? ⟨w5.heap.size + 1, 0, none⟩ = some (.slice ar (nlen 4294967296 0) cr) := by rw [hW]; simp [go_sem]
  rw [← hW]
  clear hW
  have F := F.trans fW
  have hq := hq.fr fW
  have hr := hr.fr fW
  clear fW
  refine (small_any _ _ _ hq).mono ?_
  rintro e w6 ⟨rfl, f6⟩
  rw [if_pos (by omega), decide_eq_true (by omega)]
  have F := F.trans f6
  have hr := hr.fr f6
  have d2 := fr_cell f6 d2
  clear hq f6
  go_wp2_with fail
  refine (ofc_any 5 5 _ rfl (by omega)).mono ?_
  rintro e w7 ⟨a7, c7, rfl, h7, _, f7⟩
  go_wp2_with fail
  refine (ofc_any 2 2 _ rfl (by omega)).mono ?_
  rintro e w8 ⟨a8, c8, rfl, h8, _, f8⟩
  have h7 := h7.fr f8
  go_wp2_with fail
  refine (half_yes _ _ _ _ _ h7 h8 (by have := wsm (x := 5) (by omega); omega) (by have := wsm (x := 2) (by omega); omega) (by decide)).mono ?_
  rintro e w9 ⟨a9, c9, rfl, h9, _, f9⟩
  rw [show halfN 5 2 = 3 by decide] at *
  have d2 := fr_cell ((f7.trans f8).trans f9) d2
  have hr := hr.fr ((f7.trans f8).trans f9)
  have F := F.trans ((f7.trans f8).trans f9)
  clear h7 h8 f7 f8 f9
  go_wp2_with fail
  have d2 := fr_cell (Fr.alloc w9 (Obj.cells #[Value.slice a9 (nlen 4294967296 3) c9] 25)) d2
  refine (small_any _ _ _ (h9.fr (Fr.alloc _ _))).mono ?_
  rintro e w10 ⟨rfl, f10⟩
  rw [if_pos (by omega), decide_eq_true (by omega)]
  have F := (F.trans (Fr.alloc _ _)).trans f10
  have hr := hr.fr ((Fr.alloc _ _).trans f10)
  have d2 := fr_cell f10 d2
  clear h9 f10
  go_wp2_with fail
  refine (ofc_any 12 12 _ rfl (by omega)).mono ?_
  rintro e w11 ⟨a11, c11, rfl, h11, _, f11⟩
  go_wp2_with fail
  refine (ofc_any 18 18 _ rfl (by omega)).mono ?_
  rintro e w12 ⟨a12, c12, rfl, h12, _, f12⟩
  have h11 := h11.fr f12
  go_wp2_with fail
  refine (gcd_any _ _ _ _ _ h11 h12 (by have := wsm (x := 12) (by omega); omega) (by have := wsm (x := 18) (by omega); omega)).mono ?_
  rintro e w13 ⟨a13, c13, rfl, h13, f13⟩
  rw [show Nat.gcd 12 18 = 6 by decide] at *
  have f14 := (f11.trans f12).trans f13
  clear h11 h12 f11 f12 f13
  go_wp2_with fail
  refine (small_any _ _ _ h13).mono ?_
  rintro e w15 ⟨rfl, f15⟩
  rw [if_pos (by omega), decide_eq_true (by omega)]
  have f16 := f14.trans f15
  have F := F.trans f16
  have hr := hr.fr f16
  have d2 := fr_cell f16 d2
  clear h13 f14 f15 f16
  go_wp2_with fail
  refine (bits_any _ _ _ hr (by rw [nlen_zero]; omega)).mono ?_
  rintro e w17 ⟨rfl, f17⟩
  rw [nlen_zero]
  have F := F.trans f17
  go_wp2_with fail
  go_ret
  exact ⟨rfl, F⟩
end Go.Proofs.Ytblhpoahcglcbaa
