/- What layer 5's laws take: few, wakes, of. -/
import Derived.Test.YtfmloickfopmmaaDoorTensC
import Derived.Test.YtfmloickfopmmaaDoorTensL
import Derived.Test.YtfmloickfopmmaaDoorNatU
namespace Go.Proofs.YtfmloickfopmmaaDoor
set_option linter.unusedVariables false
set_option linter.unusedSimpArgs false
open Go.RowKit

set_option maxHeartbeats 400000 in
theorem few_any (a : Option Addr) (len cap : Nat) (w : World) (h1 : len ≤ cap) (h2 : cap ≤ maxLen) (h3 : a = none → cap = 0) :
    Calls Tryd.prog 12 #[.slice a len cap] w fun e w' => e = .returned (.slice a (min len 15) cap) ∧ w' = w := by
  unfold maxLen at h2
  have hm : ∃ m, min len 15 = m ∧ m ≤ len ∧ m ≤ 15 ∧ (len ≤ 15 → m = len) ∧ (15 ≤ len → m = 15) := ⟨_, rfl, by omega, by omega, by omega, by omega⟩
  obtain ⟨m, hm, m1, m2, m3, m4⟩ := hm
  rw [hm]
  clear hm
  by_cases c : len ≤ 15
  · obtain rfl := m3 c
    clear m3 m4
    rcases a with _ | ad
    · obtain rfl := h3 rfl
      obtain rfl : m = 0 := by omega
      go_enter Tryd.func12, Tryd.ntmps12
      go_wp2
      go_ret
      exact ⟨rfl, rfl⟩
    · go_enter Tryd.func12, Tryd.ntmps12
      go_wp2
      go_ret
      exact ⟨rfl, rfl⟩
  · obtain rfl := m4 (by omega)
    clear m3 m4
    rcases a with _ | ad
    · have := h3 rfl; omega
    · go_enter Tryd.func12, Tryd.ntmps12
      go_wp2
      go_ret
      exact ⟨rfl, rfl⟩

/-- What came in, as the laws take it: cut to 15 limbs at most, and the Nat that is made of it. -/
theorem came {w : World} {a : Option Addr} {len cap : Nat} {zs : List Int} (h : IsRow .u32 w a len cap zs) :
    ∃ k x, k ≤ 15 ∧ k ≤ cap ∧ x < 4294967296 ^ k ∧ Cs .u32 w a k (dg 4294967296 x) ∧ (∀ wz, Calls Tryd.prog 12 #[.slice a len cap] wz fun e w' => e = .returned (.slice a k cap) ∧ w' = wz) ∧
      ∀ wz, Fr w wz → Calls Tryd.prog 11 #[.slice a k cap] wz fun e w' => ∃ a' c', e = .returned (.agg #[.slice a' (nlen 4294967296 x) c']) ∧ Res wz w' a' c' x := by
  obtain ⟨h1, h2, h3, h4, h5⟩ := row_take h (min len 15) (by omega)
  refine ⟨min len 15, lnum zs (min len 15), by omega, by omega, h2, h1, fun wz => few_any a len cap wz h4 h5 ?_, fun wz fz => ?_⟩
  · intro e
    rcases h with ⟨_, _, h, _⟩ | ⟨x, hx, _⟩
    · exact h
    · rw [e] at hx; cases hx
  · refine (made_any _ cap a _ (lnum zs (min len 15)) wz (by omega) (h1.fr fz) h2 (fun j _ => rfl)).mono ?_
    rintro e w' ⟨a', c', rfl, hl, hN, hf⟩
    exact ⟨_, _, rfl, hN, fun g off s e => Nat.le_of_lt (hl g off s (natA_some e)), hf⟩

theorem wsm {x : Nat} (h : x < 18446744073709551616) : nlen 4294967296 x ≤ 2 := nlen_le b32 h
theorem ofc_any (n : Int) (x : Nat) (w : World) (e : n = x) (h : x < 18446744073709551616) : Calls Tryd.prog 24 #[.int .u64 n] w fun e w' => ∃ a c, e = .returned (.agg #[.slice a (nlen 4294967296 x) c]) ∧ Res w w' a c x := by
  subst e
  have := of_int (x : Int) w (by omega) (by omega)
  rwa [Int.toNat_natCast] at this
/-- The same with the numbers told. -/
theorem tenc_any (k : Int) (P : Nat) (w : World) (h0 : 0 ≤ k) (h1 : k ≤ 100000) (e : 10 ^ k.toNat = P) :
    Calls Tryd.prog 8 #[.int .i64 k] w fun e w' => ∃ a c, e = .returned (.agg #[.slice a (nlen 4294967296 P) c]) ∧ IsNat w' (.agg #[.slice a (nlen 4294967296 P) c]) P ∧ Fr w w' := by
  subst e
  exact ten_any k w (by omega) h1
theorem upc_any (v : Value) (x : Nat) (k : Int) (P : Nat) (w : World) (h : IsNat w v x) (hn : nlen 4294967296 x ≤ 100000000000) (k0 : -9223372036854775808 ≤ k) (k1 : k ≤ 100000000000) (e : x * 2 ^ k.toNat = P) :
    Calls Tryd.prog 19 #[v, .int .i64 k] w fun e w' => ∃ a c, e = .returned (.agg #[.slice a (nlen 4294967296 P) c]) ∧ IsNat w' (.agg #[.slice a (nlen 4294967296 P) c]) P ∧ Fr w w' := by
  subst e
  exact up_any v x k w h hn k0 k1
theorem downc_any (v : Value) (x : Nat) (k : Int) (P : Nat) (b : Bool) (w : World) (hT : Tab w) (h : IsNat w v x) (hn : nlen 4294967296 x ≤ 100000000000) (k0 : -9223372036854775808 ≤ k) (k1 : k ≤ 9223372036854775807) (e : x / 2 ^ k.toNat = P) (eb : decide (x % 2 ^ k.toNat ≠ 0) = b) :
    Calls Tryd.prog 17 #[v, .int .i64 k] w fun e w' => ∃ a c, e = .returned (.tuple #[.agg #[.slice a (nlen 4294967296 P) c], .bool b]) ∧ IsNat w' (.agg #[.slice a (nlen 4294967296 P) c]) P ∧ Fr w w' := by
  subst e
  subst eb
  exact down_any v x k w hT h hn k0 k1
theorem noughtsc_any (v : Value) (x : Nat) (Z : Int) (w : World) (hT : Tab w) (h : IsNat w v x) (hn : nlen 4294967296 x ≤ 100000000000) (e : (tz x : Int) = Z) :
    Calls Tryd.prog 22 #[v] w fun e w' => e = .returned (.int .i64 Z) ∧ Fr w w' := by
  subst e
  exact noughts_any v x w hT h hn

set_option maxHeartbeats 1000000 in
theorem wakes_any (w : World) (hT : Tab w) : Calls Tryd.prog 10 #[] w fun e w' => e = .returned (.bool true) ∧ Fr w w' := by
  have HT := hide hT
  clear hT
  go_enter Tryd.func10, Tryd.ntmps10
  go_wp2_with fail
  refine (tenc_any 19 10000000000000000000 _ (by omega) (by omega) (by decide)).mono ?_
  rintro e w1 ⟨a1, c1, rfl, h1, f1⟩
  go_wp2_with fail
  refine (small_any _ _ _ h1).mono ?_
  rintro e w2 ⟨rfl, f2⟩
  rw [if_pos (by omega), decide_eq_true (by omega)]
  have F := f1.trans f2
  clear h1 f1 f2
  go_wp2_with fail
  refine (ofc_any 5 5 _ rfl (by omega)).mono ?_
  rintro e w3 ⟨a3, c3, rfl, h3, _, f3⟩
  have F := F.trans f3
  go_wp2_with fail
  refine (downc_any _ 5 1 2 true _ (Tab.fr HT.out F) h3 (by have := wsm (x := 5) (by omega); omega) (by omega) (by omega) (by decide) (by decide)).mono ?_
  rintro e w4 ⟨a4, c4, rfl, h4, f4⟩
  have F := F.trans f4
  clear h3 f3 f4
  go_wp2_with fail
  refine (small_any _ _ _ (h4.fr (Fr.alloc _ _))).mono ?_
  rintro e w5 ⟨rfl, f5⟩
  rw [if_pos (by omega), decide_eq_true (by omega)]
  have F := (F.trans (Fr.alloc _ _)).trans f5
  clear h4 f5
  go_wp2_with fail
  refine (ofc_any 3 3 _ rfl (by omega)).mono ?_
  rintro e w6 ⟨a6, c6, rfl, h6, _, f6⟩
  go_wp2_with fail
  refine (upc_any _ 3 40 3298534883328 _ h6 (by have := wsm (x := 3) (by omega); omega) (by omega) (by omega) (by decide)).mono ?_
  rintro e w7 ⟨a7, c7, rfl, h7, f7⟩
  go_wp2_with fail
  refine (small_any _ _ _ h7).mono ?_
  rintro e w8 ⟨rfl, f8⟩
  rw [if_pos (by omega), decide_eq_true (by omega)]
  have F := ((F.trans f6).trans f7).trans f8
  clear h6 h7 f6 f7 f8
  go_wp2_with fail
  refine (ofc_any 24 24 _ rfl (by omega)).mono ?_
  rintro e w9 ⟨a9, c9, rfl, h9, _, f9⟩
  have F := F.trans f9
  go_wp2_with fail
  refine (noughtsc_any _ 24 3 _ (Tab.fr HT.out F) h9 (by have := wsm (x := 24) (by omega); omega) (by have := tz_pow 3 1; simp at this; omega)).mono ?_
  rintro e w10 ⟨rfl, f10⟩
  have F := F.trans f10
  go_wp2_with fail
  go_ret
  exact ⟨rfl, F⟩
end Go.Proofs.YtfmloickfopmmaaDoor
