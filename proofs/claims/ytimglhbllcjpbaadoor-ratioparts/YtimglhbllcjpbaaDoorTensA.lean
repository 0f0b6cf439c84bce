/- TrailingZeros32, Noughts. -/
import Derived.Test.YtimglhbllcjpbaaDoorTimesC
import Derived.Test.YtimglhbllcjpbaaDoorTensP
import Derived.Laws.BitsAllLaws
namespace Go.Proofs.YtimglhbllcjpbaaDoor
set_option linter.unusedVariables false
set_option linter.unusedSimpArgs false
open Go.RowKit

/-- The library's table, as it is laid. -/
def Tab (w : World) : Prop := ∀ j, j < 32 → w.cell? ⟨0, j, none⟩ = some (.int .u8 ((Lib.deBruijn32tab.getD j 0 : Nat) : Int))
theorem Tab.fr {w w' : World} (h : Tab w) (f : Fr w w') : Tab w' := fun j hj => fr_cell f (h j hj)

theorem and_u32_nat (a b : Nat) (ha : a < 4294967296) (hb : b < 4294967296) : bits .and .u32 (a : Int) (b : Int) = ((a &&& b : Nat) : Int) := by
  have hx : a &&& b < 2 ^ 32 := Nat.and_lt_two_pow _ (by omega)
  have h1 : (BitVec.ofInt 32 (a : Int)).toNat = a := by
    rw [BitVec.ofInt_natCast, BitVec.toNat_ofNat]; exact Nat.mod_eq_of_lt (by omega)
  have h2 : (BitVec.ofInt 32 (b : Int)).toNat = b := by
    rw [BitVec.ofInt_natCast, BitVec.toNat_ofNat]; exact Nat.mod_eq_of_lt (by omega)
  have hw : ∀ n : Int, IntKind.u32.wrap n = n % 4294967296 := fun n => by simp [IntKind.wrap, IntKind.signed, IntKind.bits]
  show IntKind.u32.wrap ((BitVec.ofInt 32 (a : Int) &&& BitVec.ofInt 32 (b : Int)).toNat : Int) = _
  rw [BitVec.toNat_and, h1, h2, hw]
  omega

set_option maxHeartbeats 1000000 in
set_option maxRecDepth 4000 in
theorem tz32_core (x k idx : Nat) (w : World) (hx0 : ((x : Int) == 0) = false)
    (key : bits BinOp.and IntKind.u32 (x : Int) (-(x : Int) % 4294967296) * 125613361 % 4294967296 / 134217728 = (idx : Int))
    (hi : idx < 32) (hk : k < 32) (hcell : w.cell? ⟨0, idx, none⟩ = some (.int .u8 k)) :
    Calls Tryd.prog 73 #[.int .u32 x] w fun e w' => e = .returned (.int .i64 k) ∧ w' = w := by
  go_enter Tryd.func73, Tryd.ntmps73
  go_wp2_with (simp only [key])
  go_ret
  exact ⟨rfl, rfl⟩

theorem tz32_key (x a : Nat) (hx : x < 4294967296) (hx0 : x ≠ 0) (hlow : x &&& (4294967296 - x) = a) :
    bits BinOp.and IntKind.u32 (x : Int) (-(x : Int) % 4294967296) * 125613361 % 4294967296 / 134217728 = ((a * 125613361 % 4294967296 / 134217728 : Nat) : Int) := by
  have e1 : -(x : Int) % 4294967296 = ((4294967296 - x : Nat) : Int) := by omega
  rw [e1, and_u32_nat x _ hx (by omega), hlow]
  omega

theorem tz32_any (x : Nat) (w : World) (hx : x < 4294967296) (hx0 : x ≠ 0) (hT : Tab w) :
    Calls Tryd.prog 73 #[.int .u32 x] w fun e w' => e = .returned (.int .i64 (Lib.ctz 32 x)) ∧ w' = w := by
  obtain ⟨hlow, hk⟩ := Lib.lowest_bit 32 x hx0 hx
  obtain ⟨hi, htab⟩ := Lib.deBruijn32_at _ hk
  have hcell := hT _ hi
  rw [htab] at hcell
  exact tz32_core x _ _ w (by simp; omega) (tz32_key x _ hx hx0 hlow) hi hk hcell

set_option maxHeartbeats 1000000 in
set_option maxRecDepth 4000 in
theorem noughts_any (v : Value) (x : Nat) (w : World) (hT : Tab w) (h : IsNat w v x) (hn : nlen 4294967296 x ≤ 100000000000) :
    Calls Tryd.prog 66 #[v] w fun e w' => e = .returned (.int .i64 (tz x : Int)) ∧ Fr w w' := by
  have H := hide h
  have HT := hide hT
  obtain ⟨a, cap, rfl, h2, h3, h4⟩ := h
  clear h4 hT
  have hx := hide (lt_nlen b32 x)
  go_enter Tryd.func66, Tryd.ntmps66
  go_wp2_with fail
  refine (limbs_lm _ x _ (IsNat.fr H.out (Fr.alloc _ _)) (by omega)).mono ?_
  rintro e w1 ⟨a1, c1, rfl, n1, l1, f1⟩
  have F1 := hide ((Fr.alloc _ _).trans f1)
  have HL := hide l1.1
  clear l1 f1
  generalize hN : nlen 4294967296 x = N at *
  clear hN
  go_wp2_with fail
  go_loop [8] (fun s => ∃ i : Nat, i ≤ N ∧ s = .int .i64 i ∧ Hid (x % 4294967296 ^ i = 0)) (fun s => N - (intOf s).toNat)
  case atStart => exact ⟨0, by omega, rfl, by unfold Hid; rw [Nat.pow_zero, Nat.mod_one]⟩
  case round =>
    obtain ⟨i, hi, rfl, HI⟩ := hrel
    by_cases c : i < N
    · rcases HL.out with h0 | ⟨b, off, rfl, hb, hc⟩
      · omega
      · have hci := hc i c
        have hlt := dg_lt b32 x i
        by_cases c0 : dg 4294967296 x i = 0
        · have HI2 := hide (low_none HI.out c0)
          rw [c0] at hci
          clear c0 hlt hc
          go_wp2_with fail
          go_round
          case rel => exact ⟨i + 1, by omega, by go_num, HI2⟩
          case measure => simp [intOf]; omega
        · have hz := tz_limb HI.out c0
          have K := hide (tz32_any (dg 4294967296 x i) w1 hlt c0 (Tab.fr HT.out F1.out))
          have HZ := hide hz.1
          have hz2 := hz.2
          clear hz hc
          generalize dg 4294967296 x i = d at *
          generalize Lib.ctz 32 d = t at *
          go_wp2_with fail
          refine K.out.mono ?_
          rintro e w2 ⟨rfl, rfl⟩
          go_wp2_with fail
          go_ret
          exact ⟨by rw [HZ.out]; simp, F1.out⟩
    · obtain rfl : i = N := by omega
      have e : x = 0 := by have := HI.out; rwa [Nat.mod_eq_of_lt hx.out] at this
      have HE := hide e
      clear e
      go_wp2_with fail
      go_ret
      exact ⟨by rw [HE.out, tz_zero]; rfl, F1.out⟩
end Go.Proofs.YtimglhbllcjpbaaDoor
