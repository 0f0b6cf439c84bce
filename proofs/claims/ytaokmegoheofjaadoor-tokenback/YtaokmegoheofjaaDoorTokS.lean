/- A token's signs; Code. -/
import Derived.Test.YtaokmegoheofjaaDoorTokH
namespace Go.Proofs.YtaokmegoheofjaaDoor
set_option linter.unusedVariables false
set_option linter.unusedSimpArgs false
open Go.RowKit

/-- The signs that a token has, if All tells it of any. -/
def signsL (k : Int) (t : List Int) (c : Int) : List Int :=
  if k = 1 then 34 :: (t ++ [34]) else if k = 5 then 91 :: (t ++ [93]) else if k = 2 then 92 :: t else if k = 3 then 95 :: t else if k = 4 then 42 :: t
  else if k = 13 then 69 :: t else if k = 14 then (List.replicate c.toNat t).flatten else t

theorem ints_mk (l : List UInt8) : ints ⟨l.toArray⟩ = l.map (fun b => (b.toNat : Int)) := by simp [ints]
theorem repeat_ints (t : ByteArray) (c : Nat) : (⟨(Lib.repeatL t.data.toList c).toArray⟩ : ByteArray) = strOfNums ((List.replicate c (ints t)).flatten) := by
  refine str_of ?_
  rw [ints_mk]
  induction c with
  | zero => simp [Lib.repeatL]
  | succ c ih =>
    rw [List.replicate_succ, List.flatten_cons, ← ih]
    simp [Lib.repeatL, ints]

set_option maxHeartbeats 1000000 in
set_option maxRecDepth 4000 in
theorem signs_any (k : Int) (t : ByteArray) (c a : Int) (w : World) (ht : t.size ≤ 4096) (hc0 : 0 ≤ c) (hc1 : c ≤ 4096) :
    Calls Tryd.prog 25 #[.agg #[.int .i64 k, .string t, .int .i64 c, .int .i64 a]] w fun e w' => e = .returned (.string (strOfNums (signsL k (ints t) c))) ∧ Fr w w' := by
  have h34 : ints (⟨#[34]⟩ : ByteArray) = [34] := rfl
  have E : ∀ (b1 b2 : List Int) (x y : ByteArray), ints x = b1 → ints y = b2 → x ++ t ++ y = strOfNums (b1 ++ ints t ++ b2) := fun b1 b2 x y h1 h2 => str_of (by rw [ints_append, ints_append, h1, h2])
  have E1 : ∀ (b1 : List Int) (x : ByteArray), ints x = b1 → x ++ t = strOfNums (b1 ++ ints t) := fun b1 x h1 => str_of (by rw [ints_append, h1])
  have HT := hide (str_ints t)
  have HE0 := hide E
  have HE1 := hide E1
  clear E E1 h34
  unfold signsL
  by_cases k1 : k = 1
  · subst k1
    rw [if_pos rfl]
    have e := hide (HE0.out [34] [34] ⟨#[34]⟩ ⟨#[34]⟩ rfl rfl)
    have hsum : ((⟨#[34]⟩ : ByteArray) ++ t).size = 1 + t.size := by rw [ByteArray.size_append]; rfl
    go_enter Tryd.func25, Tryd.ntmps25
    go_wp2_with fail
    go_ret
    exact ⟨by rw [show (34 : Int) :: (ints t ++ [34]) = [34] ++ ints t ++ [34] by simp, ← e.out]; rfl, Fr.alloc _ _⟩
  rw [if_neg k1]
  by_cases k5 : k = 5
  · subst k5
    rw [if_pos rfl]
    have e := hide (HE0.out [91] [93] ⟨#[91]⟩ ⟨#[93]⟩ rfl rfl)
    have hsum : ((⟨#[91]⟩ : ByteArray) ++ t).size = 1 + t.size := by rw [ByteArray.size_append]; rfl
    go_enter Tryd.func25, Tryd.ntmps25
    go_wp2_with fail
    go_ret
    exact ⟨by rw [show (91 : Int) :: (ints t ++ [93]) = [91] ++ ints t ++ [93] by simp, ← e.out]; rfl, Fr.alloc _ _⟩
  rw [if_neg k5]
  by_cases k2 : k = 2
  · subst k2
    rw [if_pos rfl]
    have e := hide (HE1.out [92] ⟨#[92]⟩ rfl)
    go_enter Tryd.func25, Tryd.ntmps25
    go_wp2_with fail
    go_ret
    exact ⟨by rw [show (92 : Int) :: ints t = [92] ++ ints t by simp, ← e.out]; rfl, Fr.alloc _ _⟩
  rw [if_neg k2]
  by_cases k3 : k = 3
  · subst k3
    rw [if_pos rfl]
    have e := hide (HE1.out [95] ⟨#[95]⟩ rfl)
    go_enter Tryd.func25, Tryd.ntmps25
    go_wp2_with fail
    go_ret
    exact ⟨by rw [show (95 : Int) :: ints t = [95] ++ ints t by simp, ← e.out]; rfl, Fr.alloc _ _⟩
  rw [if_neg k3]
  by_cases k4 : k = 4
  · subst k4
    rw [if_pos rfl]
    have e := hide (HE1.out [42] ⟨#[42]⟩ rfl)
    go_enter Tryd.func25, Tryd.ntmps25
    go_wp2_with fail
    go_ret
    exact ⟨by rw [show (42 : Int) :: ints t = [42] ++ ints t by simp, ← e.out]; rfl, Fr.alloc _ _⟩
  rw [if_neg k4]
  by_cases k13 : k = 13
  · subst k13
    rw [if_pos rfl]
    have e := hide (HE1.out [69] ⟨#[69]⟩ rfl)
    go_enter Tryd.func25, Tryd.ntmps25
    go_wp2_with fail
    go_ret
    exact ⟨by rw [show (69 : Int) :: ints t = [69] ++ ints t by simp, ← e.out]; rfl, Fr.alloc _ _⟩
  rw [if_neg k13]
  by_cases k14 : k = 14
  · subst k14
    rw [if_pos rfl]
    obtain ⟨n, rfl⟩ : ∃ n : Nat, c = n := ⟨c.toNat, by omega⟩
    have HR := hide (fun w => Tryd.strings_Repeat t n w (by omega) (by have := Nat.mul_le_mul ht (show n ≤ 4096 by omega); omega))
    have HE := hide (repeat_ints t n)
    go_enter Tryd.func25, Tryd.ntmps25
    go_wp2_with fail
    refine (HR.out _).mono ?_
    rintro e w1 ⟨rfl, f1⟩
    go_wp2_with fail
    go_ret
    exact ⟨by rw [Int.toNat_natCast, ← HE.out]; rfl, (Fr.alloc _ _).trans f1⟩
  rw [if_neg k14]
  have n1 : (k == 1) = false := by simpa using k1
  have n5 : (k == 5) = false := by simpa using k5
  have n2 : (k == 2) = false := by simpa using k2
  have n3 : (k == 3) = false := by simpa using k3
  have n4 : (k == 4) = false := by simpa using k4
  have n13 : (k == 13) = false := by simpa using k13
  have n14 : (k == 14) = false := by simpa using k14
  go_enter Tryd.func25, Tryd.ntmps25
  go_wp2_with fail
  go_ret
  exact ⟨by rw [HT.out]; rfl, Fr.alloc _ _⟩
end Go.Proofs.YtaokmegoheofjaaDoor
