/- The walk of the document's First for layer 1 (RunesR on RunesD alone). -/
import Derived.Test.YtiemiekkjaknfaaDoorRunesD
import Derived.Test.YtiemiekkjaknfaaDoorRunesQ
namespace Go.Proofs.YtiemiekkjaknfaaDoor
set_option linter.unusedVariables false
set_option linter.unusedSimpArgs false
open Go.RowKit
theorem isB_iff (n : Int) : isB n = true ↔ rsize n ≠ 0 := by unfold isB; simp
theorem isB_bd (n : Int) (h : isB n = true) : 0 ≤ n ∧ n ≤ 1114111 := by
  have := (isB_iff n).1 h
  have := rsize_cases n
  omega
theorem test_yes (l : List Int) (k : Nat) (V : Int) (hk : k ≤ l.length) (hv : rsize V ≠ 0) (h : nums V = l.take k) : rfirst l = (V, (k : Int), true) := by
  have h1 := nums_length V hv
  rw [h, List.length_take, Nat.min_eq_left hk] at h1
  have h2 := rfirst_nums V hv (l.drop k)
  rw [h, List.take_append_drop] at h2
  rw [h2, h1]

theorem rfirst_told (l : List Int) (hl : ∀ x ∈ l, 0 ≤ x ∧ x ≤ 255) (n c : Int) (h : rfirst l = (n, c, true)) : rsize n ≠ 0 ∧ rsize n = c ∧ nums n = l.take (rsize n).toNat ∧ rsize n ≤ l.length := by
  rcases rfirst_cases l hl with h' | ⟨m, t, hm, rfl, h'⟩
  · rw [h'] at h; simp at h
  · rw [h'] at h
    simp only [Prod.mk.injEq] at h
    obtain ⟨rfl, h2, _⟩ := h
    have h1 := nums_length m hm
    refine ⟨hm, h2, ?_, ?_⟩
    · rw [show (rsize m).toNat = (nums m).length by omega, List.take_left]
    · rw [List.length_append]; omega

theorem str_eq (a b : ByteArray) : (a.toList == b.toList) = true ↔ ints a = ints b := by
  rw [ByteArray.toList_eq, ByteArray.toList_eq, beq_iff_eq]
  constructor
  · intro h; unfold ints; rw [h]
  · intro h
    have := ints_inj h
    rw [this]

theorem take_1 (l : List Int) (h : 1 ≤ l.length) : l.take 1 = [l[0]?.getD 0] := by
  match l, h with
  | a :: t, _ => simp
theorem take_2 (l : List Int) (h : 2 ≤ l.length) : l.take 2 = [l[0]?.getD 0, l[1]?.getD 0] := by
  match l, h with
  | a :: b :: t, _ => simp
theorem take_3 (l : List Int) (h : 3 ≤ l.length) : l.take 3 = [l[0]?.getD 0, l[1]?.getD 0, l[2]?.getD 0] := by
  match l, h with
  | a :: b :: c :: t, _ => simp
theorem take_4 (l : List Int) (h : 4 ≤ l.length) : l.take 4 = [l[0]?.getD 0, l[1]?.getD 0, l[2]?.getD 0, l[3]?.getD 0] := by
  match l, h with
  | a :: b :: c :: d :: t, _ => simp

theorem val_1 (n b0 : Int) (h : rsize n = 1) (e : nums n = [b0]) : b0 = n := by
  have := rsize_cases n
  rw [nums, if_pos (by omega)] at e
  simp at e; omega
theorem val_2 (n b0 b1 : Int) (h : rsize n = 2) (e : nums n = [b0, b1]) : 64 * (b0 - 192) + b1 - 128 = n := by
  have := rsize_cases n
  rw [nums, if_neg (by omega), if_pos (by omega)] at e
  simp at e; omega
theorem val_3 (n b0 b1 b2 : Int) (h : rsize n = 3) (e : nums n = [b0, b1, b2]) : 64 * (64 * (b0 - 224) + b1 - 128) + b2 - 128 = n := by
  have := rsize_cases n
  rw [nums, if_neg (by omega), if_neg (by omega), if_pos (by omega)] at e
  simp at e; omega
theorem val_4 (n b0 b1 b2 b3 : Int) (h : rsize n = 4) (e : nums n = [b0, b1, b2, b3]) : 64 * (64 * (64 * (b0 - 240) + b1 - 128) + b2 - 128) + b3 - 128 = n := by
  have := rsize_cases n
  rw [nums, if_neg (by omega), if_neg (by omega), if_neg (by omega)] at e
  simp at e; omega

theorem at_range (s : ByteArray) (k : Nat) (h : k < s.size) : 0 ≤ (ints s)[k]?.getD 0 ∧ (ints s)[k]?.getD 0 ≤ 255 := by
  rw [← at_ints s k h]
  have := s[k].toNat_lt
  omega

theorem ints_ext0 (s : ByteArray) (k : Nat) : ints (s.extract 0 k) = (ints s).take k := by
  rw [ints_extract]; simp

/-- A width at which the test fails is not the sign's. -/
theorem not_width (l : List Int) (hl : ∀ x ∈ l, 0 ≤ x ∧ x ≤ 255) (k : Nat) (V : Int) (hV : ∀ n, rsize n = k → nums n = l.take k → V = n) (h : isB V = false ∨ (isB V = true ∧ nums V ≠ l.take k)) : ∀ n, rfirst l ≠ (n, (k : Int), true) := by
  intro n hn
  obtain ⟨h1, h2, h3, h4⟩ := rfirst_told l hl n k hn
  rw [show (rsize n).toNat = k by omega] at h3
  have := hV n h2 h3
  subst this
  rcases h with h | h
  · have := (isB_iff V).2 h1; rw [h] at this; simp at this
  · exact h.2 h3

end Go.Proofs.YtiemiekkjaknfaaDoor
