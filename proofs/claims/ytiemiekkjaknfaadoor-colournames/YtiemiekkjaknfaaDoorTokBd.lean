/- Plain mathematics of strings.EqualFold over texts that are the same but for letters small or great: what is decoded at the same place. -/
import Derived.Test.YtiemiekkjaknfaaDoorTokA
import Derived.Lib.TrimUEq
import Derived.Lib.OthersKept
import Derived.Lib.DecodeN
namespace Go.Proofs.YtiemiekkjaknfaaDoor
set_option linter.unusedVariables false
set_option linter.unusedSimpArgs false

theorem dec_1 (n b0 b1 c1 b2 b3 : Nat) (hb : b1 < 128) (hc : c1 < 128) : Lib.decodeN n b0 b1 b2 b3 = Lib.decodeN n b0 c1 b2 b3 := by
  have h1 : ¬ b1 / 64 = 2 := by omega
  have h2 : ¬ c1 / 64 = 2 := by omega
  simp only [Lib.decodeN, h1, h2, and_false, false_and, if_false]
theorem dec_2 (n b0 b1 b2 c2 b3 : Nat) (hb : b2 < 128) (hc : c2 < 128) : Lib.decodeN n b0 b1 b2 b3 = Lib.decodeN n b0 b1 c2 b3 := by
  have h1 : ¬ b2 / 64 = 2 := by omega
  have h2 : ¬ c2 / 64 = 2 := by omega
  simp only [Lib.decodeN, h1, h2, and_false, false_and, if_false]
theorem dec_3 (n b0 b1 b2 b3 c3 : Nat) (hb : b3 < 128) (hc : c3 < 128) : Lib.decodeN n b0 b1 b2 b3 = Lib.decodeN n b0 b1 b2 c3 := by
  have h1 : ¬ b3 / 64 = 2 := by omega
  have h2 : ¬ c3 / 64 = 2 := by omega
  simp only [Lib.decodeN, h1, h2, and_false, false_and, if_false]
theorem dec_0 (n b0 b1 b2 b3 : Nat) (hb : b0 < 128) : Lib.decodeN n b0 b1 b2 b3 = (b0, 1) := by
  simp only [Lib.decodeN, hb, if_true]

theorem low_rel (b c : UInt8) (h : lowB (b.toNat : Int) = lowB (c.toNat : Int)) : b = c ∨ b.toNat < 128 ∧ c.toNat < 128 := by
  have hb := b.toNat_lt
  have hc := c.toNat_lt
  unfold lowB at h
  by_cases e : b.toNat = c.toNat
  · left; exact UInt8.toNat_inj.1 e
  · right
    split at h <;> split at h <;> omega

theorem fold_dec (s t : ByteArray) (hz : s.size = t.size) (he : ∀ k, lowB ((s.get! k).toNat : Int) = lowB ((t.get! k).toNat : Int)) (p : Nat) :
    Utf8.decode s p = Utf8.decode t p ∨ ∃ b c : Nat, Utf8.decode s p = (b, 1) ∧ Utf8.decode t p = (c, 1) ∧ b < 128 ∧ c < 128 ∧ b ≠ c ∧ lowB (b : Int) = lowB (c : Int) := by
  rw [Lib.decode_at, Lib.decode_at, ← hz]
  rcases low_rel _ _ (he p) with h0 | ⟨h0, h0'⟩
  · left
    rw [h0]
    have h1 : ∀ y z, Lib.decodeN (s.size - p) (t.get! p).toNat (s.get! (p + 1)).toNat y z = Lib.decodeN (s.size - p) (t.get! p).toNat (t.get! (p + 1)).toNat y z := by
      intro y z
      rcases low_rel _ _ (he (p + 1)) with h | ⟨h, h'⟩
      · rw [h]
      · exact dec_1 _ _ _ _ _ _ h h'
    have h2 : ∀ x z, Lib.decodeN (s.size - p) (t.get! p).toNat x (s.get! (p + 2)).toNat z = Lib.decodeN (s.size - p) (t.get! p).toNat x (t.get! (p + 2)).toNat z := by
      intro x z
      rcases low_rel _ _ (he (p + 2)) with h | ⟨h, h'⟩
      · rw [h]
      · exact dec_2 _ _ _ _ _ _ h h'
    have h3 : ∀ x y, Lib.decodeN (s.size - p) (t.get! p).toNat x y (s.get! (p + 3)).toNat = Lib.decodeN (s.size - p) (t.get! p).toNat x y (t.get! (p + 3)).toNat := by
      intro x y
      rcases low_rel _ _ (he (p + 3)) with h | ⟨h, h'⟩
      · rw [h]
      · exact dec_3 _ _ _ _ _ _ h h'
    rw [h1, h2, h3]
  · by_cases e : (s.get! p).toNat = (t.get! p).toNat
    · left
      rw [dec_0 _ _ _ _ _ h0, dec_0 _ _ _ _ _ h0', e]
    · right
      exact ⟨_, _, dec_0 _ _ _ _ _ h0, dec_0 _ _ _ _ _ h0', h0, h0', e, he p⟩
theorem dec_len (n b0 b1 b2 b3 : Nat) (h : 1 ≤ n) : (Lib.decodeN n b0 b1 b2 b3).2 ≤ n := by
  unfold Lib.decodeN
  repeat' split
  all_goals (simp only; omega)

/-- What is decoded of a text's end is what is decoded of the text. -/
theorem dec_from (s : ByteArray) (k p : Nat) : Utf8.decode (s.extract k s.size) p = Utf8.decode s (k + p) := by
  have hx : (s.extract k s.size).data.toList = s.data.toList.drop k := by
    rw [Lib.extract_data, List.take_of_length_le (by rw [List.length_drop, ← Lib.size_eq]; omega)]
  rw [← Lib.decodeL_drop, ← Lib.decodeL_drop, hx, List.drop_drop]
theorem ext_from (t : ByteArray) (k z : Nat) (h : k ≤ t.size) : (t.extract k t.size).extract z (t.extract k t.size).size = t.extract (k + z) t.size := by
  refine ints_inj ?_
  rw [ints_from, ints_from, ints_from, List.drop_drop]
theorem ext_size (t : ByteArray) (k : Nat) : (t.extract k t.size).size = t.size - k := by
  have := ints_length (t.extract k t.size)
  rw [ints_from, List.length_drop, ints_length] at this
  omega
theorem dec_bds (s : ByteArray) (p : Nat) (h : p < s.size) : 1 ≤ (Utf8.decode s p).2 ∧ p + (Utf8.decode s p).2 ≤ s.size ∧ (Utf8.decode s p).1 ≤ 1114111 := by
  refine ⟨Lib.width_pos s p, ?_, Lib.rune_le s p⟩
  rw [Lib.decode_at]
  have := dec_len (s.size - p) (s.get! p).toNat (s.get! (p + 1)).toNat (s.get! (p + 2)).toNat (s.get! (p + 3)).toNat (by omega)
  omega
end Go.Proofs.YtiemiekkjaknfaaDoor
