/- Plain mathematics of strings.EqualFold over texts that are the same but for letters small or great: what is decoded at the same place. -/
import Derived.Test.YtiemiekkjaknfaaDoorTokA
import Derived.Lib.TrimUEq
import Derived.Lib.OthersKept
import Derived.Lib.DecodeN
namespace Go.Proofs.YtiemiekkjaknfaaDoor
set_option linter.unusedVariables false
set_option linter.unusedSimpArgs false

theorem dec_0 (n b0 b1 b2 b3 : Nat) (hb : b0 < 128) : Lib.decodeN n b0 b1 b2 b3 = (b0, 1) := by
  simp only [Lib.decodeN, hb, if_true]

theorem dec_len (n b0 b1 b2 b3 : Nat) (h : 1 ≤ n) : (Lib.decodeN n b0 b1 b2 b3).2 ≤ n := by
  unfold Lib.decodeN
  repeat' split
  all_goals (simp only; omega)

theorem ext_size (t : ByteArray) (k : Nat) : (t.extract k t.size).size = t.size - k := by
  have := ints_length (t.extract k t.size)
  rw [ints_from, List.length_drop, ints_length] at this
  omega
theorem dec_bds (s : ByteArray) (p : Nat) (h : p < s.size) : 1 ≤ (Utf8.decode s p).2 ∧ p + (Utf8.decode s p).2 ≤ s.size ∧ (Utf8.decode s p).1 ≤ 1114111 := by
  refine ⟨Lib.width_pos s p, ?_, Lib.rune_le s p⟩
  rw [Lib.decode_at]
  have := dec_len (s.size - p) (s.get! p).toNat (s.get! (p + 1)).toNat (s.get! (p + 2)).toNat (s.get! (p + 3)).toNat (by omega)
  omega
end Go.Proofs.YtiemiekkjaknfaaDoor
