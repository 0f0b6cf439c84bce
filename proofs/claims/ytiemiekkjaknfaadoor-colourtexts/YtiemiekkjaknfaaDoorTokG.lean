/- next: the token at the beginning of a text. -/
import Derived.Test.YtiemiekkjaknfaaDoorTokF
namespace Go.Proofs.YtiemiekkjaknfaaDoor
set_option linter.unusedVariables false
set_option linter.unusedSimpArgs false
open Go.RowKit

theorem first_small (s : ByteArray) (h0 : 0 < s.size) (hc : bt s 0 < 128) : rfirst (ints s) = (bt s 0, 1, true) := by
  have r := bt_range s 0 h0
  have hz : rsize (bt s 0) = 1 := by have := rsize_cases (bt s 0); omega
  rw [tail_bt s h0]
  have hn : nums (bt s 0) = [bt s 0] := by rw [nums, if_pos hc]
  have := rfirst_nums (bt s 0) (by omega) ((ints s).drop 1)
  rw [hn, hz] at this
  exact this

theorem nx_form (A : Nx) : ∃ (a1 : Int) (a2 : ByteArray) (a3 a4 a5 : Int), nxV A = .tuple #[.agg #[.int .i64 a1, .string a2, .int .i64 a3, .int .i64 0], .int .i64 a4, .int .i64 a5] := by
  cases A with
  | ok k t c n => exact ⟨_, _, _, _, _, rfl⟩
  | no o e => exact ⟨_, _, _, _, _, rfl⟩

end Go.Proofs.YtiemiekkjaknfaaDoor
