/- power, date, behind. -/
import Derived.Test.YtiemiekkjaknfaaDoorTokC
namespace Go.Proofs.YtiemiekkjaknfaaDoor
set_option linter.unusedVariables false
set_option linter.unusedSimpArgs false
open Go.RowKit

theorem tail_bt (s : ByteArray) (h : 0 < s.size) : ints s = bt s 0 :: (ints s).drop 1 := by
  have := drop_bt s 0 h
  simpa using this
theorem str_of {t : ByteArray} {l : List Int} (h : ints t = l) : t = strOfNums l := by
  apply ints_inj
  rw [h, ints_nums _ (fun x hx => ints_range t x (by rw [h]; exact hx))]
theorem str_nil : strOfNums [] = ⟨#[]⟩ := ints_inj (by rw [ints_nums _ (by simp)]; rfl)
theorem str_ext (s : ByteArray) (a b : Nat) : s.extract a b = strOfNums (((ints s).drop a).take (b - a)) := str_of (ints_extract s a b)
theorem str_one (s : ByteArray) (k : Nat) (h : k < s.size) : s.extract k (k + 1) = strOfNums [bt s k] := by
  rw [str_ext, drop_bt s k h, show k + 1 - k = 1 by omega]
  rfl

end Go.Proofs.YtiemiekkjaknfaaDoor
