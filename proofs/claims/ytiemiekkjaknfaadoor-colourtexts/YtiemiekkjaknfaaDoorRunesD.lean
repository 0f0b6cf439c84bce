/- The walks of runes.scan, runes.Right and runes.All. -/
import Derived.Test.YtiemiekkjaknfaaDoorRunesC
import Derived.Lib.Strings
namespace Go.Proofs.YtiemiekkjaknfaaDoor
set_option linter.unusedVariables false
set_option linter.unusedSimpArgs false
open Go.RowKit


theorem ints_extract (s : ByteArray) (a b : Nat) : ints (s.extract a b) = ((ints s).drop a).take (b - a) := by
  simp only [ints, Go.Lib.extract_data, List.map_take, List.map_drop]
theorem ints_from (s : ByteArray) (k : Nat) : ints (s.extract k s.size) = (ints s).drop k := by
  rw [ints_extract]
  exact List.take_of_length_le (by rw [List.length_drop, ints_length]; omega)
end Go.Proofs.YtiemiekkjaknfaaDoor
