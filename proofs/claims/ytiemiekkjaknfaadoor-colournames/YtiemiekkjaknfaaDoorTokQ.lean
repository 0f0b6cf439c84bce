/- The walk of the document's First for layer 1 (RunesR on RunesD alone). -/
import Derived.Test.YtiemiekkjaknfaaDoorRunesD
import Derived.Test.YtiemiekkjaknfaaDoorRunesQ
namespace Go.Proofs.YtiemiekkjaknfaaDoor
set_option linter.unusedVariables false
set_option linter.unusedSimpArgs false
open Go.RowKit
theorem str_eq (a b : ByteArray) : (a.toList == b.toList) = true ↔ ints a = ints b := by
  rw [ByteArray.toList_eq, ByteArray.toList_eq, beq_iff_eq]
  constructor
  · intro h; unfold ints; rw [h]
  · intro h
    have := ints_inj h
    rw [this]

theorem ints_ext0 (s : ByteArray) (k : Nat) : ints (s.extract 0 k) = (ints s).take k := by
  rw [ints_extract]; simp

end Go.Proofs.YtiemiekkjaknfaaDoor
