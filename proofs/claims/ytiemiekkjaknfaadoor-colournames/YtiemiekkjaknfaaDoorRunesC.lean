/- The walks of runes.claimed and runes.First. -/
import Derived.Test.YtiemiekkjaknfaaDoorRunesA
import Derived.Deep.QuietTactic
import Derived.BigQuiet
import Derived.WalkSmall
namespace Go.Proofs.YtiemiekkjaknfaaDoor
set_option linter.unusedVariables false
set_option linter.unusedSimpArgs false
open Go.RowKit


theorem ret3 {a b a' b' : Int} {c c' : Bool} (h : (a, b, c) = (a', b', c')) : Ending.returned (.tuple #[.int .i64 a, .int .i64 b, .bool c]) = .returned (.tuple #[.int .i64 a', .int .i64 b', .bool c']) := by
  simp only [Prod.mk.injEq] at h
  rw [h.1, h.2.1, h.2.2]


theorem isEmpty_of (s : ByteArray) : s.toList.isEmpty = (ints s).isEmpty := by
  have e : s.toList = s.data.toList := ByteArray.toList_eq s
  rw [e, ints]; simp

end Go.Proofs.YtiemiekkjaknfaaDoor
