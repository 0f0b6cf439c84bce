/- The walks of runes.claimed and runes.First. -/
import Derived.Test.YtiemiekkjaknfaaDoorRunesA
import Derived.Deep.QuietTactic
import Derived.BigQuiet
import Derived.WalkSmall
namespace Go.Proofs.YtiemiekkjaknfaaDoor
set_option linter.unusedVariables false
set_option linter.unusedSimpArgs false
open Go.RowKit


end Go.Proofs.YtiemiekkjaknfaaDoor
