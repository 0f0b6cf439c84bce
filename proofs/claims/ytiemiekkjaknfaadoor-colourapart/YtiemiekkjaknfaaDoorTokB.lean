/- kinds, small, begins. -/
import Derived.Test.YtiemiekkjaknfaaDoorTokA
namespace Go.Proofs.YtiemiekkjaknfaaDoor
set_option linter.unusedVariables false
set_option linter.unusedSimpArgs false
open Go.RowKit Go.Maps

end Go.Proofs.YtiemiekkjaknfaaDoor
