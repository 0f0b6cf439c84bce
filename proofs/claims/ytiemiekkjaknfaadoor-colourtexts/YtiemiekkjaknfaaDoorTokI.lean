/- The document's low, begins, has. -/
import Derived.Test.YtiemiekkjaknfaaDoorTokU
import Derived.Lib.SliceRun
namespace Go.Proofs.YtiemiekkjaknfaaDoor
set_option linter.unusedVariables false
set_option linter.unusedSimpArgs false
open Go.RowKit

end Go.Proofs.YtiemiekkjaknfaaDoor
