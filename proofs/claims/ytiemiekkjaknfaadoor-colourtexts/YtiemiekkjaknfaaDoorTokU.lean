/- Code; tokens' cells; structs that are compared. -/
import Derived.Test.YtiemiekkjaknfaaDoorTokS
import Derived.Test.YtiemiekkjaknfaaDoorTokQ
namespace Go.Proofs.YtiemiekkjaknfaaDoor
set_option linter.unusedVariables false
set_option linter.unusedSimpArgs false
open Go.RowKit

end Go.Proofs.YtiemiekkjaknfaaDoor
