/- token.All. -/
import Derived.Test.YtiemiekkjaknfaaDoorTokG
import Derived.Test.YtiemiekkjaknfaaDoorTokR
import Derived.OwnWalk
namespace Go.Proofs.YtiemiekkjaknfaaDoor
set_option linter.unusedVariables false
set_option linter.unusedSimpArgs false
open Go.RowKit

end Go.Proofs.YtiemiekkjaknfaaDoor
