/- date, word, between. -/
import Derived.Test.YtiemiekkjaknfaaDoorTokD
import Derived.Test.YtiemiekkjaknfaaDoorShelf
namespace Go.Proofs.YtiemiekkjaknfaaDoor
set_option linter.unusedVariables false
set_option linter.unusedSimpArgs false
open Go.RowKit

end Go.Proofs.YtiemiekkjaknfaaDoor
