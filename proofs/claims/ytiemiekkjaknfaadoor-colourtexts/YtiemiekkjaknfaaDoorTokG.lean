/- next: the token at the beginning of a text. -/
import Derived.Test.YtiemiekkjaknfaaDoorTokF
namespace Go.Proofs.YtiemiekkjaknfaaDoor
set_option linter.unusedVariables false
set_option linter.unusedSimpArgs false
open Go.RowKit

end Go.Proofs.YtiemiekkjaknfaaDoor
