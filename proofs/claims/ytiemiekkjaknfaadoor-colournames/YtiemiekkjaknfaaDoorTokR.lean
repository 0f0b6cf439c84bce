/- Plain mathematics of layer 11: all tokens of a code; what hangs on what. -/
import Derived.Test.YtiemiekkjaknfaaDoorTokP
namespace Go.Proofs.YtiemiekkjaknfaaDoor
set_option linter.unusedVariables false
set_option linter.unusedSimpArgs false

end Go.Proofs.YtiemiekkjaknfaaDoor
