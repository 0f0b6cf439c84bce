/- A token's signs; Code. -/
import Derived.Test.YtiemiekkjaknfaaDoorTokH
namespace Go.Proofs.YtiemiekkjaknfaaDoor
set_option linter.unusedVariables false
set_option linter.unusedSimpArgs false
open Go.RowKit

theorem ints_mk (l : List UInt8) : ints ⟨l.toArray⟩ = l.map (fun b => (b.toNat : Int)) := by simp [ints]
end Go.Proofs.YtiemiekkjaknfaaDoor
