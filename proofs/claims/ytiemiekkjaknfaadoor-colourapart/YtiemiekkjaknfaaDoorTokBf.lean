/- strings.EqualFold of two texts that are the same but for letters small or great: the library's own text, walked. -/
import Derived.Test.YtiemiekkjaknfaaDoorTokBd
import Derived.Test.YtiemiekkjaknfaaDoorTokL
import Derived.Test.YtiemiekkjaknfaaDoorShelf
import Derived.Scope
import Derived.ScopeJumps
import Derived.WalkMore
namespace Go.Proofs.YtiemiekkjaknfaaDoor
set_option linter.unusedVariables false
set_option linter.unusedSimpArgs false
open Go.RowKit

theorem wp_scope_forward {P : Program} {Q : Exit → Act → World → Prop} {a : Act} {w : World} {c rest : Code} (l : Nat) (hf : findLabel c l = some rest)
    (first : c.wp P (Exit.jump l (fun a' w' => rest.wp P (Exit.noGoto Q) a' w') Q) a w) : (Code.scope c).wp P Q a w :=
  wp_scope_jumps l (fun a' w' => rest.wp P (Exit.noGoto Q) a' w') (fun _ _ => 0) hf first (fun a w h => wp_mono h (fun e a w h => by
    cases e with
    | goto l' => exact h.elim
    | normal => exact h
    | exit id => exact h
    | ret => exact h
    | panic ch => exact h
    | outgrown => exact h))

def strLen : Value → Nat | .string b => b.size | _ => 0

/-- The two tables that the library's decoder reads. -/
def U8 (w : World) : Prop := Lib.Utf8Tabs 5 6 w
theorem U8.fr {w w' : World} (h : U8 w) (f : Fr w w') : U8 w' := Utf8Tabs_below h f

theorem get_nat (s : ByteArray) (k : Nat) (h : k < s.size) : s.get! k = s[k]'h := by
  cases s with
  | mk d => exact getElem!_pos d k h

end Go.Proofs.YtiemiekkjaknfaaDoor
