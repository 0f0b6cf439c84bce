/- A token's signs; Code. -/
import Derived.Test.YtiemiekkjaknfaaDoorTokH
namespace Go.Proofs.YtiemiekkjaknfaaDoor
set_option linter.unusedVariables false
set_option linter.unusedSimpArgs false
open Go.RowKit

/-- The signs that a token has, if All tells it of any. -/
def signsL (k : Int) (t : List Int) (c : Int) : List Int :=
  if k = 1 then 34 :: (t ++ [34]) else if k = 5 then 91 :: (t ++ [93]) else if k = 2 then 92 :: t else if k = 3 then 95 :: t else if k = 4 then 42 :: t
  else if k = 13 then 69 :: t else if k = 14 then (List.replicate c.toNat t).flatten else t

theorem ints_mk (l : List UInt8) : ints ⟨l.toArray⟩ = l.map (fun b => (b.toNat : Int)) := by simp [ints]
theorem repeat_ints (t : ByteArray) (c : Nat) : (⟨(Lib.repeatL t.data.toList c).toArray⟩ : ByteArray) = strOfNums ((List.replicate c (ints t)).flatten) := by
  refine str_of ?_
  rw [ints_mk]
  induction c with
  | zero => simp [Lib.repeatL]
  | succ c ih =>
    rw [List.replicate_succ, List.flatten_cons, ← ih]
    simp [Lib.repeatL, ints]

end Go.Proofs.YtiemiekkjaknfaaDoor
