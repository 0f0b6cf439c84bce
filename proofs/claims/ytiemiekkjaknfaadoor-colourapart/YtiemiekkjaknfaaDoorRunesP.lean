/- Plain mathematics of layer 1: signs as lists of byte values; no program. -/
import Derived.Laws.BytesArg
namespace Go.Proofs.YtiemiekkjaknfaaDoor
set_option linter.unusedVariables false
set_option linter.unusedSimpArgs false

def ints (s : ByteArray) : List Int := s.data.toList.map fun b => (b.toNat : Int)

theorem ints_length (s : ByteArray) : (ints s).length = s.size := by simp [ints]
theorem at_ints (s : ByteArray) (k : Nat) (h : k < s.size) : (s[k].toNat : Int) = (ints s)[k]?.getD 0 := by
  have h' : k < (ints s).length := by rw [ints_length]; exact h
  rw [List.getElem?_eq_getElem h']
  simp [ints]; rfl
theorem ints_range (s : ByteArray) (x : Int) (h : x ∈ ints s) : 0 ≤ x ∧ x ≤ 255 := by
  simp only [ints, List.mem_map] at h
  obtain ⟨b, _, rfl⟩ := h
  have := b.toNat_lt
  omega

end Go.Proofs.YtiemiekkjaknfaaDoor
