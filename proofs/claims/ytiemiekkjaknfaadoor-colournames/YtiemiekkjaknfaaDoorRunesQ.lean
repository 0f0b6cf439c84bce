/- Plain mathematics of layer 1: texts put together out of signs. -/
import Derived.Test.YtiemiekkjaknfaaDoorRunesP
namespace Go.Proofs.YtiemiekkjaknfaaDoor
set_option linter.unusedVariables false
set_option linter.unusedSimpArgs false

theorem ints_append (s t : ByteArray) : ints (s ++ t) = ints s ++ ints t := by
  simp [ints]
theorem ints_inj {s t : ByteArray} (h : ints s = ints t) : s = t := by
  have : s.data.toList = t.data.toList := by
    unfold ints at h
    exact (List.map_inj_right (fun a b hab => by
      have : a.toNat = b.toNat := by omega
      exact UInt8.toNat_inj.1 this)).1 h
  obtain ⟨⟨a⟩⟩ := s
  obtain ⟨⟨b⟩⟩ := t
  simp at this
  rw [this]
theorem ints_nums (l : List Int) (h : ∀ x ∈ l, 0 ≤ x ∧ x ≤ 255) : ints (strOfNums l) = l := by
  unfold ints
  rw [strOfNums_data, List.map_map]
  conv => rhs; rw [← List.map_id l]
  apply List.map_congr_left
  intro x hx
  have := h x hx
  simp [UInt8.toNat_ofNat]
  omega
end Go.Proofs.YtiemiekkjaknfaaDoor
