/- date, word, between. -/
import Derived.Test.YtiemiekkjaknfaaDoorTokD
import Derived.Test.YtiemiekkjaknfaaDoorShelf
namespace Go.Proofs.YtiemiekkjaknfaaDoor
set_option linter.unusedVariables false
set_option linter.unusedSimpArgs false
open Go.RowKit

theorem conv_letter (x : Int) (hx : x ∈ dates) : Utf8.encode x = strOfNums [x] := by
  simp only [dates, List.mem_cons, List.not_mem_nil, or_false] at hx
  rcases hx with rfl | rfl | rfl | rfl | rfl <;> exact str_of (by decide +kernel)

theorem same_facts (x : Int) (l : List Int) : (∀ j, j < (same x l).length → ∃ b, l[j]? = some b ∧ lowB b = x) ∧ (∀ b, l[(same x l).length]? = some b → lowB b ≠ x) ∧ (same x l).length ≤ l.length := by
  obtain ⟨q, e1, e2⟩ := takeWhile_cut (fun b => decide (lowB b = x)) l
  have e1' : l = same x l ++ q := e1
  have hm := mem_takeWhile (fun b => decide (lowB b = x)) l
  have hm' : ∀ b ∈ same x l, decide (lowB b = x) = true := hm
  generalize same x l = u at *
  subst e1'
  refine ⟨fun j hj => ?_, fun b hb => ?_, by simp⟩
  · rw [List.getElem?_append_left hj, List.getElem?_eq_getElem hj]
    exact ⟨_, rfl, by simpa using hm' _ (List.getElem_mem hj)⟩
  · rw [List.getElem?_append_right (Nat.le_refl _), Nat.sub_self] at hb
    have := e2 b (by rw [List.head?_eq_getElem?]; exact hb)
    simpa using this

end Go.Proofs.YtiemiekkjaknfaaDoor
