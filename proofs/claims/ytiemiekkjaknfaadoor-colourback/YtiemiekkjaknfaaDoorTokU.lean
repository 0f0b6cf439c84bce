/- Code; tokens' cells; structs that are compared. -/
import Derived.Test.YtiemiekkjaknfaaDoorTokS
import Derived.Test.YtiemiekkjaknfaaDoorTokQ
namespace Go.Proofs.YtiemiekkjaknfaaDoor
set_option linter.unusedVariables false
set_option linter.unusedSimpArgs false
open Go.RowKit

theorem rowT_get : ∀ (T : List Tk) (i : Nat) (x : Tk), T[i]? = some x → (rowT T)[4 * i]? = some (.int .i64 x.kind) ∧ (rowT T)[4 * i + 1]? = some (.string (strOfNums x.text)) ∧ (rowT T)[4 * i + 2]? = some (.int .i64 x.count) ∧ (rowT T)[4 * i + 3]? = some (.int .i64 (x.place : Int))
  | [], i, x, h => by simp at h
  | y :: T, 0, x, h => by
    simp at h; subst h
    simp [rowT, tkCells]
  | y :: T, i + 1, x, h => by
    have ih := rowT_get T i x (by simpa using h)
    have e : rowT (y :: T) = tkCells y ++ rowT T := by simp [rowT]
    have hl : (tkCells y).length = 4 := rfl
    rw [e]
    refine ⟨?_, ?_, ?_, ?_⟩
    all_goals (
      rw [List.getElem?_append_right (by omega), hl]
      first | (rw [show 4 * (i + 1) - 4 = 4 * i by omega]; exact ih.1) | (rw [show 4 * (i + 1) + 1 - 4 = 4 * i + 1 by omega]; exact ih.2.1) | (rw [show 4 * (i + 1) + 2 - 4 = 4 * i + 2 by omega]; exact ih.2.2.1) | (rw [show 4 * (i + 1) + 3 - 4 = 4 * i + 3 by omega]; exact ih.2.2.2))

theorem own_cells {w : World} {base c n : Nat} {e : TypeId} {a : Option Addr} {T : List Tk} (h : w.ownsRow base e 4 (.slice a n c) n (rowT T)) (hT : 0 < n) :
    ∃ g, a = some ⟨g, 0, none⟩ ∧ base ≤ g ∧ g < w.heap.size ∧ ∀ (i : Nat) (x : Tk), T[i]? = some x → w.cell? ⟨g, 4 * i, none⟩ = some (.int .i64 x.kind) ∧ w.cell? ⟨g, 4 * i + 1, none⟩ = some (.string (strOfNums x.text)) ∧ w.cell? ⟨g, 4 * i + 2, none⟩ = some (.int .i64 x.count) ∧ w.cell? ⟨g, 4 * i + 3, none⟩ = some (.int .i64 (x.place : Int)) := by
  have hc := fun g hg => World.ownsRow.cells h (g := g) hg
  rcases h.2 with ⟨hv, hn⟩ | ⟨g, cap, cur, hv, hb, hh, _⟩
  · omega
  · simp only [Value.slice.injEq] at hv
    obtain ⟨rfl, _, rfl⟩ := hv
    have hadd : ∀ j, (⟨g, 0, none⟩ : Addr).add j = ⟨g, j, none⟩ := fun j => by unfold Addr.add; split <;> simp_all
    have hg : g < w.heap.size := (Array.getElem?_eq_some_iff.1 hh).1
    refine ⟨g, rfl, hb, hg, fun i x hx => ?_⟩
    obtain ⟨h0, h1, h2, h3⟩ := rowT_get T i x hx
    have hq := hc g rfl
    exact ⟨by rw [← hadd]; exact hq _ _ h0, by rw [← hadd]; exact hq _ _ h1, by rw [← hadd]; exact hq _ _ h2, by rw [← hadd]; exact hq _ _ h3⟩

theorem str_ne {s t : ByteArray} (h : s ≠ t) : (s.toList == t.toList) = false := by
  rw [Bool.eq_false_iff]
  intro hh
  exact h (ints_inj ((str_eq s t).1 hh))
theorem str_same (s : ByteArray) : (s.toList == s.toList) = true := by simp

end Go.Proofs.YtiemiekkjaknfaaDoor
