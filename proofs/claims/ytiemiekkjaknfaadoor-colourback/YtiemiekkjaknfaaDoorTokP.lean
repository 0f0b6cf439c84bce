/- Plain mathematics of layer 11: the tokens of a code, on lists of byte values; no program. -/
import Derived.Test.YtiemiekkjaknfaaDoorRunesQ
namespace Go.Proofs.YtiemiekkjaknfaaDoor
set_option linter.unusedVariables false
set_option linter.unusedSimpArgs false

def lowB (b : Int) : Int := if 65 ≤ b ∧ b ≤ 90 then b + 32 else b
def upto (last : Int) (r : List Int) : List Int := r.takeWhile (fun b => decide (b ≠ last))

theorem takeWhile_cut (p : Int → Bool) (l : List Int) : ∃ q, l = l.takeWhile p ++ q ∧ ∀ b, q.head? = some b → p b = false := by
  induction l with
  | nil => exact ⟨[], rfl, by simp⟩
  | cons a l ih =>
    by_cases h : p a = true
    · obtain ⟨q, h1, h2⟩ := ih
      refine ⟨q, ?_, h2⟩
      rw [List.takeWhile_cons, if_pos h, List.cons_append, ← h1]
    · refine ⟨a :: l, ?_, ?_⟩
      · rw [List.takeWhile_cons, if_neg h]; rfl
      · intro b hb; simp at hb; subst hb; simpa using h

theorem takeWhile_app (p : Int → Bool) (u q : List Int) (hu : ∀ b ∈ u, p b = true) (hq : ∀ b, q.head? = some b → p b = false) : (u ++ q).takeWhile p = u := by
  induction u with
  | nil =>
    cases q with
    | nil => rfl
    | cons b q => simp [hq b rfl]
  | cons a u ih =>
    rw [List.cons_append, List.takeWhile_cons, if_pos (hu a (by simp)), ih (fun b hb => hu b (by simp [hb]))]

theorem mem_takeWhile (p : Int → Bool) (l : List Int) : ∀ b ∈ l.takeWhile p, p b = true := by
  intro b hb
  induction l with
  | nil => simp at hb
  | cons a l ih =>
    by_cases h : p a = true
    · rw [List.takeWhile_cons, if_pos h] at hb
      rcases List.mem_cons.1 hb with rfl | hb
      · exact h
      · exact ih hb
    · rw [List.takeWhile_cons, if_neg h] at hb; simp at hb

theorem upto_cut (last : Int) (r : List Int) : (∀ b ∈ upto last r, b ≠ last) ∧ ((upto last r).length = r.length ∧ upto last r = r ∨ ∃ q, r = upto last r ++ last :: q) := by
  refine ⟨fun b hb => by simpa using mem_takeWhile _ r b hb, ?_⟩
  obtain ⟨q, h1, h2⟩ := takeWhile_cut (fun b => decide (b ≠ last)) r
  match q, h1, h2 with
  | [], h1, _ => left; rw [List.append_nil] at h1; unfold upto; rw [← h1]; exact ⟨rfl, rfl⟩
  | b :: q, h1, h2 =>
    right
    have := h2 b rfl
    simp at this
    subst this
    exact ⟨q, h1⟩
theorem upto_app (last : Int) (t q : List Int) (h : ∀ b ∈ t, b ≠ last) : upto last (t ++ last :: q) = t :=
  takeWhile_app _ t _ (fun b hb => by simpa using h b hb) (fun b hb => by simp at hb; subst hb; simp)
theorem upto_all (last : Int) (t : List Int) (h : ∀ b ∈ t, b ≠ last) : upto last t = t := by
  have := takeWhile_app (fun b => decide (b ≠ last)) t [] (fun b hb => by simpa using h b hb) (by simp)
  rwa [List.append_nil] at this

end Go.Proofs.YtiemiekkjaknfaaDoor
