/- Plain mathematics of layer 1: texts put together out of signs. -/
import Derived.Test.YtiemiekkjaknfaaDoorRunesP
namespace Go.Proofs.YtiemiekkjaknfaaDoor
set_option linter.unusedVariables false
set_option linter.unusedSimpArgs false

/-- The bytes of signs, one behind the other. -/
def cat : List Int → List Int
  | [] => []
  | n :: r => nums n ++ cat r

theorem nums_range (n : Int) (h : rsize n ≠ 0) : ∀ x ∈ nums n, 0 ≤ x ∧ x ≤ 255 := by
  intro x hx
  rcases rsize_cases n with ⟨a, _⟩ | ⟨a, b, c⟩ | ⟨a, b, c⟩ | ⟨a, b, c, _⟩ | ⟨a, b, c⟩
  · exact absurd a h
  · rw [nums, if_pos c] at hx; simp at hx; omega
  · rw [nums, if_neg (by omega), if_pos c] at hx; simp at hx; omega
  · rw [nums, if_neg (by omega), if_neg (by omega), if_pos c] at hx; simp at hx; omega
  · rw [nums, if_neg (by omega), if_neg (by omega), if_neg (by omega)] at hx; simp at hx; omega

theorem cat_range : ∀ (L : List Int), (∀ n ∈ L, rsize n ≠ 0) → ∀ x ∈ cat L, 0 ≤ x ∧ x ≤ 255
  | [], _, x, hx => by simp [cat] at hx
  | n :: r, h, x, hx => by
    rw [cat, List.mem_append] at hx
    rcases hx with hx | hx
    · exact nums_range n (h n (by simp)) x hx
    · exact cat_range r (fun m hm => h m (by simp [hm])) x hx

theorem app_range {a b : List Int} (ha : ∀ x ∈ a, 0 ≤ x ∧ x ≤ 255) (hb : ∀ x ∈ b, 0 ≤ x ∧ x ≤ 255) : ∀ x ∈ a ++ b, 0 ≤ x ∧ x ≤ 255 := by
  intro x hx
  rw [List.mem_append] at hx
  rcases hx with hx | hx
  · exact ha x hx
  · exact hb x hx

theorem rall_cat : ∀ (L : List Int), (∀ n ∈ L, rsize n ≠ 0) → ∀ t : List Int, (∀ x ∈ t, 0 ≤ x ∧ x ≤ 255) → rall (cat L ++ t) = (L ++ (rall t).1, (cat L).length + (rall t).2)
  | [], _, t, _ => by simp [cat]
  | n :: r, h, t, ht => by
    have hr := fun m hm => h m (List.mem_cons_of_mem _ hm)
    rw [cat, List.append_assoc, rall_nums n (h n (by simp)) _ (app_range (cat_range r hr) ht), rall_cat r hr t ht]
    simp only [List.cons_append, List.length_append, Prod.mk.injEq, true_and]
    omega

theorem cat_of : ∀ (k : Nat) (l : List Int), l.length ≤ k → (∀ x ∈ l, 0 ≤ x ∧ x ≤ 255) → (∀ n ∈ (rall l).1, rsize n ≠ 0) ∧ l = cat (rall l).1 ++ l.drop (rall l).2 ∧ (cat (rall l).1).length = (rall l).2 := by
  intro k
  induction k with
  | zero =>
    intro l h hl
    have : l = [] := List.length_eq_zero_iff.1 (by omega)
    subst this
    simp [rall_nil, cat]
  | succ k ih =>
    intro l h hl
    rcases rfirst_cases l hl with h' | ⟨n, t, hn, rfl, h'⟩
    · rw [rall_no l h']; simp [cat]
    · have hp := nums_pos n
      have ht : ∀ x ∈ t, 0 ≤ x ∧ x ≤ 255 := fun x hx => hl x (by simp [hx])
      have hlen : (nums n ++ t).length = (nums n).length + t.length := List.length_append
      obtain ⟨i1, i2, i3⟩ := ih t (by omega) ht
      rw [rall_nums n hn t ht]
      refine ⟨?_, ?_, ?_⟩
      · intro m hm
        rw [List.mem_cons] at hm
        rcases hm with rfl | hm
        · exact hn
        · exact i1 m hm
      · simp only [cat]
        rw [List.append_assoc, ← List.drop_drop, List.drop_left, ← i2]
      · simp only [cat, List.length_append, i3]

/-- The signs of two texts, one behind the other, the first one whole. -/
theorem rall_join (a b : List Int) (ha : ∀ x ∈ a, 0 ≤ x ∧ x ≤ 255) (hb : ∀ x ∈ b, 0 ≤ x ∧ x ≤ 255) (h : (rall a).2 = a.length) : rall (a ++ b) = ((rall a).1 ++ (rall b).1, a.length + (rall b).2) := by
  obtain ⟨i1, i2, i3⟩ := cat_of _ a (Nat.le_refl _) ha
  rw [h, List.drop_length, List.append_nil] at i2
  have := rall_cat (rall a).1 i1 b hb
  rw [← i2] at this
  exact this

theorem ints_append (s t : ByteArray) : ints (s ++ t) = ints s ++ ints t := by
  simp [ints]
theorem ints_inj {s t : ByteArray} (h : ints s = ints t) : s = t := by
  have : s.data.toList = t.data.toList := by
    unfold ints at h
    exact (List.map_inj_right (fun a b hab => by
      have : a.toNat = b.toNat := by omega
      exact UInt8.toNat_inj.1 this)).1 h
  obtain ⟨⟨a⟩⟩ := s
  obtain ⟨⟨b⟩⟩ := t
  simp at this
  rw [this]
theorem ints_nums (l : List Int) (h : ∀ x ∈ l, 0 ≤ x ∧ x ≤ 255) : ints (strOfNums l) = l := by
  unfold ints
  rw [strOfNums_data, List.map_map]
  conv => rhs; rw [← List.map_id l]
  apply List.map_congr_left
  intro x hx
  have := h x hx
  simp [UInt8.toNat_ofNat]
  omega
end Go.Proofs.YtiemiekkjaknfaaDoor
