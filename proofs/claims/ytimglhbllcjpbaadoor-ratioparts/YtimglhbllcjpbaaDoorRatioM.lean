/- What the laws take: a limb with others behind it. -/
import Derived.Test.YtimglhbllcjpbaaDoorRatioJ
import Derived.Test.YtimglhbllcjpbaaDoorRatioL
import Derived.Laws.AppendOwnNone
namespace Go.Proofs.YtimglhbllcjpbaaDoor
set_option linter.unusedVariables false
set_option linter.unusedSimpArgs false
open Go.RowKit

theorem one_own (w : World) (z : Nat) (e : TypeId) : (w.alloc (.cells #[.int .u32 (z : Int)] e)).ownsRow w.heap.size e 1 (.slice (some ⟨w.heap.size, 0, none⟩) 1 1) 1 (rowOf .u32 1 (fun _ => z)) := by
  refine ⟨by rw [rowOf_len], .inr ⟨w.heap.size, 1, #[.int .u32 (z : Int)], rfl, Nat.le_refl _, heap_alloc_new w _, Nat.le_refl _, by unfold maxLen; omega, rfl, ?_⟩⟩
  rfl
theorem rowOf_join32 (n m : Nat) (f g : Nat → Nat) : rowOf .u32 n f ++ rowOf .u32 m g = rowOf .u32 (n + m) (fun j => if j < n then f j else g (j - n)) := by
  apply List.ext_getElem?
  intro j
  rcases Nat.lt_or_ge j n with h | h
  · rw [List.getElem?_append_left (by rw [rowOf_len]; exact h), rowOf_at h, rowOf_at (by omega), if_pos h]
  · rw [List.getElem?_append_right (by rw [rowOf_len]; exact h), rowOf_len]
    rcases Nat.lt_or_ge j (n + m) with h2 | h2
    · rw [rowOf_at (by omega), rowOf_at h2, if_neg (by omega)]
    · rw [List.getElem?_eq_none (by rw [rowOf_len]; omega), List.getElem?_eq_none (by rw [rowOf_len]; omega)]
/-- A row of one's own, taken as limbs. -/
theorem arg_own {w : World} {base n : Nat} {v : Value} {F : Nat → Nat} (h : w.ownsRow base 41 1 v n (rowOf .u32 n F)) (hF : ∀ j, F j < 4294967296) (hn : 0 < n) (h0 : F 0 ≠ 0) : ∃ x, Arg w v x ∧ x ≠ 0 := by
  obtain ⟨a, c, rfl, h1, h2, h3⟩ := own_form h
  have hd : ∀ d ∈ (List.range (min n 5)).map F, d < 4294967296 := by
    intro d hd
    obtain ⟨j, _, rfl⟩ := List.mem_map.1 hd
    exact hF j
  have hlt := valB_lt b32 _ hd
  rw [List.length_map, List.length_range] at hlt
  have hg : ∀ j, j < min n 5 → dg 4294967296 (valB 4294967296 ((List.range (min n 5)).map F)) j = F j := by
    intro j hj
    rw [dg_valB b32 _ j hd]
    simp [List.getD_eq_getElem?_getD, List.getElem?_map, List.getElem?_range hj]
  refine ⟨valB 4294967296 ((List.range (min n 5)).map F), ⟨a, n, c, rfl, h1, h2, ?_, hlt, ?_⟩, ?_⟩
  · intro e
    subst e
    rcases h.2 with ⟨hv, _⟩ | ⟨g, cap, cur, hv, _⟩
    · simp only [Value.slice.injEq] at hv
      exact hv.2.2
    · simp only [Value.slice.injEq] at hv
      cases hv.1
  · have hc := (own_cs h).less (m := min n 5) (by omega)
    rcases hc with hc | ⟨b, off, k1, k2, k3⟩
    · exact .inl hc
    · exact .inr ⟨b, off, k1, k2, fun j hj => by rw [hg j hj]; exact k3 j hj⟩
  · intro e
    have := hg 0 (by omega)
    rw [e, dg_zero] at this
    exact h0 this.symm

/-- append(row, limbs...), where the row is one's own and the limbs may be nil. -/
theorem wpList_app {w w0 : World} {ops : Array Oper} {rest : List Oper} {o : Oper} {A : Act} {Q : Exit → Act → World → Prop} (hgd : o.guard = none) (s x : Operand)
    (ho : o.op = .call { callee := .builtin .append, args := #[s, x], argTypes := #[22, 22] })
    (v : Value) (n : Nat) (f : Nat → Nat) (hs : A.eval s = v) (hown : w.ownsRow w0.heap.size 41 1 v n (rowOf .u32 n f)) (a : Option Addr) (k c : Nat) (g : Nat → Nat) (hx : A.eval x = .slice a k c) (hn : a = none → c = 0) (hkc : k ≤ c) (hc : Cs .u32 w a k g) (hb : n + k ≤ 1000) (hF : Fr w0 w)
    (h : ∀ v' w', w'.ownsRow w0.heap.size 41 1 v' (n + k) (rowOf .u32 (n + k) (fun j => if j < n then f j else g (j - n))) → Fr w0 w' → wpList Tryd.prog ops Q rest (A.put o.dst v') w') : wpList Tryd.prog ops Q (o :: rest) A w := by
  obtain ⟨i0, hi, hz0, hz1, hz2⟩ := info_parts info32
  rcases a with _ | ad
  · obtain rfl := hn rfl
    obtain rfl : k = 0 := by omega
    refine wpList_append_own_none hgd s x 22 ho w0.heap.size 41 i0 1 Tryd.underlying22 hi v n _ hs hown hx ?_
    refine h v w ?_ hF
    have e : rowOf .u32 (n + 0) (fun j => if j < n then f j else g (j - n)) = rowOf .u32 n f := by
      have := rowOf_join32 n 0 f g
      rw [← this]
      simp [rowOf]
    rw [e]
    exact hown
  · refine wpList_append_own w hgd s x 22 ho w0.heap.size 41 i0 (.int .u32 0) 1 4 Tryd.underlying22 hi hz0 hz1 hz2 rfl (by decide) v n _ hs hown ad k c (rowOf .u32 k g) hx (by rw [rowOf_len, Nat.mul_one]) ?_ ?_ (by unfold maxLen; omega) (by omega) hF.size ?_
    · intro j u hu
      obtain ⟨hj, rfl⟩ := rowOf_get hu
      rcases hc with hc | ⟨b, off, e, _, hc⟩
      · omega
      · injection e with e
        subst e
        have := hc j hj
        unfold Addr.add
        split
        · rename_i h0
          obtain rfl : j = 0 := by simpa using h0
          simpa using this
        · simpa using this
    · intro u hu
      obtain ⟨j, _, rfl⟩ := List.mem_map.1 hu
      rfl
    · intro v' w2 hown' hgrow _
      refine h v' w2 ?_ (Below.grown hF hgrow hF.size (own_below hown))
      rw [← rowOf_join32]
      exact hown'
end Go.Proofs.YtimglhbllcjpbaaDoor
