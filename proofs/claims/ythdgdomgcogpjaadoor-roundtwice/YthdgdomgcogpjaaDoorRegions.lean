/- A drawn region whose operations, end and state are named: so that what is shown of a state that several orders lead to is shown once. -/
import Derived.Test.YthdgdomgcogpjaaDoorPackA
import Derived.Deep.RegionHeld3
namespace Go.Proofs.YthdgdomgcogpjaaDoor
set_option linter.unusedVariables false
open Go.RowKit

theorem wp_region_named {P : Program} {S : World → Prop} {id : Nat} {ops0 : Array Oper} {Q0 : Exit → Act → World → Prop} {a0 : Act} {w : World} (hm : P.follows .mixedOrders = true) (hp : ∀ c a d v w, Q0 (.panic c) (Act.put a d v) w → Q0 (.panic c) a w) (hS : S w.drew)
    (h : ∀ ops, Hid (ops = ops0) → ∀ Q, Hid (Q = Q0) → ∀ a, Hid (a = a0) → Hid (∀ c a d v w, Q (.panic c) (Act.put a d v) w → Q (.panic c) a w) → S w.drew → wpAnyH P .any ops Q S ops0.size (Array.replicate ops0.size false) a w.drew) : (Code.region id ops0 true).wp P Q0 a0 w :=
  wp_region_held_drew hm hS (h _ (hide rfl) _ (hide rfl) _ (hide rfl) hp)

/-- A Nat's limbs don't lie in block b. -/
def Off (a : Option Addr) (n b : Nat) : Prop := n = 0 ∨ ∀ g off s, a = some ⟨g, off, s⟩ → g ≠ b
theorem off_new {w : World} {a : Option Addr} {c x : Nat} (h : IsNat w (.agg #[.slice a (nlen 4294967296 x) c]) x) : Off a (nlen 4294967296 x) w.heap.size := by
  obtain ⟨a', c', h1, h2, h3, h4⟩ := h
  simp only [Value.agg.injEq] at h1
  have h1' : a = a' := by injection h1 with h1; injection h1 with h1; injection h1
  subst h1'
  rcases h4 with h0 | ⟨g, off, rfl, hg, _⟩
  · exact .inl h0
  · refine .inr (fun g' off' s e => ?_)
    simp only [Option.some.injEq, Addr.mk.injEq] at e
    omega
theorem off_old {w : World} {a : Option Addr} {n b : Nat} (h : ∀ g off s, a = some ⟨g, off, s⟩ → w.heap.size ≤ g) (hb : b < w.heap.size) : Off a n b := .inr (fun g off s e => by have := h g off s e; omega)
theorem IsNat.off {w : World} {x c : Nat} {a : Option Addr} (h : IsNat w (.agg #[.slice a (nlen 4294967296 x) c]) x) {b : Nat} (hf : Off a (nlen 4294967296 x) b) (u : Value) : IsNat (w.setCell ⟨b, 0, none⟩ u) (.agg #[.slice a (nlen 4294967296 x) c]) x := by
  rcases hf with h0 | hf
  · have e : x = 0 := nlen_nil b32 h0
    subst e
    obtain ⟨a', c', g1, g2, g3, g4⟩ := h
    exact ⟨a', c', g1, g2, g3, .inl (nlen_zero _)⟩
  · exact h.put ⟨b, 0, none⟩ u (fun g off s e => hf g off s e)
/-- A variable that was made: its cell is there, new since W, and may be written. -/
def Var (W w : World) (b : Nat) : Prop := w.cell? ⟨b, 0, none⟩ = some (.slice none 0 0) ∧ w.frozen? ⟨b, 0, none⟩ = false ∧ W.heap.size ≤ b
theorem var_fr_free {w w' : World} {a : Addr} {v : Value} (k : Fr w w') (h : w.cell? a = some v) (hf : w.frozen? a = false) : w'.frozen? a = false := by
  have hb := k.block a.block (cell_lt h)
  unfold World.frozen? at *
  rw [hb]; exact hf
theorem Var.fr {W w w' : World} {b : Nat} (h : Var W w b) (f : Fr w w') : Var W w' b := ⟨fr_cell f h.1, var_fr_free f h.1 h.2.1, h.2.2⟩
theorem Var.lt {W w : World} {b : Nat} (h : Var W w b) : b < w.heap.size := cell_lt h.1
theorem Var.new {W w : World} {t : TypeId} (h : W.heap.size ≤ w.heap.size) : Var W (w.alloc (.cells #[.slice none 0 0] t)) w.heap.size := ⟨by simp [go_sem], by simp [go_sem], h⟩
theorem Var.put {W w : World} {b : Nat} (h : Var W w b) (b' : Nat) (u : Value) (hne : b' ≠ b) : Var W (w.setCell ⟨b', 0, none⟩ u) b :=
  ⟨(World.cell?_setCell_other _ _ _ _ (fun e => hne (by injection e))).trans h.1, by simpa using h.2.1, h.2.2⟩
end Go.Proofs.YthdgdomgcogpjaaDoor
