/- unicode.SimpleFold of signs up to 7F, of the sign of Kelvin and of the long s. -/
import Derived.Test.YtiemiekkjaknfaaDoorRunesA
import Derived.Test.YtiemiekkjaknfaaDoorColP
namespace Go.Proofs.YtiemiekkjaknfaaDoor
set_option linter.unusedVariables false
set_option linter.unusedSimpArgs false
open Go.RowKit

/-- What the library's table of signs up to 7F tells. -/
def af (j : Nat) : Int := if j = 107 then 8490 else if j = 115 then 383 else if 65 ≤ j ∧ j ≤ 90 then (j : Int) + 32 else if 97 ≤ j ∧ j ≤ 122 then (j : Int) - 32 else j
/-- The library's two tables, as far as they are read. -/
structure Folds (w : World) : Prop where
  a : ∀ j, j < 128 → w.cell? ⟨3, j, none⟩ = some (.int .u16 (af j))
  o : ∃ B O, w.cell? ⟨4, 0, none⟩ = some (.slice (some ⟨B, O, none⟩) 94 94) ∧ w.cell? ⟨B, O + 94, none⟩ = some (.int .u16 966) ∧ w.cell? ⟨B, O + 142, none⟩ = some (.int .u16 7296) ∧ w.cell? ⟨B, O + 166, none⟩ = some (.int .u16 7838)
    ∧ w.cell? ⟨B, O + 178, none⟩ = some (.int .u16 8491) ∧ w.cell? ⟨B, O + 172, none⟩ = some (.int .u16 8163) ∧ w.cell? ⟨B, O + 176, none⟩ = some (.int .u16 8490) ∧ w.cell? ⟨B, O + 174, none⟩ = some (.int .u16 8486) ∧ w.cell? ⟨B, O + 177, none⟩ = some (.int .u16 75)
    ∧ w.cell? ⟨B, O + 46, none⟩ = some (.int .u16 837) ∧ w.cell? ⟨B, O + 22, none⟩ = some (.int .u16 452) ∧ w.cell? ⟨B, O + 10, none⟩ = some (.int .u16 197) ∧ w.cell? ⟨B, O + 16, none⟩ = some (.int .u16 304) ∧ w.cell? ⟨B, O + 20, none⟩ = some (.int .u16 383)
    ∧ w.cell? ⟨B, O + 18, none⟩ = some (.int .u16 305) ∧ w.cell? ⟨B, O + 21, none⟩ = some (.int .u16 83)
theorem fr_cell' {w w' : World} {a : Addr} {v : Value} (k : Fr w w') (h : w.cell? a = some v) : w'.cell? a = some v := (Below.cell k (cell_lt h)).trans h
theorem Folds.fr {w w' : World} (h : Folds w) (k : Fr w w') : Folds w' := by
  obtain ⟨B, O, h0, h1, h2, h3, h4, h5, h6, h7, h8, h9, h10, h11, h12, h13, h14, h15⟩ := h.o
  exact ⟨fun j hj => fr_cell' k (h.a j hj), B, O, fr_cell' k h0, fr_cell' k h1, fr_cell' k h2, fr_cell' k h3, fr_cell' k h4, fr_cell' k h5, fr_cell' k h6, fr_cell' k h7, fr_cell' k h8, fr_cell' k h9, fr_cell' k h10, fr_cell' k h11, fr_cell' k h12, fr_cell' k h13, fr_cell' k h14, fr_cell' k h15⟩

theorem af_facts : ∀ j : Fin 128, 0 ≤ af j ∧ af j ≤ 8490 ∧ (af j < 128 ∨ ((j : Nat) = 107 ∧ af j = 8490) ∨ ((j : Nat) = 115 ∧ af j = 383)) ∧ ((j : Nat) ≠ 107 → (j : Nat) ≠ 115 → (j : Nat) ≠ 75 → (j : Nat) ≠ 83 → af (af j).toNat = j) := by decide +kernel

set_option maxHeartbeats 1000000 in
set_option maxRecDepth 4000 in
theorem sf_low (j : Nat) (w : World) (h : Folds w) (hj : j < 128) : Calls Tryd.prog 54 #[.int .i32 (j : Int)] w fun e w' => e = .returned (.int .i32 (af j)) ∧ w' = w := by
  have hc := h.a j hj
  obtain ⟨b0, b1, _⟩ := af_facts ⟨j, hj⟩
  simp only at b0 b1
  have hw : IntKind.i32.wrap (af j) = af j := by rw [IntKind.wrap_i32]; omega
  generalize af j = x at *
  clear h
  go_enter Tryd.func54, Tryd.ntmps54
  go_wp2_with fail
  go_ret
  exact ⟨by first | rfl | simp [hw], rfl⟩

set_option maxHeartbeats 4000000 in
set_option maxRecDepth 4000 in
theorem sf_kelvin (w : World) (h : Folds w) : Calls Tryd.prog 54 #[.int .i32 8490] w fun e w' => e = .returned (.int .i32 75) ∧ w' = w := by
  obtain ⟨B, O, h0, h1, h2, h3, h4, h5, h6, h7, h8, h9, h10, h11, h12, h13, h14, h15⟩ := h.o
  clear h
  go_enter Tryd.func54, Tryd.ntmps54
  go_wp2_with fail
  refine wp_loop_rounds 8 ?_
  repeat any_goals (rw [rounds_succ]; go_wp2_with fail)
  all_goals
    go_ret
    exact ⟨rfl, rfl⟩
set_option maxHeartbeats 4000000 in
set_option maxRecDepth 4000 in
theorem sf_long (w : World) (h : Folds w) : Calls Tryd.prog 54 #[.int .i32 383] w fun e w' => e = .returned (.int .i32 83) ∧ w' = w := by
  obtain ⟨B, O, h0, h1, h2, h3, h4, h5, h6, h7, h8, h9, h10, h11, h12, h13, h14, h15⟩ := h.o
  clear h
  go_enter Tryd.func54, Tryd.ntmps54
  go_wp2_with fail
  refine wp_loop_rounds 8 ?_
  repeat any_goals (rw [rounds_succ]; go_wp2_with fail)
  all_goals
    go_ret
    exact ⟨rfl, rfl⟩
end Go.Proofs.YtiemiekkjaknfaaDoor
