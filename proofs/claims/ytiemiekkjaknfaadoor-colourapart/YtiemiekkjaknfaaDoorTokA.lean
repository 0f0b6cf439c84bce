/- How the walks of layer 11 tell tokens; the map of kinds, small letters, words. -/
import Derived.Test.YtiemiekkjaknfaaDoorRunesD
import Derived.Test.YtiemiekkjaknfaaDoorTokP
import Derived.Maps.Own
import Derived.Laws.AppendOwn
import Derived.Laws.ResultCell
namespace Go.Proofs.YtiemiekkjaknfaaDoor
set_option linter.unusedVariables false
set_option linter.unusedSimpArgs false
open Go.RowKit Go.Maps

theorem hide {p : Prop} (h : p) : Hid p := h
theorem Fr.drew (w : World) : Fr w w.drew := (Below.refl _ _).drew
theorem Fr.drewN (w : World) (n : Nat) : Fr w (w.drewN n) := below_drewN (Below.refl _ _) _
theorem Fr.alloc (w : World) (o : Obj) : Fr w (w.alloc o) := by unfold Fr; go_grown
theorem fr_cell {w w' : World} {a : Addr} {v : Value} (k : Fr w w') (h : w.cell? a = some v) : w'.cell? a = some v := (Below.cell k (cell_lt h)).trans h

/-- A token's value; what the next token of a text is told as. -/
def tkV (k : Int) (t : List Int) (c a : Int) : Value := .agg #[.int .i64 k, .string (strOfNums t), .int .i64 c, .int .i64 a]
def nxV : Nx → Value
  | .ok k t c n => .tuple #[tkV k t c 0, .int .i64 n, .int .i64 0]
  | .no o e => .tuple #[tkV 0 [] 0 0, .int .i64 o, .int .i64 e]

theorem four_cells {w w1 : World} {v0 v1 v2 v3 : Value} {t : TypeId} (f : Fr (w.alloc (.cells #[v0, v1, v2, v3] t)) w1) : w1.cell? ⟨w.heap.size, 0, none⟩ = some v0 ∧ w1.cell? ⟨w.heap.size, 1, none⟩ = some v1 ∧ w1.cell? ⟨w.heap.size, 2, none⟩ = some v2 ∧ w1.cell? ⟨w.heap.size, 3, none⟩ = some v3 :=
  ⟨fr_cell f (by simp [go_sem]), fr_cell f (by simp [go_sem]), fr_cell f (by simp [go_sem]), fr_cell f (by simp [go_sem])⟩
theorem var_free {w w1 : World} {o : Array Value} {t : TypeId} (f : Fr (w.alloc (.cells o t)) w1) (j : Nat) : w1.frozen? ⟨w.heap.size, j, none⟩ = false := by
  have hb := f.block w.heap.size (by simp)
  have hn := heap_alloc_new w (.cells o t)
  rw [hn] at hb
  simp [World.frozen?, hb]

/-! ### the map of kinds -/
theorem key8 : Keyed Tryd.prog 5 := int_keyed Tryd.underlying5
/-- An entry of a map's literal is stored as any other. -/
theorem upon_insert {H : Type} {P : Program} {w : World} {o : Oper} {a : Act} {next : Act → World → Prop} {Q : Exit → Act → World → Prop} (t k e : TypeId) (K : Keyed P k) (ht : P.underlying t = some (.map k e)) {R : Value → Option (DataW H × List MemPlace)} {b n : Nat} {D : DataW H}
    (hown : w.ownsMap P k R b n D) (hn : n < maxLen) {key val : Value} {kl : Lit} (hkey : keyOf P k key = some kl) {d : DataW H} {ps : List MemPlace} (hval : R val = some (d, ps))
    (hK : ∀ w', w'.ownsMap P k R b (n + 1) (D.put kl d) → w.grownBy w' (some b) → next (a.put o.dst undef) w') :
    o.upon P a next Q (((Instr.mapUpdate t (.map (some b)) key val).run P w).andThen fun _ w' => Result.ok Next.skip w') := by
  obtain ⟨w', hrun, r1, r2⟩ := hown.update K ht hn hkey hval
  rw [hrun]
  exact hK w' r1 r2

def kindL : List (Int × Int) := [(34, 1), (92, 2), (95, 3), (42, 4), (91, 5), (48, 6), (35, 6), (63, 6), (46, 7), (44, 8), (37, 9), (47, 10), (59, 11), (64, 12), (101, 13), (97, 15), (103, 16), (121, 14), (109, 14), (100, 14), (104, 14), (115, 14), (36, 17), (45, 17), (43, 17), (40, 17), (41, 17), (58, 17), (33, 17), (94, 17), (38, 17), (39, 17), (126, 17), (123, 17), (125, 17), (60, 17), (62, 17), (61, 17), (32, 17), (49, 17), (50, 17), (51, 17), (52, 17), (53, 17), (54, 17), (55, 17), (56, 17), (57, 17)]
def kindPut (D : DataW Unit) (x : Int × Int) : DataW Unit := D.put (.int .u8 x.1) (.lit (.int .i64 x.2))
def kindD (n : Nat) : DataW Unit := (kindL.take n).foldl kindPut (.map [])
theorem kindD_step (n : Nat) (x : Int × Int) (h : kindL[n]? = some x) : kindD (n + 1) = (kindD n).put (.int .u8 x.1) (.lit (.int .i64 x.2)) := by
  unfold kindD
  rw [List.take_add_one, h]
  simp [kindPut]

end Go.Proofs.YtiemiekkjaknfaaDoor
