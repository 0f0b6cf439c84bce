/- numerarylaw09: the bytes of a text, one by one. -/
import Derived.Test.YthdgdomgcogpjaaDoorRoundM
import Derived.Lib.ConvBytes
import Derived.Lib.AtoiErrMem
namespace Go.Proofs.YthdgdomgcogpjaaDoor
set_option linter.unusedVariables false
set_option linter.unusedSimpArgs false
open Go.RowKit

/-- A row of bytes. -/
def BRow (w : World) (b : Nat) (l : List UInt8) : Prop := ∀ j, j < l.length → w.cell? ⟨b, j, none⟩ = some (.int .u8 ((l.getD j 0).toNat : Int))
theorem BRow.fr {w w' : World} {b : Nat} {l : List UInt8} (h : BRow w b l) (f : Fr w w') : BRow w' b l := fun j hj => fr_cell f (h j hj)
theorem BRow.put {w : World} {b : Nat} {l : List UInt8} (h : BRow w b l) (p : Addr) (u : Value) (hp : p.block ≠ b) : BRow (w.setCell p u) b l := fun j hj => (World.cell?_setCell_other _ _ _ _ (fun e => by rw [e] at hp; exact hp rfl)).trans (h j hj)
/-- '[]byte(s)': a new row. -/
theorem conv_bytes (w : World) (s : ByteArray) : ∃ (cap : Nat) (W : World), (convert 9 51 (.string s)).run Tryd.prog w = .ok (.slice (some ⟨w.heap.size, 0, none⟩) s.size cap) W ∧ Fr w W ∧ BRow W w.heap.size s.data.toList := by
  refine ⟨_, _, Lib.run_convert_string_bytes (P := Tryd.prog) w 9 51 5 s (u := .string) Tryd.underlying9 Tryd.underlying51 Tryd.underlying5, Lib.bytesWorld_below w _ s, ?_⟩
  intro j hj
  rw [len_data] at hj
  exact Lib.bytesWorld_cell w _ s j hj
theorem val_step {l : List UInt8} {j : Nat} (hj : j < l.length) : valD (l.take (j + 1)) = valD (l.take j) * 10 + ((l.getD j 0).toNat - 48) := by
  have h : l[j]? = some (l.getD j 0) := by simp [List.getD, List.getElem?_eq_getElem hj]
  rw [take_snoc h, valD_snoc]
theorem all_at {l : List UInt8} (h : AllD l) {j : Nat} (hj : j < l.length) : 48 ≤ (l.getD j 0).toNat ∧ (l.getD j 0).toNat ≤ 57 := by
  refine h _ ?_
  have : l.getD j 0 = l[j] := by simp [List.getD, List.getElem?_eq_getElem hj]
  rw [this]
  exact List.getElem_mem hj
theorem val_nl {l : List UInt8} (h : AllD l) {j k : Nat} (hj : j ≤ k) (hk : 0 < k) : nlen 4294967296 (valD (l.take j)) ≤ k := by
  have ha : AllD (l.take j) := fun b hb => h b (List.mem_of_mem_take hb)
  have h1 := valD_lt _ ha
  have h2 : (l.take j).length ≤ k := by rw [List.length_take]; omega
  refine nlen_le b32 (Nat.lt_of_lt_of_le h1 ?_)
  exact Nat.le_of_lt (ten_pow_lt h2 hk)
end Go.Proofs.YthdgdomgcogpjaaDoor
