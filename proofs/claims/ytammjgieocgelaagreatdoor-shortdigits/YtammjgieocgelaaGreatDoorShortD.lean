/- numerarylaw10: what came in. -/
import Derived.Test.YtammjgieocgelaaGreatDoorShortW
namespace Go.Proofs.YtammjgieocgelaaGreatDoor
set_option linter.unusedVariables false
set_option linter.unusedSimpArgs false
open Go.RowKit
open Go.Lib (decDigits trimRightB)

attribute [local go_sem] World.cell?_alloc_some
theorem u64_nat {b : Int} (h : (Lit.int .u64 b).wf = true) : ∃ n : Nat, b = n ∧ n < 18446744073709551616 := by
  simp [Lit.wf, IntKind.min, IntKind.max, IntKind.signed, IntKind.bits] at h
  exact ⟨b.toNat, by omega, by omega⟩
theorem i64_bds {k : Int} (h : (Lit.int .i64 k).wf = true) : -9223372036854775808 ≤ k ∧ k ≤ 9223372036854775807 := by
  simp [Lit.wf, IntKind.min, IntKind.max, IntKind.signed, IntKind.bits] at h
  exact h
theorem row2_cells (w : World) (x y : Value) (t : TypeId) : (w.alloc (Obj.cells #[x, y] t)).cell? ⟨w.heap.size, 0, none⟩ = some x ∧ (w.alloc (Obj.cells #[x, y] t)).cell? ⟨w.heap.size, 1, none⟩ = some y := ⟨by simp [go_sem], by simp [go_sem]⟩

theorem u8_bd {x : Int} (h : (Lit.int .u8 x).wf = true) : 0 ≤ x ∧ x ≤ 255 := by
  simp [Lit.wf, IntKind.min, IntKind.max, IntKind.signed, IntKind.bits] at h
  omega
/-- Bytes that came in. -/
theorem row_u8 {w : World} {a : Option Addr} {len cap : Nat} {zs : List Int} (h : IsRow .u8 w a len cap zs) :
    ∃ f : Nat → Nat, Cs .u8 w a len f ∧ (∀ j, f j ≤ 255) ∧ len ≤ cap ∧ cap ≤ maxLen ∧ (a = none → cap = 0) := by
  rcases h with ⟨rfl, rfl, rfl, rfl⟩ | ⟨y, rfl, hl, hm, hz, hcell, hwz⟩
  · exact ⟨fun _ => 0, .inl rfl, fun _ => Nat.zero_le _, by omega, by omega, fun _ => rfl⟩
  · have hb : ∀ j, 0 ≤ zs.getD j 0 ∧ zs.getD j 0 ≤ 255 := by
      intro j
      by_cases hj : j < zs.length
      · rw [List.getD_eq_getElem?_getD, List.getElem?_eq_getElem hj]
        exact u8_bd (hwz zs[j] (List.getElem_mem hj))
      · rw [List.getD_eq_getElem?_getD, List.getElem?_eq_none (by omega)]
        simp
    refine ⟨fun j => (zs.getD j 0).toNat, ?_, fun j => by have := hb j; show (zs.getD j 0).toNat ≤ 255; omega, hl, hm, fun e => by cases e⟩
    by_cases hk0 : len = 0
    · exact .inl hk0
    · obtain ⟨b, off, spot⟩ := y
      have hc := hcell 0 (by omega)
      have hspot : spot = none := by simpa [Addr.add] using World.cell?_spot hc
      subst hspot
      have hcs : ∀ i, i < cap → w.cell? ⟨b, off + i, none⟩ = some (.int .u8 (zs.getD i 0)) := fun i hi => by
        have := hcell i (by omega)
        have e : (⟨b, off, none⟩ : Addr).add i = ⟨b, off + i, none⟩ := by unfold Addr.add; split <;> simp_all
        rwa [e] at this
      exact .inr ⟨b, off, rfl, cell_lt (hcs 0 (by omega)), fun j hj => by rw [Int.toNat_of_nonneg (hb j).1]; exact hcs j (by omega)⟩
/-- Bytes as digits. -/
def digs (f : Nat → Nat) (k : Nat) : List UInt8 := (List.range k).map (fun j => UInt8.ofNat (48 + f j % 10))
theorem digs_zero (f : Nat → Nat) : digs f 0 = [] := rfl
theorem digs_succ (f : Nat → Nat) (k : Nat) : digs f (k + 1) = digs f k ++ [UInt8.ofNat (48 + f k % 10)] := by
  unfold digs
  rw [List.range_succ, List.map_append]
  rfl
theorem digs_len (f : Nat → Nat) (k : Nat) : (digs f k).length = k := by simp [digs]
theorem digs_all (f : Nat → Nat) (k : Nat) : AllD (digs f k) := by
  intro b hb
  obtain ⟨j, _, rfl⟩ := List.mem_map.1 hb
  rw [byte_of (Nat.mod_lt _ (by decide))]
  have := Nat.mod_lt (f j) (by decide : 0 < 10)
  omega
end Go.Proofs.YtammjgieocgelaaGreatDoor
