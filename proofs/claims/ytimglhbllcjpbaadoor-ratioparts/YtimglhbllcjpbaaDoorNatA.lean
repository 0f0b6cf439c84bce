/- How the walks of layer 2 tell worlds, rows of numbers and Nats; the smallest functions. -/
import Derived.Test.YtimglhbllcjpbaaDoorRows
import Derived.Test.YtimglhbllcjpbaaDoorNatP
import Derived.Handy
import Derived.WalkSpells
import Derived.WalkLawsBesides
import Derived.Deep.OwnRows
import Derived.Lib.SliceRun
import Derived.Laws.ResultCell
namespace Go.Proofs.YtimglhbllcjpbaaDoor
set_option linter.unusedVariables false
set_option linter.unusedSimpArgs false
open Go.RowKit

theorem hide {p : Prop} (h : p) : Hid p := h
def Fr (w w' : World) : Prop := Below w.heap.size w w'
theorem Fr.refl (w : World) : Fr w w := Below.refl _ _
theorem Fr.trans {a b c : World} (h : Fr a b) (k : Fr b c) : Fr a c := Below.trans h (Below.mono k h.size)
theorem Fr.drew (w : World) : Fr w w.drew := (Below.refl _ _).drew
theorem Fr.alloc (w : World) (o : Obj) : Fr w (w.alloc o) := by unfold Fr; go_grown
theorem cell_lt {w : World} {a : Addr} {v : Value} (h : w.cell? a = some v) : a.block < w.heap.size := by
  rcases Nat.lt_or_ge a.block w.heap.size with k | k
  · exact k
  · simp [World.cell?, Array.getElem?_eq_none k] at h
theorem fr_cell {w w' : World} {a : Addr} {v : Value} (k : Fr w w') (h : w.cell? a = some v) : w'.cell? a = some v := (Below.cell k (cell_lt h)).trans h

/-- n cells of numbers of a kind, from an address on. -/
def Cs (k : IntKind) (w : World) (a : Option Addr) (n : Nat) (f : Nat → Nat) : Prop :=
  n = 0 ∨ ∃ b off, a = some ⟨b, off, none⟩ ∧ b < w.heap.size ∧ ∀ j, j < n → w.cell? ⟨b, off + j, none⟩ = some (.int k (f j : Int))
theorem Cs.fr {k : IntKind} {w w' : World} {a : Option Addr} {n : Nat} {f : Nat → Nat} (h : Cs k w a n f) (q : Fr w w') : Cs k w' a n f := by
  rcases h with h | ⟨b, off, h1, h2, h3⟩
  · exact .inl h
  · exact .inr ⟨b, off, h1, Nat.lt_of_lt_of_le h2 q.size, fun j hj => fr_cell q (h3 j hj)⟩
theorem Cs.less {k : IntKind} {w : World} {a : Option Addr} {n m : Nat} {f : Nat → Nat} (h : Cs k w a n f) (hm : m ≤ n) : Cs k w a m f := by
  rcases h with h | ⟨b, off, h1, h2, h3⟩
  · exact .inl (by omega)
  · exact .inr ⟨b, off, h1, h2, fun j hj => h3 j (by omega)⟩

/-- A Nat's value: its limbs are the number's digits in base 2^32, none behind the last that isn't 0. -/
def IsNat (w : World) (v : Value) (x : Nat) : Prop :=
  ∃ a cap, v = .agg #[.slice a (nlen 4294967296 x) cap] ∧ nlen 4294967296 x ≤ cap ∧ cap ≤ maxLen ∧ Cs .u32 w a (nlen 4294967296 x) (dg 4294967296 x)
theorem IsNat.fr {w w' : World} {v : Value} {x : Nat} (h : IsNat w v x) (q : Fr w w') : IsNat w' v x := by
  obtain ⟨a, cap, h1, h2, h3, h4⟩ := h
  exact ⟨a, cap, h1, h2, h3, h4.fr q⟩

/-- A Nat that is handed back through its cell. -/
theorem results_nat {fn : Func} {p : Tmp} (h : fn.results = #[.cell p 24]) (tmps : Array Value) (w : World) (b : Nat) (v : Value) (hp : tmps.getD p undef = .pointer (some ⟨b, 0, none⟩)) (hc : w.cell? ⟨b, 0, none⟩ = some v) :
    (results fn tmps).run Tryd.prog w = .ok (.agg #[v]) w := by
  have hp' : tmps[p]?.getD undef = .pointer (some ⟨b, 0, none⟩) := by simpa using hp
  simp [results, h, hp']
  go_simp
theorem results_nat_ok {fn : Func} {p u : Tmp} (h : fn.results = #[.cell p 24, .tmp u]) (tmps : Array Value) (w : World) (b : Nat) (v : Value) (hp : tmps.getD p undef = .pointer (some ⟨b, 0, none⟩)) (hc : w.cell? ⟨b, 0, none⟩ = some v) :
    (results fn tmps).run Tryd.prog w = .ok (.tuple #[.agg #[v], tmps.getD u undef]) w := by
  have hp' : tmps[p]?.getD undef = .pointer (some ⟨b, 0, none⟩) := by simpa using hp
  rw [results_cell_tmp h]
  rw [hp]
  go_simp

theorem b32 : 2 ≤ 4294967296 := by decide

set_option maxHeartbeats 400000 in
set_option maxRecDepth 4000 in
theorem at_any (v : Value) (x i : Nat) (w : World) (h : IsNat w v x) (hi : i ≤ maxLen) :
    Calls Tryd.prog 33 #[v, .int .i64 i] w fun e w' => e = .returned (.int .u64 (dg 4294967296 x i : Int)) ∧ Fr w w' := by
  obtain ⟨a, cap, rfl, h2, h3, h4⟩ := h
  have hlt := dg_lt b32 x i
  by_cases c : i < nlen 4294967296 x
  · rcases h4 with h4 | ⟨b, off, rfl, hb, hc⟩
    · omega
    · have hci := hc i c
      generalize dg 4294967296 x i = d at *
      generalize nlen 4294967296 x = N at *
      go_enter Tryd.func33, Tryd.ntmps33
      go_wp2
      go_ret
      exact ⟨rfl, by unfold Fr; go_grown⟩
  · have e : dg 4294967296 x i = 0 := dg_out (lt_of_nlen b32 (by omega))
    rw [e]
    clear e hlt h4
    generalize nlen 4294967296 x = N at *
    go_enter Tryd.func33, Tryd.ntmps33
    go_wp2
    go_ret
    exact ⟨rfl, by unfold Fr; go_grown⟩
theorem at_int (v : Value) (x : Nat) (i : Int) (w : World) (h : IsNat w v x) (h0 : 0 ≤ i) (hi : i ≤ 9223372036854775807) :
    Calls Tryd.prog 33 #[v, .int .i64 i] w fun e w' => e = .returned (.int .u64 (dg 4294967296 x i.toNat : Int)) ∧ Fr w w' := by
  have := at_any v x i.toNat w h (by unfold maxLen; omega)
  rwa [Int.toNat_of_nonneg h0] at this
end Go.Proofs.YtimglhbllcjpbaaDoor
