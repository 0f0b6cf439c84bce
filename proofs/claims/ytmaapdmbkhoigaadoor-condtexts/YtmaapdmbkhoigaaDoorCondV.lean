/- An array of two texts, by value: opened, and shut in whatever world. -/
import Derived.Test.YtmaapdmbkhoigaaDoorCondQ
import Derived.OpenShut
import Derived.ShutString
import Derived.Lib.SmallJoins
namespace Go.Proofs.YtmaapdmbkhoigaaDoor
set_option linter.unusedVariables false
set_option linter.unusedSimpArgs false
open Go.ChangeShapes Go.WideShapes Go.ChangeAt Go.RowKit

theorem str_trod {H : Type} {enc : TypeId × Value → H} {W : World} {base : Nat} {spare : Nat → Bool} {held : Bool} (m : Nat) (a : ByteArray) (ha : a.size ≤ maxLen) :
    DataW.trod enc Tryd.prog W base spare held (m + 1) 9 [.string a] = some (.lit (.string a.data.toList), []) := by
  simp [DataW.trod, Tryd.underlying9, ha]
theorem shut_strs2 {H : Type} {enc : TypeId × Value → H} (W : World) (base : Nat) (spare : Nat → Bool) (held : Bool) (a b : ByteArray) (ha : a.size ≤ maxLen) (hb : b.size ≤ maxLen) :
    DataW.Trod enc Tryd.prog W base spare held 37 (.agg #[.string a, .string b]) (.agg [.lit (.string a.data.toList), .lit (.string b.data.toList)]) [] := by
  have hc : Tryd.prog.cellsOf 37 = 2 := by kernel_rfl
  have hc1 : Tryd.prog.cellsOf 9 = 1 := by kernel_rfl
  refine ⟨2, ?_⟩
  have ea := str_trod (enc := enc) (W := W) (base := base) (spare := spare) (held := held) 0 a ha
  have eb := str_trod (enc := enc) (W := W) (base := base) (spare := spare) (held := held) 0 b hb
  have hr : List.range 2 = [0, 1] := by decide
  unfold DataW.trod
  simp only [Tryd.underlying37, Value.cells]
  simp [hc, hc1, hr, ea, eb]
set_option maxRecDepth 100000 in
theorem open_strs2 {H : Type} {enc : TypeId × Value → H} {W : World} {base b0 : Nat} {r : Reach} {spare : Nat → Bool} {held : Bool} {v : Value} {d : DataW H} {p : List MemPlace} (hv : Value.okWide Tryd.prog W r b0 37 v) (h : DataW.Trod enc Tryd.prog W base spare held 37 v d p) :
    ∃ a b : ByteArray, v = .agg #[.string a, .string b] ∧ a.size ≤ maxLen ∧ b.size ≤ maxLen ∧ d = .agg [.lit (.string a.data.toList), .lit (.string b.data.toList)] ∧ p = [] := by
  have hc : Tryd.prog.cellsOf 37 = 2 := by kernel_rfl
  have hc1 : Tryd.prog.cellsOf 9 = 1 := by kernel_rfl
  obtain ⟨cs, rfl, hsz⟩ : ∃ cs : Array Value, v = .agg cs ∧ cs.size = 2 := by
    simp only [Value.okWide, Tryd.underlying37] at hv
    obtain ⟨cs, h1, h2, _⟩ := hv
    exact ⟨cs, h1, by rw [h2, hc]⟩
  obtain ⟨c0, c1, rfl⟩ := Go.Joins.array2 hsz
  obtain ⟨fuel, hf⟩ := h
  obtain ⟨xs, m, rfl, hx, _, hl, hg⟩ := DataW.trod_array Tryd.underlying37 hf
  have g0 := hg 0 (by omega)
  have g1 := hg 1 (by omega)
  match xs, hl with
  | [y0, y1], _ =>
    simp [hc1, Value.cells] at g0 g1
    obtain ⟨a, e0, rfl, wa⟩ := DataW.trod_string Tryd.underlying9 g0
    obtain ⟨b, e1, rfl, wb⟩ := DataW.trod_string Tryd.underlying9 g1
    simp at e0 e1
    subst e0 e1
    simp at hx
    exact ⟨a, b, rfl, wa, wb, hx.1, hx.2⟩
end Go.Proofs.YtmaapdmbkhoigaaDoor
