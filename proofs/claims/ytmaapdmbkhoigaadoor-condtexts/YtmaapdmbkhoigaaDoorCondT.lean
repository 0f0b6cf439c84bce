/- From the listed tables' data to what layer 13 reads; from the world's shape to the library's variable; the wrap that hands on both. -/
import Derived.Test.YtmaapdmbkhoigaaDoorCondM
import Derived.ProofKit
import Derived.LaidMore
import Derived.Stop.Joined
import Derived.Lib.LaidTab
import Derived.Lib.LaidU8
import Derived.HandedShaped
import Derived.Shelf.Vars
namespace Go.Proofs.YtmaapdmbkhoigaaDoor
set_option linter.unusedVariables false
open Go.RowKit Go.Lib

theorem signs_of_reads {W : World} (h : VarReads Tryd.prog W "numerary/cond.signs" Rows.laid_numerary_cond_signs) (j : Nat) (hj : j < 6) : W.cell? ⟨0, j, none⟩ = some (.string (bs (sg j))) := by
  obtain ⟨g, t, cs, fuel, p, hg, hty, hvar, hd⟩ := h
  obtain rfl := Option.some.inj ((show Tryd.prog.globalNamed "numerary/cond.signs" = some 0 by kernel_rfl).symm.trans hg)
  obtain rfl := Option.some.inj ((show (Tryd.prog.globals[0]?).map (·.type) = some 59 by kernel_rfl).symm.trans hty)
  have hc1 : Tryd.prog.cellsOf 9 = 1 := by kernel_rfl
  obtain ⟨fuel', d, q, hdi, he⟩ := Lib.array_elem (ds := [.lit (.string [60]), .lit (.string [60, 61]), .lit (.string [62]), .lit (.string [62, 61]), .lit (.string [61]), .lit (.string [60, 62])]) Tryd.underlying59 hd j hj
  rw [hc1, Nat.mul_one] at he
  obtain ⟨s, hcs, hx, _⟩ := DataW.trod_string Tryd.underlying9 he
  have hd2 : d = .lit (.string s.data.toList) := congrArg Prod.fst hx
  rw [hd2] at hdi
  have hs : s.data.toList = sg j := by
    have hall : ∀ j : Fin 6, ([[60], [60, 61], [62], [62, 61], [61], [60, 62]] : List (List UInt8))[(j : Nat)]? = some (sg j) := by decide +kernel
    have h8 := hall ⟨j, hj⟩
    have hm : (([[60], [60, 61], [62], [62, 61], [61], [60, 62]] : List (List UInt8)).map fun x => (DataW.lit (.string x) : DataW Unit))[j]? = some (.lit (.string s.data.toList)) := hdi
    rw [List.getElem?_map, h8] at hm
    simp only [Option.map_some, Option.some.injEq, DataW.lit.injEq, Lit.string.injEq] at hm
    exact hm.symm
  have hk := congrArg (·[0]?) hcs
  simp only [List.getElem?_take, List.getElem?_drop] at hk
  rw [World.var?_cell hg hvar j, ← Array.getElem?_toList]
  rw [← hs, ← bs_eta s]
  simpa using hk
theorem lead_of_laid13 {W : World} (h : laidMetH Tryd.prog Rows.condParsesRow.laid W) (hm : MaxOk W) : Led13 W := by
  rw [MakeChecks.laidMetH_plain _ _ _ (by kernel_rfl)] at h
  have h' : laidMet Tryd.prog [("math/bits.deBruijn32tab", Rows.laid_math_bits_deBruijn32tab), ("unicode/utf8.acceptRanges", Rows.laid_unicode_utf8_acceptRanges), ("numerary/cond.signs", Rows.laid_numerary_cond_signs), ("unicode/utf8.first", Rows.laid_unicode_utf8_first)] W := h
  have hT := Lib.tabIs_of_head (zs := [0, 1, 28, 2, 29, 14, 24, 3, 30, 22, 20, 15, 25, 17, 4, 8, 31, 27, 13, 23, 21, 19, 16, 7, 26, 12, 18, 6, 11, 5, 10, 9]) (k := .u8) (g := 4) (t := 151) (e := 5) (n := 32) (by kernel_rfl) (by kernel_rfl) Tryd.underlying151 Tryd.underlying5 (by kernel_rfl) (by kernel_rfl) h
  have rs := laidMet.reads (n := "numerary/cond.signs") (d := Rows.laid_numerary_cond_signs) h' (.tail _ (.tail _ (.head _)))
  refine ⟨?_, ⟨signs_of_reads rs 0 (by decide), signs_of_reads rs 1 (by decide), signs_of_reads rs 2 (by decide), signs_of_reads rs 3 (by decide), signs_of_reads rs 4 (by decide), signs_of_reads rs 5 (by decide)⟩, hm⟩
  intro j hj
  rw [hT.cell (g := 4) (by kernel_rfl) j hj]
  have hall : ∀ j, j < 32 → ([0, 1, 28, 2, 29, 14, 24, 3, 30, 22, 20, 15, 25, 17, 4, 8, 31, 27, 13, 23, 21, 19, 16, 7, 26, 12, 18, 6, 11, 5, 10, 9] : List Int).getD j 0 = ((Lib.deBruijn32tab.getD j 0 : Nat) : Int) := by decide
  rw [hall j hj]

theorem maxok_of_shape {W : World} (h : W.ShapedOpen Tryd.prog) : MaxOk W :=
  cell_of_shapedOpen_int (zero := #[.int .i64 0]) (t := 3) h (of_decide_eq_true (by kernel_rfl)) (by kernel_rfl) rfl (by kernel_rfl) (by kernel_rfl) Tryd.underlying3

/-- The row's wrap over a listed table, the weights and the world's shape handed on. -/
theorem handed_shaped {H : Type} {enc : TypeId × Value → H} {a : Assume} {C : Checked} {os : Os} {f : FuncId} {fn : Func} {s : ChangeSpec} {conds : List PathCond} {apart fresh handsOn again : Bool} {X : World → Array Value → Prop}
    (hX : ∀ (w w' : World) (args : Array Value), w.heap = w'.heap → X w args → X w' args)
    (own : ownKnob C.prog.godebug = none) (started : os.Started) (noInit : C.prog.inits.idxOf? f = none) (hfn : C.prog.funcs[f]? = some fn)
    (witness : ∃ (w : World) (tape : Tape) (i : Input), w.os = os ∧ (w.forCall tape i).Shaped C.prog ∧ i.vars = [] ∧ Input.okWide C.prog (w.forCall tape i) .any w.heap.size f i ∧
      ((s.pre enc C.prog fn conds apart (w.forCall tape i).memory i.args ∧ X (w.forCall tape i).memory i.args) ∧ sizedMet enc C.prog fn (OpenSpec.ofChange s) apart (w.forCall tape i).memory i.args) ∧ a.holds C.prog (lone (Frame.enter C.prog f i.args .normal) [] (w.forCall tape i)))
    (contract : ∀ (W : World) (base : Nat) (args : Array Value) (ds gs : List (DataW H)) (before : List MemPlace),
      (∀ (j : Nat) t v, fn.params[j]? = some t → args[j]? = some v → Value.okWide C.prog W .any base t v) →
      DataW.Whole enc C.prog fn.params.toList s.vars apart W args.toList ds gs before →
      (DataW.weightsEach C.prog (fn.params.toList ++ s.plain.varTypes C.prog) (ds ++ gs)).all (· ≤ reachBytes) = true → X W args → W.ShapedOpen C.prog →
      Calls C.prog f args W fun e W' => ∃ v, e = .returned v ∧ s.post enc C.prog fn apart fresh handsOn again W args v W') :
    ReturnsInHanded a C os f .any (fun w args => (s.pre enc C.prog fn conds apart w args ∧ X w args) ∧ sizedMet enc C.prog fn (OpenSpec.ofChange s) apart w args) (s.post enc C.prog fn apart fresh handsOn again) := by
  refine returnsInHanded_of_calls own started noInit witness ?_
  intro w tape i _ hsh _ hok hpre _
  obtain ⟨_, _, _, fn', hfn', _, _, _, _, hval⟩ := hok
  obtain rfl : fn' = fn := Option.some.inj (hfn'.symm.trans hfn)
  obtain ⟨⟨⟨ds, gs, before, hw, _⟩, hx⟩, hz⟩ := hpre
  refine (contract (w.forCall tape i) w.heap.size i.args ds gs before hval (DataW.Whole.of_heap (w' := w.forCall tape i) (by rfl) hw) (hz.weights hw) (hX _ _ _ (by rfl) hx) hsh).mono fun e W' ⟨v, he, hp⟩ => ?_
  subst he
  exact ChangeSpec.post_blind hp
end Go.Proofs.YtmaapdmbkhoigaaDoor
