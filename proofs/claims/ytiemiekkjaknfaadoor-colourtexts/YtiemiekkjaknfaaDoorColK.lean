/- From the rows' listed variables to what layer 12 reads (one list serves for all four rows). -/
import Derived.Test.YtiemiekkjaknfaaDoorColJ
import Derived.Test.YtiemiekkjaknfaaDoorColN
import Derived.Stop.LaidErr
namespace Go.Proofs.YtiemiekkjaknfaaDoor
set_option linter.unusedVariables false
set_option linter.unusedSimpArgs false
open Go.RowKit Go.Lib

theorem named_of_reads {W : World} (h : VarReads Tryd.prog W "numerary/colour.named" Rows.laid_numerary_colour_named) (j : Nat) (hj : j < 8) : W.cell? ⟨0, j, none⟩ = some (.string (strOfNums (nameL (j + 1)))) := by
  obtain ⟨g, t, cs, fuel, p, hg, hty, hvar, hd⟩ := h
  obtain rfl := Option.some.inj ((show Tryd.prog.globalNamed "numerary/colour.named" = some 0 by kernel_rfl).symm.trans hg)
  obtain rfl := Option.some.inj ((show (Tryd.prog.globals[0]?).map (·.type) = some 40 by kernel_rfl).symm.trans hty)
  have hc1 : Tryd.prog.cellsOf 9 = 1 := by kernel_rfl
  obtain ⟨fuel', d, q, hdi, he⟩ := array_elem (ds := [.lit (.string [66, 108, 97, 99, 107]), .lit (.string [66, 108, 117, 101]), .lit (.string [67, 121, 97, 110]), .lit (.string [71, 114, 101, 101, 110]), .lit (.string [77, 97, 103, 101, 110, 116, 97]), .lit (.string [82, 101, 100]), .lit (.string [87, 104, 105, 116, 101]), .lit (.string [89, 101, 108, 108, 111, 119])]) Tryd.underlying40 hd j hj
  rw [hc1, Nat.mul_one] at he
  obtain ⟨s, hcs, hx, _⟩ := DataW.trod_string Tryd.underlying9 he
  have hd2 : d = .lit (.string s.data.toList) := congrArg Prod.fst hx
  rw [hd2] at hdi
  have hs : s.data.toList = (strOfNums (nameL (j + 1))).data.toList := by
    have hall : ∀ j : Fin 8, ([[66, 108, 97, 99, 107], [66, 108, 117, 101], [67, 121, 97, 110], [71, 114, 101, 101, 110], [77, 97, 103, 101, 110, 116, 97], [82, 101, 100], [87, 104, 105, 116, 101], [89, 101, 108, 108, 111, 119]] : List (List UInt8))[(j : Nat)]? = some ((strOfNums (nameL (j + 1))).data.toList) := by decide +kernel
    have h8 := hall ⟨j, hj⟩
    have hm : (([[66, 108, 97, 99, 107], [66, 108, 117, 101], [67, 121, 97, 110], [71, 114, 101, 101, 110], [77, 97, 103, 101, 110, 116, 97], [82, 101, 100], [87, 104, 105, 116, 101], [89, 101, 108, 108, 111, 119]] : List (List UInt8)).map fun x => (DataW.lit (.string x) : DataW Unit))[j]? = some (.lit (.string s.data.toList)) := hdi
    rw [List.getElem?_map, h8] at hm
    simp only [Option.map_some, Option.some.injEq, DataW.lit.injEq, Lit.string.injEq] at hm
    exact hm.symm
  have hs2 : s = strOfNums (nameL (j + 1)) := by
    have : s.data = (strOfNums (nameL (j + 1))).data := Array.ext' hs
    cases s
    cases h : strOfNums (nameL (j + 1))
    rw [h] at this
    simp at this
    rw [this]
  have hk := congrArg (·[0]?) hcs
  simp only [List.getElem?_take, List.getElem?_drop] at hk
  rw [World.var?_cell hg hvar j, ← Array.getElem?_toList]
  rw [← hs2]
  simpa using hk

def d64L : List Int := [0, 1, 56, 2, 57, 49, 28, 3, 61, 58, 42, 50, 38, 29, 17, 4, 62, 47, 59, 36, 45, 43, 51, 22, 53, 39, 33, 30, 24, 18, 12, 5, 63, 55, 48, 27, 60, 41, 37, 16, 46, 35, 44, 21, 52, 32, 23, 11, 54, 26, 40, 15, 34, 20, 31, 10, 25, 14, 19, 9, 13, 8, 7, 6]
theorem d64_of_reads {W : World} (h : VarReads Tryd.prog W "math/bits.deBruijn64tab" Rows.laid_math_bits_deBruijn64tab) : W.cell? ⟨11, 15, none⟩ = some (.int .u8 4) := by
  obtain ⟨g, t, cs, fuel, p, hg, hty, hvar, hd⟩ := h
  obtain rfl := Option.some.inj ((show Tryd.prog.globalNamed "math/bits.deBruijn64tab" = some 11 by kernel_rfl).symm.trans hg)
  obtain rfl := Option.some.inj ((show (Tryd.prog.globals[11]?).map (·.type) = some 136 by kernel_rfl).symm.trans hty)
  have hcs := cells_of_tab (zs := d64L) (k := .u8) Tryd.underlying136 Tryd.underlying5 (by kernel_rfl) (by kernel_rfl) (by
    rw [show (tabData .u8 d64L : DataW Unit) = Rows.laid_math_bits_deBruijn64tab by kernel_rfl]
    exact hd)
  rw [World.var?_cell hg hvar 15, ← Array.getElem?_toList, hcs]
  rfl

theorem star12 : "*" ++ "errors.errorString" = "*errors.errorString" := by decide
theorem errName (u : TypeId) (h : Tryd.prog.typeName? 3 u = some "*errors.errorString") : u = 132 :=
  typeName_ptr_named (nm := "errors.errorString") (by rw [star12]; kernel_rfl) (by kernel_rfl) (by decide) u (by rw [star12]; exact h)

theorem lead_of_laid12 {W : World} (h : laidMetH Tryd.prog Rows.colourNamesRow.laid W) (hm : MaxOk W) : Led12 W := by
  rw [MakeChecks.laidMetH_plain _ _ _ (by kernel_rfl)] at h
  have h' : laidMet Tryd.prog [("math/bits.deBruijn32tab", Rows.laid_math_bits_deBruijn32tab), ("math/bits.deBruijn64tab", Rows.laid_math_bits_deBruijn64tab), ("internal/strconv.uint64pow10", Rows.laid_internal_strconv_uint64pow10), ("unicode/utf8.acceptRanges", Rows.laid_unicode_utf8_acceptRanges), ("strconv.ErrRange", Rows.laid_strconv_ErrRange), ("strconv.ErrSyntax", Rows.laid_strconv_ErrSyntax), ("unicode.asciiFold", Rows.laid_unicode_asciiFold), ("unicode.caseOrbit", Rows.laid_unicode_caseOrbit), ("numerary/colour.named", Rows.laid_numerary_colour_named), ("unicode.CaseRanges", Rows.laid_unicode_CaseRanges), ("unicode/utf8.first", Rows.laid_unicode_utf8_first)] W := h
  have r64 := laidMet.reads (n := "math/bits.deBruijn64tab") (d := Rows.laid_math_bits_deBruijn64tab) h' (.tail _ (.head _))
  have racc := laidMet.reads (n := "unicode/utf8.acceptRanges") (d := Rows.laid_unicode_utf8_acceptRanges) h' (.tail _ (.tail _ (.tail _ (.head _))))
  have raf := laidMet.reads (n := "unicode.asciiFold") (d := Rows.laid_unicode_asciiFold) h' (.tail _ (.tail _ (.tail _ (.tail _ (.tail _ (.tail _ (.head _)))))))
  have rco := laidMet.reads (n := "unicode.caseOrbit") (d := Rows.laid_unicode_caseOrbit) h' (.tail _ (.tail _ (.tail _ (.tail _ (.tail _ (.tail _ (.tail _ (.head _))))))))
  have rna := laidMet.reads (n := "numerary/colour.named") (d := Rows.laid_numerary_colour_named) h' (.tail _ (.tail _ (.tail _ (.tail _ (.tail _ (.tail _ (.tail _ (.tail _ (.head _)))))))))
  have rfi := laidMet.reads (n := "unicode/utf8.first") (d := Rows.laid_unicode_utf8_first) h' (.tail _ (.tail _ (.tail _ (.tail _ (.tail _ (.tail _ (.tail _ (.tail _ (.tail _ (.tail _ (.head _)))))))))))
  have hs := (((((h'.tail).tail).tail).tail).tail)
  obtain ⟨a, s, hv, _, _, _⟩ := laid_sentinel (g := 8) hs (by kernel_rfl) (by kernel_rfl) Tryd.underlying47 errName Tryd.underlying132 Tryd.underlying134 rfl rfl Tryd.underlying9 (by kernel_rfl) (by kernel_rfl)
  rw [show Rows.laid_unicode_utf8_first = firstData from Pinned.utf8First_eq] at rfi
  rw [show (Rows.laid_unicode_utf8_acceptRanges : DataW Unit) = acceptData by kernel_rfl] at racc
  refine ⟨utf8Tabs_of_reads (ρ := Tryd.lays197_ren) { Tryd.lays197 with } ⟨by kernel_rfl, by kernel_rfl, by kernel_rfl, by kernel_rfl, by kernel_rfl, by kernel_rfl, by kernel_rfl⟩ rfi racc, fold_of_reads raf rco, fun j hj => named_of_reads rna j hj, hm, ?_, d64_of_reads r64⟩
  refine ⟨.iface 132 (.pointer (some a)), ?_, Or.inr ⟨_, _, rfl⟩⟩
  have h0 := World.var?_cell (show Tryd.prog.globalNamed "strconv.ErrSyntax" = some 8 by kernel_rfl) hv 0
  simpa using h0
end Go.Proofs.YtiemiekkjaknfaaDoor
