/- From TokenBack's listed variables to the cells that its walk reads. -/
import Derived.Test.YtaokmegoheofjaaDoorTokBf
import Derived.Lib.LaidU8
import Derived.PinnedBridge
namespace Go.Proofs.YtaokmegoheofjaaDoor
set_option linter.unusedVariables false
open Go.RowKit

theorem lead_of_laidB {W : World} (h : laidMetH Tryd.prog Rows.tokenBackRow.laid W) : Lead W ∧ U8 W := by
  rw [MakeChecks.laidMetH_plain _ _ _ (by kernel_rfl)] at h
  have hT := Lib.tabIs_of_head (zs := [0, 0, 192, 224, 240]) (k := .i64) (g := 3) (t := 95) (e := 3) (n := 5) (by kernel_rfl) (by kernel_rfl) Tryd.underlying95 Tryd.underlying3 (by kernel_rfl) (by kernel_rfl) h
  have hc := fun i hi => hT.cell (g := 3) (by kernel_rfl) i hi
  refine ⟨⟨hc 0 (by decide), hc 1 (by decide), hc 2 (by decide), hc 3 (by decide), hc 4 (by decide)⟩, ?_⟩
  have h' : laidMet Tryd.prog [("numerary/runes.lead", Rows.laid_numerary_runes_lead), ("unicode/utf8.acceptRanges", Rows.laid_unicode_utf8_acceptRanges), ("unicode.asciiFold", Rows.laid_unicode_asciiFold), ("unicode.caseOrbit", Rows.laid_unicode_caseOrbit), ("unicode.CaseRanges", Rows.laid_unicode_CaseRanges), ("unicode/utf8.first", Rows.laid_unicode_utf8_first)] W := h
  have h1 := Lib.laidMet.reads (n := "unicode/utf8.acceptRanges") (d := Rows.laid_unicode_utf8_acceptRanges) h' (List.Mem.tail _ (List.Mem.head _))
  have h2 := Lib.laidMet.reads (n := "unicode/utf8.first") (d := Rows.laid_unicode_utf8_first) h' (List.Mem.tail _ (List.Mem.tail _ (List.Mem.tail _ (List.Mem.tail _ (List.Mem.tail _ (List.Mem.head _))))))
  rw [show Rows.laid_unicode_utf8_first = Lib.firstData from Pinned.utf8First_eq] at h2
  rw [show (Rows.laid_unicode_utf8_acceptRanges : DataW Unit) = Lib.acceptData by kernel_rfl] at h1
  exact utf8Tabs_of_reads (ρ := Tryd.lays197_ren) { Tryd.lays197 with } ⟨by kernel_rfl, by kernel_rfl, by kernel_rfl, by kernel_rfl, by kernel_rfl, by kernel_rfl, by kernel_rfl⟩ h2 h1
end Go.Proofs.YtaokmegoheofjaaDoor
