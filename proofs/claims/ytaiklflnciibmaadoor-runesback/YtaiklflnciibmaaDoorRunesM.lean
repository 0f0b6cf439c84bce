/- The law RunesBack as its row asks it. -/
import Derived.Test.YtaiklflnciibmaaDoorRunesK
namespace Go.Proofs.YtaiklflnciibmaaDoor
set_option linter.unusedVariables false
open Go.RowKit
theorem u8_bd {x : Int} (h : (Lit.int .u8 x).wf = true) : 0 ≤ x ∧ x ≤ 255 := by
  simp [Lit.wf, IntKind.min, IntKind.max, IntKind.signed, IntKind.bits] at h
  omega
theorem law_RunesBack (a : Option Addr) (len cap : Nat) (zs : List Int) (x : Int) (w : World) (h0 : IsRow .i64 w a len cap zs) (h1 : (Lit.int .u8 x).wf = true) (hL : Lead w) : Calls Tryd.prog 5 #[.slice a len cap, .int .u8 x] w fun e w' => e = .returned (.bool true) ∧ Fr w w' := by
  obtain ⟨g0, g1⟩ := u8_bd h1
  rcases h0 with ⟨rfl, rfl, rfl, rfl⟩ | ⟨y, rfl, hl, hm, hz, hcell, hwz⟩
  · exact back_nil none 0 x w hL g0 g1
  · by_cases hlen : len = 0
    · subst hlen
      exact back_nil (some y) cap x w hL g0 g1
    · obtain ⟨b, off, spot⟩ := y
      have hc := hcell 0 (by omega)
      have hspot : spot = none := by simpa [Addr.add] using World.cell?_spot hc
      subst hspot
      have hcs : ∀ i, i < cap → w.cell? ⟨b, off + i, none⟩ = some (.int .i64 (zs.getD i 0)) := fun i hi => by
        have := hcell i (by omega)
        have e : (⟨b, off, none⟩ : Addr).add i = ⟨b, off + i, none⟩ := by unfold Addr.add; split <;> simp_all
        rwa [e] at this
      have hb : b < w.heap.size := cell_lt (hcs 0 (by omega))
      by_cases h60 : len ≤ 60
      · exact back_le b off len cap zs hl hm h60 x w hL hb hcs g0 g1
      · exact back_gt b off len cap zs hl hm (by omega) x w hL hb hcs g0 g1
end Go.Proofs.YtaiklflnciibmaaDoor
