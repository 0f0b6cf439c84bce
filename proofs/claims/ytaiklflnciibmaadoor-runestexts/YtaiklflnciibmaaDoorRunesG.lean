/- The law RunesTexts as its row asks it. -/
import Derived.Test.YtaiklflnciibmaaDoorRunesF
import Derived.Test.YtaiklflnciibmaaDoorRunesL
namespace Go.Proofs.YtaiklflnciibmaaDoor
open Go.RowKit
theorem i64_bd {x : Int} (h : (Lit.int .i64 x).wf = true) : -9223372036854775808 ≤ x ∧ x ≤ 9223372036854775807 := by
  simp [Lit.wf, IntKind.min, IntKind.max, IntKind.signed, IntKind.bits] at h
  omega
theorem law_RunesTexts (n : Int) (w : World) (h : (Lit.int .i64 n).wf = true) (hL : Lead w) : Calls Tryd.prog 3 #[.int .i64 n] w fun e w' => e = .returned (.bool true) ∧ Fr w w' :=
  law_texts n w hL (i64_bd h).1 (i64_bd h).2
end Go.Proofs.YtaiklflnciibmaaDoor
