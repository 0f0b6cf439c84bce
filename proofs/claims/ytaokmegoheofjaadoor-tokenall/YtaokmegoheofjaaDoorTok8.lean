/- The law TokenAll. -/
import Derived.Test.YtaokmegoheofjaaDoorTok7
namespace Go.Proofs.YtaokmegoheofjaaDoor
set_option linter.unusedVariables false
set_option linter.unusedSimpArgs false
open Go.RowKit

set_option maxHeartbeats 2000000 in
set_option maxRecDepth 4000 in
theorem law_TokenAll (s : ByteArray) (w : World) (hs : s.size ≤ maxLen) (hL' : Lead w ∧ MaxOk w) :
    Calls Tryd.prog 3 #[.string s] w fun e w' => e = .returned (.bool true) ∧ Fr w w' := by
  obtain ⟨hL, hE⟩ := hL'
  have HA := hide (tokAll_any s w hL hE hs)
  have HB := hide (fun w => refAll11_any s w hs)
  have HW := hide (fun w hL hE => wakes_any w hL hE)
  have hlen : (answer (ints s)).1.length ≤ 1000000 := by
    unfold answer
    split
    · simp
    · have := (tall_len (ints_range s)).1
      omega
  obtain ⟨T, n, e, h⟩ : ∃ T n e, answer (ints s) = (T, n, e) := ⟨_, _, _, rfl⟩
  rw [h] at HA HB hlen
  simp only at hlen
  unfold maxLen at hs
  clear h
  go_enter Tryd.func3, Tryd.ntmps3
  go_wp2_with fail
  refine HA.out.mono ?_
  rintro r w1 ⟨f1, v1, rfl, o1⟩
  obtain ⟨a1, c1, rfl⟩ := own_form o1
  go_wp2_with fail
  refine (HB.out w1).mono ?_
  rintro r w2 ⟨f2, v2, rfl, o2⟩
  obtain ⟨a2, c2, rfl⟩ := own_form o2
  have o1b := own_fr o1 f2
  go_wp2_with fail
  refine (HW.out w2 (hL.fr (f1.trans f2)) (hE.fr (f1.trans f2))).mono ?_
  rintro r w3 ⟨rfl, f3⟩
  have HS := hide (same_any T a1 a2 c1 c2 _ _ w3 hlen (own_fr o1b f3) (own_fr o2 f3))
  clear o1 o1b o2
  go_wp2_with fail
  refine HS.out.mono ?_
  rintro r w4 ⟨rfl, f4⟩
  go_wp2_with fail
  go_ret
  exact ⟨rfl, f1.trans (f2.trans (f3.trans f4))⟩
end Go.Proofs.YtaokmegoheofjaaDoor
