/- The document's low, begins, has. -/
import Derived.Test.YtaokmegoheofjaaDoorTokU
import Derived.Lib.SliceRun
namespace Go.Proofs.YtaokmegoheofjaaDoor
set_option linter.unusedVariables false
set_option linter.unusedSimpArgs false
open Go.RowKit

set_option maxHeartbeats 1000000 in
set_option maxRecDepth 4000 in
theorem refHas_any (s : ByteArray) (c : Int) (w : World) (hs : s.size ≤ 1000) (c0 : 0 ≤ c) (c1 : c ≤ 255) :
    Calls Tryd.prog 39 #[.string s, .int .u8 c] w fun e w' => e = .returned (.bool (decide (c ∈ ints s))) ∧ Fr w w' := by
  have HZ := hide (ints_length s)
  go_enter Tryd.func39, Tryd.ntmps39
  go_wp2
  go_loopw [5] (fun i wr => ∃ k : Nat, k ≤ s.size ∧ i = .int .i64 k ∧ Hid (c ∉ (ints s).take k) ∧ Fr w wr) (fun i _ => s.size - (intOf i).toNat)
  case atStart => exact ⟨0, by omega, rfl, by simp [Hid], Fr.refl _⟩
  case round =>
    obtain ⟨k, hk, rfl, HI, hF⟩ := hrel
    by_cases hlt : k < s.size
    · have qs := bt_at s k hlt
      have rs := bt_range s k hlt
      have HT := hide (take_bt s k hlt)
      have HG := hide (bt_get s k hlt)
      generalize bt s k = x at *
      by_cases he : x = c
      · subst he
        have hyes : Hid (decide (x ∈ ints s) = true) := hide (decide_eq_true (List.mem_of_getElem? HG.out))
        go_wp2_with fail
        go_ret
        exact ⟨by rw [hyes.out]; rfl, hF⟩
      · have heb : (x == c) = false := by simpa using he
        go_wp2_with fail
        go_roundw
        case rel =>
          refine ⟨k + 1, by omega, by go_num, hide ?_, hF⟩
          rw [HT.out, List.mem_append]
          have := HI.out
          simp only [List.mem_singleton]
          rintro (h | h)
          · exact this h
          · exact he h.symm
        case measure => simp [intOf]; omega
    · have hno : Hid (decide (c ∈ ints s) = false) := by
        refine hide (decide_eq_false ?_)
        have := HI.out
        rwa [show k = (ints s).length by rw [HZ.out]; omega, List.take_length] at this
      go_wp2_with fail
      go_ret
      exact ⟨by rw [hno.out]; rfl, hF⟩
end Go.Proofs.YtaokmegoheofjaaDoor
