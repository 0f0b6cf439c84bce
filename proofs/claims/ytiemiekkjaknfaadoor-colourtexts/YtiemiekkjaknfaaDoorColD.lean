/- The document's low of layer 12. -/
import Derived.Test.YtiemiekkjaknfaaDoorTokJ
import Derived.Test.YtiemiekkjaknfaaDoorColP
namespace Go.Proofs.YtiemiekkjaknfaaDoor
set_option linter.unusedVariables false
set_option linter.unusedSimpArgs false
open Go.RowKit

set_option maxHeartbeats 1000000 in
set_option maxRecDepth 4000 in
theorem low12_any (s : ByteArray) (w : World) (hs : s.size ≤ 10000) :
    Calls Tryd.prog 20 #[.string s] w fun e w' => e = .returned (.string (strOfNums (low (ints s)))) ∧ Fr w w' := by
  obtain ⟨cap, W, hconv, fW, hB⟩ := conv_bs w s
  have HB := hide hB
  have FW := hide fW
  have HI := hide (ints_bt s)
  clear hB fW
  go_enter Tryd.func20, Tryd.ntmps20
  go_wp2_with fail
  generalize hg : w.heap.size = B at *
  have HG := hide hg
  clear hg
  go_loopw [4] (fun i wr => ∃ k : Nat, k ≤ s.size ∧ i = .int .i64 k ∧ Hid (Bs wr B s.size (lowF s k)) ∧ Hid (Fr w wr)) (fun i _ => s.size - (intOf i).toNat)
  case atStart => exact ⟨0, by omega, rfl, by unfold lowF; simpa using HB, FW⟩
  case round =>
    obtain ⟨k, hk, rfl, HR, HF⟩ := hrel
    by_cases hlt : k < s.size
    · obtain ⟨hc, hf⟩ := HR.out.2 k hlt
      have rs := bt_range s k hlt
      have HN : Hid (∀ j, j < s.size → (if j = k then lowB (bt s k) else lowF s k j) = lowF s (k + 1) j) := by
        refine hide fun j hj => ?_
        unfold lowF
        by_cases h1 : j = k
        · subst h1; simp
        · rw [if_neg h1]
          by_cases h2 : j < k
          · rw [if_pos h2, if_pos (by omega)]
          · rw [if_neg h2, if_neg (by omega)]
      have hbk : lowF s k k = bt s k := by unfold lowF; rw [if_neg (Nat.lt_irrefl _)]
      rw [hbk] at hc
      have hlo : B < wr.heap.size := HR.out.1
      by_cases hg : 65 ≤ bt s k ∧ bt s k ≤ 90
      · have hlow : lowB (bt s k) = bt s k + 32 := by unfold lowB; rw [if_pos hg]
        rw [hlow] at HN
        have HST := hide (HR.out.set k hlt (bt s k + 32))
        generalize bt s k = x at *
        have h65 : 65 ≤ x := hg.1
        have h90 : x ≤ 90 := hg.2
        go_wp2_with fail
        go_roundw
        case rel =>
          refine ⟨k + 1, by omega, by go_num, hide ⟨HST.out.1, fun j hj => ?_⟩, hide ?_⟩
          · rw [← HN.out j hj]; exact HST.out.2 j hj
          · exact Below.setCell HF.out (by rw [HG.out]; exact Nat.le_refl _) _
        case measure => simp [intOf]; omega
      · have hlow : lowB (bt s k) = bt s k := by unfold lowB; rw [if_neg hg]
        rw [hlow] at HN
        have HN2 : Hid (∀ j, j < s.size → lowF s k j = lowF s (k + 1) j) := by
          refine hide fun j hj => ?_
          rw [← HN.out j hj]
          by_cases h1 : j = k
          · subst h1; rw [if_pos rfl, hbk]
          · rw [if_neg h1]
        generalize bt s k = x at *
        by_cases h65 : 65 ≤ x
        · have h90 : ¬ x ≤ 90 := fun h => hg ⟨h65, h⟩
          go_wp2_with fail
          go_roundw
          case rel => exact ⟨k + 1, by omega, by go_num, hide ⟨HR.out.1, fun j hj => by rw [← HN2.out j hj]; exact HR.out.2 j hj⟩, HF⟩
          case measure => simp [intOf]; omega
        · go_wp2_with fail
          go_roundw
          case rel => exact ⟨k + 1, by omega, by go_num, hide ⟨HR.out.1, fun j hj => by rw [← HN2.out j hj]; exact HR.out.2 j hj⟩, HF⟩
          case measure => simp [intOf]; omega
    · have hke : k = s.size := by omega
      subst hke
      have hback : (convert 41 9 (.slice (some ⟨B, 0, none⟩) s.size cap)).run Tryd.prog wr = .ok (.string (strOfNums (low (ints s)))) wr := by
        refine run_convert_bytes_arg _ 41 5 Tryd.underlying41 Tryd.underlying5 B 0 s.size cap (low (ints s)) (by unfold low; rw [List.length_map, ints_length]) (fun i hi => ?_) 9 Tryd.underlying9
        have hi' : i < s.size := hi
        have h2 := (HR.out.2 i hi').1
        unfold lowF at h2
        rw [if_pos hi'] at h2
        rw [Nat.zero_add, h2]
        congr 2
        unfold low
        rw [List.getD_eq_getElem?_getD, List.getElem?_map, bt_get s i hi']
        rfl
      go_wp2_with fail
      go_ret
      exact ⟨rfl, HF.out⟩

end Go.Proofs.YtiemiekkjaknfaaDoor
