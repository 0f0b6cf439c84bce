/- The walks of runes.scan, runes.Right and runes.All. -/
import Derived.Test.YtaokmegoheofjaaDoorRunesC
import Derived.Lib.Strings
namespace Go.Proofs.YtaokmegoheofjaaDoor
set_option linter.unusedVariables false
set_option linter.unusedSimpArgs false
open Go.RowKit


theorem ints_extract (s : ByteArray) (a b : Nat) : ints (s.extract a b) = ((ints s).drop a).take (b - a) := by
  simp only [ints, Go.Lib.extract_data, List.map_take, List.map_drop]
theorem ints_from (s : ByteArray) (k : Nat) : ints (s.extract k s.size) = (ints s).drop k := by
  rw [ints_extract]
  exact List.take_of_length_le (by rw [List.length_drop, ints_length]; omega)
theorem size_from (s : ByteArray) (k : Nat) (h : s.size ≤ maxLen) : (s.extract k s.size).size ≤ maxLen := by
  have := ints_length (s.extract k s.size)
  rw [ints_from, List.length_drop, ints_length] at this
  omega
theorem drop_range (s : ByteArray) (k : Nat) : ∀ x ∈ (ints s).drop k, 0 ≤ x ∧ x ≤ 255 := fun x hx => ints_range s x (List.mem_of_mem_drop hx)

/-- One sign more: what the rest of a text tells. -/
theorem rest_step (l : List Int) (hl : ∀ x ∈ l, 0 ≤ x ∧ x ≤ 255) (k : Nat) (m : Int) (t : List Int) (hm : rsize m ≠ 0) (h : l.drop k = nums m ++ t) :
    l.drop (k + (nums m).length) = t ∧ (rall (l.drop k)).1 = m :: (rall t).1 ∧ (rall (l.drop k)).2 = (nums m).length + (rall t).2 ∧ k + (nums m).length ≤ l.length := by
  have ht : ∀ x ∈ t, 0 ≤ x ∧ x ≤ 255 := fun x hx => hl x (List.mem_of_mem_drop (i := k) (by rw [h]; simp [hx]))
  have e := rall_nums m hm t ht
  have hlen := congrArg List.length h
  rw [List.length_drop, List.length_append] at hlen
  have hp := nums_pos m
  refine ⟨?_, by rw [h, e], by rw [h, e], by omega⟩
  rw [← List.drop_drop, h, List.drop_left]

set_option maxHeartbeats 400000 in
set_option maxRecDepth 4000 in
theorem scan_any (s : ByteArray) (w : World) (hL : Lead w) (hs : s.size ≤ maxLen) :
    Calls Tryd.prog 59 #[.string s] w fun e w' => e = .returned (.tuple #[.int .i64 (rall (ints s)).1.length, .int .i64 (rall (ints s)).2]) ∧ Fr w w' := by
  have hs' := hs
  unfold maxLen at hs'
  have hsz := ints_length s
  go_enter Tryd.func59, Tryd.ntmps59
  go_wp2
  go_loopw [4, 5] (fun c i wr => ∃ n k : Nat, k ≤ s.size ∧ n ≤ k ∧ c = .int .i64 n ∧ i = .int .i64 k ∧ n + (rall ((ints s).drop k)).1.length = (rall (ints s)).1.length ∧ k + (rall ((ints s).drop k)).2 = (rall (ints s)).2 ∧ Fr w wr) (fun _ i _ => s.size - (intOf i).toNat)
  case atStart => exact ⟨0, 0, by omega, by omega, rfl, rfl, by simp, by simp, Fr.refl _⟩
  case round =>
    obtain ⟨n, k, hk, hnk, rfl, rfl, e1, e2, hF⟩ := hrel
    have E1 : Hid (n + (rall ((ints s).drop k)).1.length = (rall (ints s)).1.length) := e1
    have E2 : Hid (k + (rall ((ints s).drop k)).2 = (rall (ints s)).2) := e2
    have HZ : Hid ((ints s).length = s.size) := hsz
    clear e1 e2 hsz
    by_cases hlt : k < s.size
    · have hLr := hL.fr hF
      rcases rfirst_cases ((ints s).drop k) (drop_range s k) with hf | ⟨m, t, hm, ht, hf⟩
      · have HFf : Hid (rfirst ((ints s).drop k) = (0, 0, false)) := hf
        clear hf
        go_wp2_with fail
        refine (first_any (s.extract k s.size) wr hLr (size_from s k hs)).mono ?_
        rintro e w1 ⟨rfl, hF1⟩
        rw [ints_from, HFf.out]
        go_wp2
        go_ret2
        have hz := rall_no _ HFf.out
        have h1 := E1.out
        have h2 := E2.out
        rw [hz] at h1 h2
        refine ⟨?_, hF.trans hF1⟩
        rw [← h1, ← h2]
        rfl
      · have HFf : Hid (rfirst ((ints s).drop k) = (m, rsize m, true)) := hf
        have HT : Hid ((ints s).drop k = nums m ++ t) := ht
        have hlen := nums_length m hm
        have hst := rest_step (ints s) (ints_range s) k m t hm ht
        have hp := nums_pos m
        rw [HZ.out] at hst
        have HST : Hid _ := hst
        have hb := hst.2.2.2
        have HLE : Hid _ := hlen
        have hc := rsize_cases m
        have hr1 : 1 ≤ rsize m := by omega
        have hr2 : rsize m ≤ 4 := by omega
        clear hf ht hst hc hlen
        go_wp2_with fail
        refine (first_any (s.extract k s.size) wr hLr (size_from s k hs)).mono ?_
        rintro e w1 ⟨rfl, hF1⟩
        rw [ints_from, HFf.out, ← HLE.out]
        go_wp2
        go_roundw
        case rel =>
          have h1 := E1.out
          have h2 := E2.out
          obtain ⟨t1, t2, t3, t4⟩ := HST.out
          refine ⟨n + 1, k + (nums m).length, by omega, by omega, by go_num, by go_num, ?_, ?_, hF.trans hF1⟩
          · rw [t1, ← h1, t2]; simp; omega
          · rw [t1, ← h2, t3]; omega
        case measure => simp [intOf]; omega
    · go_wp2
      go_ret2
      have h1 := E1.out
      have h2 := E2.out
      have e0 : (ints s).drop k = [] := List.drop_eq_nil_of_le (by rw [HZ.out]; omega)
      rw [e0, rall_nil] at h1 h2
      refine ⟨?_, hF⟩
      rw [← h1, ← h2]
      rfl

theorem beq_cast (a b : Nat) : ((a : Int) == (b : Int)) = decide (a = b) := by
  rw [Bool.eq_iff_iff]; simp; omega

/-- The row behind i rounds: the first i signs, then noughts. -/
def rowF (L : List Int) (i j : Nat) : Value := if j < i then .int .i64 (L.getD j 0) else .int .i64 0

theorem info3 : (Tryd.prog.info? 3).map (fun i => (i.zero, i.size, i.bytes)) = some (some (.int .i64 0), 1, 8) := by kernel_rfl

set_option maxHeartbeats 400000 in
set_option maxRecDepth 4000 in
theorem all_no (s : ByteArray) (w : World) (hL : Lead w) (hs : s.size ≤ maxLen) (h : (rall (ints s)).2 < s.size) :
    Calls Tryd.prog 52 #[.string s] w fun e w' => e = .returned (.tuple #[.slice none 0 0, .int .i64 (rall (ints s)).2, .bool false]) ∧ Fr w w' := by
  go_enter Tryd.func52, Tryd.ntmps52
  go_wp2_with (go_at_call 59; refine (scan_any _ _ hL hs).mono ?_; rintro e w' ⟨rfl, hF⟩)
  go_ret3
  exact ⟨rfl, hF⟩

set_option maxHeartbeats 400000 in
set_option maxRecDepth 4000 in
theorem all_yes (s : ByteArray) (w : World) (hL : Lead w) (hs : s.size ≤ 1000000000) (h : (rall (ints s)).2 = s.size) :
    Calls Tryd.prog 52 #[.string s] w fun e w' => Fr w w' ∧ ∃ B, w.heap.size ≤ B ∧ e = .returned (.tuple #[.slice (some ⟨B, 0, none⟩) (rall (ints s)).1.length (rall (ints s)).1.length, .int .i64 s.size, .bool true]) ∧ B < w'.heap.size ∧ ∀ j, j < (rall (ints s)).1.length → w'.cell? ⟨B, j, none⟩ = some (.int .i64 ((rall (ints s)).1.getD j 0)) := by
  have hle := rall_le _ (ints s) (Nat.le_refl _) (ints_range s)
  rw [ints_length] at hle
  generalize hN : (rall (ints s)).1.length = N at *
  have HN : Hid ((rall (ints s)).1.length = N) := hN
  have HE : Hid ((rall (ints s)).2 = s.size) := h
  have hmx : s.size ≤ maxLen := by unfold maxLen; omega
  have hmk := run_make_row' (P := Tryd.prog) 98 3 (.int .i64 0) 8 Tryd.underlying98 info3 rfl .i64 .i64 N (by omega) (by omega)
  clear h hN
  go_enter Tryd.func52, Tryd.ntmps52
  go_wp2_with (go_at_call 59; refine (scan_any _ _ hL hmx).mono ?_; rintro e w1 ⟨rfl, hF⟩; rw [HN.out, HE.out])
  generalize hB : w1.heap.size = B at *
  go_loopw [8, 27] (fun a c wr => ∃ i k : Nat, i ≤ N ∧ k ≤ s.size ∧ a = .int .i64 k ∧ c = .int .i64 i ∧ (rall (ints s)).1.drop i = (rall ((ints s).drop k)).1 ∧ wr.rowIs B 3 N (rowF (rall (ints s)).1 i) ∧ Fr w1 wr) (fun _ c _ => N - (intOf c).toNat)
  case atStart => exact ⟨0, 0, by omega, by omega, rfl, rfl, by simp, by
    subst hB
    exact (World.rowIs_made w1 (.int .i64 0) N 3), by unfold Fr; go_grown⟩
  case round =>
    obtain ⟨i, k, hi, hk, rfl, rfl, e1, hrow, hF1⟩ := hrel
    have E1 : Hid ((rall (ints s)).1.drop i = (rall ((ints s).drop k)).1) := e1
    clear e1
    by_cases hlt : i < N
    · have hLr := hL.fr (hF.trans hF1)
      rcases rfirst_cases ((ints s).drop k) (drop_range s k) with hf | ⟨m, t, hm, ht, hf⟩
      · exfalso
        have h1 := E1.out
        rw [rall_no _ hf] at h1
        have := congrArg List.length h1
        rw [List.length_drop, HN.out] at this
        simp at this
        omega
      · have HFf : Hid (rfirst ((ints s).drop k) = (m, rsize m, true)) := hf
        have hst := rest_step (ints s) (ints_range s) k m t hm ht
        have hlen := nums_length m hm
        have hp := nums_pos m
        rw [ints_length] at hst
        have hb := hst.2.2.2
        have HST : Hid _ := hst
        have HLE : Hid _ := hlen
        clear hf ht hst hlen
        go_wp2_with fail
        refine (first_any (s.extract k s.size) wr hLr (size_from s k hmx)).mono ?_
        rintro e w2 ⟨rfl, hF2⟩
        rw [ints_from, HFf.out, ← HLE.out]
        have hrow2 := hrow.of_block (hF2.block B hrow.lt)
        have hc2 := hrow2.cell hlt
        have hz2 := hrow2.frozen i
        simp only [rowF, Nat.lt_irrefl, if_false] at hc2
        clear hrow
        go_wp2
        go_roundw
        case rel =>
          obtain ⟨t1, t2, t3, t4⟩ := HST.out
          have h1 := E1.out
          rw [t2] at h1
          have hd : (rall (ints s)).1.drop (i + 1) = (rall t).1 := by
            rw [← List.drop_drop, h1]; rfl
          have hg : (rall (ints s)).1.getD i 0 = m := by
            have := congrArg (fun l => l.getD 0 0) h1
            simpa [List.getD_eq_getElem?_getD] using this
          refine ⟨i + 1, k + (nums m).length, by omega, by omega, by go_num, by go_num, by rw [hd, t1], ?_, ?_⟩
          · refine (hrow2.set i (.int .i64 m)).congr ?_
            intro j hj
            unfold rowF
            by_cases hji : j = i
            · subst hji; rw [if_pos rfl, if_pos (by omega), hg]
            · rw [if_neg hji]
              by_cases hlt2 : j < i
              · rw [if_pos hlt2, if_pos (by omega)]
              · rw [if_neg hlt2, if_neg (by omega)]
          · exact Below.setCell (hF1.trans hF2) (by simp; omega) _
        case measure => simp [intOf]; omega
    · go_wp2
      go_ret3
      have hiN : i = N := by omega
      subst hiN
      refine ⟨hF.trans hF1, B, by rw [← hB]; exact hF.size, rfl, hrow.lt, fun j hj => ?_⟩
      rw [hrow.cell hj, rowF, if_pos hj]
end Go.Proofs.YtaokmegoheofjaaDoor
