/- date, word, between. -/
import Derived.Test.YtaokmegoheofjaaDoorTokD
import Derived.Test.YtaokmegoheofjaaDoorShelf
namespace Go.Proofs.YtaokmegoheofjaaDoor
set_option linter.unusedVariables false
set_option linter.unusedSimpArgs false
open Go.RowKit

theorem conv_letter (x : Int) (hx : x ∈ dates) : Utf8.encode x = strOfNums [x] := by
  simp only [dates, List.mem_cons, List.not_mem_nil, or_false] at hx
  rcases hx with rfl | rfl | rfl | rfl | rfl <;> exact str_of (by decide +kernel)

theorem same_facts (x : Int) (l : List Int) : (∀ j, j < (same x l).length → ∃ b, l[j]? = some b ∧ lowB b = x) ∧ (∀ b, l[(same x l).length]? = some b → lowB b ≠ x) ∧ (same x l).length ≤ l.length := by
  obtain ⟨q, e1, e2⟩ := takeWhile_cut (fun b => decide (lowB b = x)) l
  have e1' : l = same x l ++ q := e1
  have hm := mem_takeWhile (fun b => decide (lowB b = x)) l
  have hm' : ∀ b ∈ same x l, decide (lowB b = x) = true := hm
  generalize same x l = u at *
  subst e1'
  refine ⟨fun j hj => ?_, fun b hb => ?_, by simp⟩
  · rw [List.getElem?_append_left hj, List.getElem?_eq_getElem hj]
    exact ⟨_, rfl, by simpa using hm' _ (List.getElem_mem hj)⟩
  · rw [List.getElem?_append_right (Nat.le_refl _), Nat.sub_self] at hb
    have := e2 b (by rw [List.head?_eq_getElem?]; exact hb)
    simpa using this

set_option maxHeartbeats 1000000 in
set_option maxRecDepth 4000 in
theorem date_any (s : ByteArray) (w : World) (hs : s.size ≤ maxLen) (h0 : 0 < s.size) (hx : lowB (bt s 0) ∈ dates) :
    Calls Tryd.prog 34 #[.string s] w fun e w' => e = .returned (nxV (.ok 14 [lowB (bt s 0)] (same (lowB (bt s 0)) (ints s)).length (same (lowB (bt s 0)) (ints s)).length)) ∧ Fr w w' := by
  unfold maxLen at hs
  have q0 := bt_at s 0 h0
  have r0 := bt_range s 0 h0
  obtain ⟨F1, F2, F3⟩ := same_facts (lowB (bt s 0)) (ints s)
  have g0 : 1 ≤ (same (lowB (bt s 0)) (ints s)).length := by
    have := tail_bt s h0
    rw [this]
    unfold same
    rw [List.takeWhile_cons, if_pos (by simp)]
    simp
  rw [ints_length] at F3
  have HC := hide (conv_letter _ hx)
  have hB : ∀ j, (h : j < s.size) → j < (same (lowB (bt s 0)) (ints s)).length → lowB (bt s j) = lowB (bt s 0) := by
    intro j h hj
    obtain ⟨b, h1, h2⟩ := F1 j hj
    rw [bt_get s j h] at h1
    cases h1
    exact h2
  have hE : ∀ h : (same (lowB (bt s 0)) (ints s)).length < s.size, lowB (bt s (same (lowB (bt s 0)) (ints s)).length) ≠ lowB (bt s 0) := fun h => F2 _ (bt_get s _ h)
  generalize (same (lowB (bt s 0)) (ints s)).length = N at *
  generalize bt s 0 = c at *
  clear F1 F2
  have HB := hide hB
  have HE := hide hE
  have HX := hide hx
  clear hB hE hx
  have rl := low_range r0.1 r0.2
  go_enter Tryd.func34, Tryd.ntmps34
  go_wp2_with (go_at_call 29; refine (small_any _ _ r0.1 r0.2).mono ?_; rintro e w' ⟨rfl, rfl⟩)
  generalize hl : lowB c = x at *
  go_loop [6] (fun s6 => ∃ k : Nat, 1 ≤ k ∧ k ≤ N ∧ s6 = .int .i64 k) (fun s6 => N - (intOf s6).toNat)
  case atStart => exact ⟨1, by omega, by omega, rfl⟩
  case round =>
    obtain ⟨k, hk1, hk, rfl⟩ := hrel
    by_cases hlt : k < N
    · have hks : k < s.size := by omega
      have qs := bt_at s k hks
      have rs := bt_range s k hks
      have he := HB.out k hks hlt
      generalize bt s k = y at *
      have heb : (lowB y == x) = true := by simp [he]
      go_wp2_with (go_at_call 29; refine (small_any _ _ rs.1 rs.2).mono ?_; rintro e w' ⟨rfl, rfl⟩)
      go_round
      case rel => exact ⟨k + 1, by omega, by omega, by go_num⟩
      case measure => simp [intOf]; omega
    · have hkN : k = N := by omega
      subst hkN
      by_cases hks : k < s.size
      · have qs := bt_at s k hks
        have rs := bt_range s k hks
        have he := HE.out hks
        generalize bt s k = y at *
        have heb : (lowB y == x) = false := by simp [he]
        go_wp2_with (go_at_call 29; refine (small_any _ _ rs.1 rs.2).mono ?_; rintro e w' ⟨rfl, rfl⟩)
        exact bodyPost_ret (results_new rfl _ w _ _ _ _ rfl) rfl ⟨by simp only [nxV, tkV]; (try rw [hl]); rw [← HC.out]; rfl, Fr.alloc _ _⟩
      · go_wp2_with fail
        exact bodyPost_ret (results_new rfl _ w _ _ _ _ rfl) rfl ⟨by simp only [nxV, tkV]; (try rw [hl]); rw [← HC.out]; rfl, Fr.alloc _ _⟩
end Go.Proofs.YtaokmegoheofjaaDoor
