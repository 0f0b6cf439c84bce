/- The walk of the law RunesReads. -/
import Derived.Test.YtaiklflnciibmaaDoorRunesR
namespace Go.Proofs.YtaiklflnciibmaaDoor
set_option linter.unusedVariables false
set_option linter.unusedSimpArgs false
open Go.RowKit

/-- What the document's All has gathered at offset k. -/
theorem gather (l : List Int) (hl : ∀ x ∈ l, 0 ≤ x ∧ x ≤ 255) (k : Nat) (P : List Int) (m : Int) (t : List Int) (hm : rsize m ≠ 0) (h : l.drop k = nums m ++ t)
    (h1 : (rall l).1 = P ++ (rall (l.drop k)).1) (h2 : (rall l).2 = k + (rall (l.drop k)).2) :
    (rall l).1 = (P ++ [m]) ++ (rall (l.drop (k + (nums m).length))).1 ∧ (rall l).2 = (k + (nums m).length) + (rall (l.drop (k + (nums m).length))).2 := by
  obtain ⟨t1, t2, t3, t4⟩ := rest_step l hl k m t hm h
  rw [t1, h1, h2, t2, t3]
  simp; omega

set_option maxHeartbeats 1000000 in
theorem refAll_any (s : ByteArray) (w : World) (hs : s.size ≤ 1000000000) :
    Calls Tryd.prog 14 #[.string s] w fun e w' => Fr w w' ∧ (((rall (ints s)).2 < s.size ∧ e = .returned (.tuple #[.slice none 0 0, .int .i64 (rall (ints s)).2, .bool false])) ∨
      ((rall (ints s)).2 = s.size ∧ ∃ a c, e = .returned (.tuple #[.slice a (rall (ints s)).1.length c, .int .i64 s.size, .bool true]) ∧ w'.ownsRow w.heap.size 3 1 (.slice a (rall (ints s)).1.length c) (rall (ints s)).1.length ((rall (ints s)).1.map (Value.int .i64)))) := by
  obtain ⟨i0, hi, hz0, hz1, hz2⟩ := info_parts info3
  have HZ : Hid ((ints s).length = s.size) := ints_length s
  have hmx : s.size ≤ maxLen := by unfold maxLen; omega
  go_enter Tryd.func14, Tryd.ntmps14
  go_wp2_with fail
  go_loopw [5, 6] (fun v i wr => ∃ (k : Nat) (P : List Int) (a1 : Option Addr) (c1 : Nat), k ≤ s.size ∧ i = .int .i64 k ∧ v = .slice a1 P.length c1 ∧ wr.ownsRow w.heap.size 3 1 (.slice a1 P.length c1) P.length (P.map (Value.int .i64)) ∧ (rall (ints s)).1 = P ++ (rall ((ints s).drop k)).1 ∧ (rall (ints s)).2 = k + (rall ((ints s).drop k)).2 ∧ P.length ≤ k ∧ Fr w wr) (fun _ i _ => s.size - (intOf i).toNat)
  case atStart => exact ⟨0, [], none, 0, by omega, rfl, rfl, World.ownsRow_nil _ _ _ _, by simp, by simp, by simp, Fr.refl _⟩
  case round =>
    obtain ⟨k, P, a1, c1, hk, rfl, rfl, hown, e1, e2, hPk, hF⟩ := hrel
    have E1 : Hid ((rall (ints s)).1 = P ++ (rall ((ints s).drop k)).1) := e1
    have E2 : Hid ((rall (ints s)).2 = k + (rall ((ints s).drop k)).2) := e2
    clear e1 e2
    by_cases hlt : k < s.size
    · rcases rfirst_cases ((ints s).drop k) (drop_range s k) with hf | ⟨m, t, hm, ht, hf⟩
      · have HFf : Hid (rfirst ((ints s).drop k) = (0, 0, false)) := hf
        clear hf
        go_wp2_with fail
        refine (refFirst_any (s.extract k s.size) wr (size_from s k hmx)).mono ?_
        rintro e w1 ⟨rfl, hF1⟩
        rw [ints_from, HFf.out]
        go_wp2_with fail
        go_ret3
        have h2 := E2.out
        rw [rall_no _ HFf.out] at h2
        refine ⟨hF.trans hF1, .inl ⟨by omega, ?_⟩⟩
        rw [h2]
        rfl
      · have HFf : Hid (rfirst ((ints s).drop k) = (m, rsize m, true)) := hf
        have hlen := nums_length m hm
        have hst := rest_step (ints s) (ints_range s) k m t hm ht
        have hga := gather (ints s) (ints_range s) k P m t hm ht E1.out E2.out
        have hp := nums_pos m
        rw [HZ.out] at hst
        have hb := hst.2.2.2
        have HGA : Hid _ := hga
        have HLE : Hid _ := hlen
        clear hf ht hst hlen hga
        go_wp2_with fail
        refine (refFirst_any (s.extract k s.size) wr (size_from s k hmx)).mono ?_
        rintro e w1 ⟨rfl, hF1⟩
        rw [ints_from, HFf.out, ← HLE.out]
        have hown1 := own_fr hown hF1
        go_wp2_with (at_builtin; refine wpList_append_own _ rfl _ _ 22 rfl w.heap.size 3 i0 (.int .i64 0) 1 8 Tryd.underlying22 hi hz0 hz1 hz2 rfl (by decide) _ _ _ rfl (hown1.alloc _) ⟨w1.heap.size, 0, none⟩ 1 1 [.int .i64 m] rfl rfl ?c1 ?c2 ?c3 ?c4 ?c5 ?_)
        case c1 => exact cell_one_new _ _ _
        case c2 => intro u hu; simp at hu; subst hu; rfl
        case c3 => unfold maxLen; omega
        case c4 => omega
        case c5 => have := (hF.trans hF1).size; simp; omega
        intro v' w2 hown' hgrow _
        obtain ⟨a2, c2, hv2⟩ := own_form hown'
        rw [hv2] at hown'
        rw [hv2]
        have hF2 : Fr w w2 := Below.grown (Below.alloc (hF.trans hF1) (hF.trans hF1).size _) hgrow (by have := (hF.trans hF1).size; simp; omega) (own_below hown)
        clear hgrow hown1
        have HO : Hid _ := hown'
        clear hown' hown hv2
        go_wp2_with fail
        go_roundw
        case rel =>
          have hl : (P ++ [m]).length = P.length + 1 := by simp
          refine ⟨k + (nums m).length, P ++ [m], a2, c2, by omega, by go_num, ?_, ?_, HGA.out.1, HGA.out.2, by omega, hF2⟩
          · rw [hl]
          · rw [hl, List.map_append]; exact HO.out
        case measure => simp [intOf]; omega
    · have e0 : (ints s).drop k = [] := List.drop_eq_nil_of_le (by rw [HZ.out]; omega)
      have h1 := E1.out
      have h2 := E2.out
      rw [e0, rall_nil] at h1 h2
      have hks : k = s.size := by omega
      have H1 : Hid _ := h1
      have H2 : Hid _ := h2
      clear e0 h1 h2
      go_wp2_with fail
      go_ret3
      refine ⟨hF, .inr ⟨by rw [H2.out]; simp; exact hks, a1, c1, ?_, ?_⟩⟩
      · rw [H1.out, ← hks]; simp
      · rw [H1.out]; simpa using hown

set_option maxHeartbeats 2000000 in
theorem reads_l (a : ByteArray) (w : World) (hL : Lead w) (hs : a.size ≤ maxLen) (h2 : a.size ≤ 200) : Calls Tryd.prog 4 #[.string a] w fun e w' => e = .returned (.bool true) ∧ Fr w w' := by
  unfold maxLen at hs
  have ha : a.size ≤ 200 := h2
  go_enter Tryd.func4, Tryd.ntmps4
  go_wp2_with fail
  have hmx : a.size ≤ maxLen := by unfold maxLen; omega
  have hle := rall_le _ (ints a) (Nat.le_refl _) (ints_range a)
  rw [ints_length] at hle
  have HLE : Hid _ := hle
  clear hle
  obtain ⟨r1, r2, r3, hr⟩ : ∃ r1 r2 r3, rfirst (ints a) = (r1, r2, r3) := ⟨_, _, _, rfl⟩
  have HR : Hid _ := hr
  clear hr
  refine (first_any a _ hL hmx).mono ?_
  rintro e w1 ⟨rfl, f1⟩
  rw [HR.out]
  go_wp2_with fail
  refine (refFirst_any a _ hmx).mono ?_
  rintro e w2 ⟨rfl, f2⟩
  rw [HR.out]
  by_cases c1 : (rall (ints a)).2 = a.size
  · have C1 : Hid _ := c1
    clear c1
    go_wp2_with fail
    refine (all_whole a _ ((hL.fr f1).fr f2) (by omega) C1.out).mono ?_
    rintro e w3 ⟨Bg, rfl, f3, sg⟩
    go_wp2_with fail
    refine (refAll_any a _ (by omega)).mono ?_
    rintro e w4 ⟨f4, h4⟩
    rcases h4 with ⟨hbad, _⟩ | ⟨_, a1, c1, rfl, hown⟩
    · exfalso; have := C1.out; omega
    have hri := right_yes a
    have hLl : (rall (ints a)).1.length ≤ 200 := by have := HLE.out; omega
    generalize (rall (ints a)).1 = L at *
    have sg4 := sg.fr f4
    have fin4 : Fr w w4 := ((f1.trans f2).trans f3).trans f4
    have hL4 := hL.fr fin4
    have hwant : Hid (L ≠ [] → ∃ g, a1 = some ⟨g, 0, none⟩ ∧ Sl w4 g L) := fun h => own_cells hown h
    clear sg hown hri
    go_wp2_with fail
    refine (right_yes a _ hL4 hmx C1.out).mono ?_
    rintro e w5 ⟨rfl, f5⟩
    have sg5 := sg4.fr f5
    have fin5 := fin4.trans f5
    go_wp2_with fail
    go_loopw [81] (fun i wr => ∃ (j q : Nat), j ≤ L.length ∧ i = .int .i64 j ∧ wr = w5.drewN q) (fun i _ => L.length - (intOf i).toNat)
    case atStart => exact ⟨0, 0, by omega, rfl, rfl⟩
    case round =>
      obtain ⟨j, q, hj, rfl, rfl⟩ := hrel
      by_cases hjl : j < L.length
      · obtain ⟨g, rfl, sw⟩ := hwant.out (by rintro rfl; simp at hjl)
        have x1 := sg5.2 j hjl
        have x2 := (sw.fr f5).2 j hjl
        generalize L.getD j 0 = x at *
        go_wp2_with fail
        go_quiet (fail)
        go_wp2_with fail
        go_roundw
        case rel => exact ⟨j + 1, _, by omega, by go_num, rfl⟩
        case measure => simp [intOf]; omega
      · go_wp2_with fail
        refine (wakes_any _ (hL.fr (fin5.trans (below_drewN (Below.refl _ _) _)))).mono ?_
        rintro e w6 ⟨rfl, f6⟩
        go_wp2_with fail
        go_ret
        exact ⟨rfl, fin5.trans (Fr.trans (below_drewN (Below.refl _ _) _) f6)⟩
  · have hlt : (rall (ints a)).2 < a.size := by have := HLE.out; omega
    go_wp2_with fail
    refine (all_no a _ ((hL.fr f1).fr f2) hmx hlt).mono ?_
    rintro e w3 ⟨rfl, f3⟩
    go_wp2_with fail
    refine (refAll_any a _ (by omega)).mono ?_
    rintro e w4 ⟨f4, h4⟩
    rcases h4 with ⟨_, rfl⟩ | ⟨hbad, _⟩
    rotate_left
    · exact absurd hbad c1
    have fin4 : Fr w w4 := ((f1.trans f2).trans f3).trans f4
    have hL4 := hL.fr fin4
    go_wp2_with fail
    refine (right_no a _ hL4 hmx c1).mono ?_
    rintro e w5 ⟨rfl, f5⟩
    have fin5 := fin4.trans f5
    go_wp2_with fail
    refine wp_loop_rounds 1 ?_
    rw [rounds_succ]
    go_wp2_with fail
    refine (wakes_any _ (hL.fr fin5)).mono ?_
    rintro e w6 ⟨rfl, f6⟩
    go_wp2_with fail
    go_ret
    exact ⟨rfl, fin5.trans f6⟩

set_option maxHeartbeats 2000000 in
theorem reads_g (s : ByteArray) (w : World) (hL : Lead w) (hs : s.size ≤ maxLen) (h2 : 200 < s.size) : Calls Tryd.prog 4 #[.string s] w fun e w' => e = .returned (.bool true) ∧ Fr w w' := by
  unfold maxLen at hs
  have ha : (s.extract 0 200).size ≤ 200 := by have := ints_length (s.extract 0 200); rw [ints_extract, List.length_take] at this; omega
  go_enter Tryd.func4, Tryd.ntmps4
  go_wp2_with fail
  generalize s.extract 0 200 = a at *
  have hmx : a.size ≤ maxLen := by unfold maxLen; omega
  have hle := rall_le _ (ints a) (Nat.le_refl _) (ints_range a)
  rw [ints_length] at hle
  have HLE : Hid _ := hle
  clear hle
  obtain ⟨r1, r2, r3, hr⟩ : ∃ r1 r2 r3, rfirst (ints a) = (r1, r2, r3) := ⟨_, _, _, rfl⟩
  have HR : Hid _ := hr
  clear hr
  refine (first_any a _ hL hmx).mono ?_
  rintro e w1 ⟨rfl, f1⟩
  rw [HR.out]
  go_wp2_with fail
  refine (refFirst_any a _ hmx).mono ?_
  rintro e w2 ⟨rfl, f2⟩
  rw [HR.out]
  by_cases c1 : (rall (ints a)).2 = a.size
  · have C1 : Hid _ := c1
    clear c1
    go_wp2_with fail
    refine (all_whole a _ ((hL.fr f1).fr f2) (by omega) C1.out).mono ?_
    rintro e w3 ⟨Bg, rfl, f3, sg⟩
    go_wp2_with fail
    refine (refAll_any a _ (by omega)).mono ?_
    rintro e w4 ⟨f4, h4⟩
    rcases h4 with ⟨hbad, _⟩ | ⟨_, a1, c1, rfl, hown⟩
    · exfalso; have := C1.out; omega
    have hri := right_yes a
    have hLl : (rall (ints a)).1.length ≤ 200 := by have := HLE.out; omega
    generalize (rall (ints a)).1 = L at *
    have sg4 := sg.fr f4
    have fin4 : Fr w w4 := ((f1.trans f2).trans f3).trans f4
    have hL4 := hL.fr fin4
    have hwant : Hid (L ≠ [] → ∃ g, a1 = some ⟨g, 0, none⟩ ∧ Sl w4 g L) := fun h => own_cells hown h
    clear sg hown hri
    go_wp2_with fail
    refine (right_yes a _ hL4 hmx C1.out).mono ?_
    rintro e w5 ⟨rfl, f5⟩
    have sg5 := sg4.fr f5
    have fin5 := fin4.trans f5
    go_wp2_with fail
    go_loopw [81] (fun i wr => ∃ (j q : Nat), j ≤ L.length ∧ i = .int .i64 j ∧ wr = w5.drewN q) (fun i _ => L.length - (intOf i).toNat)
    case atStart => exact ⟨0, 0, by omega, rfl, rfl⟩
    case round =>
      obtain ⟨j, q, hj, rfl, rfl⟩ := hrel
      by_cases hjl : j < L.length
      · obtain ⟨g, rfl, sw⟩ := hwant.out (by rintro rfl; simp at hjl)
        have x1 := sg5.2 j hjl
        have x2 := (sw.fr f5).2 j hjl
        generalize L.getD j 0 = x at *
        go_wp2_with fail
        go_quiet (fail)
        go_wp2_with fail
        go_roundw
        case rel => exact ⟨j + 1, _, by omega, by go_num, rfl⟩
        case measure => simp [intOf]; omega
      · go_wp2_with fail
        refine (wakes_any _ (hL.fr (fin5.trans (below_drewN (Below.refl _ _) _)))).mono ?_
        rintro e w6 ⟨rfl, f6⟩
        go_wp2_with fail
        go_ret
        exact ⟨rfl, fin5.trans (Fr.trans (below_drewN (Below.refl _ _) _) f6)⟩
  · have hlt : (rall (ints a)).2 < a.size := by have := HLE.out; omega
    go_wp2_with fail
    refine (all_no a _ ((hL.fr f1).fr f2) hmx hlt).mono ?_
    rintro e w3 ⟨rfl, f3⟩
    go_wp2_with fail
    refine (refAll_any a _ (by omega)).mono ?_
    rintro e w4 ⟨f4, h4⟩
    rcases h4 with ⟨_, rfl⟩ | ⟨hbad, _⟩
    rotate_left
    · exact absurd hbad c1
    have fin4 : Fr w w4 := ((f1.trans f2).trans f3).trans f4
    have hL4 := hL.fr fin4
    go_wp2_with fail
    refine (right_no a _ hL4 hmx c1).mono ?_
    rintro e w5 ⟨rfl, f5⟩
    have fin5 := fin4.trans f5
    go_wp2_with fail
    refine wp_loop_rounds 1 ?_
    rw [rounds_succ]
    go_wp2_with fail
    refine (wakes_any _ (hL.fr fin5)).mono ?_
    rintro e w6 ⟨rfl, f6⟩
    go_wp2_with fail
    go_ret
    exact ⟨rfl, fin5.trans f6⟩

theorem law_RunesReads (s : ByteArray) (w : World) (hs : s.size ≤ maxLen) (hL : Lead w) : Calls Tryd.prog 4 #[.string s] w fun e w' => e = .returned (.bool true) ∧ Fr w w' := by
  by_cases h : s.size ≤ 200
  · exact reads_l s w hL hs h
  · exact reads_g s w hL hs (by omega)
end Go.Proofs.YtaiklflnciibmaaDoor
