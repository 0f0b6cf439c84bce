/- The walks of runes.claimed and runes.First. -/
import Derived.Test.YtaokmegoheofjaaDoorRunesA
import Derived.Deep.QuietTactic
import Derived.BigQuiet
import Derived.WalkSmall
namespace Go.Proofs.YtaokmegoheofjaaDoor
set_option linter.unusedVariables false
set_option linter.unusedSimpArgs false
open Go.RowKit


set_option maxHeartbeats 400000 in
set_option maxRecDepth 4000 in
theorem claimed_any (b : Int) (w : World) (hL : Lead w) : Calls Tryd.prog 49 #[.int .i64 b] w fun e w' => e = .returned (.int .i64 (rclaim b)) ∧ w' = w := by
  obtain ⟨l0, l1, l2, l3, l4⟩ := hL
  unfold rclaim
  go_each [b < 192, b < 224, b < 240] => (
    go_enter Tryd.func49, Tryd.ntmps49
    go_wp2
    go_rounds 5
    go_ret
    exact ⟨by simp [*], rfl⟩)

theorem ret3 {a b a' b' : Int} {c c' : Bool} (h : (a, b, c) = (a', b', c')) : Ending.returned (.tuple #[.int .i64 a, .int .i64 b, .bool c]) = .returned (.tuple #[.int .i64 a', .int .i64 b', .bool c']) := by
  simp only [Prod.mk.injEq] at h
  rw [h.1, h.2.1, h.2.2]


set_option maxHeartbeats 1000000 in
set_option maxRecDepth 4000 in
theorem first_1 (s : ByteArray) (w : World) (hL : Lead w) (hs : s.size ≤ maxLen) (h : 1 ≤ s.size) (b0 : Int) (q0 : (s[0].toNat : Int) = b0) (g0 : 0 ≤ b0) (g1 : b0 ≤ 255) (h3 : b0 < 192)  (hne : s.toList.isEmpty = false) (r : Int × Int × Bool)
    (hr : r = if rsize (b0) = 1 then (b0, 1, true) else (0, 0, false)) :
    Calls Tryd.prog 28 #[.string s] w fun e w' => e = .returned (.tuple #[.int .i64 r.1, .int .i64 r.2.1, .bool r.2.2]) ∧ Fr w w' := by
  have hL' := hL
  obtain ⟨l0, l1, l2, l3, l4⟩ := hL
  unfold maxLen at hs
  have h1 : rclaim b0 = 1 := by unfold rclaim; rw [if_pos (by omega)]
  have HR : Hid (r = if rsize (b0) = 1 then (b0, 1, true) else (0, 0, false)) := hr
  clear hr
  by_cases hv : rsize (b0) = 1
  · go_enter Tryd.func28, Tryd.ntmps28
    go_wp2_with (go_at_call 49; refine (claimed_any _ _ hL').mono ?_; rintro e w' ⟨rfl, rfl⟩; rw [h1])
    go_quiet (fail)
    go_wp2
    refine wp_loop_rounds 2 ?_
    repeat any_goals (rw [rounds_succ]; go_wp2_with (go_at_call 50; refine (sizeOf_any _ _).mono ?_; rintro e w' ⟨rfl, rfl⟩))
    all_goals (
      go_ret3
      refine ⟨?_, below_drewN (Below.refl _ _) _⟩
      rw [HR.out]
      first | (rw [if_pos (by omega)]; rfl) | (rw [if_neg (by omega)]; rfl))
  · have hv' : (rsize (b0) == 1) = false := beq_eq_false_iff_ne.2 hv
    have hv'' : (rsize (b0) != 1) = true := by rw [bne_iff_ne]; exact hv
    go_enter Tryd.func28, Tryd.ntmps28
    go_wp2_with (go_at_call 49; refine (claimed_any _ _ hL').mono ?_; rintro e w' ⟨rfl, rfl⟩; rw [h1])
    go_quiet (fail)
    go_wp2
    refine wp_loop_rounds 2 ?_
    repeat any_goals (rw [rounds_succ]; go_wp2_with (go_at_call 50; refine (sizeOf_any _ _).mono ?_; rintro e w' ⟨rfl, rfl⟩))
    all_goals (
      go_ret3
      refine ⟨?_, below_drewN (Below.refl _ _) _⟩
      rw [HR.out]
      rw [if_neg (by omega)]; rfl)

set_option maxHeartbeats 1000000 in
set_option maxRecDepth 4000 in
theorem first_2 (s : ByteArray) (w : World) (hL : Lead w) (hs : s.size ≤ maxLen) (h : 2 ≤ s.size) (b0 b1 : Int) (q0 : (s[0].toNat : Int) = b0) (q1 : (s[1].toNat : Int) = b1) (g0 : 0 ≤ b0) (g1 : b0 ≤ 255) (h2 : 192 ≤ b0) (h3 : b0 < 224) (p1 : 0 ≤ b1) (pp1 : b1 ≤ 255) (hne : s.toList.isEmpty = false) (r : Int × Int × Bool)
    (hr : r = if 128 ≤ b1 ∧ b1 < 192 ∧ rsize ((b0 - 192) * 64 + (b1 - 128)) = 2 then ((b0 - 192) * 64 + (b1 - 128), 2, true) else (0, 0, false)) :
    Calls Tryd.prog 28 #[.string s] w fun e w' => e = .returned (.tuple #[.int .i64 r.1, .int .i64 r.2.1, .bool r.2.2]) ∧ Fr w w' := by
  have hL' := hL
  obtain ⟨l0, l1, l2, l3, l4⟩ := hL
  unfold maxLen at hs
  have h1 : rclaim b0 = 2 := by unfold rclaim; rw [if_neg (by omega), if_pos (by omega)]
  have HR : Hid (r = if 128 ≤ b1 ∧ b1 < 192 ∧ rsize ((b0 - 192) * 64 + (b1 - 128)) = 2 then ((b0 - 192) * 64 + (b1 - 128), 2, true) else (0, 0, false)) := hr
  clear hr
  by_cases hv : rsize ((b0 - 192) * 64 + (b1 - 128)) = 2
  · go_enter Tryd.func28, Tryd.ntmps28
    go_wp2_with (go_at_call 49; refine (claimed_any _ _ hL').mono ?_; rintro e w' ⟨rfl, rfl⟩; rw [h1])
    go_quiet (fail)
    go_wp2
    refine wp_loop_rounds 3 ?_
    repeat any_goals (rw [rounds_succ]; go_wp2_with (go_at_call 50; refine (sizeOf_any _ _).mono ?_; rintro e w' ⟨rfl, rfl⟩))
    all_goals (
      go_ret3
      refine ⟨?_, below_drewN (Below.refl _ _) _⟩
      rw [HR.out]
      first | (rw [if_pos (by omega)]; rfl) | (rw [if_neg (by omega)]; rfl))
  · have hv' : (rsize ((b0 - 192) * 64 + (b1 - 128)) == 2) = false := beq_eq_false_iff_ne.2 hv
    have hv'' : (rsize ((b0 - 192) * 64 + (b1 - 128)) != 2) = true := by rw [bne_iff_ne]; exact hv
    go_enter Tryd.func28, Tryd.ntmps28
    go_wp2_with (go_at_call 49; refine (claimed_any _ _ hL').mono ?_; rintro e w' ⟨rfl, rfl⟩; rw [h1])
    go_quiet (fail)
    go_wp2
    refine wp_loop_rounds 3 ?_
    repeat any_goals (rw [rounds_succ]; go_wp2_with (go_at_call 50; refine (sizeOf_any _ _).mono ?_; rintro e w' ⟨rfl, rfl⟩))
    all_goals (
      go_ret3
      refine ⟨?_, below_drewN (Below.refl _ _) _⟩
      rw [HR.out]
      rw [if_neg (by omega)]; rfl)

set_option maxHeartbeats 1000000 in
set_option maxRecDepth 4000 in
theorem first_3 (s : ByteArray) (w : World) (hL : Lead w) (hs : s.size ≤ maxLen) (h : 3 ≤ s.size) (b0 b1 b2 : Int) (q0 : (s[0].toNat : Int) = b0) (q1 : (s[1].toNat : Int) = b1) (q2 : (s[2].toNat : Int) = b2) (g0 : 0 ≤ b0) (g1 : b0 ≤ 255) (h2 : 224 ≤ b0) (h3 : b0 < 240) (p1 : 0 ≤ b1) (pp1 : b1 ≤ 255) (p2 : 0 ≤ b2) (pp2 : b2 ≤ 255) (hne : s.toList.isEmpty = false) (r : Int × Int × Bool)
    (hr : r = if 128 ≤ b1 ∧ b1 < 192 ∧ 128 ≤ b2 ∧ b2 < 192 ∧ rsize (((b0 - 224) * 64 + (b1 - 128)) * 64 + (b2 - 128)) = 3 then (((b0 - 224) * 64 + (b1 - 128)) * 64 + (b2 - 128), 3, true) else (0, 0, false)) :
    Calls Tryd.prog 28 #[.string s] w fun e w' => e = .returned (.tuple #[.int .i64 r.1, .int .i64 r.2.1, .bool r.2.2]) ∧ Fr w w' := by
  have hL' := hL
  obtain ⟨l0, l1, l2, l3, l4⟩ := hL
  unfold maxLen at hs
  have h1 : rclaim b0 = 3 := by unfold rclaim; rw [if_neg (by omega), if_neg (by omega), if_pos (by omega)]
  have HR : Hid (r = if 128 ≤ b1 ∧ b1 < 192 ∧ 128 ≤ b2 ∧ b2 < 192 ∧ rsize (((b0 - 224) * 64 + (b1 - 128)) * 64 + (b2 - 128)) = 3 then (((b0 - 224) * 64 + (b1 - 128)) * 64 + (b2 - 128), 3, true) else (0, 0, false)) := hr
  clear hr
  by_cases hv : rsize (((b0 - 224) * 64 + (b1 - 128)) * 64 + (b2 - 128)) = 3
  · go_enter Tryd.func28, Tryd.ntmps28
    go_wp2_with (go_at_call 49; refine (claimed_any _ _ hL').mono ?_; rintro e w' ⟨rfl, rfl⟩; rw [h1])
    go_quiet (fail)
    go_wp2
    refine wp_loop_rounds 4 ?_
    repeat any_goals (rw [rounds_succ]; go_wp2_with (go_at_call 50; refine (sizeOf_any _ _).mono ?_; rintro e w' ⟨rfl, rfl⟩))
    all_goals (
      go_ret3
      refine ⟨?_, below_drewN (Below.refl _ _) _⟩
      rw [HR.out]
      first | (rw [if_pos (by omega)]; rfl) | (rw [if_neg (by omega)]; rfl))
  · have hv' : (rsize (((b0 - 224) * 64 + (b1 - 128)) * 64 + (b2 - 128)) == 3) = false := beq_eq_false_iff_ne.2 hv
    have hv'' : (rsize (((b0 - 224) * 64 + (b1 - 128)) * 64 + (b2 - 128)) != 3) = true := by rw [bne_iff_ne]; exact hv
    go_enter Tryd.func28, Tryd.ntmps28
    go_wp2_with (go_at_call 49; refine (claimed_any _ _ hL').mono ?_; rintro e w' ⟨rfl, rfl⟩; rw [h1])
    go_quiet (fail)
    go_wp2
    refine wp_loop_rounds 4 ?_
    repeat any_goals (rw [rounds_succ]; go_wp2_with (go_at_call 50; refine (sizeOf_any _ _).mono ?_; rintro e w' ⟨rfl, rfl⟩))
    all_goals (
      go_ret3
      refine ⟨?_, below_drewN (Below.refl _ _) _⟩
      rw [HR.out]
      rw [if_neg (by omega)]; rfl)

set_option maxHeartbeats 1000000 in
set_option maxRecDepth 4000 in
theorem first_4 (s : ByteArray) (w : World) (hL : Lead w) (hs : s.size ≤ maxLen) (h : 4 ≤ s.size) (b0 b1 b2 b3 : Int) (q0 : (s[0].toNat : Int) = b0) (q1 : (s[1].toNat : Int) = b1) (q2 : (s[2].toNat : Int) = b2) (q3 : (s[3].toNat : Int) = b3) (g0 : 0 ≤ b0) (g1 : b0 ≤ 255) (h2 : 240 ≤ b0) (p1 : 0 ≤ b1) (pp1 : b1 ≤ 255) (p2 : 0 ≤ b2) (pp2 : b2 ≤ 255) (p3 : 0 ≤ b3) (pp3 : b3 ≤ 255) (hne : s.toList.isEmpty = false) (r : Int × Int × Bool)
    (hr : r = if 128 ≤ b1 ∧ b1 < 192 ∧ 128 ≤ b2 ∧ b2 < 192 ∧ 128 ≤ b3 ∧ b3 < 192 ∧ rsize ((((b0 - 240) * 64 + (b1 - 128)) * 64 + (b2 - 128)) * 64 + (b3 - 128)) = 4 then ((((b0 - 240) * 64 + (b1 - 128)) * 64 + (b2 - 128)) * 64 + (b3 - 128), 4, true) else (0, 0, false)) :
    Calls Tryd.prog 28 #[.string s] w fun e w' => e = .returned (.tuple #[.int .i64 r.1, .int .i64 r.2.1, .bool r.2.2]) ∧ Fr w w' := by
  have hL' := hL
  obtain ⟨l0, l1, l2, l3, l4⟩ := hL
  unfold maxLen at hs
  have h1 : rclaim b0 = 4 := by unfold rclaim; rw [if_neg (by omega), if_neg (by omega), if_neg (by omega)]
  have HR : Hid (r = if 128 ≤ b1 ∧ b1 < 192 ∧ 128 ≤ b2 ∧ b2 < 192 ∧ 128 ≤ b3 ∧ b3 < 192 ∧ rsize ((((b0 - 240) * 64 + (b1 - 128)) * 64 + (b2 - 128)) * 64 + (b3 - 128)) = 4 then ((((b0 - 240) * 64 + (b1 - 128)) * 64 + (b2 - 128)) * 64 + (b3 - 128), 4, true) else (0, 0, false)) := hr
  clear hr
  by_cases hv : rsize ((((b0 - 240) * 64 + (b1 - 128)) * 64 + (b2 - 128)) * 64 + (b3 - 128)) = 4
  · go_enter Tryd.func28, Tryd.ntmps28
    go_wp2_with (go_at_call 49; refine (claimed_any _ _ hL').mono ?_; rintro e w' ⟨rfl, rfl⟩; rw [h1])
    go_quiet (fail)
    go_wp2
    refine wp_loop_rounds 5 ?_
    repeat any_goals (rw [rounds_succ]; go_wp2_with (go_at_call 50; refine (sizeOf_any _ _).mono ?_; rintro e w' ⟨rfl, rfl⟩))
    all_goals (
      go_ret3
      refine ⟨?_, below_drewN (Below.refl _ _) _⟩
      rw [HR.out]
      first | (rw [if_pos (by omega)]; rfl) | (rw [if_neg (by omega)]; rfl))
  · have hv' : (rsize ((((b0 - 240) * 64 + (b1 - 128)) * 64 + (b2 - 128)) * 64 + (b3 - 128)) == 4) = false := beq_eq_false_iff_ne.2 hv
    have hv'' : (rsize ((((b0 - 240) * 64 + (b1 - 128)) * 64 + (b2 - 128)) * 64 + (b3 - 128)) != 4) = true := by rw [bne_iff_ne]; exact hv
    go_enter Tryd.func28, Tryd.ntmps28
    go_wp2_with (go_at_call 49; refine (claimed_any _ _ hL').mono ?_; rintro e w' ⟨rfl, rfl⟩; rw [h1])
    go_quiet (fail)
    go_wp2
    refine wp_loop_rounds 5 ?_
    repeat any_goals (rw [rounds_succ]; go_wp2_with (go_at_call 50; refine (sizeOf_any _ _).mono ?_; rintro e w' ⟨rfl, rfl⟩))
    all_goals (
      go_ret3
      refine ⟨?_, below_drewN (Below.refl _ _) _⟩
      rw [HR.out]
      rw [if_neg (by omega)]; rfl)

set_option maxHeartbeats 400000 in
set_option maxRecDepth 4000 in
theorem first_short (s : ByteArray) (w : World) (hL : Lead w) (hs : s.size ≤ maxLen) (h : 0 < s.size) (b0 c : Int) (q0 : (s[0].toNat : Int) = b0) (g0 : 0 ≤ b0) (g1 : b0 ≤ 255) (hc : rclaim b0 = c) (hz : (s.size : Int) < c) (hne : s.toList.isEmpty = false) :
    Calls Tryd.prog 28 #[.string s] w fun e w' => e = .returned (.tuple #[.int .i64 0, .int .i64 0, .bool false]) ∧ Fr w w' := by
  have hL' := hL
  obtain ⟨l0, l1, l2, l3, l4⟩ := hL
  unfold maxLen at hs
  go_enter Tryd.func28, Tryd.ntmps28
  go_wp2_with (go_at_call 49; refine (claimed_any _ _ hL').mono ?_; rintro e w' ⟨rfl, rfl⟩; rw [hc])
  go_ret3
  exact ⟨rfl, Fr.refl _⟩

set_option maxHeartbeats 400000 in
set_option maxRecDepth 4000 in
theorem first_empty (s : ByteArray) (w : World) (hne : s.toList.isEmpty = true) :
    Calls Tryd.prog 28 #[.string s] w fun e w' => e = .returned (.tuple #[.int .i64 0, .int .i64 0, .bool false]) ∧ Fr w w' := by
  go_enter Tryd.func28, Tryd.ntmps28
  go_wp2
  go_ret3
  exact ⟨rfl, Fr.refl _⟩

theorem isEmpty_of (s : ByteArray) : s.toList.isEmpty = (ints s).isEmpty := by
  have e : s.toList = s.data.toList := ByteArray.toList_eq s
  rw [e, ints]; simp

theorem first_any (s : ByteArray) (w : World) (hL : Lead w) (hs : s.size ≤ maxLen) :
    Calls Tryd.prog 28 #[.string s] w fun e w' => e = .returned (.tuple #[.int .i64 (rfirst (ints s)).1, .int .i64 (rfirst (ints s)).2.1, .bool (rfirst (ints s)).2.2]) ∧ Fr w w' := by
  have hlen := ints_length s
  have hat := at_ints s
  have hrg := ints_range s
  have hem := isEmpty_of s
  generalize ints s = l at hlen hat hrg hem ⊢
  match l, hlen, hat, hrg, hem with
  | [], hlen, hat, hrg, hem => exact first_empty s w hem
  | b0 :: r, hlen, hat, hrg, hem =>
    have g0 := hrg b0 (by simp)
    have q0 : (s[0]'(by simp at hlen; omega)).toNat = b0 := hat 0 (by simp at hlen; omega)
    have no : ∀ c, rclaim b0 = c → (s.size : Int) < c → rfirst (b0 :: r) = (0, 0, false) → Calls Tryd.prog 28 #[.string s] w fun e w' => e = .returned (.tuple #[.int .i64 (rfirst (b0 :: r)).1, .int .i64 (rfirst (b0 :: r)).2.1, .bool (rfirst (b0 :: r)).2.2]) ∧ Fr w w' := by
      intro c hc hz hf
      rw [hf]
      exact first_short s w hL hs (by simp at hlen; omega) b0 c q0 g0.1 g0.2 hc hz hem
    by_cases c1 : b0 < 192
    · exact first_1 s w hL hs (by simp at hlen; omega) b0 q0 g0.1 g0.2 c1 hem _ (by simp only [rfirst]; rw [if_pos c1])
    · by_cases c2 : b0 < 224
      · match r, hlen, hat, hrg, hem, no with
        | [], hlen, hat, hrg, hem, no => exact no 2 (by unfold rclaim; rw [if_neg c1, if_pos c2]) (by simp at hlen; omega) (by simp only [rfirst]; rw [if_neg c1, if_pos c2])
        | b1 :: t, hlen, hat, hrg, hem, no =>
          have g1 := hrg b1 (by simp)
          exact first_2 s w hL hs (by simp at hlen; omega) b0 b1 q0 (hat 1 (by simp at hlen; omega)) g0.1 g0.2 (by omega) c2 g1.1 g1.2 hem _ (by simp only [rfirst]; rw [if_neg c1, if_pos c2])
      · by_cases c3 : b0 < 240
        · match r, hlen, hat, hrg, hem, no with
          | [], hlen, hat, hrg, hem, no => exact no 3 (by unfold rclaim; rw [if_neg c1, if_neg c2, if_pos c3]) (by simp at hlen; omega) (by simp only [rfirst]; rw [if_neg c1, if_neg c2, if_pos c3])
          | [_], hlen, hat, hrg, hem, no => exact no 3 (by unfold rclaim; rw [if_neg c1, if_neg c2, if_pos c3]) (by simp at hlen; omega) (by simp only [rfirst]; rw [if_neg c1, if_neg c2, if_pos c3])
          | b1 :: b2 :: t, hlen, hat, hrg, hem, no =>
            have g1 := hrg b1 (by simp)
            have g2 := hrg b2 (by simp)
            exact first_3 s w hL hs (by simp at hlen; omega) b0 b1 b2 q0 (hat 1 (by simp at hlen; omega)) (hat 2 (by simp at hlen; omega)) g0.1 g0.2 (by omega) c3 g1.1 g1.2 g2.1 g2.2 hem _ (by simp only [rfirst]; rw [if_neg c1, if_neg c2, if_pos c3])
        · have hcl : rclaim b0 = 4 := by unfold rclaim; rw [if_neg c1, if_neg c2, if_neg c3]
          match r, hlen, hat, hrg, hem, no with
          | [], hlen, hat, hrg, hem, no => exact no 4 hcl (by simp at hlen; omega) (by simp only [rfirst]; rw [if_neg c1, if_neg c2, if_neg c3])
          | [_], hlen, hat, hrg, hem, no => exact no 4 hcl (by simp at hlen; omega) (by simp only [rfirst]; rw [if_neg c1, if_neg c2, if_neg c3])
          | [_, _], hlen, hat, hrg, hem, no => exact no 4 hcl (by simp at hlen; omega) (by simp only [rfirst]; rw [if_neg c1, if_neg c2, if_neg c3])
          | b1 :: b2 :: b3 :: t, hlen, hat, hrg, hem, no =>
            have g1 := hrg b1 (by simp)
            have g2 := hrg b2 (by simp)
            have g3 := hrg b3 (by simp)
            exact first_4 s w hL hs (by simp at hlen; omega) b0 b1 b2 b3 q0 (hat 1 (by simp at hlen; omega)) (hat 2 (by simp at hlen; omega)) (hat 3 (by simp at hlen; omega)) g0.1 g0.2 (by omega) g1.1 g1.2 g2.1 g2.2 g3.1 g3.2 hem _ (by simp only [rfirst]; rw [if_neg c1, if_neg c2, if_neg c3])
end Go.Proofs.YtaokmegoheofjaaDoor
