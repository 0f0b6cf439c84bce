/- The walk of the law RunesJoin. -/
import Derived.Test.YtaiklflnciibmaaDoorRunesE
import Derived.Test.YtaiklflnciibmaaDoorRunesQ
import Derived.RegionTactic
import Derived.Test.YtaiklflnciibmaaDoorRunesL
namespace Go.Proofs.YtaiklflnciibmaaDoor
set_option linter.unusedVariables false
set_option linter.unusedSimpArgs false
open Go.RowKit

theorem size_append (a b : ByteArray) : (a ++ b).size = a.size + b.size := by
  have := congrArg List.length (ints_append a b)
  rw [List.length_append, ints_length, ints_length, ints_length] at this
  exact this

/-- What All answers, but for its slice. -/
theorem all_some (s : ByteArray) (w : World) (hL : Lead w) (hs : s.size ≤ 1000000000) :
    Calls Tryd.prog 13 #[.string s] w fun e w' => ∃ v : Value, e = .returned (.tuple #[v, .int .i64 (rall (ints s)).2, .bool (decide ((rall (ints s)).2 = s.size))]) ∧ Fr w w' := by
  have hle := rall_le _ (ints s) (Nat.le_refl _) (ints_range s)
  rw [ints_length] at hle
  by_cases h : (rall (ints s)).2 = s.size
  · refine (all_yes s w hL hs h).mono ?_
    rintro e w' ⟨hF, B, _, rfl, _⟩
    exact ⟨.slice (some ⟨B, 0, none⟩) (rall (ints s)).1.length (rall (ints s)).1.length, by simp [h], hF⟩
  · refine (all_no s w hL (by unfold maxLen; omega) (by omega)).mono ?_
    rintro e w' ⟨rfl, hF⟩
    exact ⟨.slice none 0 0, by simp [h], hF⟩

/-- The cells of a slice of ints that All made. -/
def Sl (w : World) (B : Nat) (L : List Int) : Prop := B < w.heap.size ∧ ∀ j, j < L.length → w.cell? ⟨B, j, none⟩ = some (.int .i64 (L.getD j 0))
theorem Sl.fr {w w' : World} {B : Nat} {L : List Int} (h : Sl w B L) (k : Fr w w') : Sl w' B L :=
  ⟨Nat.lt_of_lt_of_le h.1 k.size, fun j hj => (Below.cell (p := ⟨B, j, none⟩) k h.1).trans (h.2 j hj)⟩
theorem Sl.drew {w : World} {B : Nat} {L : List Int} (h : Sl w B L) : Sl w.drew B L := h
theorem Fr.drew (w : World) : Fr w w.drew := (Below.refl _ _).drew

theorem all_whole (s : ByteArray) (w : World) (hL : Lead w) (hs : s.size ≤ 1000000000) (h : (rall (ints s)).2 = s.size) :
    Calls Tryd.prog 13 #[.string s] w fun e w' => ∃ B, e = .returned (.tuple #[.slice (some ⟨B, 0, none⟩) (rall (ints s)).1.length (rall (ints s)).1.length, .int .i64 s.size, .bool true]) ∧ Fr w w' ∧ Sl w' B (rall (ints s)).1 := by
  refine (all_yes s w hL hs h).mono ?_
  rintro e w' ⟨hF, B, _, rfl, h1, h2⟩
  exact ⟨B, rfl, hF, h1, h2⟩

theorem right_no (s : ByteArray) (w : World) (hL : Lead w) (hs : s.size ≤ maxLen) (h : (rall (ints s)).2 ≠ s.size) :
    Calls Tryd.prog 15 #[.string s] w fun e w' => e = .returned (.bool false) ∧ Fr w w' := by
  have := right_any s w hL hs
  rwa [decide_eq_false h] at this
theorem right_yes (s : ByteArray) (w : World) (hL : Lead w) (hs : s.size ≤ maxLen) (h : (rall (ints s)).2 = s.size) :
    Calls Tryd.prog 15 #[.string s] w fun e w' => e = .returned (.bool true) ∧ Fr w w' := by
  have := right_any s w hL hs
  rwa [decide_eq_true h] at this

theorem getD_join (a b : List Int) (k : Nat) (h : a.length ≤ k) : (a ++ b).getD k 0 = b.getD (k - a.length) 0 := by
  simp only [List.getD_eq_getElem?_getD]
  rw [List.getElem?_append_right h]
theorem getD_left (a b : List Int) (k : Nat) (h : k < a.length) : (a ++ b).getD k 0 = a.getD k 0 := by
  simp only [List.getD_eq_getElem?_getD]
  rw [List.getElem?_append_left h]

set_option maxHeartbeats 1000000 in
theorem join_ll (a b : ByteArray) (w : World) (hL : Lead w) (hs : a.size ≤ maxLen) (ht : b.size ≤ maxLen) (h1 : a.size ≤ 100) (h2 : b.size ≤ 100) : Calls Tryd.prog 6 #[.string a, .string b] w fun e w' => e = .returned (.bool true) ∧ Fr w w' := by
  unfold maxLen at hs ht
  have ha : a.size ≤ 100 := by omega
  have hb : b.size ≤ 100 := by omega
  go_enter Tryd.func6, Tryd.ntmps6
  go_wp2
  go_region
  have hL0 : Lead w.drew := hL
  have hF0 : Fr w w.drew := Fr.drew w
  have hra := rall_le _ (ints a) (Nat.le_refl _) (ints_range a)
  have hrb := rall_le _ (ints b) (Nat.le_refl _) (ints_range b)
  rw [ints_length] at hra hrb
  have hab := size_append a b
  have hmx : a.size ≤ maxLen := by unfold maxLen; omega
  have hmy : b.size ≤ maxLen := by unfold maxLen; omega
  have hmz : (a ++ b).size ≤ maxLen := by unfold maxLen; omega
  have HAB : Hid ((a ++ b).size = a.size + b.size) := hab
  have habs : (a ++ b).size ≤ 1000000000 := by omega
  by_cases c1 : (rall (ints a)).2 = a.size
  · by_cases c2 : (rall (ints b)).2 = b.size
    · have hj : rall (ints (a ++ b)) = ((rall (ints a)).1 ++ (rall (ints b)).1, (a ++ b).size) := by
        rw [ints_append, rall_join _ _ (ints_range a) (ints_range b) (by rw [ints_length]; exact c1), ints_length, c2, hab]
      have hwh := all_whole (a ++ b)
      rw [hj] at hwh
      have C1 : Hid _ := c1
      have C2 : Hid _ := c2
      have HW : Hid _ := hwh
      have hl1 : (rall (ints a)).1.length ≤ 100 := by omega
      have hl2 : (rall (ints b)).1.length ≤ 100 := by omega
      clear c1 c2 hj hab hwh hra hrb
      go_wp2_with fail
      refine (all_whole a _ hL0 (by omega) C1.out).mono ?_
      rintro e w1 ⟨Ba, rfl, f1, sl1⟩
      generalize (rall (ints a)).1 = La at *
      go_wp2_with fail
      refine (all_whole b _ (hL0.fr f1) (by omega) C2.out).mono ?_
      rintro e w2 ⟨Bb, rfl, f2, sl2⟩
      generalize (rall (ints b)).1 = Lb at *
      go_wp2_with fail
      refine (HW.out w2 ((hL0.fr f1).fr f2) habs (by trivial)).mono ?_
      rintro e w3 ⟨Bc, rfl, f3, sl3⟩
      go_wp2_with fail
      refine (wakes_any _ (((hL0.fr f1).fr f2).fr f3)).mono ?_
      rintro e w4 ⟨rfl, f4⟩
      have sa := ((sl1.fr f2).fr f3).fr f4
      have sb := (sl2.fr f3).fr f4
      have sc := sl3.fr f4
      have fin : Fr w w4 := (((hF0.trans f1).trans f2).trans f3).trans f4
      have hl : (La ++ Lb).length = La.length + Lb.length := List.length_append
      clear sl1 sl2 sl3
      go_wp2_with fail
      go_loop [88] (fun i => ∃ k : Nat, k ≤ La.length + Lb.length ∧ i = .int .i64 k) (fun i => La.length + Lb.length - (intOf i).toNat)
      case atStart => exact ⟨0, by omega, rfl⟩
      case round =>
        obtain ⟨k, hk, rfl⟩ := hrel
        by_cases hlt : k < La.length + Lb.length
        · have hc := sc.2 k (by omega)
          by_cases hla : k < La.length
          · have hca := sa.2 k hla
            rw [getD_left _ _ _ hla] at hc
            generalize La.getD k 0 = x at *
            go_wp2_with fail
            go_round
            case rel => exact ⟨k + 1, by omega, by go_num⟩
            case measure => simp [intOf]; omega
          · obtain ⟨m, rfl⟩ : ∃ m, k = La.length + m := ⟨k - La.length, by omega⟩
            have hcb := sb.2 m (by omega)
            rw [getD_join _ _ _ (by omega), Nat.add_sub_cancel_left] at hc
            generalize Lb.getD m 0 = x at *
            go_wp2_with fail
            go_round
            case rel => exact ⟨La.length + m + 1, by omega, by go_num⟩
            case measure => simp [intOf]; omega
        · go_wp2_with fail
          go_ret
          exact ⟨rfl, fin⟩
    · have hj : (rall (ints (a ++ b))).2 = a.size + (rall (ints b)).2 := by
        rw [ints_append, rall_join _ _ (ints_range a) (ints_range b) (by rw [ints_length]; exact c1), ints_length]
      have hlt : (rall (ints (a ++ b))).2 < (a ++ b).size := by omega
      have hn := all_no (a ++ b)
      rw [hj] at hn hlt
      have C1 : Hid _ := c1
      have HN : Hid _ := hn
      have hbl : (rall (ints b)).2 < b.size := by omega
      clear c1 c2 hj hab hn
      go_wp2_with fail
      refine (all_whole a _ hL0 (by omega) C1.out).mono ?_
      rintro e w1 ⟨Ba, rfl, f1, sl1⟩
      go_wp2_with fail
      refine (all_no b _ (hL0.fr f1) hmy hbl).mono ?_
      rintro e w2 ⟨rfl, f2⟩
      go_wp2_with fail
      refine (HN.out w2 ((hL0.fr f1).fr f2) hmz hlt).mono ?_
      rintro e w3 ⟨rfl, f3⟩
      go_wp2_with fail
      refine (wakes_any _ (((hL0.fr f1).fr f2).fr f3)).mono ?_
      rintro e w4 ⟨rfl, f4⟩
      go_wp2_with fail
      go_ret
      exact ⟨by simp, (((hF0.trans f1).trans f2).trans f3).trans f4⟩
  · go_wp2_with fail
    refine (all_no a _ hL0 hmx (by omega)).mono ?_
    rintro e w1 ⟨rfl, f1⟩
    go_wp2_with fail
    refine (all_some b _ (hL0.fr f1) (by omega)).mono ?_
    rintro e w2 ⟨v2, rfl, f2⟩
    go_wp2_with fail
    refine (all_some (a ++ b) _ ((hL0.fr f1).fr f2) habs).mono ?_
    rintro e w3 ⟨v3, rfl, f3⟩
    go_wp2_with fail
    refine (wakes_any _ (((hL0.fr f1).fr f2).fr f3)).mono ?_
    rintro e w4 ⟨rfl, f4⟩
    go_wp2_with fail
    refine (right_no a _ ((((hL0.fr f1).fr f2).fr f3).fr f4) hmx c1).mono ?_
    rintro e w5 ⟨rfl, f5⟩
    go_wp2_with fail
    go_ret
    exact ⟨rfl, ((((hF0.trans f1).trans f2).trans f3).trans f4).trans f5⟩

set_option maxHeartbeats 1000000 in
theorem join_lg (a t : ByteArray) (w : World) (hL : Lead w) (hs : a.size ≤ maxLen) (ht : t.size ≤ maxLen) (h1 : a.size ≤ 100) (h2 : 100 < t.size) : Calls Tryd.prog 6 #[.string a, .string t] w fun e w' => e = .returned (.bool true) ∧ Fr w w' := by
  unfold maxLen at hs ht
  have ha : a.size ≤ 100 := by omega
  have hb : (t.extract 0 100).size ≤ 100 := by have := ints_length (t.extract 0 100); rw [ints_extract, List.length_take] at this; omega
  go_enter Tryd.func6, Tryd.ntmps6
  go_wp2
  go_region
  generalize t.extract 0 100 = b at *
  have hL0 : Lead w.drew := hL
  have hF0 : Fr w w.drew := Fr.drew w
  have hra := rall_le _ (ints a) (Nat.le_refl _) (ints_range a)
  have hrb := rall_le _ (ints b) (Nat.le_refl _) (ints_range b)
  rw [ints_length] at hra hrb
  have hab := size_append a b
  have hmx : a.size ≤ maxLen := by unfold maxLen; omega
  have hmy : b.size ≤ maxLen := by unfold maxLen; omega
  have hmz : (a ++ b).size ≤ maxLen := by unfold maxLen; omega
  have HAB : Hid ((a ++ b).size = a.size + b.size) := hab
  have habs : (a ++ b).size ≤ 1000000000 := by omega
  by_cases c1 : (rall (ints a)).2 = a.size
  · by_cases c2 : (rall (ints b)).2 = b.size
    · have hj : rall (ints (a ++ b)) = ((rall (ints a)).1 ++ (rall (ints b)).1, (a ++ b).size) := by
        rw [ints_append, rall_join _ _ (ints_range a) (ints_range b) (by rw [ints_length]; exact c1), ints_length, c2, hab]
      have hwh := all_whole (a ++ b)
      rw [hj] at hwh
      have C1 : Hid _ := c1
      have C2 : Hid _ := c2
      have HW : Hid _ := hwh
      have hl1 : (rall (ints a)).1.length ≤ 100 := by omega
      have hl2 : (rall (ints b)).1.length ≤ 100 := by omega
      clear c1 c2 hj hab hwh hra hrb
      go_wp2_with fail
      refine (all_whole a _ hL0 (by omega) C1.out).mono ?_
      rintro e w1 ⟨Ba, rfl, f1, sl1⟩
      generalize (rall (ints a)).1 = La at *
      go_wp2_with fail
      refine (all_whole b _ (hL0.fr f1) (by omega) C2.out).mono ?_
      rintro e w2 ⟨Bb, rfl, f2, sl2⟩
      generalize (rall (ints b)).1 = Lb at *
      go_wp2_with fail
      refine (HW.out w2 ((hL0.fr f1).fr f2) habs (by trivial)).mono ?_
      rintro e w3 ⟨Bc, rfl, f3, sl3⟩
      go_wp2_with fail
      refine (wakes_any _ (((hL0.fr f1).fr f2).fr f3)).mono ?_
      rintro e w4 ⟨rfl, f4⟩
      have sa := ((sl1.fr f2).fr f3).fr f4
      have sb := (sl2.fr f3).fr f4
      have sc := sl3.fr f4
      have fin : Fr w w4 := (((hF0.trans f1).trans f2).trans f3).trans f4
      have hl : (La ++ Lb).length = La.length + Lb.length := List.length_append
      clear sl1 sl2 sl3
      go_wp2_with fail
      go_loop [88] (fun i => ∃ k : Nat, k ≤ La.length + Lb.length ∧ i = .int .i64 k) (fun i => La.length + Lb.length - (intOf i).toNat)
      case atStart => exact ⟨0, by omega, rfl⟩
      case round =>
        obtain ⟨k, hk, rfl⟩ := hrel
        by_cases hlt : k < La.length + Lb.length
        · have hc := sc.2 k (by omega)
          by_cases hla : k < La.length
          · have hca := sa.2 k hla
            rw [getD_left _ _ _ hla] at hc
            generalize La.getD k 0 = x at *
            go_wp2_with fail
            go_round
            case rel => exact ⟨k + 1, by omega, by go_num⟩
            case measure => simp [intOf]; omega
          · obtain ⟨m, rfl⟩ : ∃ m, k = La.length + m := ⟨k - La.length, by omega⟩
            have hcb := sb.2 m (by omega)
            rw [getD_join _ _ _ (by omega), Nat.add_sub_cancel_left] at hc
            generalize Lb.getD m 0 = x at *
            go_wp2_with fail
            go_round
            case rel => exact ⟨La.length + m + 1, by omega, by go_num⟩
            case measure => simp [intOf]; omega
        · go_wp2_with fail
          go_ret
          exact ⟨rfl, fin⟩
    · have hj : (rall (ints (a ++ b))).2 = a.size + (rall (ints b)).2 := by
        rw [ints_append, rall_join _ _ (ints_range a) (ints_range b) (by rw [ints_length]; exact c1), ints_length]
      have hlt : (rall (ints (a ++ b))).2 < (a ++ b).size := by omega
      have hn := all_no (a ++ b)
      rw [hj] at hn hlt
      have C1 : Hid _ := c1
      have HN : Hid _ := hn
      have hbl : (rall (ints b)).2 < b.size := by omega
      clear c1 c2 hj hab hn
      go_wp2_with fail
      refine (all_whole a _ hL0 (by omega) C1.out).mono ?_
      rintro e w1 ⟨Ba, rfl, f1, sl1⟩
      go_wp2_with fail
      refine (all_no b _ (hL0.fr f1) hmy hbl).mono ?_
      rintro e w2 ⟨rfl, f2⟩
      go_wp2_with fail
      refine (HN.out w2 ((hL0.fr f1).fr f2) hmz hlt).mono ?_
      rintro e w3 ⟨rfl, f3⟩
      go_wp2_with fail
      refine (wakes_any _ (((hL0.fr f1).fr f2).fr f3)).mono ?_
      rintro e w4 ⟨rfl, f4⟩
      go_wp2_with fail
      go_ret
      exact ⟨by simp, (((hF0.trans f1).trans f2).trans f3).trans f4⟩
  · go_wp2_with fail
    refine (all_no a _ hL0 hmx (by omega)).mono ?_
    rintro e w1 ⟨rfl, f1⟩
    go_wp2_with fail
    refine (all_some b _ (hL0.fr f1) (by omega)).mono ?_
    rintro e w2 ⟨v2, rfl, f2⟩
    go_wp2_with fail
    refine (all_some (a ++ b) _ ((hL0.fr f1).fr f2) habs).mono ?_
    rintro e w3 ⟨v3, rfl, f3⟩
    go_wp2_with fail
    refine (wakes_any _ (((hL0.fr f1).fr f2).fr f3)).mono ?_
    rintro e w4 ⟨rfl, f4⟩
    go_wp2_with fail
    refine (right_no a _ ((((hL0.fr f1).fr f2).fr f3).fr f4) hmx c1).mono ?_
    rintro e w5 ⟨rfl, f5⟩
    go_wp2_with fail
    go_ret
    exact ⟨rfl, ((((hF0.trans f1).trans f2).trans f3).trans f4).trans f5⟩

set_option maxHeartbeats 1000000 in
theorem join_gl (s b : ByteArray) (w : World) (hL : Lead w) (hs : s.size ≤ maxLen) (ht : b.size ≤ maxLen) (h1 : 100 < s.size) (h2 : b.size ≤ 100) : Calls Tryd.prog 6 #[.string s, .string b] w fun e w' => e = .returned (.bool true) ∧ Fr w w' := by
  unfold maxLen at hs ht
  have ha : (s.extract 0 100).size ≤ 100 := by have := ints_length (s.extract 0 100); rw [ints_extract, List.length_take] at this; omega
  have hb : b.size ≤ 100 := by omega
  go_enter Tryd.func6, Tryd.ntmps6
  go_wp2
  go_region
  generalize s.extract 0 100 = a at *
  have hL0 : Lead w.drew := hL
  have hF0 : Fr w w.drew := Fr.drew w
  have hra := rall_le _ (ints a) (Nat.le_refl _) (ints_range a)
  have hrb := rall_le _ (ints b) (Nat.le_refl _) (ints_range b)
  rw [ints_length] at hra hrb
  have hab := size_append a b
  have hmx : a.size ≤ maxLen := by unfold maxLen; omega
  have hmy : b.size ≤ maxLen := by unfold maxLen; omega
  have hmz : (a ++ b).size ≤ maxLen := by unfold maxLen; omega
  have HAB : Hid ((a ++ b).size = a.size + b.size) := hab
  have habs : (a ++ b).size ≤ 1000000000 := by omega
  by_cases c1 : (rall (ints a)).2 = a.size
  · by_cases c2 : (rall (ints b)).2 = b.size
    · have hj : rall (ints (a ++ b)) = ((rall (ints a)).1 ++ (rall (ints b)).1, (a ++ b).size) := by
        rw [ints_append, rall_join _ _ (ints_range a) (ints_range b) (by rw [ints_length]; exact c1), ints_length, c2, hab]
      have hwh := all_whole (a ++ b)
      rw [hj] at hwh
      have C1 : Hid _ := c1
      have C2 : Hid _ := c2
      have HW : Hid _ := hwh
      have hl1 : (rall (ints a)).1.length ≤ 100 := by omega
      have hl2 : (rall (ints b)).1.length ≤ 100 := by omega
      clear c1 c2 hj hab hwh hra hrb
      go_wp2_with fail
      refine (all_whole a _ hL0 (by omega) C1.out).mono ?_
      rintro e w1 ⟨Ba, rfl, f1, sl1⟩
      generalize (rall (ints a)).1 = La at *
      go_wp2_with fail
      refine (all_whole b _ (hL0.fr f1) (by omega) C2.out).mono ?_
      rintro e w2 ⟨Bb, rfl, f2, sl2⟩
      generalize (rall (ints b)).1 = Lb at *
      go_wp2_with fail
      refine (HW.out w2 ((hL0.fr f1).fr f2) habs (by trivial)).mono ?_
      rintro e w3 ⟨Bc, rfl, f3, sl3⟩
      go_wp2_with fail
      refine (wakes_any _ (((hL0.fr f1).fr f2).fr f3)).mono ?_
      rintro e w4 ⟨rfl, f4⟩
      have sa := ((sl1.fr f2).fr f3).fr f4
      have sb := (sl2.fr f3).fr f4
      have sc := sl3.fr f4
      have fin : Fr w w4 := (((hF0.trans f1).trans f2).trans f3).trans f4
      have hl : (La ++ Lb).length = La.length + Lb.length := List.length_append
      clear sl1 sl2 sl3
      go_wp2_with fail
      go_loop [88] (fun i => ∃ k : Nat, k ≤ La.length + Lb.length ∧ i = .int .i64 k) (fun i => La.length + Lb.length - (intOf i).toNat)
      case atStart => exact ⟨0, by omega, rfl⟩
      case round =>
        obtain ⟨k, hk, rfl⟩ := hrel
        by_cases hlt : k < La.length + Lb.length
        · have hc := sc.2 k (by omega)
          by_cases hla : k < La.length
          · have hca := sa.2 k hla
            rw [getD_left _ _ _ hla] at hc
            generalize La.getD k 0 = x at *
            go_wp2_with fail
            go_round
            case rel => exact ⟨k + 1, by omega, by go_num⟩
            case measure => simp [intOf]; omega
          · obtain ⟨m, rfl⟩ : ∃ m, k = La.length + m := ⟨k - La.length, by omega⟩
            have hcb := sb.2 m (by omega)
            rw [getD_join _ _ _ (by omega), Nat.add_sub_cancel_left] at hc
            generalize Lb.getD m 0 = x at *
            go_wp2_with fail
            go_round
            case rel => exact ⟨La.length + m + 1, by omega, by go_num⟩
            case measure => simp [intOf]; omega
        · go_wp2_with fail
          go_ret
          exact ⟨rfl, fin⟩
    · have hj : (rall (ints (a ++ b))).2 = a.size + (rall (ints b)).2 := by
        rw [ints_append, rall_join _ _ (ints_range a) (ints_range b) (by rw [ints_length]; exact c1), ints_length]
      have hlt : (rall (ints (a ++ b))).2 < (a ++ b).size := by omega
      have hn := all_no (a ++ b)
      rw [hj] at hn hlt
      have C1 : Hid _ := c1
      have HN : Hid _ := hn
      have hbl : (rall (ints b)).2 < b.size := by omega
      clear c1 c2 hj hab hn
      go_wp2_with fail
      refine (all_whole a _ hL0 (by omega) C1.out).mono ?_
      rintro e w1 ⟨Ba, rfl, f1, sl1⟩
      go_wp2_with fail
      refine (all_no b _ (hL0.fr f1) hmy hbl).mono ?_
      rintro e w2 ⟨rfl, f2⟩
      go_wp2_with fail
      refine (HN.out w2 ((hL0.fr f1).fr f2) hmz hlt).mono ?_
      rintro e w3 ⟨rfl, f3⟩
      go_wp2_with fail
      refine (wakes_any _ (((hL0.fr f1).fr f2).fr f3)).mono ?_
      rintro e w4 ⟨rfl, f4⟩
      go_wp2_with fail
      go_ret
      exact ⟨by simp, (((hF0.trans f1).trans f2).trans f3).trans f4⟩
  · go_wp2_with fail
    refine (all_no a _ hL0 hmx (by omega)).mono ?_
    rintro e w1 ⟨rfl, f1⟩
    go_wp2_with fail
    refine (all_some b _ (hL0.fr f1) (by omega)).mono ?_
    rintro e w2 ⟨v2, rfl, f2⟩
    go_wp2_with fail
    refine (all_some (a ++ b) _ ((hL0.fr f1).fr f2) habs).mono ?_
    rintro e w3 ⟨v3, rfl, f3⟩
    go_wp2_with fail
    refine (wakes_any _ (((hL0.fr f1).fr f2).fr f3)).mono ?_
    rintro e w4 ⟨rfl, f4⟩
    go_wp2_with fail
    refine (right_no a _ ((((hL0.fr f1).fr f2).fr f3).fr f4) hmx c1).mono ?_
    rintro e w5 ⟨rfl, f5⟩
    go_wp2_with fail
    go_ret
    exact ⟨rfl, ((((hF0.trans f1).trans f2).trans f3).trans f4).trans f5⟩

set_option maxHeartbeats 1000000 in
theorem join_gg (s t : ByteArray) (w : World) (hL : Lead w) (hs : s.size ≤ maxLen) (ht : t.size ≤ maxLen) (h1 : 100 < s.size) (h2 : 100 < t.size) : Calls Tryd.prog 6 #[.string s, .string t] w fun e w' => e = .returned (.bool true) ∧ Fr w w' := by
  unfold maxLen at hs ht
  have ha : (s.extract 0 100).size ≤ 100 := by have := ints_length (s.extract 0 100); rw [ints_extract, List.length_take] at this; omega
  have hb : (t.extract 0 100).size ≤ 100 := by have := ints_length (t.extract 0 100); rw [ints_extract, List.length_take] at this; omega
  go_enter Tryd.func6, Tryd.ntmps6
  go_wp2
  go_region
  generalize s.extract 0 100 = a at *
  generalize t.extract 0 100 = b at *
  have hL0 : Lead w.drew := hL
  have hF0 : Fr w w.drew := Fr.drew w
  have hra := rall_le _ (ints a) (Nat.le_refl _) (ints_range a)
  have hrb := rall_le _ (ints b) (Nat.le_refl _) (ints_range b)
  rw [ints_length] at hra hrb
  have hab := size_append a b
  have hmx : a.size ≤ maxLen := by unfold maxLen; omega
  have hmy : b.size ≤ maxLen := by unfold maxLen; omega
  have hmz : (a ++ b).size ≤ maxLen := by unfold maxLen; omega
  have HAB : Hid ((a ++ b).size = a.size + b.size) := hab
  have habs : (a ++ b).size ≤ 1000000000 := by omega
  by_cases c1 : (rall (ints a)).2 = a.size
  · by_cases c2 : (rall (ints b)).2 = b.size
    · have hj : rall (ints (a ++ b)) = ((rall (ints a)).1 ++ (rall (ints b)).1, (a ++ b).size) := by
        rw [ints_append, rall_join _ _ (ints_range a) (ints_range b) (by rw [ints_length]; exact c1), ints_length, c2, hab]
      have hwh := all_whole (a ++ b)
      rw [hj] at hwh
      have C1 : Hid _ := c1
      have C2 : Hid _ := c2
      have HW : Hid _ := hwh
      have hl1 : (rall (ints a)).1.length ≤ 100 := by omega
      have hl2 : (rall (ints b)).1.length ≤ 100 := by omega
      clear c1 c2 hj hab hwh hra hrb
      go_wp2_with fail
      refine (all_whole a _ hL0 (by omega) C1.out).mono ?_
      rintro e w1 ⟨Ba, rfl, f1, sl1⟩
      generalize (rall (ints a)).1 = La at *
      go_wp2_with fail
      refine (all_whole b _ (hL0.fr f1) (by omega) C2.out).mono ?_
      rintro e w2 ⟨Bb, rfl, f2, sl2⟩
      generalize (rall (ints b)).1 = Lb at *
      go_wp2_with fail
      refine (HW.out w2 ((hL0.fr f1).fr f2) habs (by trivial)).mono ?_
      rintro e w3 ⟨Bc, rfl, f3, sl3⟩
      go_wp2_with fail
      refine (wakes_any _ (((hL0.fr f1).fr f2).fr f3)).mono ?_
      rintro e w4 ⟨rfl, f4⟩
      have sa := ((sl1.fr f2).fr f3).fr f4
      have sb := (sl2.fr f3).fr f4
      have sc := sl3.fr f4
      have fin : Fr w w4 := (((hF0.trans f1).trans f2).trans f3).trans f4
      have hl : (La ++ Lb).length = La.length + Lb.length := List.length_append
      clear sl1 sl2 sl3
      go_wp2_with fail
      go_loop [88] (fun i => ∃ k : Nat, k ≤ La.length + Lb.length ∧ i = .int .i64 k) (fun i => La.length + Lb.length - (intOf i).toNat)
      case atStart => exact ⟨0, by omega, rfl⟩
      case round =>
        obtain ⟨k, hk, rfl⟩ := hrel
        by_cases hlt : k < La.length + Lb.length
        · have hc := sc.2 k (by omega)
          by_cases hla : k < La.length
          · have hca := sa.2 k hla
            rw [getD_left _ _ _ hla] at hc
            generalize La.getD k 0 = x at *
            go_wp2_with fail
            go_round
            case rel => exact ⟨k + 1, by omega, by go_num⟩
            case measure => simp [intOf]; omega
          · obtain ⟨m, rfl⟩ : ∃ m, k = La.length + m := ⟨k - La.length, by omega⟩
            have hcb := sb.2 m (by omega)
            rw [getD_join _ _ _ (by omega), Nat.add_sub_cancel_left] at hc
            generalize Lb.getD m 0 = x at *
            go_wp2_with fail
            go_round
            case rel => exact ⟨La.length + m + 1, by omega, by go_num⟩
            case measure => simp [intOf]; omega
        · go_wp2_with fail
          go_ret
          exact ⟨rfl, fin⟩
    · have hj : (rall (ints (a ++ b))).2 = a.size + (rall (ints b)).2 := by
        rw [ints_append, rall_join _ _ (ints_range a) (ints_range b) (by rw [ints_length]; exact c1), ints_length]
      have hlt : (rall (ints (a ++ b))).2 < (a ++ b).size := by omega
      have hn := all_no (a ++ b)
      rw [hj] at hn hlt
      have C1 : Hid _ := c1
      have HN : Hid _ := hn
      have hbl : (rall (ints b)).2 < b.size := by omega
      clear c1 c2 hj hab hn
      go_wp2_with fail
      refine (all_whole a _ hL0 (by omega) C1.out).mono ?_
      rintro e w1 ⟨Ba, rfl, f1, sl1⟩
      go_wp2_with fail
      refine (all_no b _ (hL0.fr f1) hmy hbl).mono ?_
      rintro e w2 ⟨rfl, f2⟩
      go_wp2_with fail
      refine (HN.out w2 ((hL0.fr f1).fr f2) hmz hlt).mono ?_
      rintro e w3 ⟨rfl, f3⟩
      go_wp2_with fail
      refine (wakes_any _ (((hL0.fr f1).fr f2).fr f3)).mono ?_
      rintro e w4 ⟨rfl, f4⟩
      go_wp2_with fail
      go_ret
      exact ⟨by simp, (((hF0.trans f1).trans f2).trans f3).trans f4⟩
  · go_wp2_with fail
    refine (all_no a _ hL0 hmx (by omega)).mono ?_
    rintro e w1 ⟨rfl, f1⟩
    go_wp2_with fail
    refine (all_some b _ (hL0.fr f1) (by omega)).mono ?_
    rintro e w2 ⟨v2, rfl, f2⟩
    go_wp2_with fail
    refine (all_some (a ++ b) _ ((hL0.fr f1).fr f2) habs).mono ?_
    rintro e w3 ⟨v3, rfl, f3⟩
    go_wp2_with fail
    refine (wakes_any _ (((hL0.fr f1).fr f2).fr f3)).mono ?_
    rintro e w4 ⟨rfl, f4⟩
    go_wp2_with fail
    refine (right_no a _ ((((hL0.fr f1).fr f2).fr f3).fr f4) hmx c1).mono ?_
    rintro e w5 ⟨rfl, f5⟩
    go_wp2_with fail
    go_ret
    exact ⟨rfl, ((((hF0.trans f1).trans f2).trans f3).trans f4).trans f5⟩

theorem law_RunesJoin (s t : ByteArray) (w : World) (hs : s.size ≤ maxLen) (ht : t.size ≤ maxLen) (hL : Lead w) : Calls Tryd.prog 6 #[.string s, .string t] w fun e w' => e = .returned (.bool true) ∧ Fr w w' := by
  by_cases h1 : s.size ≤ 100
  · by_cases h2 : t.size ≤ 100
    · exact join_ll s t w hL hs ht h1 h2
    · exact join_lg s t w hL hs ht h1 (by omega)
  · by_cases h2 : t.size ≤ 100
    · exact join_gl s t w hL hs ht (by omega) h2
    · exact join_gg s t w hL hs ht (by omega) (by omega)
end Go.Proofs.YtaiklflnciibmaaDoor
