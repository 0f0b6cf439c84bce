/- The walk of the document's First for layer 1 (RunesR on RunesD alone). -/
import Derived.Test.YtaokmegoheofjaaDoorRunesD
import Derived.Test.YtaokmegoheofjaaDoorRunesQ
namespace Go.Proofs.YtaokmegoheofjaaDoor
set_option linter.unusedVariables false
set_option linter.unusedSimpArgs false
open Go.RowKit
theorem isB_iff (n : Int) : isB n = true ↔ rsize n ≠ 0 := by unfold isB; simp
theorem isB_bd (n : Int) (h : isB n = true) : 0 ≤ n ∧ n ≤ 1114111 := by
  have := (isB_iff n).1 h
  have := rsize_cases n
  omega
theorem is_yes (n : Int) (w : World) (h : isB n = true) : Calls Tryd.prog 54 #[.int .i64 n] w fun e w' => e = .returned (.bool true) ∧ w' = w := by
  have := is_any n w
  rwa [h] at this
theorem is_no (n : Int) (w : World) (h : isB n = false) : Calls Tryd.prog 54 #[.int .i64 n] w fun e w' => e = .returned (.bool false) ∧ w' = w := by
  have := is_any n w
  rwa [h] at this

theorem test_yes (l : List Int) (k : Nat) (V : Int) (hk : k ≤ l.length) (hv : rsize V ≠ 0) (h : nums V = l.take k) : rfirst l = (V, (k : Int), true) := by
  have h1 := nums_length V hv
  rw [h, List.length_take, Nat.min_eq_left hk] at h1
  have h2 := rfirst_nums V hv (l.drop k)
  rw [h, List.take_append_drop] at h2
  rw [h2, h1]

theorem rfirst_told (l : List Int) (hl : ∀ x ∈ l, 0 ≤ x ∧ x ≤ 255) (n c : Int) (h : rfirst l = (n, c, true)) : rsize n ≠ 0 ∧ rsize n = c ∧ nums n = l.take (rsize n).toNat ∧ rsize n ≤ l.length := by
  rcases rfirst_cases l hl with h' | ⟨m, t, hm, rfl, h'⟩
  · rw [h'] at h; simp at h
  · rw [h'] at h
    simp only [Prod.mk.injEq] at h
    obtain ⟨rfl, h2, _⟩ := h
    have h1 := nums_length m hm
    refine ⟨hm, h2, ?_, ?_⟩
    · rw [show (rsize m).toNat = (nums m).length by omega, List.take_left]
    · rw [List.length_append]; omega

theorem str_eq (a b : ByteArray) : (a.toList == b.toList) = true ↔ ints a = ints b := by
  rw [ByteArray.toList_eq, ByteArray.toList_eq, beq_iff_eq]
  constructor
  · intro h; unfold ints; rw [h]
  · intro h
    have := ints_inj h
    rw [this]

theorem take_1 (l : List Int) (h : 1 ≤ l.length) : l.take 1 = [l[0]?.getD 0] := by
  match l, h with
  | a :: t, _ => simp
theorem take_2 (l : List Int) (h : 2 ≤ l.length) : l.take 2 = [l[0]?.getD 0, l[1]?.getD 0] := by
  match l, h with
  | a :: b :: t, _ => simp
theorem take_3 (l : List Int) (h : 3 ≤ l.length) : l.take 3 = [l[0]?.getD 0, l[1]?.getD 0, l[2]?.getD 0] := by
  match l, h with
  | a :: b :: c :: t, _ => simp
theorem take_4 (l : List Int) (h : 4 ≤ l.length) : l.take 4 = [l[0]?.getD 0, l[1]?.getD 0, l[2]?.getD 0, l[3]?.getD 0] := by
  match l, h with
  | a :: b :: c :: d :: t, _ => simp

theorem val_1 (n b0 : Int) (h : rsize n = 1) (e : nums n = [b0]) : b0 = n := by
  have := rsize_cases n
  rw [nums, if_pos (by omega)] at e
  simp at e; omega
theorem val_2 (n b0 b1 : Int) (h : rsize n = 2) (e : nums n = [b0, b1]) : 64 * (b0 - 192) + b1 - 128 = n := by
  have := rsize_cases n
  rw [nums, if_neg (by omega), if_pos (by omega)] at e
  simp at e; omega
theorem val_3 (n b0 b1 b2 : Int) (h : rsize n = 3) (e : nums n = [b0, b1, b2]) : 64 * (64 * (b0 - 224) + b1 - 128) + b2 - 128 = n := by
  have := rsize_cases n
  rw [nums, if_neg (by omega), if_neg (by omega), if_pos (by omega)] at e
  simp at e; omega
theorem val_4 (n b0 b1 b2 b3 : Int) (h : rsize n = 4) (e : nums n = [b0, b1, b2, b3]) : 64 * (64 * (64 * (b0 - 240) + b1 - 128) + b2 - 128) + b3 - 128 = n := by
  have := rsize_cases n
  rw [nums, if_neg (by omega), if_neg (by omega), if_neg (by omega)] at e
  simp at e; omega

theorem at_range (s : ByteArray) (k : Nat) (h : k < s.size) : 0 ≤ (ints s)[k]?.getD 0 ∧ (ints s)[k]?.getD 0 ≤ 255 := by
  rw [← at_ints s k h]
  have := s[k].toNat_lt
  omega

theorem ints_ext0 (s : ByteArray) (k : Nat) : ints (s.extract 0 k) = (ints s).take k := by
  rw [ints_extract]; simp

/-- A width at which the test fails is not the sign's. -/
theorem not_width (l : List Int) (hl : ∀ x ∈ l, 0 ≤ x ∧ x ≤ 255) (k : Nat) (V : Int) (hV : ∀ n, rsize n = k → nums n = l.take k → V = n) (h : isB V = false ∨ (isB V = true ∧ nums V ≠ l.take k)) : ∀ n, rfirst l ≠ (n, (k : Int), true) := by
  intro n hn
  obtain ⟨h1, h2, h3, h4⟩ := rfirst_told l hl n k hn
  rw [show (rsize n).toNat = k by omega] at h3
  have := hV n h2 h3
  subst this
  rcases h with h | h
  · have := (isB_iff V).2 h1; rw [h] at this; simp at this
  · exact h.2 h3

set_option maxHeartbeats 4000000 in
set_option maxRecDepth 4000 in
theorem refFirst_any (s : ByteArray) (w : World) (hs : s.size ≤ maxLen) : Calls Tryd.prog 40 #[.string s] w fun e w' => e = .returned (.tuple #[.int .i64 (rfirst (ints s)).1, .int .i64 (rfirst (ints s)).2.1, .bool (rfirst (ints s)).2.2]) ∧ Fr w w' := by
  unfold maxLen at hs
  have HZ : Hid ((ints s).length = s.size) := ints_length s
  by_cases h0 : s.size = 0
  · have e0 : ints s = [] := List.length_eq_zero_iff.1 (by rw [HZ.out]; exact h0)
    have HE : Hid _ := e0
    have hz : ((s.size : Int) == 0) = true := by rw [beq_iff_eq]; omega
    clear e0
    go_enter Tryd.func40, Tryd.ntmps40
    go_wp2
    go_ret3
    rw [HE.out]
    exact ⟨rfl, Fr.refl _⟩
  have hz : ((s.size : Int) == 0) = false := by rw [beq_eq_false_iff_ne]; omega
  go_enter Tryd.func40, Tryd.ntmps40
  go_wp2_with fail
  go_loopw [5] (fun x wr => ∃ k : Nat, 1 ≤ k ∧ k ≤ 5 ∧ x = .int .i64 k ∧ (∀ j : Nat, 1 ≤ j → j < k → ∀ n, rfirst (ints s) ≠ (n, (j : Int), true)) ∧ Fr w wr) (fun x _ => 5 - (intOf x).toNat)
  case atStart => exact ⟨1, by omega, by omega, rfl, fun j h1 h2 => by omega, Fr.refl _⟩
  case round =>
    obtain ⟨k, h1, h2, rfl, hno', hF⟩ := hrel
    have hno : Hid (∀ j : Nat, 1 ≤ j → j < k → ∀ n, rfirst (ints s) ≠ (n, (j : Int), true)) := hno'
    clear hno'
    by_cases hle : k ≤ 4 ∧ k ≤ s.size
    · obtain ⟨hk4, hks⟩ := hle
      rcases (by omega : k = 1 ∨ k = 2 ∨ k = 3 ∨ k = 4) with rfl | rfl | rfl | rfl
      · -- width 1
        have r0 := at_range s 0 (by omega)
        have q0 := at_ints s 0 (by omega)
        have htk := take_1 (ints s) (by rw [HZ.out]; omega)
        generalize (ints s)[0]?.getD 0 = b0 at *
        have hV : Hid (∀ n, rsize n = ((1 : Nat) : Int) → nums n = (ints s).take 1 → b0 = n) := fun n h1 h2 => val_1 n b0 h1 (by rw [h2, htk])
        have HTK : Hid _ := htk
        clear htk
        cases hb : isB b0
        · have HB : Hid (isB b0 = false) := hb
          clear hb
          go_wp2_with fail
          refine wp_loop_rounds 2 ?_
          repeat any_goals (rw [rounds_succ]; go_wp2_with fail)
          refine (is_no _ _ HB.out).mono ?_
          rintro e w1 ⟨rfl, rfl⟩
          go_wp2_with fail
          go_roundw
          case rel => exact ⟨2, by omega, by omega, by go_num, fun j h1 h2 => by
            rcases Nat.lt_or_ge j 1 with h | h
            · exact hno.out j h1 h
            · have : j = 1 := by omega
              subst this
              exact not_width _ (ints_range s) 1 _ hV.out (.inl HB.out), hF⟩
          case measure => simp [intOf]
        · have HB : Hid (isB b0 = true) := hb
          have hv := (isB_iff _).1 hb
          have HV : Hid _ := hv
          clear hb hv
          cases hE : ((strOfNums (nums b0)).toList == (s.extract 0 1).toList)
          · go_wp2_with fail
            refine wp_loop_rounds 2 ?_
            repeat any_goals (rw [rounds_succ]; go_wp2_with fail)
            refine (is_yes _ _ HB.out).mono ?_
            rintro e w1 ⟨rfl, rfl⟩
            go_wp2_with fail
            refine (refText_any _ _ (isB_bd _ HB.out).1 (isB_bd _ HB.out).2).mono ?_
            rintro e w2 ⟨rfl, hF2⟩
            go_wp2_with fail
            go_roundw
            case rel => exact ⟨2, by omega, by omega, by go_num, fun j h1 h2 => by
              rcases Nat.lt_or_ge j 1 with h | h
              · exact hno.out j h1 h
              · have : j = 1 := by omega
                subst this
                refine not_width _ (ints_range s) 1 _ hV.out (.inr ⟨HB.out, fun hh => ?_⟩)
                have := (str_eq (strOfNums (nums b0)) (s.extract 0 1)).2 (by rw [ints_nums _ (nums_range _ HV.out), ints_ext0, hh])
                rw [hE] at this; simp at this, hF.trans hF2⟩
            case measure => simp [intOf]
          · have hfs : rfirst (ints s) = (b0, ((1 : Nat) : Int), true) := by
              refine test_yes _ 1 _ (by rw [HZ.out]; omega) HV.out ?_
              have := (str_eq (strOfNums (nums b0)) (s.extract 0 1)).1 hE
              rwa [ints_nums _ (nums_range _ HV.out), ints_ext0] at this
            have HFS : Hid _ := hfs
            clear hfs
            go_wp2_with fail
            refine wp_loop_rounds 2 ?_
            repeat any_goals (rw [rounds_succ]; go_wp2_with fail)
            refine (is_yes _ _ HB.out).mono ?_
            rintro e w1 ⟨rfl, rfl⟩
            go_wp2_with fail
            refine (refText_any _ _ (isB_bd _ HB.out).1 (isB_bd _ HB.out).2).mono ?_
            rintro e w2 ⟨rfl, hF2⟩
            go_wp2_with fail
            go_ret3
            refine ⟨?_, hF.trans hF2⟩
            rw [HFS.out]
            rfl
      · -- width 2
        have r0 := at_range s 0 (by omega)
        have q0 := at_ints s 0 (by omega)
        have r1 := at_range s 1 (by omega)
        have q1 := at_ints s 1 (by omega)
        have htk := take_2 (ints s) (by rw [HZ.out]; omega)
        generalize (ints s)[0]?.getD 0 = b0 at *
        generalize (ints s)[1]?.getD 0 = b1 at *
        have hV : Hid (∀ n, rsize n = ((2 : Nat) : Int) → nums n = (ints s).take 2 → (64 * (b0 - 192) + b1 - 128) = n) := fun n h1 h2 => val_2 n b0 b1 h1 (by rw [h2, htk])
        have HTK : Hid _ := htk
        clear htk
        cases hb : isB (64 * (b0 - 192) + b1 - 128)
        · have HB : Hid (isB (64 * (b0 - 192) + b1 - 128) = false) := hb
          clear hb
          go_wp2_with fail
          refine wp_loop_rounds 3 ?_
          repeat any_goals (rw [rounds_succ]; go_wp2_with fail)
          refine (is_no _ _ HB.out).mono ?_
          rintro e w1 ⟨rfl, rfl⟩
          go_wp2_with fail
          go_roundw
          case rel => exact ⟨3, by omega, by omega, by go_num, fun j h1 h2 => by
            rcases Nat.lt_or_ge j 2 with h | h
            · exact hno.out j h1 h
            · have : j = 2 := by omega
              subst this
              exact not_width _ (ints_range s) 2 _ hV.out (.inl HB.out), hF⟩
          case measure => simp [intOf]
        · have HB : Hid (isB (64 * (b0 - 192) + b1 - 128) = true) := hb
          have hv := (isB_iff _).1 hb
          have HV : Hid _ := hv
          clear hb hv
          cases hE : ((strOfNums (nums (64 * (b0 - 192) + b1 - 128))).toList == (s.extract 0 2).toList)
          · go_wp2_with fail
            refine wp_loop_rounds 3 ?_
            repeat any_goals (rw [rounds_succ]; go_wp2_with fail)
            refine (is_yes _ _ HB.out).mono ?_
            rintro e w1 ⟨rfl, rfl⟩
            go_wp2_with fail
            refine (refText_any _ _ (isB_bd _ HB.out).1 (isB_bd _ HB.out).2).mono ?_
            rintro e w2 ⟨rfl, hF2⟩
            go_wp2_with fail
            go_roundw
            case rel => exact ⟨3, by omega, by omega, by go_num, fun j h1 h2 => by
              rcases Nat.lt_or_ge j 2 with h | h
              · exact hno.out j h1 h
              · have : j = 2 := by omega
                subst this
                refine not_width _ (ints_range s) 2 _ hV.out (.inr ⟨HB.out, fun hh => ?_⟩)
                have := (str_eq (strOfNums (nums (64 * (b0 - 192) + b1 - 128))) (s.extract 0 2)).2 (by rw [ints_nums _ (nums_range _ HV.out), ints_ext0, hh])
                rw [hE] at this; simp at this, hF.trans hF2⟩
            case measure => simp [intOf]
          · have hfs : rfirst (ints s) = ((64 * (b0 - 192) + b1 - 128), ((2 : Nat) : Int), true) := by
              refine test_yes _ 2 _ (by rw [HZ.out]; omega) HV.out ?_
              have := (str_eq (strOfNums (nums (64 * (b0 - 192) + b1 - 128))) (s.extract 0 2)).1 hE
              rwa [ints_nums _ (nums_range _ HV.out), ints_ext0] at this
            have HFS : Hid _ := hfs
            clear hfs
            go_wp2_with fail
            refine wp_loop_rounds 3 ?_
            repeat any_goals (rw [rounds_succ]; go_wp2_with fail)
            refine (is_yes _ _ HB.out).mono ?_
            rintro e w1 ⟨rfl, rfl⟩
            go_wp2_with fail
            refine (refText_any _ _ (isB_bd _ HB.out).1 (isB_bd _ HB.out).2).mono ?_
            rintro e w2 ⟨rfl, hF2⟩
            go_wp2_with fail
            go_ret3
            refine ⟨?_, hF.trans hF2⟩
            rw [HFS.out]
            rfl
      · -- width 3
        have r0 := at_range s 0 (by omega)
        have q0 := at_ints s 0 (by omega)
        have r1 := at_range s 1 (by omega)
        have q1 := at_ints s 1 (by omega)
        have r2 := at_range s 2 (by omega)
        have q2 := at_ints s 2 (by omega)
        have htk := take_3 (ints s) (by rw [HZ.out]; omega)
        generalize (ints s)[0]?.getD 0 = b0 at *
        generalize (ints s)[1]?.getD 0 = b1 at *
        generalize (ints s)[2]?.getD 0 = b2 at *
        have hV : Hid (∀ n, rsize n = ((3 : Nat) : Int) → nums n = (ints s).take 3 → (64 * (64 * (b0 - 224) + b1 - 128) + b2 - 128) = n) := fun n h1 h2 => val_3 n b0 b1 b2 h1 (by rw [h2, htk])
        have HTK : Hid _ := htk
        clear htk
        cases hb : isB (64 * (64 * (b0 - 224) + b1 - 128) + b2 - 128)
        · have HB : Hid (isB (64 * (64 * (b0 - 224) + b1 - 128) + b2 - 128) = false) := hb
          clear hb
          go_wp2_with fail
          refine wp_loop_rounds 4 ?_
          repeat any_goals (rw [rounds_succ]; go_wp2_with fail)
          refine (is_no _ _ HB.out).mono ?_
          rintro e w1 ⟨rfl, rfl⟩
          go_wp2_with fail
          go_roundw
          case rel => exact ⟨4, by omega, by omega, by go_num, fun j h1 h2 => by
            rcases Nat.lt_or_ge j 3 with h | h
            · exact hno.out j h1 h
            · have : j = 3 := by omega
              subst this
              exact not_width _ (ints_range s) 3 _ hV.out (.inl HB.out), hF⟩
          case measure => simp [intOf]
        · have HB : Hid (isB (64 * (64 * (b0 - 224) + b1 - 128) + b2 - 128) = true) := hb
          have hv := (isB_iff _).1 hb
          have HV : Hid _ := hv
          clear hb hv
          cases hE : ((strOfNums (nums (64 * (64 * (b0 - 224) + b1 - 128) + b2 - 128))).toList == (s.extract 0 3).toList)
          · go_wp2_with fail
            refine wp_loop_rounds 4 ?_
            repeat any_goals (rw [rounds_succ]; go_wp2_with fail)
            refine (is_yes _ _ HB.out).mono ?_
            rintro e w1 ⟨rfl, rfl⟩
            go_wp2_with fail
            refine (refText_any _ _ (isB_bd _ HB.out).1 (isB_bd _ HB.out).2).mono ?_
            rintro e w2 ⟨rfl, hF2⟩
            go_wp2_with fail
            go_roundw
            case rel => exact ⟨4, by omega, by omega, by go_num, fun j h1 h2 => by
              rcases Nat.lt_or_ge j 3 with h | h
              · exact hno.out j h1 h
              · have : j = 3 := by omega
                subst this
                refine not_width _ (ints_range s) 3 _ hV.out (.inr ⟨HB.out, fun hh => ?_⟩)
                have := (str_eq (strOfNums (nums (64 * (64 * (b0 - 224) + b1 - 128) + b2 - 128))) (s.extract 0 3)).2 (by rw [ints_nums _ (nums_range _ HV.out), ints_ext0, hh])
                rw [hE] at this; simp at this, hF.trans hF2⟩
            case measure => simp [intOf]
          · have hfs : rfirst (ints s) = ((64 * (64 * (b0 - 224) + b1 - 128) + b2 - 128), ((3 : Nat) : Int), true) := by
              refine test_yes _ 3 _ (by rw [HZ.out]; omega) HV.out ?_
              have := (str_eq (strOfNums (nums (64 * (64 * (b0 - 224) + b1 - 128) + b2 - 128))) (s.extract 0 3)).1 hE
              rwa [ints_nums _ (nums_range _ HV.out), ints_ext0] at this
            have HFS : Hid _ := hfs
            clear hfs
            go_wp2_with fail
            refine wp_loop_rounds 4 ?_
            repeat any_goals (rw [rounds_succ]; go_wp2_with fail)
            refine (is_yes _ _ HB.out).mono ?_
            rintro e w1 ⟨rfl, rfl⟩
            go_wp2_with fail
            refine (refText_any _ _ (isB_bd _ HB.out).1 (isB_bd _ HB.out).2).mono ?_
            rintro e w2 ⟨rfl, hF2⟩
            go_wp2_with fail
            go_ret3
            refine ⟨?_, hF.trans hF2⟩
            rw [HFS.out]
            rfl
      · -- width 4
        have r0 := at_range s 0 (by omega)
        have q0 := at_ints s 0 (by omega)
        have r1 := at_range s 1 (by omega)
        have q1 := at_ints s 1 (by omega)
        have r2 := at_range s 2 (by omega)
        have q2 := at_ints s 2 (by omega)
        have r3 := at_range s 3 (by omega)
        have q3 := at_ints s 3 (by omega)
        have htk := take_4 (ints s) (by rw [HZ.out]; omega)
        generalize (ints s)[0]?.getD 0 = b0 at *
        generalize (ints s)[1]?.getD 0 = b1 at *
        generalize (ints s)[2]?.getD 0 = b2 at *
        generalize (ints s)[3]?.getD 0 = b3 at *
        have hV : Hid (∀ n, rsize n = ((4 : Nat) : Int) → nums n = (ints s).take 4 → (64 * (64 * (64 * (b0 - 240) + b1 - 128) + b2 - 128) + b3 - 128) = n) := fun n h1 h2 => val_4 n b0 b1 b2 b3 h1 (by rw [h2, htk])
        have HTK : Hid _ := htk
        clear htk
        cases hb : isB (64 * (64 * (64 * (b0 - 240) + b1 - 128) + b2 - 128) + b3 - 128)
        · have HB : Hid (isB (64 * (64 * (64 * (b0 - 240) + b1 - 128) + b2 - 128) + b3 - 128) = false) := hb
          clear hb
          go_wp2_with fail
          refine wp_loop_rounds 5 ?_
          repeat any_goals (rw [rounds_succ]; go_wp2_with fail)
          refine (is_no _ _ HB.out).mono ?_
          rintro e w1 ⟨rfl, rfl⟩
          go_wp2_with fail
          go_roundw
          case rel => exact ⟨5, by omega, by omega, by go_num, fun j h1 h2 => by
            rcases Nat.lt_or_ge j 4 with h | h
            · exact hno.out j h1 h
            · have : j = 4 := by omega
              subst this
              exact not_width _ (ints_range s) 4 _ hV.out (.inl HB.out), hF⟩
          case measure => simp [intOf]
        · have HB : Hid (isB (64 * (64 * (64 * (b0 - 240) + b1 - 128) + b2 - 128) + b3 - 128) = true) := hb
          have hv := (isB_iff _).1 hb
          have HV : Hid _ := hv
          clear hb hv
          cases hE : ((strOfNums (nums (64 * (64 * (64 * (b0 - 240) + b1 - 128) + b2 - 128) + b3 - 128))).toList == (s.extract 0 4).toList)
          · go_wp2_with fail
            refine wp_loop_rounds 5 ?_
            repeat any_goals (rw [rounds_succ]; go_wp2_with fail)
            refine (is_yes _ _ HB.out).mono ?_
            rintro e w1 ⟨rfl, rfl⟩
            go_wp2_with fail
            refine (refText_any _ _ (isB_bd _ HB.out).1 (isB_bd _ HB.out).2).mono ?_
            rintro e w2 ⟨rfl, hF2⟩
            go_wp2_with fail
            go_roundw
            case rel => exact ⟨5, by omega, by omega, by go_num, fun j h1 h2 => by
              rcases Nat.lt_or_ge j 4 with h | h
              · exact hno.out j h1 h
              · have : j = 4 := by omega
                subst this
                refine not_width _ (ints_range s) 4 _ hV.out (.inr ⟨HB.out, fun hh => ?_⟩)
                have := (str_eq (strOfNums (nums (64 * (64 * (64 * (b0 - 240) + b1 - 128) + b2 - 128) + b3 - 128))) (s.extract 0 4)).2 (by rw [ints_nums _ (nums_range _ HV.out), ints_ext0, hh])
                rw [hE] at this; simp at this, hF.trans hF2⟩
            case measure => simp [intOf]
          · have hfs : rfirst (ints s) = ((64 * (64 * (64 * (b0 - 240) + b1 - 128) + b2 - 128) + b3 - 128), ((4 : Nat) : Int), true) := by
              refine test_yes _ 4 _ (by rw [HZ.out]; omega) HV.out ?_
              have := (str_eq (strOfNums (nums (64 * (64 * (64 * (b0 - 240) + b1 - 128) + b2 - 128) + b3 - 128))) (s.extract 0 4)).1 hE
              rwa [ints_nums _ (nums_range _ HV.out), ints_ext0] at this
            have HFS : Hid _ := hfs
            clear hfs
            go_wp2_with fail
            refine wp_loop_rounds 5 ?_
            repeat any_goals (rw [rounds_succ]; go_wp2_with fail)
            refine (is_yes _ _ HB.out).mono ?_
            rintro e w1 ⟨rfl, rfl⟩
            go_wp2_with fail
            refine (refText_any _ _ (isB_bd _ HB.out).1 (isB_bd _ HB.out).2).mono ?_
            rintro e w2 ⟨rfl, hF2⟩
            go_wp2_with fail
            go_ret3
            refine ⟨?_, hF.trans hF2⟩
            rw [HFS.out]
            rfl
    · have hend : rfirst (ints s) = (0, 0, false) := by
        rcases rfirst_cases (ints s) (ints_range s) with h | ⟨m, t, hm, ht, h⟩
        · exact h
        · exfalso
          obtain ⟨_, _, _, h4⟩ := rfirst_told _ (ints_range s) _ _ h
          have := rsize_cases m
          rw [HZ.out] at h4
          exact hno.out (rsize m).toNat (by omega) (by omega) m (by rw [h]; simp; omega)
      have HEN : Hid _ := hend
      clear hend
      by_cases hk4 : k ≤ 4
      · have hks : s.size < k := by omega
        go_wp2_with fail
        go_ret3
        rw [HEN.out]
        exact ⟨rfl, hF⟩
      · go_wp2_with fail
        go_ret3
        rw [HEN.out]
        exact ⟨rfl, hF⟩
end Go.Proofs.YtaokmegoheofjaaDoor
