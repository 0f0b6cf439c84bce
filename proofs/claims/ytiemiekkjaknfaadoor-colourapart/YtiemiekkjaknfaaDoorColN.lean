/- The names of colours: Name and Number, the program's and the document's. -/
import Derived.Test.YtiemiekkjaknfaaDoorColB
import Derived.Test.YtiemiekkjaknfaaDoorColD
namespace Go.Proofs.YtiemiekkjaknfaaDoor
set_option linter.unusedVariables false
set_option linter.unusedSimpArgs false
open Go.RowKit
attribute [local go_sem] conv1 conv2

/-- The variables that layer 12 reads. -/
structure Led12 (w : World) : Prop where
  u : U8 w
  f : Folds w
  n : ∀ j, j < 8 → w.cell? ⟨0, j, none⟩ = some (.string (strOfNums (nameL (j + 1))))
  m : MaxOk w
  e : ∃ ev, w.cell? ⟨8, 0, none⟩ = some ev ∧ (ev = .nilIface ∨ ∃ te pe, ev = .iface te pe)
  d : w.cell? ⟨11, 15, none⟩ = some (.int .u8 4)
theorem Led12.fr {w w' : World} (h : Led12 w) (k : Fr w w') : Led12 w' := by
  obtain ⟨ev, he, hv⟩ := h.e
  exact ⟨h.u.fr k, h.f.fr k, fun j hj => fr_cell' k (h.n j hj), h.m.fr k, ⟨ev, fr_cell' k he, hv⟩, fr_cell' k h.d⟩

theorem nameI_range (n : Int) : ∀ x ∈ nameI n, 0 ≤ x ∧ x ≤ 255 := fun x hx => by have := (nameI_facts n).2.2 x hx; omega
theorem nameI_ints (n : Int) : ints (strOfNums (nameI n)) = nameI n := ints_nums _ (nameI_range n)
theorem nameI_size (n : Int) : (strOfNums (nameI n)).size ≤ 7 := by
  have := ints_length (strOfNums (nameI n))
  rw [nameI_ints] at this
  have := (nameI_facts n).1
  omega
theorem nameI_asc (n : Int) : Asc (strOfNums (nameI n)) := by
  rw [asc_ints, nameI_ints]
  intro x hx
  have := (nameI_facts n).2.2 x hx
  omega
theorem nameI_out (n : Int) (h : ¬ (1 ≤ n ∧ n ≤ 64)) : nameI n = [] := by unfold nameI; rw [if_neg h]
theorem nameI_big (i : Nat) (h0 : 1 ≤ i) (h1 : i ≤ 56) : nameI ((i : Int) + 8) = [67, 111, 108, 111, 114] ++ dec2 i := by
  rw [show ((i : Int) + 8) = ((i + 8 : Nat) : Int) by omega, nameI_nat _ (by omega) (by omega)]
  unfold nameL
  rw [if_neg (by omega), if_neg (by omega), if_neg (by omega), if_neg (by omega), if_neg (by omega), if_neg (by omega), if_neg (by omega), if_neg (by omega), if_pos (by omega), Nat.add_sub_cancel]
theorem dec_digits (i : Nat) (h1 : i ≤ 99) : ints ⟨(Lib.decDigits i).toArray⟩ = dec2 i := by
  rw [ints_mk, Lib.decDigits]
  unfold dec2
  have hb : ∀ k : Nat, k ≤ 255 → ((UInt8.ofNat k).toNat : Int) = (k : Int) := fun k hk => by rw [UInt8.toNat_ofNat']; omega
  by_cases h : i < 10
  · rw [dif_pos h, if_pos h, List.map_singleton, hb _ (by omega)]
    simp
  · rw [dif_neg h, if_neg h, Lib.decDigits, dif_pos (by omega), List.map_append, List.map_singleton, List.map_singleton, hb _ (by omega), hb _ (by omega)]
    simp
theorem name_text (i : Nat) (h0 : 1 ≤ i) (h1 : i ≤ 56) : (⟨#[67, 111, 108, 111, 114]⟩ : ByteArray) ++ ⟨(Lib.decDigits i).toArray⟩ = strOfNums (nameI ((i : Int) + 8)) := by
  refine str_of ?_
  rw [ints_append, dec_digits i (by omega), nameI_big i h0 h1]
  rfl

set_option maxHeartbeats 1000000 in
set_option maxRecDepth 4000 in
theorem name_any (n : Int) (w : World) (hL : Led12 w) : Calls Tryd.prog 9 #[.int .i64 n] w fun e w' => e = .returned (.string (strOfNums (nameI n))) ∧ Fr w w' := by
  by_cases h1 : n < 1
  · rw [nameI_out n (by omega), str_nil]
    go_enter Tryd.func9, Tryd.ntmps9
    go_wp2_with fail
    go_ret
    exact ⟨rfl, Fr.refl _⟩
  · by_cases h2 : 64 < n
    · rw [nameI_out n (by omega), str_nil]
      go_enter Tryd.func9, Tryd.ntmps9
      go_wp2_with fail
      go_ret
      exact ⟨rfl, Fr.refl _⟩
    · by_cases h3 : n ≤ 8
      · obtain ⟨j, rfl⟩ : ∃ j : Nat, n = (j : Int) + 1 := ⟨(n - 1).toNat, by omega⟩
        have hc := hL.n j (by omega)
        have hn : nameI ((j : Int) + 1) = nameL (j + 1) := nameI_nat (j + 1) (by omega) (by omega)
        rw [hn]
        generalize strOfNums (nameL (j + 1)) = S at *
        have hj : (j : Int) < 8 := by omega
        clear hL hn
        go_enter Tryd.func9, Tryd.ntmps9
        go_wp2_with fail
        go_ret
        exact ⟨rfl, Fr.refl _⟩
      · obtain ⟨i, rfl⟩ : ∃ i : Nat, n = (i : Int) + 8 := ⟨(n - 8).toNat, by omega⟩
        have HT := hide (name_text i (by omega) (by omega))
        have HI := hide (fun w => Tryd.strconv_Itoa_small i (by omega) w)
        rw [← HT.out]
        clear hL
        have hz : (⟨(Lib.decDigits i).toArray⟩ : ByteArray).size ≤ 100 := by
          have h1 := ints_length ⟨(Lib.decDigits i).toArray⟩
          rw [dec_digits i (by omega)] at h1
          unfold dec2 at h1
          split at h1 <;> simp at h1 <;> omega
        generalize (⟨(Lib.decDigits i).toArray⟩ : ByteArray) = D at *
        go_enter Tryd.func9, Tryd.ntmps9
        go_wp2_with fail
        refine (HI.out _).mono ?_
        rintro e w1 ⟨rfl, rfl⟩
        go_wp2_with fail
        go_ret
        exact ⟨rfl, Fr.refl _⟩

set_option maxHeartbeats 1000000 in
set_option maxRecDepth 4000 in
theorem refName_any (n : Int) (w : World) : Calls Tryd.prog 10 #[.int .i64 n] w fun e w' => e = .returned (.string (strOfNums (nameI n))) ∧ Fr w w' := by
  by_cases hs : n = 1 ∨ n = 2 ∨ n = 3 ∨ n = 4 ∨ n = 5 ∨ n = 6 ∨ n = 7 ∨ n = 8
  · rcases hs with rfl | rfl | rfl | rfl | rfl | rfl | rfl | rfl
    all_goals
      go_enter Tryd.func10, Tryd.ntmps10
      go_wp2_with fail
      go_ret
      exact ⟨by kernel_rfl, Fr.refl _⟩
  · have q1 : (n == 1) = false := by rw [beq_eq_false_iff_ne]; omega
    have q2 : (n == 2) = false := by rw [beq_eq_false_iff_ne]; omega
    have q3 : (n == 3) = false := by rw [beq_eq_false_iff_ne]; omega
    have q4 : (n == 4) = false := by rw [beq_eq_false_iff_ne]; omega
    have q5 : (n == 5) = false := by rw [beq_eq_false_iff_ne]; omega
    have q6 : (n == 6) = false := by rw [beq_eq_false_iff_ne]; omega
    have q7 : (n == 7) = false := by rw [beq_eq_false_iff_ne]; omega
    have q8 : (n == 8) = false := by rw [beq_eq_false_iff_ne]; omega
    by_cases h1 : n < 9
    · rw [nameI_out n (by omega), str_nil]
      clear hs
      go_enter Tryd.func10, Tryd.ntmps10
      go_wp2_with fail
      go_ret
      exact ⟨rfl, Fr.refl _⟩
    · by_cases h2 : 64 < n
      · rw [nameI_out n (by omega), str_nil]
        clear hs
        go_enter Tryd.func10, Tryd.ntmps10
        go_wp2_with fail
        go_ret
        exact ⟨rfl, Fr.refl _⟩
      · obtain ⟨i, rfl⟩ : ∃ i : Nat, n = (i : Int) + 8 := ⟨(n - 8).toNat, by omega⟩
        have hb := nameI_big i (by omega) (by omega)
        rw [hb]
        clear hs hb
        unfold dec2
        have h56 : (i : Int) ≤ 56 := by omega
        by_cases h10 : i < 10
        · rw [if_pos h10]
          have hX : (⟨#[67, 111, 108, 111, 114]⟩ : ByteArray) ++ strOfNums [48 + (i : Int)] = strOfNums ([67, 111, 108, 111, 114] ++ [48 + (i : Int)]) := by
            refine str_of ?_
            rw [ints_append, ints_nums _ (by intro x hx; simp at hx; omega)]
            rfl
          rw [← hX]
          have hz : (strOfNums [48 + (i : Int)]).size ≤ 100 := by rw [← ints_length, ints_nums _ (by intro x hx; simp at hx; omega)]; simp
          have HX := hide hX
          clear hX
          have hw : IntKind.u8.wrap (48 + (i : Int)) = 48 + (i : Int) := by rw [IntKind.wrap_u8]; omega
          go_enter Tryd.func10, Tryd.ntmps10
          go_wp2_with fail
          go_ret
          exact ⟨rfl, by unfold Fr; go_grown⟩
        · rw [if_neg h10]
          have hX : (⟨#[67, 111, 108, 111, 114]⟩ : ByteArray) ++ strOfNums [48 + ((i / 10 : Nat) : Int), 48 + ((i % 10 : Nat) : Int)] = strOfNums ([67, 111, 108, 111, 114] ++ [48 + ((i / 10 : Nat) : Int), 48 + ((i % 10 : Nat) : Int)]) := by
            refine str_of ?_
            rw [ints_append, ints_nums _ (by intro x hx; simp at hx; omega)]
            rfl
          rw [← hX]
          have hz : (strOfNums [48 + ((i / 10 : Nat) : Int), 48 + ((i % 10 : Nat) : Int)]).size ≤ 100 := by rw [← ints_length, ints_nums _ (by intro x hx; simp at hx; omega)]; simp
          have e1 : ((i / 10 : Nat) : Int) = (i : Int) / 10 := by omega
          have e2 : ((i % 10 : Nat) : Int) = (i : Int) % 10 := by omega
          rw [e1, e2] at hz ⊢
          clear hX e1 e2
          go_enter Tryd.func10, Tryd.ntmps10
          go_wp2_with fail
          go_ret
          exact ⟨rfl, by unfold Fr; go_grown⟩

set_option maxHeartbeats 1000000 in
set_option maxRecDepth 4000 in
theorem number_any (s : ByteArray) (w : World) (hL : Led12 w) (hs : s.size ≤ 200) :
    Calls Tryd.prog 7 #[.string s] w fun e w' => e = .returned (.tuple #[.int .i64 (numN (ints s)).1, .bool (numN (ints s)).2]) ∧ Fr w w' := by
  have HN := hide (fun n w hL => name_any n w hL)
  have HS := hide (fun n w (hL : Led12 w) => same_any s (strOfNums (nameI n)) w hL.u hL.f hs (by have := nameI_size n; omega) (nameI_asc n))
  have HL := hide (fun w' (k : Fr w w') => hL.fr k)
  clear hL
  go_enter Tryd.func7, Tryd.ntmps7
  go_wp2_with fail
  go_loopw [4] (fun i wr => ∃ k f : Nat, k + f = 65 ∧ 1 ≤ k ∧ i = .int .i64 k ∧ Hid (numN (ints s) = numFrom (ints s) f k) ∧ Fr w wr) (fun i _ => 65 - (intOf i).toNat)
  case atStart => exact ⟨1, 64, by omega, by omega, rfl, hide rfl, Fr.refl _⟩
  case round =>
    obtain ⟨k, f, hkf, hk1, rfl, HI, hF⟩ := hrel
    cases f with
    | zero =>
      have e1 : Hid (numN (ints s) = (0, false)) := HI
      clear HI
      go_wp2_with fail
      go_ret2
      exact ⟨by rw [e1.out]; rfl, hF⟩
    | succ f =>
      have hkk : (k : Int) ≤ 64 := by omega
      have hni : nameI (k : Int) = nameL k := nameI_nat k hk1 (by omega)
      have HSK := hide (fun w hL => HS.out (k : Int) w hL)
      rw [nameI_ints, hni] at HSK
      have HNK := hide (fun w hL => HN.out (k : Int) w hL)
      rw [hni] at HNK
      generalize strOfNums (nameL k) = T at *
      by_cases hit : low (ints s) = low (nameL k)
      · have e1 : Hid (numN (ints s) = ((k : Int), true)) := by rw [HI.out]; exact hide (numFrom_hit _ f k hit)
        rw [decide_eq_true hit] at HSK
        clear HI hni hit
        go_wp2_with fail
        refine (HNK.out _ (HL.out _ hF)).mono ?_
        rintro e w1 ⟨rfl, f1⟩
        go_wp2_with fail
        refine (HSK.out _ (HL.out _ (hF.trans f1))).mono ?_
        rintro e w2 ⟨rfl, f2⟩
        go_wp2_with fail
        go_ret2
        exact ⟨by rw [e1.out]; rfl, hF.trans (f1.trans f2)⟩
      · have e1 : Hid (numN (ints s) = numFrom (ints s) f (k + 1)) := by rw [HI.out]; exact hide (numFrom_miss _ f k hit)
        rw [decide_eq_false hit] at HSK
        clear HI hni hit
        go_wp2_with fail
        refine (HNK.out _ (HL.out _ hF)).mono ?_
        rintro e w1 ⟨rfl, f1⟩
        go_wp2_with fail
        refine (HSK.out _ (HL.out _ (hF.trans f1))).mono ?_
        rintro e w2 ⟨rfl, f2⟩
        go_wp2_with fail
        go_roundw
        case rel => exact ⟨k + 1, f, by omega, by omega, by go_num, e1, hF.trans (f1.trans f2)⟩
        case measure => simp [intOf]; omega

theorem low_nums (l : List Int) (h : ∀ x ∈ l, 0 ≤ x ∧ x ≤ 255) : ∀ x ∈ low l, 0 ≤ x ∧ x ≤ 255 := by
  intro x hx
  obtain ⟨y, hy, rfl⟩ := List.mem_map.1 hx
  exact low_range (h y hy).1 (h y hy).2

set_option maxHeartbeats 1000000 in
set_option maxRecDepth 4000 in
theorem refNumber_any12 (s : ByteArray) (w : World) (hs : s.size ≤ 200) :
    Calls Tryd.prog 8 #[.string s] w fun e w' => e = .returned (.tuple #[.int .i64 (numN (ints s)).1, .bool (numN (ints s)).2]) ∧ Fr w w' := by
  have HN := hide (fun n w => refName_any n w)
  have HLs := hide (fun w => low12_any s w (by omega))
  have HLn := hide (fun n w => low12_any (strOfNums (nameI n)) w (by have := nameI_size n; omega))
  have hls := low_nums (ints s) (ints_range s)
  go_enter Tryd.func8, Tryd.ntmps8
  go_wp2_with fail
  refine (HLs.out _).mono ?_
  rintro e w0 ⟨rfl, f0⟩
  have HEQ := hide (fun n => str_eq (strOfNums (low (nameI n))) (strOfNums (low (ints s))))
  have HLI := hide (ints_nums _ hls)
  rw [HLI.out] at HEQ
  generalize strOfNums (low (ints s)) = T at *
  clear hls HLs
  go_wp2_with fail
  go_loopw [5] (fun i wr => ∃ k f : Nat, k + f = 65 ∧ 1 ≤ k ∧ i = .int .i64 k ∧ Hid (numN (ints s) = numFrom (ints s) f k) ∧ Fr w0 wr) (fun i _ => 65 - (intOf i).toNat)
  case atStart => exact ⟨1, 64, by omega, by omega, rfl, hide rfl, Fr.refl _⟩
  case round =>
    obtain ⟨k, f, hkf, hk1, rfl, HI, hF⟩ := hrel
    cases f with
    | zero =>
      have e1 : Hid (numN (ints s) = (0, false)) := HI
      clear HI
      go_wp2_with fail
      go_ret2
      exact ⟨by rw [e1.out]; rfl, f0.trans hF⟩
    | succ f =>
      have hkk : (k : Int) ≤ 64 := by omega
      have hni : nameI (k : Int) = nameL k := nameI_nat k hk1 (by omega)
      have HNK := hide (HN.out (k : Int))
      have HLK := hide (HLn.out (k : Int))
      have HEK := hide (HEQ.out (k : Int))
      rw [nameI_ints] at HLK
      rw [ints_nums _ (low_nums _ (nameI_range _)), hni] at HEK
      rw [hni] at HNK HLK
      by_cases hit : low (ints s) = low (nameL k)
      · have e1 : Hid (numN (ints s) = ((k : Int), true)) := by rw [HI.out]; exact hide (numFrom_hit _ f k hit)
        have hb : ((strOfNums (low (nameL k))).toList == T.toList) = true := HEK.out.2 hit.symm
        generalize strOfNums (nameL k) = X at *
        generalize strOfNums (low (nameL k)) = Y at *
        clear HI hni hit HEK
        go_wp2_with fail
        refine (HNK.out _).mono ?_
        rintro e w1 ⟨rfl, f1⟩
        go_wp2_with fail
        refine (HLK.out _).mono ?_
        rintro e w2 ⟨rfl, f2⟩
        go_wp2_with fail
        go_ret2
        exact ⟨by rw [e1.out]; rfl, f0.trans (hF.trans (f1.trans f2))⟩
      · have e1 : Hid (numN (ints s) = numFrom (ints s) f (k + 1)) := by rw [HI.out]; exact hide (numFrom_miss _ f k hit)
        have hb : ((strOfNums (low (nameL k))).toList == T.toList) = false := by rw [Bool.eq_false_iff]; exact fun h => hit (HEK.out.1 h).symm
        generalize strOfNums (nameL k) = X at *
        generalize strOfNums (low (nameL k)) = Y at *
        clear HI hni hit HEK
        go_wp2_with fail
        refine (HNK.out _).mono ?_
        rintro e w1 ⟨rfl, f1⟩
        go_wp2_with fail
        refine (HLK.out _).mono ?_
        rintro e w2 ⟨rfl, f2⟩
        go_wp2_with fail
        go_roundw
        case rel => exact ⟨k + 1, f, by omega, by omega, by go_num, e1, hF.trans (f1.trans f2)⟩
        case measure => simp [intOf]; omega
end Go.Proofs.YtiemiekkjaknfaaDoor
