/- The law TokenLong. -/
import Derived.Test.YtaokmegoheofjaaDoorTokW
import Derived.Deep.RegionHeld3
namespace Go.Proofs.YtaokmegoheofjaaDoor
set_option linter.unusedVariables false
set_option linter.unusedSimpArgs false
open Go.RowKit

theorem i64_small {n : Int} (h0 : -9223372036854775808 ≤ n) (h1 : n ≤ 9223372036854775807) : IntKind.i64.wrap n = n := by
  simp [IntKind.wrap, IntKind.bits, IntKind.signed]
  omega

theorem next_nought (q : List Int) : nextN (48 :: q) = .ok 6 [48] 1 1 := by
  have := nextN_tok (Tok.one 48 (by decide) (by decide) (Or.inl ⟨by decide, by decide⟩)) q (fun h => by simp [show kindB 48 = 6 by decide] at h)
  simpa [show kindB 48 = 6 by decide] using this

theorem reach_noughts (n : Nat) : ∀ j, j ≤ n → ∃ T, T.length = j ∧ Reach (List.replicate n 48) T j
  | 0, _ => ⟨[], rfl, .nil⟩
  | j + 1, h => by
    obtain ⟨T, h1, h2⟩ := reach_noughts n j (by omega)
    have hd : (List.replicate n (48 : Int)).drop j = 48 :: List.replicate (n - j - 1) 48 := by
      rw [List.drop_replicate, show n - j = (n - j - 1) + 1 by omega, List.replicate_succ]
      simp
    exact ⟨_, by simp [h1], h2.snoc (by simp; omega) (by rw [hd]; exact next_nought _)⟩

theorem answer_noughts : ∃ T, T.length = 4096 ∧ answer (List.replicate 4096 48) = (T, 4096, 0) := by
  obtain ⟨T, h1, h2⟩ := reach_noughts 4096 4096 (Nat.le_refl _)
  have hl : (List.replicate 4096 (48 : Int)).length = 4096 := List.length_replicate
  refine ⟨T, h1, ?_⟩
  unfold answer
  rw [if_neg (by omega)]
  exact reach_end (fun x hx => by have := List.eq_of_mem_replicate hx; omega) h2 (by omega)

theorem answer_long (l : List Int) (h : 4096 < l.length) : answer l = ([], 0, 14) := by unfold answer; rw [if_pos h]
theorem rep_one (b : UInt8) (n : Nat) : (⟨(Lib.repeatL (⟨#[b]⟩ : ByteArray).data.toList n).toArray⟩ : ByteArray) = strOfNums (List.replicate n (b.toNat : Int)) := by
  rw [repeat_ints]
  congr 1
  induction n with
  | zero => rfl
  | succ n ih => rw [List.replicate_succ, List.flatten_cons, ih, List.replicate_succ]; rfl

set_option maxHeartbeats 2000000 in
set_option maxRecDepth 4000 in
theorem long_s (s : ByteArray) (n : Int) (w : World) (hL : Lead w) (hE : MaxOk w) (hs : s.size ≤ 140737488355328) (n0 : 0 ≤ n) (n1 : n ≤ 65535) (h : s.size ≤ 4096) :
    Calls Tryd.prog 4 #[.string s, .int .u16 n] w fun e w' => e = .returned (.bool true) ∧ Fr w w' := by
  obtain ⟨T, hT, hA⟩ := answer_noughts
  have hz : (strOfNums (List.replicate 4096 48)).size = 4096 := by
    have := ints_length (strOfNums (List.replicate 4096 48))
    rw [ints_nums _ (fun x hx => by have := List.eq_of_mem_replicate hx; omega), List.length_replicate] at this
    omega
  have HA := hide (fun w hL hE => tokAll_any (strOfNums (List.replicate 4096 48)) w hL hE (by unfold maxLen; omega))
  rw [ints_nums _ (fun x hx => by have := List.eq_of_mem_replicate hx; omega), hA, hT] at HA
  have HR := hide (fun w => Tryd.strings_Repeat ⟨#[48]⟩ 4096 w (by decide) (by decide))
  rw [rep_one, show (((48 : UInt8).toNat : Nat) : Int) = 48 by rfl] at HR
  generalize strOfNums (List.replicate 4096 48) = Z at *
  obtain ⟨M, hM⟩ : ∃ M : Nat, M = 4096 - s.size := ⟨_, rfl⟩
  have hmin : min (s.size : Int) 4096 = 4096 - (M : Int) := by omega
  have hsub : IntKind.i64.wrap (4096 - (4096 - (M : Int))) = (M : Int) := by rw [show (4096 : Int) - (4096 - (M : Int)) = M by omega]; exact i64_small (by omega) (by omega)
  have hZM : (Z.extract 0 M).size = M := by
    have := ints_length (Z.extract 0 M)
    rw [ints_extract, List.length_take, List.length_drop, ints_length] at this
    omega
  obtain ⟨r, hr, hr2⟩ : ∃ r : Nat, n.tmod 500 = (r : Int) ∧ r < 500 := ⟨(n % 500).toNat, by rw [Int.tmod_eq_emod_of_nonneg n0]; omega, by omega⟩
  have hr0 : IntKind.i64.wrap (r : Int) = (r : Int) := i64_small (by omega) (by omega)
  obtain ⟨R, hR, hR2⟩ : ∃ R : Nat, 1 ≤ R ∧ R = 1 + r := ⟨1 + r, by omega, rfl⟩
  have hr1 : IntKind.i64.wrap (1 + (r : Int)) = (R : Int) := by rw [i64_small (by omega) (by omega)]; omega
  have hR3 : R ≤ 500 := by omega
  clear hR2
  have HQ := hide (fun w => Tryd.strings_Repeat ⟨#[35]⟩ R w (by omega) (by have : (⟨#[35]⟩ : ByteArray).size = 1 := rfl; rw [this]; omega))
  rw [rep_one] at HQ
  have hy : (strOfNums (List.replicate R (((35 : UInt8).toNat : Nat) : Int))).size = R := by
    have := ints_length (strOfNums (List.replicate R (((35 : UInt8).toNat : Nat) : Int)))
    rw [ints_nums _ (fun x hx => by have := List.eq_of_mem_replicate hx; have h35 : (((35 : UInt8).toNat : Nat) : Int) = 35 := rfl; omega), List.length_replicate] at this
    omega
  generalize strOfNums (List.replicate R (((35 : UInt8).toNat : Nat) : Int)) = Y at *
  have HW := hide (fun w hL hE => wakes_any w hL hE)
  have HX : Hid ((Z.extract 0 M ++ s ++ Y).size ≤ maxLen ∧ answer (ints (Z.extract 0 M ++ s ++ Y)) = ([], 0, 14)) := by
    have e : (Z.extract 0 M ++ s ++ Y).size = M + s.size + R := by rw [ByteArray.size_append, ByteArray.size_append, hZM, hy]
    exact hide ⟨by unfold maxLen; omega, answer_long _ (by rw [ints_length]; omega)⟩
  have hM1 : (M : Int) ≤ 4096 := by omega
  have hno : ¬ (9223372036854775807 < M + s.size) := by omega
  have hno2 : ¬ (9223372036854775807 < M + s.size + R) := by omega
  have hsz : (s.size : Int) ≤ 140737488355328 := by omega
  clear hM hA hT hs
  go_enter Tryd.func4, Tryd.ntmps4
  go_wp2_with fail
  refine (HR.out _).mono ?_
  rintro e w1 ⟨rfl, f1⟩
  go_wp2_with fail
  refine (HA.out _ (hL.fr f1) (hE.fr f1)).mono ?_
  rintro e w2 ⟨f2, v, rfl, hown⟩
  obtain ⟨ar, cr, rfl⟩ := own_form hown
  have FW : Hid (Fr w w2) := hide (Fr.trans f1 f2)
  clear hown f1 f2
  go_wp2_with fail
  refine wp_region_held_drew (S := (fun w' => Hid (Fr w w'))) (by kernel_rfl) ?_ (fun hHeld => ?_)
  · exact hide (FW.out.trans (Fr.drew _))
  refine wpAnyH_take (i := 0) (v := ?_) rfl (by kernel_rfl) (by kernel_rfl) (by kernel_rfl) (fun _ _ _ h => h) (Or.inl ⟨by rfl, ?_⟩) (by assumption) ?_
  rotate_left
  · (intro w hSw; (try dsimp only at hSw); go_simp; try with_reducible rfl)
  (try simp only [Act.put, List.getElem_toArray, List.getElem_cons_zero, List.getElem_cons_succ, List.setIfInBounds_toArray, List.set_cons_zero, List.set_cons_succ])
  refine wpAnyH_take (i := 1) (v := ?_) rfl (by kernel_rfl) (by kernel_rfl) (by kernel_rfl) (fun _ _ _ h => h) (Or.inl ⟨by rfl, ?_⟩) (by assumption) ?_
  rotate_left
  · (intro w hSw; (try dsimp only at hSw); go_simp; try with_reducible rfl)
  (try simp only [Act.put, List.getElem_toArray, List.getElem_cons_zero, List.getElem_cons_succ, List.setIfInBounds_toArray, List.set_cons_zero, List.set_cons_succ])
  refine wpAnyH_take (i := 2) (v := ?_) rfl (by kernel_rfl) (by kernel_rfl) (by kernel_rfl) (fun _ _ _ h => h) (Or.inl ⟨by rfl, ?_⟩) (by assumption) ?_
  rotate_left
  · (intro w hSw; (try dsimp only at hSw); go_simp; try with_reducible rfl)
  (try simp only [Act.put, List.getElem_toArray, List.getElem_cons_zero, List.getElem_cons_succ, List.setIfInBounds_toArray, List.set_cons_zero, List.set_cons_succ])
  refine wpAnyH_take (i := 3) (v := ?_) rfl (by kernel_rfl) (by kernel_rfl) (by kernel_rfl) (fun _ _ _ h => h) (Or.inl ⟨by rfl, ?_⟩) (by assumption) ?_
  rotate_left
  · (intro w hSw; (try dsimp only at hSw); go_simp; try with_reducible rfl)
  (try simp only [Act.put, List.getElem_toArray, List.getElem_cons_zero, List.getElem_cons_succ, List.setIfInBounds_toArray, List.set_cons_zero, List.set_cons_succ])
  refine wpAnyH_take (i := 4) (v := ?_) rfl (by kernel_rfl) (by kernel_rfl) (by kernel_rfl) (fun _ _ _ h => h) (Or.inl ⟨by rfl, ?_⟩) (by assumption) ?_
  rotate_left
  · (intro w hSw; (try dsimp only at hSw); go_simp; try with_reducible rfl)
  (try simp only [Act.put, List.getElem_toArray, List.getElem_cons_zero, List.getElem_cons_succ, List.setIfInBounds_toArray, List.set_cons_zero, List.set_cons_succ])
  refine wpAnyH_take (i := 5) (v := ?_) rfl (by kernel_rfl) (by kernel_rfl) (by kernel_rfl) (fun _ _ _ h => h) (Or.inl ⟨by rfl, ?_⟩) (by assumption) ?_
  rotate_left
  · (intro w hSw; (try dsimp only at hSw); go_simp; try with_reducible rfl)
  (try simp only [Act.put, List.getElem_toArray, List.getElem_cons_zero, List.getElem_cons_succ, List.setIfInBounds_toArray, List.set_cons_zero, List.set_cons_succ])
  refine wpAnyH_take (i := 6) (v := ?_) rfl (by kernel_rfl) (by kernel_rfl) (by kernel_rfl) (fun _ _ _ h => h) (Or.inl ⟨by rfl, ?_⟩) (by assumption) ?_
  rotate_left
  · (intro w hSw; (try dsimp only at hSw); go_simp; try with_reducible rfl)
  (try simp only [Act.put, List.getElem_toArray, List.getElem_cons_zero, List.getElem_cons_succ, List.setIfInBounds_toArray, List.set_cons_zero, List.set_cons_succ])
  refine wpAnyH_take (i := 7) (v := ?_) rfl (by kernel_rfl) (by kernel_rfl) (by kernel_rfl) (fun _ _ _ h => h) (Or.inl ⟨by rfl, ?_⟩) (by assumption) ?_
  rotate_left
  · (intro w hSw; (try dsimp only at hSw); go_simp; try with_reducible rfl)
  (try simp only [Act.put, List.getElem_toArray, List.getElem_cons_zero, List.getElem_cons_succ, List.setIfInBounds_toArray, List.set_cons_zero, List.set_cons_succ])
  refine wpAnyH_take (i := 8) (v := ?_) rfl (by kernel_rfl) (by kernel_rfl) (by kernel_rfl) (fun _ _ _ h => h) (Or.inl ⟨by rfl, ?_⟩) (by assumption) ?_
  rotate_left
  · (intro w hSw; (try dsimp only at hSw); go_simp; try with_reducible rfl)
  (try simp only [Act.put, List.getElem_toArray, List.getElem_cons_zero, List.getElem_cons_succ, List.setIfInBounds_toArray, List.set_cons_zero, List.set_cons_succ])
  refine wpAnyH_take (i := 9) (v := ?_) rfl (by kernel_rfl) (by kernel_rfl) (by kernel_rfl) (fun _ _ _ h => h) (Or.inl ⟨by rfl, ?_⟩) (by assumption) ?_
  rotate_left
  · (intro w hSw; (try dsimp only at hSw); go_simp; try with_reducible rfl)
  (try simp only [Act.put, List.getElem_toArray, List.getElem_cons_zero, List.getElem_cons_succ, List.setIfInBounds_toArray, List.set_cons_zero, List.set_cons_succ])
  refine wpAnyH_take (i := 10) (v := ?_) rfl (by kernel_rfl) (by kernel_rfl) (by kernel_rfl) (fun _ _ _ h => h) (Or.inl ⟨by rfl, ?_⟩) (by assumption) ?_
  rotate_left
  · (intro w hSw; (try dsimp only at hSw); go_simp; try with_reducible rfl)
  (try simp only [Act.put, List.getElem_toArray, List.getElem_cons_zero, List.getElem_cons_succ, List.setIfInBounds_toArray, List.set_cons_zero, List.set_cons_succ])
  refine wpAnyH_take (i := 11) (v := ?_) rfl (by kernel_rfl) (by kernel_rfl) (by kernel_rfl) (fun _ _ _ h => h) (Or.inl ⟨by rfl, ?_⟩) (by assumption) ?_
  rotate_left
  · (intro w hSw; (try dsimp only at hSw); go_simp; try with_reducible rfl)
  (try simp only [Act.put, List.getElem_toArray, List.getElem_cons_zero, List.getElem_cons_succ, List.setIfInBounds_toArray, List.set_cons_zero, List.set_cons_succ])
  refine wpAnyH_ready (rs := [12]) (by kernel_rfl) (by simp) ?_
  refine AllReadyH.cons rfl (fun K hK => ?_) AllReadyH.nil
  go_simp
  refine (HQ.out _).mono ?_
  rintro e wn ⟨rfl, fy⟩
  have fz := hide (hHeld.out.trans fy)
  (try go_wp2_with fail)
  refine hK.out _ _ ?_ (fun hHeld => ?_)
  · (try dsimp only)
    exact fz
  clear hK K
  (try simp only [Act.put, List.getElem_toArray, List.getElem_cons_zero, List.getElem_cons_succ, List.setIfInBounds_toArray, List.set_cons_zero, List.set_cons_succ])
  refine wpAnyH_take (i := 13) (v := ?_) rfl (by kernel_rfl) (by kernel_rfl) (by kernel_rfl) (fun _ _ _ h => h) (Or.inl ⟨by rfl, ?_⟩) (by assumption) ?_
  rotate_left
  · (intro w hSw; (try dsimp only at hSw); go_simp; try with_reducible rfl)
  (try simp only [Act.put, List.getElem_toArray, List.getElem_cons_zero, List.getElem_cons_succ, List.setIfInBounds_toArray, List.set_cons_zero, List.set_cons_succ])
  refine wpAnyH_take (i := 14) (v := ?_) rfl (by kernel_rfl) (by kernel_rfl) (by kernel_rfl) (fun _ _ _ h => h) (Or.inl ⟨by rfl, ?_⟩) (by assumption) ?_
  rotate_left
  · (intro w hSw; (try dsimp only at hSw); go_simp; try with_reducible rfl)
  (try simp only [Act.put, List.getElem_toArray, List.getElem_cons_zero, List.getElem_cons_succ, List.setIfInBounds_toArray, List.set_cons_zero, List.set_cons_succ])
  refine wpAnyH_done (by kernel_rfl) ?_ _
  have HB := hide (fun w hL hE => tokAll_any (Z.extract 0 M ++ s ++ Y) w hL hE HX.out.1)
  rw [HX.out.2] at HB
  generalize Z.extract 0 M ++ s ++ Y = X at *
  go_wp2_with fail
  refine (HB.out _ (hL.fr fz.out) (hE.fr fz.out)).mono ?_
  rintro e w3 ⟨f3, v3, rfl, o3⟩
  obtain ⟨a3, c3, rfl⟩ := own_form o3
  have FZ := hide (fz.out.trans f3)
  clear o3
  go_wp2_with fail
  refine (HW.out _ (hL.fr FZ.out) (hE.fr FZ.out)).mono ?_
  rintro e w4 ⟨rfl, f4⟩
  go_wp2_with fail
  go_ret
  exact ⟨rfl, FZ.out.trans f4⟩

set_option maxHeartbeats 2000000 in
set_option maxRecDepth 4000 in
theorem long_g (s : ByteArray) (n : Int) (w : World) (hL : Lead w) (hE : MaxOk w) (hs : s.size ≤ 140737488355328) (n0 : 0 ≤ n) (n1 : n ≤ 65535) (h : 4096 < s.size) :
    Calls Tryd.prog 4 #[.string s, .int .u16 n] w fun e w' => e = .returned (.bool true) ∧ Fr w w' := by
  obtain ⟨T, hT, hA⟩ := answer_noughts
  have hz : (strOfNums (List.replicate 4096 48)).size = 4096 := by
    have := ints_length (strOfNums (List.replicate 4096 48))
    rw [ints_nums _ (fun x hx => by have := List.eq_of_mem_replicate hx; omega), List.length_replicate] at this
    omega
  have HA := hide (fun w hL hE => tokAll_any (strOfNums (List.replicate 4096 48)) w hL hE (by unfold maxLen; omega))
  rw [ints_nums _ (fun x hx => by have := List.eq_of_mem_replicate hx; omega), hA, hT] at HA
  have HR := hide (fun w => Tryd.strings_Repeat ⟨#[48]⟩ 4096 w (by decide) (by decide))
  rw [rep_one, show (((48 : UInt8).toNat : Nat) : Int) = 48 by rfl] at HR
  generalize strOfNums (List.replicate 4096 48) = Z at *
  obtain ⟨M, hM⟩ : ∃ M : Nat, M = 0 := ⟨_, rfl⟩
  have hmin : min (s.size : Int) 4096 = 4096 - (M : Int) := by omega
  have hsub : IntKind.i64.wrap (4096 - (4096 - (M : Int))) = (M : Int) := by rw [show (4096 : Int) - (4096 - (M : Int)) = M by omega]; exact i64_small (by omega) (by omega)
  have hZM : (Z.extract 0 M).size = M := by
    have := ints_length (Z.extract 0 M)
    rw [ints_extract, List.length_take, List.length_drop, ints_length] at this
    omega
  obtain ⟨r, hr, hr2⟩ : ∃ r : Nat, n.tmod 500 = (r : Int) ∧ r < 500 := ⟨(n % 500).toNat, by rw [Int.tmod_eq_emod_of_nonneg n0]; omega, by omega⟩
  have hr0 : IntKind.i64.wrap (r : Int) = (r : Int) := i64_small (by omega) (by omega)
  obtain ⟨R, hR, hR2⟩ : ∃ R : Nat, 1 ≤ R ∧ R = 1 + r := ⟨1 + r, by omega, rfl⟩
  have hr1 : IntKind.i64.wrap (1 + (r : Int)) = (R : Int) := by rw [i64_small (by omega) (by omega)]; omega
  have hR3 : R ≤ 500 := by omega
  clear hR2
  have HQ := hide (fun w => Tryd.strings_Repeat ⟨#[35]⟩ R w (by omega) (by have : (⟨#[35]⟩ : ByteArray).size = 1 := rfl; rw [this]; omega))
  rw [rep_one] at HQ
  have hy : (strOfNums (List.replicate R (((35 : UInt8).toNat : Nat) : Int))).size = R := by
    have := ints_length (strOfNums (List.replicate R (((35 : UInt8).toNat : Nat) : Int)))
    rw [ints_nums _ (fun x hx => by have := List.eq_of_mem_replicate hx; have h35 : (((35 : UInt8).toNat : Nat) : Int) = 35 := rfl; omega), List.length_replicate] at this
    omega
  generalize strOfNums (List.replicate R (((35 : UInt8).toNat : Nat) : Int)) = Y at *
  have HW := hide (fun w hL hE => wakes_any w hL hE)
  have HX : Hid ((Z.extract 0 M ++ s ++ Y).size ≤ maxLen ∧ answer (ints (Z.extract 0 M ++ s ++ Y)) = ([], 0, 14)) := by
    have e : (Z.extract 0 M ++ s ++ Y).size = M + s.size + R := by rw [ByteArray.size_append, ByteArray.size_append, hZM, hy]
    exact hide ⟨by unfold maxLen; omega, answer_long _ (by rw [ints_length]; omega)⟩
  have hM1 : (M : Int) ≤ 4096 := by omega
  have hno : ¬ (9223372036854775807 < M + s.size) := by omega
  have hno2 : ¬ (9223372036854775807 < M + s.size + R) := by omega
  have hsz : (s.size : Int) ≤ 140737488355328 := by omega
  clear hM hA hT hs
  go_enter Tryd.func4, Tryd.ntmps4
  go_wp2_with fail
  refine (HR.out _).mono ?_
  rintro e w1 ⟨rfl, f1⟩
  go_wp2_with fail
  refine (HA.out _ (hL.fr f1) (hE.fr f1)).mono ?_
  rintro e w2 ⟨f2, v, rfl, hown⟩
  obtain ⟨ar, cr, rfl⟩ := own_form hown
  have FW : Hid (Fr w w2) := hide (Fr.trans f1 f2)
  clear hown f1 f2
  go_wp2_with fail
  refine wp_region_held_drew (S := (fun w' => Hid (Fr w w'))) (by kernel_rfl) ?_ (fun hHeld => ?_)
  · exact hide (FW.out.trans (Fr.drew _))
  refine wpAnyH_take (i := 0) (v := ?_) rfl (by kernel_rfl) (by kernel_rfl) (by kernel_rfl) (fun _ _ _ h => h) (Or.inl ⟨by rfl, ?_⟩) (by assumption) ?_
  rotate_left
  · (intro w hSw; (try dsimp only at hSw); go_simp; try with_reducible rfl)
  (try simp only [Act.put, List.getElem_toArray, List.getElem_cons_zero, List.getElem_cons_succ, List.setIfInBounds_toArray, List.set_cons_zero, List.set_cons_succ])
  refine wpAnyH_take (i := 1) (v := ?_) rfl (by kernel_rfl) (by kernel_rfl) (by kernel_rfl) (fun _ _ _ h => h) (Or.inl ⟨by rfl, ?_⟩) (by assumption) ?_
  rotate_left
  · (intro w hSw; (try dsimp only at hSw); go_simp; try with_reducible rfl)
  (try simp only [Act.put, List.getElem_toArray, List.getElem_cons_zero, List.getElem_cons_succ, List.setIfInBounds_toArray, List.set_cons_zero, List.set_cons_succ])
  refine wpAnyH_take (i := 2) (v := ?_) rfl (by kernel_rfl) (by kernel_rfl) (by kernel_rfl) (fun _ _ _ h => h) (Or.inl ⟨by rfl, ?_⟩) (by assumption) ?_
  rotate_left
  · (intro w hSw; (try dsimp only at hSw); go_simp; try with_reducible rfl)
  (try simp only [Act.put, List.getElem_toArray, List.getElem_cons_zero, List.getElem_cons_succ, List.setIfInBounds_toArray, List.set_cons_zero, List.set_cons_succ])
  refine wpAnyH_take (i := 3) (v := ?_) rfl (by kernel_rfl) (by kernel_rfl) (by kernel_rfl) (fun _ _ _ h => h) (Or.inl ⟨by rfl, ?_⟩) (by assumption) ?_
  rotate_left
  · (intro w hSw; (try dsimp only at hSw); go_simp; try with_reducible rfl)
  (try simp only [Act.put, List.getElem_toArray, List.getElem_cons_zero, List.getElem_cons_succ, List.setIfInBounds_toArray, List.set_cons_zero, List.set_cons_succ])
  refine wpAnyH_take (i := 4) (v := ?_) rfl (by kernel_rfl) (by kernel_rfl) (by kernel_rfl) (fun _ _ _ h => h) (Or.inl ⟨by rfl, ?_⟩) (by assumption) ?_
  rotate_left
  · (intro w hSw; (try dsimp only at hSw); go_simp; try with_reducible rfl)
  (try simp only [Act.put, List.getElem_toArray, List.getElem_cons_zero, List.getElem_cons_succ, List.setIfInBounds_toArray, List.set_cons_zero, List.set_cons_succ])
  refine wpAnyH_take (i := 5) (v := ?_) rfl (by kernel_rfl) (by kernel_rfl) (by kernel_rfl) (fun _ _ _ h => h) (Or.inl ⟨by rfl, ?_⟩) (by assumption) ?_
  rotate_left
  · (intro w hSw; (try dsimp only at hSw); go_simp; try with_reducible rfl)
  (try simp only [Act.put, List.getElem_toArray, List.getElem_cons_zero, List.getElem_cons_succ, List.setIfInBounds_toArray, List.set_cons_zero, List.set_cons_succ])
  refine wpAnyH_take (i := 6) (v := ?_) rfl (by kernel_rfl) (by kernel_rfl) (by kernel_rfl) (fun _ _ _ h => h) (Or.inl ⟨by rfl, ?_⟩) (by assumption) ?_
  rotate_left
  · (intro w hSw; (try dsimp only at hSw); go_simp; try with_reducible rfl)
  (try simp only [Act.put, List.getElem_toArray, List.getElem_cons_zero, List.getElem_cons_succ, List.setIfInBounds_toArray, List.set_cons_zero, List.set_cons_succ])
  refine wpAnyH_take (i := 7) (v := ?_) rfl (by kernel_rfl) (by kernel_rfl) (by kernel_rfl) (fun _ _ _ h => h) (Or.inl ⟨by rfl, ?_⟩) (by assumption) ?_
  rotate_left
  · (intro w hSw; (try dsimp only at hSw); go_simp; try with_reducible rfl)
  (try simp only [Act.put, List.getElem_toArray, List.getElem_cons_zero, List.getElem_cons_succ, List.setIfInBounds_toArray, List.set_cons_zero, List.set_cons_succ])
  refine wpAnyH_take (i := 8) (v := ?_) rfl (by kernel_rfl) (by kernel_rfl) (by kernel_rfl) (fun _ _ _ h => h) (Or.inl ⟨by rfl, ?_⟩) (by assumption) ?_
  rotate_left
  · (intro w hSw; (try dsimp only at hSw); go_simp; try with_reducible rfl)
  (try simp only [Act.put, List.getElem_toArray, List.getElem_cons_zero, List.getElem_cons_succ, List.setIfInBounds_toArray, List.set_cons_zero, List.set_cons_succ])
  refine wpAnyH_take (i := 9) (v := ?_) rfl (by kernel_rfl) (by kernel_rfl) (by kernel_rfl) (fun _ _ _ h => h) (Or.inl ⟨by rfl, ?_⟩) (by assumption) ?_
  rotate_left
  · (intro w hSw; (try dsimp only at hSw); go_simp; try with_reducible rfl)
  (try simp only [Act.put, List.getElem_toArray, List.getElem_cons_zero, List.getElem_cons_succ, List.setIfInBounds_toArray, List.set_cons_zero, List.set_cons_succ])
  refine wpAnyH_take (i := 10) (v := ?_) rfl (by kernel_rfl) (by kernel_rfl) (by kernel_rfl) (fun _ _ _ h => h) (Or.inl ⟨by rfl, ?_⟩) (by assumption) ?_
  rotate_left
  · (intro w hSw; (try dsimp only at hSw); go_simp; try with_reducible rfl)
  (try simp only [Act.put, List.getElem_toArray, List.getElem_cons_zero, List.getElem_cons_succ, List.setIfInBounds_toArray, List.set_cons_zero, List.set_cons_succ])
  refine wpAnyH_take (i := 11) (v := ?_) rfl (by kernel_rfl) (by kernel_rfl) (by kernel_rfl) (fun _ _ _ h => h) (Or.inl ⟨by rfl, ?_⟩) (by assumption) ?_
  rotate_left
  · (intro w hSw; (try dsimp only at hSw); go_simp; try with_reducible rfl)
  (try simp only [Act.put, List.getElem_toArray, List.getElem_cons_zero, List.getElem_cons_succ, List.setIfInBounds_toArray, List.set_cons_zero, List.set_cons_succ])
  refine wpAnyH_ready (rs := [12]) (by kernel_rfl) (by simp) ?_
  refine AllReadyH.cons rfl (fun K hK => ?_) AllReadyH.nil
  go_simp
  refine (HQ.out _).mono ?_
  rintro e wn ⟨rfl, fy⟩
  have fz := hide (hHeld.out.trans fy)
  (try go_wp2_with fail)
  refine hK.out _ _ ?_ (fun hHeld => ?_)
  · (try dsimp only)
    exact fz
  clear hK K
  (try simp only [Act.put, List.getElem_toArray, List.getElem_cons_zero, List.getElem_cons_succ, List.setIfInBounds_toArray, List.set_cons_zero, List.set_cons_succ])
  refine wpAnyH_take (i := 13) (v := ?_) rfl (by kernel_rfl) (by kernel_rfl) (by kernel_rfl) (fun _ _ _ h => h) (Or.inl ⟨by rfl, ?_⟩) (by assumption) ?_
  rotate_left
  · (intro w hSw; (try dsimp only at hSw); go_simp; try with_reducible rfl)
  (try simp only [Act.put, List.getElem_toArray, List.getElem_cons_zero, List.getElem_cons_succ, List.setIfInBounds_toArray, List.set_cons_zero, List.set_cons_succ])
  refine wpAnyH_take (i := 14) (v := ?_) rfl (by kernel_rfl) (by kernel_rfl) (by kernel_rfl) (fun _ _ _ h => h) (Or.inl ⟨by rfl, ?_⟩) (by assumption) ?_
  rotate_left
  · (intro w hSw; (try dsimp only at hSw); go_simp; try with_reducible rfl)
  (try simp only [Act.put, List.getElem_toArray, List.getElem_cons_zero, List.getElem_cons_succ, List.setIfInBounds_toArray, List.set_cons_zero, List.set_cons_succ])
  refine wpAnyH_done (by kernel_rfl) ?_ _
  have HB := hide (fun w hL hE => tokAll_any (Z.extract 0 M ++ s ++ Y) w hL hE HX.out.1)
  rw [HX.out.2] at HB
  generalize Z.extract 0 M ++ s ++ Y = X at *
  go_wp2_with fail
  refine (HB.out _ (hL.fr fz.out) (hE.fr fz.out)).mono ?_
  rintro e w3 ⟨f3, v3, rfl, o3⟩
  obtain ⟨a3, c3, rfl⟩ := own_form o3
  have FZ := hide (fz.out.trans f3)
  clear o3
  go_wp2_with fail
  refine (HW.out _ (hL.fr FZ.out) (hE.fr FZ.out)).mono ?_
  rintro e w4 ⟨rfl, f4⟩
  go_wp2_with fail
  go_ret
  exact ⟨rfl, FZ.out.trans f4⟩

theorem law_TokenLong (s : ByteArray) (n : Int) (w : World) (hs : s.size ≤ 140737488355328) (hn : (Lit.int .u16 n).wf = true) (hL : Lead w ∧ MaxOk w) : Calls Tryd.prog 4 #[.string s, .int .u16 n] w fun e w' => e = .returned (.bool true) ∧ Fr w w' := by
  have hb : 0 ≤ n ∧ n ≤ 65535 := by
    simp [Lit.wf, IntKind.min, IntKind.max, IntKind.signed, IntKind.bits] at hn
    omega
  by_cases h : s.size ≤ 4096
  · exact long_s s n w hL.1 hL.2 hs hb.1 hb.2 h
  · exact long_g s n w hL.1 hL.2 hs hb.1 hb.2 (by omega)
end Go.Proofs.YtaokmegoheofjaaDoor
