/- Layer 13: size. -/
import Derived.Test.YtmaapdmbkhoigaaDoorCondE
import Derived.Test.YtmaapdmbkhoigaaDoorPackC
import Derived.Test.YtmaapdmbkhoigaaDoorPackB
namespace Go.Proofs.YtmaapdmbkhoigaaDoor
set_option linter.unusedVariables false
set_option linter.unusedSimpArgs false
open Go.RowKit

attribute [local go_sem] World.cell?_alloc_some
theorem valD_nought (l : List UInt8) : valD (48 :: l) = valD l := by
  have h := valD_append [48] l
  have e : valD [48] = 0 := rfl
  rw [e, Nat.zero_mul, Nat.zero_add] at h
  exact h
theorem nl_digits {l : List UInt8} (h : AllD l) (hl : l.length ≤ 60) : nlen 4294967296 (valD l) ≤ 7 := by
  have h1 := valD_lt l h
  have h2 : 10 ^ l.length ≤ 10 ^ 60 := Nat.pow_le_pow_right (by decide) hl
  have h3 : (10 : Nat) ^ 60 < 4294967296 ^ 7 := by decide
  exact nlen_le b32 (by omega)
theorem nl_tens {k : Nat} (hl : k ≤ 30) : nlen 4294967296 (10 ^ k) ≤ 4 := by
  have h2 : 10 ^ k ≤ 10 ^ 30 := Nat.pow_le_pow_right (by decide) hl
  have h3 : (10 : Nat) ^ 30 < 4294967296 ^ 4 := by decide
  exact nlen_le b32 (by omega)

set_option maxHeartbeats 4000000 in
set_option maxRecDepth 4000 in
theorem size_any13 (op : Int) (n : Bool) (W P : List UInt8) (w : World) (hT : Tab w) (wA : AllD W) (pA : AllD P) (lW : W.length ≤ 30) (lP : P.length ≤ 30) (X D : Nat) (hX : valD (W ++ P) = X) (hD : 10 ^ P.length = D) :
    Calls Tryd.prog 34 #[.agg #[.int .i64 op, .bool n, .string (bs W), .string (bs P)]] w fun e w' => ∃ v, e = .returned v ∧ IsRat w' v X D ∧ Fr w w' := by
  have HT := hide hT
  have nX : nlen 4294967296 X ≤ 7 := by rw [← hX]; exact nl_digits (allD_append.2 ⟨wA, pA⟩) (by rw [List.length_append]; omega)
  have nD' : nlen 4294967296 D ≤ 4 := by rw [← hD]; exact nl_tens lP
  have hD0 : D ≠ 0 := by rw [← hD]; exact Nat.ne_of_gt (Nat.pow_pos (by omega))
  have A48 : AllD (48 :: (W ++ P)) := fun b hb => by
    rcases List.mem_cons.1 hb with rfl | h
    · decide
    · exact allD_append.2 ⟨wA, pA⟩ b h
  have HPa := hide (fun w => parse_yes (bs (48 :: (W ++ P))) X w (by rw [bs_size, List.length_cons, List.length_append]; omega) (by rw [bs_data]; simp) (by rw [bs_data]; exact A48) (by rw [bs_data, valD_nought]; exact hX))
  have HTn : Hid (∀ w, Calls Tryd.prog 55 #[.int .i64 (P.length : Int)] w fun e w' => ∃ a c, e = .returned (.agg #[.slice a (nlen 4294967296 D) c]) ∧ IsNat w' (.agg #[.slice a (nlen 4294967296 D) c]) D ∧ Fr w w') := hide (fun w => by
    have h := ten_any (P.length : Int) w (by omega) (by omega)
    rw [Int.toNat_natCast, hD] at h
    exact h)
  have hcat : (⟨#[48]⟩ : ByteArray) ++ bs W ++ bs P = bs (48 :: (W ++ P)) := by
    rw [show (⟨#[48]⟩ : ByteArray) = bs [48] from rfl, bs_append, bs_append]; rfl
  have zW : (bs W).size ≤ 30 := by rw [bs_size]; exact lW
  have zP : (bs P).size ≤ 30 := by rw [bs_size]; exact lP
  have zL : ((bs P).size : Int) = (P.length : Int) := by rw [bs_size]
  have lL : P.length ≤ 30 := lP
  clear hT wA pA A48 hX hD lW lP
  generalize bs (48 :: (W ++ P)) = T at *
  generalize bs W = WB at *
  generalize bs P = PB at *
  generalize P.length = L at *
  go_enter Tryd.func34, Tryd.ntmps34
  go_wp2_with fail
  obtain ⟨W0, hW0⟩ : ∃ V, V = (w.alloc (Obj.cells #[.int .i64 op, .bool n, .string WB, .string PB] 24)).alloc (Obj.cells #[.slice none 0 0, .slice none 0 0] 80) := ⟨_, rfl⟩
  have Q := (Quad.new (Fr.refl w) (.int .i64 op) (.bool n) (.string WB) (.string PB) 24).fr (Fr.alloc _ (.cells #[.slice none 0 0, .slice none 0 0] 80))
  have R : Slot2 w ((w.alloc (Obj.cells #[.int .i64 op, .bool n, .string WB, .string PB] 24)).alloc (Obj.cells #[.slice none 0 0, .slice none 0 0] 80)) (w.heap.size + 1) (.slice none 0 0) (.slice none 0 0) := by
    simpa using Slot2.new (Fr.alloc w (.cells #[.int .i64 op, .bool n, .string WB, .string PB] 24)) none 0 0 none 0 0 80
  have F := (Fr.alloc w (.cells #[.int .i64 op, .bool n, .string WB, .string PB] 24)).trans (Fr.alloc _ (.cells #[.slice none 0 0, .slice none 0 0] 80))
  rw [← hW0] at Q R F ⊢
  clear hW0
  refine (HPa.out _).mono ?_
  rintro e w1 ⟨a1, c1, rfl, i1, l1, f1⟩
  have I1 := hide i1
  have Q := hide (Q.fr f1)
  have R := hide (R.fr f1)
  have F := hide (F.trans f1)
  clear f1 i1 l1 HPa
  go_wp2_with fail
  obtain ⟨W2, hW2⟩ : ∃ W, W = (w1.alloc (Obj.cells #[Value.slice a1 (nlen 4294967296 X) c1] 78)) := ⟨_, rfl⟩
  have f2 : Fr w1 W2 := by rw [hW2]; exact (Fr.alloc w1 (Obj.cells #[Value.slice a1 (nlen 4294967296 X) c1] 78))
  have s3 : Slot w1 W2 (w1.heap.size) (.slice a1 (nlen 4294967296 X) c1) := by
    rw [hW2]; simpa using Slot.new (Fr.refl w1) a1 (nlen 4294967296 X) c1 78
  rw [← hW2]
  clear hW2
  have I1 := hide (I1.out.fr f2)
  have Q := hide (Q.out.fr f2)
  have R := hide (R.out.fr f2)
  have F := hide (F.out.trans f2)
  have S3 := hide s3
  have HT := hide (Tab.fr HT.out F.out)
  clear f2 s3
  have q3 := S3.out.1
  have qP := Q.out.2.2.2.1
  have d3 := fr_cell (Fr.drew W2) q3
  have dP := fr_cell (Fr.drew W2) qP
  refine wp_region_held_drew (S := (fun w' => w'.cell? ⟨w1.heap.size, 0, none⟩ = some (.slice a1 (nlen 4294967296 X) c1) ∧ w'.cell? ⟨w.heap.size, 3, none⟩ = some (.string PB))) (by kernel_rfl) ?_ (fun hHeld => ?_)
  · exact ⟨d3, dP⟩
  have fz := hide (Fr.drew W2)
  generalize W2.drew = wd at fz hHeld ⊢
  refine wpAnyH_take (i := 0) (v := ?_) rfl (by kernel_rfl) (by kernel_rfl) (by kernel_rfl) (fun _ _ _ h => h) (Or.inl ⟨by rfl, ?_⟩) (by assumption) ?_
  rotate_left
  · (intro w hSw; (try dsimp only at hSw); go_simp; try with_reducible rfl)
  (try simp only [Act.put, List.getElem_toArray, List.getElem_cons_zero, List.getElem_cons_succ, List.setIfInBounds_toArray, List.set_cons_zero, List.set_cons_succ])
  refine wpAnyH_take (i := 1) (v := ?_) rfl (by kernel_rfl) (by kernel_rfl) (by kernel_rfl) (fun _ _ _ h => h) (Or.inl ⟨by rfl, ?_⟩) (by assumption) ?_
  rotate_left
  · (intro w hSw; (try dsimp only at hSw); go_simp; try with_reducible rfl)
  (try simp only [Act.put, List.getElem_toArray, List.getElem_cons_zero, List.getElem_cons_succ, List.setIfInBounds_toArray, List.set_cons_zero, List.set_cons_succ])
  refine wpAnyH_take (i := 2) (v := ?_) rfl (by kernel_rfl) (by kernel_rfl) (by kernel_rfl) (fun _ _ _ h => h) (Or.inl ⟨by rfl, ?_⟩) (by assumption) ?_
  rotate_left
  · (intro w hSw; (try dsimp only at hSw); go_simp; try with_reducible rfl)
  (try simp only [Act.put, List.getElem_toArray, List.getElem_cons_zero, List.getElem_cons_succ, List.setIfInBounds_toArray, List.set_cons_zero, List.set_cons_succ])
  refine wpAnyH_take (i := 3) (v := ?_) rfl (by kernel_rfl) (by kernel_rfl) (by kernel_rfl) (fun _ _ _ h => h) (Or.inl ⟨by rfl, ?_⟩) (by assumption) ?_
  rotate_left
  · (intro w hSw; (try dsimp only at hSw); go_simp; try with_reducible rfl)
  (try simp only [Act.put, List.getElem_toArray, List.getElem_cons_zero, List.getElem_cons_succ, List.setIfInBounds_toArray, List.set_cons_zero, List.set_cons_succ])
  refine wpAnyH_ready (rs := [4, 9]) (by kernel_rfl) (by simp) ?_
  refine AllReadyH.cons rfl (fun K hK => ?_) (AllReadyH.cons rfl (fun K hK => ?_) AllReadyH.nil)
  · skip
    go_simp
    refine (HTn.out _).mono ?_
    rintro e wa ⟨a4, c4, rfl, i4, fy⟩
    have I4 := hide i4
    clear i4
    have fz := hide (fz.out.trans fy)
    clear fy
    (try go_wp2_with fail)
    refine hK.out _ _ ?_ (fun hHeld => ?_)
    · (try dsimp only)
      exact ⟨fr_cell fz.out q3, fr_cell fz.out qP⟩
    clear hK K
    (try simp only [Act.put, List.getElem_toArray, List.getElem_cons_zero, List.getElem_cons_succ, List.setIfInBounds_toArray, List.set_cons_zero, List.set_cons_succ])
    refine wpAnyH_ready (rs := [5, 9]) (by kernel_rfl) (by simp) ?_
    refine AllReadyH.cons rfl (fun K hK => ?_) (AllReadyH.cons rfl (fun K hK => ?_) AllReadyH.nil)
    · skip
      go_simp
      refine (ofR_yes _ _ X D _ (Tab.fr HT.out fz.out) (I1.out.fr fz.out) I4.out (by omega) (by omega) hD0).mono ?_
      rintro e wb ⟨v6, rfl, i6, fy⟩
      obtain ⟨x1, x2, x3, x4, x5, x6, rfl⟩ := i6.form
      have I6 := hide i6
      clear i6
      have I4 := hide (I4.out.fr fy)
      have fz := hide (fz.out.trans fy)
      clear fy
      (try go_wp2_with fail)
      refine hK.out _ _ ?_ (fun hHeld => ?_)
      · (try dsimp only)
        exact ⟨fr_cell fz.out q3, fr_cell fz.out qP⟩
      clear hK K
      (try simp only [Act.put, List.getElem_toArray, List.getElem_cons_zero, List.getElem_cons_succ, List.setIfInBounds_toArray, List.set_cons_zero, List.set_cons_succ])
      refine wpAnyH_take (i := 6) (v := ?_) rfl (by kernel_rfl) (by kernel_rfl) (by kernel_rfl) (fun _ _ _ h => h) (Or.inl ⟨by rfl, ?_⟩) (by assumption) ?_
      rotate_left
      · (intro w hSw; (try dsimp only at hSw); go_simp; try with_reducible rfl)
      (try simp only [Act.put, List.getElem_toArray, List.getElem_cons_zero, List.getElem_cons_succ, List.setIfInBounds_toArray, List.set_cons_zero, List.set_cons_succ])
      refine wpAnyH_take (i := 7) (v := ?_) rfl (by kernel_rfl) (by kernel_rfl) (by kernel_rfl) (fun _ _ _ h => h) (Or.inl ⟨by rfl, ?_⟩) (by assumption) ?_
      rotate_left
      · (intro w hSw; (try dsimp only at hSw); go_simp; try with_reducible rfl)
      (try simp only [Act.put, List.getElem_toArray, List.getElem_cons_zero, List.getElem_cons_succ, List.setIfInBounds_toArray, List.set_cons_zero, List.set_cons_succ])
      refine wpAnyH_take (i := 8) (v := ?_) rfl (by kernel_rfl) (by kernel_rfl) (by kernel_rfl) (fun _ _ _ h => h) (Or.inl ⟨by rfl, ?_⟩) (by assumption) ?_
      rotate_left
      · (intro w hSw; (try dsimp only at hSw); go_simp; try with_reducible rfl)
      (try simp only [Act.put, List.getElem_toArray, List.getElem_cons_zero, List.getElem_cons_succ, List.setIfInBounds_toArray, List.set_cons_zero, List.set_cons_succ])
      refine wpAnyH_ready (rs := [9]) (by kernel_rfl) (by simp) ?_
      refine AllReadyH.cons rfl (fun K hK => ?_) AllReadyH.nil
      obtain ⟨bA, hbA⟩ : ∃ b, b = wb.heap.size := ⟨_, rfl⟩
      have fy := Fr.alloc wb (Obj.cells #[Value.slice none 0 0, Value.slice none 0 0] 80)
      have SA : Hid (Slot2 W2 (wb.alloc (Obj.cells #[Value.slice none 0 0, Value.slice none 0 0] 80)) bA (.slice none 0 0) (.slice none 0 0)) := by rw [hbA]; exact hide (Slot2.new fz.out none 0 0 none 0 0 80)
      have I4 := hide (I4.out.fr fy)
      have I6 := hide (I6.out.fr fy)
      have fz := hide (fz.out.trans fy)
      clear fy
      go_simp
      rw [← hbA]
      refine hK.out _ _ ?_ (fun hHeld => ?_)
      · (try dsimp only)
        exact ⟨fr_cell fz.out q3, fr_cell fz.out qP⟩
      clear hK K
      (try simp only [Act.put, List.getElem_toArray, List.getElem_cons_zero, List.getElem_cons_succ, List.setIfInBounds_toArray, List.set_cons_zero, List.set_cons_succ])
      obtain ⟨wA, hwA⟩ : ∃ wA, wA = wb.alloc (Obj.cells #[Value.slice none 0 0, Value.slice none 0 0] 80) := ⟨_, rfl⟩
      rw [← hwA] at fz SA hHeld I4 I6 ⊢
      clear hwA hbA
      refine wpAnyH_ready (rs := [10]) (by kernel_rfl) (by simp) ?_
      refine AllReadyH.cons rfl (fun K hK => ?_) AllReadyH.nil
      have q_ := SA.out.1
      have q2_ := SA.out.2.1
      have z_ := SA.out.2.2.1 0
      have z2_ := SA.out.2.2.1 1
      have I6 := hide (SA.out.rat I6.out x1 x2 x3 (.slice x4 x5 x6))
      have fz := hide (SA.out.set_fr fz.out (.slice x1 x2 x3) (.slice x4 x5 x6))
      have SA := hide (SA.out.set x1 x2 x3 x4 x5 x6)
      go_simp
      (try go_wp2_with fail)
      refine hK.out _ _ ?_ (fun hHeld => ?_)
      · (try dsimp only)
        exact ⟨fr_cell fz.out q3, fr_cell fz.out qP⟩
      clear hK K
      (try simp only [Act.put, List.getElem_toArray, List.getElem_cons_zero, List.getElem_cons_succ, List.setIfInBounds_toArray, List.set_cons_zero, List.set_cons_succ])
      refine wpAnyH_take (i := 11) (v := ?_) rfl (by kernel_rfl) (by kernel_rfl) (by kernel_rfl) (fun _ _ _ h => h) (Or.inl ⟨by rfl, ?_⟩) (by assumption) ?_
      rotate_left
      · (intro w hSw; (try dsimp only at hSw); go_simp; try with_reducible rfl)
      (try simp only [Act.put, List.getElem_toArray, List.getElem_cons_zero, List.getElem_cons_succ, List.setIfInBounds_toArray, List.set_cons_zero, List.set_cons_succ])
      refine wpAnyH_done (by kernel_rfl) ?_ _
      have R := hide (R.out.fr fz.out)
      have F := hide (F.out.trans fz.out)
      have qa := SA.out.1
      have qb := SA.out.2.1
      have r0 := R.out.1
      have r1 := R.out.2.1
      have y0 := R.out.2.2.1 0
      have y1 := R.out.2.2.1 1
      have RR := hide (R.out.set x1 x2 x3 x4 x5 x6)
      have IF := hide (R.out.rat I6.out x1 x2 x3 (.slice x4 x5 x6))
      have FF := hide (R.out.set_fr F.out (.slice x1 x2 x3) (.slice x4 x5 x6))
      go_wp2_with fail
      exact bodyPost_ret (results_rat rfl _ _ (w.heap.size + 1) _ _ rfl RR.out.1 RR.out.2.1) rfl ⟨_, rfl, IF.out, FF.out⟩
    · skip
      obtain ⟨bA, hbA⟩ : ∃ b, b = wa.heap.size := ⟨_, rfl⟩
      have fy := Fr.alloc wa (Obj.cells #[Value.slice none 0 0, Value.slice none 0 0] 80)
      have SA : Hid (Slot2 W2 (wa.alloc (Obj.cells #[Value.slice none 0 0, Value.slice none 0 0] 80)) bA (.slice none 0 0) (.slice none 0 0)) := by rw [hbA]; exact hide (Slot2.new fz.out none 0 0 none 0 0 80)
      have I4 := hide (I4.out.fr fy)
      have fz := hide (fz.out.trans fy)
      clear fy
      go_simp
      rw [← hbA]
      refine hK.out _ _ ?_ (fun hHeld => ?_)
      · (try dsimp only)
        exact ⟨fr_cell fz.out q3, fr_cell fz.out qP⟩
      clear hK K
      (try simp only [Act.put, List.getElem_toArray, List.getElem_cons_zero, List.getElem_cons_succ, List.setIfInBounds_toArray, List.set_cons_zero, List.set_cons_succ])
      obtain ⟨wA, hwA⟩ : ∃ wA, wA = wa.alloc (Obj.cells #[Value.slice none 0 0, Value.slice none 0 0] 80) := ⟨_, rfl⟩
      rw [← hwA] at fz SA hHeld I4 ⊢
      clear hwA hbA
      refine wpAnyH_ready (rs := [5]) (by kernel_rfl) (by simp) ?_
      refine AllReadyH.cons rfl (fun K hK => ?_) AllReadyH.nil
      go_simp
      refine (ofR_yes _ _ X D _ (Tab.fr HT.out fz.out) (I1.out.fr fz.out) I4.out (by omega) (by omega) hD0).mono ?_
      rintro e wb ⟨v6, rfl, i6, fy⟩
      obtain ⟨x1, x2, x3, x4, x5, x6, rfl⟩ := i6.form
      have I6 := hide i6
      clear i6
      have I4 := hide (I4.out.fr fy)
      have SA := hide (SA.out.fr fy)
      have fz := hide (fz.out.trans fy)
      clear fy
      (try go_wp2_with fail)
      refine hK.out _ _ ?_ (fun hHeld => ?_)
      · (try dsimp only)
        exact ⟨fr_cell fz.out q3, fr_cell fz.out qP⟩
      clear hK K
      (try simp only [Act.put, List.getElem_toArray, List.getElem_cons_zero, List.getElem_cons_succ, List.setIfInBounds_toArray, List.set_cons_zero, List.set_cons_succ])
      refine wpAnyH_take (i := 6) (v := ?_) rfl (by kernel_rfl) (by kernel_rfl) (by kernel_rfl) (fun _ _ _ h => h) (Or.inl ⟨by rfl, ?_⟩) (by assumption) ?_
      rotate_left
      · (intro w hSw; (try dsimp only at hSw); go_simp; try with_reducible rfl)
      (try simp only [Act.put, List.getElem_toArray, List.getElem_cons_zero, List.getElem_cons_succ, List.setIfInBounds_toArray, List.set_cons_zero, List.set_cons_succ])
      refine wpAnyH_take (i := 7) (v := ?_) rfl (by kernel_rfl) (by kernel_rfl) (by kernel_rfl) (fun _ _ _ h => h) (Or.inl ⟨by rfl, ?_⟩) (by assumption) ?_
      rotate_left
      · (intro w hSw; (try dsimp only at hSw); go_simp; try with_reducible rfl)
      (try simp only [Act.put, List.getElem_toArray, List.getElem_cons_zero, List.getElem_cons_succ, List.setIfInBounds_toArray, List.set_cons_zero, List.set_cons_succ])
      refine wpAnyH_take (i := 8) (v := ?_) rfl (by kernel_rfl) (by kernel_rfl) (by kernel_rfl) (fun _ _ _ h => h) (Or.inl ⟨by rfl, ?_⟩) (by assumption) ?_
      rotate_left
      · (intro w hSw; (try dsimp only at hSw); go_simp; try with_reducible rfl)
      (try simp only [Act.put, List.getElem_toArray, List.getElem_cons_zero, List.getElem_cons_succ, List.setIfInBounds_toArray, List.set_cons_zero, List.set_cons_succ])
      refine wpAnyH_ready (rs := [10]) (by kernel_rfl) (by simp) ?_
      refine AllReadyH.cons rfl (fun K hK => ?_) AllReadyH.nil
      have q_ := SA.out.1
      have q2_ := SA.out.2.1
      have z_ := SA.out.2.2.1 0
      have z2_ := SA.out.2.2.1 1
      have I6 := hide (SA.out.rat I6.out x1 x2 x3 (.slice x4 x5 x6))
      have fz := hide (SA.out.set_fr fz.out (.slice x1 x2 x3) (.slice x4 x5 x6))
      have SA := hide (SA.out.set x1 x2 x3 x4 x5 x6)
      go_simp
      (try go_wp2_with fail)
      refine hK.out _ _ ?_ (fun hHeld => ?_)
      · (try dsimp only)
        exact ⟨fr_cell fz.out q3, fr_cell fz.out qP⟩
      clear hK K
      (try simp only [Act.put, List.getElem_toArray, List.getElem_cons_zero, List.getElem_cons_succ, List.setIfInBounds_toArray, List.set_cons_zero, List.set_cons_succ])
      refine wpAnyH_take (i := 11) (v := ?_) rfl (by kernel_rfl) (by kernel_rfl) (by kernel_rfl) (fun _ _ _ h => h) (Or.inl ⟨by rfl, ?_⟩) (by assumption) ?_
      rotate_left
      · (intro w hSw; (try dsimp only at hSw); go_simp; try with_reducible rfl)
      (try simp only [Act.put, List.getElem_toArray, List.getElem_cons_zero, List.getElem_cons_succ, List.setIfInBounds_toArray, List.set_cons_zero, List.set_cons_succ])
      refine wpAnyH_done (by kernel_rfl) ?_ _
      have R := hide (R.out.fr fz.out)
      have F := hide (F.out.trans fz.out)
      have qa := SA.out.1
      have qb := SA.out.2.1
      have r0 := R.out.1
      have r1 := R.out.2.1
      have y0 := R.out.2.2.1 0
      have y1 := R.out.2.2.1 1
      have RR := hide (R.out.set x1 x2 x3 x4 x5 x6)
      have IF := hide (R.out.rat I6.out x1 x2 x3 (.slice x4 x5 x6))
      have FF := hide (R.out.set_fr F.out (.slice x1 x2 x3) (.slice x4 x5 x6))
      go_wp2_with fail
      exact bodyPost_ret (results_rat rfl _ _ (w.heap.size + 1) _ _ rfl RR.out.1 RR.out.2.1) rfl ⟨_, rfl, IF.out, FF.out⟩
  · skip
    obtain ⟨bA, hbA⟩ : ∃ b, b = wd.heap.size := ⟨_, rfl⟩
    have fy := Fr.alloc wd (Obj.cells #[Value.slice none 0 0, Value.slice none 0 0] 80)
    have SA : Hid (Slot2 W2 (wd.alloc (Obj.cells #[Value.slice none 0 0, Value.slice none 0 0] 80)) bA (.slice none 0 0) (.slice none 0 0)) := by rw [hbA]; exact hide (Slot2.new fz.out none 0 0 none 0 0 80)
    have fz := hide (fz.out.trans fy)
    clear fy
    go_simp
    rw [← hbA]
    refine hK.out _ _ ?_ (fun hHeld => ?_)
    · (try dsimp only)
      exact ⟨fr_cell fz.out q3, fr_cell fz.out qP⟩
    clear hK K
    (try simp only [Act.put, List.getElem_toArray, List.getElem_cons_zero, List.getElem_cons_succ, List.setIfInBounds_toArray, List.set_cons_zero, List.set_cons_succ])
    obtain ⟨wA, hwA⟩ : ∃ wA, wA = wd.alloc (Obj.cells #[Value.slice none 0 0, Value.slice none 0 0] 80) := ⟨_, rfl⟩
    rw [← hwA] at fz SA hHeld  ⊢
    clear hwA hbA
    refine wpAnyH_ready (rs := [4]) (by kernel_rfl) (by simp) ?_
    refine AllReadyH.cons rfl (fun K hK => ?_) AllReadyH.nil
    go_simp
    refine (HTn.out _).mono ?_
    rintro e wa ⟨a4, c4, rfl, i4, fy⟩
    have I4 := hide i4
    clear i4
    have SA := hide (SA.out.fr fy)
    have fz := hide (fz.out.trans fy)
    clear fy
    (try go_wp2_with fail)
    refine hK.out _ _ ?_ (fun hHeld => ?_)
    · (try dsimp only)
      exact ⟨fr_cell fz.out q3, fr_cell fz.out qP⟩
    clear hK K
    (try simp only [Act.put, List.getElem_toArray, List.getElem_cons_zero, List.getElem_cons_succ, List.setIfInBounds_toArray, List.set_cons_zero, List.set_cons_succ])
    refine wpAnyH_ready (rs := [5]) (by kernel_rfl) (by simp) ?_
    refine AllReadyH.cons rfl (fun K hK => ?_) AllReadyH.nil
    go_simp
    refine (ofR_yes _ _ X D _ (Tab.fr HT.out fz.out) (I1.out.fr fz.out) I4.out (by omega) (by omega) hD0).mono ?_
    rintro e wb ⟨v6, rfl, i6, fy⟩
    obtain ⟨x1, x2, x3, x4, x5, x6, rfl⟩ := i6.form
    have I6 := hide i6
    clear i6
    have I4 := hide (I4.out.fr fy)
    have SA := hide (SA.out.fr fy)
    have fz := hide (fz.out.trans fy)
    clear fy
    (try go_wp2_with fail)
    refine hK.out _ _ ?_ (fun hHeld => ?_)
    · (try dsimp only)
      exact ⟨fr_cell fz.out q3, fr_cell fz.out qP⟩
    clear hK K
    (try simp only [Act.put, List.getElem_toArray, List.getElem_cons_zero, List.getElem_cons_succ, List.setIfInBounds_toArray, List.set_cons_zero, List.set_cons_succ])
    refine wpAnyH_take (i := 6) (v := ?_) rfl (by kernel_rfl) (by kernel_rfl) (by kernel_rfl) (fun _ _ _ h => h) (Or.inl ⟨by rfl, ?_⟩) (by assumption) ?_
    rotate_left
    · (intro w hSw; (try dsimp only at hSw); go_simp; try with_reducible rfl)
    (try simp only [Act.put, List.getElem_toArray, List.getElem_cons_zero, List.getElem_cons_succ, List.setIfInBounds_toArray, List.set_cons_zero, List.set_cons_succ])
    refine wpAnyH_take (i := 7) (v := ?_) rfl (by kernel_rfl) (by kernel_rfl) (by kernel_rfl) (fun _ _ _ h => h) (Or.inl ⟨by rfl, ?_⟩) (by assumption) ?_
    rotate_left
    · (intro w hSw; (try dsimp only at hSw); go_simp; try with_reducible rfl)
    (try simp only [Act.put, List.getElem_toArray, List.getElem_cons_zero, List.getElem_cons_succ, List.setIfInBounds_toArray, List.set_cons_zero, List.set_cons_succ])
    refine wpAnyH_take (i := 8) (v := ?_) rfl (by kernel_rfl) (by kernel_rfl) (by kernel_rfl) (fun _ _ _ h => h) (Or.inl ⟨by rfl, ?_⟩) (by assumption) ?_
    rotate_left
    · (intro w hSw; (try dsimp only at hSw); go_simp; try with_reducible rfl)
    (try simp only [Act.put, List.getElem_toArray, List.getElem_cons_zero, List.getElem_cons_succ, List.setIfInBounds_toArray, List.set_cons_zero, List.set_cons_succ])
    refine wpAnyH_ready (rs := [10]) (by kernel_rfl) (by simp) ?_
    refine AllReadyH.cons rfl (fun K hK => ?_) AllReadyH.nil
    have q_ := SA.out.1
    have q2_ := SA.out.2.1
    have z_ := SA.out.2.2.1 0
    have z2_ := SA.out.2.2.1 1
    have I6 := hide (SA.out.rat I6.out x1 x2 x3 (.slice x4 x5 x6))
    have fz := hide (SA.out.set_fr fz.out (.slice x1 x2 x3) (.slice x4 x5 x6))
    have SA := hide (SA.out.set x1 x2 x3 x4 x5 x6)
    go_simp
    (try go_wp2_with fail)
    refine hK.out _ _ ?_ (fun hHeld => ?_)
    · (try dsimp only)
      exact ⟨fr_cell fz.out q3, fr_cell fz.out qP⟩
    clear hK K
    (try simp only [Act.put, List.getElem_toArray, List.getElem_cons_zero, List.getElem_cons_succ, List.setIfInBounds_toArray, List.set_cons_zero, List.set_cons_succ])
    refine wpAnyH_take (i := 11) (v := ?_) rfl (by kernel_rfl) (by kernel_rfl) (by kernel_rfl) (fun _ _ _ h => h) (Or.inl ⟨by rfl, ?_⟩) (by assumption) ?_
    rotate_left
    · (intro w hSw; (try dsimp only at hSw); go_simp; try with_reducible rfl)
    (try simp only [Act.put, List.getElem_toArray, List.getElem_cons_zero, List.getElem_cons_succ, List.setIfInBounds_toArray, List.set_cons_zero, List.set_cons_succ])
    refine wpAnyH_done (by kernel_rfl) ?_ _
    have R := hide (R.out.fr fz.out)
    have F := hide (F.out.trans fz.out)
    have qa := SA.out.1
    have qb := SA.out.2.1
    have r0 := R.out.1
    have r1 := R.out.2.1
    have y0 := R.out.2.2.1 0
    have y1 := R.out.2.2.1 1
    have RR := hide (R.out.set x1 x2 x3 x4 x5 x6)
    have IF := hide (R.out.rat I6.out x1 x2 x3 (.slice x4 x5 x6))
    have FF := hide (R.out.set_fr F.out (.slice x1 x2 x3) (.slice x4 x5 x6))
    go_wp2_with fail
    exact bodyPost_ret (results_rat rfl _ _ (w.heap.size + 1) _ _ rfl RR.out.1 RR.out.2.1) rfl ⟨_, rfl, IF.out, FF.out⟩
end Go.Proofs.YtmaapdmbkhoigaaDoor
