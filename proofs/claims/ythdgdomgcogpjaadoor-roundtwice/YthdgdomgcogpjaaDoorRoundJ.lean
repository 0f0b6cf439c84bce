/- RoundTwice: the number of a Sci. -/
import Derived.Test.YthdgdomgcogpjaaDoorRoundB2
namespace Go.Proofs.YthdgdomgcogpjaaDoor
set_option linter.unusedVariables false
set_option linter.unusedSimpArgs false
open Go.RowKit

attribute [local go_sem] World.cell?_alloc_some

set_option maxHeartbeats 2000000 in
set_option maxRecDepth 4000 in
theorem number9_any (SD : ByteArray) (SE : Int) (L : List UInt8) (w : World) (hL : Led w) (hSD : SD.data.toList = L) (hA : AllD L) (hl : L.length ≤ 500) (e0 : -2000 ≤ SE) (e1 : SE ≤ 2000) (V A B : Nat) (hV : valD L = V) (eA : 10 ^ (SE - L.length + 1).toNat = A) (eB : 10 ^ (-(SE - L.length + 1)).toNat = B) :
    Calls Tryd.prog 31 #[.agg #[.string SD, .int .i64 SE]] w fun e w' => ∃ v, e = .returned v ∧ IsRat w' v (V * A) (1 * B) ∧ Fr w w' := by
  obtain ⟨LL, hLL⟩ : ∃ LL, L.length = LL := ⟨_, rfl⟩
  rw [hLL] at hl eA eB
  have HL := hide hL
  have HAL := hide hA
  have HVL := hide hV
  have EA := hide eA
  have EB := hide eB
  have n1 := n32_small (x := 1) (by omega)
  have nA := nl_ten eA (by omega)
  have nB := nl_ten eB (by omega)
  have zL : SD.size = LL := by rw [← hLL, ← hSD, len_data]
  have nV : nlen 4294967296 V ≤ 500 := by
    have := val_nl hA (j := L.length) (k := 500) (by omega) (by omega)
    rw [List.take_length, hV] at this
    exact this
  obtain ⟨W2, hW2⟩ : ∃ W, W = ((w.alloc (Obj.cells #[.string SD, .int .i64 SE] 43)).alloc (Obj.cells #[.slice none 0 0, .slice none 0 0] 27)) := ⟨_, rfl⟩
  have fW : Fr w W2 := by rw [hW2]; exact (Fr.alloc _ _).trans (Fr.alloc _ _)
  have x1 : Two w W2 w.heap.size (.string SD) (.int .i64 SE) := by rw [hW2]; exact (Two.new (Fr.refl _) _ _ _).fr (Fr.alloc _ _)
  have s2 : Slot2 w W2 (w.heap.size + 1) (.slice none 0 0) (.slice none 0 0) := by
    rw [hW2]; simpa using Slot2.new (Fr.alloc w (Obj.cells #[.string SD, .int .i64 SE] 43)) none 0 0 none 0 0 27
  obtain ⟨cap, W3, hcv, f3, bR⟩ := conv_bytes (W2.alloc (Obj.cells #[Value.slice none 0 0] 25)) SD
  rw [hSD] at bR
  have S12 : Hid (Slot W2 W3 W2.heap.size (.slice none 0 0)) := hide ((Slot.new (Fr.refl W2) none 0 0 25).fr f3)
  have F3 := hide ((Fr.alloc W2 (Obj.cells #[Value.slice none 0 0] 25)).trans f3)
  have hsz : (W2.alloc (Obj.cells #[Value.slice none 0 0] 25)).heap.size = W2.heap.size + 1 := by simp
  rw [hsz] at hcv bR
  have BR := hide bR
  have X1 := hide x1
  have S2 := hide s2
  have FW := hide fW
  have q1 := x1.1
  have FW0 := FW
  clear f3 bR hsz hL hSD hA hV eA eB x1 s2 fW
  go_enter Tryd.func31, Tryd.ntmps31
  go_upto_region 1 with fail
  rw [← hW2]
  clear hW2
  go_wp2_with fail
  clear hcv q1
  go_loopw [13] (fun s62 wr => ∃ (j v : Nat) (an : Option Addr) (cn : Nat), j ≤ LL ∧ s62 = .int .i64 j ∧ Hid (v = valD (L.take j)) ∧ nlen 4294967296 v ≤ 3000 ∧ Hid (Slot W2 wr W2.heap.size (.slice an (nlen 4294967296 v) cn)) ∧ Hid (IsNat wr (.agg #[.slice an (nlen 4294967296 v) cn]) v) ∧ Hid (BRow wr (W2.heap.size + 1) L) ∧ Hid (Fr W2 wr)) (fun s62 _ => LL - (intOf s62).toNat)
  case atStart => exact ⟨0, 0, none, 0, by omega, rfl, rfl, by rw [nlen_zero]; omega, by rw [nlen_zero]; exact S12, by rw [nlen_zero]; exact hide (isNat_zero _), BR, F3⟩
  case round =>
    clear S12 BR F3
    obtain ⟨j, v, an, cn, hj, rfl, HV, nv, S12, IV, BR, F3⟩ := hrel
    by_cases c : j < LL
    · have c' : (j : Int) < LL := by omega
      have hjL : j < L.length := by omega
      have hcell := BR.out j hjL
      obtain ⟨hb0, hb1⟩ := all_at HAL.out hjL
      have hst := val_step hjL
      rw [← HV.out] at hst
      obtain ⟨t, ht⟩ : ∃ t : Nat, (L.getD j 0).toNat = t + 48 := ⟨(L.getD j 0).toNat - 48, by omega⟩
      rw [ht] at hcell hst hb1
      rw [Nat.add_sub_cancel] at hst
      have HST := hide hst
      have nv2 : nlen 4294967296 (v * 10 + t) ≤ 3000 := by
        rw [← hst]
        exact val_nl HAL.out (by omega) (by omega)
      obtain ⟨tb, htb⟩ : ∃ tb : Int, ((t + 48 : Nat) : Int) = tb := ⟨_, rfl⟩
      rw [htb] at hcell
      have tb0 : 48 ≤ tb := by omega
      have tb1 : tb ≤ 57 := by omega
      have htb2 : tb - 48 = t := by omega
      have ht9 : t ≤ 9 := by omega
      have q12 := S12.out.1
      clear ht hst hb0 hb1 htb
      go_wp2_with fail
      refine (tenfold_any _ v _ IV.out (by omega)).mono ?_
      rintro e w4 ⟨a5, c5, rfl, l5, i5, fy⟩
      have I5 := hide i5
      have S12 := hide (S12.out.fr fy)
      have BR := hide (BR.out.fr fy)
      have F3 := hide (F3.out.trans fy)
      clear i5 fy IV q12
      have nv10 : nlen 4294967296 (v * 10) ≤ 4000 := Nat.le_trans (nlen_mul b32 nv (n32_small (x := 10) (by omega))) (by omega)
      go_wp2_with fail
      refine (made_lm _ (by omega) I5.out).mono ?_
      rintro e w5 ⟨a6, c6, rfl, i6, fy⟩
      have I6 := hide i6
      have S12 := hide (S12.out.fr fy)
      have BR := hide (BR.out.fr fy)
      have F3 := hide (F3.out.trans fy)
      clear i6 fy I5
      have hw8 : IntKind.u8.wrap (t : Int) = t := by simp only [IntKind.wrap_u8]; omega
      have ht10 : (t : Int) % 10 = t := by omega
      go_wp2_with fail
      refine (ofc_any _ t _ (by first | rfl | omega) (by omega)).mono ?_
      rintro e w6 ⟨a7, c7, rfl, i7, _, fy⟩
      have I7 := hide i7
      have S12 := hide (S12.out.fr fy)
      have BR := hide (BR.out.fr fy)
      have I6 := hide (I6.out.fr fy)
      have F3 := hide (F3.out.trans fy)
      clear i7 fy
      have nt : nlen 4294967296 t ≤ 1 := n32_small (by omega)
      go_wp2_with fail
      refine (add_any _ _ (v * 10) t _ I6.out I7.out (by omega) (by omega)).mono ?_
      rintro e w7 ⟨a8, c8, rfl, i8, _, fy⟩
      have I8 := hide i8
      have S12 := hide (S12.out.fr fy)
      have BR := hide (BR.out.fr fy)
      have F3 := hide (F3.out.trans fy)
      clear i8 fy I6 I7
      have q12 := S12.out.1
      have z12 := S12.out.2.1
      go_wp2_with fail
      have I8 := hide (S12.out.nat I8.out (.slice a8 (nlen 4294967296 (v * 10 + t)) c8))
      have BR := hide (BR.out.put ⟨W2.heap.size, 0, none⟩ (.slice a8 (nlen 4294967296 (v * 10 + t)) c8) (by show W2.heap.size ≠ W2.heap.size + 1; omega))
      have F3 := hide (S12.out.set_fr F3.out (.slice a8 (nlen 4294967296 (v * 10 + t)) c8))
      have S12 := hide (S12.out.set a8 (nlen 4294967296 (v * 10 + t)) c8)
      go_roundw
      case rel => exact ⟨j + 1, v * 10 + t, a8, c8, by omega, by go_num, hide HST.out.symm, nv2, S12, I8, BR, F3⟩
      case measure => simp [intOf]; omega
    · have c' : ¬ (j : Int) < LL := by omega
      have hvP : v = V := by rw [HV.out, List.take_of_length_le (by omega)]; exact HVL.out
      subst hvP
      clear HV HVL HAL BR
      have S2 := hide (S2.out.fr F3.out)
      have X1 := hide (X1.out.fr F3.out)
      have FW := hide (FW.out.trans F3.out)
      have S12 := hide (S12.out.old FW0.out)
      clear F3 nv
      obtain ⟨w8, hw8⟩ : ∃ V, V = wr := ⟨_, rfl⟩
      rw [← hw8] at S2 X1 S12 IV FW ⊢
      clear hw8
      have q12 := S12.out.1
      have d12 := fr_cell (Fr.drew w8) q12
      go_upto_region 7 with fail
      go_cut [6, 7] (fun s15 s16 wx => ∃ b y1 y2 y3 y4 y5 y6, s15 = .pointer (some ⟨b, 0, none⟩) ∧ s16 = .bool true ∧ Hid (Slot2 w8 wx b (.slice y1 y2 y3) (.slice y4 y5 y6)) ∧ Hid (IsRat wx (.agg #[.slice y1 y2 y3, .slice y4 y5 y6]) v 1) ∧ Hid (Fr w8 wx))
      case first =>
        refine wp_region_held_drew (S := (fun w' => w'.cell? ⟨W2.heap.size, 0, none⟩ = some (.slice an (nlen 4294967296 v) cn))) (by kernel_rfl) ?_ (fun hHeld => ?_)
        · exact d12
        have fz := hide (Fr.drew w8)
        generalize w8.drew = wd at fz hHeld ⊢
        refine wpAnyH_take (i := 0) (v := ?_) rfl (by kernel_rfl) (by kernel_rfl) (by kernel_rfl) (fun _ _ _ h => h) (Or.inl ⟨by rfl, ?_⟩) (by assumption) ?_
        rotate_left
        · (intro w hSw; (try dsimp only at hSw); go_simp; try with_reducible rfl)
        (try simp only [Act.put, List.getElem_toArray, List.getElem_cons_zero, List.getElem_cons_succ, List.setIfInBounds_toArray, List.set_cons_zero, List.set_cons_succ])
        refine wpAnyH_ready (rs := [1, 6]) (by kernel_rfl) (by simp) ?_
        refine AllReadyH.cons rfl (fun K hK => ?_) (AllReadyH.cons rfl (fun K hK => ?_) AllReadyH.nil)
        · skip
          go_simp
          refine (ofc_any 1 1 _ rfl (by omega)).mono ?_
          rintro e wa ⟨a5, c5, rfl, i5, _, fy⟩
          have I5 := hide i5
          clear i5
          have fz := hide (fz.out.trans fy)
          clear fy
          (try go_wp2_with fail)
          refine hK.out _ _ ?_ (fun hHeld => ?_)
          · (try dsimp only)
            exact fr_cell fz.out q12
          clear hK K
          (try simp only [Act.put, List.getElem_toArray, List.getElem_cons_zero, List.getElem_cons_succ, List.setIfInBounds_toArray, List.set_cons_zero, List.set_cons_succ])
          refine wpAnyH_ready (rs := [2, 6]) (by kernel_rfl) (by simp) ?_
          refine AllReadyH.cons rfl (fun K hK => ?_) (AllReadyH.cons rfl (fun K hK => ?_) AllReadyH.nil)
          · skip
            go_simp
            refine (ofR_yes _ _ v 1 _ (HL.out.fr (FW.out.trans fz.out)).1 (IV.out.fr fz.out) I5.out (by omega) (by omega) (by omega)).mono ?_
            rintro e wb ⟨v6, rfl, i6, fy⟩
            obtain ⟨x1, x2, x3, x4, x5, x6, rfl⟩ := i6.form
            have I6 := hide i6
            clear i6
            have I5 := hide (I5.out.fr fy)
            have fz := hide (fz.out.trans fy)
            clear fy
            (try go_wp2_with fail)
            refine hK.out _ _ ?_ (fun hHeld => ?_)
            · (try dsimp only)
              exact fr_cell fz.out q12
            clear hK K
            (try simp only [Act.put, List.getElem_toArray, List.getElem_cons_zero, List.getElem_cons_succ, List.setIfInBounds_toArray, List.set_cons_zero, List.set_cons_succ])
            refine wpAnyH_take (i := 3) (v := ?_) rfl (by kernel_rfl) (by kernel_rfl) (by kernel_rfl) (fun _ _ _ h => h) (Or.inl ⟨by rfl, ?_⟩) (by assumption) ?_
            rotate_left
            · (intro w hSw; (try dsimp only at hSw); go_simp; try with_reducible rfl)
            (try simp only [Act.put, List.getElem_toArray, List.getElem_cons_zero, List.getElem_cons_succ, List.setIfInBounds_toArray, List.set_cons_zero, List.set_cons_succ])
            refine wpAnyH_take (i := 4) (v := ?_) rfl (by kernel_rfl) (by kernel_rfl) (by kernel_rfl) (fun _ _ _ h => h) (Or.inl ⟨by rfl, ?_⟩) (by assumption) ?_
            rotate_left
            · (intro w hSw; (try dsimp only at hSw); go_simp; try with_reducible rfl)
            (try simp only [Act.put, List.getElem_toArray, List.getElem_cons_zero, List.getElem_cons_succ, List.setIfInBounds_toArray, List.set_cons_zero, List.set_cons_succ])
            refine wpAnyH_take (i := 5) (v := ?_) rfl (by kernel_rfl) (by kernel_rfl) (by kernel_rfl) (fun _ _ _ h => h) (Or.inl ⟨by rfl, ?_⟩) (by assumption) ?_
            rotate_left
            · (intro w hSw; (try dsimp only at hSw); go_simp; try with_reducible rfl)
            (try simp only [Act.put, List.getElem_toArray, List.getElem_cons_zero, List.getElem_cons_succ, List.setIfInBounds_toArray, List.set_cons_zero, List.set_cons_succ])
            refine wpAnyH_ready (rs := [6]) (by kernel_rfl) (by simp) ?_
            refine AllReadyH.cons rfl (fun K hK => ?_) AllReadyH.nil
            obtain ⟨bA, hbA⟩ : ∃ b, b = wb.heap.size := ⟨_, rfl⟩
            have fy := Fr.alloc wb (Obj.cells #[Value.slice none 0 0, Value.slice none 0 0] 27)
            have SA : Hid (Slot2 w8 (wb.alloc (Obj.cells #[Value.slice none 0 0, Value.slice none 0 0] 27)) bA (.slice none 0 0) (.slice none 0 0)) := by rw [hbA]; exact hide (Slot2.new fz.out none 0 0 none 0 0 27)
            have I5 := hide (I5.out.fr fy)
            have I6 := hide (I6.out.fr fy)
            have fz := hide (fz.out.trans fy)
            clear fy
            go_simp
            rw [← hbA]
            refine hK.out _ _ ?_ (fun hHeld => ?_)
            · (try dsimp only)
              exact fr_cell fz.out q12
            clear hK K
            (try simp only [Act.put, List.getElem_toArray, List.getElem_cons_zero, List.getElem_cons_succ, List.setIfInBounds_toArray, List.set_cons_zero, List.set_cons_succ])
            obtain ⟨wA, hwA⟩ : ∃ wA, wA = wb.alloc (Obj.cells #[Value.slice none 0 0, Value.slice none 0 0] 27) := ⟨_, rfl⟩
            rw [← hwA] at fz SA hHeld I5 I6 ⊢
            clear hwA hbA
            refine wpAnyH_ready (rs := [7]) (by kernel_rfl) (by simp) ?_
            refine AllReadyH.cons rfl (fun K hK => ?_) AllReadyH.nil
            have q_ := SA.out.1
            have q2_ := SA.out.2.1
            have z_ := SA.out.2.2.1 0
            have z2_ := SA.out.2.2.1 1
            have I6 := hide (SA.out.rat I6.out x1 x2 x3 (.slice x4 x5 x6))
            have fz := hide (SA.out.set_fr fz.out (.slice x1 x2 x3) (.slice x4 x5 x6))
            have SA := hide (SA.out.set x1 x2 x3 x4 x5 x6)
            go_simp
            (try go_wp2_with fail)
            refine hK.out _ _ ?_ (fun hHeld => ?_)
            · (try dsimp only)
              exact fr_cell fz.out q12
            clear hK K
            (try simp only [Act.put, List.getElem_toArray, List.getElem_cons_zero, List.getElem_cons_succ, List.setIfInBounds_toArray, List.set_cons_zero, List.set_cons_succ])
            refine wpAnyH_take (i := 8) (v := ?_) rfl (by kernel_rfl) (by kernel_rfl) (by kernel_rfl) (fun _ _ _ h => h) (Or.inl ⟨by rfl, ?_⟩) (by assumption) ?_
            rotate_left
            · (intro w hSw; (try dsimp only at hSw); go_simp; try with_reducible rfl)
            (try simp only [Act.put, List.getElem_toArray, List.getElem_cons_zero, List.getElem_cons_succ, List.setIfInBounds_toArray, List.set_cons_zero, List.set_cons_succ])
            refine wpAnyH_done (by kernel_rfl) ?_ _
            go_wp2_with fail
            go_meet
            exact ⟨_, _, _, _, _, _, _, rfl, rfl, SA, I6, fz⟩
          · skip
            obtain ⟨bA, hbA⟩ : ∃ b, b = wa.heap.size := ⟨_, rfl⟩
            have fy := Fr.alloc wa (Obj.cells #[Value.slice none 0 0, Value.slice none 0 0] 27)
            have SA : Hid (Slot2 w8 (wa.alloc (Obj.cells #[Value.slice none 0 0, Value.slice none 0 0] 27)) bA (.slice none 0 0) (.slice none 0 0)) := by rw [hbA]; exact hide (Slot2.new fz.out none 0 0 none 0 0 27)
            have I5 := hide (I5.out.fr fy)
            have fz := hide (fz.out.trans fy)
            clear fy
            go_simp
            rw [← hbA]
            refine hK.out _ _ ?_ (fun hHeld => ?_)
            · (try dsimp only)
              exact fr_cell fz.out q12
            clear hK K
            (try simp only [Act.put, List.getElem_toArray, List.getElem_cons_zero, List.getElem_cons_succ, List.setIfInBounds_toArray, List.set_cons_zero, List.set_cons_succ])
            obtain ⟨wA, hwA⟩ : ∃ wA, wA = wa.alloc (Obj.cells #[Value.slice none 0 0, Value.slice none 0 0] 27) := ⟨_, rfl⟩
            rw [← hwA] at fz SA hHeld I5 ⊢
            clear hwA hbA
            refine wpAnyH_ready (rs := [2]) (by kernel_rfl) (by simp) ?_
            refine AllReadyH.cons rfl (fun K hK => ?_) AllReadyH.nil
            go_simp
            refine (ofR_yes _ _ v 1 _ (HL.out.fr (FW.out.trans fz.out)).1 (IV.out.fr fz.out) I5.out (by omega) (by omega) (by omega)).mono ?_
            rintro e wb ⟨v6, rfl, i6, fy⟩
            obtain ⟨x1, x2, x3, x4, x5, x6, rfl⟩ := i6.form
            have I6 := hide i6
            clear i6
            have I5 := hide (I5.out.fr fy)
            have SA := hide (SA.out.fr fy)
            have fz := hide (fz.out.trans fy)
            clear fy
            (try go_wp2_with fail)
            refine hK.out _ _ ?_ (fun hHeld => ?_)
            · (try dsimp only)
              exact fr_cell fz.out q12
            clear hK K
            (try simp only [Act.put, List.getElem_toArray, List.getElem_cons_zero, List.getElem_cons_succ, List.setIfInBounds_toArray, List.set_cons_zero, List.set_cons_succ])
            refine wpAnyH_take (i := 3) (v := ?_) rfl (by kernel_rfl) (by kernel_rfl) (by kernel_rfl) (fun _ _ _ h => h) (Or.inl ⟨by rfl, ?_⟩) (by assumption) ?_
            rotate_left
            · (intro w hSw; (try dsimp only at hSw); go_simp; try with_reducible rfl)
            (try simp only [Act.put, List.getElem_toArray, List.getElem_cons_zero, List.getElem_cons_succ, List.setIfInBounds_toArray, List.set_cons_zero, List.set_cons_succ])
            refine wpAnyH_take (i := 4) (v := ?_) rfl (by kernel_rfl) (by kernel_rfl) (by kernel_rfl) (fun _ _ _ h => h) (Or.inl ⟨by rfl, ?_⟩) (by assumption) ?_
            rotate_left
            · (intro w hSw; (try dsimp only at hSw); go_simp; try with_reducible rfl)
            (try simp only [Act.put, List.getElem_toArray, List.getElem_cons_zero, List.getElem_cons_succ, List.setIfInBounds_toArray, List.set_cons_zero, List.set_cons_succ])
            refine wpAnyH_take (i := 5) (v := ?_) rfl (by kernel_rfl) (by kernel_rfl) (by kernel_rfl) (fun _ _ _ h => h) (Or.inl ⟨by rfl, ?_⟩) (by assumption) ?_
            rotate_left
            · (intro w hSw; (try dsimp only at hSw); go_simp; try with_reducible rfl)
            (try simp only [Act.put, List.getElem_toArray, List.getElem_cons_zero, List.getElem_cons_succ, List.setIfInBounds_toArray, List.set_cons_zero, List.set_cons_succ])
            refine wpAnyH_ready (rs := [7]) (by kernel_rfl) (by simp) ?_
            refine AllReadyH.cons rfl (fun K hK => ?_) AllReadyH.nil
            have q_ := SA.out.1
            have q2_ := SA.out.2.1
            have z_ := SA.out.2.2.1 0
            have z2_ := SA.out.2.2.1 1
            have I6 := hide (SA.out.rat I6.out x1 x2 x3 (.slice x4 x5 x6))
            have fz := hide (SA.out.set_fr fz.out (.slice x1 x2 x3) (.slice x4 x5 x6))
            have SA := hide (SA.out.set x1 x2 x3 x4 x5 x6)
            go_simp
            (try go_wp2_with fail)
            refine hK.out _ _ ?_ (fun hHeld => ?_)
            · (try dsimp only)
              exact fr_cell fz.out q12
            clear hK K
            (try simp only [Act.put, List.getElem_toArray, List.getElem_cons_zero, List.getElem_cons_succ, List.setIfInBounds_toArray, List.set_cons_zero, List.set_cons_succ])
            refine wpAnyH_take (i := 8) (v := ?_) rfl (by kernel_rfl) (by kernel_rfl) (by kernel_rfl) (fun _ _ _ h => h) (Or.inl ⟨by rfl, ?_⟩) (by assumption) ?_
            rotate_left
            · (intro w hSw; (try dsimp only at hSw); go_simp; try with_reducible rfl)
            (try simp only [Act.put, List.getElem_toArray, List.getElem_cons_zero, List.getElem_cons_succ, List.setIfInBounds_toArray, List.set_cons_zero, List.set_cons_succ])
            refine wpAnyH_done (by kernel_rfl) ?_ _
            go_wp2_with fail
            go_meet
            exact ⟨_, _, _, _, _, _, _, rfl, rfl, SA, I6, fz⟩
        · skip
          obtain ⟨bA, hbA⟩ : ∃ b, b = wd.heap.size := ⟨_, rfl⟩
          have fy := Fr.alloc wd (Obj.cells #[Value.slice none 0 0, Value.slice none 0 0] 27)
          have SA : Hid (Slot2 w8 (wd.alloc (Obj.cells #[Value.slice none 0 0, Value.slice none 0 0] 27)) bA (.slice none 0 0) (.slice none 0 0)) := by rw [hbA]; exact hide (Slot2.new fz.out none 0 0 none 0 0 27)
          have fz := hide (fz.out.trans fy)
          clear fy
          go_simp
          rw [← hbA]
          refine hK.out _ _ ?_ (fun hHeld => ?_)
          · (try dsimp only)
            exact fr_cell fz.out q12
          clear hK K
          (try simp only [Act.put, List.getElem_toArray, List.getElem_cons_zero, List.getElem_cons_succ, List.setIfInBounds_toArray, List.set_cons_zero, List.set_cons_succ])
          obtain ⟨wA, hwA⟩ : ∃ wA, wA = wd.alloc (Obj.cells #[Value.slice none 0 0, Value.slice none 0 0] 27) := ⟨_, rfl⟩
          rw [← hwA] at fz SA hHeld  ⊢
          clear hwA hbA
          refine wpAnyH_ready (rs := [1]) (by kernel_rfl) (by simp) ?_
          refine AllReadyH.cons rfl (fun K hK => ?_) AllReadyH.nil
          go_simp
          refine (ofc_any 1 1 _ rfl (by omega)).mono ?_
          rintro e wa ⟨a5, c5, rfl, i5, _, fy⟩
          have I5 := hide i5
          clear i5
          have SA := hide (SA.out.fr fy)
          have fz := hide (fz.out.trans fy)
          clear fy
          (try go_wp2_with fail)
          refine hK.out _ _ ?_ (fun hHeld => ?_)
          · (try dsimp only)
            exact fr_cell fz.out q12
          clear hK K
          (try simp only [Act.put, List.getElem_toArray, List.getElem_cons_zero, List.getElem_cons_succ, List.setIfInBounds_toArray, List.set_cons_zero, List.set_cons_succ])
          refine wpAnyH_ready (rs := [2]) (by kernel_rfl) (by simp) ?_
          refine AllReadyH.cons rfl (fun K hK => ?_) AllReadyH.nil
          go_simp
          refine (ofR_yes _ _ v 1 _ (HL.out.fr (FW.out.trans fz.out)).1 (IV.out.fr fz.out) I5.out (by omega) (by omega) (by omega)).mono ?_
          rintro e wb ⟨v6, rfl, i6, fy⟩
          obtain ⟨x1, x2, x3, x4, x5, x6, rfl⟩ := i6.form
          have I6 := hide i6
          clear i6
          have I5 := hide (I5.out.fr fy)
          have SA := hide (SA.out.fr fy)
          have fz := hide (fz.out.trans fy)
          clear fy
          (try go_wp2_with fail)
          refine hK.out _ _ ?_ (fun hHeld => ?_)
          · (try dsimp only)
            exact fr_cell fz.out q12
          clear hK K
          (try simp only [Act.put, List.getElem_toArray, List.getElem_cons_zero, List.getElem_cons_succ, List.setIfInBounds_toArray, List.set_cons_zero, List.set_cons_succ])
          refine wpAnyH_take (i := 3) (v := ?_) rfl (by kernel_rfl) (by kernel_rfl) (by kernel_rfl) (fun _ _ _ h => h) (Or.inl ⟨by rfl, ?_⟩) (by assumption) ?_
          rotate_left
          · (intro w hSw; (try dsimp only at hSw); go_simp; try with_reducible rfl)
          (try simp only [Act.put, List.getElem_toArray, List.getElem_cons_zero, List.getElem_cons_succ, List.setIfInBounds_toArray, List.set_cons_zero, List.set_cons_succ])
          refine wpAnyH_take (i := 4) (v := ?_) rfl (by kernel_rfl) (by kernel_rfl) (by kernel_rfl) (fun _ _ _ h => h) (Or.inl ⟨by rfl, ?_⟩) (by assumption) ?_
          rotate_left
          · (intro w hSw; (try dsimp only at hSw); go_simp; try with_reducible rfl)
          (try simp only [Act.put, List.getElem_toArray, List.getElem_cons_zero, List.getElem_cons_succ, List.setIfInBounds_toArray, List.set_cons_zero, List.set_cons_succ])
          refine wpAnyH_take (i := 5) (v := ?_) rfl (by kernel_rfl) (by kernel_rfl) (by kernel_rfl) (fun _ _ _ h => h) (Or.inl ⟨by rfl, ?_⟩) (by assumption) ?_
          rotate_left
          · (intro w hSw; (try dsimp only at hSw); go_simp; try with_reducible rfl)
          (try simp only [Act.put, List.getElem_toArray, List.getElem_cons_zero, List.getElem_cons_succ, List.setIfInBounds_toArray, List.set_cons_zero, List.set_cons_succ])
          refine wpAnyH_ready (rs := [7]) (by kernel_rfl) (by simp) ?_
          refine AllReadyH.cons rfl (fun K hK => ?_) AllReadyH.nil
          have q_ := SA.out.1
          have q2_ := SA.out.2.1
          have z_ := SA.out.2.2.1 0
          have z2_ := SA.out.2.2.1 1
          have I6 := hide (SA.out.rat I6.out x1 x2 x3 (.slice x4 x5 x6))
          have fz := hide (SA.out.set_fr fz.out (.slice x1 x2 x3) (.slice x4 x5 x6))
          have SA := hide (SA.out.set x1 x2 x3 x4 x5 x6)
          go_simp
          (try go_wp2_with fail)
          refine hK.out _ _ ?_ (fun hHeld => ?_)
          · (try dsimp only)
            exact fr_cell fz.out q12
          clear hK K
          (try simp only [Act.put, List.getElem_toArray, List.getElem_cons_zero, List.getElem_cons_succ, List.setIfInBounds_toArray, List.set_cons_zero, List.set_cons_succ])
          refine wpAnyH_take (i := 8) (v := ?_) rfl (by kernel_rfl) (by kernel_rfl) (by kernel_rfl) (fun _ _ _ h => h) (Or.inl ⟨by rfl, ?_⟩) (by assumption) ?_
          rotate_left
          · (intro w hSw; (try dsimp only at hSw); go_simp; try with_reducible rfl)
          (try simp only [Act.put, List.getElem_toArray, List.getElem_cons_zero, List.getElem_cons_succ, List.setIfInBounds_toArray, List.set_cons_zero, List.set_cons_succ])
          refine wpAnyH_done (by kernel_rfl) ?_ _
          go_wp2_with fail
          go_meet
          exact ⟨_, _, _, _, _, _, _, rfl, rfl, SA, I6, fz⟩
      case rest =>
      obtain ⟨b6, y1, y2, y3, y4, y5, y6, rfl, rfl, S6, RY, F1⟩ := hcut
      obtain ⟨w9, hw9⟩ : ∃ V, V = wc := ⟨_, rfl⟩
      rw [← hw9] at S6 RY F1 ⊢
      clear hw9 q12 d12
      have S2 := hide (S2.out.fr F1.out)
      have X1 := hide (X1.out.fr F1.out)
      have FW := hide (FW.out.trans F1.out)
      clear F1 S12 IV
      have p1 := X1.out.1
      have p2 := X1.out.2.1
      have p6 := S6.out.1
      have p6' := S6.out.2.1
      clear hj c c'
      go_wp2_with fail
      refine (scaleR_any _ v 1 (SE - LL + 1) A B _ (HL.out.fr FW.out).1 RY.out (by omega) (by omega) (by omega) (by omega) EA.out EB.out).mono ?_
      rintro e w10 ⟨v10, rfl, i10, fy⟩
      obtain ⟨g1, g2, g3, g4, g5, g6, rfl⟩ := i10.form
      have RV := hide i10
      have S2 := hide (S2.out.fr fy)
      have FW := hide (FW.out.trans fy)
      clear i10 fy
      have k2 := S2.out.1
      have k2' := S2.out.2.1
      have z2 := S2.out.2.2.1 0
      have z2' := S2.out.2.2.1 1
      go_wp2_with fail
      (try simp only [Exit.inBlock, Exit.then])
      have q_ := S2.out.1
      have q2_ := S2.out.2.1
      have z_ := S2.out.2.2.1 0
      have z2_ := S2.out.2.2.1 1
      have RV := hide (S2.out.rat RV.out g1 g2 g3 (.slice g4 g5 g6))
      have FW := hide (S2.out.set_fr FW.out (.slice g1 g2 g3) (.slice g4 g5 g6))
      have S2 := hide (S2.out.set g1 g2 g3 g4 g5 g6)
      exact bodyPost_ret (results_rat rfl _ _ (w.heap.size + 1) _ _ rfl S2.out.1 S2.out.2.1) rfl ⟨_, rfl, RV.out, FW.out⟩
end Go.Proofs.YthdgdomgcogpjaaDoor
