/- Rounding: At. -/
import Derived.Test.YthdgdomgcogpjaaDoorRoundE
namespace Go.Proofs.YthdgdomgcogpjaaDoor
set_option linter.unusedVariables false
set_option linter.unusedSimpArgs false
open Go.RowKit
open Go.Lib (decDigits)

attribute [local go_sem] World.cell?_alloc_some

set_option maxHeartbeats 1000000 in
set_option maxRecDepth 4000 in
theorem atR_any (v : Value) (n d : Nat) (w : World) (hT : Tab w) (hP : PT w) (h : IsRat w v n d) (h1 : nlen 4294967296 n ≤ 1000) (k1 : nlen 4294967296 d ≤ 1000) (p : Nat) (p1 : p ≤ 400) (P : Nat) (eP : rndN (n * 10 ^ p) d = P) (SW SF : ByteArray) (hSW : bs (wD p P) = SW) (hSF : bs (fD p P) = SF) :
    Calls Tryd.prog 10 #[v, .int .i64 p] w fun e w' => e = .returned (.tuple #[.agg #[.string SW, .string SF], .bool true]) ∧ Fr w w' := by
  have HA := hide h
  have HT := hide hT
  have HP := hide hP
  obtain ⟨a, N, ca, b, M, cb, rfl⟩ := h.form
  obtain ⟨A, hA⟩ : ∃ A, 10 ^ p = A := ⟨_, rfl⟩
  have nA := nl_ten_m (m := 400) hA (by omega) (by omega)
  rw [hA] at eP
  have hA2 : 10 ^ ((p : Nat) : Int).toNat = A := by rw [← hA, Int.toNat_natCast]
  have hA3 : 10 ^ (-((p : Nat) : Int)).toNat = 1 := by rw [show (-((p : Nat) : Int)).toNat = 0 by omega]
  have nX : nlen 4294967296 (n * A) ≤ 1400 := nlen_mul b32 h1 nA
  have nP : nlen 4294967296 P ≤ 3000 := by
    have hle : P ≤ n * A + 1 := by
      rw [← eP]
      unfold rndN
      have := Nat.div_le_self (n * A) d
      split <;> omega
    have h2 : nlen 4294967296 (n * A + 1) ≤ 1401 := nl_sum nX (Nat.le_trans (nlen_le b32 (show 1 < 4294967296 ^ 1 by decide)) (by omega))
    exact Nat.le_trans (nlen_mono b32 hle) (by omega)
  have EA2 := hide hA2
  have EA3 := hide hA3
  have EP : Hid (rndN (n * A) (d * 1) = P) := by rw [Nat.mul_one]; exact eP
  obtain ⟨X, hX⟩ : ∃ X, bs (decDigits P) = X := ⟨_, rfl⟩
  have TX : Hid (∀ w v, IsNat w v P → PT w → Calls Tryd.prog 36 #[v] w fun e w' => e = .returned (.string X) ∧ Fr w w') := by
    rw [← hX]
    exact fun w v h hP => text_any v P w h (by omega) hP
  have zX : X.size ≤ 100000 := by rw [← hX]; exact Nat.le_trans (dec_size nP) (by omega)
  obtain ⟨T, hTx⟩ : ∃ T, bs (padD (p + 1) (decDigits P)) = T := ⟨_, rfl⟩
  have PX : Hid (∀ w, Calls Tryd.prog 35 #[.string X, .int .i64 ((p : Int) + 1)] w fun e w' => e = .returned (.string T) ∧ Fr w w') := by
    intro w
    have := pad_any X ((p : Int) + 1) w (by omega) (by omega) (by omega)
    rw [if_pos (by omega), ← hX, bs_data, show ((p : Int) + 1).toNat = p + 1 by omega, hTx, hX] at this
    exact this
  have zT : T.size = max (p + 1) X.size := by rw [← hTx, bs_size, padD_len, ← hX, bs_size]
  obtain ⟨q, hq⟩ : ∃ q, T.size = q + p := ⟨T.size - p, by omega⟩
  obtain ⟨e1, e2⟩ := at_cut p P
  have eL : (padD (p + 1) (decDigits P)).length = q + p := by rw [← bs_size, hTx, hq]
  rw [eL, Nat.add_sub_cancel] at e1 e2
  have eT : T.data.toList = padD (p + 1) (decDigits P) := by rw [← hTx, bs_data]
  obtain ⟨d1, d2, d3, d4⟩ := cut_data T q (by omega)
  obtain ⟨U, hU⟩ : ∃ U, T.extract 0 q = U := ⟨_, rfl⟩
  obtain ⟨V, hV⟩ : ∃ V, T.extract q T.size = V := ⟨_, rfl⟩
  rw [hU] at d1
  rw [hV] at d2
  have VF : V = SF := by rw [bs_eta V, d2, eT, e2, hSF]
  have UW : Hid (U.toList = [48] → SW = ⟨#[]⟩) := by
    intro hu
    rw [Go.Lib.toList_data, d1, eT] at hu
    rw [if_pos hu] at e1
    rw [← hSW, ← e1]
  have UN : Hid (U.toList ≠ [48] → U = SW) := by
    intro hu
    rw [Go.Lib.toList_data, d1, eT] at hu
    rw [if_neg hu] at e1
    rw [bs_eta U, d1, eT, e1, hSW]
  subst VF
  have zq : T.size ≤ 200000 := by omega
  have HU := hide hU
  have HV := hide hV
  have hq1 : (T.size : Int) - p = q := by omega
  have hq2 : q ≤ T.size := by omega
  have hp0 : ¬ (p : Int) < 0 := by omega
  have hp1 : ¬ 400 < (p : Int) := by omega
  clear hA eP hA2 hA3 hX hTx e1 e2 eL eT d1 d2 d3 d4 hSW hSF h hT hP zT
  have hq3 : (q : Int) ≤ T.size := by omega
  have hq4 : (q : Int).toNat = q := by omega
  clear hq
  have G := hide (at_goal w a b N ca M cb)
  go_enter Tryd.func10, Tryd.ntmps10
  go_wp2_with fail
  obtain ⟨W, hW, fW, s1, r2⟩ := G.out
  rw [← hW]
  clear hW
  have R2 := hide r2
  have FW := hide fW
  clear s1 r2 fW G
  refine (scaleR_any _ n d p A 1 _ (Tab.fr HT.out FW.out) (HA.out.fr FW.out) (by omega) (by omega) (by omega) (by omega) EA2.out EA3.out).mono ?_
  rintro e w1 ⟨v1, rfl, i1, f1⟩
  obtain ⟨u1, u2, u3, u4, u5, u6, rfl⟩ := i1.form
  have I1 := hide i1
  have R2 := hide (R2.out.fr f1)
  have FW := hide (FW.out.trans f1)
  clear i1 f1
  go_wp2_with fail
  refine (whole_any _ (n * A) (d * 1) _ I1.out (by omega) (by rw [Nat.mul_one]; omega) P EP.out).mono ?_
  rintro e w3 ⟨a3, c3, rfl, i3, f3⟩
  have I3 := hide i3
  have R2 := hide (R2.out.fr f3)
  have FW := hide (FW.out.trans f3)
  clear i3 f3 I1
  go_wp2_with fail
  refine (TX.out _ _ I3.out (PT.fr HP.out FW.out)).mono ?_
  rintro e w4 ⟨rfl, f4⟩
  have R2 := hide (R2.out.fr f4)
  have FW := hide (FW.out.trans f4)
  clear f4 I3 TX
  go_wp2_with fail
  refine (PX.out _).mono ?_
  rintro e w5 ⟨rfl, f5⟩
  have R2 := hide (R2.out.fr f5)
  have FW := hide (FW.out.trans f5)
  clear f5 PX
  go_wp2_with fail
  have R2 := hide (R2.out.fr (Fr.drew w5))
  have FW := hide (FW.out.trans (Fr.drew w5))
  refine wp_region_held_drew (S := (fun w' => w'.cell? ⟨w.heap.size + 1, 0, none⟩ = some (.string ⟨#[]⟩))) (by kernel_rfl) ?_ (fun hHeld => ?_)
  · exact R2.out.1
  obtain ⟨wd, hwd⟩ : ∃ wd, wd = w5.drew := ⟨_, rfl⟩
  rw [← hwd] at hHeld R2 FW ⊢
  clear hwd
  refine wpAnyH_take (i := 0) (v := ?_) rfl (by kernel_rfl) (by kernel_rfl) (by kernel_rfl) (fun _ _ _ h => h) (Or.inl ⟨by rfl, ?_⟩) (by assumption) ?_
  rotate_left
  · (intro w hSw; (try dsimp only at hSw); go_simp; try with_reducible rfl)
  (try simp only [Act.put, List.getElem_toArray, List.getElem_cons_zero, List.getElem_cons_succ, List.setIfInBounds_toArray, List.set_cons_zero, List.set_cons_succ])
  refine wpAnyH_take (i := 1) (v := ?_) rfl (by kernel_rfl) (by kernel_rfl) (by kernel_rfl) (fun _ _ _ h => h) (Or.inl ⟨by rfl, ?_⟩) (by assumption) ?_
  rotate_left
  · (intro w hSw; (try dsimp only at hSw); go_simp; try with_reducible rfl)
  (try simp only [Act.put, List.getElem_toArray, List.getElem_cons_zero, List.getElem_cons_succ, List.setIfInBounds_toArray, List.set_cons_zero, List.set_cons_succ])
  refine wpAnyH_take (i := 2) (v := ?_) rfl (by kernel_rfl) (by kernel_rfl) (by kernel_rfl) (fun _ _ _ h => h) (Or.inl ⟨by rfl, ?_⟩) (by assumption) ?_
  rotate_left
  · (intro w hSw; (try dsimp only at hSw); go_simp; try with_reducible rfl)
  (try simp only [Act.put, List.getElem_toArray, List.getElem_cons_zero, List.getElem_cons_succ, List.setIfInBounds_toArray, List.set_cons_zero, List.set_cons_succ])
  refine wpAnyH_take (i := 3) (v := ?_) rfl (by kernel_rfl) (by kernel_rfl) (by kernel_rfl) (fun _ _ _ h => h) (Or.inl ⟨by rfl, ?_⟩) (by assumption) ?_
  rotate_left
  · (intro w hSw; (try dsimp only at hSw); go_simp; try with_reducible rfl)
  (try simp only [Act.put, List.getElem_toArray, List.getElem_cons_zero, List.getElem_cons_succ, List.setIfInBounds_toArray, List.set_cons_zero, List.set_cons_succ])
  refine wpAnyH_take (i := 4) (v := ?_) rfl (by kernel_rfl) (by kernel_rfl) (by kernel_rfl) (fun _ _ _ h => h) (Or.inl ⟨by rfl, ?_⟩) (by assumption) ?_
  rotate_left
  · (intro w hSw; (try dsimp only at hSw); go_simp; try with_reducible rfl)
  (try simp only [Act.put, List.getElem_toArray, List.getElem_cons_zero, List.getElem_cons_succ, List.setIfInBounds_toArray, List.set_cons_zero, List.set_cons_succ])
  refine wpAnyH_take (i := 5) (v := ?_) rfl (by kernel_rfl) (by kernel_rfl) (by kernel_rfl) (fun _ _ _ h => h) (Or.inl ⟨by rfl, ?_⟩) (by assumption) ?_
  rotate_left
  · (intro w hSw; (try dsimp only at hSw); go_simp; try with_reducible rfl)
  (try simp only [Act.put, List.getElem_toArray, List.getElem_cons_zero, List.getElem_cons_succ, List.setIfInBounds_toArray, List.set_cons_zero, List.set_cons_succ])
  refine wpAnyH_take (i := 6) (v := ?_) rfl (by kernel_rfl) (by kernel_rfl) (by kernel_rfl) (fun _ _ _ h => h) (Or.inl ⟨by rfl, ?_⟩) (by assumption) ?_
  rotate_left
  · (intro w hSw; (try dsimp only at hSw); go_simp; try with_reducible rfl)
  (try simp only [Act.put, List.getElem_toArray, List.getElem_cons_zero, List.getElem_cons_succ, List.setIfInBounds_toArray, List.set_cons_zero, List.set_cons_succ])
  refine wpAnyH_ready (rs := [7]) (by kernel_rfl) (by simp) ?_
  refine AllReadyH.cons rfl (fun K hK => ?_) AllReadyH.nil
  go_simp
  skip
  (try go_wp2_with fail)
  refine hK.out _ _ ?_ (fun hHeld => ?_)
  · (try dsimp only)
    exact (R2.out.fr (Fr.alloc _ _)).1
  clear hK K
  (try simp only [Act.put, List.getElem_toArray, List.getElem_cons_zero, List.getElem_cons_succ, List.setIfInBounds_toArray, List.set_cons_zero, List.set_cons_succ])
  refine wpAnyH_ready (rs := [8]) (by kernel_rfl) (by simp) ?_
  refine AllReadyH.cons rfl (fun K hK => ?_) AllReadyH.nil
  go_simp
  skip
  (try go_wp2_with fail)
  refine hK.out _ _ ?_ (fun hHeld => ?_)
  · (try dsimp only)
    first | exact (R2.out.fr (Fr.alloc _ _)).1 | (trace_state; sorry)
  clear hK K
  (try simp only [Act.put, List.getElem_toArray, List.getElem_cons_zero, List.getElem_cons_succ, List.setIfInBounds_toArray, List.set_cons_zero, List.set_cons_succ])
  refine wpAnyH_done (by kernel_rfl) ?_ _
  have q2 := R2.out.1
  have q2' := R2.out.2.1
  have z2 := R2.out.2.2.1 0
  have z2' := R2.out.2.2.1 1
  have za : ∀ o k, (wd.alloc o).frozen? ⟨w.heap.size + 1, k, none⟩ = false := fun o k => (R2.out.fr (Fr.alloc _ o)).2.2.1 k
  have l2 := cell_lt q2
  simp only [] at l2
  have e48 : ByteArray.toList ⟨#[48]⟩ = [48] := by rw [Go.Lib.toList_data]
  by_cases hu : U.toList = [48]
  · obtain rfl := UW.out hu
    have hub : (U.toList == [48]) = true := by rw [hu]; rfl
    clear hu UW UN
    go_wp2_with fail
    (try simp only [Exit.inBlock, Exit.then])
    have FW := hide (R2.out.set_fr FW.out (.string ⟨#[]⟩) (.string V))
    have R2 := hide (R2.out.set (.string ⟨#[]⟩) (.string V))
    have FW := hide (FW.out.trans (Fr.alloc _ (Obj.cells #[.string ⟨#[]⟩, .string V] 33)))
    have R2 := hide (R2.out.fr (Fr.alloc _ (Obj.cells #[.string ⟨#[]⟩, .string V] 33)))
    exact bodyPost_ret (results_fix_ok rfl _ _ (w.heap.size + 1) _ _ rfl R2.out.1 R2.out.2.1) rfl ⟨rfl, FW.out⟩
  · obtain rfl := UN.out hu
    have hub : (U.toList == [48]) = false := by simpa using hu
    clear hu UW UN
    go_wp2_with fail
    (try simp only [Exit.inBlock, Exit.then])
    have FW := hide (R2.out.set_fr FW.out (.string U) (.string V))
    have R2 := hide (R2.out.set (.string U) (.string V))
    have FW := hide (FW.out.trans (Fr.alloc _ (Obj.cells #[.string U, .string V] 33)))
    have R2 := hide (R2.out.fr (Fr.alloc _ (Obj.cells #[.string U, .string V] 33)))
    exact bodyPost_ret (results_fix_ok rfl _ _ (w.heap.size + 1) _ _ rfl R2.out.1 R2.out.2.1) rfl ⟨rfl, FW.out⟩
end Go.Proofs.YthdgdomgcogpjaaDoor
