/- Rounding: Step. -/
import Derived.Test.YthdgdomgcogpjaaDoorRoundA
namespace Go.Proofs.YthdgdomgcogpjaaDoor
set_option linter.unusedVariables false
set_option linter.unusedSimpArgs false
open Go.RowKit

attribute [local go_sem] World.cell?_alloc_some
set_option maxHeartbeats 1000000 in
set_option maxRecDepth 4000 in
theorem stepR_no (va vb : Value) (n d m k : Nat) (w : World) (hT : Tab w) (ha : IsRat w va n d) (hb : IsRat w vb m k) (h1 : nlen 4294967296 n ≤ 10000) (k1 : nlen 4294967296 d ≤ 10000) (h2 : nlen 4294967296 m ≤ 10000) (k2 : nlen 4294967296 k ≤ 10000) (h0 : m = 0) :
    Calls Tryd.prog 24 #[va, vb] w fun e w' => e = .returned (.tuple #[.agg #[.slice none 0 0, .slice none 0 0], .bool false]) ∧ Fr w w' := by
  have HA := hide ha
  have HB := hide hb
  have HT := hide hT
  obtain ⟨a, N, ca, b, M, cb, rfl⟩ := ha.form
  obtain ⟨a', N', ca', b', M', cb', rfl⟩ := hb.form
  have hd1 := ha.1
  have hd2 := hb.1
  clear ha hb hT
  go_enter Tryd.func24, Tryd.ntmps24
  go_wp2_with fail
  obtain ⟨W, hW⟩ : ∃ W, W = (((w.alloc (Obj.cells #[Value.slice a N ca, Value.slice b M cb] 27)).alloc (Obj.cells #[Value.slice a' N' ca', Value.slice b' M' cb'] 27)).alloc (Obj.cells #[Value.slice none 0 0, Value.slice none 0 0] 27)) := ⟨_, rfl⟩
  have fW : Fr w W := by rw [hW]; exact (((Fr.alloc w (Obj.cells #[Value.slice a N ca, Value.slice b M cb] 27)).trans (Fr.alloc _ (Obj.cells #[Value.slice a' N' ca', Value.slice b' M' cb'] 27))).trans (Fr.alloc _ (Obj.cells #[Value.slice none 0 0, Value.slice none 0 0] 27)))
  have s2 : Slot2 w W (w.heap.size) (.slice a N ca) (.slice b M cb) := by
    rw [hW]; simpa using ((Slot2.new (Fr.refl w) a N ca b M cb 27).fr (Fr.alloc _ _)).fr (Fr.alloc _ _)
  have s3 : Slot2 w W (w.heap.size + 1) (.slice a' N' ca') (.slice b' M' cb') := by
    rw [hW]; simpa using (Slot2.new (Fr.alloc w (Obj.cells #[Value.slice a N ca, Value.slice b M cb] 27)) a' N' ca' b' M' cb' 27).fr (Fr.alloc _ _)
  have s4 : Slot2 w W (w.heap.size + 1 + 1) (.slice none 0 0) (.slice none 0 0) := by
    rw [hW]; simpa using Slot2.new ((Fr.alloc w (Obj.cells #[Value.slice a N ca, Value.slice b M cb] 27)).trans (Fr.alloc _ (Obj.cells #[Value.slice a' N' ca', Value.slice b' M' cb'] 27))) none 0 0 none 0 0 27
  rw [← hW]
  clear hW
  have S2 := hide s2
  have S3 := hide s3
  have S4 := hide s4
  have FW := hide fW
  clear s2 s3 s4 fW
  refine (isNoughtR_any _ m k _ (HB.out.fr FW.out) (by omega)).mono ?_
  rintro e w1 ⟨rfl, f1⟩
  have S2 := hide (S2.out.fr f1)
  have S3 := hide (S3.out.fr f1)
  have S4 := hide (S4.out.fr f1)
  have FW := hide (FW.out.trans f1)
  clear f1
  have q4 := S4.out.1
  have q4' := S4.out.2.1
  have z4 := S4.out.2.2.1 0
  have z4' := S4.out.2.2.1 1
  rw [decide_eq_true h0]
  go_wp2_with fail
  (try simp only [Exit.inBlock, Exit.then])
  have q_ := S4.out.1
  have q2_ := S4.out.2.1
  have z_ := S4.out.2.2.1 0
  have z2_ := S4.out.2.2.1 1
  have FW := hide (S4.out.set_fr FW.out (.slice none 0 0) (.slice none 0 0))
  have S4 := hide (S4.out.set none 0 0 none 0 0)
  exact bodyPost_ret (results_rat_ok rfl _ _ (w.heap.size + 1 + 1) _ _ rfl S4.out.1 S4.out.2.1) rfl ⟨rfl, FW.out⟩

theorem rat_turn {w : World} {v : Value} {n d x y : Nat} (h : IsRat w v x y) (e : x = rD n d) (e' : y = rN n d) (h0 : n ≠ 0) (hd : d ≠ 0) : IsRat w v d n := by
  refine h.same h0 ?_
  have a1 := @rN_mul n d
  have a2 := @rD_mul n d
  subst e e'
  generalize rN n d = P at *
  generalize rD n d = Q at *
  generalize Nat.gcd n d = G at *
  subst a1 a2
  ac_rfl

set_option maxHeartbeats 4000000 in
set_option maxRecDepth 4000 in
theorem stepR_yes (va vb : Value) (n d m k : Nat) (w : World) (hT : Tab w) (ha : IsRat w va n d) (hb : IsRat w vb m k) (h1 : nlen 4294967296 n ≤ 10000) (k1 : nlen 4294967296 d ≤ 10000) (h2 : nlen 4294967296 m ≤ 10000) (k2 : nlen 4294967296 k ≤ 10000) (h0 : m ≠ 0) (C : Nat) (eC : rndN (n * k) (d * m) = C) :
    Calls Tryd.prog 24 #[va, vb] w fun e w' => ∃ v, e = .returned (.tuple #[v, .bool true]) ∧ IsRat w' v (C * m) k ∧ Fr w w' := by
  have HA := hide ha
  have HB := hide hb
  have HT := hide hT
  obtain ⟨a, N, ca, b, M, cb, rfl⟩ := ha.form
  obtain ⟨a', N', ca', b', M', cb', rfl⟩ := hb.form
  have hd1 := ha.1
  have hd2 := hb.1
  have np1 : nlen 4294967296 (rN m k) ≤ 10000 := nl_le h2 (rN_le _ _)
  have nq1 : nlen 4294967296 (rD m k) ≤ 10000 := nl_le k2 (rD_le _ _)
  have hq0 : rN m k ≠ 0 := fun e => h0 ((rN_zero hd2).1 e)
  have nX : nlen 4294967296 (n * k) ≤ 20000 := nlen_mul b32 h1 k2
  have nY : nlen 4294967296 (d * m) ≤ 20000 := nlen_mul b32 k1 h2
  have nC : nlen 4294967296 C ≤ 20001 := by
    have hle : C ≤ n * k + 1 := by
      rw [← eC]
      unfold rndN
      have := Nat.div_le_self (n * k) (d * m)
      split <;> omega
    have h2 : nlen 4294967296 (n * k + 1) ≤ 20001 := nl_sum nX (Nat.le_trans (nlen_le b32 (show 1 < 4294967296 ^ 1 by decide)) (by omega))
    exact Nat.le_trans (nlen_mono b32 hle) (by omega)
  have n1 : nlen 4294967296 1 ≤ 1 := nlen_le b32 (show 1 < 4294967296 ^ 1 by decide)
  have EC := hide eC
  have TA : Hid (∀ wz, Fr w wz → Calls Tryd.prog 25 #[.agg #[.slice a' N' ca', .slice b' M' cb']] wz fun e w' => ∃ a c b j, e = .returned (.tuple #[.agg #[.slice a (nlen 4294967296 (rN m k)) c], .agg #[.slice b (nlen 4294967296 (rD m k)) j]]) ∧ IsNat w' (.agg #[.slice a (nlen 4294967296 (rN m k)) c]) (rN m k) ∧ IsNat w' (.agg #[.slice b (nlen 4294967296 (rD m k)) j]) (rD m k) ∧ Fr wz w') := fun wz f => terms_rat _ m k wz (HB.out.fr f) (by omega)
  have TURN : Hid (∀ wz v, IsRat wz v (rD m k) (rN m k) → IsRat wz v k m) := fun wz v h => rat_turn h rfl rfl h0 hd2
  have SAME : Hid (∀ wz v, IsRat wz v (C * m) (1 * k) → IsRat wz v (C * m) k) := fun wz v h => by rwa [Nat.one_mul] at h
  generalize rN m k = p at *
  generalize rD m k = q at *
  clear eC
  clear ha hb hT
  go_enter Tryd.func24, Tryd.ntmps24
  go_wp2_with fail
  obtain ⟨W, hW⟩ : ∃ W, W = (((w.alloc (Obj.cells #[Value.slice a N ca, Value.slice b M cb] 27)).alloc (Obj.cells #[Value.slice a' N' ca', Value.slice b' M' cb'] 27)).alloc (Obj.cells #[Value.slice none 0 0, Value.slice none 0 0] 27)) := ⟨_, rfl⟩
  have fW : Fr w W := by rw [hW]; exact (((Fr.alloc w (Obj.cells #[Value.slice a N ca, Value.slice b M cb] 27)).trans (Fr.alloc _ (Obj.cells #[Value.slice a' N' ca', Value.slice b' M' cb'] 27))).trans (Fr.alloc _ (Obj.cells #[Value.slice none 0 0, Value.slice none 0 0] 27)))
  have s2 : Slot2 w W (w.heap.size) (.slice a N ca) (.slice b M cb) := by
    rw [hW]; simpa using ((Slot2.new (Fr.refl w) a N ca b M cb 27).fr (Fr.alloc _ _)).fr (Fr.alloc _ _)
  have s3 : Slot2 w W (w.heap.size + 1) (.slice a' N' ca') (.slice b' M' cb') := by
    rw [hW]; simpa using (Slot2.new (Fr.alloc w (Obj.cells #[Value.slice a N ca, Value.slice b M cb] 27)) a' N' ca' b' M' cb' 27).fr (Fr.alloc _ _)
  have s4 : Slot2 w W (w.heap.size + 1 + 1) (.slice none 0 0) (.slice none 0 0) := by
    rw [hW]; simpa using Slot2.new ((Fr.alloc w (Obj.cells #[Value.slice a N ca, Value.slice b M cb] 27)).trans (Fr.alloc _ (Obj.cells #[Value.slice a' N' ca', Value.slice b' M' cb'] 27))) none 0 0 none 0 0 27
  rw [← hW]
  clear hW
  have S2 := hide s2
  have S3 := hide s3
  have S4 := hide s4
  have FW := hide fW
  clear s2 s3 s4 fW
  refine (isNoughtR_any _ m k _ (HB.out.fr FW.out) (by omega)).mono ?_
  rintro e w1 ⟨rfl, f1⟩
  have S2 := hide (S2.out.fr f1)
  have S3 := hide (S3.out.fr f1)
  have S4 := hide (S4.out.fr f1)
  have FW := hide (FW.out.trans f1)
  clear f1
  have q4 := S4.out.1
  have q4' := S4.out.2.1
  have z4 := S4.out.2.2.1 0
  have z4' := S4.out.2.2.1 1
  rw [decide_eq_false h0]
  have q3 := S3.out.1
  have q3' := S3.out.2.1
  go_wp2_with fail
  refine (TA.out _ FW.out).mono ?_
  rintro e w2 ⟨ap, cp, aq, cq, rfl, ip, iq, f2⟩
  have IP := hide ip
  have IQ := hide iq
  have S2 := hide (S2.out.fr f2)
  have S3 := hide (S3.out.fr f2)
  have S4 := hide (S4.out.fr f2)
  have FW := hide (FW.out.trans f2)
  have l2 := cell_lt S4.out.1
  simp only [] at l2
  clear f2 ip iq TA q3 q3' q4 q4' z4 z4'
  go_wp2_with fail
  obtain ⟨W2, hW2⟩ : ∃ W, W = ((w2.alloc (Obj.cells #[Value.slice ap (nlen 4294967296 p) cp] 25)).alloc (Obj.cells #[Value.slice aq (nlen 4294967296 q) cq] 25)) := ⟨_, rfl⟩
  have f2 : Fr w2 W2 := by rw [hW2]; exact ((Fr.alloc w2 (Obj.cells #[Value.slice ap (nlen 4294967296 p) cp] 25)).trans (Fr.alloc _ (Obj.cells #[Value.slice aq (nlen 4294967296 q) cq] 25)))
  have s6 : Slot w2 W2 (w2.heap.size) (.slice ap (nlen 4294967296 p) cp) := by
    rw [hW2]; simpa using (Slot.new (Fr.refl w2) ap (nlen 4294967296 p) cp 25).fr (Fr.alloc _ _)
  have s7 : Slot w2 W2 (w2.heap.size + 1) (.slice aq (nlen 4294967296 q) cq) := by
    rw [hW2]; simpa using Slot.new (Fr.alloc w2 (Obj.cells #[Value.slice ap (nlen 4294967296 p) cp] 25)) aq (nlen 4294967296 q) cq 25
  rw [← hW2]
  clear hW2
  have IP := hide (IP.out.fr f2)
  have IQ := hide (IQ.out.fr f2)
  have S2 := hide (S2.out.fr f2)
  have S3 := hide (S3.out.fr f2)
  have S4 := hide (S4.out.fr f2)
  have FW := hide (FW.out.trans f2)
  have S6 := hide s6
  have S7 := hide s7
  clear f2 s6 s7
  have HA2 := hide (HA.out.fr FW.out)
  have HB2 := hide (HB.out.fr FW.out)
  have HT2 := hide (Tab.fr HT.out FW.out)
  clear HA HB HT
  have q2 := S2.out.1
  have q2' := S2.out.2.1
  have q6 := S6.out.1
  have q7 := S7.out.1
  have d2 := fr_cell (Fr.drew W2) q2
  have d2' := fr_cell (Fr.drew W2) q2'
  have d6 := fr_cell (Fr.drew W2) q6
  have d7 := fr_cell (Fr.drew W2) q7
  go_upto_region 4 with fail
  go_cut [8] (fun s8 wx => ∃ b ax cx, s8 = .pointer (some ⟨b, 0, none⟩) ∧ Hid (Slot W2 wx b (.slice ax (nlen 4294967296 C) cx)) ∧ Hid (IsNat wx (.agg #[.slice ax (nlen 4294967296 C) cx]) C) ∧ Hid (Fr W2 wx))
  case first =>
    refine wp_region_held_drew (S := (fun w' => w'.cell? ⟨w.heap.size, 0, none⟩ = some (.slice a N ca) ∧ w'.cell? ⟨w.heap.size, 1, none⟩ = some (.slice b M cb) ∧ w'.cell? ⟨w2.heap.size, 0, none⟩ = some (.slice ap (nlen 4294967296 p) cp) ∧ w'.cell? ⟨w2.heap.size + 1, 0, none⟩ = some (.slice aq (nlen 4294967296 q) cq))) (by kernel_rfl) ?_ (fun hHeld => ?_)
    · exact ⟨d2, d2', d6, d7⟩
    have fz := hide (Fr.drew W2)
    generalize W2.drew = wd at fz hHeld ⊢
    refine wpAnyH_take (i := 0) (v := ?_) rfl (by kernel_rfl) (by kernel_rfl) (by kernel_rfl) (fun _ _ _ h => h) (Or.inl ⟨by rfl, ?_⟩) (by assumption) ?_
    rotate_left
    · (intro w hSw; (try dsimp only at hSw); go_simp; try with_reducible rfl)
    (try simp only [Act.put, List.getElem_toArray, List.getElem_cons_zero, List.getElem_cons_succ, List.setIfInBounds_toArray, List.set_cons_zero, List.set_cons_succ])
    refine wpAnyH_take (i := 1) (v := ?_) rfl (by kernel_rfl) (by kernel_rfl) (by kernel_rfl) (fun _ _ _ h => h) (Or.inl ⟨by rfl, ?_⟩) (by assumption) ?_
    rotate_left
    · (intro w hSw; (try dsimp only at hSw); go_simp; try with_reducible rfl)
    (try simp only [Act.put, List.getElem_toArray, List.getElem_cons_zero, List.getElem_cons_succ, List.setIfInBounds_toArray, List.set_cons_zero, List.set_cons_succ])
    refine wpAnyH_take (i := 2) (v := ?_) rfl (by kernel_rfl) (by kernel_rfl) (by kernel_rfl) (fun _ _ _ h => h) (Or.inl ⟨by rfl, ?_⟩) (by assumption) ?_
    rotate_left
    · (intro w hSw; (try dsimp only at hSw); go_simp; try with_reducible rfl)
    (try simp only [Act.put, List.getElem_toArray, List.getElem_cons_zero, List.getElem_cons_succ, List.setIfInBounds_toArray, List.set_cons_zero, List.set_cons_succ])
    refine wpAnyH_ready (rs := [3, 6]) (by kernel_rfl) (by simp) ?_
    refine AllReadyH.cons rfl (fun K hK => ?_) (AllReadyH.cons rfl (fun K hK => ?_) AllReadyH.nil)
    · skip
      go_simp
      refine (quotient_any _ _ q p _ (HT2.out.fr fz.out) (IQ.out.fr fz.out) (IP.out.fr fz.out) (by omega) (by omega) hq0).mono ?_
      rintro e wa ⟨v5, rfl, i5, fy⟩
      obtain ⟨x1, x2, x3, x4, x5, x6, rfl⟩ := i5.form
      have I5 := hide (TURN.out _ _ i5)
      clear i5
      have fz := hide (fz.out.trans fy)
      clear fy
      (try go_wp2_with fail)
      refine hK.out _ _ ?_ (fun hHeld => ?_)
      · (try dsimp only)
        exact ⟨fr_cell fz.out q2, fr_cell fz.out q2', fr_cell fz.out q6, fr_cell fz.out q7⟩
      clear hK K
      (try simp only [Act.put, List.getElem_toArray, List.getElem_cons_zero, List.getElem_cons_succ, List.setIfInBounds_toArray, List.set_cons_zero, List.set_cons_succ])
      refine wpAnyH_ready (rs := [4, 6]) (by kernel_rfl) (by simp) ?_
      refine AllReadyH.cons rfl (fun K hK => ?_) (AllReadyH.cons rfl (fun K hK => ?_) AllReadyH.nil)
      · skip
        go_simp
        refine (mulR_any _ _ n d k m _ (HT2.out.fr fz.out) (HA2.out.fr fz.out) I5.out (by omega) (by omega) (by omega) (by omega)).mono ?_
        rintro e wb ⟨v6, rfl, i6, fy⟩
        obtain ⟨y1, y2, y3, y4, y5, y6, rfl⟩ := i6.form
        have I6 := hide i6
        clear i6
        have I5 := hide (I5.out.fr fy)
        have fz := hide (fz.out.trans fy)
        clear fy
        (try go_wp2_with fail)
        refine hK.out _ _ ?_ (fun hHeld => ?_)
        · (try dsimp only)
          exact ⟨fr_cell fz.out q2, fr_cell fz.out q2', fr_cell fz.out q6, fr_cell fz.out q7⟩
        clear hK K
        (try simp only [Act.put, List.getElem_toArray, List.getElem_cons_zero, List.getElem_cons_succ, List.setIfInBounds_toArray, List.set_cons_zero, List.set_cons_succ])
        refine wpAnyH_ready (rs := [5, 6]) (by kernel_rfl) (by simp) ?_
        refine AllReadyH.cons rfl (fun K hK => ?_) (AllReadyH.cons rfl (fun K hK => ?_) AllReadyH.nil)
        · skip
          go_simp
          refine (whole_any _ (n * k) (d * m) _ I6.out (by omega) (by omega) C EC.out).mono ?_
          rintro e wg ⟨a8, c8, rfl, i8, fy⟩
          have I8 := hide i8
          clear i8
          have I5 := hide (I5.out.fr fy)
          have I6 := hide (I6.out.fr fy)
          have fz := hide (fz.out.trans fy)
          clear fy
          (try go_wp2_with fail)
          refine hK.out _ _ ?_ (fun hHeld => ?_)
          · (try dsimp only)
            exact ⟨fr_cell fz.out q2, fr_cell fz.out q2', fr_cell fz.out q6, fr_cell fz.out q7⟩
          clear hK K
          (try simp only [Act.put, List.getElem_toArray, List.getElem_cons_zero, List.getElem_cons_succ, List.setIfInBounds_toArray, List.set_cons_zero, List.set_cons_succ])
          refine wpAnyH_ready (rs := [6]) (by kernel_rfl) (by simp) ?_
          refine AllReadyH.cons rfl (fun K hK => ?_) AllReadyH.nil
          obtain ⟨bA, hbA⟩ : ∃ b, b = wg.heap.size := ⟨_, rfl⟩
          have fy := Fr.alloc wg (Obj.cells #[Value.slice none 0 0] 25)
          have SA : Hid (Slot W2 (wg.alloc (Obj.cells #[Value.slice none 0 0] 25)) bA (.slice none 0 0)) := by rw [hbA]; exact hide (Slot.new fz.out none 0 0 25)
          have I5 := hide (I5.out.fr fy)
          have I6 := hide (I6.out.fr fy)
          have I8 := hide (I8.out.fr fy)
          have fz := hide (fz.out.trans fy)
          clear fy
          go_simp
          rw [← hbA]
          refine hK.out _ _ ?_ (fun hHeld => ?_)
          · (try dsimp only)
            exact ⟨fr_cell fz.out q2, fr_cell fz.out q2', fr_cell fz.out q6, fr_cell fz.out q7⟩
          clear hK K
          (try simp only [Act.put, List.getElem_toArray, List.getElem_cons_zero, List.getElem_cons_succ, List.setIfInBounds_toArray, List.set_cons_zero, List.set_cons_succ])
          obtain ⟨wA, hwA⟩ : ∃ wA, wA = wg.alloc (Obj.cells #[Value.slice none 0 0] 25) := ⟨_, rfl⟩
          rw [← hwA] at fz SA hHeld I5 I6 I8 ⊢
          clear hwA hbA
          refine wpAnyH_ready (rs := [7]) (by kernel_rfl) (by simp) ?_
          refine AllReadyH.cons rfl (fun K hK => ?_) AllReadyH.nil
          have q_ := SA.out.1
          have z_ := SA.out.2.1
          have I8 := hide (SA.out.nat I8.out (.slice a8 (nlen 4294967296 C) c8))
          have fz := hide (SA.out.set_fr fz.out (.slice a8 (nlen 4294967296 C) c8))
          have SA := hide (SA.out.set a8 (nlen 4294967296 C) c8)
          go_simp
          (try go_wp2_with fail)
          refine hK.out _ _ ?_ (fun hHeld => ?_)
          · (try dsimp only)
            exact ⟨fr_cell fz.out q2, fr_cell fz.out q2', fr_cell fz.out q6, fr_cell fz.out q7⟩
          clear hK K
          (try simp only [Act.put, List.getElem_toArray, List.getElem_cons_zero, List.getElem_cons_succ, List.setIfInBounds_toArray, List.set_cons_zero, List.set_cons_succ])
          refine wpAnyH_done (by kernel_rfl) ?_ _
          go_wp2_with fail
          go_meet
          exact ⟨_, _, _, rfl, SA, I8, fz⟩
        · skip
          obtain ⟨bA, hbA⟩ : ∃ b, b = wb.heap.size := ⟨_, rfl⟩
          have fy := Fr.alloc wb (Obj.cells #[Value.slice none 0 0] 25)
          have SA : Hid (Slot W2 (wb.alloc (Obj.cells #[Value.slice none 0 0] 25)) bA (.slice none 0 0)) := by rw [hbA]; exact hide (Slot.new fz.out none 0 0 25)
          have I5 := hide (I5.out.fr fy)
          have I6 := hide (I6.out.fr fy)
          have fz := hide (fz.out.trans fy)
          clear fy
          go_simp
          rw [← hbA]
          refine hK.out _ _ ?_ (fun hHeld => ?_)
          · (try dsimp only)
            exact ⟨fr_cell fz.out q2, fr_cell fz.out q2', fr_cell fz.out q6, fr_cell fz.out q7⟩
          clear hK K
          (try simp only [Act.put, List.getElem_toArray, List.getElem_cons_zero, List.getElem_cons_succ, List.setIfInBounds_toArray, List.set_cons_zero, List.set_cons_succ])
          obtain ⟨wA, hwA⟩ : ∃ wA, wA = wb.alloc (Obj.cells #[Value.slice none 0 0] 25) := ⟨_, rfl⟩
          rw [← hwA] at fz SA hHeld I5 I6 ⊢
          clear hwA hbA
          refine wpAnyH_ready (rs := [5]) (by kernel_rfl) (by simp) ?_
          refine AllReadyH.cons rfl (fun K hK => ?_) AllReadyH.nil
          go_simp
          refine (whole_any _ (n * k) (d * m) _ I6.out (by omega) (by omega) C EC.out).mono ?_
          rintro e wg ⟨a8, c8, rfl, i8, fy⟩
          have I8 := hide i8
          clear i8
          have I5 := hide (I5.out.fr fy)
          have I6 := hide (I6.out.fr fy)
          have SA := hide (SA.out.fr fy)
          have fz := hide (fz.out.trans fy)
          clear fy
          (try go_wp2_with fail)
          refine hK.out _ _ ?_ (fun hHeld => ?_)
          · (try dsimp only)
            exact ⟨fr_cell fz.out q2, fr_cell fz.out q2', fr_cell fz.out q6, fr_cell fz.out q7⟩
          clear hK K
          (try simp only [Act.put, List.getElem_toArray, List.getElem_cons_zero, List.getElem_cons_succ, List.setIfInBounds_toArray, List.set_cons_zero, List.set_cons_succ])
          refine wpAnyH_ready (rs := [7]) (by kernel_rfl) (by simp) ?_
          refine AllReadyH.cons rfl (fun K hK => ?_) AllReadyH.nil
          have q_ := SA.out.1
          have z_ := SA.out.2.1
          have I8 := hide (SA.out.nat I8.out (.slice a8 (nlen 4294967296 C) c8))
          have fz := hide (SA.out.set_fr fz.out (.slice a8 (nlen 4294967296 C) c8))
          have SA := hide (SA.out.set a8 (nlen 4294967296 C) c8)
          go_simp
          (try go_wp2_with fail)
          refine hK.out _ _ ?_ (fun hHeld => ?_)
          · (try dsimp only)
            exact ⟨fr_cell fz.out q2, fr_cell fz.out q2', fr_cell fz.out q6, fr_cell fz.out q7⟩
          clear hK K
          (try simp only [Act.put, List.getElem_toArray, List.getElem_cons_zero, List.getElem_cons_succ, List.setIfInBounds_toArray, List.set_cons_zero, List.set_cons_succ])
          refine wpAnyH_done (by kernel_rfl) ?_ _
          go_wp2_with fail
          go_meet
          exact ⟨_, _, _, rfl, SA, I8, fz⟩
      · skip
        obtain ⟨bA, hbA⟩ : ∃ b, b = wa.heap.size := ⟨_, rfl⟩
        have fy := Fr.alloc wa (Obj.cells #[Value.slice none 0 0] 25)
        have SA : Hid (Slot W2 (wa.alloc (Obj.cells #[Value.slice none 0 0] 25)) bA (.slice none 0 0)) := by rw [hbA]; exact hide (Slot.new fz.out none 0 0 25)
        have I5 := hide (I5.out.fr fy)
        have fz := hide (fz.out.trans fy)
        clear fy
        go_simp
        rw [← hbA]
        refine hK.out _ _ ?_ (fun hHeld => ?_)
        · (try dsimp only)
          exact ⟨fr_cell fz.out q2, fr_cell fz.out q2', fr_cell fz.out q6, fr_cell fz.out q7⟩
        clear hK K
        (try simp only [Act.put, List.getElem_toArray, List.getElem_cons_zero, List.getElem_cons_succ, List.setIfInBounds_toArray, List.set_cons_zero, List.set_cons_succ])
        obtain ⟨wA, hwA⟩ : ∃ wA, wA = wa.alloc (Obj.cells #[Value.slice none 0 0] 25) := ⟨_, rfl⟩
        rw [← hwA] at fz SA hHeld I5 ⊢
        clear hwA hbA
        refine wpAnyH_ready (rs := [4]) (by kernel_rfl) (by simp) ?_
        refine AllReadyH.cons rfl (fun K hK => ?_) AllReadyH.nil
        go_simp
        refine (mulR_any _ _ n d k m _ (HT2.out.fr fz.out) (HA2.out.fr fz.out) I5.out (by omega) (by omega) (by omega) (by omega)).mono ?_
        rintro e wb ⟨v6, rfl, i6, fy⟩
        obtain ⟨y1, y2, y3, y4, y5, y6, rfl⟩ := i6.form
        have I6 := hide i6
        clear i6
        have I5 := hide (I5.out.fr fy)
        have SA := hide (SA.out.fr fy)
        have fz := hide (fz.out.trans fy)
        clear fy
        (try go_wp2_with fail)
        refine hK.out _ _ ?_ (fun hHeld => ?_)
        · (try dsimp only)
          exact ⟨fr_cell fz.out q2, fr_cell fz.out q2', fr_cell fz.out q6, fr_cell fz.out q7⟩
        clear hK K
        (try simp only [Act.put, List.getElem_toArray, List.getElem_cons_zero, List.getElem_cons_succ, List.setIfInBounds_toArray, List.set_cons_zero, List.set_cons_succ])
        refine wpAnyH_ready (rs := [5]) (by kernel_rfl) (by simp) ?_
        refine AllReadyH.cons rfl (fun K hK => ?_) AllReadyH.nil
        go_simp
        refine (whole_any _ (n * k) (d * m) _ I6.out (by omega) (by omega) C EC.out).mono ?_
        rintro e wg ⟨a8, c8, rfl, i8, fy⟩
        have I8 := hide i8
        clear i8
        have I5 := hide (I5.out.fr fy)
        have I6 := hide (I6.out.fr fy)
        have SA := hide (SA.out.fr fy)
        have fz := hide (fz.out.trans fy)
        clear fy
        (try go_wp2_with fail)
        refine hK.out _ _ ?_ (fun hHeld => ?_)
        · (try dsimp only)
          exact ⟨fr_cell fz.out q2, fr_cell fz.out q2', fr_cell fz.out q6, fr_cell fz.out q7⟩
        clear hK K
        (try simp only [Act.put, List.getElem_toArray, List.getElem_cons_zero, List.getElem_cons_succ, List.setIfInBounds_toArray, List.set_cons_zero, List.set_cons_succ])
        refine wpAnyH_ready (rs := [7]) (by kernel_rfl) (by simp) ?_
        refine AllReadyH.cons rfl (fun K hK => ?_) AllReadyH.nil
        have q_ := SA.out.1
        have z_ := SA.out.2.1
        have I8 := hide (SA.out.nat I8.out (.slice a8 (nlen 4294967296 C) c8))
        have fz := hide (SA.out.set_fr fz.out (.slice a8 (nlen 4294967296 C) c8))
        have SA := hide (SA.out.set a8 (nlen 4294967296 C) c8)
        go_simp
        (try go_wp2_with fail)
        refine hK.out _ _ ?_ (fun hHeld => ?_)
        · (try dsimp only)
          exact ⟨fr_cell fz.out q2, fr_cell fz.out q2', fr_cell fz.out q6, fr_cell fz.out q7⟩
        clear hK K
        (try simp only [Act.put, List.getElem_toArray, List.getElem_cons_zero, List.getElem_cons_succ, List.setIfInBounds_toArray, List.set_cons_zero, List.set_cons_succ])
        refine wpAnyH_done (by kernel_rfl) ?_ _
        go_wp2_with fail
        go_meet
        exact ⟨_, _, _, rfl, SA, I8, fz⟩
    · skip
      obtain ⟨bA, hbA⟩ : ∃ b, b = wd.heap.size := ⟨_, rfl⟩
      have fy := Fr.alloc wd (Obj.cells #[Value.slice none 0 0] 25)
      have SA : Hid (Slot W2 (wd.alloc (Obj.cells #[Value.slice none 0 0] 25)) bA (.slice none 0 0)) := by rw [hbA]; exact hide (Slot.new fz.out none 0 0 25)
      have fz := hide (fz.out.trans fy)
      clear fy
      go_simp
      rw [← hbA]
      refine hK.out _ _ ?_ (fun hHeld => ?_)
      · (try dsimp only)
        exact ⟨fr_cell fz.out q2, fr_cell fz.out q2', fr_cell fz.out q6, fr_cell fz.out q7⟩
      clear hK K
      (try simp only [Act.put, List.getElem_toArray, List.getElem_cons_zero, List.getElem_cons_succ, List.setIfInBounds_toArray, List.set_cons_zero, List.set_cons_succ])
      obtain ⟨wA, hwA⟩ : ∃ wA, wA = wd.alloc (Obj.cells #[Value.slice none 0 0] 25) := ⟨_, rfl⟩
      rw [← hwA] at fz SA hHeld  ⊢
      clear hwA hbA
      refine wpAnyH_ready (rs := [3]) (by kernel_rfl) (by simp) ?_
      refine AllReadyH.cons rfl (fun K hK => ?_) AllReadyH.nil
      go_simp
      refine (quotient_any _ _ q p _ (HT2.out.fr fz.out) (IQ.out.fr fz.out) (IP.out.fr fz.out) (by omega) (by omega) hq0).mono ?_
      rintro e wa ⟨v5, rfl, i5, fy⟩
      obtain ⟨x1, x2, x3, x4, x5, x6, rfl⟩ := i5.form
      have I5 := hide (TURN.out _ _ i5)
      clear i5
      have SA := hide (SA.out.fr fy)
      have fz := hide (fz.out.trans fy)
      clear fy
      (try go_wp2_with fail)
      refine hK.out _ _ ?_ (fun hHeld => ?_)
      · (try dsimp only)
        exact ⟨fr_cell fz.out q2, fr_cell fz.out q2', fr_cell fz.out q6, fr_cell fz.out q7⟩
      clear hK K
      (try simp only [Act.put, List.getElem_toArray, List.getElem_cons_zero, List.getElem_cons_succ, List.setIfInBounds_toArray, List.set_cons_zero, List.set_cons_succ])
      refine wpAnyH_ready (rs := [4]) (by kernel_rfl) (by simp) ?_
      refine AllReadyH.cons rfl (fun K hK => ?_) AllReadyH.nil
      go_simp
      refine (mulR_any _ _ n d k m _ (HT2.out.fr fz.out) (HA2.out.fr fz.out) I5.out (by omega) (by omega) (by omega) (by omega)).mono ?_
      rintro e wb ⟨v6, rfl, i6, fy⟩
      obtain ⟨y1, y2, y3, y4, y5, y6, rfl⟩ := i6.form
      have I6 := hide i6
      clear i6
      have I5 := hide (I5.out.fr fy)
      have SA := hide (SA.out.fr fy)
      have fz := hide (fz.out.trans fy)
      clear fy
      (try go_wp2_with fail)
      refine hK.out _ _ ?_ (fun hHeld => ?_)
      · (try dsimp only)
        exact ⟨fr_cell fz.out q2, fr_cell fz.out q2', fr_cell fz.out q6, fr_cell fz.out q7⟩
      clear hK K
      (try simp only [Act.put, List.getElem_toArray, List.getElem_cons_zero, List.getElem_cons_succ, List.setIfInBounds_toArray, List.set_cons_zero, List.set_cons_succ])
      refine wpAnyH_ready (rs := [5]) (by kernel_rfl) (by simp) ?_
      refine AllReadyH.cons rfl (fun K hK => ?_) AllReadyH.nil
      go_simp
      refine (whole_any _ (n * k) (d * m) _ I6.out (by omega) (by omega) C EC.out).mono ?_
      rintro e wg ⟨a8, c8, rfl, i8, fy⟩
      have I8 := hide i8
      clear i8
      have I5 := hide (I5.out.fr fy)
      have I6 := hide (I6.out.fr fy)
      have SA := hide (SA.out.fr fy)
      have fz := hide (fz.out.trans fy)
      clear fy
      (try go_wp2_with fail)
      refine hK.out _ _ ?_ (fun hHeld => ?_)
      · (try dsimp only)
        exact ⟨fr_cell fz.out q2, fr_cell fz.out q2', fr_cell fz.out q6, fr_cell fz.out q7⟩
      clear hK K
      (try simp only [Act.put, List.getElem_toArray, List.getElem_cons_zero, List.getElem_cons_succ, List.setIfInBounds_toArray, List.set_cons_zero, List.set_cons_succ])
      refine wpAnyH_ready (rs := [7]) (by kernel_rfl) (by simp) ?_
      refine AllReadyH.cons rfl (fun K hK => ?_) AllReadyH.nil
      have q_ := SA.out.1
      have z_ := SA.out.2.1
      have I8 := hide (SA.out.nat I8.out (.slice a8 (nlen 4294967296 C) c8))
      have fz := hide (SA.out.set_fr fz.out (.slice a8 (nlen 4294967296 C) c8))
      have SA := hide (SA.out.set a8 (nlen 4294967296 C) c8)
      go_simp
      (try go_wp2_with fail)
      refine hK.out _ _ ?_ (fun hHeld => ?_)
      · (try dsimp only)
        exact ⟨fr_cell fz.out q2, fr_cell fz.out q2', fr_cell fz.out q6, fr_cell fz.out q7⟩
      clear hK K
      (try simp only [Act.put, List.getElem_toArray, List.getElem_cons_zero, List.getElem_cons_succ, List.setIfInBounds_toArray, List.set_cons_zero, List.set_cons_succ])
      refine wpAnyH_done (by kernel_rfl) ?_ _
      go_wp2_with fail
      go_meet
      exact ⟨_, _, _, rfl, SA, I8, fz⟩
  case rest =>
  obtain ⟨b8, a8, c8, rfl, S8, I8, F1⟩ := hcut
  obtain ⟨w3, hw3⟩ : ∃ V, V = wc := ⟨_, rfl⟩
  rw [← hw3] at S8 I8 F1 ⊢
  clear hw3
  clear q2 q2' q6 q7 d2 d2' d6 d7 S6 S7 IP IQ S2
  have l3 : W2.heap.size ≤ b8 := S8.out.2.2.2
  have l4 := cell_lt S4.out.1
  simp only [] at l4
  have S3 := hide (S3.out.fr F1.out)
  have S4 := hide (S4.out.fr F1.out)
  have HA2 := hide (HA2.out.fr F1.out)
  have HB2 := hide (HB2.out.fr F1.out)
  have HT2 := hide (HT2.out.fr F1.out)
  have FW := hide (FW.out.trans F1.out)
  clear F1 HA2
  have S3 := hide (S3.out.fr (Fr.drew w3))
  have S4 := hide (S4.out.fr (Fr.drew w3))
  have S8 := hide (S8.out.fr (Fr.drew w3))
  have I8 := hide (I8.out.fr (Fr.drew w3))
  have HB2 := hide (HB2.out.fr (Fr.drew w3))
  have HT2 := hide (HT2.out.fr (Fr.drew w3))
  have FW := hide (FW.out.trans (Fr.drew w3))
  have q8 := S8.out.1
  have q3 := S3.out.1
  have q3' := S3.out.2.1
  go_wp2_with fail
  refine wp_region_held_drew (S := (fun w' => w'.cell? ⟨b8, 0, none⟩ = some (.slice a8 (nlen 4294967296 C) c8) ∧ w'.cell? ⟨w.heap.size + 1, 0, none⟩ = some (.slice a' N' ca') ∧ w'.cell? ⟨w.heap.size + 1, 1, none⟩ = some (.slice b' M' cb'))) (by kernel_rfl) ?_ (fun hHeld => ?_)
  · exact ⟨S8.out.1, S3.out.1, S3.out.2.1⟩
  obtain ⟨wd, hwd⟩ : ∃ wd, wd = w3.drew := ⟨_, rfl⟩
  rw [← hwd] at hHeld S3 S4 S8 I8 HB2 HT2 FW ⊢
  clear hwd
  refine wpAnyH_take (i := 0) (v := ?_) rfl (by kernel_rfl) (by kernel_rfl) (by kernel_rfl) (fun _ _ _ h => h) (Or.inl ⟨by rfl, ?_⟩) (by assumption) ?_
  rotate_left
  · (intro w hSw; (try dsimp only at hSw); go_simp; try with_reducible rfl)
  (try simp only [Act.put, List.getElem_toArray, List.getElem_cons_zero, List.getElem_cons_succ, List.setIfInBounds_toArray, List.set_cons_zero, List.set_cons_succ])
  refine wpAnyH_take (i := 3) (v := ?_) rfl (by kernel_rfl) (by kernel_rfl) (by kernel_rfl) (fun _ _ _ h => h) (Or.inl ⟨by rfl, ?_⟩) (by assumption) ?_
  rotate_left
  · (intro w hSw; (try dsimp only at hSw); go_simp; try with_reducible rfl)
  (try simp only [Act.put, List.getElem_toArray, List.getElem_cons_zero, List.getElem_cons_succ, List.setIfInBounds_toArray, List.set_cons_zero, List.set_cons_succ])
  refine wpAnyH_ready (rs := [1]) (by kernel_rfl) (by simp) ?_
  refine AllReadyH.cons rfl (fun K hK => ?_) AllReadyH.nil
  go_simp
  refine (of_one _).mono ?_
  rintro e wn ⟨a9, c9, rfl, i9, _, fy⟩
  have I9 := hide i9
  have S3 := hide (S3.out.fr fy)
  have S4 := hide (S4.out.fr fy)
  have S8 := hide (S8.out.fr fy)
  have I8 := hide (I8.out.fr fy)
  have HB2 := hide (HB2.out.fr fy)
  have HT2 := hide (HT2.out.fr fy)
  have FW := hide (FW.out.trans fy)
  clear i9 fy
  (try go_wp2_with fail)
  refine hK.out _ _ ?_ (fun hHeld => ?_)
  · (try dsimp only)
    exact ⟨S8.out.1, S3.out.1, S3.out.2.1⟩
  clear hK K
  (try simp only [Act.put, List.getElem_toArray, List.getElem_cons_zero, List.getElem_cons_succ, List.setIfInBounds_toArray, List.set_cons_zero, List.set_cons_succ])
  refine wpAnyH_ready (rs := [2]) (by kernel_rfl) (by simp) ?_
  refine AllReadyH.cons rfl (fun K hK => ?_) AllReadyH.nil
  go_simp
  refine (quotient_any _ _ C 1 _ HT2.out I8.out I9.out (by omega) (by omega) (by omega)).mono ?_
  rintro e wn ⟨v, rfl, ir, fy⟩
  have IV := hide ir
  have S3 := hide (S3.out.fr fy)
  have S4 := hide (S4.out.fr fy)
  have S8 := hide (S8.out.fr fy)
  have HB2 := hide (HB2.out.fr fy)
  have HT2 := hide (HT2.out.fr fy)
  have FW := hide (FW.out.trans fy)
  obtain ⟨u1, u2, u3, u4, u5, u6, rfl⟩ := ir.form
  clear ir fy
  (try go_wp2_with fail)
  refine hK.out _ _ ?_ (fun hHeld => ?_)
  · (try dsimp only)
    exact ⟨S8.out.1, S3.out.1, S3.out.2.1⟩
  clear hK K
  (try simp only [Act.put, List.getElem_toArray, List.getElem_cons_zero, List.getElem_cons_succ, List.setIfInBounds_toArray, List.set_cons_zero, List.set_cons_succ])
  refine wpAnyH_ready (rs := [4]) (by kernel_rfl) (by simp) ?_
  refine AllReadyH.cons rfl (fun K hK => ?_) AllReadyH.nil
  go_simp
  refine (mulR_any _ _ C 1 m k _ HT2.out IV.out HB2.out (by omega) (by omega) (by omega) (by omega)).mono ?_
  rintro e wn ⟨v, rfl, ir, fy⟩
  have RV := hide (SAME.out _ _ ir)
  have S3 := hide (S3.out.fr fy)
  have S4 := hide (S4.out.fr fy)
  have S8 := hide (S8.out.fr fy)
  have FW := hide (FW.out.trans fy)
  obtain ⟨t1, t2, t3, t4, t5, t6, rfl⟩ := ir.form
  clear ir fy
  (try go_wp2_with fail)
  refine hK.out _ _ ?_ (fun hHeld => ?_)
  · (try dsimp only)
    exact ⟨S8.out.1, S3.out.1, S3.out.2.1⟩
  clear hK K
  (try simp only [Act.put, List.getElem_toArray, List.getElem_cons_zero, List.getElem_cons_succ, List.setIfInBounds_toArray, List.set_cons_zero, List.set_cons_succ])
  refine wpAnyH_ready (rs := [5]) (by kernel_rfl) (by simp) ?_
  refine AllReadyH.cons rfl (fun K hK => ?_) AllReadyH.nil
  have S3' := S3.out
  have S8' := S8.out
  have q_ := S4.out.1
  have q2_ := S4.out.2.1
  have z_ := S4.out.2.2.1 0
  have z2_ := S4.out.2.2.1 1
  have RV := hide (S4.out.rat RV.out t1 t2 t3 (.slice t4 t5 t6))
  have FW := hide (S4.out.set_fr FW.out (.slice t1 t2 t3) (.slice t4 t5 t6))
  have S4 := hide (S4.out.set t1 t2 t3 t4 t5 t6)
  go_simp
  (try go_wp2_with fail)
  refine hK.out _ _ ?_ (fun hHeld => ?_)
  · (try dsimp only)
    exact ⟨(World.cell?_setCell_other _ _ _ _ (fun e => by injection e; omega)).trans ((World.cell?_setCell_other _ _ _ _ (fun e => by injection e; omega)).trans S8'.1), (World.cell?_setCell_other _ _ _ _ (fun e => by injection e; omega)).trans ((World.cell?_setCell_other _ _ _ _ (fun e => by injection e; omega)).trans S3'.1), (World.cell?_setCell_other _ _ _ _ (fun e => by injection e; omega)).trans ((World.cell?_setCell_other _ _ _ _ (fun e => by injection e; omega)).trans S3'.2.1)⟩
  clear hK K
  (try simp only [Act.put, List.getElem_toArray, List.getElem_cons_zero, List.getElem_cons_succ, List.setIfInBounds_toArray, List.set_cons_zero, List.set_cons_succ])
  refine wpAnyH_take (i := 6) (v := ?_) rfl (by kernel_rfl) (by kernel_rfl) (by kernel_rfl) (fun _ _ _ h => h) (Or.inl ⟨by rfl, ?_⟩) (by assumption) ?_
  rotate_left
  · (intro w hSw; (try dsimp only at hSw); go_simp; try with_reducible rfl)
  (try simp only [Act.put, List.getElem_toArray, List.getElem_cons_zero, List.getElem_cons_succ, List.setIfInBounds_toArray, List.set_cons_zero, List.set_cons_succ])
  refine wpAnyH_done (by kernel_rfl) ?_ _
  go_wp2_with fail
  (try simp only [Exit.inBlock, Exit.then])
  exact bodyPost_ret (results_rat_ok rfl _ _ (w.heap.size + 1 + 1) _ _ rfl S4.out.1 S4.out.2.1) rfl ⟨_, rfl, RV.out, FW.out⟩
end Go.Proofs.YthdgdomgcogpjaaDoor
