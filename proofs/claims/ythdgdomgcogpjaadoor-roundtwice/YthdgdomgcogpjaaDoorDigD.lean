/- Layer 6: Parse, Text, Count. -/
import Derived.Test.YthdgdomgcogpjaaDoorDigC
import Derived.Test.YthdgdomgcogpjaaDoorPackB
import Derived.Test.YthdgdomgcogpjaaDoorRegions
import Derived.Deep.RegionHeld3
namespace Go.Proofs.YthdgdomgcogpjaaDoor
set_option linter.unusedVariables false
set_option linter.unusedSimpArgs false
open Go.RowKit

attribute [local go_sem] World.cell?_alloc_some
theorem empty_of (s : ByteArray) : s.toList.isEmpty = s.data.toList.isEmpty := by rw [Go.Lib.toList_data]

theorem ndig_le {k : Nat} : ∀ {x : Nat}, x < 10 ^ k → Lib.nDigits x ≤ k + 1 := by
  induction k with
  | zero => intro x h; rw [Nat.pow_zero] at h; rw [Lib.nDigits_small (by omega)]; omega
  | succ k ih =>
    intro x h
    by_cases hx : x < 10
    · rw [Lib.nDigits_small hx]; omega
    · rw [Lib.nDigits_big hx]
      have := ih (x := x / 10) (Nat.div_lt_of_lt_mul (by rw [Nat.mul_comm, ← Nat.pow_succ]; exact h))
      omega
/-- Bits by limbs. -/
theorem bits_le {x n : Nat} (h : nlen 4294967296 x ≤ n) : nlen 2 x ≤ 32 * n := by
  have h1 := lt_of_nlen b32 h
  rw [show (4294967296 : Nat) = 2 ^ 32 by decide, ← Nat.pow_mul] at h1
  exact nlen_le (by omega) h1
theorem dec_size {x n : Nat} (h : nlen 4294967296 x ≤ n) : (bs (Lib.decDigits x)).size ≤ 32 * n + 1 := by
  rw [bs_size, Lib.decDigits_length]
  have h1 := lt_of_nlen (B := 2) (by omega) (bits_le h)
  exact ndig_le (Nat.lt_of_lt_of_le h1 (Nat.pow_le_pow_left (by decide) _))
/-- How Text parts a number. -/
theorem text_cut {x N lo T : Nat} (hx : 18446744073709551616 ≤ x) (hN : nlen 2 x = N) (hlo : N * 3 / 20 = lo) (hT : 10 ^ lo = T) :
    65 ≤ N ∧ 9 ≤ lo ∧ T ≠ 0 ∧ x / T < x ∧ x % T < x ∧ Lib.decDigits x = Lib.decDigits (x / T) ++ padD lo (Lib.decDigits (x % T)) := by
  have h1 : 65 ≤ N := by
    rw [← hN]
    rcases Nat.lt_or_ge 64 (nlen 2 x) with q | q
    · omega
    · have := lt_of_nlen (B := 2) (by omega) q
      omega
  have h2 : 9 ≤ lo := by omega
  have h3 : T ≤ x := by
    have e1 : 2 ^ (N - 1) ≤ x := by rw [← hN]; exact nlen_low (by omega) x (by omega)
    have e2 : 10 ^ lo ≤ 2 ^ (4 * lo) := by rw [Nat.pow_mul]; exact Nat.pow_le_pow_left (by decide) lo
    have e3 : 2 ^ (4 * lo) ≤ 2 ^ (N - 1) := Nat.pow_le_pow_right (by decide) (by omega)
    omega
  have h4 : 10 ≤ T := by
    rw [← hT]
    exact Nat.le_trans (show 10 ≤ 10 ^ 1 from Nat.le_refl _) (Nat.pow_le_pow_right (by decide) (by omega))
  obtain ⟨k, rfl⟩ : ∃ k, lo = k + 1 := ⟨lo - 1, by omega⟩
  refine ⟨h1, h2, by omega, Nat.div_lt_self (by omega) (by omega), Nat.lt_of_lt_of_le (Nat.mod_lt x (by omega)) h3, ?_⟩
  have := dec_cut k x (by rw [hT]; exact Nat.ne_of_gt (Nat.div_pos h3 (by omega)))
  rwa [hT] at this

set_option maxHeartbeats 4000000 in
set_option maxRecDepth 4000 in
theorem text_step (m : Nat) (ih : ∀ (v : Value) (x : Nat) (w : World), x < m → IsNat w v x → nlen 4294967296 x ≤ 20000 → PT w →
    Calls Tryd.prog 36 #[v] w fun e w' => e = .returned (.string (bs (Lib.decDigits x))) ∧ Fr w w')
    (v : Value) (x : Nat) (w : World) (hm : x ≤ m) (h : IsNat w v x) (hn : nlen 4294967296 x ≤ 20000) (hP : PT w) :
    Calls Tryd.prog 36 #[v] w fun e w' => e = .returned (.string (bs (Lib.decDigits x))) ∧ Fr w w' := by
  have HV := hide h
  have HP := hide hP
  have IH := hide ih
  obtain ⟨a, ca, rfl, a2, a3, a4⟩ := h
  clear a4 hP ih
  by_cases hx : x < 18446744073709551616
  · have HS := hide (fun w v h => small_any v x w h)
    rw [if_pos hx, decide_eq_true hx] at HS
    have HF := hide (fun w h => fmt_any x w hx h)
    go_enter Tryd.func36, Tryd.ntmps36
    go_wp2_with fail
    refine (HS.out _ _ (IsNat.fr HV.out (Fr.alloc _ _))).mono ?_
    rintro e w1 ⟨rfl, f1⟩
    have F1 := hide ((Fr.alloc _ _).trans f1)
    clear f1
    go_wp2_with fail
    refine (HF.out _ (PT.fr HP.out F1.out)).mono ?_
    rintro e w2 ⟨rfl, f2⟩
    go_wp2_with fail
    go_ret
    exact ⟨rfl, F1.out.trans f2⟩
  · have HS := hide (fun w v h => small_any v x w h)
    rw [if_neg hx, decide_eq_false hx] at HS
    obtain ⟨N, hN⟩ : ∃ N, nlen 2 x = N := ⟨_, rfl⟩
    obtain ⟨lo, hlo⟩ : ∃ lo : Nat, N * 3 / 20 = lo := ⟨_, rfl⟩
    obtain ⟨T, hT⟩ : ∃ T, 10 ^ lo = T := ⟨_, rfl⟩
    obtain ⟨t1, t2, t3, t4, t5, t6⟩ := text_cut (by omega) hN hlo hT
    have hNb : N ≤ 640000 := by rw [← hN]; exact Nat.le_trans (bits_le hn) (by omega)
    have e1 : ((N : Int) * 3) / 20 = (lo : Int) := by omega
    have HB := hide (fun w v h => bits_any v x w h (by omega))
    rw [hN] at HB
    obtain ⟨q, hq⟩ : ∃ q, x / T = q := ⟨_, rfl⟩
    obtain ⟨r, hr⟩ : ∃ r, x % T = r := ⟨_, rfl⟩
    have nT : nlen 4294967296 T ≤ 100001 := by
      have := nlen_pow (x := 10) (n := 1) (by rw [nlten]; omega) lo
      rw [hT] at this; omega
    have HT : Hid (∀ w, Calls Tryd.prog 21 #[.int .i64 lo] w fun e w' => ∃ a c, e = .returned (.agg #[.slice a (nlen 4294967296 T) c]) ∧ IsNat w' (.agg #[.slice a (nlen 4294967296 T) c]) T ∧ Fr w w') :=
      hide (fun w => tenc_any lo T w (by omega) (by omega) (by rw [Int.toNat_natCast]; exact hT))
    have nq : nlen 4294967296 q ≤ 20000 := by rw [← hq]; exact Nat.le_trans (nlen_mono b32 (Nat.div_le_self _ _)) hn
    have nr : nlen 4294967296 r ≤ 20000 := by rw [← hr]; exact Nat.le_trans (nlen_mono b32 (Nat.mod_le _ _)) hn
    have HDV : Hid (∀ w va vb, IsNat w va x → IsNat w vb T → Calls Tryd.prog 55 #[va, vb] w fun e w' => ∃ a c a' c', e = .returned (.tuple #[.agg #[.slice a (nlen 4294967296 q) c], .agg #[.slice a' (nlen 4294967296 r) c'], .bool true]) ∧ Res w w' a c q ∧ Res w w' a' c' r) := by
      refine hide ?_
      intro w va vb ha hb
      have := div_yes va vb x T w ha hb (by omega) (by omega) t3
      rwa [hq, hr] at this
    rw [hq] at t4 t6
    rw [hr] at t5 t6
    obtain ⟨SA, hSA⟩ : ∃ SA, bs (Lib.decDigits q) = SA := ⟨_, rfl⟩
    obtain ⟨SB, hSB⟩ : ∃ SB, bs (Lib.decDigits r) = SB := ⟨_, rfl⟩
    obtain ⟨SC, hSC⟩ : ∃ SC, bs (padD lo (Lib.decDigits r)) = SC := ⟨_, rfl⟩
    have zA : SA.size ≤ 1000000 := by rw [← hSA]; exact Nat.le_trans (dec_size nq) (by omega)
    have zB : SB.size ≤ 1000000 := by rw [← hSB]; exact Nat.le_trans (dec_size nr) (by omega)
    have zC : SC.size ≤ 2000000 := by
      have := zB
      rw [← hSB, bs_size] at this
      rw [← hSC, bs_size]
      unfold padD
      rw [List.length_append, List.length_replicate]
      omega
    have HA : Hid (∀ w v, IsNat w v q → PT w → Calls Tryd.prog 36 #[v] w fun e w' => e = .returned (.string SA) ∧ Fr w w') := by
      refine hide ?_
      intro w v h hP
      have := IH.out v q w (by omega) h nq hP
      rwa [hSA] at this
    have HBB : Hid (∀ w v, IsNat w v r → PT w → Calls Tryd.prog 36 #[v] w fun e w' => e = .returned (.string SB) ∧ Fr w w') := by
      refine hide ?_
      intro w v h hP
      have := IH.out v r w (by omega) h nr hP
      rwa [hSB] at this
    have HC : Hid (∀ w, Calls Tryd.prog 61 #[.string SB, .int .i64 lo] w fun e w' => e = .returned (.string SC) ∧ Fr w w') := by
      refine hide ?_
      intro w
      have := filled_any SB lo w (by omega) (by omega) (by omega)
      rw [← hSB, bs_data, Int.toNat_natCast] at this
      rw [hSC, hSB] at this
      exact this
    have HE : Hid (SA ++ SC = bs (Lib.decDigits x)) := by
      refine hide ?_
      rw [t6, ← bs_append, ← hSA, ← hSC]
    have HNT := hide nT
    have HQ0 := hide nq
    have HR0 := hide nr
    clear nT nq nr hT hN hq hr t1 t3 t4 t5 t6 hSA hSB hSC IH
    go_enter Tryd.func36, Tryd.ntmps36
    go_wp2_with fail
    refine (HS.out _ _ (IsNat.fr HV.out (Fr.alloc _ _))).mono ?_
    rintro e w1 ⟨rfl, f1⟩
    have c4 := var_cell f1
    have F1 := hide ((Fr.alloc _ _).trans f1)
    clear f1
    go_wp2_with fail
    refine (HB.out _ _ (IsNat.fr HV.out F1.out)).mono ?_
    rintro e w2 ⟨rfl, f2⟩
    have c4 := fr_cell f2 c4
    have F2 := hide (F1.out.trans f2)
    have HX := hide (IsNat.fr HV.out F2.out)
    clear f2 F1 HS HB
    go_wp2_with fail
    rw [e1]
    clear e1
    refine wp_region_named (S := (fun w' => w'.cell? ⟨w.heap.size, 0, none⟩ = some (.slice a (nlen 4294967296 x) ca) ∧ Hid (Fr w2 w'))) (by kernel_rfl) (fun _ _ d _ _ h => by cases d <;> exact h) ?_ ?_
    · exact ⟨c4, Fr.drew _⟩
    intro ops hops Q hQ aR ha0 HPan hHeld0
    have N2_01 : Hid (∀ (ae : Option Addr) (ce : Nat) (aq : Option Addr) (cq : Nat) (ar : Option Addr) (cr : Nat) (b0 : Nat) (b1 : Nat) (wv : World), (fun w' => w'.cell? ⟨w.heap.size, 0, none⟩ = some (.slice a (nlen 4294967296 x) ca) ∧ Hid (Fr w2 w')) wv → (IQ : Hid (IsNat wv (.agg #[.slice aq (nlen 4294967296 (q)) cq]) q)) → (IR : Hid (IsNat wv (.agg #[.slice ar (nlen 4294967296 (r)) cr]) r)) → (Oaq_0 : Off aq (nlen 4294967296 q) b0) → (Oaq_1 : Off aq (nlen 4294967296 q) b1) → (Oar_0 : Off ar (nlen 4294967296 r) b0) → (Oar_1 : Off ar (nlen 4294967296 r) b1) → (V0 : Hid (Var w2 wv b0)) → (V1 : Hid (Var w2 wv b1)) → (D01 : b0 ≠ b1) → wpAnyH Tryd.prog .any ops Q (fun w' => w'.cell? ⟨w.heap.size, 0, none⟩ = some (.slice a (nlen 4294967296 x) ca) ∧ Hid (Fr w2 w')) 3 #[true, true, true, true, true, true, true, true, true, true, false, false, false] ((((((((((aR.put (some 22) (.agg #[.slice a (nlen 4294967296 (x)) ca])).put (some 23) (.int .i64 lo)).put (some 24) (.agg #[.slice ae (nlen 4294967296 (T)) ce])).put (some 25) (.tuple #[.agg #[.slice aq (nlen 4294967296 (q)) cq], .agg #[.slice ar (nlen 4294967296 (r)) cr], .bool true])).put (some 21) (.tuple #[.agg #[.slice aq (nlen 4294967296 (q)) cq], .agg #[.slice ar (nlen 4294967296 (r)) cr], .bool true])).put (some 26) (.agg #[.slice aq (nlen 4294967296 (q)) cq])).put (some 27) (.agg #[.slice ar (nlen 4294967296 (r)) cr])).put (some 28) (.bool true)).put (some 6) (.pointer (some ⟨b0, 0, none⟩))).put (some 7) (.pointer (some ⟨b1, 0, none⟩))) wv) := by
      refine hide ?_
      intro ae ce aq cq ar cr b0 b1 wv hHeld IQ IR Oaq_0 Oaq_1 Oar_0 Oar_1 V0 V1 D01
      rw [hops.out, ha0.out]
      have HPanF := HPan
      rw [hQ.out] at HPanF
      rw [hQ.out]
      (try simp only [Act.put, List.getElem_toArray, List.getElem_cons_zero, List.getElem_cons_succ, List.setIfInBounds_toArray, List.set_cons_zero, List.set_cons_succ])
      have fz : Hid (Fr w2 wv) := hHeld.2
      have vc := V0.out.1
      have vz := V0.out.2.1
      have vn := V0.out.2.2
      refine wpAnyH_ready (rs := [10]) (by kernel_rfl) (by simp) ?_
      refine AllReadyH.cons rfl (fun K hK => ?_) AllReadyH.nil
      go_simp
      (try go_wp2_with fail)
      have fz : Hid (Fr w2 (wv.setCell ⟨b0, 0, none⟩ (.slice aq (nlen 4294967296 (q)) cq))) := Below.setCell fz.out vn _
      refine hK.out _ _ ?_ (fun hHeld => ?_)
      · (try dsimp only)
        exact ⟨fr_cell fz.out c4, fz⟩
      clear hK K
      (try simp only [Act.put, List.getElem_toArray, List.getElem_cons_zero, List.getElem_cons_succ, List.setIfInBounds_toArray, List.set_cons_zero, List.set_cons_succ])
      have cE0 : World.cell? (wv.setCell ⟨b0, 0, none⟩ (.slice aq (nlen 4294967296 (q)) cq)) ⟨b0, 0, none⟩ = some (.slice aq (nlen 4294967296 (q)) cq) := World.cell?_setCell_same _ _ _ vc
      have V1 := hide (Var.put V1.out b0 (.slice aq (nlen 4294967296 (q)) cq) D01)
      have IQ := hide (IsNat.off IQ.out Oaq_0 (.slice aq (nlen 4294967296 (q)) cq))
      have IR := hide (IsNat.off IR.out Oar_0 (.slice aq (nlen 4294967296 (q)) cq))
      clear vc vz vn
      have vc := V1.out.1
      have vz := V1.out.2.1
      have vn := V1.out.2.2
      refine wpAnyH_ready (rs := [11]) (by kernel_rfl) (by simp) ?_
      refine AllReadyH.cons rfl (fun K hK => ?_) AllReadyH.nil
      go_simp
      (try go_wp2_with fail)
      have fz : Hid (Fr w2 ((wv.setCell ⟨b0, 0, none⟩ (.slice aq (nlen 4294967296 (q)) cq)).setCell ⟨b1, 0, none⟩ (.slice ar (nlen 4294967296 (r)) cr))) := Below.setCell fz.out vn _
      refine hK.out _ _ ?_ (fun hHeld => ?_)
      · (try dsimp only)
        exact ⟨fr_cell fz.out c4, fz⟩
      clear hK K
      (try simp only [Act.put, List.getElem_toArray, List.getElem_cons_zero, List.getElem_cons_succ, List.setIfInBounds_toArray, List.set_cons_zero, List.set_cons_succ])
      have cE1 : World.cell? ((wv.setCell ⟨b0, 0, none⟩ (.slice aq (nlen 4294967296 (q)) cq)).setCell ⟨b1, 0, none⟩ (.slice ar (nlen 4294967296 (r)) cr)) ⟨b1, 0, none⟩ = some (.slice ar (nlen 4294967296 (r)) cr) := World.cell?_setCell_same _ _ _ vc
      have cE0 := (World.cell?_setCell_other (wv.setCell ⟨b0, 0, none⟩ (.slice aq (nlen 4294967296 (q)) cq)) ⟨b1, 0, none⟩ ⟨b0, 0, none⟩ (.slice ar (nlen 4294967296 (r)) cr) (fun e => D01.symm (by injection e))).trans cE0
      have IQ := hide (IsNat.off IQ.out Oaq_1 (.slice ar (nlen 4294967296 (r)) cr))
      have IR := hide (IsNat.off IR.out Oar_1 (.slice ar (nlen 4294967296 (r)) cr))
      clear vc vz vn
      refine wpAnyH_take (i := 12) (v := ?_) rfl (by kernel_rfl) (by kernel_rfl) (by kernel_rfl) (fun _ _ _ h => HPanF.out _ _ _ _ _ h) (Or.inl ⟨by rfl, ?_⟩) (by assumption) ?_
      rotate_left
      · (intro w hSw; (try dsimp only at hSw); go_simp; try with_reducible rfl)
      (try simp only [Act.put, List.getElem_toArray, List.getElem_cons_zero, List.getElem_cons_succ, List.setIfInBounds_toArray, List.set_cons_zero, List.set_cons_succ])
      refine wpAnyH_done (by kernel_rfl) ?_ _
      obtain ⟨WE, hWE⟩ : ∃ WE, WE = ((wv.setCell ⟨b0, 0, none⟩ (.slice aq (nlen 4294967296 (q)) cq)).setCell ⟨b1, 0, none⟩ (.slice ar (nlen 4294967296 (r)) cr)) := ⟨_, rfl⟩
      rw [← hWE] at cE0
      rw [← hWE] at cE1
      rw [← hWE] at IQ
      rw [← hWE] at IR
      rw [← hWE] at fz
      rw [← hWE]
      have FE := fz
      clear fz hHeld hWE
      have FA := hide (F2.out.trans FE.out)
      have HPE := hide (PT.fr HP.out FA.out)
      clear FE HPan hops ha0 hQ HX HT HDV HP
      go_wp2_with fail
      have fz := hide (Fr.drew WE)
      refine wp_region_held_drew (S := (fun w' => w'.cell? ⟨b0, 0, none⟩ = some (.slice aq (nlen 4294967296 (q)) cq) ∧ w'.cell? ⟨b1, 0, none⟩ = some (.slice ar (nlen 4294967296 (r)) cr) ∧ Hid (Fr WE w'))) (by kernel_rfl) ?_ (fun hHeld => ?_)
      · exact ⟨cE0, cE1, Fr.drew _⟩
      refine wpAnyH_take (i := 0) (v := ?_) rfl (by kernel_rfl) (by kernel_rfl) (by kernel_rfl) (fun _ _ _ h => h) (Or.inl ⟨by rfl, ?_⟩) (by assumption) ?_
      rotate_left
      · (intro w hSw; (try dsimp only at hSw); go_simp; try with_reducible rfl)
      (try simp only [Act.put, List.getElem_toArray, List.getElem_cons_zero, List.getElem_cons_succ, List.setIfInBounds_toArray, List.set_cons_zero, List.set_cons_succ])
      refine wpAnyH_take (i := 2) (v := ?_) rfl (by kernel_rfl) (by kernel_rfl) (by kernel_rfl) (fun _ _ _ h => h) (Or.inl ⟨by rfl, ?_⟩) (by assumption) ?_
      rotate_left
      · (intro w hSw; (try dsimp only at hSw); go_simp; try with_reducible rfl)
      (try simp only [Act.put, List.getElem_toArray, List.getElem_cons_zero, List.getElem_cons_succ, List.setIfInBounds_toArray, List.set_cons_zero, List.set_cons_succ])
      refine wpAnyH_take (i := 4) (v := ?_) rfl (by kernel_rfl) (by kernel_rfl) (by kernel_rfl) (fun _ _ _ h => h) (Or.inl ⟨by rfl, ?_⟩) (by assumption) ?_
      rotate_left
      · (intro w hSw; (try dsimp only at hSw); go_simp; try with_reducible rfl)
      (try simp only [Act.put, List.getElem_toArray, List.getElem_cons_zero, List.getElem_cons_succ, List.setIfInBounds_toArray, List.set_cons_zero, List.set_cons_succ])
      refine wpAnyH_ready (rs := [1]) (by kernel_rfl) (by simp) ?_
      refine AllReadyH.cons rfl (fun K hK => ?_) AllReadyH.nil
      go_simp
      refine (HA.out _ _ (IsNat.fr IQ.out fz.out) (PT.fr HPE.out fz.out)).mono ?_
      rintro e wn ⟨rfl, fy⟩
      have fz := hide (fz.out.trans fy)
      clear fy
      (try go_wp2_with fail)
      refine hK.out _ _ ?_ (fun hHeld => ?_)
      · (try dsimp only)
        exact ⟨fr_cell fz.out cE0, fr_cell fz.out cE1, fz⟩
      clear hK K
      (try simp only [Act.put, List.getElem_toArray, List.getElem_cons_zero, List.getElem_cons_succ, List.setIfInBounds_toArray, List.set_cons_zero, List.set_cons_succ])
      refine wpAnyH_ready (rs := [3]) (by kernel_rfl) (by simp) ?_
      refine AllReadyH.cons rfl (fun K hK => ?_) AllReadyH.nil
      go_simp
      refine (HBB.out _ _ (IsNat.fr IR.out fz.out) (PT.fr HPE.out fz.out)).mono ?_
      rintro e wn ⟨rfl, fy⟩
      have fz := hide (fz.out.trans fy)
      clear fy
      (try go_wp2_with fail)
      refine hK.out _ _ ?_ (fun hHeld => ?_)
      · (try dsimp only)
        exact ⟨fr_cell fz.out cE0, fr_cell fz.out cE1, fz⟩
      clear hK K
      (try simp only [Act.put, List.getElem_toArray, List.getElem_cons_zero, List.getElem_cons_succ, List.setIfInBounds_toArray, List.set_cons_zero, List.set_cons_succ])
      refine wpAnyH_ready (rs := [5]) (by kernel_rfl) (by simp) ?_
      refine AllReadyH.cons rfl (fun K hK => ?_) AllReadyH.nil
      go_simp
      refine (HC.out _).mono ?_
      rintro e wn ⟨rfl, fy⟩
      have fz := hide (fz.out.trans fy)
      clear fy
      (try go_wp2_with fail)
      refine hK.out _ _ ?_ (fun hHeld => ?_)
      · (try dsimp only)
        exact ⟨fr_cell fz.out cE0, fr_cell fz.out cE1, fz⟩
      clear hK K
      (try simp only [Act.put, List.getElem_toArray, List.getElem_cons_zero, List.getElem_cons_succ, List.setIfInBounds_toArray, List.set_cons_zero, List.set_cons_succ])
      refine wpAnyH_ready (rs := [6]) (by kernel_rfl) (by simp) ?_
      refine AllReadyH.cons rfl (fun K hK => ?_) AllReadyH.nil
      go_simp
      (try go_wp2_with fail)
      refine hK.out _ _ ?_ (fun hHeld => ?_)
      · (try dsimp only)
        exact ⟨fr_cell fz.out cE0, fr_cell fz.out cE1, fz⟩
      clear hK K
      (try simp only [Act.put, List.getElem_toArray, List.getElem_cons_zero, List.getElem_cons_succ, List.setIfInBounds_toArray, List.set_cons_zero, List.set_cons_succ])
      refine wpAnyH_take (i := 7) (v := ?_) rfl (by kernel_rfl) (by kernel_rfl) (by kernel_rfl) (fun _ _ _ h => h) (Or.inl ⟨by rfl, ?_⟩) (by assumption) ?_
      rotate_left
      · (intro w hSw; (try dsimp only at hSw); go_simp; try with_reducible rfl)
      (try simp only [Act.put, List.getElem_toArray, List.getElem_cons_zero, List.getElem_cons_succ, List.setIfInBounds_toArray, List.set_cons_zero, List.set_cons_succ])
      refine wpAnyH_done (by kernel_rfl) ?_ _
      go_wp2_with fail
      go_ret
      exact ⟨by rw [← HE.out]; rfl, FA.out.trans fz.out⟩
    have N2_0 : Hid (∀ (ae : Option Addr) (ce : Nat) (aq : Option Addr) (cq : Nat) (ar : Option Addr) (cr : Nat) (b0 : Nat) (wv : World), (fun w' => w'.cell? ⟨w.heap.size, 0, none⟩ = some (.slice a (nlen 4294967296 x) ca) ∧ Hid (Fr w2 w')) wv → (IQ : Hid (IsNat wv (.agg #[.slice aq (nlen 4294967296 (q)) cq]) q)) → (IR : Hid (IsNat wv (.agg #[.slice ar (nlen 4294967296 (r)) cr]) r)) → (Oaq_0 : Off aq (nlen 4294967296 q) b0) → (Oar_0 : Off ar (nlen 4294967296 r) b0) → (V0 : Hid (Var w2 wv b0)) → wpAnyH Tryd.prog .any ops Q (fun w' => w'.cell? ⟨w.heap.size, 0, none⟩ = some (.slice a (nlen 4294967296 x) ca) ∧ Hid (Fr w2 w')) 4 #[true, true, true, true, true, true, true, true, true, false, false, false, false] (((((((((aR.put (some 22) (.agg #[.slice a (nlen 4294967296 (x)) ca])).put (some 23) (.int .i64 lo)).put (some 24) (.agg #[.slice ae (nlen 4294967296 (T)) ce])).put (some 25) (.tuple #[.agg #[.slice aq (nlen 4294967296 (q)) cq], .agg #[.slice ar (nlen 4294967296 (r)) cr], .bool true])).put (some 21) (.tuple #[.agg #[.slice aq (nlen 4294967296 (q)) cq], .agg #[.slice ar (nlen 4294967296 (r)) cr], .bool true])).put (some 26) (.agg #[.slice aq (nlen 4294967296 (q)) cq])).put (some 27) (.agg #[.slice ar (nlen 4294967296 (r)) cr])).put (some 28) (.bool true)).put (some 6) (.pointer (some ⟨b0, 0, none⟩))) wv) := by
      refine hide ?_
      intro ae ce aq cq ar cr b0 wv hHeld IQ IR Oaq_0 Oar_0 V0
      rw [hops.out, ha0.out]
      (try simp only [Act.put, List.getElem_toArray, List.getElem_cons_zero, List.getElem_cons_succ, List.setIfInBounds_toArray, List.set_cons_zero, List.set_cons_succ])
      refine wpAnyH_ready (rs := [9]) (by kernel_rfl) (by simp) ?_
      refine AllReadyH.cons rfl (fun K hK => ?_) ?_
      · have hh : Hid (Fr w2 wv) := hHeld.2
        have hn := Var.new (W := w2) (w := wv) (t := 25) hh.out.size
        have fz := hide (hh.out.trans (Fr.alloc wv (.cells #[.slice none 0 0] 25)))
        have Oaq_1 := off_new IQ.out
        have Oar_1 := off_new IR.out
        have D01 : b0 ≠ wv.heap.size := by have := Var.lt V0.out; omega
        have V1 := hide hn
        have IQ := hide (IsNat.fr IQ.out (Fr.alloc wv (.cells #[.slice none 0 0] 25)))
        have IR := hide (IsNat.fr IR.out (Fr.alloc wv (.cells #[.slice none 0 0] 25)))
        have V0 := hide (Var.fr V0.out (Fr.alloc wv (.cells #[.slice none 0 0] 25)))
        clear hn
        go_simp
        refine hK.out _ _ ?_ (fun hHeld => ?_)
        · (try dsimp only)
          exact ⟨fr_cell fz.out c4, fz⟩
        (try simp only [Act.put, List.getElem_toArray, List.getElem_cons_zero, List.getElem_cons_succ, List.setIfInBounds_toArray, List.set_cons_zero, List.set_cons_succ])
        have n := N2_01.out ae ce aq cq ar cr b0 wv.heap.size _ hHeld IQ IR Oaq_0 Oaq_1 Oar_0 Oar_1 V0 V1 D01
        rw [hops.out, ha0.out] at n
        (try simp only [Act.put, List.getElem_toArray, List.getElem_cons_zero, List.getElem_cons_succ, List.setIfInBounds_toArray, List.set_cons_zero, List.set_cons_succ] at n)
        exact n
      exact AllReadyH.nil
    have N2_1 : Hid (∀ (ae : Option Addr) (ce : Nat) (aq : Option Addr) (cq : Nat) (ar : Option Addr) (cr : Nat) (b1 : Nat) (wv : World), (fun w' => w'.cell? ⟨w.heap.size, 0, none⟩ = some (.slice a (nlen 4294967296 x) ca) ∧ Hid (Fr w2 w')) wv → (IQ : Hid (IsNat wv (.agg #[.slice aq (nlen 4294967296 (q)) cq]) q)) → (IR : Hid (IsNat wv (.agg #[.slice ar (nlen 4294967296 (r)) cr]) r)) → (Oaq_1 : Off aq (nlen 4294967296 q) b1) → (Oar_1 : Off ar (nlen 4294967296 r) b1) → (V1 : Hid (Var w2 wv b1)) → wpAnyH Tryd.prog .any ops Q (fun w' => w'.cell? ⟨w.heap.size, 0, none⟩ = some (.slice a (nlen 4294967296 x) ca) ∧ Hid (Fr w2 w')) 4 #[true, true, true, true, true, true, true, true, false, true, false, false, false] (((((((((aR.put (some 22) (.agg #[.slice a (nlen 4294967296 (x)) ca])).put (some 23) (.int .i64 lo)).put (some 24) (.agg #[.slice ae (nlen 4294967296 (T)) ce])).put (some 25) (.tuple #[.agg #[.slice aq (nlen 4294967296 (q)) cq], .agg #[.slice ar (nlen 4294967296 (r)) cr], .bool true])).put (some 21) (.tuple #[.agg #[.slice aq (nlen 4294967296 (q)) cq], .agg #[.slice ar (nlen 4294967296 (r)) cr], .bool true])).put (some 26) (.agg #[.slice aq (nlen 4294967296 (q)) cq])).put (some 27) (.agg #[.slice ar (nlen 4294967296 (r)) cr])).put (some 28) (.bool true)).put (some 7) (.pointer (some ⟨b1, 0, none⟩))) wv) := by
      refine hide ?_
      intro ae ce aq cq ar cr b1 wv hHeld IQ IR Oaq_1 Oar_1 V1
      clear N2_0
      rw [hops.out, ha0.out]
      (try simp only [Act.put, List.getElem_toArray, List.getElem_cons_zero, List.getElem_cons_succ, List.setIfInBounds_toArray, List.set_cons_zero, List.set_cons_succ])
      refine wpAnyH_ready (rs := [8]) (by kernel_rfl) (by simp) ?_
      refine AllReadyH.cons rfl (fun K hK => ?_) ?_
      · have hh : Hid (Fr w2 wv) := hHeld.2
        have hn := Var.new (W := w2) (w := wv) (t := 25) hh.out.size
        have fz := hide (hh.out.trans (Fr.alloc wv (.cells #[.slice none 0 0] 25)))
        have Oaq_0 := off_new IQ.out
        have Oar_0 := off_new IR.out
        have D01 : wv.heap.size ≠ b1 := by have := Var.lt V1.out; omega
        have V0 := hide hn
        have IQ := hide (IsNat.fr IQ.out (Fr.alloc wv (.cells #[.slice none 0 0] 25)))
        have IR := hide (IsNat.fr IR.out (Fr.alloc wv (.cells #[.slice none 0 0] 25)))
        have V1 := hide (Var.fr V1.out (Fr.alloc wv (.cells #[.slice none 0 0] 25)))
        clear hn
        go_simp
        refine hK.out _ _ ?_ (fun hHeld => ?_)
        · (try dsimp only)
          exact ⟨fr_cell fz.out c4, fz⟩
        (try simp only [Act.put, List.getElem_toArray, List.getElem_cons_zero, List.getElem_cons_succ, List.setIfInBounds_toArray, List.set_cons_zero, List.set_cons_succ])
        have n := N2_01.out ae ce aq cq ar cr wv.heap.size b1 _ hHeld IQ IR Oaq_0 Oaq_1 Oar_0 Oar_1 V0 V1 D01
        rw [hops.out, ha0.out] at n
        (try simp only [Act.put, List.getElem_toArray, List.getElem_cons_zero, List.getElem_cons_succ, List.setIfInBounds_toArray, List.set_cons_zero, List.set_cons_succ] at n)
        exact n
      exact AllReadyH.nil
    have N2_ : Hid (∀ (ae : Option Addr) (ce : Nat) (aq : Option Addr) (cq : Nat) (ar : Option Addr) (cr : Nat) (wv : World), (fun w' => w'.cell? ⟨w.heap.size, 0, none⟩ = some (.slice a (nlen 4294967296 x) ca) ∧ Hid (Fr w2 w')) wv → (IQ : Hid (IsNat wv (.agg #[.slice aq (nlen 4294967296 (q)) cq]) q)) → (IR : Hid (IsNat wv (.agg #[.slice ar (nlen 4294967296 (r)) cr]) r)) → wpAnyH Tryd.prog .any ops Q (fun w' => w'.cell? ⟨w.heap.size, 0, none⟩ = some (.slice a (nlen 4294967296 x) ca) ∧ Hid (Fr w2 w')) 5 #[true, true, true, true, true, true, true, true, false, false, false, false, false] ((((((((aR.put (some 22) (.agg #[.slice a (nlen 4294967296 (x)) ca])).put (some 23) (.int .i64 lo)).put (some 24) (.agg #[.slice ae (nlen 4294967296 (T)) ce])).put (some 25) (.tuple #[.agg #[.slice aq (nlen 4294967296 (q)) cq], .agg #[.slice ar (nlen 4294967296 (r)) cr], .bool true])).put (some 21) (.tuple #[.agg #[.slice aq (nlen 4294967296 (q)) cq], .agg #[.slice ar (nlen 4294967296 (r)) cr], .bool true])).put (some 26) (.agg #[.slice aq (nlen 4294967296 (q)) cq])).put (some 27) (.agg #[.slice ar (nlen 4294967296 (r)) cr])).put (some 28) (.bool true)) wv) := by
      refine hide ?_
      intro ae ce aq cq ar cr  wv hHeld IQ IR
      clear N2_01
      rw [hops.out, ha0.out]
      (try simp only [Act.put, List.getElem_toArray, List.getElem_cons_zero, List.getElem_cons_succ, List.setIfInBounds_toArray, List.set_cons_zero, List.set_cons_succ])
      refine wpAnyH_ready (rs := [8, 9]) (by kernel_rfl) (by simp) ?_
      refine AllReadyH.cons rfl (fun K hK => ?_) ?_
      · have hh : Hid (Fr w2 wv) := hHeld.2
        have hn := Var.new (W := w2) (w := wv) (t := 25) hh.out.size
        have fz := hide (hh.out.trans (Fr.alloc wv (.cells #[.slice none 0 0] 25)))
        have Oaq_0 := off_new IQ.out
        have Oar_0 := off_new IR.out
        have V0 := hide hn
        have IQ := hide (IsNat.fr IQ.out (Fr.alloc wv (.cells #[.slice none 0 0] 25)))
        have IR := hide (IsNat.fr IR.out (Fr.alloc wv (.cells #[.slice none 0 0] 25)))
        clear hn
        go_simp
        refine hK.out _ _ ?_ (fun hHeld => ?_)
        · (try dsimp only)
          exact ⟨fr_cell fz.out c4, fz⟩
        (try simp only [Act.put, List.getElem_toArray, List.getElem_cons_zero, List.getElem_cons_succ, List.setIfInBounds_toArray, List.set_cons_zero, List.set_cons_succ])
        have n := N2_0.out ae ce aq cq ar cr wv.heap.size _ hHeld IQ IR Oaq_0 Oar_0 V0
        rw [hops.out, ha0.out] at n
        (try simp only [Act.put, List.getElem_toArray, List.getElem_cons_zero, List.getElem_cons_succ, List.setIfInBounds_toArray, List.set_cons_zero, List.set_cons_succ] at n)
        exact n
      refine AllReadyH.cons rfl (fun K hK => ?_) ?_
      · have hh : Hid (Fr w2 wv) := hHeld.2
        have hn := Var.new (W := w2) (w := wv) (t := 25) hh.out.size
        have fz := hide (hh.out.trans (Fr.alloc wv (.cells #[.slice none 0 0] 25)))
        have Oaq_1 := off_new IQ.out
        have Oar_1 := off_new IR.out
        have V1 := hide hn
        have IQ := hide (IsNat.fr IQ.out (Fr.alloc wv (.cells #[.slice none 0 0] 25)))
        have IR := hide (IsNat.fr IR.out (Fr.alloc wv (.cells #[.slice none 0 0] 25)))
        clear hn
        go_simp
        refine hK.out _ _ ?_ (fun hHeld => ?_)
        · (try dsimp only)
          exact ⟨fr_cell fz.out c4, fz⟩
        (try simp only [Act.put, List.getElem_toArray, List.getElem_cons_zero, List.getElem_cons_succ, List.setIfInBounds_toArray, List.set_cons_zero, List.set_cons_succ])
        have n := N2_1.out ae ce aq cq ar cr wv.heap.size _ hHeld IQ IR Oaq_1 Oar_1 V1
        rw [hops.out, ha0.out] at n
        (try simp only [Act.put, List.getElem_toArray, List.getElem_cons_zero, List.getElem_cons_succ, List.setIfInBounds_toArray, List.set_cons_zero, List.set_cons_succ] at n)
        exact n
      exact AllReadyH.nil
    have N1_01 : Hid (∀ (ae : Option Addr) (ce : Nat) (b0 : Nat) (b1 : Nat) (wv : World), (fun w' => w'.cell? ⟨w.heap.size, 0, none⟩ = some (.slice a (nlen 4294967296 x) ca) ∧ Hid (Fr w2 w')) wv → (IT : Hid (IsNat wv (.agg #[.slice ae (nlen 4294967296 (T)) ce]) T)) → (V0 : Hid (Var w2 wv b0)) → (V1 : Hid (Var w2 wv b1)) → (D01 : b0 ≠ b1) → wpAnyH Tryd.prog .any ops Q (fun w' => w'.cell? ⟨w.heap.size, 0, none⟩ = some (.slice a (nlen 4294967296 x) ca) ∧ Hid (Fr w2 w')) 8 #[true, true, true, false, false, false, false, false, true, true, false, false, false] (((((aR.put (some 22) (.agg #[.slice a (nlen 4294967296 (x)) ca])).put (some 23) (.int .i64 lo)).put (some 24) (.agg #[.slice ae (nlen 4294967296 (T)) ce])).put (some 6) (.pointer (some ⟨b0, 0, none⟩))).put (some 7) (.pointer (some ⟨b1, 0, none⟩))) wv) := by
      refine hide ?_
      intro ae ce b0 b1 wv hHeld IT V0 V1 D01
      clear N2_0 N2_1 N2_
      rw [hops.out, ha0.out]
      (try simp only [Act.put, List.getElem_toArray, List.getElem_cons_zero, List.getElem_cons_succ, List.setIfInBounds_toArray, List.set_cons_zero, List.set_cons_succ])
      refine wpAnyH_ready (rs := [3]) (by kernel_rfl) (by simp) ?_
      refine AllReadyH.cons rfl (fun K hK => ?_) ?_
      · have hh : Hid (Fr w2 wv) := hHeld.2
        go_simp
        refine (HDV.out _ _ _ (IsNat.fr HX.out hh.out) IT.out).mono ?_
        rintro e wn ⟨aq, cq, ar, cr, rfl, ⟨iq, lq, fy⟩, ⟨ir, lr, _⟩⟩
        have fz := hide (hh.out.trans fy)
        have IQ := hide iq
        have IR := hide ir
        have Oaq_0 : Off aq (nlen 4294967296 q) b0 := off_old lq (Var.lt V0.out)
        have Oaq_1 : Off aq (nlen 4294967296 q) b1 := off_old lq (Var.lt V1.out)
        have Oar_0 : Off ar (nlen 4294967296 r) b0 := off_old lr (Var.lt V0.out)
        have Oar_1 : Off ar (nlen 4294967296 r) b1 := off_old lr (Var.lt V1.out)
        have V0 := hide (Var.fr V0.out fy)
        have V1 := hide (Var.fr V1.out fy)
        (try go_wp2_with fail)
        refine hK.out _ _ ?_ (fun hHeld => ?_)
        · (try dsimp only)
          exact ⟨fr_cell fz.out c4, fz⟩
        (try simp only [Act.put, List.getElem_toArray, List.getElem_cons_zero, List.getElem_cons_succ, List.setIfInBounds_toArray, List.set_cons_zero, List.set_cons_succ])
        refine wpAnyH_take (i := 4) (v := ?_) rfl (by kernel_rfl) (by kernel_rfl) (by kernel_rfl) (fun _ _ _ h => HPan.out _ _ _ _ _ h) (Or.inl ⟨by rfl, ?_⟩) (by assumption) ?_
        rotate_left
        · (intro w hSw; (try dsimp only at hSw); go_simp; try with_reducible rfl)
        (try simp only [Act.put, List.getElem_toArray, List.getElem_cons_zero, List.getElem_cons_succ, List.setIfInBounds_toArray, List.set_cons_zero, List.set_cons_succ])
        refine wpAnyH_take (i := 5) (v := ?_) rfl (by kernel_rfl) (by kernel_rfl) (by kernel_rfl) (fun _ _ _ h => HPan.out _ _ _ _ _ h) (Or.inl ⟨by rfl, ?_⟩) (by assumption) ?_
        rotate_left
        · (intro w hSw; (try dsimp only at hSw); go_simp; try with_reducible rfl)
        (try simp only [Act.put, List.getElem_toArray, List.getElem_cons_zero, List.getElem_cons_succ, List.setIfInBounds_toArray, List.set_cons_zero, List.set_cons_succ])
        refine wpAnyH_take (i := 6) (v := ?_) rfl (by kernel_rfl) (by kernel_rfl) (by kernel_rfl) (fun _ _ _ h => HPan.out _ _ _ _ _ h) (Or.inl ⟨by rfl, ?_⟩) (by assumption) ?_
        rotate_left
        · (intro w hSw; (try dsimp only at hSw); go_simp; try with_reducible rfl)
        (try simp only [Act.put, List.getElem_toArray, List.getElem_cons_zero, List.getElem_cons_succ, List.setIfInBounds_toArray, List.set_cons_zero, List.set_cons_succ])
        refine wpAnyH_take (i := 7) (v := ?_) rfl (by kernel_rfl) (by kernel_rfl) (by kernel_rfl) (fun _ _ _ h => HPan.out _ _ _ _ _ h) (Or.inl ⟨by rfl, ?_⟩) (by assumption) ?_
        rotate_left
        · (intro w hSw; (try dsimp only at hSw); go_simp; try with_reducible rfl)
        (try simp only [Act.put, List.getElem_toArray, List.getElem_cons_zero, List.getElem_cons_succ, List.setIfInBounds_toArray, List.set_cons_zero, List.set_cons_succ])
        have n := N2_01.out ae ce aq cq ar cr b0 b1 wn hHeld IQ IR Oaq_0 Oaq_1 Oar_0 Oar_1 V0 V1 D01
        rw [hops.out, ha0.out] at n
        (try simp only [Act.put, List.getElem_toArray, List.getElem_cons_zero, List.getElem_cons_succ, List.setIfInBounds_toArray, List.set_cons_zero, List.set_cons_succ] at n)
        exact n
      exact AllReadyH.nil
    have N1_0 : Hid (∀ (ae : Option Addr) (ce : Nat) (b0 : Nat) (wv : World), (fun w' => w'.cell? ⟨w.heap.size, 0, none⟩ = some (.slice a (nlen 4294967296 x) ca) ∧ Hid (Fr w2 w')) wv → (IT : Hid (IsNat wv (.agg #[.slice ae (nlen 4294967296 (T)) ce]) T)) → (V0 : Hid (Var w2 wv b0)) → wpAnyH Tryd.prog .any ops Q (fun w' => w'.cell? ⟨w.heap.size, 0, none⟩ = some (.slice a (nlen 4294967296 x) ca) ∧ Hid (Fr w2 w')) 9 #[true, true, true, false, false, false, false, false, true, false, false, false, false] ((((aR.put (some 22) (.agg #[.slice a (nlen 4294967296 (x)) ca])).put (some 23) (.int .i64 lo)).put (some 24) (.agg #[.slice ae (nlen 4294967296 (T)) ce])).put (some 6) (.pointer (some ⟨b0, 0, none⟩))) wv) := by
      refine hide ?_
      intro ae ce b0 wv hHeld IT V0
      clear N2_01 N2_1 N2_
      rw [hops.out, ha0.out]
      (try simp only [Act.put, List.getElem_toArray, List.getElem_cons_zero, List.getElem_cons_succ, List.setIfInBounds_toArray, List.set_cons_zero, List.set_cons_succ])
      refine wpAnyH_ready (rs := [3, 9]) (by kernel_rfl) (by simp) ?_
      refine AllReadyH.cons rfl (fun K hK => ?_) ?_
      · have hh : Hid (Fr w2 wv) := hHeld.2
        go_simp
        refine (HDV.out _ _ _ (IsNat.fr HX.out hh.out) IT.out).mono ?_
        rintro e wn ⟨aq, cq, ar, cr, rfl, ⟨iq, lq, fy⟩, ⟨ir, lr, _⟩⟩
        have fz := hide (hh.out.trans fy)
        have IQ := hide iq
        have IR := hide ir
        have Oaq_0 : Off aq (nlen 4294967296 q) b0 := off_old lq (Var.lt V0.out)
        have Oar_0 : Off ar (nlen 4294967296 r) b0 := off_old lr (Var.lt V0.out)
        have V0 := hide (Var.fr V0.out fy)
        (try go_wp2_with fail)
        refine hK.out _ _ ?_ (fun hHeld => ?_)
        · (try dsimp only)
          exact ⟨fr_cell fz.out c4, fz⟩
        (try simp only [Act.put, List.getElem_toArray, List.getElem_cons_zero, List.getElem_cons_succ, List.setIfInBounds_toArray, List.set_cons_zero, List.set_cons_succ])
        refine wpAnyH_take (i := 4) (v := ?_) rfl (by kernel_rfl) (by kernel_rfl) (by kernel_rfl) (fun _ _ _ h => HPan.out _ _ _ _ _ h) (Or.inl ⟨by rfl, ?_⟩) (by assumption) ?_
        rotate_left
        · (intro w hSw; (try dsimp only at hSw); go_simp; try with_reducible rfl)
        (try simp only [Act.put, List.getElem_toArray, List.getElem_cons_zero, List.getElem_cons_succ, List.setIfInBounds_toArray, List.set_cons_zero, List.set_cons_succ])
        refine wpAnyH_take (i := 5) (v := ?_) rfl (by kernel_rfl) (by kernel_rfl) (by kernel_rfl) (fun _ _ _ h => HPan.out _ _ _ _ _ h) (Or.inl ⟨by rfl, ?_⟩) (by assumption) ?_
        rotate_left
        · (intro w hSw; (try dsimp only at hSw); go_simp; try with_reducible rfl)
        (try simp only [Act.put, List.getElem_toArray, List.getElem_cons_zero, List.getElem_cons_succ, List.setIfInBounds_toArray, List.set_cons_zero, List.set_cons_succ])
        refine wpAnyH_take (i := 6) (v := ?_) rfl (by kernel_rfl) (by kernel_rfl) (by kernel_rfl) (fun _ _ _ h => HPan.out _ _ _ _ _ h) (Or.inl ⟨by rfl, ?_⟩) (by assumption) ?_
        rotate_left
        · (intro w hSw; (try dsimp only at hSw); go_simp; try with_reducible rfl)
        (try simp only [Act.put, List.getElem_toArray, List.getElem_cons_zero, List.getElem_cons_succ, List.setIfInBounds_toArray, List.set_cons_zero, List.set_cons_succ])
        refine wpAnyH_take (i := 7) (v := ?_) rfl (by kernel_rfl) (by kernel_rfl) (by kernel_rfl) (fun _ _ _ h => HPan.out _ _ _ _ _ h) (Or.inl ⟨by rfl, ?_⟩) (by assumption) ?_
        rotate_left
        · (intro w hSw; (try dsimp only at hSw); go_simp; try with_reducible rfl)
        (try simp only [Act.put, List.getElem_toArray, List.getElem_cons_zero, List.getElem_cons_succ, List.setIfInBounds_toArray, List.set_cons_zero, List.set_cons_succ])
        have n := N2_0.out ae ce aq cq ar cr b0 wn hHeld IQ IR Oaq_0 Oar_0 V0
        rw [hops.out, ha0.out] at n
        (try simp only [Act.put, List.getElem_toArray, List.getElem_cons_zero, List.getElem_cons_succ, List.setIfInBounds_toArray, List.set_cons_zero, List.set_cons_succ] at n)
        exact n
      refine AllReadyH.cons rfl (fun K hK => ?_) ?_
      · have hh : Hid (Fr w2 wv) := hHeld.2
        have hn := Var.new (W := w2) (w := wv) (t := 25) hh.out.size
        have fz := hide (hh.out.trans (Fr.alloc wv (.cells #[.slice none 0 0] 25)))
        have D01 : b0 ≠ wv.heap.size := by have := Var.lt V0.out; omega
        have V1 := hide hn
        have IT := hide (IsNat.fr IT.out (Fr.alloc wv (.cells #[.slice none 0 0] 25)))
        have V0 := hide (Var.fr V0.out (Fr.alloc wv (.cells #[.slice none 0 0] 25)))
        clear hn
        go_simp
        refine hK.out _ _ ?_ (fun hHeld => ?_)
        · (try dsimp only)
          exact ⟨fr_cell fz.out c4, fz⟩
        (try simp only [Act.put, List.getElem_toArray, List.getElem_cons_zero, List.getElem_cons_succ, List.setIfInBounds_toArray, List.set_cons_zero, List.set_cons_succ])
        have n := N1_01.out ae ce b0 wv.heap.size _ hHeld IT V0 V1 D01
        rw [hops.out, ha0.out] at n
        (try simp only [Act.put, List.getElem_toArray, List.getElem_cons_zero, List.getElem_cons_succ, List.setIfInBounds_toArray, List.set_cons_zero, List.set_cons_succ] at n)
        exact n
      exact AllReadyH.nil
    have N1_1 : Hid (∀ (ae : Option Addr) (ce : Nat) (b1 : Nat) (wv : World), (fun w' => w'.cell? ⟨w.heap.size, 0, none⟩ = some (.slice a (nlen 4294967296 x) ca) ∧ Hid (Fr w2 w')) wv → (IT : Hid (IsNat wv (.agg #[.slice ae (nlen 4294967296 (T)) ce]) T)) → (V1 : Hid (Var w2 wv b1)) → wpAnyH Tryd.prog .any ops Q (fun w' => w'.cell? ⟨w.heap.size, 0, none⟩ = some (.slice a (nlen 4294967296 x) ca) ∧ Hid (Fr w2 w')) 9 #[true, true, true, false, false, false, false, false, false, true, false, false, false] ((((aR.put (some 22) (.agg #[.slice a (nlen 4294967296 (x)) ca])).put (some 23) (.int .i64 lo)).put (some 24) (.agg #[.slice ae (nlen 4294967296 (T)) ce])).put (some 7) (.pointer (some ⟨b1, 0, none⟩))) wv) := by
      refine hide ?_
      intro ae ce b1 wv hHeld IT V1
      clear N2_01 N2_0 N2_ N1_0
      rw [hops.out, ha0.out]
      (try simp only [Act.put, List.getElem_toArray, List.getElem_cons_zero, List.getElem_cons_succ, List.setIfInBounds_toArray, List.set_cons_zero, List.set_cons_succ])
      refine wpAnyH_ready (rs := [3, 8]) (by kernel_rfl) (by simp) ?_
      refine AllReadyH.cons rfl (fun K hK => ?_) ?_
      · have hh : Hid (Fr w2 wv) := hHeld.2
        go_simp
        refine (HDV.out _ _ _ (IsNat.fr HX.out hh.out) IT.out).mono ?_
        rintro e wn ⟨aq, cq, ar, cr, rfl, ⟨iq, lq, fy⟩, ⟨ir, lr, _⟩⟩
        have fz := hide (hh.out.trans fy)
        have IQ := hide iq
        have IR := hide ir
        have Oaq_1 : Off aq (nlen 4294967296 q) b1 := off_old lq (Var.lt V1.out)
        have Oar_1 : Off ar (nlen 4294967296 r) b1 := off_old lr (Var.lt V1.out)
        have V1 := hide (Var.fr V1.out fy)
        (try go_wp2_with fail)
        refine hK.out _ _ ?_ (fun hHeld => ?_)
        · (try dsimp only)
          exact ⟨fr_cell fz.out c4, fz⟩
        (try simp only [Act.put, List.getElem_toArray, List.getElem_cons_zero, List.getElem_cons_succ, List.setIfInBounds_toArray, List.set_cons_zero, List.set_cons_succ])
        refine wpAnyH_take (i := 4) (v := ?_) rfl (by kernel_rfl) (by kernel_rfl) (by kernel_rfl) (fun _ _ _ h => HPan.out _ _ _ _ _ h) (Or.inl ⟨by rfl, ?_⟩) (by assumption) ?_
        rotate_left
        · (intro w hSw; (try dsimp only at hSw); go_simp; try with_reducible rfl)
        (try simp only [Act.put, List.getElem_toArray, List.getElem_cons_zero, List.getElem_cons_succ, List.setIfInBounds_toArray, List.set_cons_zero, List.set_cons_succ])
        refine wpAnyH_take (i := 5) (v := ?_) rfl (by kernel_rfl) (by kernel_rfl) (by kernel_rfl) (fun _ _ _ h => HPan.out _ _ _ _ _ h) (Or.inl ⟨by rfl, ?_⟩) (by assumption) ?_
        rotate_left
        · (intro w hSw; (try dsimp only at hSw); go_simp; try with_reducible rfl)
        (try simp only [Act.put, List.getElem_toArray, List.getElem_cons_zero, List.getElem_cons_succ, List.setIfInBounds_toArray, List.set_cons_zero, List.set_cons_succ])
        refine wpAnyH_take (i := 6) (v := ?_) rfl (by kernel_rfl) (by kernel_rfl) (by kernel_rfl) (fun _ _ _ h => HPan.out _ _ _ _ _ h) (Or.inl ⟨by rfl, ?_⟩) (by assumption) ?_
        rotate_left
        · (intro w hSw; (try dsimp only at hSw); go_simp; try with_reducible rfl)
        (try simp only [Act.put, List.getElem_toArray, List.getElem_cons_zero, List.getElem_cons_succ, List.setIfInBounds_toArray, List.set_cons_zero, List.set_cons_succ])
        refine wpAnyH_take (i := 7) (v := ?_) rfl (by kernel_rfl) (by kernel_rfl) (by kernel_rfl) (fun _ _ _ h => HPan.out _ _ _ _ _ h) (Or.inl ⟨by rfl, ?_⟩) (by assumption) ?_
        rotate_left
        · (intro w hSw; (try dsimp only at hSw); go_simp; try with_reducible rfl)
        (try simp only [Act.put, List.getElem_toArray, List.getElem_cons_zero, List.getElem_cons_succ, List.setIfInBounds_toArray, List.set_cons_zero, List.set_cons_succ])
        have n := N2_1.out ae ce aq cq ar cr b1 wn hHeld IQ IR Oaq_1 Oar_1 V1
        rw [hops.out, ha0.out] at n
        (try simp only [Act.put, List.getElem_toArray, List.getElem_cons_zero, List.getElem_cons_succ, List.setIfInBounds_toArray, List.set_cons_zero, List.set_cons_succ] at n)
        exact n
      refine AllReadyH.cons rfl (fun K hK => ?_) ?_
      · have hh : Hid (Fr w2 wv) := hHeld.2
        have hn := Var.new (W := w2) (w := wv) (t := 25) hh.out.size
        have fz := hide (hh.out.trans (Fr.alloc wv (.cells #[.slice none 0 0] 25)))
        have D01 : wv.heap.size ≠ b1 := by have := Var.lt V1.out; omega
        have V0 := hide hn
        have IT := hide (IsNat.fr IT.out (Fr.alloc wv (.cells #[.slice none 0 0] 25)))
        have V1 := hide (Var.fr V1.out (Fr.alloc wv (.cells #[.slice none 0 0] 25)))
        clear hn
        go_simp
        refine hK.out _ _ ?_ (fun hHeld => ?_)
        · (try dsimp only)
          exact ⟨fr_cell fz.out c4, fz⟩
        (try simp only [Act.put, List.getElem_toArray, List.getElem_cons_zero, List.getElem_cons_succ, List.setIfInBounds_toArray, List.set_cons_zero, List.set_cons_succ])
        have n := N1_01.out ae ce wv.heap.size b1 _ hHeld IT V0 V1 D01
        rw [hops.out, ha0.out] at n
        (try simp only [Act.put, List.getElem_toArray, List.getElem_cons_zero, List.getElem_cons_succ, List.setIfInBounds_toArray, List.set_cons_zero, List.set_cons_succ] at n)
        exact n
      exact AllReadyH.nil
    have N1_ : Hid (∀ (ae : Option Addr) (ce : Nat) (wv : World), (fun w' => w'.cell? ⟨w.heap.size, 0, none⟩ = some (.slice a (nlen 4294967296 x) ca) ∧ Hid (Fr w2 w')) wv → (IT : Hid (IsNat wv (.agg #[.slice ae (nlen 4294967296 (T)) ce]) T)) → wpAnyH Tryd.prog .any ops Q (fun w' => w'.cell? ⟨w.heap.size, 0, none⟩ = some (.slice a (nlen 4294967296 x) ca) ∧ Hid (Fr w2 w')) 10 #[true, true, true, false, false, false, false, false, false, false, false, false, false] (((aR.put (some 22) (.agg #[.slice a (nlen 4294967296 (x)) ca])).put (some 23) (.int .i64 lo)).put (some 24) (.agg #[.slice ae (nlen 4294967296 (T)) ce])) wv) := by
      refine hide ?_
      intro ae ce  wv hHeld IT
      clear N2_01 N2_0 N2_1 N1_01
      rw [hops.out, ha0.out]
      (try simp only [Act.put, List.getElem_toArray, List.getElem_cons_zero, List.getElem_cons_succ, List.setIfInBounds_toArray, List.set_cons_zero, List.set_cons_succ])
      refine wpAnyH_ready (rs := [3, 8, 9]) (by kernel_rfl) (by simp) ?_
      refine AllReadyH.cons rfl (fun K hK => ?_) ?_
      · have hh : Hid (Fr w2 wv) := hHeld.2
        go_simp
        refine (HDV.out _ _ _ (IsNat.fr HX.out hh.out) IT.out).mono ?_
        rintro e wn ⟨aq, cq, ar, cr, rfl, ⟨iq, lq, fy⟩, ⟨ir, lr, _⟩⟩
        have fz := hide (hh.out.trans fy)
        have IQ := hide iq
        have IR := hide ir
        (try go_wp2_with fail)
        refine hK.out _ _ ?_ (fun hHeld => ?_)
        · (try dsimp only)
          exact ⟨fr_cell fz.out c4, fz⟩
        (try simp only [Act.put, List.getElem_toArray, List.getElem_cons_zero, List.getElem_cons_succ, List.setIfInBounds_toArray, List.set_cons_zero, List.set_cons_succ])
        refine wpAnyH_take (i := 4) (v := ?_) rfl (by kernel_rfl) (by kernel_rfl) (by kernel_rfl) (fun _ _ _ h => HPan.out _ _ _ _ _ h) (Or.inl ⟨by rfl, ?_⟩) (by assumption) ?_
        rotate_left
        · (intro w hSw; (try dsimp only at hSw); go_simp; try with_reducible rfl)
        (try simp only [Act.put, List.getElem_toArray, List.getElem_cons_zero, List.getElem_cons_succ, List.setIfInBounds_toArray, List.set_cons_zero, List.set_cons_succ])
        refine wpAnyH_take (i := 5) (v := ?_) rfl (by kernel_rfl) (by kernel_rfl) (by kernel_rfl) (fun _ _ _ h => HPan.out _ _ _ _ _ h) (Or.inl ⟨by rfl, ?_⟩) (by assumption) ?_
        rotate_left
        · (intro w hSw; (try dsimp only at hSw); go_simp; try with_reducible rfl)
        (try simp only [Act.put, List.getElem_toArray, List.getElem_cons_zero, List.getElem_cons_succ, List.setIfInBounds_toArray, List.set_cons_zero, List.set_cons_succ])
        refine wpAnyH_take (i := 6) (v := ?_) rfl (by kernel_rfl) (by kernel_rfl) (by kernel_rfl) (fun _ _ _ h => HPan.out _ _ _ _ _ h) (Or.inl ⟨by rfl, ?_⟩) (by assumption) ?_
        rotate_left
        · (intro w hSw; (try dsimp only at hSw); go_simp; try with_reducible rfl)
        (try simp only [Act.put, List.getElem_toArray, List.getElem_cons_zero, List.getElem_cons_succ, List.setIfInBounds_toArray, List.set_cons_zero, List.set_cons_succ])
        refine wpAnyH_take (i := 7) (v := ?_) rfl (by kernel_rfl) (by kernel_rfl) (by kernel_rfl) (fun _ _ _ h => HPan.out _ _ _ _ _ h) (Or.inl ⟨by rfl, ?_⟩) (by assumption) ?_
        rotate_left
        · (intro w hSw; (try dsimp only at hSw); go_simp; try with_reducible rfl)
        (try simp only [Act.put, List.getElem_toArray, List.getElem_cons_zero, List.getElem_cons_succ, List.setIfInBounds_toArray, List.set_cons_zero, List.set_cons_succ])
        have n := N2_.out ae ce aq cq ar cr wn hHeld IQ IR
        rw [hops.out, ha0.out] at n
        (try simp only [Act.put, List.getElem_toArray, List.getElem_cons_zero, List.getElem_cons_succ, List.setIfInBounds_toArray, List.set_cons_zero, List.set_cons_succ] at n)
        exact n
      refine AllReadyH.cons rfl (fun K hK => ?_) ?_
      · have hh : Hid (Fr w2 wv) := hHeld.2
        have hn := Var.new (W := w2) (w := wv) (t := 25) hh.out.size
        have fz := hide (hh.out.trans (Fr.alloc wv (.cells #[.slice none 0 0] 25)))
        have V0 := hide hn
        have IT := hide (IsNat.fr IT.out (Fr.alloc wv (.cells #[.slice none 0 0] 25)))
        clear hn
        go_simp
        refine hK.out _ _ ?_ (fun hHeld => ?_)
        · (try dsimp only)
          exact ⟨fr_cell fz.out c4, fz⟩
        (try simp only [Act.put, List.getElem_toArray, List.getElem_cons_zero, List.getElem_cons_succ, List.setIfInBounds_toArray, List.set_cons_zero, List.set_cons_succ])
        have n := N1_0.out ae ce wv.heap.size _ hHeld IT V0
        rw [hops.out, ha0.out] at n
        (try simp only [Act.put, List.getElem_toArray, List.getElem_cons_zero, List.getElem_cons_succ, List.setIfInBounds_toArray, List.set_cons_zero, List.set_cons_succ] at n)
        exact n
      refine AllReadyH.cons rfl (fun K hK => ?_) ?_
      · have hh : Hid (Fr w2 wv) := hHeld.2
        have hn := Var.new (W := w2) (w := wv) (t := 25) hh.out.size
        have fz := hide (hh.out.trans (Fr.alloc wv (.cells #[.slice none 0 0] 25)))
        have V1 := hide hn
        have IT := hide (IsNat.fr IT.out (Fr.alloc wv (.cells #[.slice none 0 0] 25)))
        clear hn
        go_simp
        refine hK.out _ _ ?_ (fun hHeld => ?_)
        · (try dsimp only)
          exact ⟨fr_cell fz.out c4, fz⟩
        (try simp only [Act.put, List.getElem_toArray, List.getElem_cons_zero, List.getElem_cons_succ, List.setIfInBounds_toArray, List.set_cons_zero, List.set_cons_succ])
        have n := N1_1.out ae ce wv.heap.size _ hHeld IT V1
        rw [hops.out, ha0.out] at n
        (try simp only [Act.put, List.getElem_toArray, List.getElem_cons_zero, List.getElem_cons_succ, List.setIfInBounds_toArray, List.set_cons_zero, List.set_cons_succ] at n)
        exact n
      exact AllReadyH.nil
    have N0_01 : Hid (∀ (b0 : Nat) (b1 : Nat) (wv : World), (fun w' => w'.cell? ⟨w.heap.size, 0, none⟩ = some (.slice a (nlen 4294967296 x) ca) ∧ Hid (Fr w2 w')) wv → (V0 : Hid (Var w2 wv b0)) → (V1 : Hid (Var w2 wv b1)) → (D01 : b0 ≠ b1) → wpAnyH Tryd.prog .any ops Q (fun w' => w'.cell? ⟨w.heap.size, 0, none⟩ = some (.slice a (nlen 4294967296 x) ca) ∧ Hid (Fr w2 w')) 9 #[true, true, false, false, false, false, false, false, true, true, false, false, false] ((((aR.put (some 22) (.agg #[.slice a (nlen 4294967296 (x)) ca])).put (some 23) (.int .i64 lo)).put (some 6) (.pointer (some ⟨b0, 0, none⟩))).put (some 7) (.pointer (some ⟨b1, 0, none⟩))) wv) := by
      refine hide ?_
      intro  b0 b1 wv hHeld V0 V1 D01
      clear N2_01 N2_0 N2_1 N2_ N1_0 N1_1 N1_
      rw [hops.out, ha0.out]
      (try simp only [Act.put, List.getElem_toArray, List.getElem_cons_zero, List.getElem_cons_succ, List.setIfInBounds_toArray, List.set_cons_zero, List.set_cons_succ])
      refine wpAnyH_ready (rs := [2]) (by kernel_rfl) (by simp) ?_
      refine AllReadyH.cons rfl (fun K hK => ?_) ?_
      · have hh : Hid (Fr w2 wv) := hHeld.2
        go_simp
        refine (HT.out _).mono ?_
        rintro e wn ⟨ae, ce, rfl, it, fy⟩
        have fz := hide (hh.out.trans fy)
        have IT := hide it
        have V0 := hide (Var.fr V0.out fy)
        have V1 := hide (Var.fr V1.out fy)
        (try go_wp2_with fail)
        refine hK.out _ _ ?_ (fun hHeld => ?_)
        · (try dsimp only)
          exact ⟨fr_cell fz.out c4, fz⟩
        (try simp only [Act.put, List.getElem_toArray, List.getElem_cons_zero, List.getElem_cons_succ, List.setIfInBounds_toArray, List.set_cons_zero, List.set_cons_succ])
        have n := N1_01.out ae ce b0 b1 wn hHeld IT V0 V1 D01
        rw [hops.out, ha0.out] at n
        (try simp only [Act.put, List.getElem_toArray, List.getElem_cons_zero, List.getElem_cons_succ, List.setIfInBounds_toArray, List.set_cons_zero, List.set_cons_succ] at n)
        exact n
      exact AllReadyH.nil
    have N0_0 : Hid (∀ (b0 : Nat) (wv : World), (fun w' => w'.cell? ⟨w.heap.size, 0, none⟩ = some (.slice a (nlen 4294967296 x) ca) ∧ Hid (Fr w2 w')) wv → (V0 : Hid (Var w2 wv b0)) → wpAnyH Tryd.prog .any ops Q (fun w' => w'.cell? ⟨w.heap.size, 0, none⟩ = some (.slice a (nlen 4294967296 x) ca) ∧ Hid (Fr w2 w')) 10 #[true, true, false, false, false, false, false, false, true, false, false, false, false] (((aR.put (some 22) (.agg #[.slice a (nlen 4294967296 (x)) ca])).put (some 23) (.int .i64 lo)).put (some 6) (.pointer (some ⟨b0, 0, none⟩))) wv) := by
      refine hide ?_
      intro  b0 wv hHeld V0
      clear N2_01 N2_0 N2_1 N2_ N1_01 N1_1 N1_
      rw [hops.out, ha0.out]
      (try simp only [Act.put, List.getElem_toArray, List.getElem_cons_zero, List.getElem_cons_succ, List.setIfInBounds_toArray, List.set_cons_zero, List.set_cons_succ])
      refine wpAnyH_ready (rs := [2, 9]) (by kernel_rfl) (by simp) ?_
      refine AllReadyH.cons rfl (fun K hK => ?_) ?_
      · have hh : Hid (Fr w2 wv) := hHeld.2
        go_simp
        refine (HT.out _).mono ?_
        rintro e wn ⟨ae, ce, rfl, it, fy⟩
        have fz := hide (hh.out.trans fy)
        have IT := hide it
        have V0 := hide (Var.fr V0.out fy)
        (try go_wp2_with fail)
        refine hK.out _ _ ?_ (fun hHeld => ?_)
        · (try dsimp only)
          exact ⟨fr_cell fz.out c4, fz⟩
        (try simp only [Act.put, List.getElem_toArray, List.getElem_cons_zero, List.getElem_cons_succ, List.setIfInBounds_toArray, List.set_cons_zero, List.set_cons_succ])
        have n := N1_0.out ae ce b0 wn hHeld IT V0
        rw [hops.out, ha0.out] at n
        (try simp only [Act.put, List.getElem_toArray, List.getElem_cons_zero, List.getElem_cons_succ, List.setIfInBounds_toArray, List.set_cons_zero, List.set_cons_succ] at n)
        exact n
      refine AllReadyH.cons rfl (fun K hK => ?_) ?_
      · have hh : Hid (Fr w2 wv) := hHeld.2
        have hn := Var.new (W := w2) (w := wv) (t := 25) hh.out.size
        have fz := hide (hh.out.trans (Fr.alloc wv (.cells #[.slice none 0 0] 25)))
        have D01 : b0 ≠ wv.heap.size := by have := Var.lt V0.out; omega
        have V1 := hide hn
        have V0 := hide (Var.fr V0.out (Fr.alloc wv (.cells #[.slice none 0 0] 25)))
        clear hn
        go_simp
        refine hK.out _ _ ?_ (fun hHeld => ?_)
        · (try dsimp only)
          exact ⟨fr_cell fz.out c4, fz⟩
        (try simp only [Act.put, List.getElem_toArray, List.getElem_cons_zero, List.getElem_cons_succ, List.setIfInBounds_toArray, List.set_cons_zero, List.set_cons_succ])
        have n := N0_01.out b0 wv.heap.size _ hHeld V0 V1 D01
        rw [hops.out, ha0.out] at n
        (try simp only [Act.put, List.getElem_toArray, List.getElem_cons_zero, List.getElem_cons_succ, List.setIfInBounds_toArray, List.set_cons_zero, List.set_cons_succ] at n)
        exact n
      exact AllReadyH.nil
    have N0_1 : Hid (∀ (b1 : Nat) (wv : World), (fun w' => w'.cell? ⟨w.heap.size, 0, none⟩ = some (.slice a (nlen 4294967296 x) ca) ∧ Hid (Fr w2 w')) wv → (V1 : Hid (Var w2 wv b1)) → wpAnyH Tryd.prog .any ops Q (fun w' => w'.cell? ⟨w.heap.size, 0, none⟩ = some (.slice a (nlen 4294967296 x) ca) ∧ Hid (Fr w2 w')) 10 #[true, true, false, false, false, false, false, false, false, true, false, false, false] (((aR.put (some 22) (.agg #[.slice a (nlen 4294967296 (x)) ca])).put (some 23) (.int .i64 lo)).put (some 7) (.pointer (some ⟨b1, 0, none⟩))) wv) := by
      refine hide ?_
      intro  b1 wv hHeld V1
      clear N2_01 N2_0 N2_1 N2_ N1_01 N1_0 N1_ N0_0
      rw [hops.out, ha0.out]
      (try simp only [Act.put, List.getElem_toArray, List.getElem_cons_zero, List.getElem_cons_succ, List.setIfInBounds_toArray, List.set_cons_zero, List.set_cons_succ])
      refine wpAnyH_ready (rs := [2, 8]) (by kernel_rfl) (by simp) ?_
      refine AllReadyH.cons rfl (fun K hK => ?_) ?_
      · have hh : Hid (Fr w2 wv) := hHeld.2
        go_simp
        refine (HT.out _).mono ?_
        rintro e wn ⟨ae, ce, rfl, it, fy⟩
        have fz := hide (hh.out.trans fy)
        have IT := hide it
        have V1 := hide (Var.fr V1.out fy)
        (try go_wp2_with fail)
        refine hK.out _ _ ?_ (fun hHeld => ?_)
        · (try dsimp only)
          exact ⟨fr_cell fz.out c4, fz⟩
        (try simp only [Act.put, List.getElem_toArray, List.getElem_cons_zero, List.getElem_cons_succ, List.setIfInBounds_toArray, List.set_cons_zero, List.set_cons_succ])
        have n := N1_1.out ae ce b1 wn hHeld IT V1
        rw [hops.out, ha0.out] at n
        (try simp only [Act.put, List.getElem_toArray, List.getElem_cons_zero, List.getElem_cons_succ, List.setIfInBounds_toArray, List.set_cons_zero, List.set_cons_succ] at n)
        exact n
      refine AllReadyH.cons rfl (fun K hK => ?_) ?_
      · have hh : Hid (Fr w2 wv) := hHeld.2
        have hn := Var.new (W := w2) (w := wv) (t := 25) hh.out.size
        have fz := hide (hh.out.trans (Fr.alloc wv (.cells #[.slice none 0 0] 25)))
        have D01 : wv.heap.size ≠ b1 := by have := Var.lt V1.out; omega
        have V0 := hide hn
        have V1 := hide (Var.fr V1.out (Fr.alloc wv (.cells #[.slice none 0 0] 25)))
        clear hn
        go_simp
        refine hK.out _ _ ?_ (fun hHeld => ?_)
        · (try dsimp only)
          exact ⟨fr_cell fz.out c4, fz⟩
        (try simp only [Act.put, List.getElem_toArray, List.getElem_cons_zero, List.getElem_cons_succ, List.setIfInBounds_toArray, List.set_cons_zero, List.set_cons_succ])
        have n := N0_01.out wv.heap.size b1 _ hHeld V0 V1 D01
        rw [hops.out, ha0.out] at n
        (try simp only [Act.put, List.getElem_toArray, List.getElem_cons_zero, List.getElem_cons_succ, List.setIfInBounds_toArray, List.set_cons_zero, List.set_cons_succ] at n)
        exact n
      exact AllReadyH.nil
    have N0_ : Hid (∀ (wv : World), (fun w' => w'.cell? ⟨w.heap.size, 0, none⟩ = some (.slice a (nlen 4294967296 x) ca) ∧ Hid (Fr w2 w')) wv → wpAnyH Tryd.prog .any ops Q (fun w' => w'.cell? ⟨w.heap.size, 0, none⟩ = some (.slice a (nlen 4294967296 x) ca) ∧ Hid (Fr w2 w')) 11 #[true, true, false, false, false, false, false, false, false, false, false, false, false] ((aR.put (some 22) (.agg #[.slice a (nlen 4294967296 (x)) ca])).put (some 23) (.int .i64 lo)) wv) := by
      refine hide ?_
      intro   wv hHeld 
      clear N2_01 N2_0 N2_1 N2_ N1_01 N1_0 N1_1 N0_01
      rw [hops.out, ha0.out]
      (try simp only [Act.put, List.getElem_toArray, List.getElem_cons_zero, List.getElem_cons_succ, List.setIfInBounds_toArray, List.set_cons_zero, List.set_cons_succ])
      refine wpAnyH_ready (rs := [2, 8, 9]) (by kernel_rfl) (by simp) ?_
      refine AllReadyH.cons rfl (fun K hK => ?_) ?_
      · have hh : Hid (Fr w2 wv) := hHeld.2
        go_simp
        refine (HT.out _).mono ?_
        rintro e wn ⟨ae, ce, rfl, it, fy⟩
        have fz := hide (hh.out.trans fy)
        have IT := hide it
        (try go_wp2_with fail)
        refine hK.out _ _ ?_ (fun hHeld => ?_)
        · (try dsimp only)
          exact ⟨fr_cell fz.out c4, fz⟩
        (try simp only [Act.put, List.getElem_toArray, List.getElem_cons_zero, List.getElem_cons_succ, List.setIfInBounds_toArray, List.set_cons_zero, List.set_cons_succ])
        have n := N1_.out ae ce wn hHeld IT
        rw [hops.out, ha0.out] at n
        (try simp only [Act.put, List.getElem_toArray, List.getElem_cons_zero, List.getElem_cons_succ, List.setIfInBounds_toArray, List.set_cons_zero, List.set_cons_succ] at n)
        exact n
      refine AllReadyH.cons rfl (fun K hK => ?_) ?_
      · have hh : Hid (Fr w2 wv) := hHeld.2
        have hn := Var.new (W := w2) (w := wv) (t := 25) hh.out.size
        have fz := hide (hh.out.trans (Fr.alloc wv (.cells #[.slice none 0 0] 25)))
        have V0 := hide hn
        clear hn
        go_simp
        refine hK.out _ _ ?_ (fun hHeld => ?_)
        · (try dsimp only)
          exact ⟨fr_cell fz.out c4, fz⟩
        (try simp only [Act.put, List.getElem_toArray, List.getElem_cons_zero, List.getElem_cons_succ, List.setIfInBounds_toArray, List.set_cons_zero, List.set_cons_succ])
        have n := N0_0.out wv.heap.size _ hHeld V0
        rw [hops.out, ha0.out] at n
        (try simp only [Act.put, List.getElem_toArray, List.getElem_cons_zero, List.getElem_cons_succ, List.setIfInBounds_toArray, List.set_cons_zero, List.set_cons_succ] at n)
        exact n
      refine AllReadyH.cons rfl (fun K hK => ?_) ?_
      · have hh : Hid (Fr w2 wv) := hHeld.2
        have hn := Var.new (W := w2) (w := wv) (t := 25) hh.out.size
        have fz := hide (hh.out.trans (Fr.alloc wv (.cells #[.slice none 0 0] 25)))
        have V1 := hide hn
        clear hn
        go_simp
        refine hK.out _ _ ?_ (fun hHeld => ?_)
        · (try dsimp only)
          exact ⟨fr_cell fz.out c4, fz⟩
        (try simp only [Act.put, List.getElem_toArray, List.getElem_cons_zero, List.getElem_cons_succ, List.setIfInBounds_toArray, List.set_cons_zero, List.set_cons_succ])
        have n := N0_1.out wv.heap.size _ hHeld V1
        rw [hops.out, ha0.out] at n
        (try simp only [Act.put, List.getElem_toArray, List.getElem_cons_zero, List.getElem_cons_succ, List.setIfInBounds_toArray, List.set_cons_zero, List.set_cons_succ] at n)
        exact n
      exact AllReadyH.nil
    clear N2_01 N2_0 N2_1 N2_ N1_01 N1_0 N1_1 N1_ N0_01 N0_0 N0_1
    rw [hops.out, ha0.out]
    have hHeld := hHeld0
    refine wpAnyH_take (i := 0) (v := ?_) rfl (by kernel_rfl) (by kernel_rfl) (by kernel_rfl) (fun _ _ _ h => HPan.out _ _ _ _ _ h) (Or.inl ⟨by rfl, ?_⟩) (by assumption) ?_
    rotate_left
    · (intro w hSw; (try dsimp only at hSw); go_simp; try with_reducible rfl)
    (try simp only [Act.put, List.getElem_toArray, List.getElem_cons_zero, List.getElem_cons_succ, List.setIfInBounds_toArray, List.set_cons_zero, List.set_cons_succ])
    refine wpAnyH_take (i := 1) (v := ?_) rfl (by kernel_rfl) (by kernel_rfl) (by kernel_rfl) (fun _ _ _ h => HPan.out _ _ _ _ _ h) (Or.inl ⟨by rfl, ?_⟩) (by assumption) ?_
    rotate_left
    · (intro w hSw; (try dsimp only at hSw); go_simp; try with_reducible rfl)
    (try simp only [Act.put, List.getElem_toArray, List.getElem_cons_zero, List.getElem_cons_succ, List.setIfInBounds_toArray, List.set_cons_zero, List.set_cons_succ])
    have n := N0_.out _ hHeld
    rw [hops.out, ha0.out] at n
    (try simp only [Act.put, List.getElem_toArray, List.getElem_cons_zero, List.getElem_cons_succ, List.setIfInBounds_toArray, List.set_cons_zero, List.set_cons_succ] at n)
    exact n

theorem text_any (v : Value) (x : Nat) (w : World) (h : IsNat w v x) (hn : nlen 4294967296 x ≤ 20000) (hP : PT w) :
    Calls Tryd.prog 36 #[v] w fun e w' => e = .returned (.string (bs (Lib.decDigits x))) ∧ Fr w w' := by
  have h2 : ∀ m : Nat, ∀ (v : Value) (x : Nat) (w : World), x < m → IsNat w v x → nlen 4294967296 x ≤ 20000 → PT w →
    Calls Tryd.prog 36 #[v] w fun e w' => e = .returned (.string (bs (Lib.decDigits x))) ∧ Fr w w' := by
    intro m
    induction m with
    | zero => intro v x w h; omega
    | succ m ih => intro v x w h h5 hA hP; exact text_step m ih v x w (by omega) h5 hA hP
  exact h2 _ v x w (Nat.lt_succ_self _) h hn hP

end Go.Proofs.YthdgdomgcogpjaaDoor
