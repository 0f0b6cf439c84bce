/- Rounding: firstExp, Exp. -/
import Derived.Test.YthdgdomgcogpjaaDoorRoundA
namespace Go.Proofs.YthdgdomgcogpjaaDoor
set_option linter.unusedVariables false
set_option linter.unusedSimpArgs false
open Go.RowKit

attribute [local go_sem] World.cell?_alloc_some
/-- The power of ten of a quotient's first digit. -/
def IsExp (n d : Nat) (e : Int) : Prop := d * 10 ^ e.toNat ≤ n * 10 ^ (-e).toNat ∧ n * 10 ^ (-(e + 1)).toNat < d * 10 ^ (e + 1).toNat
theorem exp_key {a b : Nat} {e f : Int} (hef : e < f) (h2 : a * 10 ^ (-(e + 1)).toNat < b * 10 ^ (e + 1).toNat) (h3 : b * 10 ^ f.toNat ≤ a * 10 ^ (-f).toNat) : False := by
  obtain ⟨t, ht⟩ : ∃ t : Nat, f = e + 1 + t := ⟨(f - e - 1).toNat, by omega⟩
  have hP : ∀ k : Nat, 0 < 10 ^ k := fun k => Nat.pow_pos (by omega)
  have s1 : (e + 1).toNat + (-f).toNat ≤ f.toNat + (-(e + 1)).toNat := by omega
  have s2 : 10 ^ ((e + 1).toNat + (-f).toNat) ≤ 10 ^ (f.toNat + (-(e + 1)).toNat) := Nat.pow_le_pow_right (by omega) s1
  rw [Nat.pow_add, Nat.pow_add] at s2
  have m1 := hP (-f).toNat
  have m2 := hP (-(e + 1)).toNat
  generalize 10 ^ (e + 1).toNat = A1 at *
  generalize 10 ^ (-f).toNat = A2 at *
  generalize 10 ^ f.toNat = A3 at *
  generalize 10 ^ (-(e + 1)).toNat = A4 at *
  have i1 : b * (A1 * A2) ≤ b * (A3 * A4) := Nat.mul_le_mul_left b s2
  have i2 : b * A3 * A4 ≤ a * A2 * A4 := Nat.mul_le_mul_right A4 h3
  have i3 : a * A4 * A2 < b * A1 * A2 := Nat.mul_lt_mul_of_pos_right h2 m1
  have j1 : b * (A3 * A4) = b * A3 * A4 := by ac_rfl
  have j2 : a * A2 * A4 = a * A4 * A2 := by ac_rfl
  have j3 : b * (A1 * A2) = b * A1 * A2 := by ac_rfl
  omega
theorem IsExp.lt {n d : Nat} {E k : Int} (h : IsExp n d E) : n * 10 ^ (-k).toNat < 10 ^ k.toNat * d ↔ E < k := by
  rw [Nat.mul_comm (10 ^ k.toNat) d]
  constructor
  · intro hl
    rcases Int.lt_or_le E k with c | c
    · exact c
    · exfalso
      refine exp_key (a := n) (b := d) (e := k - 1) (f := E) (by omega) ?_ h.1
      rw [show k - 1 + 1 = k by omega]
      exact hl
  · intro hk
    rcases Nat.lt_or_ge (n * 10 ^ (-k).toNat) (d * 10 ^ k.toNat) with c | c
    · exact c
    · exact absurd (exp_key hk h.2 c) id
theorem IsExp.ne {n d : Nat} {E : Int} (hd : d ≠ 0) (h : IsExp n d E) : n ≠ 0 := by
  rintro rfl
  have h1 := h.1
  rw [Nat.zero_mul] at h1
  have h2 : 0 < d * 10 ^ E.toNat := Nat.mul_pos (by omega) (Nat.pow_pos (by omega))
  omega
theorem IsExp.same {a b a' b' : Nat} {e : Int} (hb : b ≠ 0) (hb' : b' ≠ 0) (h : a * b' = a' * b) (k : IsExp a b e) : IsExp a' b' e := ⟨exp_low hb hb' h k.1, exp_high hb hb' h k.2⟩

set_option maxHeartbeats 2000000 in
set_option maxRecDepth 4000 in
theorem firstExp_any (v : Value) (n d : Nat) (t E : Int) (w : World) (hT : Tab w) (h : IsRat w v n d) (h1 : nlen 4294967296 n ≤ 1000) (k1 : nlen 4294967296 d ≤ 1000) (t0 : -3000 ≤ t) (t1 : t ≤ 3000) (hE : IsExp n d E) (E0 : -1500 ≤ E) (E1 : E ≤ 1500) :
    Calls Tryd.prog 41 #[v, .int .i64 t] w fun e w' => e = .returned (.int .i64 E) ∧ Fr w w' := by
  have HA := hide h
  have HT := hide hT
  obtain ⟨a, N, ca, b, M, cb, rfl⟩ := h.form
  have CMP : Hid (∀ k : Int, n * 10 ^ (-k).toNat < 10 ^ k.toNat * d ↔ E < k) := fun k => hE.lt
  clear h hT hE
  obtain ⟨q, hq, q0, q1⟩ : ∃ q : Int, Int.tdiv (t * 30103) 100000 = q ∧ -1500 ≤ q ∧ q ≤ 1500 := by
    refine ⟨_, rfl, ?_, ?_⟩
    · rcases Int.lt_or_le t 0 with c | c
      · have := Int.neg_tdiv (-(t * 30103)) 100000
        rw [Int.neg_neg] at this
        rw [this, Int.tdiv_eq_ediv_of_nonneg (by omega)]
        omega
      · rw [Int.tdiv_eq_ediv_of_nonneg (by omega)]
        omega
    · rcases Int.lt_or_le t 0 with c | c
      · have := Int.neg_tdiv (-(t * 30103)) 100000
        rw [Int.neg_neg] at this
        rw [this, Int.tdiv_eq_ediv_of_nonneg (by omega)]
        omega
      · rw [Int.tdiv_eq_ediv_of_nonneg (by omega)]
        omega
  have hqw : IntKind.i64.wrap q = q := by simp only [IntKind.wrap_i64]; omega
  go_enter Tryd.func41, Tryd.ntmps41
  go_wp2_with fail
  obtain ⟨W, hW⟩ : ∃ W, W = (w.alloc (Obj.cells #[Value.slice a N ca, Value.slice b M cb] 27)) := ⟨_, rfl⟩
  have fW : Fr w W := by rw [hW]; exact (Fr.alloc w (Obj.cells #[Value.slice a N ca, Value.slice b M cb] 27))
  have s2 : Slot2 w W (w.heap.size) (.slice a N ca) (.slice b M cb) := by
    rw [hW]; simpa using Slot2.new (Fr.refl w) a N ca b M cb 27
  rw [← hW]
  clear hW
  have S2 := hide s2
  have FW := hide fW
  clear s2 fW
  go_loopw [5] (fun s5 wr => ∃ k : Int, -1500 ≤ k ∧ k ≤ 1500 ∧ s5 = .int .i64 k ∧ Hid (Slot2 w wr w.heap.size (.slice a N ca) (.slice b M cb)) ∧ Hid (Fr w wr)) (fun s5 _ => (intOf s5 + 1500).toNat)
  case atStart => exact ⟨q, q0, q1, by go_num, S2, FW⟩
  case round =>
    obtain ⟨k, k0, kl, rfl, S2, FW⟩ := hrel
    obtain ⟨A, hA⟩ : ∃ A, 10 ^ (k).toNat = A := ⟨_, rfl⟩
    obtain ⟨B, hB⟩ : ∃ B, 10 ^ (-(k)).toNat = B := ⟨_, rfl⟩
    have c := CMP.out (k)
    rw [hA, hB] at c
    have nA := nl_ten hA (by omega)
    have nB := nl_ten hB (by omega)
    have HAe := hide hA
    have HBe := hide hB
    clear hA hB
    have HR := hide (HA.out.fr FW.out)
    have HT1 := hide (Tab.fr HT.out FW.out)
    by_cases hk : E < k
    · have EZ : Hid (cmpZ (n * B) (A * d) = -1) := if_pos (c.2 (by omega))
      clear c
      have q2 := S2.out.1
      have q2' := S2.out.2.1
      have HR := hide (HR.out.fr (Fr.drew _))
      have S2 := hide (S2.out.fr (Fr.drew _))
      have HT1 := hide (HT1.out.fr (Fr.drew _))
      have FW := hide (FW.out.trans (Fr.drew _))
      go_wp2_with fail
      refine wp_region_held_drew (S := (fun w' => w'.cell? ⟨w.heap.size, 0, none⟩ = some (.slice a N ca) ∧ w'.cell? ⟨w.heap.size, 1, none⟩ = some (.slice b M cb))) (by kernel_rfl) ?_ (fun hHeld => ?_)
      · exact ⟨S2.out.1, S2.out.2.1⟩
      obtain ⟨wd, hwd⟩ : ∃ wd, wd = wr.drew := ⟨_, rfl⟩
      rw [← hwd] at hHeld HR S2 HT1 FW ⊢
      clear hwd
      refine wpAnyH_take (i := 0) (v := ?_) rfl (by kernel_rfl) (by kernel_rfl) (by kernel_rfl) (fun _ _ _ h => h) (Or.inl ⟨by rfl, ?_⟩) (by assumption) ?_
      rotate_left
      · (intro w hSw; (try dsimp only at hSw); go_simp; try with_reducible rfl)
      (try simp only [Act.put, List.getElem_toArray, List.getElem_cons_zero, List.getElem_cons_succ, List.setIfInBounds_toArray, List.set_cons_zero, List.set_cons_succ])
      refine wpAnyH_take (i := 1) (v := ?_) rfl (by kernel_rfl) (by kernel_rfl) (by kernel_rfl) (fun _ _ _ h => h) (Or.inl ⟨by rfl, ?_⟩) (by assumption) ?_
      rotate_left
      · (intro w hSw; (try dsimp only at hSw); go_simp; try with_reducible rfl)
      (try simp only [Act.put, List.getElem_toArray, List.getElem_cons_zero, List.getElem_cons_succ, List.setIfInBounds_toArray, List.set_cons_zero, List.set_cons_succ])
      refine wpAnyH_ready (rs := [2]) (by kernel_rfl) (by simp) ?_
      refine AllReadyH.cons rfl (fun K hK => ?_) AllReadyH.nil
      go_simp
      refine (power_any k A B _ HT1.out (by omega) (by omega) HAe.out HBe.out).mono ?_
      rintro e wn ⟨v, rfl, ir, fy⟩
      have IV := hide ir
      have HR := hide (HR.out.fr fy)
      have S2 := hide (S2.out.fr fy)
      have HT1 := hide (HT1.out.fr fy)
      have FW := hide (FW.out.trans fy)
      obtain ⟨u1, u2, u3, u4, u5, u6, rfl⟩ := ir.form
      clear ir fy
      (try go_wp2_with fail)
      refine hK.out _ _ ?_ (fun hHeld => ?_)
      · (try dsimp only)
        exact ⟨S2.out.1, S2.out.2.1⟩
      clear hK K
      (try simp only [Act.put, List.getElem_toArray, List.getElem_cons_zero, List.getElem_cons_succ, List.setIfInBounds_toArray, List.set_cons_zero, List.set_cons_succ])
      refine wpAnyH_ready (rs := [3]) (by kernel_rfl) (by simp) ?_
      refine AllReadyH.cons rfl (fun K hK => ?_) AllReadyH.nil
      go_simp
      refine (cmpR_any _ _ n d A B _ HT1.out HR.out IV.out (by omega) (by omega) (by omega) (by omega) _ EZ.out).mono ?_
      rintro e wn ⟨rfl, fy⟩
      have HR := hide (HR.out.fr fy)
      have S2 := hide (S2.out.fr fy)
      have HT1 := hide (HT1.out.fr fy)
      have FW := hide (FW.out.trans fy)
      clear fy
      (try go_wp2_with fail)
      refine hK.out _ _ ?_ (fun hHeld => ?_)
      · (try dsimp only)
        exact ⟨S2.out.1, S2.out.2.1⟩
      clear hK K
      (try simp only [Act.put, List.getElem_toArray, List.getElem_cons_zero, List.getElem_cons_succ, List.setIfInBounds_toArray, List.set_cons_zero, List.set_cons_succ])
      refine wpAnyH_take (i := 4) (v := ?_) rfl (by kernel_rfl) (by kernel_rfl) (by kernel_rfl) (fun _ _ _ h => h) (Or.inl ⟨by rfl, ?_⟩) (by assumption) ?_
      rotate_left
      · (intro w hSw; (try dsimp only at hSw); go_simp; try with_reducible rfl)
      (try simp only [Act.put, List.getElem_toArray, List.getElem_cons_zero, List.getElem_cons_succ, List.setIfInBounds_toArray, List.set_cons_zero, List.set_cons_succ])
      refine wpAnyH_done (by kernel_rfl) ?_ _
      go_wp2_with fail
      go_roundw
      case rel => exact ⟨k - 1, by omega, by omega, by go_num, S2, FW⟩
      case measure => simp [intOf]; omega
    · obtain ⟨Z, hZ, hz0⟩ : ∃ Z, cmpZ (n * B) (A * d) = Z ∧ 0 ≤ Z := by
        refine ⟨_, rfl, ?_⟩
        have cn : ¬ n * B < A * d := fun hl => by have := c.1 hl; omega
        unfold cmpZ
        rw [if_neg cn]
        split <;> omega
      have EZ := hide hZ
      have hzd : decide (Z < 0) = false := decide_eq_false (by omega)
      have hzg : decide (0 ≤ Z) = true := decide_eq_true (by omega)
      clear c hZ
      have q2 := S2.out.1
      have q2' := S2.out.2.1
      have HR := hide (HR.out.fr (Fr.drew _))
      have S2 := hide (S2.out.fr (Fr.drew _))
      have HT1 := hide (HT1.out.fr (Fr.drew _))
      have FW := hide (FW.out.trans (Fr.drew _))
      go_wp2_with fail
      refine wp_region_held_drew (S := (fun w' => w'.cell? ⟨w.heap.size, 0, none⟩ = some (.slice a N ca) ∧ w'.cell? ⟨w.heap.size, 1, none⟩ = some (.slice b M cb))) (by kernel_rfl) ?_ (fun hHeld => ?_)
      · exact ⟨S2.out.1, S2.out.2.1⟩
      obtain ⟨wd, hwd⟩ : ∃ wd, wd = wr.drew := ⟨_, rfl⟩
      rw [← hwd] at hHeld HR S2 HT1 FW ⊢
      clear hwd
      refine wpAnyH_take (i := 0) (v := ?_) rfl (by kernel_rfl) (by kernel_rfl) (by kernel_rfl) (fun _ _ _ h => h) (Or.inl ⟨by rfl, ?_⟩) (by assumption) ?_
      rotate_left
      · (intro w hSw; (try dsimp only at hSw); go_simp; try with_reducible rfl)
      (try simp only [Act.put, List.getElem_toArray, List.getElem_cons_zero, List.getElem_cons_succ, List.setIfInBounds_toArray, List.set_cons_zero, List.set_cons_succ])
      refine wpAnyH_take (i := 1) (v := ?_) rfl (by kernel_rfl) (by kernel_rfl) (by kernel_rfl) (fun _ _ _ h => h) (Or.inl ⟨by rfl, ?_⟩) (by assumption) ?_
      rotate_left
      · (intro w hSw; (try dsimp only at hSw); go_simp; try with_reducible rfl)
      (try simp only [Act.put, List.getElem_toArray, List.getElem_cons_zero, List.getElem_cons_succ, List.setIfInBounds_toArray, List.set_cons_zero, List.set_cons_succ])
      refine wpAnyH_ready (rs := [2]) (by kernel_rfl) (by simp) ?_
      refine AllReadyH.cons rfl (fun K hK => ?_) AllReadyH.nil
      go_simp
      refine (power_any k A B _ HT1.out (by omega) (by omega) HAe.out HBe.out).mono ?_
      rintro e wn ⟨v, rfl, ir, fy⟩
      have IV := hide ir
      have HR := hide (HR.out.fr fy)
      have S2 := hide (S2.out.fr fy)
      have HT1 := hide (HT1.out.fr fy)
      have FW := hide (FW.out.trans fy)
      obtain ⟨u1, u2, u3, u4, u5, u6, rfl⟩ := ir.form
      clear ir fy
      (try go_wp2_with fail)
      refine hK.out _ _ ?_ (fun hHeld => ?_)
      · (try dsimp only)
        exact ⟨S2.out.1, S2.out.2.1⟩
      clear hK K
      (try simp only [Act.put, List.getElem_toArray, List.getElem_cons_zero, List.getElem_cons_succ, List.setIfInBounds_toArray, List.set_cons_zero, List.set_cons_succ])
      refine wpAnyH_ready (rs := [3]) (by kernel_rfl) (by simp) ?_
      refine AllReadyH.cons rfl (fun K hK => ?_) AllReadyH.nil
      go_simp
      refine (cmpR_any _ _ n d A B _ HT1.out HR.out IV.out (by omega) (by omega) (by omega) (by omega) _ EZ.out).mono ?_
      rintro e wn ⟨rfl, fy⟩
      have HR := hide (HR.out.fr fy)
      have S2 := hide (S2.out.fr fy)
      have HT1 := hide (HT1.out.fr fy)
      have FW := hide (FW.out.trans fy)
      clear fy
      (try go_wp2_with fail)
      refine hK.out _ _ ?_ (fun hHeld => ?_)
      · (try dsimp only)
        exact ⟨S2.out.1, S2.out.2.1⟩
      clear hK K
      (try simp only [Act.put, List.getElem_toArray, List.getElem_cons_zero, List.getElem_cons_succ, List.setIfInBounds_toArray, List.set_cons_zero, List.set_cons_succ])
      refine wpAnyH_take (i := 4) (v := ?_) rfl (by kernel_rfl) (by kernel_rfl) (by kernel_rfl) (fun _ _ _ h => h) (Or.inl ⟨by rfl, ?_⟩) (by assumption) ?_
      rotate_left
      · (intro w hSw; (try dsimp only at hSw); go_simp; try with_reducible rfl)
      (try simp only [Act.put, List.getElem_toArray, List.getElem_cons_zero, List.getElem_cons_succ, List.setIfInBounds_toArray, List.set_cons_zero, List.set_cons_succ])
      refine wpAnyH_done (by kernel_rfl) ?_ _
      go_wp2_with fail
      obtain ⟨V, rfl⟩ : ∃ V, V = wn := ⟨_, rfl⟩
      clear HR HT1 HAe HBe EZ hzd hzg hz0 hHeld nA nB IV
      go_loopw [5] (fun s5 wr => ∃ k : Int, -1500 ≤ k ∧ k ≤ E ∧ s5 = .int .i64 k ∧ Hid (Slot2 w wr w.heap.size (.slice a N ca) (.slice b M cb)) ∧ Hid (Fr w wr)) (fun s5 _ => (E - intOf s5).toNat)
      case atStart => exact ⟨k, k0, by omega, rfl, S2, FW⟩
      case round =>
        clear S2 FW
        obtain ⟨k, k0, kl, rfl, S2, FW⟩ := hrel
        have hw1 : IntKind.i64.wrap (k + 1) = k + 1 := by simp only [IntKind.wrap_i64]; omega
        obtain ⟨A, hA⟩ : ∃ A, 10 ^ (k + 1).toNat = A := ⟨_, rfl⟩
        obtain ⟨B, hB⟩ : ∃ B, 10 ^ (-(k + 1)).toNat = B := ⟨_, rfl⟩
        have c := CMP.out (k + 1)
        rw [hA, hB] at c
        have nA := nl_ten hA (by omega)
        have nB := nl_ten hB (by omega)
        have HAe := hide hA
        have HBe := hide hB
        clear hA hB
        have HR := hide (HA.out.fr FW.out)
        have HT1 := hide (Tab.fr HT.out FW.out)
        by_cases hk : k < E
        · obtain ⟨Z, hZ, hz0⟩ : ∃ Z, cmpZ (n * B) (A * d) = Z ∧ 0 ≤ Z := by
            refine ⟨_, rfl, ?_⟩
            have cn : ¬ n * B < A * d := fun hl => by have := c.1 hl; omega
            unfold cmpZ
            rw [if_neg cn]
            split <;> omega
          have EZ := hide hZ
          have hzd : decide (Z < 0) = false := decide_eq_false (by omega)
          have hzg : decide (0 ≤ Z) = true := decide_eq_true (by omega)
          clear c hZ
          have q2 := S2.out.1
          have q2' := S2.out.2.1
          have HR := hide (HR.out.fr (Fr.drew _))
          have S2 := hide (S2.out.fr (Fr.drew _))
          have HT1 := hide (HT1.out.fr (Fr.drew _))
          have FW := hide (FW.out.trans (Fr.drew _))
          go_wp2_with fail
          refine wp_region_held_drew (S := (fun w' => w'.cell? ⟨w.heap.size, 0, none⟩ = some (.slice a N ca) ∧ w'.cell? ⟨w.heap.size, 1, none⟩ = some (.slice b M cb))) (by kernel_rfl) ?_ (fun hHeld => ?_)
          · exact ⟨S2.out.1, S2.out.2.1⟩
          obtain ⟨wd, hwd⟩ : ∃ wd, wd = wr.drew := ⟨_, rfl⟩
          rw [← hwd] at hHeld HR S2 HT1 FW ⊢
          clear hwd
          refine wpAnyH_take (i := 0) (v := ?_) rfl (by kernel_rfl) (by kernel_rfl) (by kernel_rfl) (fun _ _ _ h => h) (Or.inl ⟨by rfl, ?_⟩) (by assumption) ?_
          rotate_left
          · (intro w hSw; (try dsimp only at hSw); go_simp; try with_reducible rfl)
          (try simp only [Act.put, List.getElem_toArray, List.getElem_cons_zero, List.getElem_cons_succ, List.setIfInBounds_toArray, List.set_cons_zero, List.set_cons_succ])
          refine wpAnyH_take (i := 1) (v := ?_) rfl (by kernel_rfl) (by kernel_rfl) (by kernel_rfl) (fun _ _ _ h => h) (Or.inl ⟨by rfl, ?_⟩) (by assumption) ?_
          rotate_left
          · (intro w hSw; (try dsimp only at hSw); go_simp; try with_reducible rfl)
          (try simp only [Act.put, List.getElem_toArray, List.getElem_cons_zero, List.getElem_cons_succ, List.setIfInBounds_toArray, List.set_cons_zero, List.set_cons_succ])
          refine wpAnyH_take (i := 2) (v := ?_) rfl (by kernel_rfl) (by kernel_rfl) (by kernel_rfl) (fun _ _ _ h => h) (Or.inl ⟨by rfl, ?_⟩) (by assumption) ?_
          rotate_left
          · (intro w hSw; (try dsimp only at hSw); go_simp; try with_reducible rfl)
          (try simp only [Act.put, List.getElem_toArray, List.getElem_cons_zero, List.getElem_cons_succ, List.setIfInBounds_toArray, List.set_cons_zero, List.set_cons_succ])
          refine wpAnyH_ready (rs := [3]) (by kernel_rfl) (by simp) ?_
          refine AllReadyH.cons rfl (fun K hK => ?_) AllReadyH.nil
          go_simp
          refine (power_any (k + 1) A B _ HT1.out (by omega) (by omega) HAe.out HBe.out).mono ?_
          rintro e wn ⟨v, rfl, ir, fy⟩
          have IV := hide ir
          have HR := hide (HR.out.fr fy)
          have S2 := hide (S2.out.fr fy)
          have HT1 := hide (HT1.out.fr fy)
          have FW := hide (FW.out.trans fy)
          obtain ⟨u1, u2, u3, u4, u5, u6, rfl⟩ := ir.form
          clear ir fy
          (try go_wp2_with fail)
          refine hK.out _ _ ?_ (fun hHeld => ?_)
          · (try dsimp only)
            exact ⟨S2.out.1, S2.out.2.1⟩
          clear hK K
          (try simp only [Act.put, List.getElem_toArray, List.getElem_cons_zero, List.getElem_cons_succ, List.setIfInBounds_toArray, List.set_cons_zero, List.set_cons_succ])
          refine wpAnyH_ready (rs := [4]) (by kernel_rfl) (by simp) ?_
          refine AllReadyH.cons rfl (fun K hK => ?_) AllReadyH.nil
          go_simp
          refine (cmpR_any _ _ n d A B _ HT1.out HR.out IV.out (by omega) (by omega) (by omega) (by omega) _ EZ.out).mono ?_
          rintro e wn ⟨rfl, fy⟩
          have HR := hide (HR.out.fr fy)
          have S2 := hide (S2.out.fr fy)
          have HT1 := hide (HT1.out.fr fy)
          have FW := hide (FW.out.trans fy)
          clear fy
          (try go_wp2_with fail)
          refine hK.out _ _ ?_ (fun hHeld => ?_)
          · (try dsimp only)
            exact ⟨S2.out.1, S2.out.2.1⟩
          clear hK K
          (try simp only [Act.put, List.getElem_toArray, List.getElem_cons_zero, List.getElem_cons_succ, List.setIfInBounds_toArray, List.set_cons_zero, List.set_cons_succ])
          refine wpAnyH_take (i := 5) (v := ?_) rfl (by kernel_rfl) (by kernel_rfl) (by kernel_rfl) (fun _ _ _ h => h) (Or.inl ⟨by rfl, ?_⟩) (by assumption) ?_
          rotate_left
          · (intro w hSw; (try dsimp only at hSw); go_simp; try with_reducible rfl)
          (try simp only [Act.put, List.getElem_toArray, List.getElem_cons_zero, List.getElem_cons_succ, List.setIfInBounds_toArray, List.set_cons_zero, List.set_cons_succ])
          refine wpAnyH_done (by kernel_rfl) ?_ _
          go_wp2_with fail
          go_roundw
          case rel => exact ⟨k + 1, by omega, by omega, by go_num, S2, FW⟩
          case measure => simp [intOf]; omega
        · have EZ : Hid (cmpZ (n * B) (A * d) = -1) := if_pos (c.2 (by omega))
          clear c
          have q2 := S2.out.1
          have q2' := S2.out.2.1
          have HR := hide (HR.out.fr (Fr.drew _))
          have S2 := hide (S2.out.fr (Fr.drew _))
          have HT1 := hide (HT1.out.fr (Fr.drew _))
          have FW := hide (FW.out.trans (Fr.drew _))
          go_wp2_with fail
          refine wp_region_held_drew (S := (fun w' => w'.cell? ⟨w.heap.size, 0, none⟩ = some (.slice a N ca) ∧ w'.cell? ⟨w.heap.size, 1, none⟩ = some (.slice b M cb))) (by kernel_rfl) ?_ (fun hHeld => ?_)
          · exact ⟨S2.out.1, S2.out.2.1⟩
          obtain ⟨wd, hwd⟩ : ∃ wd, wd = wr.drew := ⟨_, rfl⟩
          rw [← hwd] at hHeld HR S2 HT1 FW ⊢
          clear hwd
          refine wpAnyH_take (i := 0) (v := ?_) rfl (by kernel_rfl) (by kernel_rfl) (by kernel_rfl) (fun _ _ _ h => h) (Or.inl ⟨by rfl, ?_⟩) (by assumption) ?_
          rotate_left
          · (intro w hSw; (try dsimp only at hSw); go_simp; try with_reducible rfl)
          (try simp only [Act.put, List.getElem_toArray, List.getElem_cons_zero, List.getElem_cons_succ, List.setIfInBounds_toArray, List.set_cons_zero, List.set_cons_succ])
          refine wpAnyH_take (i := 1) (v := ?_) rfl (by kernel_rfl) (by kernel_rfl) (by kernel_rfl) (fun _ _ _ h => h) (Or.inl ⟨by rfl, ?_⟩) (by assumption) ?_
          rotate_left
          · (intro w hSw; (try dsimp only at hSw); go_simp; try with_reducible rfl)
          (try simp only [Act.put, List.getElem_toArray, List.getElem_cons_zero, List.getElem_cons_succ, List.setIfInBounds_toArray, List.set_cons_zero, List.set_cons_succ])
          refine wpAnyH_take (i := 2) (v := ?_) rfl (by kernel_rfl) (by kernel_rfl) (by kernel_rfl) (fun _ _ _ h => h) (Or.inl ⟨by rfl, ?_⟩) (by assumption) ?_
          rotate_left
          · (intro w hSw; (try dsimp only at hSw); go_simp; try with_reducible rfl)
          (try simp only [Act.put, List.getElem_toArray, List.getElem_cons_zero, List.getElem_cons_succ, List.setIfInBounds_toArray, List.set_cons_zero, List.set_cons_succ])
          refine wpAnyH_ready (rs := [3]) (by kernel_rfl) (by simp) ?_
          refine AllReadyH.cons rfl (fun K hK => ?_) AllReadyH.nil
          go_simp
          refine (power_any (k + 1) A B _ HT1.out (by omega) (by omega) HAe.out HBe.out).mono ?_
          rintro e wn ⟨v, rfl, ir, fy⟩
          have IV := hide ir
          have HR := hide (HR.out.fr fy)
          have S2 := hide (S2.out.fr fy)
          have HT1 := hide (HT1.out.fr fy)
          have FW := hide (FW.out.trans fy)
          obtain ⟨u1, u2, u3, u4, u5, u6, rfl⟩ := ir.form
          clear ir fy
          (try go_wp2_with fail)
          refine hK.out _ _ ?_ (fun hHeld => ?_)
          · (try dsimp only)
            exact ⟨S2.out.1, S2.out.2.1⟩
          clear hK K
          (try simp only [Act.put, List.getElem_toArray, List.getElem_cons_zero, List.getElem_cons_succ, List.setIfInBounds_toArray, List.set_cons_zero, List.set_cons_succ])
          refine wpAnyH_ready (rs := [4]) (by kernel_rfl) (by simp) ?_
          refine AllReadyH.cons rfl (fun K hK => ?_) AllReadyH.nil
          go_simp
          refine (cmpR_any _ _ n d A B _ HT1.out HR.out IV.out (by omega) (by omega) (by omega) (by omega) _ EZ.out).mono ?_
          rintro e wn ⟨rfl, fy⟩
          have HR := hide (HR.out.fr fy)
          have S2 := hide (S2.out.fr fy)
          have HT1 := hide (HT1.out.fr fy)
          have FW := hide (FW.out.trans fy)
          clear fy
          (try go_wp2_with fail)
          refine hK.out _ _ ?_ (fun hHeld => ?_)
          · (try dsimp only)
            exact ⟨S2.out.1, S2.out.2.1⟩
          clear hK K
          (try simp only [Act.put, List.getElem_toArray, List.getElem_cons_zero, List.getElem_cons_succ, List.setIfInBounds_toArray, List.set_cons_zero, List.set_cons_succ])
          refine wpAnyH_take (i := 5) (v := ?_) rfl (by kernel_rfl) (by kernel_rfl) (by kernel_rfl) (fun _ _ _ h => h) (Or.inl ⟨by rfl, ?_⟩) (by assumption) ?_
          rotate_left
          · (intro w hSw; (try dsimp only at hSw); go_simp; try with_reducible rfl)
          (try simp only [Act.put, List.getElem_toArray, List.getElem_cons_zero, List.getElem_cons_succ, List.setIfInBounds_toArray, List.set_cons_zero, List.set_cons_succ])
          refine wpAnyH_done (by kernel_rfl) ?_ _
          go_wp2_with fail
          go_ret
          exact ⟨by rw [show k = E by omega]; rfl, FW.out⟩
end Go.Proofs.YthdgdomgcogpjaaDoor
