/- Quotients: shared, lowest, levelled. -/
import Derived.Test.YtimglhbllcjpbaaDoorRatioA
import Derived.Test.YtimglhbllcjpbaaDoorRatioP
namespace Go.Proofs.YtimglhbllcjpbaaDoor
set_option linter.unusedVariables false
set_option linter.unusedSimpArgs false
open Go.RowKit

attribute [local go_sem] World.cell?_alloc_some
theorem tz_lt {x n : Nat} (hx : x ≠ 0) (h : nlen 4294967296 x ≤ n) : tz x < 32 * n := by
  have h1 : x < 2 ^ (32 * n) := by
    have := lt_of_nlen b32 h
    rwa [show (4294967296 : Nat) = 2 ^ 32 by decide, ← Nat.pow_mul] at this
  have h2 : 2 ^ tz x ≤ x := Nat.le_of_dvd (by omega) (Nat.dvd_of_mod_eq_zero (mod_own hx))
  exact (Nat.pow_lt_pow_iff_right (a := 2) (by omega)).1 (Nat.lt_of_le_of_lt h2 h1)
theorem nl_le {x y n : Nat} (h : nlen 4294967296 x ≤ n) (k : y ≤ x) : nlen 4294967296 y ≤ n := Nat.le_trans (nlen_mono b32 k) h

set_option maxHeartbeats 2000000 in
set_option maxRecDepth 4000 in
theorem shared_any (va vb : Value) (x y : Nat) (w : World) (hT : Tab w) (ha : IsNat w va x) (hb : IsNat w vb y) (hx : nlen 4294967296 x ≤ 1000000000) (hy : nlen 4294967296 y ≤ 1000000000) (hx0 : x ≠ 0) (hy0 : y ≠ 0) :
    Calls Tryd.prog 56 #[va, vb] w fun e w' => ∃ a c, e = .returned (.agg #[.slice a (nlen 4294967296 (Nat.gcd x y)) c]) ∧ IsNat w' (.agg #[.slice a (nlen 4294967296 (Nat.gcd x y)) c]) (Nat.gcd x y) ∧ Fr w w' := by
  have HA := hide ha
  have HB := hide hb
  have HT := hide hT
  have g0 := gcd_shared hx0 hy0
  have tx := tz_lt hx0 hx
  have ty := tz_lt hy0 hy
  obtain ⟨a, ca, rfl, a2, a3, a4⟩ := ha
  obtain ⟨b, cb, rfl, b2, b3, b4⟩ := hb
  obtain ⟨A, hA⟩ : ∃ A, tz x = A := ⟨_, rfl⟩
  obtain ⟨B, hB⟩ : ∃ B, tz y = B := ⟨_, rfl⟩
  rw [hA] at g0 tx
  rw [hB] at g0 ty
  obtain ⟨P, hP⟩ : ∃ P, x / 2 ^ A = P := ⟨_, rfl⟩
  obtain ⟨R, hR⟩ : ∃ R, y / 2 ^ B = R := ⟨_, rfl⟩
  have nP : nlen 4294967296 P ≤ 1000000000 := by rw [← hP]; exact nl_div hx
  have nR : nlen 4294967296 R ≤ 1000000000 := by rw [← hR]; exact nl_div hy
  rw [hP, hR] at g0
  obtain ⟨G, hG⟩ : ∃ G, Nat.gcd x y = G := ⟨_, rfl⟩
  rw [hG] at g0 ⊢
  have HA0 := hide hA
  have HB0 := hide hB
  have HP := hide hP
  have HR := hide hR
  have HG := hide g0
  clear a4 b4 hA hB hP hR g0 hG hT
  go_enter Tryd.func56, Tryd.ntmps56
  go_wp2_with fail
  obtain ⟨W, hW⟩ : ∃ W, W = (((w.alloc (Obj.cells #[Value.slice a (nlen 4294967296 x) ca] 24)).alloc (Obj.cells #[Value.slice b (nlen 4294967296 y) cb] 24)).alloc (Obj.cells #[Value.slice none 0 0] 24)) := ⟨_, rfl⟩
  have fW : Fr w W := by rw [hW]; exact (((Fr.alloc w (Obj.cells #[Value.slice a (nlen 4294967296 x) ca] 24)).trans (Fr.alloc _ (Obj.cells #[Value.slice b (nlen 4294967296 y) cb] 24))).trans (Fr.alloc _ (Obj.cells #[Value.slice none 0 0] 24)))
  have s2 : Slot w W (w.heap.size) (.slice a (nlen 4294967296 x) ca) := by
    rw [hW]; simpa using ((Slot.new (Fr.refl w) a (nlen 4294967296 x) ca 24).fr (Fr.alloc _ _)).fr (Fr.alloc _ _)
  have s3 : Slot w W (w.heap.size + 1) (.slice b (nlen 4294967296 y) cb) := by
    rw [hW]; simpa using (Slot.new (Fr.alloc w (Obj.cells #[Value.slice a (nlen 4294967296 x) ca] 24)) b (nlen 4294967296 y) cb 24).fr (Fr.alloc _ _)
  have s4 : Slot w W (w.heap.size + 1 + 1) (.slice none 0 0) := by
    rw [hW]; simpa using Slot.new ((Fr.alloc w (Obj.cells #[Value.slice a (nlen 4294967296 x) ca] 24)).trans (Fr.alloc _ (Obj.cells #[Value.slice b (nlen 4294967296 y) cb] 24))) none 0 0 24
  rw [← hW]
  clear hW
  have S2 := hide s2
  have S3 := hide s3
  have S4 := hide s4
  have FW := hide fW
  have q2 := s2.1
  have q3 := s3.1
  clear s2 s3 s4 fW
  refine wp_region_held_drew (S := (fun w' => w'.cell? ⟨w.heap.size, 0, none⟩ = some (.slice a (nlen 4294967296 x) ca) ∧ w'.cell? ⟨w.heap.size + 1, 0, none⟩ = some (.slice b (nlen 4294967296 y) cb) ∧ Hid (Fr W w'))) (by kernel_rfl) ?_ (fun hHeld => ?_)
  · exact ⟨fr_cell (Fr.drew _) q2, fr_cell (Fr.drew _) q3, Fr.drew _⟩
  refine wpAnyH_take (i := 0) (v := ?_) rfl (by kernel_rfl) (by kernel_rfl) (by kernel_rfl) (fun _ _ _ h => h) (Or.inl ⟨by rfl, ?_⟩) (by assumption) ?_
  rotate_left
  · (intro w hSw; (try dsimp only at hSw); go_simp; try with_reducible rfl)
  (try simp only [Act.put, List.getElem_toArray, List.getElem_cons_zero, List.getElem_cons_succ, List.setIfInBounds_toArray, List.set_cons_zero, List.set_cons_succ])
  refine wpAnyH_take (i := 2) (v := ?_) rfl (by kernel_rfl) (by kernel_rfl) (by kernel_rfl) (fun _ _ _ h => h) (Or.inl ⟨by rfl, ?_⟩) (by assumption) ?_
  rotate_left
  · (intro w hSw; (try dsimp only at hSw); go_simp; try with_reducible rfl)
  (try simp only [Act.put, List.getElem_toArray, List.getElem_cons_zero, List.getElem_cons_succ, List.setIfInBounds_toArray, List.set_cons_zero, List.set_cons_succ])
  refine wpAnyH_ready (rs := [1]) (by kernel_rfl) (by simp) ?_
  refine AllReadyH.cons rfl (fun K hK => ?_) AllReadyH.nil
  go_simp
  have hh := hHeld
  refine (noughtsc_any _ x (A : Int) _ (Tab.fr HT.out (FW.out.trans hh.2.2.out)) (HA.out.fr (FW.out.trans hh.2.2.out)) (by omega) (by rw [HA0.out])).mono ?_
  rintro e wn ⟨rfl, fy⟩
  have fz := hide (hh.2.2.out.trans fy)
  clear hh fy
  (try go_wp2_with fail)
  refine hK.out _ _ ?_ (fun hHeld => ?_)
  · (try dsimp only)
    exact ⟨fr_cell fz.out q2, fr_cell fz.out q3, fz⟩
  clear hK K
  (try simp only [Act.put, List.getElem_toArray, List.getElem_cons_zero, List.getElem_cons_succ, List.setIfInBounds_toArray, List.set_cons_zero, List.set_cons_succ])
  refine wpAnyH_ready (rs := [3]) (by kernel_rfl) (by simp) ?_
  refine AllReadyH.cons rfl (fun K hK => ?_) AllReadyH.nil
  go_simp
  have hh := hHeld
  refine (noughtsc_any _ y (B : Int) _ (Tab.fr HT.out (FW.out.trans hh.2.2.out)) (HB.out.fr (FW.out.trans hh.2.2.out)) (by omega) (by rw [HB0.out])).mono ?_
  rintro e wn ⟨rfl, fy⟩
  have fz := hide (hh.2.2.out.trans fy)
  clear hh fy
  (try go_wp2_with fail)
  refine hK.out _ _ ?_ (fun hHeld => ?_)
  · (try dsimp only)
    exact ⟨fr_cell fz.out q2, fr_cell fz.out q3, fz⟩
  clear hK K
  (try simp only [Act.put, List.getElem_toArray, List.getElem_cons_zero, List.getElem_cons_succ, List.setIfInBounds_toArray, List.set_cons_zero, List.set_cons_succ])
  refine wpAnyH_take (i := 4) (v := ?_) rfl (by kernel_rfl) (by kernel_rfl) (by kernel_rfl) (fun _ _ _ h => h) (Or.inl ⟨by rfl, ?_⟩) (by assumption) ?_
  rotate_left
  · (intro w hSw; (try dsimp only at hSw); go_simp; try with_reducible rfl)
  (try simp only [Act.put, List.getElem_toArray, List.getElem_cons_zero, List.getElem_cons_succ, List.setIfInBounds_toArray, List.set_cons_zero, List.set_cons_succ])
  refine wpAnyH_take (i := 5) (v := ?_) rfl (by kernel_rfl) (by kernel_rfl) (by kernel_rfl) (fun _ _ _ h => h) (Or.inl ⟨by rfl, ?_⟩) (by assumption) ?_
  rotate_left
  · (intro w hSw; (try dsimp only at hSw); go_simp; try with_reducible rfl)
  (try simp only [Act.put, List.getElem_toArray, List.getElem_cons_zero, List.getElem_cons_succ, List.setIfInBounds_toArray, List.set_cons_zero, List.set_cons_succ])
  refine wpAnyH_done (by kernel_rfl) ?_ _
  have S2 := hide (S2.out.fr fz.out)
  have S3 := hide (S3.out.fr fz.out)
  have S4 := hide (S4.out.fr fz.out)
  have FW := hide (FW.out.trans fz.out)
  clear fz hHeld q2 q3
  have q2 := S2.out.1
  have q3 := S3.out.1
  go_wp2_with fail
  refine (downc_any _ x (A : Int) P _ _ (Tab.fr HT.out FW.out) (HA.out.fr FW.out) (by omega) (by omega) (by omega) (by rw [Int.toNat_natCast]; exact HP.out) rfl).mono ?_
  rintro e w2 ⟨a2, c2, rfl, i2, f2⟩
  have S2 := hide (S2.out.fr f2)
  have S3 := hide (S3.out.fr f2)
  have S4 := hide (S4.out.fr f2)
  have FW := hide (FW.out.trans f2)
  have I2 := hide i2
  clear f2 i2 q2 q3
  have q2 := S2.out.1
  have z2 := S2.out.2.1
  have q3 := S3.out.1
  go_wp2_with fail
  have S3 := hide (S3.out.other S2.out (by omega) a2 (nlen 4294967296 P) c2)
  have S4 := hide (S4.out.other S2.out (by omega) a2 (nlen 4294967296 P) c2)
  have I2 := hide (S2.out.nat I2.out (.slice a2 (nlen 4294967296 P) c2))
  have FW := hide (S2.out.set_fr FW.out (.slice a2 (nlen 4294967296 P) c2))
  have S2 := hide (S2.out.set a2 (nlen 4294967296 P) c2)
  obtain ⟨V, hV⟩ : ∃ V, V = w2.setCell ⟨w.heap.size, 0, none⟩ (.slice a2 (nlen 4294967296 P) c2) := ⟨_, rfl⟩
  rw [← hV] at S2 S3 S4 I2 FW ⊢
  clear hV q2 z2 q3
  refine (downc_any _ y (B : Int) R _ _ (Tab.fr HT.out FW.out) (HB.out.fr FW.out) (by omega) (by omega) (by omega) (by rw [Int.toNat_natCast]; exact HR.out) rfl).mono ?_
  rintro e w3 ⟨a3, c3, rfl, i3, f3⟩
  have S2 := hide (S2.out.fr f3)
  have S3 := hide (S3.out.fr f3)
  have S4 := hide (S4.out.fr f3)
  have I2 := hide (I2.out.fr f3)
  have FW := hide (FW.out.trans f3)
  have I3 := hide i3
  clear f3 i3
  have q2 := S2.out.1
  have q3 := S3.out.1
  have z3 := S3.out.2.1
  go_wp2_with fail
  have S2 := hide (S2.out.other S3.out (by omega) a3 (nlen 4294967296 R) c3)
  have S4 := hide (S4.out.other S3.out (by omega) a3 (nlen 4294967296 R) c3)
  have I2 := hide (S3.out.nat I2.out (.slice a3 (nlen 4294967296 R) c3))
  have I3 := hide (S3.out.nat I3.out (.slice a3 (nlen 4294967296 R) c3))
  have FW := hide (S3.out.set_fr FW.out (.slice a3 (nlen 4294967296 R) c3))
  obtain ⟨V2, hV⟩ : ∃ V, V = w3.setCell ⟨w.heap.size + 1, 0, none⟩ (.slice a3 (nlen 4294967296 R) c3) := ⟨_, rfl⟩
  rw [← hV] at S2 S4 I2 I3 FW ⊢
  clear hV q2 z3 q3 S3
  refine (gcd_any _ _ P R _ I2.out I3.out (by omega) (by omega)).mono ?_
  rintro e w4 ⟨a4, c4, rfl, i4, f4⟩
  have S4 := hide (S4.out.fr f4)
  have FW := hide (FW.out.trans f4)
  have I4 := hide i4
  have ng : nlen 4294967296 (Nat.gcd P R) ≤ 1000000000 := by
    by_cases h : P = 0
    · rw [h, Nat.gcd_zero_left]; exact nR
    · exact Nat.le_trans (nlen_mono b32 (Nat.gcd_le_left R (by omega))) nP
  obtain ⟨K, hK⟩ : ∃ K, Nat.gcd P R = K := ⟨_, rfl⟩
  rw [hK] at ng I4 HG ⊢
  clear f4 i4 hK S2 I2 I3
  have q4 := S4.out.1
  have z4 := S4.out.2.1
  have fin : Hid (∀ (a5 : Option Addr) (c5 : Nat) (w5 : World), Fr w4 w5 → IsNat w5 (.agg #[.slice a5 (nlen 4294967296 G) c5]) G → IsNat (w5.setCell ⟨w.heap.size + 1 + 1, 0, none⟩ (.slice a5 (nlen 4294967296 G) c5)) (.agg #[.slice a5 (nlen 4294967296 G) c5]) G ∧ Fr w (w5.setCell ⟨w.heap.size + 1 + 1, 0, none⟩ (.slice a5 (nlen 4294967296 G) c5)) ∧ (w5.setCell ⟨w.heap.size + 1 + 1, 0, none⟩ (.slice a5 (nlen 4294967296 G) c5)).cell? ⟨w.heap.size + 1 + 1, 0, none⟩ = some (.slice a5 (nlen 4294967296 G) c5)) := by
    intro a5 c5 w5 f5 i5
    have T := S4.out.fr f5
    exact ⟨T.nat i5 _, T.set_fr (FW.out.trans f5) _, (T.set _ _ _).1⟩
  rcases Nat.lt_or_ge B A with hm | hm
  · rw [Nat.min_eq_right (by omega)] at HG
    go_wp2_with fail
    refine (upc_any _ K (B : Int) G _ I4.out (by omega) (by omega) (by omega) (by rw [Int.toNat_natCast]; exact HG.out)).mono ?_
    rintro e w5 ⟨a5, c5, rfl, i5, f5⟩
    have q4 := fr_cell f5 q4
    have z4 := (S4.out.fr f5).2.1
    obtain ⟨j1, j2, j3⟩ := fin.out a5 c5 w5 f5 i5
    go_wp2_with fail
    exact bodyPost_ret (results_nat rfl _ _ (w.heap.size + 1 + 1) _ rfl j3) rfl ⟨_, _, rfl, j1, j2⟩
  · rw [Nat.min_eq_left (by omega)] at HG
    go_wp2_with fail
    refine (upc_any _ K (A : Int) G _ I4.out (by omega) (by omega) (by omega) (by rw [Int.toNat_natCast]; exact HG.out)).mono ?_
    rintro e w5 ⟨a5, c5, rfl, i5, f5⟩
    have q4 := fr_cell f5 q4
    have z4 := (S4.out.fr f5).2.1
    obtain ⟨j1, j2, j3⟩ := fin.out a5 c5 w5 f5 i5
    go_wp2_with fail
    exact bodyPost_ret (results_nat rfl _ _ (w.heap.size + 1 + 1) _ rfl j3) rfl ⟨_, _, rfl, j1, j2⟩
end Go.Proofs.YtimglhbllcjpbaaDoor
