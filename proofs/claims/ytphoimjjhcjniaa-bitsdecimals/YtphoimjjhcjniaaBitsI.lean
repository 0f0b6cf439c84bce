/- The law BitsOrder. -/
import Derived.Test.YtphoimjjhcjniaaBitsH
namespace Go.Proofs.Ytphoimjjhcjniaa
set_option linter.unusedVariables false
set_option linter.unusedSimpArgs false
open Go.RowKit

theorem mulc_any (va vb : Value) (x y P : Nat) (w : World) (ha : IsNat w va x) (hb : IsNat w vb y) (hx : nlen 4294967296 x ≤ 1000000) (hy : nlen 4294967296 y ≤ 1000000) (e : x * y = P) :
    Calls Try.prog 20 #[va, vb] w fun e w' => ∃ a c, e = .returned (.agg #[.slice a (nlen 4294967296 P) c]) ∧ IsNat w' (.agg #[.slice a (nlen 4294967296 P) c]) P ∧ Fr w w' := by
  subst e
  refine (mul_any va vb x y w ha hb (by omega) (by omega)).mono ?_
  rintro e w' ⟨a, c, rfl, h1, h2, h3⟩
  exact ⟨a, c, rfl, h1, h3⟩
theorem and_low (b : Nat) (hb : b < 18446744073709551616) : bits .and .u64 (b : Int) 9223372036854775807 = ((b % 9223372036854775808 : Nat) : Int) := by
  go_bits2
theorem some_pow (n : Nat) : ∃ P, 2 ^ n = P ∧ 0 < P := ⟨_, rfl, Nat.pow_pos (by omega)⟩
theorem order_cmp {a b : Nat} (ha : a < 9218868437227405312) (hb : b < 9218868437227405312) : cmpZ (vNum a * vDen b) (vNum b * vDen a) = cmpZ a b := by
  have ea := v_bV ha
  have eb := v_bV hb
  have pa := vDen_pos a
  have pb := vDen_pos b
  have l1 : a < b → bV a < bV b := bV_lt
  have l2 : b < a → bV b < bV a := bV_lt
  have l3 : a = b → bV a = bV b := fun h => by rw [h]
  generalize vNum a = x at *
  generalize vNum b = y at *
  generalize vDen a = p at *
  generalize vDen b = q at *
  generalize bV a = A at *
  generalize bV b = B at *
  obtain ⟨P, hP, P0⟩ := some_pow 1074
  rw [hP] at ea eb
  clear hP
  have m1 : x * q * P = A * (p * q) := by rw [Nat.mul_right_comm, ea, Nat.mul_assoc]
  have m2 : y * p * P = B * (p * q) := by rw [Nat.mul_right_comm, eb, Nat.mul_assoc, Nat.mul_comm q p]
  have pq : 0 < p * q := Nat.mul_pos pa pb
  unfold cmpZ
  rcases Nat.lt_trichotomy a b with h | h | h
  · have g : x * q < y * p := by
      have := Nat.mul_lt_mul_of_pos_right (l1 h) pq
      rw [← m1, ← m2] at this
      exact Nat.lt_of_mul_lt_mul_right this
    rw [if_pos g, if_pos h]
  · have e : x * q * P = y * p * P := by rw [m1, m2, l3 h]
    have e := Nat.eq_of_mul_eq_mul_right P0 e
    rw [if_neg (by omega), if_pos e, if_neg (by omega), if_pos h]
  · have g : y * p < x * q := by
      have := Nat.mul_lt_mul_of_pos_right (l2 h) pq
      rw [← m1, ← m2] at this
      exact Nat.lt_of_mul_lt_mul_right this
    rw [if_neg (by omega), if_neg (by omega), if_neg (by omega), if_neg (by omega)]

set_option maxHeartbeats 4000000 in
set_option maxRecDepth 4000 in
theorem law_BitsOrder (a b : Int) (w : World) (ha : (Lit.int .u64 a).wf = true) (hb : (Lit.int .u64 b).wf = true) :
    Calls Try.prog 8 #[.int .u64 a, .int .u64 b] w fun e w' => e = .returned (.bool true) ∧ Fr w w' := by
  obtain ⟨n, rfl, hn⟩ := u64_nat ha
  obtain ⟨m, rfl, hm⟩ := u64_nat hb
  clear ha hb
  have k1 := and_low n hn
  have k2 := and_low m hm
  obtain ⟨A, hA⟩ : ∃ A, n % 9223372036854775808 % 9218868437227405312 = A := ⟨_, rfl⟩
  obtain ⟨B, hB⟩ : ∃ B, m % 9223372036854775808 % 9218868437227405312 = B := ⟨_, rfl⟩
  obtain ⟨n', hn'⟩ : ∃ A, n % 9223372036854775808 = A := ⟨_, rfl⟩
  obtain ⟨m', hm'⟩ : ∃ A, m % 9223372036854775808 = A := ⟨_, rfl⟩
  rw [hn'] at k1 hA
  rw [hm'] at k2 hB
  have lA : A < 9218868437227405312 := by omega
  have lB : B < 9218868437227405312 := by omega
  have j1 : Hid ((n' : Int) % 9218868437227405312 = (A : Int)) := by refine hide ?_; omega
  have j2 : Hid ((m' : Int) % 9218868437227405312 = (B : Int)) := by refine hide ?_; omega
  have HO1 := hide (fun w => ofLaw_any7 A w (by omega))
  have HO2 := hide (fun w => ofLaw_any7 B w (by omega))
  have HC := hide (order_cmp lA lB)
  have nx := vNum_nl A
  have ny := vNum_nl B
  have np := vDen_nl A
  have nq := vDen_nl B
  generalize vNum A = x at *
  generalize vNum B = y at *
  generalize vDen A = p at *
  generalize vDen B = q at *
  have n1 : nlen 4294967296 (x * q) ≤ 68 := nlen_mul b32 nx nq
  have n2 : nlen 4294967296 (y * p) ≤ 68 := nlen_mul b32 ny np
  obtain ⟨P1, h1⟩ : ∃ P, x * q = P := ⟨_, rfl⟩
  obtain ⟨P2, h2⟩ : ∃ P, y * p = P := ⟨_, rfl⟩
  rw [h1] at n1 HC
  rw [h2] at n2 HC
  have H1 := hide h1
  have H2 := hide h2
  clear hn hm hA hB hn' hm' h1 h2
  go_enter Try.func8, Try.ntmps8
  go_upto_region 3 with fail
  rw [j1.out, j2.out]
  have LA := hide lA
  have LB := hide lB
  clear j1 j2 k1 k2 lA lB
  go_wp2_with fail
  refine (HO1.out _).mono ?_
  rintro e w1 ⟨ax, cx, ap, cp, rfl, hx, hp, f1⟩
  go_wp2_with fail
  obtain ⟨W, hW⟩ : ∃ W, W = (w1.alloc (Obj.cells #[Value.slice ax (nlen 4294967296 x) cx] 42)).alloc (Obj.cells #[Value.slice ap (nlen 4294967296 p) cp] 42) := ⟨_, rfl⟩
  have fW : Fr w1 W := by rw [hW]; exact (Fr.alloc _ _).trans (Fr.alloc _ _)
  have c5 : W.cell? ⟨w1.heap.size, 0, none⟩ = some (.slice ax (nlen 4294967296 x) cx) := by rw [hW]; simp [go_sem]
  have c6 : W.cell? ⟨w1.heap.size + 1, 0, none⟩ = some (.slice ap (nlen 4294967296 p) cp) := by rw [hW]; simp [go_sem]
  rw [← hW]
  clear hW
  refine (HO2.out _).mono ?_
  rintro e w2 ⟨ay, cy, aq, cq, rfl, hy, hq, f2⟩
  have c5 := fr_cell f2 c5
  have c6 := fr_cell f2 c6
  have F := hide ((f1.trans fW).trans f2)
  have hx := (hx.fr fW).fr f2
  have hp := (hp.fr fW).fr f2
  clear f1 fW f2 HO1 HO2
  go_wp2_with fail
  obtain ⟨W, hW⟩ : ∃ W, W = (w2.alloc (Obj.cells #[Value.slice ay (nlen 4294967296 y) cy] 42)).alloc (Obj.cells #[Value.slice aq (nlen 4294967296 q) cq] 42) := ⟨_, rfl⟩
  have fW : Fr w2 W := by rw [hW]; exact (Fr.alloc _ _).trans (Fr.alloc _ _)
  have c7 : W.cell? ⟨w2.heap.size, 0, none⟩ = some (.slice ay (nlen 4294967296 y) cy) := by rw [hW]; simp [go_sem]
  have c8 : W.cell? ⟨w2.heap.size + 1, 0, none⟩ = some (.slice aq (nlen 4294967296 q) cq) := by rw [hW]; simp [go_sem]
  have c5 := fr_cell fW c5
  have c6 := fr_cell fW c6
  rw [← hW]
  clear hW
  have FW := hide (F.out.trans fW)
  have HX := hide (hx.fr fW)
  have HP := hide (hp.fr fW)
  have HY := hide (hy.fr fW)
  have HQ := hide (hq.fr fW)
  clear hx hp hy hq fW F
  refine wp_region_held_drew (S := (fun w' => w'.cell? ⟨w1.heap.size, 0, none⟩ = some (.slice ax (nlen 4294967296 x) cx) ∧ w'.cell? ⟨w1.heap.size + 1, 0, none⟩ = some (.slice ap (nlen 4294967296 p) cp) ∧ w'.cell? ⟨w2.heap.size, 0, none⟩ = some (.slice ay (nlen 4294967296 y) cy) ∧ w'.cell? ⟨w2.heap.size + 1, 0, none⟩ = some (.slice aq (nlen 4294967296 q) cq) ∧ Hid (Fr W w'))) (by kernel_rfl) ?_ (fun hHeld => ?_)
  · exact ⟨c5, c6, c7, c8, Fr.drew _⟩
  refine wpAnyH_take (i := 0) (v := ?_) rfl (by kernel_rfl) (by kernel_rfl) (by kernel_rfl) (fun _ _ _ h => h) (Or.inl ⟨by rfl, ?_⟩) (by assumption) ?_
  rotate_left
  · (intro w hSw; (try dsimp only at hSw); go_simp; try with_reducible rfl)
  (try simp only [Act.put, List.getElem_toArray, List.getElem_cons_zero, List.getElem_cons_succ, List.setIfInBounds_toArray, List.set_cons_zero, List.set_cons_succ])
  refine wpAnyH_take (i := 1) (v := ?_) rfl (by kernel_rfl) (by kernel_rfl) (by kernel_rfl) (fun _ _ _ h => h) (Or.inl ⟨by rfl, ?_⟩) (by assumption) ?_
  rotate_left
  · (intro w hSw; (try dsimp only at hSw); go_simp; try with_reducible rfl)
  (try simp only [Act.put, List.getElem_toArray, List.getElem_cons_zero, List.getElem_cons_succ, List.setIfInBounds_toArray, List.set_cons_zero, List.set_cons_succ])
  refine wpAnyH_take (i := 3) (v := ?_) rfl (by kernel_rfl) (by kernel_rfl) (by kernel_rfl) (fun _ _ _ h => h) (Or.inl ⟨by rfl, ?_⟩) (by assumption) ?_
  rotate_left
  · (intro w hSw; (try dsimp only at hSw); go_simp; try with_reducible rfl)
  (try simp only [Act.put, List.getElem_toArray, List.getElem_cons_zero, List.getElem_cons_succ, List.setIfInBounds_toArray, List.set_cons_zero, List.set_cons_succ])
  refine wpAnyH_take (i := 4) (v := ?_) rfl (by kernel_rfl) (by kernel_rfl) (by kernel_rfl) (fun _ _ _ h => h) (Or.inl ⟨by rfl, ?_⟩) (by assumption) ?_
  rotate_left
  · (intro w hSw; (try dsimp only at hSw); go_simp; try with_reducible rfl)
  (try simp only [Act.put, List.getElem_toArray, List.getElem_cons_zero, List.getElem_cons_succ, List.setIfInBounds_toArray, List.set_cons_zero, List.set_cons_succ])
  refine wpAnyH_ready (rs := [2]) (by kernel_rfl) (by simp) ?_
  refine AllReadyH.cons rfl (fun K hK => ?_) AllReadyH.nil
  go_simp
  have hh := hHeld
  refine (mulc_any _ _ x q P1 _ (HX.out.fr hh.2.2.2.2.out) (HQ.out.fr hh.2.2.2.2.out) (by omega) (by omega) H1.out).mono ?_
  rintro e wn ⟨a1, c1, rfl, i1, fy⟩
  have fz := hide (hh.2.2.2.2.out.trans fy)
  have I1 := hide i1; clear i1 fy
  clear hh
  (try go_wp2_with fail)
  refine hK.out _ _ ?_ (fun hHeld => ?_)
  · (try dsimp only)
    exact ⟨fr_cell fz.out c5, fr_cell fz.out c6, fr_cell fz.out c7, fr_cell fz.out c8, fz⟩
  clear hK K
  (try simp only [Act.put, List.getElem_toArray, List.getElem_cons_zero, List.getElem_cons_succ, List.setIfInBounds_toArray, List.set_cons_zero, List.set_cons_succ])
  refine wpAnyH_ready (rs := [5]) (by kernel_rfl) (by simp) ?_
  refine AllReadyH.cons rfl (fun K hK => ?_) AllReadyH.nil
  go_simp
  have hh := hHeld
  refine (mulc_any _ _ y p P2 _ (HY.out.fr hh.2.2.2.2.out) (HP.out.fr hh.2.2.2.2.out) (by omega) (by omega) H2.out).mono ?_
  rintro e wn ⟨a2, c2, rfl, i2, fy⟩
  have fz := hide (hh.2.2.2.2.out.trans fy)
  have I2 := hide i2; have I1 := hide (I1.out.fr fy); clear i2 fy
  clear hh
  (try go_wp2_with fail)
  refine hK.out _ _ ?_ (fun hHeld => ?_)
  · (try dsimp only)
    exact ⟨fr_cell fz.out c5, fr_cell fz.out c6, fr_cell fz.out c7, fr_cell fz.out c8, fz⟩
  clear hK K
  (try simp only [Act.put, List.getElem_toArray, List.getElem_cons_zero, List.getElem_cons_succ, List.setIfInBounds_toArray, List.set_cons_zero, List.set_cons_succ])
  refine wpAnyH_ready (rs := [6]) (by kernel_rfl) (by simp) ?_
  refine AllReadyH.cons rfl (fun K hK => ?_) AllReadyH.nil
  go_simp
  have hh := hHeld
  refine (cmp_any _ _ P1 P2 _ I1.out I2.out (by omega) (by omega)).mono ?_
  rintro e wn ⟨rfl, fy⟩
  have fz := hide (hh.2.2.2.2.out.trans fy)
  clear fy I1 I2
  clear hh
  (try go_wp2_with fail)
  refine hK.out _ _ ?_ (fun hHeld => ?_)
  · (try dsimp only)
    exact ⟨fr_cell fz.out c5, fr_cell fz.out c6, fr_cell fz.out c7, fr_cell fz.out c8, fz⟩
  clear hK K
  (try simp only [Act.put, List.getElem_toArray, List.getElem_cons_zero, List.getElem_cons_succ, List.setIfInBounds_toArray, List.set_cons_zero, List.set_cons_succ])
  refine wpAnyH_take (i := 7) (v := ?_) rfl (by kernel_rfl) (by kernel_rfl) (by kernel_rfl) (fun _ _ _ h => h) (Or.inl ⟨by rfl, ?_⟩) (by assumption) ?_
  rotate_left
  · (intro w hSw; (try dsimp only at hSw); go_simp; try with_reducible rfl)
  (try simp only [Act.put, List.getElem_toArray, List.getElem_cons_zero, List.getElem_cons_succ, List.setIfInBounds_toArray, List.set_cons_zero, List.set_cons_succ])
  refine wpAnyH_done (by kernel_rfl) ?_ _
  have FF := hide (FW.out.trans fz.out)
  rw [HC.out]
  go_wp2_with fail
  refine (wakes_any _).mono ?_
  rintro e w4 ⟨rfl, f4⟩
  have FF := hide (FF.out.trans f4)
  clear f4
  unfold cmpZ
  rcases Nat.lt_trichotomy A B with h | h | h
  · rw [if_pos h]
    have hAB : ((A : Int) == (B : Int)) = false := by simp only [beq_eq_false_iff_ne]; omega
    go_wp2_with fail
    go_ret
    exact ⟨rfl, FF.out⟩
  · subst h
    rw [if_neg (by omega), if_pos rfl]
    go_wp2_with fail
    go_ret
    exact ⟨rfl, FF.out⟩
  · rw [if_neg (by omega), if_neg (by omega)]
    have hlt : decide (A < B) = false := decide_eq_false (by omega)
    have hAB : ((A : Int) == (B : Int)) = false := by simp only [beq_eq_false_iff_ne]; omega
    go_wp2_with fail
    go_ret
    exact ⟨rfl, FF.out⟩
end Go.Proofs.Ytphoimjjhcjniaa
