/- The bits nearest to a quotient: Nearest. -/
import Derived.Test.YtammjgieocgelaaGreatDoorPackF
namespace Go.Proofs.YtammjgieocgelaaGreatDoor
set_option linter.unusedVariables false
set_option linter.unusedSimpArgs false
open Go.RowKit

theorem near_fits {x y : Nat} (hx : 0 < x) (hy : 0 < y) : x * 2 ^ (-expN x y).toNat / (y * 2 ^ (expN x y).toNat) < 9007199254740992 := by
  have he : topB x y - 52 ≤ expN x y := by unfold expN; omega
  obtain ⟨N, hN1, hN2⟩ : ∃ N : Nat, 0 ≤ topB x y + N ∧ 0 ≤ expN x y + N := ⟨(topB x y).natAbs + (expN x y).natAbs, by omega, by omega⟩
  have h1 := topB_spec hx hy (topB x y + N).toNat N (by omega)
  obtain ⟨c, c0, hs⟩ := scale (expN x y) (expN x y + N).toNat N (by omega)
  have hs := hs x y
  have hm := pow2_mono (show (topB x y + N).toNat + 1 ≤ (expN x y + N).toNat + 53 by omega) y
  rw [Nat.pow_add _ _ 53, ← Nat.mul_assoc, hs.2] at hm
  have h2 := h1.2
  rw [hs.1] at h2
  generalize x * 2 ^ (-expN x y).toNat = A at *
  generalize y * 2 ^ (expN x y).toNat = D at *
  have h3 : A * c < D * 2 ^ 53 * c := by
    refine Nat.lt_of_lt_of_le h2 (Nat.le_trans hm ?_)
    rw [Nat.mul_assoc, Nat.mul_comm c, ← Nat.mul_assoc]
    exact Nat.le_refl _
  have h4 : A < 2 ^ 53 * D := by rw [Nat.mul_comm]; exact Nat.lt_of_mul_lt_mul_right h3
  exact Nat.div_lt_of_lt_mul (by rw [Nat.mul_comm]; omega)
theorem wholeN_le (a b : Nat) : wholeN a b ≤ a / b + 1 := by
  unfold wholeN
  split
  · omega
  · split <;> omega
theorem join_near {x y : Nat} (hx : 0 < x) (hy : 0 < y) (h : expN x y ≤ 971) : joinN (wholeN (x * 2 ^ (-expN x y).toNat) (y * 2 ^ (expN x y).toNat)) (expN x y) = nearN x y := by
  have h1 := near_fits hx hy
  have h2 := wholeN_le (x * 2 ^ (-expN x y).toNat) (y * 2 ^ (expN x y).toNat)
  have h3 : -1074 ≤ expN x y := by unfold expN; omega
  unfold nearN joinN
  rw [if_neg (by omega), if_neg (by omega)]
  generalize wholeN (x * 2 ^ (-expN x y).toNat) (y * 2 ^ (expN x y).toNat) = m at *
  omega
theorem nl2_zero {x : Nat} (h : x ≠ 0) : ((nlen 2 x : Int) == 0) = false := by
  have := nlen_pos (B := 2) (by omega) h
  simp only [beq_eq_false_iff_ne]
  omega
theorem topB_bd {x y n m : Nat} (hx : nlen 2 x ≤ n) (hy : nlen 2 y ≤ m) : -(m : Int) - 1 ≤ topB x y ∧ topB x y ≤ n := by
  unfold topB
  split <;> omega

set_option maxHeartbeats 1000000 in
set_option maxRecDepth 4000 in
theorem nearest_no (va vb : Value) (x : Nat) (w : World) (ha : IsNat w va x) (hb : IsNat w vb 0) :
    Calls Tryz.prog 35 #[va, vb] w fun e w' => e = .returned (.tuple #[.int .u64 0, .bool false]) ∧ Fr w w' := by
  have HB := hide hb
  obtain ⟨b, cb, rfl, b2, b3, b4⟩ := hb
  obtain ⟨a, ca, rfl, a2, a3, a4⟩ := ha
  clear a4 b4
  go_enter Tryz.func35, Tryz.ntmps35
  go_wp2_with fail
  have fW : Fr w ((w.alloc (Obj.cells #[Value.slice a (nlen 4294967296 x) ca] 53)).alloc (Obj.cells #[Value.slice b (nlen 4294967296 0) cb] 53)) := (Fr.alloc _ _).trans (Fr.alloc _ _)
  refine (bits_any _ 0 _ (IsNat.fr HB.out fW) (by rw [nlen_zero]; omega)).mono ?_
  rintro e w1 ⟨rfl, f1⟩
  rw [nlen_zero 2]
  have F := hide (fW.trans f1)
  clear fW f1
  go_wp2_with fail
  go_ret2
  exact ⟨rfl, F.out⟩

set_option maxHeartbeats 2000000 in
set_option maxRecDepth 4000 in
theorem nearest_any (va vb : Value) (x y N : Nat) (w : World) (ha : IsNat w va x) (hb : IsNat w vb y) (hx : nlen 4294967296 x ≤ 1000000) (hy : nlen 4294967296 y ≤ 1000000) (hy0 : y ≠ 0) (hN : nearN x y = N) :
    Calls Tryz.prog 35 #[va, vb] w fun e w' => e = .returned (.tuple #[.int .u64 (N : Int), .bool true]) ∧ Fr w w' := by
  have HA := hide ha
  have HB := hide hb
  have zy := nl2_zero hy0
  have lp := nl2 hx
  have lq := nl2 hy
  obtain ⟨t0, t1⟩ := topB_bd lp lq
  obtain ⟨b, cb, rfl, b2, b3, b4⟩ := hb
  obtain ⟨a, ca, rfl, a2, a3, a4⟩ := ha
  clear a4 b4
  go_enter Tryz.func35, Tryz.ntmps35
  go_wp2_with fail
  obtain ⟨W, hW⟩ : ∃ W, W = (w.alloc (Obj.cells #[Value.slice a (nlen 4294967296 x) ca] 53)).alloc (Obj.cells #[Value.slice b (nlen 4294967296 y) cb] 53) := ⟨_, rfl⟩
  have fW : Fr w W := by rw [hW]; exact (Fr.alloc _ _).trans (Fr.alloc _ _)
  have c2 : W.cell? ⟨w.heap.size, 0, none⟩ = some (.slice a (nlen 4294967296 x) ca) := by rw [hW]; simp [go_sem]
  have c3 : W.cell? ⟨w.heap.size + 1, 0, none⟩ = some (.slice b (nlen 4294967296 y) cb) := by rw [hW]; simp [go_sem]
  rw [← hW]
  clear hW
  have HA := hide (IsNat.fr HA.out fW)
  have HB := hide (IsNat.fr HB.out fW)
  refine (bits_any _ y _ HB.out (by omega)).mono ?_
  rintro e w1 ⟨rfl, f1⟩
  have HA := hide (IsNat.fr HA.out f1)
  have HB := hide (IsNat.fr HB.out f1)
  have c2 := fr_cell f1 c2
  have c3 := fr_cell f1 c3
  have F := hide (fW.trans f1)
  clear fW f1
  generalize nlen 2 y = q at *
  go_wp2_with fail
  refine (bits_any _ x _ HA.out (by omega)).mono ?_
  rintro e w2 ⟨rfl, f2⟩
  have HA := hide (IsNat.fr HA.out f2)
  have HB := hide (IsNat.fr HB.out f2)
  have c2 := fr_cell f2 c2
  have c3 := fr_cell f2 c3
  have F := hide (F.out.trans f2)
  clear f2
  by_cases x0 : x = 0
  · subst x0
    have hN0 : N = 0 := by rw [← hN]; unfold nearN; rw [if_pos rfl]
    subst hN0
    rw [nlen_zero 2]
    clear hN t0 t1 lp zy
    go_wp2_with fail
    go_ret2
    exact ⟨rfl, F.out⟩
  · have zx := nl2_zero x0
    generalize nlen 2 x = p at *
    clear lp lq
    go_wp2_with fail
    refine (topBit_any _ _ x y _ HA.out HB.out hx hy).mono ?_
    rintro e w3 ⟨rfl, f3⟩
    have HA := hide (IsNat.fr HA.out f3)
    have HB := hide (IsNat.fr HB.out f3)
    have c2 := fr_cell f3 c2
    have c3 := fr_cell f3 c3
    have F := hide (F.out.trans f3)
    clear f3
    have HE : Hid (expN x y = max (topB x y - 52) (-1074)) := hide rfl
    have HJ := hide (fun h => join_near (x := x) (y := y) (by omega) (by omega) h)
    have HF := hide (near_fits (x := x) (y := y) (by omega) (by omega))
    have HI : Hid (971 < expN x y → N = 9218868437227405312) := by
      refine hide (fun h => ?_)
      rw [← hN]
      unfold nearN
      rw [if_neg x0, if_pos h]
    rw [hN] at HJ
    generalize topB x y = T at *
    generalize expN x y = E at *
    clear hN zx zy
    by_cases cE : E ≤ 971
    · have eE : E = max (T - 52) (-1074) := HE.out
      have e0 : -1074 ≤ E := by omega
      have nE : IntKind.i64.wrap (-E) = -E := i64_small (by omega) (by omega)
      obtain ⟨P1, h1⟩ : ∃ P, x * 2 ^ (-E).toNat = P := ⟨_, rfl⟩
      obtain ⟨P2, h2⟩ : ∃ P, y * 2 ^ E.toNat = P := ⟨_, rfl⟩
      have n1 : nlen 4294967296 P1 ≤ 10000000 := by
        have := nl_up (k := (-E).toNat) hx
        rw [h1] at this
        omega
      have n2 : nlen 4294967296 P2 ≤ 10000000 := by
        have := nl_up (k := E.toNat) hy
        rw [h2] at this
        omega
      have p0 : P2 ≠ 0 := by
        rw [← h2]
        have := Nat.mul_pos (Nat.pos_of_ne_zero hy0) (Nat.pow_pos (n := E.toNat) (show 0 < 2 by omega))
        omega
      have J := HJ.out cE
      have q0 := HF.out
      rw [h1, h2] at J q0
      have H1 := hide h1
      have H2 := hide h2
      have HJ := hide J
      have W1 := wholeN_le P1 P2
      have wl : wholeN P1 P2 < 18446744073709551616 := by omega
      have HQ : Hid (P1 / P2 < 9223372036854775808) := by refine hide ?_; omega
      have WL := hide wl
      clear J HI HE HF h1 h2 q0 W1 wl
      by_cases ct : T - 52 < -1074
      · obtain rfl : E = -1074 := by omega
        clear eE
        have hmx : max (T - 52) (-1074) = -1074 := by omega
        have n1074 : (- (-1074) : Int) = 1074 := rfl
        rw [n1074] at H1 nE
        go_wp2_with fail
        refine wp_region_held_drew (S := (fun w' => w'.cell? ⟨w.heap.size, 0, none⟩ = some (.slice a (nlen 4294967296 x) ca) ∧ w'.cell? ⟨w.heap.size + 1, 0, none⟩ = some (.slice b (nlen 4294967296 y) cb) ∧ Hid (Fr w3 w'))) (by kernel_rfl) ?_ (fun hHeld => ?_)
        · exact ⟨c2, c3, Fr.drew _⟩
        refine wpAnyH_take (i := 0) (v := ?_) rfl (by kernel_rfl) (by kernel_rfl) (by kernel_rfl) (fun _ _ _ h => h) (Or.inl ⟨by rfl, ?_⟩) (by assumption) ?_
        rotate_left
        · (intro w hSw; (try dsimp only at hSw); go_simp; try with_reducible rfl)
        (try simp only [Act.put, List.getElem_toArray, List.getElem_cons_zero, List.getElem_cons_succ, List.setIfInBounds_toArray, List.set_cons_zero, List.set_cons_succ])
        refine wpAnyH_take (i := 1) (v := ?_) rfl (by kernel_rfl) (by kernel_rfl) (by kernel_rfl) (fun _ _ _ h => h) (Or.inl ⟨by rfl, ?_⟩) (by assumption) ?_
        rotate_left
        · (intro w hSw; (try dsimp only at hSw); go_simp; try with_reducible rfl)
        (try simp only [Act.put, List.getElem_toArray, List.getElem_cons_zero, List.getElem_cons_succ, List.setIfInBounds_toArray, List.set_cons_zero, List.set_cons_succ])
        refine wpAnyH_take (i := 2) (v := ?_) rfl (by kernel_rfl) (by kernel_rfl) (by kernel_rfl) (fun _ _ _ h => h) (Or.inl ⟨by rfl, ?_⟩) (by assumption) ?_
        rotate_left
        · (intro w hSw; (try dsimp only at hSw); go_simp; try with_reducible rfl)
        (try simp only [Act.put, List.getElem_toArray, List.getElem_cons_zero, List.getElem_cons_succ, List.setIfInBounds_toArray, List.set_cons_zero, List.set_cons_succ])
        refine wpAnyH_take (i := 4) (v := ?_) rfl (by kernel_rfl) (by kernel_rfl) (by kernel_rfl) (fun _ _ _ h => h) (Or.inl ⟨by rfl, ?_⟩) (by assumption) ?_
        rotate_left
        · (intro w hSw; (try dsimp only at hSw); go_simp; try with_reducible rfl)
        (try simp only [Act.put, List.getElem_toArray, List.getElem_cons_zero, List.getElem_cons_succ, List.setIfInBounds_toArray, List.set_cons_zero, List.set_cons_succ])
        refine wpAnyH_take (i := 5) (v := ?_) rfl (by kernel_rfl) (by kernel_rfl) (by kernel_rfl) (fun _ _ _ h => h) (Or.inl ⟨by rfl, ?_⟩) (by assumption) ?_
        rotate_left
        · (intro w hSw; (try dsimp only at hSw); go_simp; try with_reducible rfl)
        (try simp only [Act.put, List.getElem_toArray, List.getElem_cons_zero, List.getElem_cons_succ, List.setIfInBounds_toArray, List.set_cons_zero, List.set_cons_succ])
        refine wpAnyH_ready (rs := [3]) (by kernel_rfl) (by simp) ?_
        refine AllReadyH.cons rfl (fun K hK => ?_) AllReadyH.nil
        go_simp
        have hh := hHeld
        refine (upc_any _ x _ P1 _ (IsNat.fr HA.out hh.2.2.out) (by omega) (by omega) (by omega) H1.out).mono ?_
        rintro e wn ⟨a1, c1, rfl, i1, fy⟩
        have fz := hide (hh.2.2.out.trans fy)
        have I1 := hide i1; clear i1 fy
        clear hh
        (try go_wp2_with fail)
        refine hK.out _ _ ?_ (fun hHeld => ?_)
        · (try dsimp only)
          exact ⟨fr_cell fz.out c2, fr_cell fz.out c3, fz⟩
        clear hK K
        (try simp only [Act.put, List.getElem_toArray, List.getElem_cons_zero, List.getElem_cons_succ, List.setIfInBounds_toArray, List.set_cons_zero, List.set_cons_succ])
        refine wpAnyH_ready (rs := [6]) (by kernel_rfl) (by simp) ?_
        refine AllReadyH.cons rfl (fun K hK => ?_) AllReadyH.nil
        go_simp
        have hh := hHeld
        refine (upc_any _ y _ P2 _ (IsNat.fr HB.out hh.2.2.out) (by omega) (by omega) (by omega) H2.out).mono ?_
        rintro e wn ⟨a5, c5, rfl, i2, fy⟩
        have fz := hide (hh.2.2.out.trans fy)
        have I2 := hide i2; have I1 := hide (I1.out.fr fy); clear i2 fy
        clear hh
        (try go_wp2_with fail)
        refine hK.out _ _ ?_ (fun hHeld => ?_)
        · (try dsimp only)
          exact ⟨fr_cell fz.out c2, fr_cell fz.out c3, fz⟩
        clear hK K
        (try simp only [Act.put, List.getElem_toArray, List.getElem_cons_zero, List.getElem_cons_succ, List.setIfInBounds_toArray, List.set_cons_zero, List.set_cons_succ])
        refine wpAnyH_ready (rs := [7]) (by kernel_rfl) (by simp) ?_
        refine AllReadyH.cons rfl (fun K hK => ?_) AllReadyH.nil
        go_simp
        have hh := hHeld
        refine (wholeNear_any _ _ P1 P2 _ I1.out I2.out (by omega) (by omega) p0 HQ.out).mono ?_
        rintro e wn ⟨rfl, fy⟩
        have fz := hide (hh.2.2.out.trans fy)
        clear fy I1 I2
        clear hh
        (try go_wp2_with fail)
        refine hK.out _ _ ?_ (fun hHeld => ?_)
        · (try dsimp only)
          exact ⟨fr_cell fz.out c2, fr_cell fz.out c3, fz⟩
        clear hK K
        (try simp only [Act.put, List.getElem_toArray, List.getElem_cons_zero, List.getElem_cons_succ, List.setIfInBounds_toArray, List.set_cons_zero, List.set_cons_succ])
        refine wpAnyH_take (i := 8) (v := ?_) rfl (by kernel_rfl) (by kernel_rfl) (by kernel_rfl) (fun _ _ _ h => h) (Or.inl ⟨by rfl, ?_⟩) (by assumption) ?_
        rotate_left
        · (intro w hSw; (try dsimp only at hSw); go_simp; try with_reducible rfl)
        (try simp only [Act.put, List.getElem_toArray, List.getElem_cons_zero, List.getElem_cons_succ, List.setIfInBounds_toArray, List.set_cons_zero, List.set_cons_succ])
        refine wpAnyH_done (by kernel_rfl) ?_ _
        have FF := hide (F.out.trans fz.out)
        generalize wholeN P1 P2 = m at *
        go_wp2_with fail
        refine (joined_any m _ _ WL.out (by omega) (by omega)).mono ?_
        rintro e w5 ⟨rfl, f5⟩
        rw [HJ.out]
        go_wp2_with fail
        go_ret2
        exact ⟨rfl, FF.out.trans f5⟩
      · obtain rfl : T = E + 52 := by omega
        clear eE
        have hmx : max E (-1074) = E := by omega
        have hmx2 : max (E + 52 - 52) (-1074) = E := by omega
        go_wp2_with fail
        refine wp_region_held_drew (S := (fun w' => w'.cell? ⟨w.heap.size, 0, none⟩ = some (.slice a (nlen 4294967296 x) ca) ∧ w'.cell? ⟨w.heap.size + 1, 0, none⟩ = some (.slice b (nlen 4294967296 y) cb) ∧ Hid (Fr w3 w'))) (by kernel_rfl) ?_ (fun hHeld => ?_)
        · exact ⟨c2, c3, Fr.drew _⟩
        refine wpAnyH_take (i := 0) (v := ?_) rfl (by kernel_rfl) (by kernel_rfl) (by kernel_rfl) (fun _ _ _ h => h) (Or.inl ⟨by rfl, ?_⟩) (by assumption) ?_
        rotate_left
        · (intro w hSw; (try dsimp only at hSw); go_simp; try with_reducible rfl)
        (try simp only [Act.put, List.getElem_toArray, List.getElem_cons_zero, List.getElem_cons_succ, List.setIfInBounds_toArray, List.set_cons_zero, List.set_cons_succ])
        refine wpAnyH_take (i := 1) (v := ?_) rfl (by kernel_rfl) (by kernel_rfl) (by kernel_rfl) (fun _ _ _ h => h) (Or.inl ⟨by rfl, ?_⟩) (by assumption) ?_
        rotate_left
        · (intro w hSw; (try dsimp only at hSw); go_simp; try with_reducible rfl)
        (try simp only [Act.put, List.getElem_toArray, List.getElem_cons_zero, List.getElem_cons_succ, List.setIfInBounds_toArray, List.set_cons_zero, List.set_cons_succ])
        refine wpAnyH_take (i := 2) (v := ?_) rfl (by kernel_rfl) (by kernel_rfl) (by kernel_rfl) (fun _ _ _ h => h) (Or.inl ⟨by rfl, ?_⟩) (by assumption) ?_
        rotate_left
        · (intro w hSw; (try dsimp only at hSw); go_simp; try with_reducible rfl)
        (try simp only [Act.put, List.getElem_toArray, List.getElem_cons_zero, List.getElem_cons_succ, List.setIfInBounds_toArray, List.set_cons_zero, List.set_cons_succ])
        refine wpAnyH_take (i := 4) (v := ?_) rfl (by kernel_rfl) (by kernel_rfl) (by kernel_rfl) (fun _ _ _ h => h) (Or.inl ⟨by rfl, ?_⟩) (by assumption) ?_
        rotate_left
        · (intro w hSw; (try dsimp only at hSw); go_simp; try with_reducible rfl)
        (try simp only [Act.put, List.getElem_toArray, List.getElem_cons_zero, List.getElem_cons_succ, List.setIfInBounds_toArray, List.set_cons_zero, List.set_cons_succ])
        refine wpAnyH_take (i := 5) (v := ?_) rfl (by kernel_rfl) (by kernel_rfl) (by kernel_rfl) (fun _ _ _ h => h) (Or.inl ⟨by rfl, ?_⟩) (by assumption) ?_
        rotate_left
        · (intro w hSw; (try dsimp only at hSw); go_simp; try with_reducible rfl)
        (try simp only [Act.put, List.getElem_toArray, List.getElem_cons_zero, List.getElem_cons_succ, List.setIfInBounds_toArray, List.set_cons_zero, List.set_cons_succ])
        refine wpAnyH_ready (rs := [3]) (by kernel_rfl) (by simp) ?_
        refine AllReadyH.cons rfl (fun K hK => ?_) AllReadyH.nil
        go_simp
        have hh := hHeld
        refine (upc_any _ x _ P1 _ (IsNat.fr HA.out hh.2.2.out) (by omega) (by omega) (by omega) H1.out).mono ?_
        rintro e wn ⟨a1, c1, rfl, i1, fy⟩
        have fz := hide (hh.2.2.out.trans fy)
        have I1 := hide i1; clear i1 fy
        clear hh
        (try go_wp2_with fail)
        refine hK.out _ _ ?_ (fun hHeld => ?_)
        · (try dsimp only)
          exact ⟨fr_cell fz.out c2, fr_cell fz.out c3, fz⟩
        clear hK K
        (try simp only [Act.put, List.getElem_toArray, List.getElem_cons_zero, List.getElem_cons_succ, List.setIfInBounds_toArray, List.set_cons_zero, List.set_cons_succ])
        refine wpAnyH_ready (rs := [6]) (by kernel_rfl) (by simp) ?_
        refine AllReadyH.cons rfl (fun K hK => ?_) AllReadyH.nil
        go_simp
        have hh := hHeld
        refine (upc_any _ y _ P2 _ (IsNat.fr HB.out hh.2.2.out) (by omega) (by omega) (by omega) H2.out).mono ?_
        rintro e wn ⟨a5, c5, rfl, i2, fy⟩
        have fz := hide (hh.2.2.out.trans fy)
        have I2 := hide i2; have I1 := hide (I1.out.fr fy); clear i2 fy
        clear hh
        (try go_wp2_with fail)
        refine hK.out _ _ ?_ (fun hHeld => ?_)
        · (try dsimp only)
          exact ⟨fr_cell fz.out c2, fr_cell fz.out c3, fz⟩
        clear hK K
        (try simp only [Act.put, List.getElem_toArray, List.getElem_cons_zero, List.getElem_cons_succ, List.setIfInBounds_toArray, List.set_cons_zero, List.set_cons_succ])
        refine wpAnyH_ready (rs := [7]) (by kernel_rfl) (by simp) ?_
        refine AllReadyH.cons rfl (fun K hK => ?_) AllReadyH.nil
        go_simp
        have hh := hHeld
        refine (wholeNear_any _ _ P1 P2 _ I1.out I2.out (by omega) (by omega) p0 HQ.out).mono ?_
        rintro e wn ⟨rfl, fy⟩
        have fz := hide (hh.2.2.out.trans fy)
        clear fy I1 I2
        clear hh
        (try go_wp2_with fail)
        refine hK.out _ _ ?_ (fun hHeld => ?_)
        · (try dsimp only)
          exact ⟨fr_cell fz.out c2, fr_cell fz.out c3, fz⟩
        clear hK K
        (try simp only [Act.put, List.getElem_toArray, List.getElem_cons_zero, List.getElem_cons_succ, List.setIfInBounds_toArray, List.set_cons_zero, List.set_cons_succ])
        refine wpAnyH_take (i := 8) (v := ?_) rfl (by kernel_rfl) (by kernel_rfl) (by kernel_rfl) (fun _ _ _ h => h) (Or.inl ⟨by rfl, ?_⟩) (by assumption) ?_
        rotate_left
        · (intro w hSw; (try dsimp only at hSw); go_simp; try with_reducible rfl)
        (try simp only [Act.put, List.getElem_toArray, List.getElem_cons_zero, List.getElem_cons_succ, List.setIfInBounds_toArray, List.set_cons_zero, List.set_cons_succ])
        refine wpAnyH_done (by kernel_rfl) ?_ _
        have FF := hide (F.out.trans fz.out)
        generalize wholeN P1 P2 = m at *
        go_wp2_with fail
        refine (joined_any m _ _ WL.out (by omega) (by omega)).mono ?_
        rintro e w5 ⟨rfl, f5⟩
        rw [HJ.out]
        go_wp2_with fail
        go_ret2
        exact ⟨rfl, FF.out.trans f5⟩
    · have hN := HI.out (by omega)
      subst hN
      have eE : E = max (T - 52) (-1074) := HE.out
      have t2 : T > 1023 := by omega
      have hmx : max (T - 52) (-1074) = T - 52 := by omega
      clear HI HJ HF HE eE cE
      go_wp2_with fail
      go_ret2
      exact ⟨rfl, F.out⟩
end Go.Proofs.YtammjgieocgelaaGreatDoor
