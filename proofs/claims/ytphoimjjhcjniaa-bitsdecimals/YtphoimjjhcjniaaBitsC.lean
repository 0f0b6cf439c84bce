/- The bits nearest to a quotient: topBit, wholeNear, Nearest. -/
import Derived.Test.YtphoimjjhcjniaaBitsB
import Derived.Test.YtphoimjjhcjniaaQuotD
import Derived.Test.YtphoimjjhcjniaaNatU
import Derived.Deep.RegionHeld3
namespace Go.Proofs.Ytphoimjjhcjniaa
set_option linter.unusedVariables false
set_option linter.unusedSimpArgs false
open Go.RowKit

theorem upc_any (v : Value) (x : Nat) (k : Int) (P : Nat) (w : World) (h : IsNat w v x) (hn : nlen 4294967296 x ≤ 100000000000) (k0 : -9223372036854775808 ≤ k) (k1 : k ≤ 100000000000) (e : x * 2 ^ k.toNat = P) :
    Calls Try.prog 28 #[v, .int .i64 k] w fun e w' => ∃ a c, e = .returned (.agg #[.slice a (nlen 4294967296 P) c]) ∧ IsNat w' (.agg #[.slice a (nlen 4294967296 P) c]) P ∧ Fr w w' := by
  subst e
  exact up_any v x k w h hn k0 k1
theorem addc_any (va vb : Value) (x y P : Nat) (w : World) (ha : IsNat w va x) (hb : IsNat w vb y) (hx : nlen 4294967296 x ≤ 100000000000) (hy : nlen 4294967296 y ≤ 100000000000) (e : x + y = P) :
    Calls Try.prog 17 #[va, vb] w fun e w' => ∃ a c, e = .returned (.agg #[.slice a (nlen 4294967296 P) c]) ∧ IsNat w' (.agg #[.slice a (nlen 4294967296 P) c]) P ∧ Fr w w' := by
  subst e
  refine (add_any va vb x y w ha hb (by omega) (by omega)).mono ?_
  rintro e w' ⟨a, c, rfl, h1, h2, h3⟩
  exact ⟨a, c, rfl, h1, h3⟩
theorem nl_dbl {r N : Nat} (h : nlen 4294967296 r ≤ N) : nlen 4294967296 (r + r) ≤ N + 1 := nlen_le b32 (sum_lt b32 (lt_of_nlen b32 h) (lt_of_nlen b32 h))
theorem i64_small {n : Int} (h0 : -9223372036854775808 ≤ n) (h1 : n ≤ 9223372036854775807) : IntKind.i64.wrap n = n := by
  simp [IntKind.wrap, IntKind.bits, IntKind.signed]
  omega
theorem nl2 {x n : Nat} (h : nlen 4294967296 x ≤ n) : nlen 2 x ≤ 32 * n := by
  refine nlen_le (by omega) ?_
  rw [Nat.pow_mul]
  exact lt_of_nlen b32 h

set_option maxHeartbeats 2000000 in
set_option maxRecDepth 4000 in
theorem topBit_any (va vb : Value) (x y : Nat) (w : World) (ha : IsNat w va x) (hb : IsNat w vb y) (hx : nlen 4294967296 x ≤ 1000000) (hy : nlen 4294967296 y ≤ 1000000) :
    Calls Try.prog 30 #[va, vb] w fun e w' => e = .returned (.int .i64 (topB x y)) ∧ Fr w w' := by
  have HA := hide ha
  have HB := hide hb
  have lp := nl2 hx
  have lq := nl2 hy
  unfold topB
  obtain ⟨p, hp⟩ : ∃ p, nlen 2 x = p := ⟨_, rfl⟩
  obtain ⟨q, hq⟩ : ∃ q, nlen 2 y = q := ⟨_, rfl⟩
  obtain ⟨k, hk⟩ : ∃ k : Int, (p : Int) - q = k := ⟨_, rfl⟩
  rw [hp] at lp
  rw [hq] at lq
  rw [hp, hq, hk]
  obtain ⟨P1, h1⟩ : ∃ P, x * 2 ^ (-k).toNat = P := ⟨_, rfl⟩
  obtain ⟨P2, h2⟩ : ∃ P, y * 2 ^ k.toNat = P := ⟨_, rfl⟩
  rw [h1, h2]
  obtain ⟨R, hR⟩ : ∃ R, (if P1 < P2 then k - 1 else k) = R := ⟨_, rfl⟩
  rw [hR]
  have HR := hide hR
  clear hR
  have k0 : -32000000 ≤ k := by omega
  have k1 : k ≤ 32000000 := by omega
  have n1 : nlen 4294967296 P1 ≤ 10000000 := by
    have := nl_up (k := (-k).toNat) hx
    rw [h1] at this
    omega
  have n2 : nlen 4294967296 P2 ≤ 10000000 := by
    have := nl_up (k := k.toNat) hy
    rw [h2] at this
    omega
  have H1 := hide h1
  have H2 := hide h2
  have HP := hide hp
  have HQ := hide hq
  have hkw : IntKind.i64.wrap ((p : Int) - q) = k := by rw [hk]; exact i64_small (by omega) (by omega)
  have hkn : IntKind.i64.wrap (-k) = -k := i64_small (by omega) (by omega)
  obtain ⟨a, ca, rfl, a2, a3, a4⟩ := ha
  obtain ⟨b, cb, rfl, b2, b3, b4⟩ := hb
  clear a4 b4 h1 h2 hp hq hk
  go_enter Try.func30, Try.ntmps30
  go_wp2_with fail
  obtain ⟨W, hW⟩ : ∃ W, W = (w.alloc (Obj.cells #[Value.slice a (nlen 4294967296 x) ca] 42)).alloc (Obj.cells #[Value.slice b (nlen 4294967296 y) cb] 42) := ⟨_, rfl⟩
  have fW : Fr w W := by rw [hW]; exact (Fr.alloc _ _).trans (Fr.alloc _ _)
  have c2 : W.cell? ⟨w.heap.size, 0, none⟩ = some (.slice a (nlen 4294967296 x) ca) := by rw [hW]; simp [go_sem]
  have c3 : W.cell? ⟨w.heap.size + 1, 0, none⟩ = some (.slice b (nlen 4294967296 y) cb) := by rw [hW]; simp [go_sem]
  rw [← hW]
  clear hW
  have HA := hide (IsNat.fr HA.out fW)
  have HB := hide (IsNat.fr HB.out fW)
  have FW := hide fW
  clear fW
  have d2 : ∀ p : FrBox W, p.now.cell? ⟨w.heap.size, 0, none⟩ = some (.slice a (nlen 4294967296 x) ca) := fun p => fr_cell p.fr c2
  have d3 : ∀ p : FrBox W, p.now.cell? ⟨w.heap.size + 1, 0, none⟩ = some (.slice b (nlen 4294967296 y) cb) := fun p => fr_cell p.fr c3
  have j1 : Hid (∀ u : FrBox W, Calls Try.prog 29 #[.agg #[.slice a (nlen 4294967296 x) ca]] u.now fun e w'' => e = .returned (.int .i64 (p : Int)) ∧ ∃ p : FrBox W, w'' = p.now) := fun u => Calls.fr_of (by rw [← HP.out]; exact bits_any _ x _ (IsNat.fr HA.out u.fr) (by omega))
  have j2 : Hid (∀ u : FrBox W, Calls Try.prog 29 #[.agg #[.slice b (nlen 4294967296 y) cb]] u.now fun e w'' => e = .returned (.int .i64 (q : Int)) ∧ ∃ p : FrBox W, w'' = p.now) := fun u => Calls.fr_of (by rw [← HQ.out]; exact bits_any _ y _ (IsNat.fr HB.out u.fr) (by omega))
  have nb := FrBox.some W
  refine wp_region_fr (by kernel_rfl) (by kernel_rfl) ?_
  repeat (quiet_step (first | with_reducible exact j1.out _ | with_reducible exact j2.out _))
  refine wpQuiet_nil ?_
  intro wq hq
  obtain ⟨u, hu⟩ := hq
  have fq := u.fr
  rw [← hu] at fq
  have HA := hide (IsNat.fr HA.out fq)
  have HB := hide (IsNat.fr HB.out fq)
  have FW := hide (FW.out.trans fq)
  have c2 := fr_cell fq c2
  have c3 := fr_cell fq c3
  clear hu d2 d3 nb u j1 j2 fq
  go_wp2_with fail
  refine wp_region_held_drew (S := (fun w' => w'.cell? ⟨w.heap.size, 0, none⟩ = some (.slice a (nlen 4294967296 x) ca) ∧ w'.cell? ⟨w.heap.size + 1, 0, none⟩ = some (.slice b (nlen 4294967296 y) cb) ∧ Hid (Fr wq w'))) (by kernel_rfl) ?_ (fun hHeld => ?_)
  · exact ⟨c2, c3, Fr.drew _⟩
  refine wpAnyH_take (i := 0) (v := ?_) rfl (by kernel_rfl) (by kernel_rfl) (by kernel_rfl) (fun _ _ _ h => h) (Or.inl ⟨by rfl, ?_⟩) (by assumption) ?_
  rotate_left
  · (intro w hSw; (try dsimp only at hSw); go_simp; try with_reducible rfl)
  (try simp only [Act.put, List.getElem_toArray, List.getElem_cons_zero, List.getElem_cons_succ, List.setIfInBounds_toArray, List.set_cons_zero, List.set_cons_succ])
  refine wpAnyH_take (i := 1) (v := ?_) rfl (by kernel_rfl) (by kernel_rfl) (by kernel_rfl) (fun _ _ _ h => h) (Or.inl ⟨by rfl, ?_⟩) (by assumption) ?_
  rotate_left
  · (intro w hSw; (try dsimp only at hSw); go_simp; try with_reducible rfl)
  (try simp only [Act.put, List.getElem_toArray, List.getElem_cons_zero, List.getElem_cons_succ, List.setIfInBounds_toArray, List.set_cons_zero, List.set_cons_succ])
  refine wpAnyH_take (i := 2) (v := ?_) rfl (by kernel_rfl) (by kernel_rfl) (by kernel_rfl) (fun _ _ _ h => h) (Or.inl ⟨by rfl, ?_⟩) (by assumption) ?_
  rotate_left
  · (intro w hSw; (try dsimp only at hSw); go_simp; try with_reducible rfl)
  (try simp only [Act.put, List.getElem_toArray, List.getElem_cons_zero, List.getElem_cons_succ, List.setIfInBounds_toArray, List.set_cons_zero, List.set_cons_succ])
  refine wpAnyH_take (i := 4) (v := ?_) rfl (by kernel_rfl) (by kernel_rfl) (by kernel_rfl) (fun _ _ _ h => h) (Or.inl ⟨by rfl, ?_⟩) (by assumption) ?_
  rotate_left
  · (intro w hSw; (try dsimp only at hSw); go_simp; try with_reducible rfl)
  (try simp only [Act.put, List.getElem_toArray, List.getElem_cons_zero, List.getElem_cons_succ, List.setIfInBounds_toArray, List.set_cons_zero, List.set_cons_succ])
  refine wpAnyH_take (i := 5) (v := ?_) rfl (by kernel_rfl) (by kernel_rfl) (by kernel_rfl) (fun _ _ _ h => h) (Or.inl ⟨by rfl, ?_⟩) (by assumption) ?_
  rotate_left
  · (intro w hSw; (try dsimp only at hSw); go_simp; try with_reducible rfl)
  (try simp only [Act.put, List.getElem_toArray, List.getElem_cons_zero, List.getElem_cons_succ, List.setIfInBounds_toArray, List.set_cons_zero, List.set_cons_succ])
  refine wpAnyH_ready (rs := [3]) (by kernel_rfl) (by simp) ?_
  refine AllReadyH.cons rfl (fun K hK => ?_) AllReadyH.nil
  go_simp
  have hh := hHeld
  refine (upc_any _ x _ P1 _ (IsNat.fr HA.out hh.2.2.out) (by omega) (by omega) (by omega) H1.out).mono ?_
  rintro e wn ⟨a1, c1, rfl, i1, fy⟩
  have fz := hide (hh.2.2.out.trans fy)
  have I1 := hide i1; clear i1 fy
  clear hh
  (try go_wp2_with fail)
  refine hK.out _ _ ?_ (fun hHeld => ?_)
  · (try dsimp only)
    exact ⟨fr_cell fz.out c2, fr_cell fz.out c3, fz⟩
  clear hK K
  (try simp only [Act.put, List.getElem_toArray, List.getElem_cons_zero, List.getElem_cons_succ, List.setIfInBounds_toArray, List.set_cons_zero, List.set_cons_succ])
  refine wpAnyH_ready (rs := [6]) (by kernel_rfl) (by simp) ?_
  refine AllReadyH.cons rfl (fun K hK => ?_) AllReadyH.nil
  go_simp
  have hh := hHeld
  refine (upc_any _ y _ P2 _ (IsNat.fr HB.out hh.2.2.out) (by omega) (by omega) (by omega) H2.out).mono ?_
  rintro e wn ⟨a5, c5, rfl, i2, fy⟩
  have fz := hide (hh.2.2.out.trans fy)
  have I2 := hide i2; have I1 := hide (I1.out.fr fy); clear i2 fy
  clear hh
  (try go_wp2_with fail)
  refine hK.out _ _ ?_ (fun hHeld => ?_)
  · (try dsimp only)
    exact ⟨fr_cell fz.out c2, fr_cell fz.out c3, fz⟩
  clear hK K
  (try simp only [Act.put, List.getElem_toArray, List.getElem_cons_zero, List.getElem_cons_succ, List.setIfInBounds_toArray, List.set_cons_zero, List.set_cons_succ])
  refine wpAnyH_ready (rs := [7]) (by kernel_rfl) (by simp) ?_
  refine AllReadyH.cons rfl (fun K hK => ?_) AllReadyH.nil
  go_simp
  have hh := hHeld
  refine (cmp_any _ _ P1 P2 _ I1.out I2.out (by omega) (by omega)).mono ?_
  rintro e wn ⟨rfl, fy⟩
  have fz := hide (hh.2.2.out.trans fy)
  clear fy I1 I2
  clear hh
  (try go_wp2_with fail)
  refine hK.out _ _ ?_ (fun hHeld => ?_)
  · (try dsimp only)
    exact ⟨fr_cell fz.out c2, fr_cell fz.out c3, fz⟩
  clear hK K
  (try simp only [Act.put, List.getElem_toArray, List.getElem_cons_zero, List.getElem_cons_succ, List.setIfInBounds_toArray, List.set_cons_zero, List.set_cons_succ])
  refine wpAnyH_take (i := 8) (v := ?_) rfl (by kernel_rfl) (by kernel_rfl) (by kernel_rfl) (fun _ _ _ h => h) (Or.inl ⟨by rfl, ?_⟩) (by assumption) ?_
  rotate_left
  · (intro w hSw; (try dsimp only at hSw); go_simp; try with_reducible rfl)
  (try simp only [Act.put, List.getElem_toArray, List.getElem_cons_zero, List.getElem_cons_succ, List.setIfInBounds_toArray, List.set_cons_zero, List.set_cons_succ])
  refine wpAnyH_done (by kernel_rfl) ?_ _
  have FF := hide (FW.out.trans fz.out)
  by_cases c : P1 < P2
  · have g : decide (cmpZ P1 P2 < 0) = true := by unfold cmpZ; rw [if_pos c]; rfl
    rw [g]
    have E : Hid (k - 1 = R) := by have := HR.out; rwa [if_pos c] at this
    generalize cmpZ P1 P2 = Z at *
    clear g c
    go_wp2_with fail
    go_ret
    exact ⟨by rw [← E.out]; rfl, FF.out⟩
  · have g : decide (cmpZ P1 P2 < 0) = false := by unfold cmpZ; rw [if_neg c]; split <;> rfl
    rw [g]
    have E : Hid (k = R) := by have := HR.out; rwa [if_neg c] at this
    generalize cmpZ P1 P2 = Z at *
    clear g c
    go_wp2_with fail
    go_ret
    exact ⟨by rw [← E.out]; rfl, FF.out⟩

set_option maxHeartbeats 2000000 in
set_option maxRecDepth 4000 in
theorem wholeNear_any (va vb : Value) (x y : Nat) (w : World) (ha : IsNat w va x) (hb : IsNat w vb y) (hx : nlen 4294967296 x ≤ 10000000) (hy : nlen 4294967296 y ≤ 10000000) (hy0 : y ≠ 0) (hq : x / y < 9223372036854775808) :
    Calls Try.prog 31 #[va, vb] w fun e w' => e = .returned (.int .u64 (wholeN x y : Int)) ∧ Fr w w' := by
  have HA := hide ha
  have HB := hide hb
  unfold wholeN
  obtain ⟨q, hq1⟩ : ∃ q, x / y = q := ⟨_, rfl⟩
  obtain ⟨r, hr1⟩ : ∃ r, x % y = r := ⟨_, rfl⟩
  have lr : r < y := by rw [← hr1]; exact Nat.mod_lt _ (by omega)
  have nr : nlen 4294967296 r ≤ 10000000 := Nat.le_trans (nlen_mono b32 (Nat.le_of_lt lr)) hy
  rw [hq1] at hq
  rw [hq1, hr1]
  obtain ⟨n, hn⟩ : ∃ n, (if 2 * r < y then q else if 2 * r = y then q + q % 2 else q + 1) = n := ⟨_, rfl⟩
  rw [hn]
  have HN := hide hn
  have HQ := hide hq1
  have HR := hide hr1
  have n2 : nlen 4294967296 (r + r) ≤ 10000001 := nl_dbl nr
  obtain ⟨R, hR⟩ : ∃ R, r + r = R := ⟨_, rfl⟩
  rw [hR] at n2
  have HRR := hide hR
  obtain ⟨b, cb, rfl, b2, b3, b4⟩ := hb
  obtain ⟨a, ca, rfl, a2, a3, a4⟩ := ha
  have LR := hide lr
  clear a4 b4 hq1 hr1 hR hn lr
  go_enter Try.func31, Try.ntmps31
  go_wp2_with fail
  obtain ⟨W, hW⟩ : ∃ W, W = (w.alloc (Obj.cells #[Value.slice a (nlen 4294967296 x) ca] 42)).alloc (Obj.cells #[Value.slice b (nlen 4294967296 y) cb] 42) := ⟨_, rfl⟩
  have fW : Fr w W := by rw [hW]; exact (Fr.alloc _ _).trans (Fr.alloc _ _)
  have c3 : W.cell? ⟨w.heap.size + 1, 0, none⟩ = some (.slice b (nlen 4294967296 y) cb) := by rw [hW]; simp [go_sem]
  rw [← hW]
  clear hW
  refine (div_yes _ _ x y _ (IsNat.fr HA.out fW) (IsNat.fr HB.out fW) (by omega) (by omega) hy0).mono ?_
  rintro e w1 ⟨aq, cq, ar, cr, rfl, ⟨hq', _, f1⟩, ⟨hr', _, _⟩⟩
  rw [HQ.out] at hq' ⊢
  rw [HR.out] at hr' ⊢
  have F := fW.trans f1
  have c3 := fr_cell f1 c3
  clear fW f1 HA HQ HR
  go_wp2_with fail
  obtain ⟨W, hW⟩ : ∃ W, W = (w1.alloc (Obj.cells #[Value.slice aq (nlen 4294967296 q) cq] 42)).alloc (Obj.cells #[Value.slice ar (nlen 4294967296 r) cr] 42) := ⟨_, rfl⟩
  have fW : Fr w1 W := by rw [hW]; exact (Fr.alloc _ _).trans (Fr.alloc _ _)
  have c2 : W.cell? ⟨w1.heap.size + 1, 0, none⟩ = some (.slice ar (nlen 4294967296 r) cr) := by rw [hW]; simp [go_sem]
  rw [← hW]
  clear hW
  have F := F.trans fW
  have c3 := fr_cell fW c3
  have hr' := hr'.fr fW
  refine (small_any _ q _ (hq'.fr fW)).mono ?_
  rintro e w2 ⟨rfl, f2⟩
  rw [if_pos (by omega), decide_eq_true (by omega)]
  have FW := hide (F.trans f2)
  have HB := hide (IsNat.fr HB.out FW.out)
  have HR := hide (hr'.fr f2)
  have c3 := fr_cell f2 c3
  have c2 := fr_cell f2 c2
  clear hq' hr' F fW f2
  go_wp2_with fail
  refine wp_region_held_drew (S := (fun w' => w'.cell? ⟨w1.heap.size + 1, 0, none⟩ = some (.slice ar (nlen 4294967296 r) cr) ∧ w'.cell? ⟨w.heap.size + 1, 0, none⟩ = some (.slice b (nlen 4294967296 y) cb) ∧ Hid (Fr w2 w'))) (by kernel_rfl) ?_ (fun hHeld => ?_)
  · exact ⟨c2, c3, Fr.drew _⟩
  refine wpAnyH_take (i := 0) (v := ?_) rfl (by kernel_rfl) (by kernel_rfl) (by kernel_rfl) (fun _ _ _ h => h) (Or.inl ⟨by rfl, ?_⟩) (by assumption) ?_
  rotate_left
  · (intro w hSw; (try dsimp only at hSw); go_simp; try with_reducible rfl)
  (try simp only [Act.put, List.getElem_toArray, List.getElem_cons_zero, List.getElem_cons_succ, List.setIfInBounds_toArray, List.set_cons_zero, List.set_cons_succ])
  refine wpAnyH_take (i := 1) (v := ?_) rfl (by kernel_rfl) (by kernel_rfl) (by kernel_rfl) (fun _ _ _ h => h) (Or.inl ⟨by rfl, ?_⟩) (by assumption) ?_
  rotate_left
  · (intro w hSw; (try dsimp only at hSw); go_simp; try with_reducible rfl)
  (try simp only [Act.put, List.getElem_toArray, List.getElem_cons_zero, List.getElem_cons_succ, List.setIfInBounds_toArray, List.set_cons_zero, List.set_cons_succ])
  refine wpAnyH_take (i := 3) (v := ?_) rfl (by kernel_rfl) (by kernel_rfl) (by kernel_rfl) (fun _ _ _ h => h) (Or.inl ⟨by rfl, ?_⟩) (by assumption) ?_
  rotate_left
  · (intro w hSw; (try dsimp only at hSw); go_simp; try with_reducible rfl)
  (try simp only [Act.put, List.getElem_toArray, List.getElem_cons_zero, List.getElem_cons_succ, List.setIfInBounds_toArray, List.set_cons_zero, List.set_cons_succ])
  refine wpAnyH_ready (rs := [2]) (by kernel_rfl) (by simp) ?_
  refine AllReadyH.cons rfl (fun K hK => ?_) AllReadyH.nil
  go_simp
  have hh := hHeld
  refine (addc_any _ _ r r R _ (IsNat.fr HR.out hh.2.2.out) (IsNat.fr HR.out hh.2.2.out) (by omega) (by omega) HRR.out).mono ?_
  rintro e wn ⟨a1, c1, rfl, i1, fy⟩
  have fz := hide (hh.2.2.out.trans fy)
  have I1 := hide i1; clear i1 fy
  clear hh
  (try go_wp2_with fail)
  refine hK.out _ _ ?_ (fun hHeld => ?_)
  · (try dsimp only)
    exact ⟨fr_cell fz.out c2, fr_cell fz.out c3, fz⟩
  clear hK K
  (try simp only [Act.put, List.getElem_toArray, List.getElem_cons_zero, List.getElem_cons_succ, List.setIfInBounds_toArray, List.set_cons_zero, List.set_cons_succ])
  refine wpAnyH_ready (rs := [4]) (by kernel_rfl) (by simp) ?_
  refine AllReadyH.cons rfl (fun K hK => ?_) AllReadyH.nil
  go_simp
  have hh := hHeld
  refine (cmp_any _ _ R y _ I1.out (IsNat.fr HB.out hh.2.2.out) (by omega) (by omega)).mono ?_
  rintro e wn ⟨rfl, fy⟩
  have fz := hide (hh.2.2.out.trans fy)
  clear fy I1
  clear hh
  (try go_wp2_with fail)
  refine hK.out _ _ ?_ (fun hHeld => ?_)
  · (try dsimp only)
    exact ⟨fr_cell fz.out c2, fr_cell fz.out c3, fz⟩
  clear hK K
  (try simp only [Act.put, List.getElem_toArray, List.getElem_cons_zero, List.getElem_cons_succ, List.setIfInBounds_toArray, List.set_cons_zero, List.set_cons_succ])
  refine wpAnyH_done (by kernel_rfl) ?_ _
  have FF := hide (FW.out.trans fz.out)
  have hn := HN.out
  have hR := HRR.out
  clear HN HRR
  by_cases c1 : 2 * r < y
  · rw [if_pos c1] at hn
    rw [show cmpZ R y = -1 by unfold cmpZ; rw [if_pos (by omega)]]
    clear c1 hR
    have E := hide hn
    clear hn
    go_wp2_with fail
    go_ret
    exact ⟨by rw [← E.out]; rfl, FF.out⟩
  · rw [if_neg c1] at hn
    by_cases c2 : 2 * r = y
    · rw [if_pos c2] at hn
      rw [show cmpZ R y = 0 by unfold cmpZ; rw [if_neg (by omega), if_pos (by omega)]]
      have h1 : bits .and .u64 (q : Int) 1 = ((q % 2 : Nat) : Int) := by go_bits2
      obtain ⟨t, ht⟩ : ∃ t, q % 2 = t := ⟨_, rfl⟩
      have t1 : t ≤ 1 := by omega
      rw [ht] at hn h1
      have E := hide hn
      clear c1 c2 hR hn ht
      go_wp2_with fail
      go_ret
      exact ⟨by rw [← E.out]; rfl, FF.out⟩
    · rw [if_neg c2] at hn
      rw [show cmpZ R y = 1 by unfold cmpZ; rw [if_neg (by omega), if_neg (by omega)]]
      have E := hide hn
      clear c1 c2 hR hn
      go_wp2_with fail
      go_ret
      exact ⟨by rw [← E.out]; rfl, FF.out⟩
end Go.Proofs.Ytphoimjjhcjniaa
