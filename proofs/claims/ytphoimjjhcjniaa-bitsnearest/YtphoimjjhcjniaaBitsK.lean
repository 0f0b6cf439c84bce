/- The law BitsNearest. -/
import Derived.Test.YtphoimjjhcjniaaBitsJ
namespace Go.Proofs.Ytphoimjjhcjniaa
set_option linter.unusedVariables false
set_option linter.unusedSimpArgs false
open Go.RowKit

attribute [local go_sem] World.cell?_alloc_some
set_option maxHeartbeats 4000000 in
set_option maxRecDepth 4000 in
theorem law_BitsNearest (b part whole : Int) (w : World) (hb : (Lit.int .u64 b).wf = true) (hp : (Lit.int .u32 part).wf = true) (hwh : (Lit.int .u32 whole).wf = true) :
    Calls Try.prog 5 #[.int .u64 b, .int .u32 part, .int .u32 whole] w fun e w' => e = .returned (.bool true) ∧ Fr w w' := by
  obtain ⟨n, rfl, hn⟩ := u64_nat hb
  obtain ⟨p0, p1⟩ := u32_bd hp
  obtain ⟨q0, q1⟩ := u32_bd hwh
  obtain ⟨pt, rfl⟩ : ∃ k : Nat, part = k := ⟨part.toNat, by omega⟩
  obtain ⟨wh, rfl⟩ : ∃ k : Nat, whole = k := ⟨whole.toNat, by omega⟩
  clear hb hp hwh p0 q0
  have k1 := and_low n hn
  obtain ⟨n', hn'⟩ : ∃ A, n % 9223372036854775808 = A := ⟨_, rfl⟩
  rw [hn'] at k1
  obtain ⟨B, hB⟩ : ∃ A, n' % 9218868437227405311 = A := ⟨_, rfl⟩
  have lB : B < 9218868437227405311 := by omega
  obtain ⟨p, hp⟩ : ∃ p, min pt wh = p := ⟨_, rfl⟩
  obtain ⟨r, hr⟩ : ∃ r, wh = p + r := ⟨wh - p, by omega⟩
  have HB1 : Hid (n' < 9218868437227405311 → n' = B) := fun h => by omega
  have HB2 : Hid (9218868437227405311 ≤ n' → (n' : Int) % 9218868437227405311 = (B : Int)) := fun h => by omega
  have ln : n' < 9223372036854775808 := by omega
  have LB := hide lB
  have HP := hide hp
  have HR := hide hr
  clear hB hn' hn lB hp hr
  go_enter Try.func5, Try.ntmps5
  go_upto_if 22 with fail
  go_cut [0] (fun s0 wx => s0 = .int .u64 (B : Int) ∧ wx = w)
  case first =>
    by_cases c : n' < 9218868437227405311
    · have e := hide (HB1.out c)
      obtain ⟨N, hN⟩ : ∃ N : Int, (n' : Int) = N := ⟨_, rfl⟩
      rw [hN]
      have l0 : 0 ≤ N := by omega
      have l1 : N < 9218868437227405311 := by omega
      have HN := hide hN
      clear hN c HB1 HB2 k1
      go_wp2_with fail
      go_meet
      exact ⟨by rw [← HN.out, e.out], rfl⟩
    · have e := hide (HB2.out (by omega))
      obtain ⟨N, hN⟩ : ∃ N : Int, (n' : Int) = N := ⟨_, rfl⟩
      rw [hN] at e ⊢
      have l0 : 9218868437227405311 ≤ N := by omega
      have l1 : N < 9223372036854775808 := by omega
      clear hN c HB1 HB2 k1
      go_wp2_with fail
      go_meet
      exact ⟨by rw [e.out], rfl⟩
  case rest =>
    obtain ⟨rfl, rfl⟩ := hcut
    clear HB1 HB2 k1 ln
    go_upto_region 4 with fail
    go_cut [7] (fun s7 wx => s7 = .int .u64 (p : Int) ∧ wx = wc)
    case first =>
      have hp' := HP.out
      by_cases c : pt ≤ wh
      · obtain rfl : pt = p := by omega
        clear hp'
        go_wp2_with fail
        go_meet
        exact ⟨rfl, rfl⟩
      · obtain rfl : wh = p := by omega
        clear hp'
        go_wp2_with fail
        go_meet
        exact ⟨rfl, rfl⟩
    case rest =>
      obtain ⟨rfl, hwx⟩ := hcut
      subst hwx
      have lB := LB.out
      have HO1 := hide (fun w => ofLaw_any7 B w (by omega))
      have HO2 := hide (fun w => ofLaw_any7 (B + 1) w (by omega))
      rw [show ((B + 1 : Nat) : Int) = (B : Int) + 1 by omega] at HO2
      have HE := hide (near_exact (vDen_pos B) (by omega) (v_bV (b := B) (by omega)))
      have HT := hide (fun h => near_between (B := B) (p := p) (r := r) lB h)
      have nx := vNum_nl B
      have ny := vNum_nl (B + 1)
      have np := vDen_nl B
      have nq := vDen_nl (B + 1)
      have p0 := vDen_pos B
      have q0 := vDen_pos (B + 1)
      generalize vNum B = x at *
      generalize vNum (B + 1) = y at *
      generalize vDen B = d at *
      generalize vDen (B + 1) = g at *
      go_wp2_with fail
      refine (HO1.out _).mono ?_
      rintro e w1 ⟨ax, cx, ad, cd, rfl, hx, hd, f1⟩
      have HW := hide lB
      go_wp2_with fail
      obtain ⟨W, hW⟩ : ∃ W, W = (w1.alloc (Obj.cells #[Value.slice ax (nlen 4294967296 x) cx] 42)).alloc (Obj.cells #[Value.slice ad (nlen 4294967296 d) cd] 42) := ⟨_, rfl⟩
      have fW : Fr w1 W := by rw [hW]; exact (Fr.alloc _ _).trans (Fr.alloc _ _)
      have c8 : W.cell? ⟨w1.heap.size, 0, none⟩ = some (.slice ax (nlen 4294967296 x) cx) := by rw [hW]; simp [go_sem]
      have c9 : W.cell? ⟨w1.heap.size + 1, 0, none⟩ = some (.slice ad (nlen 4294967296 d) cd) := by rw [hW]; simp [go_sem]
      rw [← hW]
      clear hW
      refine (HO2.out _).mono ?_
      rintro e w2 ⟨ay, cy, ag, cg, rfl, hy, hg, f2⟩
      have c8 := fr_cell f2 c8
      have c9 := fr_cell f2 c9
      have F := hide ((f1.trans fW).trans f2)
      have hx := (hx.fr fW).fr f2
      have hd := (hd.fr fW).fr f2
      clear f1 fW f2 HO1 HO2
      go_wp2_with fail
      obtain ⟨W, hW⟩ : ∃ W, W = (w2.alloc (Obj.cells #[Value.slice ay (nlen 4294967296 y) cy] 42)).alloc (Obj.cells #[Value.slice ag (nlen 4294967296 g) cg] 42) := ⟨_, rfl⟩
      have fW : Fr w2 W := by rw [hW]; exact (Fr.alloc _ _).trans (Fr.alloc _ _)
      have c10 : W.cell? ⟨w2.heap.size, 0, none⟩ = some (.slice ay (nlen 4294967296 y) cy) := by rw [hW]; simp [go_sem]
      have c11 : W.cell? ⟨w2.heap.size + 1, 0, none⟩ = some (.slice ag (nlen 4294967296 g) cg) := by rw [hW]; simp [go_sem]
      have c8 := fr_cell fW c8
      have c9 := fr_cell fW c9
      rw [← hW]
      clear hW
      refine (nearest_any _ _ x d B _ (hx.fr fW) (hd.fr fW) (by omega) (by omega) (by omega) HE.out).mono ?_
      rintro e w3 ⟨rfl, f3⟩
      have fW := fW.trans f3
      have c8 := fr_cell f3 c8
      have c9 := fr_cell f3 c9
      have c10 := fr_cell f3 c10
      have c11 := fr_cell f3 c11
      have F := hide (F.out.trans fW)
      have hx := hx.fr fW
      have hd := hd.fr fW
      have hy := hy.fr fW
      have hg := hg.fr fW
      clear fW f3 HE
      go_wp2_with fail
      refine (wakes_any _).mono ?_
      rintro e w4 ⟨rfl, f4⟩
      have c8 := fr_cell f4 c8
      have c9 := fr_cell f4 c9
      have c10 := fr_cell f4 c10
      have c11 := fr_cell f4 c11
      have F := hide (F.out.trans f4)
      have HX := hide (hx.fr f4)
      have HD := hide (hd.fr f4)
      have HY := hide (hy.fr f4)
      have HG := hide (hg.fr f4)
      clear f4 hx hd hy hg
      by_cases h0 : wh = 0
      · subst h0
        go_wp2_with fail
        refine (wakes_any _).mono ?_
        rintro e w5 ⟨rfl, f5⟩
        go_wp2_with fail
        go_ret
        exact ⟨rfl, F.out.trans f5⟩
      · have z0 : ((wh : Int) == 0) = false := by simp only [beq_eq_false_iff_ne]; omega
        have hpr := HR.out
        have hT := HT.out (by omega)
        rw [← hpr] at hT
        have kp : nlen 4294967296 p ≤ 2 := wsm (by omega)
        have kr : nlen 4294967296 r ≤ 2 := wsm (by omega)
        have kw : nlen 4294967296 wh ≤ 2 := wsm (by omega)
        have lp : p < 18446744073709551616 := by omega
        have lr : r < 18446744073709551616 := by omega
        have lw : wh < 18446744073709551616 := by omega
        have hcv : IntKind.u64.wrap (wh : Int) = (wh : Int) := by rw [IntKind.wrap_u64]; omega
        have hsub : IntKind.u64.wrap ((wh : Int) - (p : Int)) = (r : Int) := by rw [IntKind.wrap_u64]; omega
        obtain ⟨P1, h1⟩ : ∃ P, x * g * r = P := ⟨_, rfl⟩
        obtain ⟨P2, h2⟩ : ∃ P, y * d * p = P := ⟨_, rfl⟩
        obtain ⟨P3, h3⟩ : ∃ P, P1 + P2 = P := ⟨_, rfl⟩
        obtain ⟨D, h4⟩ : ∃ P, d * g * wh = P := ⟨_, rfl⟩
        have D0 : D ≠ 0 := by
          rw [← h4]
          have := Nat.mul_pos (Nat.mul_pos p0 q0) (Nat.pos_of_ne_zero h0)
          omega
        have n1 : nlen 4294967296 P1 ≤ 100 := by rw [← h1]; exact Nat.le_trans (nlen_mul b32 (nlen_mul b32 nx nq) kr) (by omega)
        have n2 : nlen 4294967296 P2 ≤ 100 := by rw [← h2]; exact Nat.le_trans (nlen_mul b32 (nlen_mul b32 ny np) kp) (by omega)
        have n3 : nlen 4294967296 P3 ≤ 101 := by rw [← h3]; exact nl_add n1 n2
        have n4 : nlen 4294967296 D ≤ 100 := by rw [← h4]; exact Nat.le_trans (nlen_mul b32 (nlen_mul b32 np nq) kw) (by omega)
        rw [h1, h2, h3, h4] at hT
        obtain ⟨N, hN⟩ : ∃ N, (if wh < 2 * p then B + 1 else if 2 * p = wh then B + B % 2 else B) = N := ⟨_, rfl⟩
        rw [hN] at hT
        have HN := hide hN
        clear hN
        have H1 := hide h1
        have H2 := hide h2
        have H3 := hide h3
        have H4 := hide h4
        have HT := hide hT
        clear h1 h2 h3 h4 hT hpr HR h0 p0 q0
        go_upto_region 10 with fail
        go_cut [14] (fun s14 wx => ∃ k al cl, s14 = .pointer (some ⟨k, 0, none⟩) ∧ wx.cell? ⟨k, 0, none⟩ = some (.slice al (nlen 4294967296 P1) cl) ∧ Hid (IsNat wx (.agg #[.slice al (nlen 4294967296 P1) cl]) P1) ∧ Hid (Fr w4 wx))
        case first =>
          refine wp_region_held_drew (S := (fun w' => w'.cell? ⟨w1.heap.size, 0, none⟩ = some (.slice ax (nlen 4294967296 x) cx) ∧ w'.cell? ⟨w1.heap.size + 1, 0, none⟩ = some (.slice ad (nlen 4294967296 d) cd) ∧ w'.cell? ⟨w2.heap.size, 0, none⟩ = some (.slice ay (nlen 4294967296 y) cy) ∧ w'.cell? ⟨w2.heap.size + 1, 0, none⟩ = some (.slice ag (nlen 4294967296 g) cg) ∧ Hid (Fr w4 w'))) (by kernel_rfl) ?_ (fun hHeld => ?_)
          · exact ⟨c8, c9, c10, c11, Fr.drew _⟩
          have fz := hide (Fr.drew w4)
          generalize w4.drew = wd at fz hHeld ⊢
          refine wpAnyH_take (i := 0) (v := ?_) rfl (by kernel_rfl) (by kernel_rfl) (by kernel_rfl) (fun _ _ _ h => h) (Or.inl ⟨by rfl, ?_⟩) (by assumption) ?_
          rotate_left
          · (intro w hSw; (try dsimp only at hSw); go_simp; try with_reducible rfl)
          (try simp only [Act.put, List.getElem_toArray, List.getElem_cons_zero, List.getElem_cons_succ, List.setIfInBounds_toArray, List.set_cons_zero, List.set_cons_succ])
          refine wpAnyH_take (i := 1) (v := ?_) rfl (by kernel_rfl) (by kernel_rfl) (by kernel_rfl) (fun _ _ _ h => h) (Or.inl ⟨by rfl, ?_⟩) (by assumption) ?_
          rotate_left
          · (intro w hSw; (try dsimp only at hSw); go_simp; try with_reducible rfl)
          (try simp only [Act.put, List.getElem_toArray, List.getElem_cons_zero, List.getElem_cons_succ, List.setIfInBounds_toArray, List.set_cons_zero, List.set_cons_succ])
          refine wpAnyH_take (i := 2) (v := ?_) rfl (by kernel_rfl) (by kernel_rfl) (by kernel_rfl) (fun _ _ _ h => h) (Or.inl ⟨by rfl, ?_⟩) (by assumption) ?_
          rotate_left
          · (intro w hSw; (try dsimp only at hSw); go_simp; try with_reducible rfl)
          (try simp only [Act.put, List.getElem_toArray, List.getElem_cons_zero, List.getElem_cons_succ, List.setIfInBounds_toArray, List.set_cons_zero, List.set_cons_succ])
          refine wpAnyH_take (i := 3) (v := ?_) rfl (by kernel_rfl) (by kernel_rfl) (by kernel_rfl) (fun _ _ _ h => h) (Or.inl ⟨by rfl, ?_⟩) (by assumption) ?_
          rotate_left
          · (intro w hSw; (try dsimp only at hSw); go_simp; try with_reducible rfl)
          (try simp only [Act.put, List.getElem_toArray, List.getElem_cons_zero, List.getElem_cons_succ, List.setIfInBounds_toArray, List.set_cons_zero, List.set_cons_succ])
          refine wpAnyH_take (i := 4) (v := ?_) rfl (by kernel_rfl) (by kernel_rfl) (by kernel_rfl) (fun _ _ _ h => h) (Or.inl ⟨by rfl, ?_⟩) (by assumption) ?_
          rotate_left
          · (intro w hSw; (try dsimp only at hSw); go_simp; try with_reducible rfl)
          (try simp only [Act.put, List.getElem_toArray, List.getElem_cons_zero, List.getElem_cons_succ, List.setIfInBounds_toArray, List.set_cons_zero, List.set_cons_succ])
          refine wpAnyH_take (i := 5) (v := ?_) rfl (by kernel_rfl) (by kernel_rfl) (by kernel_rfl) (fun _ _ _ h => h) (Or.inl ⟨by rfl, ?_⟩) (by assumption) ?_
          rotate_left
          · (intro w hSw; (try dsimp only at hSw); go_simp; try with_reducible rfl)
          (try simp only [Act.put, List.getElem_toArray, List.getElem_cons_zero, List.getElem_cons_succ, List.setIfInBounds_toArray, List.set_cons_zero, List.set_cons_succ])
          refine wpAnyH_ready (rs := [6, 9]) (by kernel_rfl) (by simp) ?_
          refine AllReadyH.cons rfl (fun K hK => ?_) (AllReadyH.cons rfl (fun K hK => ?_) AllReadyH.nil)
          · skip
            go_simp
            refine (ofc_any _ r _ rfl (by omega)).mono ?_
            rintro e wn6 ⟨a6, c6, rfl, i6, _, fy⟩
            have fz := hide (fz.out.trans fy)
            have I6 := hide i6
            clear i6
            clear fy
            (try go_wp2_with fail)
            refine hK.out _ _ ?_ (fun hHeld => ?_)
            · (try dsimp only)
              exact ⟨fr_cell fz.out c8, fr_cell fz.out c9, fr_cell fz.out c10, fr_cell fz.out c11, fz⟩
            clear hK K
            (try simp only [Act.put, List.getElem_toArray, List.getElem_cons_zero, List.getElem_cons_succ, List.setIfInBounds_toArray, List.set_cons_zero, List.set_cons_succ])
            refine wpAnyH_ready (rs := [7, 9]) (by kernel_rfl) (by simp) ?_
            refine AllReadyH.cons rfl (fun K hK => ?_) (AllReadyH.cons rfl (fun K hK => ?_) AllReadyH.nil)
            · skip
              go_simp
              have fy := Fr.alloc wn6 (Obj.cells #[Value.slice ax (nlen 4294967296 x) cx, Value.slice ag (nlen 4294967296 g) cg, Value.slice a6 (nlen 4294967296 r) c6] 42)
              have NN : Hid (Nats (wn6.alloc (Obj.cells #[Value.slice ax (nlen 4294967296 x) cx, Value.slice ag (nlen 4294967296 g) cg, Value.slice a6 (nlen 4294967296 r) c6] 42)) (some ⟨wn6.heap.size, 0, none⟩) 3 (threeF x g r)) := hide (nats3 (w := wn6) wn6.heap.size rfl (f := threeF x g r) (a0 := ax) (c0 := cx) (a1 := ag) (c1 := cg) (a2 := a6) (c2 := c6) (IsNat.fr HX.out fz.out) (IsNat.fr HG.out fz.out) I6.out)
              have fz := hide (fz.out.trans fy)
              clear I6
              clear fy
              (try go_wp2_with fail)
              refine hK.out _ _ ?_ (fun hHeld => ?_)
              · (try dsimp only)
                exact ⟨fr_cell fz.out c8, fr_cell fz.out c9, fr_cell fz.out c10, fr_cell fz.out c11, fz⟩
              clear hK K
              (try simp only [Act.put, List.getElem_toArray, List.getElem_cons_zero, List.getElem_cons_succ, List.setIfInBounds_toArray, List.set_cons_zero, List.set_cons_succ])
              obtain ⟨wB, hwB⟩ : ∃ wB, wB = (wn6.alloc (Obj.cells #[Value.slice ax (nlen 4294967296 x) cx, Value.slice ag (nlen 4294967296 g) cg, Value.slice a6 (nlen 4294967296 r) c6] 42)) := ⟨_, rfl⟩
              rw [← hwB] at fz hHeld ⊢
              rw [← hwB] at NN
              clear hwB
              refine wpAnyH_ready (rs := [8, 9]) (by kernel_rfl) (by simp) ?_
              refine AllReadyH.cons rfl (fun K hK => ?_) (AllReadyH.cons rfl (fun K hK => ?_) AllReadyH.nil)
              · skip
                go_simp
                refine (all3 x g r P1 _ _ NN.out (by omega) (by omega) (by omega) H1.out).mono ?_
                rintro e wn8 ⟨a8, e8, rfl, i8, fy⟩
                have fz := hide (fz.out.trans fy)
                have I8 := hide i8
                clear i8 NN
                clear fy
                (try go_wp2_with fail)
                refine hK.out _ _ ?_ (fun hHeld => ?_)
                · (try dsimp only)
                  exact ⟨fr_cell fz.out c8, fr_cell fz.out c9, fr_cell fz.out c10, fr_cell fz.out c11, fz⟩
                clear hK K
                (try simp only [Act.put, List.getElem_toArray, List.getElem_cons_zero, List.getElem_cons_succ, List.setIfInBounds_toArray, List.set_cons_zero, List.set_cons_succ])
                refine wpAnyH_ready (rs := [9]) (by kernel_rfl) (by simp) ?_
                refine AllReadyH.cons rfl (fun K hK => ?_) AllReadyH.nil
                obtain ⟨bA, hbA⟩ : ∃ b, b = wn8.heap.size := ⟨_, rfl⟩
                have fy := Fr.alloc wn8 (Obj.cells #[Value.slice none 0 0] 42)
                have VC : (wn8.alloc (Obj.cells #[Value.slice none 0 0] 42)).cell? ⟨bA, 0, none⟩ = some (.slice none 0 0) := by rw [hbA]; simp [go_sem]
                have VZ : (wn8.alloc (Obj.cells #[Value.slice none 0 0] 42)).frozen? ⟨bA, 0, none⟩ = false := by rw [hbA]; simp [go_sem]
                have VC0 := VC
                have VL : w4.heap.size ≤ bA := by rw [hbA]; exact fz.out.size
                have I8 := hide (I8.out.fr fy)
                have fz := hide (fz.out.trans fy)
                clear fy
                go_simp
                rw [← hbA]
                refine hK.out _ _ ?_ (fun hHeld => ?_)
                · (try dsimp only)
                  exact ⟨fr_cell fz.out c8, fr_cell fz.out c9, fr_cell fz.out c10, fr_cell fz.out c11, fz⟩
                clear hK K
                (try simp only [Act.put, List.getElem_toArray, List.getElem_cons_zero, List.getElem_cons_succ, List.setIfInBounds_toArray, List.set_cons_zero, List.set_cons_succ])
                obtain ⟨wA, hwA⟩ : ∃ wA, wA = wn8.alloc (Obj.cells #[Value.slice none 0 0] 42) := ⟨_, rfl⟩
                rw [← hwA] at fz VC VZ VC0 hHeld ⊢
                rw [← hwA] at I8
                clear hwA hbA
                refine wpAnyH_ready (rs := [10]) (by kernel_rfl) (by simp) ?_
                refine AllReadyH.cons rfl (fun K hK => ?_) AllReadyH.nil
                go_simp
                (try go_wp2_with fail)
                have fz : Hid (Fr w4 (wA.setCell ⟨bA, 0, none⟩ (.slice a8 (nlen 4294967296 P1) e8))) := Below.setCell fz.out VL _
                have I8 := hide (IsNat.put2 I8.out VC (.slice a8 (nlen 4294967296 P1) e8))
                have VC := World.cell?_setCell_same wA ⟨bA, 0, none⟩ (.slice a8 (nlen 4294967296 P1) e8) VC
                refine hK.out _ _ ?_ (fun hHeld => ?_)
                · (try dsimp only)
                  exact ⟨fr_cell fz.out c8, fr_cell fz.out c9, fr_cell fz.out c10, fr_cell fz.out c11, fz⟩
                clear hK K
                (try simp only [Act.put, List.getElem_toArray, List.getElem_cons_zero, List.getElem_cons_succ, List.setIfInBounds_toArray, List.set_cons_zero, List.set_cons_succ])
                refine wpAnyH_done (by kernel_rfl) ?_ _
                go_wp2_with fail
                go_meet
                exact ⟨_, _, _, rfl, VC, I8, fz⟩
              · skip
                obtain ⟨bA, hbA⟩ : ∃ b, b = wB.heap.size := ⟨_, rfl⟩
                have fy := Fr.alloc wB (Obj.cells #[Value.slice none 0 0] 42)
                have VC : (wB.alloc (Obj.cells #[Value.slice none 0 0] 42)).cell? ⟨bA, 0, none⟩ = some (.slice none 0 0) := by rw [hbA]; simp [go_sem]
                have VZ : (wB.alloc (Obj.cells #[Value.slice none 0 0] 42)).frozen? ⟨bA, 0, none⟩ = false := by rw [hbA]; simp [go_sem]
                have VC0 := VC
                have VL : w4.heap.size ≤ bA := by rw [hbA]; exact fz.out.size
                have NN := hide (NN.out.fr fy)
                have fz := hide (fz.out.trans fy)
                clear fy
                go_simp
                rw [← hbA]
                refine hK.out _ _ ?_ (fun hHeld => ?_)
                · (try dsimp only)
                  exact ⟨fr_cell fz.out c8, fr_cell fz.out c9, fr_cell fz.out c10, fr_cell fz.out c11, fz⟩
                clear hK K
                (try simp only [Act.put, List.getElem_toArray, List.getElem_cons_zero, List.getElem_cons_succ, List.setIfInBounds_toArray, List.set_cons_zero, List.set_cons_succ])
                obtain ⟨wA, hwA⟩ : ∃ wA, wA = wB.alloc (Obj.cells #[Value.slice none 0 0] 42) := ⟨_, rfl⟩
                rw [← hwA] at fz VC VZ VC0 hHeld ⊢
                rw [← hwA] at NN
                clear hwA hbA
                refine wpAnyH_ready (rs := [8]) (by kernel_rfl) (by simp) ?_
                refine AllReadyH.cons rfl (fun K hK => ?_) AllReadyH.nil
                go_simp
                refine (all3 x g r P1 _ _ NN.out (by omega) (by omega) (by omega) H1.out).mono ?_
                rintro e wn8 ⟨a8, e8, rfl, i8, fy⟩
                have VC := fr_cell fy VC
                have VZ := fr_free fy VC0 VZ
                have VC0 := VC
                have fz := hide (fz.out.trans fy)
                have I8 := hide i8
                clear i8 NN
                clear fy
                (try go_wp2_with fail)
                refine hK.out _ _ ?_ (fun hHeld => ?_)
                · (try dsimp only)
                  exact ⟨fr_cell fz.out c8, fr_cell fz.out c9, fr_cell fz.out c10, fr_cell fz.out c11, fz⟩
                clear hK K
                (try simp only [Act.put, List.getElem_toArray, List.getElem_cons_zero, List.getElem_cons_succ, List.setIfInBounds_toArray, List.set_cons_zero, List.set_cons_succ])
                refine wpAnyH_ready (rs := [10]) (by kernel_rfl) (by simp) ?_
                refine AllReadyH.cons rfl (fun K hK => ?_) AllReadyH.nil
                go_simp
                (try go_wp2_with fail)
                have fz : Hid (Fr w4 (wn8.setCell ⟨bA, 0, none⟩ (.slice a8 (nlen 4294967296 P1) e8))) := Below.setCell fz.out VL _
                have I8 := hide (IsNat.put2 I8.out VC (.slice a8 (nlen 4294967296 P1) e8))
                have VC := World.cell?_setCell_same wn8 ⟨bA, 0, none⟩ (.slice a8 (nlen 4294967296 P1) e8) VC
                refine hK.out _ _ ?_ (fun hHeld => ?_)
                · (try dsimp only)
                  exact ⟨fr_cell fz.out c8, fr_cell fz.out c9, fr_cell fz.out c10, fr_cell fz.out c11, fz⟩
                clear hK K
                (try simp only [Act.put, List.getElem_toArray, List.getElem_cons_zero, List.getElem_cons_succ, List.setIfInBounds_toArray, List.set_cons_zero, List.set_cons_succ])
                refine wpAnyH_done (by kernel_rfl) ?_ _
                go_wp2_with fail
                go_meet
                exact ⟨_, _, _, rfl, VC, I8, fz⟩
            · skip
              obtain ⟨bA, hbA⟩ : ∃ b, b = wn6.heap.size := ⟨_, rfl⟩
              have fy := Fr.alloc wn6 (Obj.cells #[Value.slice none 0 0] 42)
              have VC : (wn6.alloc (Obj.cells #[Value.slice none 0 0] 42)).cell? ⟨bA, 0, none⟩ = some (.slice none 0 0) := by rw [hbA]; simp [go_sem]
              have VZ : (wn6.alloc (Obj.cells #[Value.slice none 0 0] 42)).frozen? ⟨bA, 0, none⟩ = false := by rw [hbA]; simp [go_sem]
              have VC0 := VC
              have VL : w4.heap.size ≤ bA := by rw [hbA]; exact fz.out.size
              have I6 := hide (I6.out.fr fy)
              have fz := hide (fz.out.trans fy)
              clear fy
              go_simp
              rw [← hbA]
              refine hK.out _ _ ?_ (fun hHeld => ?_)
              · (try dsimp only)
                exact ⟨fr_cell fz.out c8, fr_cell fz.out c9, fr_cell fz.out c10, fr_cell fz.out c11, fz⟩
              clear hK K
              (try simp only [Act.put, List.getElem_toArray, List.getElem_cons_zero, List.getElem_cons_succ, List.setIfInBounds_toArray, List.set_cons_zero, List.set_cons_succ])
              obtain ⟨wA, hwA⟩ : ∃ wA, wA = wn6.alloc (Obj.cells #[Value.slice none 0 0] 42) := ⟨_, rfl⟩
              rw [← hwA] at fz VC VZ VC0 hHeld ⊢
              rw [← hwA] at I6
              clear hwA hbA
              refine wpAnyH_ready (rs := [7]) (by kernel_rfl) (by simp) ?_
              refine AllReadyH.cons rfl (fun K hK => ?_) AllReadyH.nil
              go_simp
              have fy := Fr.alloc wA (Obj.cells #[Value.slice ax (nlen 4294967296 x) cx, Value.slice ag (nlen 4294967296 g) cg, Value.slice a6 (nlen 4294967296 r) c6] 42)
              have NN : Hid (Nats (wA.alloc (Obj.cells #[Value.slice ax (nlen 4294967296 x) cx, Value.slice ag (nlen 4294967296 g) cg, Value.slice a6 (nlen 4294967296 r) c6] 42)) (some ⟨wA.heap.size, 0, none⟩) 3 (threeF x g r)) := hide (nats3 (w := wA) wA.heap.size rfl (f := threeF x g r) (a0 := ax) (c0 := cx) (a1 := ag) (c1 := cg) (a2 := a6) (c2 := c6) (IsNat.fr HX.out fz.out) (IsNat.fr HG.out fz.out) I6.out)
              have VC := fr_cell fy VC
              have VZ := fr_free fy VC0 VZ
              have VC0 := VC
              have fz := hide (fz.out.trans fy)
              clear I6
              clear fy
              (try go_wp2_with fail)
              refine hK.out _ _ ?_ (fun hHeld => ?_)
              · (try dsimp only)
                exact ⟨fr_cell fz.out c8, fr_cell fz.out c9, fr_cell fz.out c10, fr_cell fz.out c11, fz⟩
              clear hK K
              (try simp only [Act.put, List.getElem_toArray, List.getElem_cons_zero, List.getElem_cons_succ, List.setIfInBounds_toArray, List.set_cons_zero, List.set_cons_succ])
              obtain ⟨wB, hwB⟩ : ∃ wB, wB = (wA.alloc (Obj.cells #[Value.slice ax (nlen 4294967296 x) cx, Value.slice ag (nlen 4294967296 g) cg, Value.slice a6 (nlen 4294967296 r) c6] 42)) := ⟨_, rfl⟩
              rw [← hwB] at fz hHeld ⊢
              rw [← hwB] at VC VZ VC0
              rw [← hwB] at NN
              clear hwB
              refine wpAnyH_ready (rs := [8]) (by kernel_rfl) (by simp) ?_
              refine AllReadyH.cons rfl (fun K hK => ?_) AllReadyH.nil
              go_simp
              refine (all3 x g r P1 _ _ NN.out (by omega) (by omega) (by omega) H1.out).mono ?_
              rintro e wn8 ⟨a8, e8, rfl, i8, fy⟩
              have VC := fr_cell fy VC
              have VZ := fr_free fy VC0 VZ
              have VC0 := VC
              have fz := hide (fz.out.trans fy)
              have I8 := hide i8
              clear i8 NN
              clear fy
              (try go_wp2_with fail)
              refine hK.out _ _ ?_ (fun hHeld => ?_)
              · (try dsimp only)
                exact ⟨fr_cell fz.out c8, fr_cell fz.out c9, fr_cell fz.out c10, fr_cell fz.out c11, fz⟩
              clear hK K
              (try simp only [Act.put, List.getElem_toArray, List.getElem_cons_zero, List.getElem_cons_succ, List.setIfInBounds_toArray, List.set_cons_zero, List.set_cons_succ])
              refine wpAnyH_ready (rs := [10]) (by kernel_rfl) (by simp) ?_
              refine AllReadyH.cons rfl (fun K hK => ?_) AllReadyH.nil
              go_simp
              (try go_wp2_with fail)
              have fz : Hid (Fr w4 (wn8.setCell ⟨bA, 0, none⟩ (.slice a8 (nlen 4294967296 P1) e8))) := Below.setCell fz.out VL _
              have I8 := hide (IsNat.put2 I8.out VC (.slice a8 (nlen 4294967296 P1) e8))
              have VC := World.cell?_setCell_same wn8 ⟨bA, 0, none⟩ (.slice a8 (nlen 4294967296 P1) e8) VC
              refine hK.out _ _ ?_ (fun hHeld => ?_)
              · (try dsimp only)
                exact ⟨fr_cell fz.out c8, fr_cell fz.out c9, fr_cell fz.out c10, fr_cell fz.out c11, fz⟩
              clear hK K
              (try simp only [Act.put, List.getElem_toArray, List.getElem_cons_zero, List.getElem_cons_succ, List.setIfInBounds_toArray, List.set_cons_zero, List.set_cons_succ])
              refine wpAnyH_done (by kernel_rfl) ?_ _
              go_wp2_with fail
              go_meet
              exact ⟨_, _, _, rfl, VC, I8, fz⟩
          · skip
            obtain ⟨bA, hbA⟩ : ∃ b, b = wd.heap.size := ⟨_, rfl⟩
            have fy := Fr.alloc wd (Obj.cells #[Value.slice none 0 0] 42)
            have VC : (wd.alloc (Obj.cells #[Value.slice none 0 0] 42)).cell? ⟨bA, 0, none⟩ = some (.slice none 0 0) := by rw [hbA]; simp [go_sem]
            have VZ : (wd.alloc (Obj.cells #[Value.slice none 0 0] 42)).frozen? ⟨bA, 0, none⟩ = false := by rw [hbA]; simp [go_sem]
            have VC0 := VC
            have VL : w4.heap.size ≤ bA := by rw [hbA]; exact fz.out.size
            have fz := hide (fz.out.trans fy)
            clear fy
            go_simp
            rw [← hbA]
            refine hK.out _ _ ?_ (fun hHeld => ?_)
            · (try dsimp only)
              exact ⟨fr_cell fz.out c8, fr_cell fz.out c9, fr_cell fz.out c10, fr_cell fz.out c11, fz⟩
            clear hK K
            (try simp only [Act.put, List.getElem_toArray, List.getElem_cons_zero, List.getElem_cons_succ, List.setIfInBounds_toArray, List.set_cons_zero, List.set_cons_succ])
            obtain ⟨wA, hwA⟩ : ∃ wA, wA = wd.alloc (Obj.cells #[Value.slice none 0 0] 42) := ⟨_, rfl⟩
            rw [← hwA] at fz VC VZ VC0 hHeld ⊢
            clear hwA hbA
            refine wpAnyH_ready (rs := [6]) (by kernel_rfl) (by simp) ?_
            refine AllReadyH.cons rfl (fun K hK => ?_) AllReadyH.nil
            go_simp
            refine (ofc_any _ r _ rfl (by omega)).mono ?_
            rintro e wn6 ⟨a6, c6, rfl, i6, _, fy⟩
            have VC := fr_cell fy VC
            have VZ := fr_free fy VC0 VZ
            have VC0 := VC
            have fz := hide (fz.out.trans fy)
            have I6 := hide i6
            clear i6
            clear fy
            (try go_wp2_with fail)
            refine hK.out _ _ ?_ (fun hHeld => ?_)
            · (try dsimp only)
              exact ⟨fr_cell fz.out c8, fr_cell fz.out c9, fr_cell fz.out c10, fr_cell fz.out c11, fz⟩
            clear hK K
            (try simp only [Act.put, List.getElem_toArray, List.getElem_cons_zero, List.getElem_cons_succ, List.setIfInBounds_toArray, List.set_cons_zero, List.set_cons_succ])
            refine wpAnyH_ready (rs := [7]) (by kernel_rfl) (by simp) ?_
            refine AllReadyH.cons rfl (fun K hK => ?_) AllReadyH.nil
            go_simp
            have fy := Fr.alloc wn6 (Obj.cells #[Value.slice ax (nlen 4294967296 x) cx, Value.slice ag (nlen 4294967296 g) cg, Value.slice a6 (nlen 4294967296 r) c6] 42)
            have NN : Hid (Nats (wn6.alloc (Obj.cells #[Value.slice ax (nlen 4294967296 x) cx, Value.slice ag (nlen 4294967296 g) cg, Value.slice a6 (nlen 4294967296 r) c6] 42)) (some ⟨wn6.heap.size, 0, none⟩) 3 (threeF x g r)) := hide (nats3 (w := wn6) wn6.heap.size rfl (f := threeF x g r) (a0 := ax) (c0 := cx) (a1 := ag) (c1 := cg) (a2 := a6) (c2 := c6) (IsNat.fr HX.out fz.out) (IsNat.fr HG.out fz.out) I6.out)
            have VC := fr_cell fy VC
            have VZ := fr_free fy VC0 VZ
            have VC0 := VC
            have fz := hide (fz.out.trans fy)
            clear I6
            clear fy
            (try go_wp2_with fail)
            refine hK.out _ _ ?_ (fun hHeld => ?_)
            · (try dsimp only)
              exact ⟨fr_cell fz.out c8, fr_cell fz.out c9, fr_cell fz.out c10, fr_cell fz.out c11, fz⟩
            clear hK K
            (try simp only [Act.put, List.getElem_toArray, List.getElem_cons_zero, List.getElem_cons_succ, List.setIfInBounds_toArray, List.set_cons_zero, List.set_cons_succ])
            obtain ⟨wB, hwB⟩ : ∃ wB, wB = (wn6.alloc (Obj.cells #[Value.slice ax (nlen 4294967296 x) cx, Value.slice ag (nlen 4294967296 g) cg, Value.slice a6 (nlen 4294967296 r) c6] 42)) := ⟨_, rfl⟩
            rw [← hwB] at fz hHeld ⊢
            rw [← hwB] at VC VZ VC0
            rw [← hwB] at NN
            clear hwB
            refine wpAnyH_ready (rs := [8]) (by kernel_rfl) (by simp) ?_
            refine AllReadyH.cons rfl (fun K hK => ?_) AllReadyH.nil
            go_simp
            refine (all3 x g r P1 _ _ NN.out (by omega) (by omega) (by omega) H1.out).mono ?_
            rintro e wn8 ⟨a8, e8, rfl, i8, fy⟩
            have VC := fr_cell fy VC
            have VZ := fr_free fy VC0 VZ
            have VC0 := VC
            have fz := hide (fz.out.trans fy)
            have I8 := hide i8
            clear i8 NN
            clear fy
            (try go_wp2_with fail)
            refine hK.out _ _ ?_ (fun hHeld => ?_)
            · (try dsimp only)
              exact ⟨fr_cell fz.out c8, fr_cell fz.out c9, fr_cell fz.out c10, fr_cell fz.out c11, fz⟩
            clear hK K
            (try simp only [Act.put, List.getElem_toArray, List.getElem_cons_zero, List.getElem_cons_succ, List.setIfInBounds_toArray, List.set_cons_zero, List.set_cons_succ])
            refine wpAnyH_ready (rs := [10]) (by kernel_rfl) (by simp) ?_
            refine AllReadyH.cons rfl (fun K hK => ?_) AllReadyH.nil
            go_simp
            (try go_wp2_with fail)
            have fz : Hid (Fr w4 (wn8.setCell ⟨bA, 0, none⟩ (.slice a8 (nlen 4294967296 P1) e8))) := Below.setCell fz.out VL _
            have I8 := hide (IsNat.put2 I8.out VC (.slice a8 (nlen 4294967296 P1) e8))
            have VC := World.cell?_setCell_same wn8 ⟨bA, 0, none⟩ (.slice a8 (nlen 4294967296 P1) e8) VC
            refine hK.out _ _ ?_ (fun hHeld => ?_)
            · (try dsimp only)
              exact ⟨fr_cell fz.out c8, fr_cell fz.out c9, fr_cell fz.out c10, fr_cell fz.out c11, fz⟩
            clear hK K
            (try simp only [Act.put, List.getElem_toArray, List.getElem_cons_zero, List.getElem_cons_succ, List.setIfInBounds_toArray, List.set_cons_zero, List.set_cons_succ])
            refine wpAnyH_done (by kernel_rfl) ?_ _
            go_wp2_with fail
            go_meet
            exact ⟨_, _, _, rfl, VC, I8, fz⟩
        case rest =>
          obtain ⟨k1, al1, cl1, rfl, v1, IL, F1⟩ := hcut
          obtain ⟨w5, hw5⟩ : ∃ V, V = wc := ⟨_, rfl⟩
          rw [← hw5] at v1 IL F1 ⊢
          have c8 := fr_cell F1.out c8
          have c9 := fr_cell F1.out c9
          have c10 := fr_cell F1.out c10
          have c11 := fr_cell F1.out c11
          have HX := hide (HX.out.fr F1.out)
          have HD := hide (HD.out.fr F1.out)
          have HY := hide (HY.out.fr F1.out)
          have HG := hide (HG.out.fr F1.out)
          have F := hide (F.out.trans F1.out)
          clear F1 hw5
          go_upto_region 11 with fail
          go_cut [15] (fun s15 wx => ∃ k al cl, s15 = .pointer (some ⟨k, 0, none⟩) ∧ wx.cell? ⟨k, 0, none⟩ = some (.slice al (nlen 4294967296 P2) cl) ∧ Hid (IsNat wx (.agg #[.slice al (nlen 4294967296 P2) cl]) P2) ∧ Hid (Fr w5 wx))
          case first =>
            refine wp_region_held_drew (S := (fun w' => w'.cell? ⟨w1.heap.size, 0, none⟩ = some (.slice ax (nlen 4294967296 x) cx) ∧ w'.cell? ⟨w1.heap.size + 1, 0, none⟩ = some (.slice ad (nlen 4294967296 d) cd) ∧ w'.cell? ⟨w2.heap.size, 0, none⟩ = some (.slice ay (nlen 4294967296 y) cy) ∧ w'.cell? ⟨w2.heap.size + 1, 0, none⟩ = some (.slice ag (nlen 4294967296 g) cg) ∧ Hid (Fr w5 w'))) (by kernel_rfl) ?_ (fun hHeld => ?_)
            · exact ⟨c8, c9, c10, c11, Fr.drew _⟩
            have fz := hide (Fr.drew w5)
            generalize w5.drew = wd at fz hHeld ⊢
            refine wpAnyH_take (i := 0) (v := ?_) rfl (by kernel_rfl) (by kernel_rfl) (by kernel_rfl) (fun _ _ _ h => h) (Or.inl ⟨by rfl, ?_⟩) (by assumption) ?_
            rotate_left
            · (intro w hSw; (try dsimp only at hSw); go_simp; try with_reducible rfl)
            (try simp only [Act.put, List.getElem_toArray, List.getElem_cons_zero, List.getElem_cons_succ, List.setIfInBounds_toArray, List.set_cons_zero, List.set_cons_succ])
            refine wpAnyH_take (i := 1) (v := ?_) rfl (by kernel_rfl) (by kernel_rfl) (by kernel_rfl) (fun _ _ _ h => h) (Or.inl ⟨by rfl, ?_⟩) (by assumption) ?_
            rotate_left
            · (intro w hSw; (try dsimp only at hSw); go_simp; try with_reducible rfl)
            (try simp only [Act.put, List.getElem_toArray, List.getElem_cons_zero, List.getElem_cons_succ, List.setIfInBounds_toArray, List.set_cons_zero, List.set_cons_succ])
            refine wpAnyH_take (i := 2) (v := ?_) rfl (by kernel_rfl) (by kernel_rfl) (by kernel_rfl) (fun _ _ _ h => h) (Or.inl ⟨by rfl, ?_⟩) (by assumption) ?_
            rotate_left
            · (intro w hSw; (try dsimp only at hSw); go_simp; try with_reducible rfl)
            (try simp only [Act.put, List.getElem_toArray, List.getElem_cons_zero, List.getElem_cons_succ, List.setIfInBounds_toArray, List.set_cons_zero, List.set_cons_succ])
            refine wpAnyH_ready (rs := [3, 6]) (by kernel_rfl) (by simp) ?_
            refine AllReadyH.cons rfl (fun K hK => ?_) (AllReadyH.cons rfl (fun K hK => ?_) AllReadyH.nil)
            · skip
              go_simp
              refine (ofc_any _ p _ rfl (by omega)).mono ?_
              rintro e wn3 ⟨a6, c6, rfl, i6, _, fy⟩
              have fz := hide (fz.out.trans fy)
              have I6 := hide i6
              clear i6
              clear fy
              (try go_wp2_with fail)
              refine hK.out _ _ ?_ (fun hHeld => ?_)
              · (try dsimp only)
                exact ⟨fr_cell fz.out c8, fr_cell fz.out c9, fr_cell fz.out c10, fr_cell fz.out c11, fz⟩
              clear hK K
              (try simp only [Act.put, List.getElem_toArray, List.getElem_cons_zero, List.getElem_cons_succ, List.setIfInBounds_toArray, List.set_cons_zero, List.set_cons_succ])
              refine wpAnyH_ready (rs := [4, 6]) (by kernel_rfl) (by simp) ?_
              refine AllReadyH.cons rfl (fun K hK => ?_) (AllReadyH.cons rfl (fun K hK => ?_) AllReadyH.nil)
              · skip
                go_simp
                have fy := Fr.alloc wn3 (Obj.cells #[Value.slice ay (nlen 4294967296 y) cy, Value.slice ad (nlen 4294967296 d) cd, Value.slice a6 (nlen 4294967296 p) c6] 42)
                have NN : Hid (Nats (wn3.alloc (Obj.cells #[Value.slice ay (nlen 4294967296 y) cy, Value.slice ad (nlen 4294967296 d) cd, Value.slice a6 (nlen 4294967296 p) c6] 42)) (some ⟨wn3.heap.size, 0, none⟩) 3 (threeF y d p)) := hide (nats3 (w := wn3) wn3.heap.size rfl (f := threeF y d p) (a0 := ay) (c0 := cy) (a1 := ad) (c1 := cd) (a2 := a6) (c2 := c6) (IsNat.fr HY.out fz.out) (IsNat.fr HD.out fz.out) I6.out)
                have fz := hide (fz.out.trans fy)
                clear I6
                clear fy
                (try go_wp2_with fail)
                refine hK.out _ _ ?_ (fun hHeld => ?_)
                · (try dsimp only)
                  exact ⟨fr_cell fz.out c8, fr_cell fz.out c9, fr_cell fz.out c10, fr_cell fz.out c11, fz⟩
                clear hK K
                (try simp only [Act.put, List.getElem_toArray, List.getElem_cons_zero, List.getElem_cons_succ, List.setIfInBounds_toArray, List.set_cons_zero, List.set_cons_succ])
                obtain ⟨wB, hwB⟩ : ∃ wB, wB = (wn3.alloc (Obj.cells #[Value.slice ay (nlen 4294967296 y) cy, Value.slice ad (nlen 4294967296 d) cd, Value.slice a6 (nlen 4294967296 p) c6] 42)) := ⟨_, rfl⟩
                rw [← hwB] at fz hHeld ⊢
                rw [← hwB] at NN
                clear hwB
                refine wpAnyH_ready (rs := [5, 6]) (by kernel_rfl) (by simp) ?_
                refine AllReadyH.cons rfl (fun K hK => ?_) (AllReadyH.cons rfl (fun K hK => ?_) AllReadyH.nil)
                · skip
                  go_simp
                  refine (all3 y d p P2 _ _ NN.out (by omega) (by omega) (by omega) H2.out).mono ?_
                  rintro e wn5 ⟨a8, e8, rfl, i8, fy⟩
                  have fz := hide (fz.out.trans fy)
                  have I8 := hide i8
                  clear i8 NN
                  clear fy
                  (try go_wp2_with fail)
                  refine hK.out _ _ ?_ (fun hHeld => ?_)
                  · (try dsimp only)
                    exact ⟨fr_cell fz.out c8, fr_cell fz.out c9, fr_cell fz.out c10, fr_cell fz.out c11, fz⟩
                  clear hK K
                  (try simp only [Act.put, List.getElem_toArray, List.getElem_cons_zero, List.getElem_cons_succ, List.setIfInBounds_toArray, List.set_cons_zero, List.set_cons_succ])
                  refine wpAnyH_ready (rs := [6]) (by kernel_rfl) (by simp) ?_
                  refine AllReadyH.cons rfl (fun K hK => ?_) AllReadyH.nil
                  obtain ⟨bA, hbA⟩ : ∃ b, b = wn5.heap.size := ⟨_, rfl⟩
                  have fy := Fr.alloc wn5 (Obj.cells #[Value.slice none 0 0] 42)
                  have VC : (wn5.alloc (Obj.cells #[Value.slice none 0 0] 42)).cell? ⟨bA, 0, none⟩ = some (.slice none 0 0) := by rw [hbA]; simp [go_sem]
                  have VZ : (wn5.alloc (Obj.cells #[Value.slice none 0 0] 42)).frozen? ⟨bA, 0, none⟩ = false := by rw [hbA]; simp [go_sem]
                  have VC0 := VC
                  have VL : w5.heap.size ≤ bA := by rw [hbA]; exact fz.out.size
                  have I8 := hide (I8.out.fr fy)
                  have fz := hide (fz.out.trans fy)
                  clear fy
                  go_simp
                  rw [← hbA]
                  refine hK.out _ _ ?_ (fun hHeld => ?_)
                  · (try dsimp only)
                    exact ⟨fr_cell fz.out c8, fr_cell fz.out c9, fr_cell fz.out c10, fr_cell fz.out c11, fz⟩
                  clear hK K
                  (try simp only [Act.put, List.getElem_toArray, List.getElem_cons_zero, List.getElem_cons_succ, List.setIfInBounds_toArray, List.set_cons_zero, List.set_cons_succ])
                  obtain ⟨wA, hwA⟩ : ∃ wA, wA = wn5.alloc (Obj.cells #[Value.slice none 0 0] 42) := ⟨_, rfl⟩
                  rw [← hwA] at fz VC VZ VC0 hHeld ⊢
                  rw [← hwA] at I8
                  clear hwA hbA
                  refine wpAnyH_ready (rs := [7]) (by kernel_rfl) (by simp) ?_
                  refine AllReadyH.cons rfl (fun K hK => ?_) AllReadyH.nil
                  go_simp
                  (try go_wp2_with fail)
                  have fz : Hid (Fr w5 (wA.setCell ⟨bA, 0, none⟩ (.slice a8 (nlen 4294967296 P2) e8))) := Below.setCell fz.out VL _
                  have I8 := hide (IsNat.put2 I8.out VC (.slice a8 (nlen 4294967296 P2) e8))
                  have VC := World.cell?_setCell_same wA ⟨bA, 0, none⟩ (.slice a8 (nlen 4294967296 P2) e8) VC
                  refine hK.out _ _ ?_ (fun hHeld => ?_)
                  · (try dsimp only)
                    exact ⟨fr_cell fz.out c8, fr_cell fz.out c9, fr_cell fz.out c10, fr_cell fz.out c11, fz⟩
                  clear hK K
                  (try simp only [Act.put, List.getElem_toArray, List.getElem_cons_zero, List.getElem_cons_succ, List.setIfInBounds_toArray, List.set_cons_zero, List.set_cons_succ])
                  refine wpAnyH_done (by kernel_rfl) ?_ _
                  go_wp2_with fail
                  go_meet
                  exact ⟨_, _, _, rfl, VC, I8, fz⟩
                · skip
                  obtain ⟨bA, hbA⟩ : ∃ b, b = wB.heap.size := ⟨_, rfl⟩
                  have fy := Fr.alloc wB (Obj.cells #[Value.slice none 0 0] 42)
                  have VC : (wB.alloc (Obj.cells #[Value.slice none 0 0] 42)).cell? ⟨bA, 0, none⟩ = some (.slice none 0 0) := by rw [hbA]; simp [go_sem]
                  have VZ : (wB.alloc (Obj.cells #[Value.slice none 0 0] 42)).frozen? ⟨bA, 0, none⟩ = false := by rw [hbA]; simp [go_sem]
                  have VC0 := VC
                  have VL : w5.heap.size ≤ bA := by rw [hbA]; exact fz.out.size
                  have NN := hide (NN.out.fr fy)
                  have fz := hide (fz.out.trans fy)
                  clear fy
                  go_simp
                  rw [← hbA]
                  refine hK.out _ _ ?_ (fun hHeld => ?_)
                  · (try dsimp only)
                    exact ⟨fr_cell fz.out c8, fr_cell fz.out c9, fr_cell fz.out c10, fr_cell fz.out c11, fz⟩
                  clear hK K
                  (try simp only [Act.put, List.getElem_toArray, List.getElem_cons_zero, List.getElem_cons_succ, List.setIfInBounds_toArray, List.set_cons_zero, List.set_cons_succ])
                  obtain ⟨wA, hwA⟩ : ∃ wA, wA = wB.alloc (Obj.cells #[Value.slice none 0 0] 42) := ⟨_, rfl⟩
                  rw [← hwA] at fz VC VZ VC0 hHeld ⊢
                  rw [← hwA] at NN
                  clear hwA hbA
                  refine wpAnyH_ready (rs := [5]) (by kernel_rfl) (by simp) ?_
                  refine AllReadyH.cons rfl (fun K hK => ?_) AllReadyH.nil
                  go_simp
                  refine (all3 y d p P2 _ _ NN.out (by omega) (by omega) (by omega) H2.out).mono ?_
                  rintro e wn5 ⟨a8, e8, rfl, i8, fy⟩
                  have VC := fr_cell fy VC
                  have VZ := fr_free fy VC0 VZ
                  have VC0 := VC
                  have fz := hide (fz.out.trans fy)
                  have I8 := hide i8
                  clear i8 NN
                  clear fy
                  (try go_wp2_with fail)
                  refine hK.out _ _ ?_ (fun hHeld => ?_)
                  · (try dsimp only)
                    exact ⟨fr_cell fz.out c8, fr_cell fz.out c9, fr_cell fz.out c10, fr_cell fz.out c11, fz⟩
                  clear hK K
                  (try simp only [Act.put, List.getElem_toArray, List.getElem_cons_zero, List.getElem_cons_succ, List.setIfInBounds_toArray, List.set_cons_zero, List.set_cons_succ])
                  refine wpAnyH_ready (rs := [7]) (by kernel_rfl) (by simp) ?_
                  refine AllReadyH.cons rfl (fun K hK => ?_) AllReadyH.nil
                  go_simp
                  (try go_wp2_with fail)
                  have fz : Hid (Fr w5 (wn5.setCell ⟨bA, 0, none⟩ (.slice a8 (nlen 4294967296 P2) e8))) := Below.setCell fz.out VL _
                  have I8 := hide (IsNat.put2 I8.out VC (.slice a8 (nlen 4294967296 P2) e8))
                  have VC := World.cell?_setCell_same wn5 ⟨bA, 0, none⟩ (.slice a8 (nlen 4294967296 P2) e8) VC
                  refine hK.out _ _ ?_ (fun hHeld => ?_)
                  · (try dsimp only)
                    exact ⟨fr_cell fz.out c8, fr_cell fz.out c9, fr_cell fz.out c10, fr_cell fz.out c11, fz⟩
                  clear hK K
                  (try simp only [Act.put, List.getElem_toArray, List.getElem_cons_zero, List.getElem_cons_succ, List.setIfInBounds_toArray, List.set_cons_zero, List.set_cons_succ])
                  refine wpAnyH_done (by kernel_rfl) ?_ _
                  go_wp2_with fail
                  go_meet
                  exact ⟨_, _, _, rfl, VC, I8, fz⟩
              · skip
                obtain ⟨bA, hbA⟩ : ∃ b, b = wn3.heap.size := ⟨_, rfl⟩
                have fy := Fr.alloc wn3 (Obj.cells #[Value.slice none 0 0] 42)
                have VC : (wn3.alloc (Obj.cells #[Value.slice none 0 0] 42)).cell? ⟨bA, 0, none⟩ = some (.slice none 0 0) := by rw [hbA]; simp [go_sem]
                have VZ : (wn3.alloc (Obj.cells #[Value.slice none 0 0] 42)).frozen? ⟨bA, 0, none⟩ = false := by rw [hbA]; simp [go_sem]
                have VC0 := VC
                have VL : w5.heap.size ≤ bA := by rw [hbA]; exact fz.out.size
                have I6 := hide (I6.out.fr fy)
                have fz := hide (fz.out.trans fy)
                clear fy
                go_simp
                rw [← hbA]
                refine hK.out _ _ ?_ (fun hHeld => ?_)
                · (try dsimp only)
                  exact ⟨fr_cell fz.out c8, fr_cell fz.out c9, fr_cell fz.out c10, fr_cell fz.out c11, fz⟩
                clear hK K
                (try simp only [Act.put, List.getElem_toArray, List.getElem_cons_zero, List.getElem_cons_succ, List.setIfInBounds_toArray, List.set_cons_zero, List.set_cons_succ])
                obtain ⟨wA, hwA⟩ : ∃ wA, wA = wn3.alloc (Obj.cells #[Value.slice none 0 0] 42) := ⟨_, rfl⟩
                rw [← hwA] at fz VC VZ VC0 hHeld ⊢
                rw [← hwA] at I6
                clear hwA hbA
                refine wpAnyH_ready (rs := [4]) (by kernel_rfl) (by simp) ?_
                refine AllReadyH.cons rfl (fun K hK => ?_) AllReadyH.nil
                go_simp
                have fy := Fr.alloc wA (Obj.cells #[Value.slice ay (nlen 4294967296 y) cy, Value.slice ad (nlen 4294967296 d) cd, Value.slice a6 (nlen 4294967296 p) c6] 42)
                have NN : Hid (Nats (wA.alloc (Obj.cells #[Value.slice ay (nlen 4294967296 y) cy, Value.slice ad (nlen 4294967296 d) cd, Value.slice a6 (nlen 4294967296 p) c6] 42)) (some ⟨wA.heap.size, 0, none⟩) 3 (threeF y d p)) := hide (nats3 (w := wA) wA.heap.size rfl (f := threeF y d p) (a0 := ay) (c0 := cy) (a1 := ad) (c1 := cd) (a2 := a6) (c2 := c6) (IsNat.fr HY.out fz.out) (IsNat.fr HD.out fz.out) I6.out)
                have VC := fr_cell fy VC
                have VZ := fr_free fy VC0 VZ
                have VC0 := VC
                have fz := hide (fz.out.trans fy)
                clear I6
                clear fy
                (try go_wp2_with fail)
                refine hK.out _ _ ?_ (fun hHeld => ?_)
                · (try dsimp only)
                  exact ⟨fr_cell fz.out c8, fr_cell fz.out c9, fr_cell fz.out c10, fr_cell fz.out c11, fz⟩
                clear hK K
                (try simp only [Act.put, List.getElem_toArray, List.getElem_cons_zero, List.getElem_cons_succ, List.setIfInBounds_toArray, List.set_cons_zero, List.set_cons_succ])
                obtain ⟨wB, hwB⟩ : ∃ wB, wB = (wA.alloc (Obj.cells #[Value.slice ay (nlen 4294967296 y) cy, Value.slice ad (nlen 4294967296 d) cd, Value.slice a6 (nlen 4294967296 p) c6] 42)) := ⟨_, rfl⟩
                rw [← hwB] at fz hHeld ⊢
                rw [← hwB] at VC VZ VC0
                rw [← hwB] at NN
                clear hwB
                refine wpAnyH_ready (rs := [5]) (by kernel_rfl) (by simp) ?_
                refine AllReadyH.cons rfl (fun K hK => ?_) AllReadyH.nil
                go_simp
                refine (all3 y d p P2 _ _ NN.out (by omega) (by omega) (by omega) H2.out).mono ?_
                rintro e wn5 ⟨a8, e8, rfl, i8, fy⟩
                have VC := fr_cell fy VC
                have VZ := fr_free fy VC0 VZ
                have VC0 := VC
                have fz := hide (fz.out.trans fy)
                have I8 := hide i8
                clear i8 NN
                clear fy
                (try go_wp2_with fail)
                refine hK.out _ _ ?_ (fun hHeld => ?_)
                · (try dsimp only)
                  exact ⟨fr_cell fz.out c8, fr_cell fz.out c9, fr_cell fz.out c10, fr_cell fz.out c11, fz⟩
                clear hK K
                (try simp only [Act.put, List.getElem_toArray, List.getElem_cons_zero, List.getElem_cons_succ, List.setIfInBounds_toArray, List.set_cons_zero, List.set_cons_succ])
                refine wpAnyH_ready (rs := [7]) (by kernel_rfl) (by simp) ?_
                refine AllReadyH.cons rfl (fun K hK => ?_) AllReadyH.nil
                go_simp
                (try go_wp2_with fail)
                have fz : Hid (Fr w5 (wn5.setCell ⟨bA, 0, none⟩ (.slice a8 (nlen 4294967296 P2) e8))) := Below.setCell fz.out VL _
                have I8 := hide (IsNat.put2 I8.out VC (.slice a8 (nlen 4294967296 P2) e8))
                have VC := World.cell?_setCell_same wn5 ⟨bA, 0, none⟩ (.slice a8 (nlen 4294967296 P2) e8) VC
                refine hK.out _ _ ?_ (fun hHeld => ?_)
                · (try dsimp only)
                  exact ⟨fr_cell fz.out c8, fr_cell fz.out c9, fr_cell fz.out c10, fr_cell fz.out c11, fz⟩
                clear hK K
                (try simp only [Act.put, List.getElem_toArray, List.getElem_cons_zero, List.getElem_cons_succ, List.setIfInBounds_toArray, List.set_cons_zero, List.set_cons_succ])
                refine wpAnyH_done (by kernel_rfl) ?_ _
                go_wp2_with fail
                go_meet
                exact ⟨_, _, _, rfl, VC, I8, fz⟩
            · skip
              obtain ⟨bA, hbA⟩ : ∃ b, b = wd.heap.size := ⟨_, rfl⟩
              have fy := Fr.alloc wd (Obj.cells #[Value.slice none 0 0] 42)
              have VC : (wd.alloc (Obj.cells #[Value.slice none 0 0] 42)).cell? ⟨bA, 0, none⟩ = some (.slice none 0 0) := by rw [hbA]; simp [go_sem]
              have VZ : (wd.alloc (Obj.cells #[Value.slice none 0 0] 42)).frozen? ⟨bA, 0, none⟩ = false := by rw [hbA]; simp [go_sem]
              have VC0 := VC
              have VL : w5.heap.size ≤ bA := by rw [hbA]; exact fz.out.size
              have fz := hide (fz.out.trans fy)
              clear fy
              go_simp
              rw [← hbA]
              refine hK.out _ _ ?_ (fun hHeld => ?_)
              · (try dsimp only)
                exact ⟨fr_cell fz.out c8, fr_cell fz.out c9, fr_cell fz.out c10, fr_cell fz.out c11, fz⟩
              clear hK K
              (try simp only [Act.put, List.getElem_toArray, List.getElem_cons_zero, List.getElem_cons_succ, List.setIfInBounds_toArray, List.set_cons_zero, List.set_cons_succ])
              obtain ⟨wA, hwA⟩ : ∃ wA, wA = wd.alloc (Obj.cells #[Value.slice none 0 0] 42) := ⟨_, rfl⟩
              rw [← hwA] at fz VC VZ VC0 hHeld ⊢
              clear hwA hbA
              refine wpAnyH_ready (rs := [3]) (by kernel_rfl) (by simp) ?_
              refine AllReadyH.cons rfl (fun K hK => ?_) AllReadyH.nil
              go_simp
              refine (ofc_any _ p _ rfl (by omega)).mono ?_
              rintro e wn3 ⟨a6, c6, rfl, i6, _, fy⟩
              have VC := fr_cell fy VC
              have VZ := fr_free fy VC0 VZ
              have VC0 := VC
              have fz := hide (fz.out.trans fy)
              have I6 := hide i6
              clear i6
              clear fy
              (try go_wp2_with fail)
              refine hK.out _ _ ?_ (fun hHeld => ?_)
              · (try dsimp only)
                exact ⟨fr_cell fz.out c8, fr_cell fz.out c9, fr_cell fz.out c10, fr_cell fz.out c11, fz⟩
              clear hK K
              (try simp only [Act.put, List.getElem_toArray, List.getElem_cons_zero, List.getElem_cons_succ, List.setIfInBounds_toArray, List.set_cons_zero, List.set_cons_succ])
              refine wpAnyH_ready (rs := [4]) (by kernel_rfl) (by simp) ?_
              refine AllReadyH.cons rfl (fun K hK => ?_) AllReadyH.nil
              go_simp
              have fy := Fr.alloc wn3 (Obj.cells #[Value.slice ay (nlen 4294967296 y) cy, Value.slice ad (nlen 4294967296 d) cd, Value.slice a6 (nlen 4294967296 p) c6] 42)
              have NN : Hid (Nats (wn3.alloc (Obj.cells #[Value.slice ay (nlen 4294967296 y) cy, Value.slice ad (nlen 4294967296 d) cd, Value.slice a6 (nlen 4294967296 p) c6] 42)) (some ⟨wn3.heap.size, 0, none⟩) 3 (threeF y d p)) := hide (nats3 (w := wn3) wn3.heap.size rfl (f := threeF y d p) (a0 := ay) (c0 := cy) (a1 := ad) (c1 := cd) (a2 := a6) (c2 := c6) (IsNat.fr HY.out fz.out) (IsNat.fr HD.out fz.out) I6.out)
              have VC := fr_cell fy VC
              have VZ := fr_free fy VC0 VZ
              have VC0 := VC
              have fz := hide (fz.out.trans fy)
              clear I6
              clear fy
              (try go_wp2_with fail)
              refine hK.out _ _ ?_ (fun hHeld => ?_)
              · (try dsimp only)
                exact ⟨fr_cell fz.out c8, fr_cell fz.out c9, fr_cell fz.out c10, fr_cell fz.out c11, fz⟩
              clear hK K
              (try simp only [Act.put, List.getElem_toArray, List.getElem_cons_zero, List.getElem_cons_succ, List.setIfInBounds_toArray, List.set_cons_zero, List.set_cons_succ])
              obtain ⟨wB, hwB⟩ : ∃ wB, wB = (wn3.alloc (Obj.cells #[Value.slice ay (nlen 4294967296 y) cy, Value.slice ad (nlen 4294967296 d) cd, Value.slice a6 (nlen 4294967296 p) c6] 42)) := ⟨_, rfl⟩
              rw [← hwB] at fz hHeld ⊢
              rw [← hwB] at VC VZ VC0
              rw [← hwB] at NN
              clear hwB
              refine wpAnyH_ready (rs := [5]) (by kernel_rfl) (by simp) ?_
              refine AllReadyH.cons rfl (fun K hK => ?_) AllReadyH.nil
              go_simp
              refine (all3 y d p P2 _ _ NN.out (by omega) (by omega) (by omega) H2.out).mono ?_
              rintro e wn5 ⟨a8, e8, rfl, i8, fy⟩
              have VC := fr_cell fy VC
              have VZ := fr_free fy VC0 VZ
              have VC0 := VC
              have fz := hide (fz.out.trans fy)
              have I8 := hide i8
              clear i8 NN
              clear fy
              (try go_wp2_with fail)
              refine hK.out _ _ ?_ (fun hHeld => ?_)
              · (try dsimp only)
                exact ⟨fr_cell fz.out c8, fr_cell fz.out c9, fr_cell fz.out c10, fr_cell fz.out c11, fz⟩
              clear hK K
              (try simp only [Act.put, List.getElem_toArray, List.getElem_cons_zero, List.getElem_cons_succ, List.setIfInBounds_toArray, List.set_cons_zero, List.set_cons_succ])
              refine wpAnyH_ready (rs := [7]) (by kernel_rfl) (by simp) ?_
              refine AllReadyH.cons rfl (fun K hK => ?_) AllReadyH.nil
              go_simp
              (try go_wp2_with fail)
              have fz : Hid (Fr w5 (wn5.setCell ⟨bA, 0, none⟩ (.slice a8 (nlen 4294967296 P2) e8))) := Below.setCell fz.out VL _
              have I8 := hide (IsNat.put2 I8.out VC (.slice a8 (nlen 4294967296 P2) e8))
              have VC := World.cell?_setCell_same wn5 ⟨bA, 0, none⟩ (.slice a8 (nlen 4294967296 P2) e8) VC
              refine hK.out _ _ ?_ (fun hHeld => ?_)
              · (try dsimp only)
                exact ⟨fr_cell fz.out c8, fr_cell fz.out c9, fr_cell fz.out c10, fr_cell fz.out c11, fz⟩
              clear hK K
              (try simp only [Act.put, List.getElem_toArray, List.getElem_cons_zero, List.getElem_cons_succ, List.setIfInBounds_toArray, List.set_cons_zero, List.set_cons_succ])
              refine wpAnyH_done (by kernel_rfl) ?_ _
              go_wp2_with fail
              go_meet
              exact ⟨_, _, _, rfl, VC, I8, fz⟩
          case rest =>
            obtain ⟨k2, al2, cl2, rfl, v2, IH, F1⟩ := hcut
            obtain ⟨w6, hw6⟩ : ∃ V, V = wc := ⟨_, rfl⟩
            rw [← hw6] at v2 IH F1 ⊢
            have c8 := fr_cell F1.out c8
            have c9 := fr_cell F1.out c9
            have c10 := fr_cell F1.out c10
            have c11 := fr_cell F1.out c11
            have HX := hide (HX.out.fr F1.out)
            have HD := hide (HD.out.fr F1.out)
            have HY := hide (HY.out.fr F1.out)
            have HG := hide (HG.out.fr F1.out)
            have F := hide (F.out.trans F1.out)
            have v1 := fr_cell F1.out v1
            have IL := hide (IL.out.fr F1.out)
            clear F1 hw6
            go_upto_region 12 with fail
            refine wp_region_held_drew (S := (fun w' => w'.cell? ⟨k1, 0, none⟩ = some (.slice al1 (nlen 4294967296 P1) cl1) ∧ w'.cell? ⟨k2, 0, none⟩ = some (.slice al2 (nlen 4294967296 P2) cl2) ∧ w'.cell? ⟨w1.heap.size + 1, 0, none⟩ = some (.slice ad (nlen 4294967296 d) cd) ∧ w'.cell? ⟨w2.heap.size + 1, 0, none⟩ = some (.slice ag (nlen 4294967296 g) cg) ∧ Hid (Fr w6 w'))) (by kernel_rfl) ?_ (fun hHeld => ?_)
            · exact ⟨v1, v2, c9, c11, Fr.drew _⟩
            refine wpAnyH_take (i := 0) (v := ?_) rfl (by kernel_rfl) (by kernel_rfl) (by kernel_rfl) (fun _ _ _ h => h) (Or.inl ⟨by rfl, ?_⟩) (by assumption) ?_
            rotate_left
            · (intro w hSw; (try dsimp only at hSw); go_simp; try with_reducible rfl)
            (try simp only [Act.put, List.getElem_toArray, List.getElem_cons_zero, List.getElem_cons_succ, List.setIfInBounds_toArray, List.set_cons_zero, List.set_cons_succ])
            refine wpAnyH_take (i := 1) (v := ?_) rfl (by kernel_rfl) (by kernel_rfl) (by kernel_rfl) (fun _ _ _ h => h) (Or.inl ⟨by rfl, ?_⟩) (by assumption) ?_
            rotate_left
            · (intro w hSw; (try dsimp only at hSw); go_simp; try with_reducible rfl)
            (try simp only [Act.put, List.getElem_toArray, List.getElem_cons_zero, List.getElem_cons_succ, List.setIfInBounds_toArray, List.set_cons_zero, List.set_cons_succ])
            refine wpAnyH_take (i := 3) (v := ?_) rfl (by kernel_rfl) (by kernel_rfl) (by kernel_rfl) (fun _ _ _ h => h) (Or.inl ⟨by rfl, ?_⟩) (by assumption) ?_
            rotate_left
            · (intro w hSw; (try dsimp only at hSw); go_simp; try with_reducible rfl)
            (try simp only [Act.put, List.getElem_toArray, List.getElem_cons_zero, List.getElem_cons_succ, List.setIfInBounds_toArray, List.set_cons_zero, List.set_cons_succ])
            refine wpAnyH_take (i := 4) (v := ?_) rfl (by kernel_rfl) (by kernel_rfl) (by kernel_rfl) (fun _ _ _ h => h) (Or.inl ⟨by rfl, ?_⟩) (by assumption) ?_
            rotate_left
            · (intro w hSw; (try dsimp only at hSw); go_simp; try with_reducible rfl)
            (try simp only [Act.put, List.getElem_toArray, List.getElem_cons_zero, List.getElem_cons_succ, List.setIfInBounds_toArray, List.set_cons_zero, List.set_cons_succ])
            refine wpAnyH_take (i := 5) (v := ?_) rfl (by kernel_rfl) (by kernel_rfl) (by kernel_rfl) (fun _ _ _ h => h) (Or.inl ⟨by rfl, ?_⟩) (by assumption) ?_
            rotate_left
            · (intro w hSw; (try dsimp only at hSw); go_simp; try with_reducible rfl)
            (try simp only [Act.put, List.getElem_toArray, List.getElem_cons_zero, List.getElem_cons_succ, List.setIfInBounds_toArray, List.set_cons_zero, List.set_cons_succ])
            refine wpAnyH_take (i := 6) (v := ?_) rfl (by kernel_rfl) (by kernel_rfl) (by kernel_rfl) (fun _ _ _ h => h) (Or.inl ⟨by rfl, ?_⟩) (by assumption) ?_
            rotate_left
            · (intro w hSw; (try dsimp only at hSw); go_simp; try with_reducible rfl)
            (try simp only [Act.put, List.getElem_toArray, List.getElem_cons_zero, List.getElem_cons_succ, List.setIfInBounds_toArray, List.set_cons_zero, List.set_cons_succ])
            refine wpAnyH_ready (rs := [2]) (by kernel_rfl) (by simp) ?_
            refine AllReadyH.cons rfl (fun K hK => ?_) AllReadyH.nil
            go_simp
            have hh := hHeld.2.2.2.2
            refine (addc_any _ _ P1 P2 P3 _ (IL.out.fr hh.out) (IH.out.fr hh.out) (by omega) (by omega) H3.out).mono ?_
            rintro e wn ⟨a3, e3, rfl, i3, fy⟩
            have fz := hide (hh.out.trans fy)
            have I3 := hide i3; clear i3 fy
            clear hh
            (try go_wp2_with fail)
            refine hK.out _ _ ?_ (fun hHeld => ?_)
            · (try dsimp only)
              exact ⟨fr_cell fz.out v1, fr_cell fz.out v2, fr_cell fz.out c9, fr_cell fz.out c11, fz⟩
            clear hK K
            (try simp only [Act.put, List.getElem_toArray, List.getElem_cons_zero, List.getElem_cons_succ, List.setIfInBounds_toArray, List.set_cons_zero, List.set_cons_succ])
            refine wpAnyH_ready (rs := [7]) (by kernel_rfl) (by simp) ?_
            refine AllReadyH.cons rfl (fun K hK => ?_) AllReadyH.nil
            go_simp
            have hh := hHeld.2.2.2.2
            refine (ofc_any _ wh _ rfl (by omega)).mono ?_
            rintro e wn ⟨a6, c6, rfl, i6, _, fy⟩
            have fz := hide (hh.out.trans fy)
            have I6 := hide i6; have I3 := hide (I3.out.fr fy); clear i6 fy
            clear hh
            (try go_wp2_with fail)
            refine hK.out _ _ ?_ (fun hHeld => ?_)
            · (try dsimp only)
              exact ⟨fr_cell fz.out v1, fr_cell fz.out v2, fr_cell fz.out c9, fr_cell fz.out c11, fz⟩
            clear hK K
            (try simp only [Act.put, List.getElem_toArray, List.getElem_cons_zero, List.getElem_cons_succ, List.setIfInBounds_toArray, List.set_cons_zero, List.set_cons_succ])
            refine wpAnyH_ready (rs := [8]) (by kernel_rfl) (by simp) ?_
            refine AllReadyH.cons rfl (fun K hK => ?_) AllReadyH.nil
            go_simp
            have fy := Fr.alloc wn (Obj.cells #[Value.slice ad (nlen 4294967296 d) cd, Value.slice ag (nlen 4294967296 g) cg, Value.slice a6 (nlen 4294967296 wh) c6] 42)
            have NN : Hid (Nats (wn.alloc (Obj.cells #[Value.slice ad (nlen 4294967296 d) cd, Value.slice ag (nlen 4294967296 g) cg, Value.slice a6 (nlen 4294967296 wh) c6] 42)) (some ⟨wn.heap.size, 0, none⟩) 3 (threeF d g wh)) := hide (nats3 (w := wn) wn.heap.size rfl (f := threeF d g wh) (a0 := ad) (c0 := cd) (a1 := ag) (c1 := cg) (a2 := a6) (c2 := c6) (IsNat.fr HD.out fz.out) (IsNat.fr HG.out fz.out) I6.out)
            have fz := hide (fz.out.trans fy)
            have I3 := hide (I3.out.fr fy)
            clear I6 fy
            (try go_wp2_with fail)
            refine hK.out _ _ ?_ (fun hHeld => ?_)
            · (try dsimp only)
              exact ⟨fr_cell fz.out v1, fr_cell fz.out v2, fr_cell fz.out c9, fr_cell fz.out c11, fz⟩
            clear hK K
            (try simp only [Act.put, List.getElem_toArray, List.getElem_cons_zero, List.getElem_cons_succ, List.setIfInBounds_toArray, List.set_cons_zero, List.set_cons_succ])
            refine wpAnyH_ready (rs := [9]) (by kernel_rfl) (by simp) ?_
            refine AllReadyH.cons rfl (fun K hK => ?_) AllReadyH.nil
            go_simp
            have hh := hHeld.2.2.2.2
            refine (all3 d g wh D _ _ NN.out (by omega) (by omega) (by omega) H4.out).mono ?_
            rintro e wn ⟨a9, e9, rfl, i9, fy⟩
            have fz := hide (hh.out.trans fy)
            have I9 := hide i9; have I3 := hide (I3.out.fr fy); clear i9 fy NN
            clear hh
            (try go_wp2_with fail)
            refine hK.out _ _ ?_ (fun hHeld => ?_)
            · (try dsimp only)
              exact ⟨fr_cell fz.out v1, fr_cell fz.out v2, fr_cell fz.out c9, fr_cell fz.out c11, fz⟩
            clear hK K
            (try simp only [Act.put, List.getElem_toArray, List.getElem_cons_zero, List.getElem_cons_succ, List.setIfInBounds_toArray, List.set_cons_zero, List.set_cons_succ])
            refine wpAnyH_ready (rs := [10]) (by kernel_rfl) (by simp) ?_
            refine AllReadyH.cons rfl (fun K hK => ?_) AllReadyH.nil
            go_simp
            have hh := hHeld.2.2.2.2
            refine (nearest_any _ _ P3 D _ _ I3.out I9.out (by omega) (by omega) D0 HT.out).mono ?_
            rintro e wn ⟨rfl, fy⟩
            have fz := hide (hh.out.trans fy)
            clear fy I3 I9
            clear hh
            (try go_wp2_with fail)
            refine hK.out _ _ ?_ (fun hHeld => ?_)
            · (try dsimp only)
              exact ⟨fr_cell fz.out v1, fr_cell fz.out v2, fr_cell fz.out c9, fr_cell fz.out c11, fz⟩
            clear hK K
            (try simp only [Act.put, List.getElem_toArray, List.getElem_cons_zero, List.getElem_cons_succ, List.setIfInBounds_toArray, List.set_cons_zero, List.set_cons_succ])
            refine wpAnyH_take (i := 11) (v := ?_) rfl (by kernel_rfl) (by kernel_rfl) (by kernel_rfl) (fun _ _ _ h => h) (Or.inl ⟨by rfl, ?_⟩) (by assumption) ?_
            rotate_left
            · (intro w hSw; (try dsimp only at hSw); go_simp; try with_reducible rfl)
            (try simp only [Act.put, List.getElem_toArray, List.getElem_cons_zero, List.getElem_cons_succ, List.setIfInBounds_toArray, List.set_cons_zero, List.set_cons_succ])
            refine wpAnyH_take (i := 12) (v := ?_) rfl (by kernel_rfl) (by kernel_rfl) (by kernel_rfl) (fun _ _ _ h => h) (Or.inl ⟨by rfl, ?_⟩) (by assumption) ?_
            rotate_left
            · (intro w hSw; (try dsimp only at hSw); go_simp; try with_reducible rfl)
            (try simp only [Act.put, List.getElem_toArray, List.getElem_cons_zero, List.getElem_cons_succ, List.setIfInBounds_toArray, List.set_cons_zero, List.set_cons_succ])
            refine wpAnyH_take (i := 13) (v := ?_) rfl (by kernel_rfl) (by kernel_rfl) (by kernel_rfl) (fun _ _ _ h => h) (Or.inl ⟨by rfl, ?_⟩) (by assumption) ?_
            rotate_left
            · (intro w hSw; (try dsimp only at hSw); go_simp; try with_reducible rfl)
            (try simp only [Act.put, List.getElem_toArray, List.getElem_cons_zero, List.getElem_cons_succ, List.setIfInBounds_toArray, List.set_cons_zero, List.set_cons_succ])
            refine wpAnyH_take (i := 14) (v := ?_) rfl (by kernel_rfl) (by kernel_rfl) (by kernel_rfl) (fun _ _ _ h => h) (Or.inl ⟨by rfl, ?_⟩) (by assumption) ?_
            rotate_left
            · (intro w hSw; (try dsimp only at hSw); go_simp; try with_reducible rfl)
            (try simp only [Act.put, List.getElem_toArray, List.getElem_cons_zero, List.getElem_cons_succ, List.setIfInBounds_toArray, List.set_cons_zero, List.set_cons_succ])
            refine wpAnyH_take (i := 15) (v := ?_) rfl (by kernel_rfl) (by kernel_rfl) (by kernel_rfl) (fun _ _ _ h => h) (Or.inl ⟨by rfl, ?_⟩) (by assumption) ?_
            rotate_left
            · (intro w hSw; (try dsimp only at hSw); go_simp; try with_reducible rfl)
            (try simp only [Act.put, List.getElem_toArray, List.getElem_cons_zero, List.getElem_cons_succ, List.setIfInBounds_toArray, List.set_cons_zero, List.set_cons_succ])
            refine wpAnyH_done (by kernel_rfl) ?_ _
            have FF := hide (F.out.trans fz.out)
            have hpw : p ≤ wh := by have := HP.out; omega
            have hb1 : bits .and .u64 (B : Int) 1 = ((B % 2 : Nat) : Int) := by go_bits2
            have lB := LB.out
            have m2 : IntKind.u64.wrap (2 * (p : Int)) = 2 * (p : Int) := by rw [IntKind.wrap_u64]; omega
            have hN := HN.out
            clear HN HT HP
            by_cases e1 : wh < 2 * p
            · rw [if_pos e1] at hN
              have eN : (N : Int) = (B : Int) + 1 := by omega
              rw [eN]
              clear hN eN
              go_wp2_with fail
              go_ret
              exact ⟨rfl, FF.out⟩
            · rw [if_neg e1] at hN
              by_cases e2 : 2 * p = wh
              · rw [if_pos e2] at hN
                rcases Nat.mod_two_eq_zero_or_one B with e3 | e3
                · rw [e3] at hb1 hN
                  have eN : (N : Int) = (B : Int) := by omega
                  rw [eN]
                  have e4 : (2 * (p : Int) == (wh : Int)) = true := by simp; omega
                  clear hN eN
                  go_wp2_with fail
                  go_ret
                  exact ⟨rfl, FF.out⟩
                · rw [e3] at hb1 hN
                  have eN : (N : Int) = (B : Int) + 1 := by omega
                  rw [eN]
                  have e4 : (2 * (p : Int) == (wh : Int)) = true := by simp; omega
                  clear hN eN
                  go_wp2_with fail
                  go_ret
                  exact ⟨rfl, FF.out⟩
              · rw [if_neg e2] at hN
                have eN : (N : Int) = (B : Int) := by omega
                rw [eN]
                have e4 : (2 * (p : Int) == (wh : Int)) = false := by simp only [beq_eq_false_iff_ne]; omega
                clear hN eN
                go_wp2_with fail
                go_ret
                exact ⟨rfl, FF.out⟩
end Go.Proofs.Ytphoimjjhcjniaa
