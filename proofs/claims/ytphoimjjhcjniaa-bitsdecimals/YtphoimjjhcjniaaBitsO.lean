/- The law BitsDecimals. -/
import Derived.Test.YtphoimjjhcjniaaBitsN
import Derived.Deep.CutBlock
namespace Go.Proofs.Ytphoimjjhcjniaa
set_option linter.unusedVariables false
set_option linter.unusedSimpArgs false
open Go.RowKit

theorem tenT_any (k : Int) (P : Nat) (w : World) (h0 : -9223372036854775808 ≤ k) (h1 : k ≤ 100000) (e : 10 ^ k.toNat = P) :
    Calls Try.prog 19 #[.int .i64 k] w fun e w' => ∃ a c, e = .returned (.agg #[.slice a (nlen 4294967296 P) c]) ∧ IsNat w' (.agg #[.slice a (nlen 4294967296 P) c]) P ∧ Fr w w' := by
  subst e
  exact ten_any k w h0 h1
theorem nl_dec {x n : Nat} (h : x < 10 ^ n) : nlen 4294967296 x ≤ n := nlen_le b32 (Nat.lt_of_lt_of_le h (Nat.pow_le_pow_left (by omega) n))

theorem decP_nl (b : Nat) : nlen 10 (decP b) ≤ 3000 := by
  obtain ⟨x0, x1⟩ := bX_bd b
  have m0 := bM_lt b
  have h0 : nlen 10 (bM b) ≤ 20 := nlen_le ten2 (show bM b < 10 ^ 20 by omega)
  have h1 := nlen10_pow (k := 2) h0 (by omega) (bX b).toNat
  have h2 := nlen10_pow (k := 5) h1 (by omega) (-bX b).toNat
  unfold decP
  omega
theorem ref_parts {c : Nat} (hc : c < 9218868437227405312) : ∃ (C1 M1 : Nat) (E1 : Int) (Q qk : Nat), Hid (∀ w : World, Calls Try.prog 10 #[.int .u64 (c : Int)] w fun e w' => e = .returned (.agg #[.int .i64 (C1 : Int), .bool false, .int .u64 (M1 : Int), .int .i64 E1]) ∧ Fr w w') ∧ (C1 : Int) ≤ 1 ∧ M1 < 9007199254740992 ∧ -1074 ≤ E1 ∧ E1 ≤ 971 ∧ Hid (M1 * 2 ^ E1.toNat * 5 ^ (-E1).toNat = Q) ∧ Hid ((-E1).toNat = qk) ∧ nlen 10 Q ≤ 3000 ∧ qk ≤ 1074 ∧ Hid (decP c = Q) ∧ Hid (decK c = qk) := by
  obtain ⟨u1, u2⟩ := small_class hc
  obtain ⟨y0, y1⟩ := bX_bd c
  refine ⟨bC c, bM c, bX c, decP c, decK c, hide (fun w => ?_), by omega, bM_lt c, y0, y1, hide rfl, hide rfl, decP_nl c, by unfold decK; omega, hide rfl, hide rfl⟩
  have h := refOf_any7 c w (by omega)
  unfold bval at h
  rw [u2] at h
  exact h
theorem and_one (N : Nat) (h : N < 18446744073709551616) : bits .and .u64 (N : Int) 1 = ((N % 2 : Nat) : Int) := by go_bits2
theorem nl_sum10 {x y n : Nat} (hx : nlen 10 x ≤ n) (hy : nlen 10 y ≤ n) : nlen 10 (x + y) ≤ n + 1 := nlen_le ten2 (sum_lt ten2 (lt_of_nlen ten2 hx) (lt_of_nlen ten2 hy))
theorem refTensc_any (va : Value) (x : Nat) (k : Int) (R : Nat) (w : World) (ha : IsDec w va x) (hx : nlen 10 x ≤ 1000000) (k0 : -9223372036854775808 ≤ k) (k1 : k ≤ 1000000) (e : x * 10 ^ k.toNat = R) :
    Calls Try.prog 21 #[va, .int .i64 k] w fun e w' => ∃ v, e = .returned v ∧ IsDec w' v R ∧ Fr w w' := by
  subst e
  exact refTens_any va x k w ha hx k0 k1

attribute [local go_sem] World.cell?_alloc_some
set_option maxHeartbeats 8000000 in
set_option maxRecDepth 8000 in
theorem law_BitsDecimals (a1 : Option Addr) (len1 cap1 : Nat) (z1 : List Int) (e : Int) (w : World) (h1 : IsRow .u8 w a1 len1 cap1 z1) (he : (Lit.int .i64 e).wf = true) :
    Calls Try.prog 6 #[.slice a1 len1 cap1, .int .i64 e] w fun r w' => r = .returned (.bool true) ∧ Fr w w' := by
  obtain ⟨f, cs1, f0, p1, p2, p3⟩ := row_u8 h1
  unfold maxLen at p2
  have e01 : -9223372036854775808 ≤ e ∧ e ≤ 9223372036854775807 := by
    simp [Lit.wf, IntKind.min, IntKind.max, IntKind.signed, IntKind.bits] at he
    omega
  obtain ⟨e0, e1⟩ := e01
  obtain ⟨m, hm⟩ : ∃ m, min len1 25 = m := ⟨_, rfl⟩
  have hmi : min (len1 : Int) 25 = (m : Int) := by omega
  have m1 : m ≤ len1 := by omega
  have m2 : m ≤ 25 := by omega
  obtain ⟨i0, hi, hz0, hz1, hz2⟩ := info_parts info64
  obtain ⟨D, hD⟩ : ∃ D, numD f m = D := ⟨_, rfl⟩
  have HDL : Hid (D < 10 ^ m) := by rw [← hD]; exact numD_lt f m
  have HDD : Hid (∀ j, j < m → dg 10 D j = f j % 10) := by rw [← hD]; exact fun j h => numD_dg f h
  clear h1 he hD
  go_enter Try.func6, Try.ntmps6
  go_upto_region 2 with fail
  go_cut [33, 34, 35] (fun t33 t34 t35 wx => t33 = .slice a1 m cap1 ∧ t34 = .int .i64 m ∧ t35 = .int .i64 0 ∧ Hid (Fr w wx))
  case first => as_aux_lemma =>
    clear cs1 f0
    rcases a1 with _ | ad
    · obtain rfl := p3 rfl
      obtain rfl : len1 = 0 := by omega
      obtain rfl : m = 0 := by omega
      clear p3 hm hmi m1 m2
      go_wp2_with fail
      go_meet
      exact ⟨rfl, rfl, rfl, hide (Fr.refl _)⟩
    · clear p3 hm
      by_cases hl : len1 ≤ 25
      · obtain rfl : len1 = m := by omega
        clear hmi
        go_wp2_with fail
        go_meet
        exact ⟨rfl, rfl, rfl, hide (Fr.refl _)⟩
      · obtain rfl : m = 25 := by omega
        clear hmi
        go_wp2_with fail
        go_meet
        exact ⟨rfl, rfl, rfl, hide (Fr.refl _)⟩
  case rest =>
    obtain ⟨rfl, rfl, rfl, hF0⟩ := hcut
    have HC := hide cs1
    have HF := hide f0
    clear cs1 f0 p3 hm
    go_wp2_with fail
    go_loopw [5, 35] (fun s i wr => ∃ (k : Nat) (ao : Option Addr) (co : Nat), k ≤ m ∧ i = .int .i64 k ∧ s = .slice ao k co ∧ Hid (wr.ownsRow w.heap.size 3 1 (.slice ao k co) k (rowOf .i64 k (dg 10 D))) ∧ Hid (Fr w wr)) (fun _ i _ => m - (intOf i).toNat)
    case atStart => exact ⟨0, none, 0, by omega, rfl, rfl, World.ownsRow_nil _ _ _ _, hF0⟩
    case round =>
      obtain ⟨k, ao, co, hk, rfl, rfl, hO, hF⟩ := hrel
      by_cases hlt : k < m
      · rcases HC.out with q | ⟨b, off, rfl, hb, hcs⟩
        · omega
        obtain ⟨d, hd⟩ : ∃ d : Nat, f k = d := ⟨_, rfl⟩
        have hdb : d ≤ 255 := by rw [← hd]; exact HF.out k
        have hcell := fr_cell hF.out (hcs k (by omega))
        rw [hd] at hcell
        have hq : Hid ((d : Int) % 10 = (dg 10 D k : Int)) := by refine hide ?_; rw [HDD.out k hlt, hd]; omega
        clear hd hcs
        go_wp2_with (at_builtin; refine wpList_append_own _ rfl _ _ 51 rfl w.heap.size 3 i0 (.int .i64 0) 1 8 Try.underlying51 hi hz0 hz1 hz2 rfl (by decide) _ _ _ rfl (hO.out.alloc _) ⟨wr.heap.size, 0, none⟩ 1 1 [.int .i64 ((d : Int) % 10)] rfl rfl ?c1 ?c2 ?c3 ?c4 ?c5 ?_)
        case c1 => exact cell_one_new _ _ _
        case c2 => intro u hu; simp at hu; subst hu; rfl
        case c3 => unfold maxLen; omega
        case c4 => omega
        case c5 => have := hF.out.size; simp; omega
        intro v' w2 hown' hgrow _
        obtain ⟨a2, c2, hv2, _, _, _⟩ := own_form hown'
        rw [hv2] at hown'
        rw [hv2]
        have hF2 : Fr w w2 := Below.grown (Below.alloc hF.out hF.out.size _) hgrow (by have := hF.out.size; simp; omega) (own_below hO.out)
        have hown2 : w2.ownsRow w.heap.size 3 1 (.slice a2 (k + 1) c2) (k + 1) (rowOf .i64 (k + 1) (dg 10 D)) := by
          rw [← rowOf_snoc, ← hq.out]; exact hown'
        have HO2 := hide hown2
        have HF2 := hide hF2
        clear hgrow hown' hv2 hown2 hF2
        go_wp2_with fail
        go_roundw
        case rel => exact ⟨k + 1, a2, c2, by omega, by go_num, rfl, HO2, HF2⟩
        case measure => simp [intOf]; omega
      · obtain rfl : k = m := by omega
        have HN : Hid (IsDecN wr (.slice ao k co) k D) := by
          obtain ⟨_, _, he, hc1, hc2, _⟩ := own_form hO.out
          simp only [Value.slice.injEq] at he
          obtain ⟨rfl, _, rfl⟩ := he
          exact ⟨ao, co, rfl, hc1, hc2, HDL.out, own_cs hO.out⟩
        have D25 : Hid (D < 10 ^ 25) := Nat.lt_of_lt_of_le HDL.out (Nat.pow_le_pow_right (by omega) m2)
        obtain ⟨w1, hw1⟩ : ∃ V, V = wr := ⟨_, rfl⟩
        rw [← hw1] at HN hF ⊢
        clear HC HF p1 p2 m1 hmi hlt hk hO HDL HDD hi hz0 hz1 hz2 hw1 hF0
        go_wp2_with fail
        refine (refAdd_gen _ _ D 0 k 0 _ HN.out (isDecN_nil _) (by omega) (by omega)).mono ?_
        rintro r w2 ⟨dv, rfl, i2, f2⟩
        rw [Nat.add_zero] at i2
        obtain ⟨da, dc, rfl, d2, d3, d4⟩ := i2
        have HD : Hid (IsDec w2 (.slice da (nlen 10 D) dc) D) := ⟨da, dc, rfl, d2, d3, d4⟩
        have F2 := hide (hF.out.trans f2)
        obtain ⟨n, hn⟩ : ∃ n, nlen 10 D = n := ⟨_, rfl⟩
        rw [hn] at HD d2 ⊢
        have HNL := hide hn
        have n25 : n ≤ 25 := by rw [← hn]; exact nlen_le ten2 D25.out
        unfold maxLen at d3
        obtain ⟨K, hK⟩ : ∃ K : Int, max (-40) (min e 60) = K := ⟨_, rfl⟩
        have K0 : -40 ≤ K := by omega
        have K1 : K ≤ 60 := by omega
        have HK := hide hK
        clear hK hn d4 f2 hF HN
        go_upto_region 8 with fail
        go_cut [8] (fun s8 wx => s8 = .int .i64 K ∧ wx = w2)
        case first => as_aux_lemma =>
          have hK := HK.out
          by_cases k1 : e ≤ -40
          · obtain rfl : K = -40 := by omega
            clear hK HK
            go_wp2_with fail
            all_goals (first | (go_meet; exact ⟨rfl, rfl⟩) | (go_meet; exact ⟨by congr 1; omega, rfl⟩))
          · by_cases k2 : e ≤ 60
            · obtain rfl : K = e := by omega
              clear hK HK
              go_wp2_with fail
              all_goals (first | (go_meet; exact ⟨rfl, rfl⟩) | (go_meet; exact ⟨by congr 1; omega, rfl⟩))
            · obtain rfl : K = 60 := by omega
              clear hK HK
              go_wp2_with fail
              all_goals (first | (go_meet; exact ⟨rfl, rfl⟩) | (go_meet; exact ⟨by congr 1; omega, rfl⟩))
        case rest =>
          obtain ⟨rfl, rfl⟩ := hcut
          obtain ⟨Y, hY⟩ : ∃ Y, 10 ^ K.toNat = Y := ⟨_, rfl⟩
          have nY : nlen 4294967296 Y ≤ 100 := by
            rw [← hY]
            have := nlen_pow (x := 10) (n := 1) (by rw [nlten]; omega) K.toNat
            omega
          have Y0 : Y ≠ 0 := by rw [← hY]; have := Nat.pow_pos (n := K.toNat) (show 0 < 10 by omega); omega
          have HY := hide hY
          clear hY HK e0 e1
          obtain ⟨w2, hw2⟩ : ∃ V, V = wc := ⟨_, rfl⟩
          rw [← hw2] at HD F2 ⊢
          clear hw2
          go_wp2_with fail
          refine (tenT_any K Y _ (by omega) (by omega) HY.out).mono ?_
          rintro r w3 ⟨ay, cy, rfl, iy, f3⟩
          have F3 := hide (F2.out.trans f3)
          have F3s : Hid (w.heap.size ≤ w3.heap.size) := F3.out.size
          have HD := hide (IsDec.fr HD.out f3)
          have IY := hide iy
          clear iy f3 F2
          go_wp2_with fail
          obtain ⟨W, hW⟩ : ∃ W, W = (w3.alloc (Obj.cells #[Value.slice none 0 0] 42)).alloc (Obj.cells #[Value.slice ay (nlen 4294967296 Y) cy] 42) := ⟨_, rfl⟩
          have fW : Fr w3 W := by rw [hW]; exact (Fr.alloc _ _).trans (Fr.alloc _ _)
          have c9 : W.cell? ⟨w3.heap.size, 0, none⟩ = some (.slice none 0 0) := by rw [hW]; simp [go_sem]
          have z9 : W.frozen? ⟨w3.heap.size, 0, none⟩ = false := by rw [hW]; simp [go_sem]
          have c10 : W.cell? ⟨w3.heap.size + 1, 0, none⟩ = some (.slice ay (nlen 4294967296 Y) cy) := by rw [hW]; simp [go_sem]
          rw [← hW]
          clear hW
          have F3 := hide (F3.out.trans fW)
          have HD := hide (IsDec.fr HD.out fW)
          have IY := hide (IsNat.fr IY.out fW)
          have s9 : w.heap.size ≤ w3.heap.size := F3s.out
          clear fW
          have HDn := HNL.out
          go_loopw [11] (fun s11 wr => ∃ (i : Nat) (an : Option Addr) (cn : Nat), i ≤ n ∧ s11 = .int .i64 ((i : Int) - 1) ∧ (wr.cell? ⟨w3.heap.size, 0, none⟩ = some (.slice an (nlen 4294967296 (D / 10 ^ i)) cn) ∧ wr.frozen? ⟨w3.heap.size, 0, none⟩ = false ∧ wr.cell? ⟨w3.heap.size + 1, 0, none⟩ = some (.slice ay (nlen 4294967296 Y) cy)) ∧ Hid (IsNat wr (.agg #[.slice an (nlen 4294967296 (D / 10 ^ i)) cn]) (D / 10 ^ i)) ∧ Hid (IsNat wr (.agg #[.slice ay (nlen 4294967296 Y) cy]) Y) ∧ Hid (IsDec wr (.slice da n dc) D) ∧ Hid (Fr w wr)) (fun s11 _ => (intOf s11 + 1).toNat)
          case atStart =>
            have hz : D / 10 ^ n = 0 := Nat.div_eq_of_lt (by rw [← HDn]; exact lt_nlen ten2 D)
            refine ⟨n, none, 0, by omega, by go_num, ⟨?_, z9, c10⟩, ?_, IY, HD, F3⟩
            · rw [hz, nlen_zero]; exact c9
            · rw [hz, nlen_zero]; exact hide (isNat_zero _)
          case round =>
            obtain ⟨i, an, cn, hi, rfl, ⟨c9, z9, c10⟩, IN, IY, HD, hF⟩ := hrel
            by_cases c0 : i = 0
            · subst c0
              rw [Nat.pow_zero, Nat.div_one] at c9 IN
              obtain ⟨W5, hW5⟩ : ∃ V, V = wr := ⟨_, rfl⟩
              rw [← hW5] at c9 z9 c10 IN IY HD hF ⊢
              obtain ⟨X, hX⟩ : ∃ X, D * 10 ^ (-K).toNat = X := ⟨_, rfl⟩
              have X65 : Hid (X < 10 ^ 65) := by
                refine hide ?_
                rw [← hX]
                have g := Nat.mul_lt_mul_of_pos_right D25.out (Nat.pow_pos (n := (-K).toNat) (show 0 < 10 by omega))
                rw [← Nat.pow_add] at g
                exact Nat.lt_of_lt_of_le g (Nat.pow_le_pow_right (by omega) (by omega))
              have nX : nlen 4294967296 X ≤ 65 := nl_dec X65.out
              have nD : nlen 4294967296 D ≤ 25 := nl_dec D25.out
              have HX := hide hX
              clear hX hW5 HDn hi
              go_upto_if 72 with fail
              go_cut [8] (fun s8 wx => ∃ ax cx, s8 = .int .i64 K ∧ (wx.cell? ⟨w3.heap.size, 0, none⟩ = some (.slice ax (nlen 4294967296 X) cx) ∧ wx.cell? ⟨w3.heap.size + 1, 0, none⟩ = some (.slice ay (nlen 4294967296 Y) cy)) ∧ Hid (IsNat wx (.agg #[.slice ax (nlen 4294967296 X) cx]) X) ∧ Hid (IsNat wx (.agg #[.slice ay (nlen 4294967296 Y) cy]) Y) ∧ Hid (IsDec wx (.slice da n dc) D) ∧ Hid (Fr w wx))
              case first => as_aux_lemma =>
                by_cases cK : K < 0
                · obtain ⟨Z, hZ⟩ : ∃ Z, 10 ^ (-K).toNat = Z := ⟨_, rfl⟩
                  have hX := HX.out
                  rw [hZ] at hX
                  have nZ : nlen 4294967296 Z ≤ 100 := by
                    rw [← hZ]
                    have := nlen_pow (x := 10) (n := 1) (by rw [nlten]; omega) (-K).toNat
                    omega
                  have HZ := hide hZ
                  have HXZ := hide hX
                  have hneg : IntKind.i64.wrap (-K) = -K := i64_small (by omega) (by omega)
                  clear hZ hX
                  go_wp2_with fail
                  have c90 := hide c9
                  refine wp_region_held_drew (S := (fun w' => Hid (Fr w w'))) (by kernel_rfl) ?_ (fun hHeld => ?_)
                  · exact hide (hF.out.trans (Fr.drew _))
                  have fz := hide (Fr.drew W5)
                  generalize W5.drew = wd at fz hHeld ⊢
                  refine wpAnyH_take (i := 1) (v := ?_) rfl (by kernel_rfl) (by kernel_rfl) (by kernel_rfl) (fun _ _ _ h => h) (Or.inl ⟨by rfl, ?_⟩) (by assumption) ?_
                  rotate_left
                  · (intro w hSw; (try dsimp only at hSw); go_simp; try with_reducible rfl)
                  (try simp only [Act.put, List.getElem_toArray, List.getElem_cons_zero, List.getElem_cons_succ, List.setIfInBounds_toArray, List.set_cons_zero, List.set_cons_succ])
                  refine wpAnyH_take (i := 2) (v := ?_) rfl (by kernel_rfl) (by kernel_rfl) (by kernel_rfl) (fun _ _ _ h => h) (Or.inl ⟨by rfl, ?_⟩) (by assumption) ?_
                  rotate_left
                  · (intro w hSw; (try dsimp only at hSw); go_simp; try with_reducible rfl)
                  (try simp only [Act.put, List.getElem_toArray, List.getElem_cons_zero, List.getElem_cons_succ, List.setIfInBounds_toArray, List.set_cons_zero, List.set_cons_succ])
                  refine wpAnyH_ready (rs := [0, 3]) (by kernel_rfl) (by simp) ?_
                  refine AllReadyH.cons rfl (fun KX hK => ?_) (AllReadyH.cons rfl (fun KX hK => ?_) AllReadyH.nil)
                  · have c9 := fr_cell fz.out c9
                    go_simp
                    (try go_wp2_with fail)
                    refine hK.out _ _ ?_ (fun hHeld => ?_)
                    · (try dsimp only)
                      exact hide (hF.out.trans fz.out)
                    clear hK KX
                    (try simp only [Act.put, List.getElem_toArray, List.getElem_cons_zero, List.getElem_cons_succ, List.setIfInBounds_toArray, List.set_cons_zero, List.set_cons_succ])
                    refine wpAnyH_ready (rs := [3]) (by kernel_rfl) (by simp) ?_
                    refine AllReadyH.cons rfl (fun KX hK => ?_) AllReadyH.nil
                    go_simp
                    refine (tenT_any (-K) Z _ (by omega) (by omega) HZ.out).mono ?_
                    rintro r wn ⟨a5, c5, rfl, i5, fy⟩
                    have fz := hide (fz.out.trans fy)
                    have I5 := hide i5; clear i5
                    have c9 := fr_cell fz.out c90.out
                    clear fy
                    (try go_wp2_with fail)
                    refine hK.out _ _ ?_ (fun hHeld => ?_)
                    · (try dsimp only)
                      exact hide (hF.out.trans fz.out)
                    clear hK KX
                    (try simp only [Act.put, List.getElem_toArray, List.getElem_cons_zero, List.getElem_cons_succ, List.setIfInBounds_toArray, List.set_cons_zero, List.set_cons_succ])
                    refine wpAnyH_ready (rs := [4]) (by kernel_rfl) (by simp) ?_
                    refine AllReadyH.cons rfl (fun KX hK => ?_) AllReadyH.nil
                    go_simp
                    refine (mulc_any _ _ D Z X _ (IN.out.fr fz.out) I5.out (by omega) (by omega) HXZ.out).mono ?_
                    rintro r wm ⟨a8, c8, rfl, i8, fy⟩
                    have fz := hide (fz.out.trans fy)
                    have I8 := hide i8; clear i8 I5
                    clear fy
                    (try go_wp2_with fail)
                    refine hK.out _ _ ?_ (fun hHeld => ?_)
                    · (try dsimp only)
                      exact hide (hF.out.trans fz.out)
                    clear hK KX
                    (try simp only [Act.put, List.getElem_toArray, List.getElem_cons_zero, List.getElem_cons_succ, List.setIfInBounds_toArray, List.set_cons_zero, List.set_cons_succ])
                    have q9 := fr_cell fz.out c90.out
                    have y9 := fr_free fz.out c90.out z9
                    have FF := hide (Below.setCell (hF.out.trans fz.out) (p := ⟨w3.heap.size, 0, none⟩) s9 (.slice a8 (nlen 4294967296 X) c8))
                    refine wpAnyH_ready (rs := [5]) (by kernel_rfl) (by simp) ?_
                    refine AllReadyH.cons rfl (fun KX hK => ?_) AllReadyH.nil
                    go_simp
                    (try go_wp2_with fail)
                    refine hK.out _ _ ?_ (fun hHeld => ?_)
                    · (try dsimp only)
                      exact FF
                    clear hK KX
                    (try simp only [Act.put, List.getElem_toArray, List.getElem_cons_zero, List.getElem_cons_succ, List.setIfInBounds_toArray, List.set_cons_zero, List.set_cons_succ])
                    refine wpAnyH_done (by kernel_rfl) ?_ _
                    have IX := hide (IsNat.put2 I8.out q9 (.slice a8 (nlen 4294967296 X) c8))
                    have IY := hide (IsNat.put2 (IY.out.fr fz.out) q9 (.slice a8 (nlen 4294967296 X) c8))
                    have HD := hide (IsDec.put2 (IsDec.fr HD.out fz.out) q9 (.slice a8 (nlen 4294967296 X) c8))
                    have r9 := World.cell?_setCell_same wm ⟨w3.heap.size, 0, none⟩ (.slice a8 (nlen 4294967296 X) c8) q9
                    have r10 := cell_put2 (u := (.slice a8 (nlen 4294967296 X) c8)) (q := ⟨w3.heap.size, 0, none⟩) (fr_cell fz.out c10) (fun h => by injection h with h1 h2 h3; omega)
                    go_wp2_with fail
                    go_meet
                    exact ⟨a8, c8, rfl, ⟨r9, r10⟩, IX, IY, HD, FF⟩
                  · skip
                    go_simp
                    refine (tenT_any (-K) Z _ (by omega) (by omega) HZ.out).mono ?_
                    rintro r wn ⟨a5, c5, rfl, i5, fy⟩
                    have fz := hide (fz.out.trans fy)
                    have I5 := hide i5; clear i5
                    have c9 := fr_cell fz.out c90.out
                    clear fy
                    (try go_wp2_with fail)
                    refine hK.out _ _ ?_ (fun hHeld => ?_)
                    · (try dsimp only)
                      exact hide (hF.out.trans fz.out)
                    clear hK KX
                    (try simp only [Act.put, List.getElem_toArray, List.getElem_cons_zero, List.getElem_cons_succ, List.setIfInBounds_toArray, List.set_cons_zero, List.set_cons_succ])
                    refine wpAnyH_ready (rs := [0]) (by kernel_rfl) (by simp) ?_
                    refine AllReadyH.cons rfl (fun KX hK => ?_) AllReadyH.nil
                    go_simp
                    (try go_wp2_with fail)
                    refine hK.out _ _ ?_ (fun hHeld => ?_)
                    · (try dsimp only)
                      exact hide (hF.out.trans fz.out)
                    clear hK KX
                    (try simp only [Act.put, List.getElem_toArray, List.getElem_cons_zero, List.getElem_cons_succ, List.setIfInBounds_toArray, List.set_cons_zero, List.set_cons_succ])
                    refine wpAnyH_ready (rs := [4]) (by kernel_rfl) (by simp) ?_
                    refine AllReadyH.cons rfl (fun KX hK => ?_) AllReadyH.nil
                    go_simp
                    refine (mulc_any _ _ D Z X _ (IN.out.fr fz.out) I5.out (by omega) (by omega) HXZ.out).mono ?_
                    rintro r wm ⟨a8, c8, rfl, i8, fy⟩
                    have fz := hide (fz.out.trans fy)
                    have I8 := hide i8; clear i8 I5
                    clear fy
                    (try go_wp2_with fail)
                    refine hK.out _ _ ?_ (fun hHeld => ?_)
                    · (try dsimp only)
                      exact hide (hF.out.trans fz.out)
                    clear hK KX
                    (try simp only [Act.put, List.getElem_toArray, List.getElem_cons_zero, List.getElem_cons_succ, List.setIfInBounds_toArray, List.set_cons_zero, List.set_cons_succ])
                    have q9 := fr_cell fz.out c90.out
                    have y9 := fr_free fz.out c90.out z9
                    have FF := hide (Below.setCell (hF.out.trans fz.out) (p := ⟨w3.heap.size, 0, none⟩) s9 (.slice a8 (nlen 4294967296 X) c8))
                    refine wpAnyH_ready (rs := [5]) (by kernel_rfl) (by simp) ?_
                    refine AllReadyH.cons rfl (fun KX hK => ?_) AllReadyH.nil
                    go_simp
                    (try go_wp2_with fail)
                    refine hK.out _ _ ?_ (fun hHeld => ?_)
                    · (try dsimp only)
                      exact FF
                    clear hK KX
                    (try simp only [Act.put, List.getElem_toArray, List.getElem_cons_zero, List.getElem_cons_succ, List.setIfInBounds_toArray, List.set_cons_zero, List.set_cons_succ])
                    refine wpAnyH_done (by kernel_rfl) ?_ _
                    have IX := hide (IsNat.put2 I8.out q9 (.slice a8 (nlen 4294967296 X) c8))
                    have IY := hide (IsNat.put2 (IY.out.fr fz.out) q9 (.slice a8 (nlen 4294967296 X) c8))
                    have HD := hide (IsDec.put2 (IsDec.fr HD.out fz.out) q9 (.slice a8 (nlen 4294967296 X) c8))
                    have r9 := World.cell?_setCell_same wm ⟨w3.heap.size, 0, none⟩ (.slice a8 (nlen 4294967296 X) c8) q9
                    have r10 := cell_put2 (u := (.slice a8 (nlen 4294967296 X) c8)) (q := ⟨w3.heap.size, 0, none⟩) (fr_cell fz.out c10) (fun h => by injection h with h1 h2 h3; omega)
                    go_wp2_with fail
                    go_meet
                    exact ⟨a8, c8, rfl, ⟨r9, r10⟩, IX, IY, HD, FF⟩
                · have hX := HX.out
                  rw [show (-K).toNat = 0 by omega, Nat.pow_zero, Nat.mul_one] at hX
                  subst hX
                  have cK' : 0 ≤ K := by omega
                  clear cK
                  go_wp2_with fail
                  go_meet
                  exact ⟨an, cn, rfl, ⟨c9, c10⟩, IN, IY, HD, hF⟩
              case rest =>
                obtain ⟨ax, cx, rfl, ⟨d9, d10⟩, JX, JY, JD, F6⟩ := hcut
                obtain ⟨W6, hW6⟩ : ∃ V, V = wc := ⟨_, rfl⟩
                rw [← hW6] at d9 d10 JX JY JD F6 ⊢
                clear hW6 c9 z9 c10 IN IY HD hF nD
                obtain ⟨xk, hxk⟩ : ∃ xk, K.toNat = xk := ⟨_, rfl⟩
                have HXK := hide hxk
                have hY := HY.out
                rw [hxk] at hY
                obtain ⟨N, hN⟩ : ∃ N, nearN X Y = N := ⟨_, rfl⟩
                have HN := hide hN
                obtain ⟨nle, sd, hsu, hsd, hsc⟩ := law_side X65.out hY hN
                have HSU := hide hsu
                have HSD := hide hsd
                have HSC := hide hsc
                clear hsu hsd hsc
                have xk60 : xk ≤ 60 := by omega
                clear hxk hY hN
                go_wp2_with fail
                refine (nearest_any _ _ X Y N _ JX.out JY.out (by omega) (by omega) Y0 HN.out).mono ?_
                rintro r w7 ⟨rfl, f7⟩
                have JD := hide (IsDec.fr JD.out f7)
                have F7 := hide (F6.out.trans f7)
                clear f7 JX JY F6 HN d9 d10
                go_wp2_with fail
                obtain ⟨C0, M0, E0, P, pk, HR, q1', m0, x0, x1, HP, HPK, nP, pk1, HP2, HPK2⟩ := ref_parts (c := N) (by omega)
                refine (HR.out _).mono ?_
                clear HR
                rintro r w8 ⟨rfl, f8⟩
                have JD := hide (IsDec.fr JD.out f8)
                have F8 := hide (F7.out.trans f8)
                clear f8 F7
                go_wp2_with fail
                obtain ⟨W8, hW8⟩ : ∃ V, V = w8.alloc (Obj.cells #[.int .i64 (C0 : Int), .bool false, .int .u64 (M0 : Int), .int .i64 E0] 28) := ⟨_, rfl⟩
                have fW : Fr w8 W8 := by rw [hW8]; exact Fr.alloc _ _
                have v0 : W8.cell? ⟨w8.heap.size, 0, none⟩ = some (.int .i64 (C0 : Int)) := by rw [hW8]; simp [go_sem]
                have v1 : W8.cell? ⟨w8.heap.size, 1, none⟩ = some (.bool false) := by rw [hW8]; simp [go_sem]
                have v2 : W8.cell? ⟨w8.heap.size, 2, none⟩ = some (.int .u64 (M0 : Int)) := by rw [hW8]; simp [go_sem]
                have v3 : W8.cell? ⟨w8.heap.size, 3, none⟩ = some (.int .i64 E0) := by rw [hW8]; simp [go_sem]
                rw [← hW8]
                clear hW8
                refine (wakes_any _).mono ?_
                rintro r w9 ⟨rfl, f9⟩
                have fW := fW.trans f9
                have JD := hide (IsDec.fr JD.out fW)
                have F9 := hide (F8.out.trans fW)
                have v0 := fr_cell f9 v0
                have v1 := fr_cell f9 v1
                have v2 := fr_cell f9 v2
                have v3 := fr_cell f9 v3
                have lN : (N : Int) ≤ 5958262307011166208 := by omega
                clear f9 fW F8
                go_upto_if 104 with fail
                go_cut [15, 16] (fun s15 s16 wx => ∃ vx, s15 = vx ∧ s16 = .int .i64 (xk : Int) ∧ Hid (IsDec wx vx X) ∧ Hid (Fr w9 wx))
                case first => as_aux_lemma =>
                  by_cases cK : K < 0
                  · have hxk : xk = 0 := by have := HXK.out; omega
                    subst hxk
                    have hneg : IntKind.i64.wrap (-K) = -K := i64_small (by omega) (by omega)
                    go_wp2_with fail
                    refine (refTens_any _ D (-K) _ JD.out (by rw [HNL.out]; omega) (by omega) (by omega)).mono ?_
                    rintro r w10 ⟨vx, rfl, ix, f10⟩
                    rw [HX.out] at ix
                    go_wp2_with fail
                    go_meet
                    exact ⟨vx, rfl, rfl, ix, f10⟩
                  · have hX := HX.out
                    rw [show (-K).toNat = 0 by omega, Nat.pow_zero, Nat.mul_one] at hX
                    have hk : K = (xk : Int) := by have := HXK.out; omega
                    have HXD := hide hX
                    have HKX := hide hk
                    have cK' : 0 ≤ K := by omega
                    clear hX hk cK
                    go_wp2_with fail
                    go_meet
                    exact ⟨_, rfl, by rw [← HKX.out], by rw [← HXD.out]; exact JD, Fr.refl _⟩
                case rest =>
                  obtain ⟨vx, rfl, rfl, JX, F10⟩ := hcut
                  obtain ⟨W10, hW10⟩ : ∃ V, V = wc := ⟨_, rfl⟩
                  rw [← hW10] at JX F10 ⊢
                  have v0 := fr_cell F10.out v0
                  have v1 := fr_cell F10.out v1
                  have v2 := fr_cell F10.out v2
                  have v3 := fr_cell F10.out v3
                  have F10 := hide (F9.out.trans F10.out)
                  obtain ⟨c0, hc0⟩ : ∃ c0 : Nat, (if N = 0 then 18446744073709551615 else N - 1) = c0 := ⟨_, rfl⟩
                  have hc01 : IntKind.u64.wrap ((N : Int) - 1) = (c0 : Int) := by rw [IntKind.wrap_u64, ← hc0]; split <;> omega
                  have HC0 := hide hc0
                  have HC01 := hide hc01
                  have nX10 : nlen 10 X ≤ 65 := nlen_le ten2 X65.out
                  clear hW10 JD F9 HXK HX HNL HY hc0 hc01
                  go_upto_region 23 with fail
                  go_cut [113, 114, 115] (fun s113 s114 s115 wx => ∃ g, s113 = .slice (some ⟨g, 0, none⟩) 2 2 ∧ s114 = .int .i64 2 ∧ s115 = .int .i64 0 ∧ (wx.cell? ⟨g, 0, none⟩ = some (.int .u64 (c0 : Int)) ∧ wx.cell? ⟨g, 1, none⟩ = some (.int .u64 ((N : Int) + 1))) ∧ Hid (Fr W10 wx))
                  case first => as_aux_lemma =>
                    clear HSU HSD HSC HP HPK HP2 HPK2
                    by_cases n0 : N = 0
                    · subst n0
                      obtain rfl : c0 = 18446744073709551615 := by have := HC0.out; rw [if_pos rfl] at this; exact this.symm
                      clear HC0 HC01
                      have hw : IntKind.u64.wrap (-1) = 18446744073709551615 := by rw [IntKind.wrap_u64]; rfl
                      go_wp2_with fail
                      go_meet
                      exact ⟨_, rfl, rfl, rfl, ⟨by simp [go_sem, hw], by simp [go_sem]⟩, Fr.alloc _ _⟩
                    · have hc := HC0.out
                      rw [if_neg n0] at hc
                      have hE : (N : Int) - 1 = (c0 : Int) := by omega
                      have HE := hide hE
                      have n1 : (1 : Int) ≤ N := by omega
                      clear HC0 HC01 hc hE n0
                      go_wp2_with fail
                      rw [HE.out]
                      go_meet
                      exact ⟨_, rfl, rfl, rfl, ⟨by simp [go_sem], by simp [go_sem]⟩, Fr.alloc _ _⟩
                  case rest =>
                    obtain ⟨g, rfl, rfl, rfl, ⟨g0, g1⟩, F11⟩ := hcut
                    obtain ⟨W11, hW11⟩ : ∃ V, V = wc := ⟨_, rfl⟩
                    rw [← hW11] at g0 g1 F11 ⊢
                    have V0 := hide (fr_cell F11.out v0)
                    have V1 := hide (fr_cell F11.out v1)
                    have V2 := hide (fr_cell F11.out v2)
                    have V3 := hide (fr_cell F11.out v3)
                    have JX := hide (IsDec.fr JX.out F11.out)
                    have F11 := hide (F10.out.trans F11.out)
                    have G0 := hide g0
                    have G1 := hide g1
                    clear hW11 F10 v0 v1 v2 v3 g0 g1
                    go_wp2_with fail
                    go_loopw [115] (fun s115 wr => ∃ k : Nat, k ≤ 2 ∧ s115 = .int .i64 k ∧ Hid (Fr W11 wr)) (fun s115 _ => 2 - (intOf s115).toNat)
                    case atStart => exact ⟨0, by omega, rfl, Fr.refl _⟩
                    case round =>
                      obtain ⟨q, hq, rfl, hF⟩ := hrel
                      by_cases cq : q < 2
                      · obtain ⟨c, hcell, lc, HS⟩ : ∃ c : Nat, wr.cell? ⟨g, q, none⟩ = some (.int .u64 (c : Int)) ∧ c < 18446744073709551616 ∧ Hid (bC c = 3 ∨ (c < 9218868437227405312 ∧ Side N c (sd c))) := by
                          rcases (by omega : q = 0 ∨ q = 1) with rfl | rfl
                          · have hc := HC0.out
                            by_cases n0 : N = 0
                            · rw [if_pos n0] at hc
                              subst hc
                              exact ⟨_, fr_cell hF.out G0.out, by omega, hide (.inl (by rfl))⟩
                            · rw [if_neg n0] at hc
                              exact ⟨c0, fr_cell hF.out G0.out, by omega, hide (.inr ⟨by omega, HSD.out c0 (by omega)⟩)⟩
                          · exact ⟨N + 1, by rw [fr_cell hF.out G1.out, show (((N + 1 : Nat) : Int)) = (N : Int) + 1 by omega], by omega, hide (.inr ⟨by omega, HSU.out⟩)⟩
                        have HR := hide (fun w => refOf_any7 c w lc)
                        clear HSU HSD HC0 HC01 G0 G1
                        rcases HS.out with h3 | ⟨lc2, hS⟩
                        · obtain ⟨k1, k2, k3⟩ := none_of h3
                          unfold bval at HR
                          rw [h3, k1, k2, k3] at HR
                          clear HS h3 k1 k2 k3
                          go_wp2_with fail
                          refine (HR.out _).mono ?_
                          rintro r w12 ⟨rfl, f12⟩
                          have F12 := hide (hF.out.trans f12)
                          clear f12 hF HR
                          go_wp2_with fail
                          go_roundw
                          case rel => exact ⟨q + 1, by omega, by go_num, F12.out.trans (Fr.alloc _ _)⟩
                          case measure => simp [intOf]; omega
                        · obtain ⟨C1, M1, E1, Q, qk, HRR, u1', m1, y0, y1, HQ, HQK, nQ, qk1, hQ, hqk⟩ := ref_parts lc2
                          clear HR
                          obtain ⟨most, hmost⟩ : ∃ most, max xk (max pk qk) = most := ⟨_, rfl⟩
                          have o1 : xk ≤ most := by omega
                          have o2 : pk ≤ most := by omega
                          have o3 : qk ≤ most := by omega
                          have o4 : most ≤ 1074 := by omega
                          rw [HSC.out c most P pk Q qk lc2 HP2.out HPK2.out hQ.out hqk.out o1 o2 o3] at hS
                          clear HS
                          obtain ⟨R1, hR1⟩ : ∃ R, P * 10 ^ (most - pk) = R := ⟨_, rfl⟩
                          obtain ⟨R2, hR2⟩ : ∃ R, Q * 10 ^ (most - qk) = R := ⟨_, rfl⟩
                          obtain ⟨R3, hR3⟩ : ∃ R, X * 10 ^ (most - xk) = R := ⟨_, rfl⟩
                          rw [hR1, hR2, hR3] at hS
                          have nR1 : nlen 10 R1 ≤ 5000 := by rw [← hR1]; exact Nat.le_trans (nlen10_pow nP (by omega) _) (by omega)
                          have nR2 : nlen 10 R2 ≤ 5000 := by rw [← hR2]; exact Nat.le_trans (nlen10_pow nQ (by omega) _) (by omega)
                          have nR3 : nlen 10 R3 ≤ 5000 := by rw [← hR3]; exact Nat.le_trans (nlen10_pow nX10 (by omega) _) (by omega)
                          have nR4 : nlen 10 (R3 * 2) ≤ 5001 := nlen10_mul nR3 (by omega)
                          have nR5 : nlen 10 (R1 + R2) ≤ 5001 := nl_sum10 nR1 nR2
                          obtain ⟨z, hz⟩ : ∃ z, cmpZ (R3 * 2) (R1 + R2) = z := ⟨_, rfl⟩
                          rw [hz] at hS
                          have HZ := hide hz
                          have HS := hide hS
                          have HR1 : Hid (P * 10 ^ ((most : Int) - pk).toNat = R1) := by refine hide ?_; rw [show ((most : Int) - pk).toNat = most - pk by omega]; exact hR1
                          have HR2 : Hid (Q * 10 ^ ((most : Int) - qk).toNat = R2) := by refine hide ?_; rw [show ((most : Int) - qk).toNat = most - qk by omega]; exact hR2
                          have HR3 : Hid (X * 10 ^ ((most : Int) - xk).toNat = R3) := by refine hide ?_; rw [show ((most : Int) - xk).toNat = most - xk by omega]; exact hR3
                          have HM := hide hmost
                          clear hQ hqk hz hS hR1 hR2 hR3 hmost lc2 o1 o2 o3
                          have v0 := fr_cell hF.out V0.out
                          have v2 := fr_cell hF.out V2.out
                          have v3 := fr_cell hF.out V3.out
                          go_wp2_with fail
                          refine (HRR.out _).mono ?_
                          rintro r w12 ⟨rfl, f12⟩
                          have F12 := hide (hF.out.trans f12)
                          have v2 := fr_cell f12 v2
                          have v3 := fr_cell f12 v3
                          clear f12 hF HRR v0
                          go_wp2_with fail
                          obtain ⟨W13, hW13⟩ : ∃ V, V = w12.alloc (Obj.cells #[.int .i64 (C1 : Int), .bool false, .int .u64 (M1 : Int), .int .i64 E1] 28) := ⟨_, rfl⟩
                          have fW : Fr w12 W13 := by rw [hW13]; exact Fr.alloc _ _
                          have x2 : W13.cell? ⟨w12.heap.size, 2, none⟩ = some (.int .u64 (M1 : Int)) := by rw [hW13]; simp [go_sem]
                          have x3 : W13.cell? ⟨w12.heap.size, 3, none⟩ = some (.int .i64 E1) := by rw [hW13]; simp [go_sem]
                          rw [← hW13]
                          clear hW13
                          have F13 := hide (F12.out.trans fW)
                          clear fW F12 v2 v3
                          refine (refDecimals_any M0 E0 P _ (by omega) (by omega) (by omega) HP.out).mono ?_
                          rintro r w14 ⟨vp, rfl, ip, f14⟩
                          rw [HPK.out]
                          have F14 := hide (F13.out.trans f14)
                          have x2 := fr_cell f14 x2
                          have x3 := fr_cell f14 x3
                          have IP := hide ip
                          clear f14 F13 ip
                          go_wp2_with fail
                          refine (refDecimals_any M1 E1 Q _ (by omega) (by omega) (by omega) HQ.out).mono ?_
                          rintro r w15 ⟨vq, rfl, iq, f15⟩
                          rw [HQK.out]
                          have F15 := hide (F14.out.trans f15)
                          have IP := hide (IsDec.fr IP.out f15)
                          have IQ := hide iq
                          clear f15 F14 iq x2 x3 HP HPK HQ HQK
                          go_upto_region 30 with fail
                          go_cut [24] (fun s24 wx => s24 = .int .i64 (most : Int) ∧ wx = w15)
                          case first => as_aux_lemma =>
                            have hm := HM.out
                            go_wp2_with fail
                            all_goals (go_meet; exact ⟨by congr 1; omega, rfl⟩)
                          case rest =>
                            obtain ⟨rfl, hwx⟩ := hcut
                            subst hwx
                            have HM2 := HM.out
                            have b1 : (pk : Int) ≤ most := by omega
                            have b2 : (qk : Int) ≤ most := by omega
                            have b3 : (xk : Int) ≤ most := by omega
                            clear HM HM2
                            go_wp2_with fail
                            refine (refTensc_any _ P ((most : Int) - pk) R1 _ IP.out (by omega) (by omega) (by omega) HR1.out).mono ?_
                            rintro r w16 ⟨vp1, rfl, ip, f16⟩
                            have F16 := hide (F15.out.trans f16)
                            have IQ := hide (IsDec.fr IQ.out f16)
                            have IP1 := hide ip
                            clear f16 F15 ip IP
                            go_wp2_with fail
                            refine (refTensc_any _ Q ((most : Int) - qk) R2 _ IQ.out (by omega) (by omega) (by omega) HR2.out).mono ?_
                            rintro r w17 ⟨vq1, rfl, iq, f17⟩
                            have F17 := hide (F16.out.trans f17)
                            have IP1 := hide (IsDec.fr IP1.out f17)
                            have IQ1 := hide iq
                            clear f17 F16 iq IQ
                            go_wp2_with fail
                            refine (refTensc_any _ X ((most : Int) - xk) R3 _ (IsDec.fr JX.out F17.out) (by omega) (by omega) (by omega) HR3.out).mono ?_
                            rintro r w18 ⟨vy, rfl, iy, f18⟩
                            have F18 := hide (F17.out.trans f18)
                            have IP1 := hide (IsDec.fr IP1.out f18)
                            have IQ1 := hide (IsDec.fr IQ1.out f18)
                            have IY1 := hide iy
                            clear f18 F17 iy
                            go_wp2_with fail
                            refine (refTimes_any _ R3 2 _ IY1.out (by omega) (by omega)).mono ?_
                            rintro r w19 ⟨v19, rfl, i19, f19⟩
                            have F19 := hide (F18.out.trans f19)
                            have IP1 := hide (IsDec.fr IP1.out f19)
                            have IQ1 := hide (IsDec.fr IQ1.out f19)
                            have IT := hide i19
                            clear f19 F18 i19 IY1
                            go_wp2_with fail
                            refine (refAdd_any _ _ R1 R2 _ IP1.out IQ1.out (by omega) (by omega)).mono ?_
                            rintro r w20 ⟨v20, rfl, i20, f20⟩
                            have F20 := hide (F19.out.trans f20)
                            have IT := hide (IsDec.fr IT.out f20)
                            have IU := hide i20
                            clear f20 F19 i20 IP1 IQ1
                            go_wp2_with fail
                            refine (refCmp_any _ _ (R3 * 2) (R1 + R2) _ IT.out IU.out (by omega) (by omega)).mono ?_
                            rintro r w21 ⟨rfl, f21⟩
                            rw [HZ.out]
                            have F21 := hide (F20.out.trans f21)
                            clear f21 F20 IT IU HZ HR1 HR2 HR3
                            have HNN : Hid (N < 18446744073709551616) := by refine hide ?_; omega
                            clear lN nle lc m0 m1 nP nQ nX10 nX nY
                            go_upto_region 35 with fail
                            go_cut [195] (fun s195 wx => s195 = .bool false ∧ wx = w21)
                            case first => as_aux_lemma =>
                              have hb1 : bits .and .u64 (N : Int) 1 = ((N % 2 : Nat) : Int) := and_one N HNN.out
                              obtain ⟨hs, hs0⟩ := HS.out
                              clear HS
                              rcases hs with ⟨s1, s2⟩ | ⟨s1, s2⟩
                              · have s1' : (N : Int) < c := by omega
                                by_cases z0 : z = 0
                                · have e2 := hs0 z0
                                  subst z0
                                  rw [e2] at hb1
                                  clear hs0 s1 s2 e2
                                  go_wp2_with fail
                                  go_meet
                                  exact ⟨rfl, rfl⟩
                                · have z1 : z < 0 := by omega
                                  have z2 : (z == 0) = false := by simpa using z0
                                  clear hs0 s1 s2 z0 hb1
                                  go_wp2_with fail
                                  go_meet
                                  exact ⟨by first | rfl | exact congrArg Value.bool (decide_eq_false (by omega)), rfl⟩
                              · have s1' : (c : Int) < N := by omega
                                by_cases z0 : z = 0
                                · have e2 := hs0 z0
                                  subst z0
                                  rw [e2] at hb1
                                  clear hs0 s1 s2 e2
                                  go_wp2_with fail
                                  go_meet
                                  exact ⟨rfl, rfl⟩
                                · have z1 : 0 < z := by omega
                                  have z2 : (z == 0) = false := by simpa using z0
                                  clear hs0 s1 s2 z0 hb1
                                  go_wp2_with fail
                                  go_meet
                                  exact ⟨by first | rfl | exact congrArg Value.bool (decide_eq_false (by omega)), rfl⟩
                            case rest =>
                              obtain ⟨rfl, hwx⟩ := hcut
                              subst hwx
                              clear HS
                              go_wp2_with fail
                              go_roundw
                              case rel => exact ⟨q + 1, by omega, by go_num, F21⟩
                              case measure => simp [intOf]; omega
                      · obtain rfl : q = 2 := by omega
                        go_wp2_with fail
                        go_ret
                        exact ⟨rfl, F11.out.trans hF.out⟩
            · obtain ⟨i, rfl⟩ : ∃ j, i = j + 1 := ⟨i - 1, by omega⟩
              rw [show ((i + 1 : Nat) : Int) - 1 = (i : Int) by omega]
              have hdv : D / 10 ^ i = D / 10 ^ (i + 1) * 10 + dg 10 D i := by rw [div_step ten2 D i]; omega
              have hl := dg_lt ten2 D i
              have nA : nlen 4294967296 (D / 10 ^ (i + 1)) ≤ 25 := Nat.le_trans (nlen_mono b32 (Nat.div_le_self _ _)) (nl_dec D25.out)
              have nB : nlen 4294967296 (D / 10 ^ i) ≤ 25 := Nat.le_trans (nlen_mono b32 (Nat.div_le_self _ _)) (nl_dec D25.out)
              have HDD := HD.out
              obtain ⟨da', dc', hv, _, _, hcs⟩ := HDD
              simp only [Value.slice.injEq] at hv
              obtain ⟨rfl, hnn, rfl⟩ := hv
              rcases hcs with q | ⟨b, off, rfl, hb, hcs⟩
              · rw [HDn] at q; omega
              have hcell := hcs i (by rw [HDn]; omega)
              have gt := hide hcs
              clear hcs
              obtain ⟨d, hd⟩ : ∃ d, dg 10 D i = d := ⟨_, rfl⟩
              obtain ⟨A, hA⟩ : ∃ A, D / 10 ^ (i + 1) = A := ⟨_, rfl⟩
              obtain ⟨B, hB⟩ : ∃ B, D / 10 ^ i = B := ⟨_, rfl⟩
              obtain ⟨A10, hA10⟩ : ∃ B, A * 10 = B := ⟨_, rfl⟩
              rw [hd] at hdv hl hcell
              rw [hA] at hdv nA IN c9
              rw [hB] at hdv nB
              rw [hA10] at hdv
              have nA10 : nlen 4294967296 A10 ≤ 27 := by rw [← hA10]; exact nlen_mul b32 nA (wsm (x := 10) (by omega))
              have HB := hide hB
              have HA10 := hide hA10
              have HV := hide hdv
              have hcv : IntKind.u64.wrap (d : Int) = (d : Int) := by rw [IntKind.wrap_u64]; omega
              have nd : nlen 4294967296 d ≤ 2 := wsm (by omega)
              obtain ⟨W4, hW4⟩ : ∃ V, V = wr := ⟨_, rfl⟩
              rw [← hW4] at c9 z9 c10 IN IY HD hF hcell ⊢
              have ilt : (i : Int) < n := by omega
              have HI := hide hi
              have HCC := hide hcv
              clear hB hA hA10 hd hdv hW4 c0 hi gt hb HDn hnn
              go_wp2_with fail
              have c90 := hide c9
              have hne : Hid ((⟨b, off + i, none⟩ : Addr) ≠ ⟨w3.heap.size, 0, none⟩) := by
                refine hide (fun h => ?_)
                rw [h, c9] at hcell
                cases hcell
              refine wp_region_held_drew (S := (fun w' => w'.cell? ⟨b, off + i, none⟩ = some (.int .i64 (d : Int)) ∧ Hid (Fr w w'))) (by kernel_rfl) ?_ (fun hHeld => ?_)
              · exact ⟨hcell, hF.out.trans (Fr.drew _)⟩
              have fz := hide (Fr.drew W4)
              generalize W4.drew = wd at fz hHeld ⊢
              refine wpAnyH_take (i := 3) (v := ?_) rfl (by kernel_rfl) (by kernel_rfl) (by kernel_rfl) (fun _ _ _ h => h) (Or.inl ⟨by rfl, ?_⟩) (by assumption) ?_
              rotate_left
              · (intro w hSw; (try dsimp only at hSw); go_simp; try with_reducible rfl)
              (try simp only [Act.put, List.getElem_toArray, List.getElem_cons_zero, List.getElem_cons_succ, List.setIfInBounds_toArray, List.set_cons_zero, List.set_cons_succ])
              refine wpAnyH_take (i := 4) (v := ?_) rfl (by kernel_rfl) (by kernel_rfl) (by kernel_rfl) (fun _ _ _ h => h) (Or.inl ⟨by rfl, ?_⟩) (by assumption) ?_
              rotate_left
              · (intro w hSw; (try dsimp only at hSw); go_simp; try with_reducible rfl)
              (try simp only [Act.put, List.getElem_toArray, List.getElem_cons_zero, List.getElem_cons_succ, List.setIfInBounds_toArray, List.set_cons_zero, List.set_cons_succ])
              refine wpAnyH_take (i := 5) (v := ?_) rfl (by kernel_rfl) (by kernel_rfl) (by kernel_rfl) (fun _ _ _ h => h) (Or.inl ⟨by rfl, ?_⟩) (by assumption) ?_
              rotate_left
              · (intro w hSw; (try dsimp only at hSw); go_simp; try with_reducible rfl)
              (try simp only [Act.put, List.getElem_toArray, List.getElem_cons_zero, List.getElem_cons_succ, List.setIfInBounds_toArray, List.set_cons_zero, List.set_cons_succ])
              refine wpAnyH_take (i := 6) (v := ?_) rfl (by kernel_rfl) (by kernel_rfl) (by kernel_rfl) (fun _ _ _ h => h) (Or.inl ⟨by rfl, ?_⟩) (by assumption) ?_
              rotate_left
              · (intro w hSw; (try dsimp only at hSw); go_simp; try with_reducible rfl)
              (try simp only [Act.put, List.getElem_toArray, List.getElem_cons_zero, List.getElem_cons_succ, List.setIfInBounds_toArray, List.set_cons_zero, List.set_cons_succ])
              refine wpAnyH_take (i := 7) (v := ?_) rfl (by kernel_rfl) (by kernel_rfl) (by kernel_rfl) (fun _ _ _ h => h) (Or.inl ⟨by rfl, ?_⟩) (by assumption) ?_
              rotate_left
              · (intro w hSw; (try dsimp only at hSw); go_simp; try with_reducible rfl)
              (try simp only [Act.put, List.getElem_toArray, List.getElem_cons_zero, List.getElem_cons_succ, List.setIfInBounds_toArray, List.set_cons_zero, List.set_cons_succ])
              refine wpAnyH_ready (rs := [0, 1]) (by kernel_rfl) (by simp) ?_
              refine AllReadyH.cons rfl (fun K hK => ?_) (AllReadyH.cons rfl (fun K hK => ?_) AllReadyH.nil)
              · have c9 := fr_cell fz.out c9
                go_simp
                (try go_wp2_with fail)
                refine hK.out _ _ ?_ (fun hHeld => ?_)
                · (try dsimp only)
                  exact ⟨fr_cell fz.out hcell, hF.out.trans fz.out⟩
                clear hK K
                (try simp only [Act.put, List.getElem_toArray, List.getElem_cons_zero, List.getElem_cons_succ, List.setIfInBounds_toArray, List.set_cons_zero, List.set_cons_succ])
                refine wpAnyH_ready (rs := [1]) (by kernel_rfl) (by simp) ?_
                refine AllReadyH.cons rfl (fun K hK => ?_) AllReadyH.nil
                go_simp
                refine (ofc_any 10 10 _ rfl (by omega)).mono ?_
                rintro r wn ⟨a5, c5, rfl, i5, _, fy⟩
                have fz := hide (fz.out.trans fy)
                have I5 := hide i5; clear i5
                have c9 := fr_cell fz.out c90.out
                clear fy
                (try go_wp2_with fail)
                refine hK.out _ _ ?_ (fun hHeld => ?_)
                · (try dsimp only)
                  exact ⟨fr_cell fz.out hcell, hF.out.trans fz.out⟩
                clear hK K
                (try simp only [Act.put, List.getElem_toArray, List.getElem_cons_zero, List.getElem_cons_succ, List.setIfInBounds_toArray, List.set_cons_zero, List.set_cons_succ])
                refine wpAnyH_ready (rs := [2]) (by kernel_rfl) (by simp) ?_
                refine AllReadyH.cons rfl (fun K hK => ?_) AllReadyH.nil
                go_simp
                refine (mulc_any _ _ A 10 A10 _ (IN.out.fr fz.out) I5.out (by omega) (by have := wsm (x := 10) (by omega); omega) HA10.out).mono ?_
                rintro r wn2 ⟨a6, c6, rfl, i6, fy⟩
                have fz := hide (fz.out.trans fy)
                have I6 := hide i6; clear i6 I5
                clear fy
                (try go_wp2_with fail)
                refine hK.out _ _ ?_ (fun hHeld => ?_)
                · (try dsimp only)
                  exact ⟨fr_cell fz.out hcell, hF.out.trans fz.out⟩
                clear hK K
                (try simp only [Act.put, List.getElem_toArray, List.getElem_cons_zero, List.getElem_cons_succ, List.setIfInBounds_toArray, List.set_cons_zero, List.set_cons_succ])
                refine wpAnyH_ready (rs := [8]) (by kernel_rfl) (by simp) ?_
                refine AllReadyH.cons rfl (fun K hK => ?_) AllReadyH.nil
                go_simp
                refine (ofc_any _ d _ rfl (by omega)).mono ?_
                rintro r wn3 ⟨a7, c7, rfl, i7, _, fy⟩
                have fz := hide (fz.out.trans fy)
                have I7 := hide i7; have I6 := hide (I6.out.fr fy); clear i7
                clear fy
                (try go_wp2_with fail)
                refine hK.out _ _ ?_ (fun hHeld => ?_)
                · (try dsimp only)
                  exact ⟨fr_cell fz.out hcell, hF.out.trans fz.out⟩
                clear hK K
                (try simp only [Act.put, List.getElem_toArray, List.getElem_cons_zero, List.getElem_cons_succ, List.setIfInBounds_toArray, List.set_cons_zero, List.set_cons_succ])
                refine wpAnyH_ready (rs := [9]) (by kernel_rfl) (by simp) ?_
                refine AllReadyH.cons rfl (fun K hK => ?_) AllReadyH.nil
                go_simp
                refine (addc_any _ _ A10 d B _ I6.out I7.out (by omega) (by omega) HV.out.symm).mono ?_
                rintro r wm ⟨a8, c8, rfl, i8, fy⟩
                have fz := hide (fz.out.trans fy)
                have I8 := hide i8; clear i8 I6 I7
                clear fy
                (try go_wp2_with fail)
                refine hK.out _ _ ?_ (fun hHeld => ?_)
                · (try dsimp only)
                  exact ⟨fr_cell fz.out hcell, hF.out.trans fz.out⟩
                clear hK K
                (try simp only [Act.put, List.getElem_toArray, List.getElem_cons_zero, List.getElem_cons_succ, List.setIfInBounds_toArray, List.set_cons_zero, List.set_cons_succ])
                have q9 := fr_cell fz.out c90.out
                have y9 := fr_free fz.out c90.out z9
                have FF := hide (Below.setCell (hF.out.trans fz.out) (p := ⟨w3.heap.size, 0, none⟩) s9 (.slice a8 (nlen 4294967296 B) c8))
                refine wpAnyH_ready (rs := [10]) (by kernel_rfl) (by simp) ?_
                refine AllReadyH.cons rfl (fun K hK => ?_) AllReadyH.nil
                go_simp
                (try go_wp2_with fail)
                refine hK.out _ _ ?_ (fun hHeld => ?_)
                · (try dsimp only)
                  exact ⟨cell_put2 (fr_cell fz.out hcell) hne.out, FF.out⟩
                clear hK K
                (try simp only [Act.put, List.getElem_toArray, List.getElem_cons_zero, List.getElem_cons_succ, List.setIfInBounds_toArray, List.set_cons_zero, List.set_cons_succ])
                refine wpAnyH_done (by kernel_rfl) ?_ _
                have IB := hide (IsNat.put2 I8.out q9 (.slice a8 (nlen 4294967296 B) c8))
                have IY := hide (IsNat.put2 (IY.out.fr fz.out) q9 (.slice a8 (nlen 4294967296 B) c8))
                have HD := hide (IsDec.put2 (IsDec.fr HD.out fz.out) q9 (.slice a8 (nlen 4294967296 B) c8))
                have r9 := World.cell?_setCell_same wm ⟨w3.heap.size, 0, none⟩ (.slice a8 (nlen 4294967296 B) c8) q9
                have r10 := cell_put2 (u := .slice a8 (nlen 4294967296 B) c8) (q := ⟨w3.heap.size, 0, none⟩) (fr_cell fz.out c10) (fun h => by injection h with h1 h2 h3; omega)
                have t9 : (wm.setCell ⟨w3.heap.size, 0, none⟩ (.slice a8 (nlen 4294967296 B) c8)).frozen? ⟨w3.heap.size, 0, none⟩ = false := by simpa using y9
                go_wp2_with fail
                go_roundw
                case rel =>
                  refine ⟨i, a8, c8, by have := HI.out; omega, by go_num, ?_⟩
                  rw [HB.out]
                  exact ⟨⟨r9, t9, r10⟩, IB, IY, HD, FF⟩
                case measure => simp [intOf]
              · skip
                go_simp
                refine (ofc_any 10 10 _ rfl (by omega)).mono ?_
                rintro r wn ⟨a5, c5, rfl, i5, _, fy⟩
                have fz := hide (fz.out.trans fy)
                have I5 := hide i5; clear i5
                have c9 := fr_cell fz.out c90.out
                clear fy
                (try go_wp2_with fail)
                refine hK.out _ _ ?_ (fun hHeld => ?_)
                · (try dsimp only)
                  exact ⟨fr_cell fz.out hcell, hF.out.trans fz.out⟩
                clear hK K
                (try simp only [Act.put, List.getElem_toArray, List.getElem_cons_zero, List.getElem_cons_succ, List.setIfInBounds_toArray, List.set_cons_zero, List.set_cons_succ])
                refine wpAnyH_ready (rs := [0]) (by kernel_rfl) (by simp) ?_
                refine AllReadyH.cons rfl (fun K hK => ?_) AllReadyH.nil
                go_simp
                (try go_wp2_with fail)
                refine hK.out _ _ ?_ (fun hHeld => ?_)
                · (try dsimp only)
                  exact ⟨fr_cell fz.out hcell, hF.out.trans fz.out⟩
                clear hK K
                (try simp only [Act.put, List.getElem_toArray, List.getElem_cons_zero, List.getElem_cons_succ, List.setIfInBounds_toArray, List.set_cons_zero, List.set_cons_succ])
                refine wpAnyH_ready (rs := [2]) (by kernel_rfl) (by simp) ?_
                refine AllReadyH.cons rfl (fun K hK => ?_) AllReadyH.nil
                go_simp
                refine (mulc_any _ _ A 10 A10 _ (IN.out.fr fz.out) I5.out (by omega) (by have := wsm (x := 10) (by omega); omega) HA10.out).mono ?_
                rintro r wn2 ⟨a6, c6, rfl, i6, fy⟩
                have fz := hide (fz.out.trans fy)
                have I6 := hide i6; clear i6 I5
                clear fy
                (try go_wp2_with fail)
                refine hK.out _ _ ?_ (fun hHeld => ?_)
                · (try dsimp only)
                  exact ⟨fr_cell fz.out hcell, hF.out.trans fz.out⟩
                clear hK K
                (try simp only [Act.put, List.getElem_toArray, List.getElem_cons_zero, List.getElem_cons_succ, List.setIfInBounds_toArray, List.set_cons_zero, List.set_cons_succ])
                refine wpAnyH_ready (rs := [8]) (by kernel_rfl) (by simp) ?_
                refine AllReadyH.cons rfl (fun K hK => ?_) AllReadyH.nil
                go_simp
                refine (ofc_any _ d _ rfl (by omega)).mono ?_
                rintro r wn3 ⟨a7, c7, rfl, i7, _, fy⟩
                have fz := hide (fz.out.trans fy)
                have I7 := hide i7; have I6 := hide (I6.out.fr fy); clear i7
                clear fy
                (try go_wp2_with fail)
                refine hK.out _ _ ?_ (fun hHeld => ?_)
                · (try dsimp only)
                  exact ⟨fr_cell fz.out hcell, hF.out.trans fz.out⟩
                clear hK K
                (try simp only [Act.put, List.getElem_toArray, List.getElem_cons_zero, List.getElem_cons_succ, List.setIfInBounds_toArray, List.set_cons_zero, List.set_cons_succ])
                refine wpAnyH_ready (rs := [9]) (by kernel_rfl) (by simp) ?_
                refine AllReadyH.cons rfl (fun K hK => ?_) AllReadyH.nil
                go_simp
                refine (addc_any _ _ A10 d B _ I6.out I7.out (by omega) (by omega) HV.out.symm).mono ?_
                rintro r wm ⟨a8, c8, rfl, i8, fy⟩
                have fz := hide (fz.out.trans fy)
                have I8 := hide i8; clear i8 I6 I7
                clear fy
                (try go_wp2_with fail)
                refine hK.out _ _ ?_ (fun hHeld => ?_)
                · (try dsimp only)
                  exact ⟨fr_cell fz.out hcell, hF.out.trans fz.out⟩
                clear hK K
                (try simp only [Act.put, List.getElem_toArray, List.getElem_cons_zero, List.getElem_cons_succ, List.setIfInBounds_toArray, List.set_cons_zero, List.set_cons_succ])
                have q9 := fr_cell fz.out c90.out
                have y9 := fr_free fz.out c90.out z9
                have FF := hide (Below.setCell (hF.out.trans fz.out) (p := ⟨w3.heap.size, 0, none⟩) s9 (.slice a8 (nlen 4294967296 B) c8))
                refine wpAnyH_ready (rs := [10]) (by kernel_rfl) (by simp) ?_
                refine AllReadyH.cons rfl (fun K hK => ?_) AllReadyH.nil
                go_simp
                (try go_wp2_with fail)
                refine hK.out _ _ ?_ (fun hHeld => ?_)
                · (try dsimp only)
                  exact ⟨cell_put2 (fr_cell fz.out hcell) hne.out, FF.out⟩
                clear hK K
                (try simp only [Act.put, List.getElem_toArray, List.getElem_cons_zero, List.getElem_cons_succ, List.setIfInBounds_toArray, List.set_cons_zero, List.set_cons_succ])
                refine wpAnyH_done (by kernel_rfl) ?_ _
                have IB := hide (IsNat.put2 I8.out q9 (.slice a8 (nlen 4294967296 B) c8))
                have IY := hide (IsNat.put2 (IY.out.fr fz.out) q9 (.slice a8 (nlen 4294967296 B) c8))
                have HD := hide (IsDec.put2 (IsDec.fr HD.out fz.out) q9 (.slice a8 (nlen 4294967296 B) c8))
                have r9 := World.cell?_setCell_same wm ⟨w3.heap.size, 0, none⟩ (.slice a8 (nlen 4294967296 B) c8) q9
                have r10 := cell_put2 (u := .slice a8 (nlen 4294967296 B) c8) (q := ⟨w3.heap.size, 0, none⟩) (fr_cell fz.out c10) (fun h => by injection h with h1 h2 h3; omega)
                have t9 : (wm.setCell ⟨w3.heap.size, 0, none⟩ (.slice a8 (nlen 4294967296 B) c8)).frozen? ⟨w3.heap.size, 0, none⟩ = false := by simpa using y9
                go_wp2_with fail
                go_roundw
                case rel =>
                  refine ⟨i, a8, c8, by have := HI.out; omega, by go_num, ?_⟩
                  rw [HB.out]
                  exact ⟨⟨r9, t9, r10⟩, IB, IY, HD, FF⟩
                case measure => simp [intOf]
end Go.Proofs.Ytphoimjjhcjniaa
