/- The law TensBoth. -/
import Derived.Test.YtfmloickfopmmaaDoorTensD
import Derived.Deep.RegionHeld3
namespace Go.Proofs.YtfmloickfopmmaaDoor
set_option linter.unusedVariables false
set_option linter.unusedSimpArgs false
open Go.RowKit

theorem u8_bd {x : Int} (h : (Lit.int .u8 x).wf = true) : 0 ≤ x ∧ x ≤ 255 := by
  simp [Lit.wf, IntKind.min, IntKind.max, IntKind.signed, IntKind.bits] at h
  omega
theorem cmp_same (x : Nat) : cmpZ x x = 0 := by simp [cmpZ]
theorem lost_both (x J M : Nat) : decide (x % 2 ^ (J + M) ≠ 0) = (decide (x % 2 ^ J ≠ 0) || decide (x / 2 ^ J % 2 ^ M ≠ 0)) := by
  have e : x % 2 ^ (J + M) = x % 2 ^ J + 2 ^ J * (x / 2 ^ J % 2 ^ M) := by rw [Nat.pow_add, Nat.mod_mul]
  have hp : 0 < 2 ^ J := Nat.pow_pos (by omega)
  rw [e]
  generalize x / 2 ^ J % 2 ^ M = r
  by_cases h1 : x % 2 ^ J = 0
  · by_cases h2 : r = 0
    · subst h2; simp [h1]
    · have : 2 ^ J * r ≠ 0 := Nat.mul_ne_zero (by omega) h2
      simp [h1, h2, this]
  · simp [h1]

attribute [local go_sem] World.cell?_alloc_some
set_option maxHeartbeats 4000000 in
theorem law_TensBoth (a0 : Option Addr) (len0 cap0 : Nat) (z0 : List Int) (j k : Int) (w : World) (h0 : IsRow .u32 w a0 len0 cap0 z0) (h1 : (Lit.int .u8 j).wf = true) (h2 : (Lit.int .u8 k).wf = true) (hT : Tab w) :
    Calls Tryd.prog 6 #[.slice a0 len0 cap0, .int .u8 j, .int .u8 k] w fun e w' => e = .returned (.bool true) ∧ Fr w w' := by
  obtain ⟨k0, x, kx, _, lx, _, fewx, madex⟩ := came h0
  obtain ⟨jb0, jb1⟩ := u8_bd h1
  obtain ⟨kb0, kb1⟩ := u8_bd h2
  obtain ⟨J, rfl⟩ := Int.eq_ofNat_of_zero_le jb0
  obtain ⟨M, rfl⟩ := Int.eq_ofNat_of_zero_le kb0
  have FX := hide fewx
  have MX := hide madex
  have HT := hide hT
  have nx : nlen 4294967296 x ≤ 15 := Nat.le_trans (nlen_le b32 lx) kx
  have nl5 : nlen 4294967296 5 ≤ 1 := nlen_le b32 (by decide)
  have nfive : ∀ i, i ≤ J → nlen 4294967296 (5 ^ i) ≤ 256 := fun i hi => Nat.le_trans (nlen_pow nl5 i) (by omega)
  have NF := hide nfive
  obtain ⟨E, hE⟩ : ∃ E, 5 ^ J = E := ⟨_, rfl⟩
  obtain ⟨T, hT10⟩ : ∃ T, 10 ^ J = T := ⟨_, rfl⟩
  have hET : E * 2 ^ J = T := by rw [← hE, ← hT10, ← Nat.mul_pow]
  have nE : nlen 4294967296 E ≤ 256 := by rw [← hE]; exact nfive J (Nat.le_refl _)
  have nT : nlen 4294967296 T ≤ 256 := by rw [← hT10]; exact Nat.le_trans (nlen_pow (n := 1) (by rw [nlten]; omega) J) (by omega)
  obtain ⟨X1, hX1⟩ : ∃ X1, x * 2 ^ J = X1 := ⟨_, rfl⟩
  have nX1 : nlen 4294967296 X1 ≤ 30 := by rw [← hX1]; exact Nat.le_trans (nl_up nx) (by omega)
  obtain ⟨X2, hX2⟩ : ∃ X2, X1 * 2 ^ M = X2 := ⟨_, rfl⟩
  have nX2 : nlen 4294967296 X2 ≤ 50 := by rw [← hX2]; exact Nat.le_trans (nl_up nX1) (by omega)
  have hX3 : x * 2 ^ (J + M) = X2 := by rw [Nat.pow_add, ← Nat.mul_assoc, hX1, hX2]
  obtain ⟨Y1, hY1⟩ : ∃ Y1, x / 2 ^ J = Y1 := ⟨_, rfl⟩
  have nY1 : nlen 4294967296 Y1 ≤ 15 := by rw [← hY1]; exact nl_down J nx
  obtain ⟨Y2, hY2⟩ : ∃ Y2, Y1 / 2 ^ M = Y2 := ⟨_, rfl⟩
  have nY2 : nlen 4294967296 Y2 ≤ 15 := by rw [← hY2]; exact nl_down M nY1
  have hY3 : x / 2 ^ (J + M) = Y2 := by rw [Nat.pow_add, ← Nat.div_div_eq_div_mul, hY1, hY2]
  have hbb := lost_both x J M
  rw [hY1] at hbb
  obtain ⟨b1, hb1⟩ : ∃ b, decide (x % 2 ^ J ≠ 0) = b := ⟨_, rfl⟩
  obtain ⟨b2, hb2⟩ : ∃ b, decide (Y1 % 2 ^ M ≠ 0) = b := ⟨_, rfl⟩
  rw [hb1, hb2] at hbb
  have HE := hide hE
  have HT10 := hide hT10
  have HET := hide hET
  have HX1 := hide hX1
  have HX2 := hide hX2
  have HX3 := hide hX3
  have HY1 := hide hY1
  have HY2 := hide hY2
  have HY3 := hide hY3
  have HB1 := hide hb1
  have HB2 := hide hb2
  have HBB := hide hbb
  have tj : ((J : Int) + (M : Int)).toNat = J + M := by omega
  have TJ := hide tj
  have hwj : IntKind.i64.wrap ((J : Int) + (M : Int)) = (J : Int) + (M : Int) := by simp [IntKind.wrap, IntKind.signed, IntKind.bits]; omega
  have hwJ : IntKind.i64.wrap (J : Int) = (J : Int) := by simp [IntKind.wrap, IntKind.signed, IntKind.bits]; omega
  have hwM : IntKind.i64.wrap (M : Int) = (M : Int) := by simp [IntKind.wrap, IntKind.signed, IntKind.bits]; omega
  clear hE hT10 hET hX1 hX2 hX3 hY1 hY2 hY3 hb1 hb2 hbb tj nfive nl5 fewx madex h0 h1 h2 lx hT
  go_enter Tryd.func6, Tryd.ntmps6
  go_wp2_with fail
  refine (FX.out _).mono ?_
  rintro e w' ⟨rfl, rfl⟩
  go_wp2_with fail
  refine (MX.out _ (Fr.refl _)).mono ?_
  rintro e w1 ⟨ax, cx, rfl, hx, _, f1⟩
  have HX := hide hx
  clear hx FX MX
  go_wp2_with fail
  obtain ⟨W, hW⟩ : ∃ W, W = w1.alloc (Obj.cells #[Value.slice ax (nlen 4294967296 x) cx] 26) := ⟨_, rfl⟩
  have fW : Fr w1 W := by rw [hW]; exact Fr.alloc _ _
  have c7 : W.cell? ⟨w1.heap.size, 0, none⟩ = some (.slice ax (nlen 4294967296 x) cx) := by rw [hW]; simp [go_sem]
  rw [← hW]
  clear hW
  have F := hide (f1.trans fW)
  have HX := hide (IsNat.fr HX.out fW)
  clear f1 fW
  refine (of_one _).mono ?_
  rintro e w2 ⟨af, cf, rfl, hf, _, f2⟩
  have c7 := fr_cell f2 c7
  have HX := hide (IsNat.fr HX.out f2)
  have F := hide (F.out.trans f2)
  have HF := hide hf
  clear f2 hf
  go_wp2_with fail
  obtain ⟨W2, hW⟩ : ∃ W, W = w2.alloc (Obj.cells #[Value.slice af (nlen 4294967296 1) cf] 26) := ⟨_, rfl⟩
  have fW : Fr w2 W2 := by rw [hW]; exact Fr.alloc _ _
  have c9 : W2.cell? ⟨w2.heap.size, 0, none⟩ = some (.slice af (nlen 4294967296 1) cf) := by rw [hW]; simp [go_sem]
  have z9 : W2.frozen? ⟨w2.heap.size, 0, none⟩ = false := by rw [hW]; simp [go_sem]
  rw [← hW]
  clear hW
  have HF := hide (IsNat.fr HF.out fW)
  (try go_wp2_with fail)
  go_loopw [23] (fun s23 wr => ∃ (i : Nat) (a : Option Addr) (c : Nat), i ≤ J ∧ s23 = .int .i64 i ∧ wr.cell? ⟨w2.heap.size, 0, none⟩ = some (.slice a (nlen 4294967296 (5 ^ i)) c) ∧ wr.frozen? ⟨w2.heap.size, 0, none⟩ = false ∧ Hid (IsNat wr (.agg #[.slice a (nlen 4294967296 (5 ^ i)) c]) (5 ^ i)) ∧ Hid (Fr w2 wr)) (fun s23 _ => J - (intOf s23).toNat)
  case atStart =>
    refine ⟨0, af, cf, by omega, rfl, ?_, z9, ?_, fW⟩
    · rw [Nat.pow_zero]; exact c9
    · rw [Nat.pow_zero]; exact HF.out
  case round =>
    obtain ⟨i, a, c, hi, rfl, c9, z9, hI, hF⟩ := hrel
    by_cases hc : i < J
    · have n5 := NF.out i hi
      have n5' := NF.out (i + 1) (by omega)
      obtain ⟨G, hG⟩ : ∃ G, 5 ^ i = G := ⟨_, rfl⟩
      obtain ⟨V, hV⟩ : ∃ V, 5 ^ (i + 1) = V := ⟨_, rfl⟩
      have hGV : G * 2 ^ 2 + G = V := by rw [← hV, ← hG, Nat.pow_succ]; omega
      rw [hG] at n5 hI c9
      rw [hV] at n5'
      have nU : nlen 4294967296 (G * 2 ^ 2) ≤ 300 := Nat.le_trans (nl_up n5) (by omega)
      obtain ⟨U, hU⟩ : ∃ U, G * 2 ^ 2 = U := ⟨_, rfl⟩
      rw [hU] at nU hGV
      have HU := hide hU
      have HV := hide hV
      have HGV := hide hGV
      have hcj : (i : Int) < (J : Int) := by omega
      clear hU hV hGV hG
      have c9 := fr_cell (Fr.drew wr) c9
      have z9 : wr.drew.frozen? ⟨w2.heap.size, 0, none⟩ = false := z9
      have hI := hide (IsNat.fr hI.out (Fr.drew wr))
      have hF := hide (hF.out.trans (Fr.drew wr))
      go_wp2_with fail
      refine wp_region_held_drew (S := (fun w' => Hid (Fr w2 w'))) (by kernel_rfl) ?_ (fun hHeld => ?_)
      · exact hF
      refine wpAnyH_ready (rs := [0, 2]) (by kernel_rfl) (by simp) ?_
      refine AllReadyH.cons rfl (fun K hK => ?_) ?_
      · go_simp
        (try go_wp2_with fail)
        refine hK.out _ _ ?_ (fun hHeld => ?_)
        · (try dsimp only)
          exact hF
        clear hK K
        (try simp only [Act.put, List.getElem_toArray, List.getElem_cons_zero, List.getElem_cons_succ, List.setIfInBounds_toArray, List.set_cons_zero, List.set_cons_succ])
        refine wpAnyH_ready (rs := [1, 2]) (by kernel_rfl) (by simp) ?_
        refine AllReadyH.cons rfl (fun K hK => ?_) ?_
        · go_simp
          refine (upc_any _ G 2 U _ hI.out (by omega) (by omega) (by omega) HU.out).mono ?_
          rintro e wu ⟨au, cu, rfl, iu, fy⟩
          have IU := hide iu
          have z9 := fr_free fy c9 z9
          have c9 := fr_cell fy c9
          have hI := hide (IsNat.fr hI.out fy)
          have hF := hide (hF.out.trans fy)
          clear fy iu
          (try go_wp2_with fail)
          refine hK.out _ _ ?_ (fun hHeld => ?_)
          · (try dsimp only)
            exact hF
          clear hK K
          (try simp only [Act.put, List.getElem_toArray, List.getElem_cons_zero, List.getElem_cons_succ, List.setIfInBounds_toArray, List.set_cons_zero, List.set_cons_succ])
          refine wpAnyH_ready (rs := [2]) (by kernel_rfl) (by simp) ?_
          refine AllReadyH.cons rfl (fun K hK => ?_) ?_
          · go_simp
            (try go_wp2_with fail)
            refine hK.out _ _ ?_ (fun hHeld => ?_)
            · (try dsimp only)
              exact hF
            clear hK K
            (try simp only [Act.put, List.getElem_toArray, List.getElem_cons_zero, List.getElem_cons_succ, List.setIfInBounds_toArray, List.set_cons_zero, List.set_cons_succ])
            refine wpAnyH_ready (rs := [3]) (by kernel_rfl) (by simp) ?_
            refine AllReadyH.cons rfl (fun K hK => ?_) ?_
            · go_simp
              refine (add_any _ _ U G _ IU.out hI.out (by omega) (by omega)).mono ?_
              rintro e wa ⟨aa, ca, rfl, ia, la, fy⟩
              rw [HGV.out] at ia
              rw [HGV.out]
              have IA := hide ia
              have s9 := cell_lt c9
              have LA : Hid (∀ g off s, aa = some ⟨g, off, s⟩ → w2.heap.size < g) := fun g off s e => by have := la g off s e; simp only [] at s9; omega
              have z9 := fr_free fy c9 z9
              have c9 := fr_cell fy c9
              have hF := hide (hF.out.trans fy)
              clear fy ia la s9
              (try go_wp2_with fail)
              refine hK.out _ _ ?_ (fun hHeld => ?_)
              · (try dsimp only)
                exact hF
              clear hK K
              (try simp only [Act.put, List.getElem_toArray, List.getElem_cons_zero, List.getElem_cons_succ, List.setIfInBounds_toArray, List.set_cons_zero, List.set_cons_succ])
              refine wpAnyH_ready (rs := [4]) (by kernel_rfl) (by simp) ?_
              refine AllReadyH.cons rfl (fun K hK => ?_) ?_
              · go_simp
                (try go_wp2_with fail)
                refine hK.out _ _ ?_ (fun hHeld => ?_)
                · (try dsimp only)
                  exact Below.setCell hF.out (by simp) _
                clear hK K
                (try simp only [Act.put, List.getElem_toArray, List.getElem_cons_zero, List.getElem_cons_succ, List.setIfInBounds_toArray, List.set_cons_zero, List.set_cons_succ])
                refine wpAnyH_done (by kernel_rfl) ?_ _
                have d9 := World.cell?_setCell_same wa ⟨w2.heap.size, 0, none⟩ (.slice aa (nlen 4294967296 V) ca) c9
                have y9 : (wa.setCell ⟨w2.heap.size, 0, none⟩ (.slice aa (nlen 4294967296 V) ca)).frozen? ⟨w2.heap.size, 0, none⟩ = false := by simpa using z9
                have I9 := hide (IsNat.put IA.out ⟨w2.heap.size, 0, none⟩ (.slice aa (nlen 4294967296 V) ca) (fun g off s e => by have := LA.out g off s e; simp; omega))
                have G9 : Hid (Fr w2 (wa.setCell ⟨w2.heap.size, 0, none⟩ (.slice aa (nlen 4294967296 V) ca))) := Below.setCell hF.out (by simp) _
                generalize wa.setCell ⟨w2.heap.size, 0, none⟩ (.slice aa (nlen 4294967296 V) ca) = wb at *
                clear c9 z9 IA LA hF hI
                go_wp2_with fail
                go_roundw
                case rel =>
                  refine ⟨i + 1, aa, ca, by omega, by go_num, ?_, y9, ?_, G9⟩
                  · rw [HV.out]; exact d9
                  · rw [HV.out]; exact I9
                case measure => simp [intOf]; omega
              exact AllReadyH.nil
            exact AllReadyH.nil
          exact AllReadyH.nil
        refine AllReadyH.cons rfl (fun K hK => ?_) ?_
        · go_simp
          (try go_wp2_with fail)
          refine hK.out _ _ ?_ (fun hHeld => ?_)
          · (try dsimp only)
            exact hF
          clear hK K
          (try simp only [Act.put, List.getElem_toArray, List.getElem_cons_zero, List.getElem_cons_succ, List.setIfInBounds_toArray, List.set_cons_zero, List.set_cons_succ])
          refine wpAnyH_ready (rs := [1]) (by kernel_rfl) (by simp) ?_
          refine AllReadyH.cons rfl (fun K hK => ?_) ?_
          · go_simp
            refine (upc_any _ G 2 U _ hI.out (by omega) (by omega) (by omega) HU.out).mono ?_
            rintro e wu ⟨au, cu, rfl, iu, fy⟩
            have IU := hide iu
            have z9 := fr_free fy c9 z9
            have c9 := fr_cell fy c9
            have hI := hide (IsNat.fr hI.out fy)
            have hF := hide (hF.out.trans fy)
            clear fy iu
            (try go_wp2_with fail)
            refine hK.out _ _ ?_ (fun hHeld => ?_)
            · (try dsimp only)
              exact hF
            clear hK K
            (try simp only [Act.put, List.getElem_toArray, List.getElem_cons_zero, List.getElem_cons_succ, List.setIfInBounds_toArray, List.set_cons_zero, List.set_cons_succ])
            refine wpAnyH_ready (rs := [3]) (by kernel_rfl) (by simp) ?_
            refine AllReadyH.cons rfl (fun K hK => ?_) ?_
            · go_simp
              refine (add_any _ _ U G _ IU.out hI.out (by omega) (by omega)).mono ?_
              rintro e wa ⟨aa, ca, rfl, ia, la, fy⟩
              rw [HGV.out] at ia
              rw [HGV.out]
              have IA := hide ia
              have s9 := cell_lt c9
              have LA : Hid (∀ g off s, aa = some ⟨g, off, s⟩ → w2.heap.size < g) := fun g off s e => by have := la g off s e; simp only [] at s9; omega
              have z9 := fr_free fy c9 z9
              have c9 := fr_cell fy c9
              have hF := hide (hF.out.trans fy)
              clear fy ia la s9
              (try go_wp2_with fail)
              refine hK.out _ _ ?_ (fun hHeld => ?_)
              · (try dsimp only)
                exact hF
              clear hK K
              (try simp only [Act.put, List.getElem_toArray, List.getElem_cons_zero, List.getElem_cons_succ, List.setIfInBounds_toArray, List.set_cons_zero, List.set_cons_succ])
              refine wpAnyH_ready (rs := [4]) (by kernel_rfl) (by simp) ?_
              refine AllReadyH.cons rfl (fun K hK => ?_) ?_
              · go_simp
                (try go_wp2_with fail)
                refine hK.out _ _ ?_ (fun hHeld => ?_)
                · (try dsimp only)
                  exact Below.setCell hF.out (by simp) _
                clear hK K
                (try simp only [Act.put, List.getElem_toArray, List.getElem_cons_zero, List.getElem_cons_succ, List.setIfInBounds_toArray, List.set_cons_zero, List.set_cons_succ])
                refine wpAnyH_done (by kernel_rfl) ?_ _
                have d9 := World.cell?_setCell_same wa ⟨w2.heap.size, 0, none⟩ (.slice aa (nlen 4294967296 V) ca) c9
                have y9 : (wa.setCell ⟨w2.heap.size, 0, none⟩ (.slice aa (nlen 4294967296 V) ca)).frozen? ⟨w2.heap.size, 0, none⟩ = false := by simpa using z9
                have I9 := hide (IsNat.put IA.out ⟨w2.heap.size, 0, none⟩ (.slice aa (nlen 4294967296 V) ca) (fun g off s e => by have := LA.out g off s e; simp; omega))
                have G9 : Hid (Fr w2 (wa.setCell ⟨w2.heap.size, 0, none⟩ (.slice aa (nlen 4294967296 V) ca))) := Below.setCell hF.out (by simp) _
                generalize wa.setCell ⟨w2.heap.size, 0, none⟩ (.slice aa (nlen 4294967296 V) ca) = wb at *
                clear c9 z9 IA LA hF hI
                go_wp2_with fail
                go_roundw
                case rel =>
                  refine ⟨i + 1, aa, ca, by omega, by go_num, ?_, y9, ?_, G9⟩
                  · rw [HV.out]; exact d9
                  · rw [HV.out]; exact I9
                case measure => simp [intOf]; omega
              exact AllReadyH.nil
            exact AllReadyH.nil
          exact AllReadyH.nil
        exact AllReadyH.nil
      refine AllReadyH.cons rfl (fun K hK => ?_) ?_
      · go_simp
        (try go_wp2_with fail)
        refine hK.out _ _ ?_ (fun hHeld => ?_)
        · (try dsimp only)
          exact hF
        clear hK K
        (try simp only [Act.put, List.getElem_toArray, List.getElem_cons_zero, List.getElem_cons_succ, List.setIfInBounds_toArray, List.set_cons_zero, List.set_cons_succ])
        refine wpAnyH_ready (rs := [0]) (by kernel_rfl) (by simp) ?_
        refine AllReadyH.cons rfl (fun K hK => ?_) ?_
        · go_simp
          (try go_wp2_with fail)
          refine hK.out _ _ ?_ (fun hHeld => ?_)
          · (try dsimp only)
            exact hF
          clear hK K
          (try simp only [Act.put, List.getElem_toArray, List.getElem_cons_zero, List.getElem_cons_succ, List.setIfInBounds_toArray, List.set_cons_zero, List.set_cons_succ])
          refine wpAnyH_ready (rs := [1]) (by kernel_rfl) (by simp) ?_
          refine AllReadyH.cons rfl (fun K hK => ?_) ?_
          · go_simp
            refine (upc_any _ G 2 U _ hI.out (by omega) (by omega) (by omega) HU.out).mono ?_
            rintro e wu ⟨au, cu, rfl, iu, fy⟩
            have IU := hide iu
            have z9 := fr_free fy c9 z9
            have c9 := fr_cell fy c9
            have hI := hide (IsNat.fr hI.out fy)
            have hF := hide (hF.out.trans fy)
            clear fy iu
            (try go_wp2_with fail)
            refine hK.out _ _ ?_ (fun hHeld => ?_)
            · (try dsimp only)
              exact hF
            clear hK K
            (try simp only [Act.put, List.getElem_toArray, List.getElem_cons_zero, List.getElem_cons_succ, List.setIfInBounds_toArray, List.set_cons_zero, List.set_cons_succ])
            refine wpAnyH_ready (rs := [3]) (by kernel_rfl) (by simp) ?_
            refine AllReadyH.cons rfl (fun K hK => ?_) ?_
            · go_simp
              refine (add_any _ _ U G _ IU.out hI.out (by omega) (by omega)).mono ?_
              rintro e wa ⟨aa, ca, rfl, ia, la, fy⟩
              rw [HGV.out] at ia
              rw [HGV.out]
              have IA := hide ia
              have s9 := cell_lt c9
              have LA : Hid (∀ g off s, aa = some ⟨g, off, s⟩ → w2.heap.size < g) := fun g off s e => by have := la g off s e; simp only [] at s9; omega
              have z9 := fr_free fy c9 z9
              have c9 := fr_cell fy c9
              have hF := hide (hF.out.trans fy)
              clear fy ia la s9
              (try go_wp2_with fail)
              refine hK.out _ _ ?_ (fun hHeld => ?_)
              · (try dsimp only)
                exact hF
              clear hK K
              (try simp only [Act.put, List.getElem_toArray, List.getElem_cons_zero, List.getElem_cons_succ, List.setIfInBounds_toArray, List.set_cons_zero, List.set_cons_succ])
              refine wpAnyH_ready (rs := [4]) (by kernel_rfl) (by simp) ?_
              refine AllReadyH.cons rfl (fun K hK => ?_) ?_
              · go_simp
                (try go_wp2_with fail)
                refine hK.out _ _ ?_ (fun hHeld => ?_)
                · (try dsimp only)
                  exact Below.setCell hF.out (by simp) _
                clear hK K
                (try simp only [Act.put, List.getElem_toArray, List.getElem_cons_zero, List.getElem_cons_succ, List.setIfInBounds_toArray, List.set_cons_zero, List.set_cons_succ])
                refine wpAnyH_done (by kernel_rfl) ?_ _
                have d9 := World.cell?_setCell_same wa ⟨w2.heap.size, 0, none⟩ (.slice aa (nlen 4294967296 V) ca) c9
                have y9 : (wa.setCell ⟨w2.heap.size, 0, none⟩ (.slice aa (nlen 4294967296 V) ca)).frozen? ⟨w2.heap.size, 0, none⟩ = false := by simpa using z9
                have I9 := hide (IsNat.put IA.out ⟨w2.heap.size, 0, none⟩ (.slice aa (nlen 4294967296 V) ca) (fun g off s e => by have := LA.out g off s e; simp; omega))
                have G9 : Hid (Fr w2 (wa.setCell ⟨w2.heap.size, 0, none⟩ (.slice aa (nlen 4294967296 V) ca))) := Below.setCell hF.out (by simp) _
                generalize wa.setCell ⟨w2.heap.size, 0, none⟩ (.slice aa (nlen 4294967296 V) ca) = wb at *
                clear c9 z9 IA LA hF hI
                go_wp2_with fail
                go_roundw
                case rel =>
                  refine ⟨i + 1, aa, ca, by omega, by go_num, ?_, y9, ?_, G9⟩
                  · rw [HV.out]; exact d9
                  · rw [HV.out]; exact I9
                case measure => simp [intOf]; omega
              exact AllReadyH.nil
            exact AllReadyH.nil
          exact AllReadyH.nil
        exact AllReadyH.nil
      exact AllReadyH.nil
    · have hcj : (J : Int) ≤ (i : Int) := by omega
      have ej : i = J := by omega
      subst ej
      rw [HE.out] at c9 hI
      have c7 := fr_cell hF.out c7
      have HX := hide (IsNat.fr HX.out hF.out)
      have F := hide (F.out.trans hF.out)
      clear hF z9 HF NF
      go_wp2_with fail
      refine (downc_any _ x i Y1 b1 _ (Tab.fr HT.out F.out) HX.out (by omega) (by omega) (by omega) (by rw [Int.toNat_natCast]; exact HY1.out) (by rw [Int.toNat_natCast]; exact HB1.out)).mono ?_
      rintro e w3 ⟨a10, c10', rfl, i10, f3⟩
      have c7 := fr_cell f3 c7
      have c9 := fr_cell f3 c9
      have HX := hide (IsNat.fr HX.out f3)
      have hI := hide (IsNat.fr hI.out f3)
      have F := hide (F.out.trans f3)
      have I10 := hide i10
      clear f3 i10
      go_wp2_with fail
      obtain ⟨W3, hW⟩ : ∃ W, W = w3.alloc (Obj.cells #[Value.slice a10 (nlen 4294967296 Y1) c10'] 26) := ⟨_, rfl⟩
      have fW : Fr w3 W3 := by rw [hW]; exact Fr.alloc _ _
      have c10 : W3.cell? ⟨w3.heap.size, 0, none⟩ = some (.slice a10 (nlen 4294967296 Y1) c10') := by rw [hW]; simp [go_sem]
      rw [← hW]
      clear hW
      have c7 := fr_cell fW c7
      have c9 := fr_cell fW c9
      have HX := hide (IsNat.fr HX.out fW)
      have hI := hide (IsNat.fr hI.out fW)
      have F := hide (F.out.trans fW)
      have I10 := hide (IsNat.fr I10.out fW)
      clear fW
      (try go_wp2_with fail)
      refine (downc_any _ Y1 M Y2 b2 _ (Tab.fr HT.out F.out) I10.out (by omega) (by omega) (by omega) (by rw [Int.toNat_natCast]; exact HY2.out) (by rw [Int.toNat_natCast]; exact HB2.out)).mono ?_
      rintro e w4 ⟨a12, c12', rfl, i12, f4⟩
      have c7 := fr_cell f4 c7
      have c9 := fr_cell f4 c9
      have HX := hide (IsNat.fr HX.out f4)
      have hI := hide (IsNat.fr hI.out f4)
      have F := hide (F.out.trans f4)
      have I12 := hide i12
      clear f4 i12 I10 c10
      go_wp2_with fail
      obtain ⟨W4, hW⟩ : ∃ W, W = w4.alloc (Obj.cells #[Value.slice a12 (nlen 4294967296 Y2) c12'] 26) := ⟨_, rfl⟩
      have fW : Fr w4 W4 := by rw [hW]; exact Fr.alloc _ _
      have c12 : W4.cell? ⟨w4.heap.size, 0, none⟩ = some (.slice a12 (nlen 4294967296 Y2) c12') := by rw [hW]; simp [go_sem]
      rw [← hW]
      clear hW
      have c7 := fr_cell fW c7
      have c9 := fr_cell fW c9
      have HX := hide (IsNat.fr HX.out fW)
      have hI := hide (IsNat.fr hI.out fW)
      have F := hide (F.out.trans fW)
      have I12 := hide (IsNat.fr I12.out fW)
      clear fW
      (try go_wp2_with fail)
      refine (downc_any _ x (i + M) Y2 (b1 || b2) _ (Tab.fr HT.out F.out) HX.out (by omega) (by omega) (by omega) (by rw [TJ.out]; exact HY3.out) (by rw [TJ.out]; exact HBB.out)).mono ?_
      rintro e w5 ⟨a14, c14', rfl, i14, f5⟩
      have c7 := fr_cell f5 c7
      have c9 := fr_cell f5 c9
      have c12 := fr_cell f5 c12
      have HX := hide (IsNat.fr HX.out f5)
      have hI := hide (IsNat.fr hI.out f5)
      have F := hide (F.out.trans f5)
      have I12 := hide (IsNat.fr I12.out f5)
      have I14 := hide i14
      clear f5 i14
      go_wp2_with fail
      obtain ⟨WE, hW⟩ : ∃ W, W = w5.alloc (Obj.cells #[Value.slice a14 (nlen 4294967296 Y2) c14'] 26) := ⟨_, rfl⟩
      have fW : Fr w5 WE := by rw [hW]; exact Fr.alloc _ _
      have c14 : WE.cell? ⟨w5.heap.size, 0, none⟩ = some (.slice a14 (nlen 4294967296 Y2) c14') := by rw [hW]; simp [go_sem]
      rw [← hW]
      clear hW
      have c7 := fr_cell fW c7
      have c9 := fr_cell fW c9
      have c12 := fr_cell fW c12
      have HX := hide (IsNat.fr HX.out fW)
      have hI := hide (IsNat.fr hI.out fW)
      have F := hide (F.out.trans fW)
      have I12 := hide (IsNat.fr I12.out fW)
      have I14 := hide (IsNat.fr I14.out fW)
      clear fW HB1 HB2 HBB
      (try go_wp2_with fail)
      rcases b1 with _ | _
      · (try simp only [Bool.false_or, Bool.true_or])
        refine wp_region_held_drew (S := (fun w' => w'.cell? ⟨w1.heap.size, 0, none⟩ = some (.slice ax (nlen 4294967296 x) cx) ∧ w'.cell? ⟨w2.heap.size, 0, none⟩ = some (.slice a (nlen 4294967296 E) c) ∧ w'.cell? ⟨w4.heap.size, 0, none⟩ = some (.slice a12 (nlen 4294967296 Y2) c12') ∧ w'.cell? ⟨w5.heap.size, 0, none⟩ = some (.slice a14 (nlen 4294967296 Y2) c14') ∧ Hid (Fr WE w'))) (by kernel_rfl) ?_ (fun hHeld => ?_)
        · exact ⟨c7, c9, c12, c14, Fr.drew _⟩
        refine wpAnyH_ready (rs := [0]) (by kernel_rfl) (by simp) ?_
        refine AllReadyH.cons rfl (fun K hK => ?_) AllReadyH.nil
        go_simp
        have hh : Hid (Fr WE _) := hHeld.2.2.2.2
        refine (wakes_any _ (Tab.fr HT.out (F.out.trans hh.out))).mono ?_
        rintro e wn ⟨rfl, fy⟩
        have fz := hide (hh.out.trans fy)
        clear fy
        clear hh
        (try go_wp2_with fail)
        refine hK.out _ _ ?_ (fun hHeld => ?_)
        · (try dsimp only)
          exact ⟨fr_cell fz.out c7, fr_cell fz.out c9, fr_cell fz.out c12, fr_cell fz.out c14, fz⟩
        clear hK K
        (try simp only [Act.put, List.getElem_toArray, List.getElem_cons_zero, List.getElem_cons_succ, List.setIfInBounds_toArray, List.set_cons_zero, List.set_cons_succ])
        refine wpAnyH_take (i := 1) (v := ?_) rfl (by kernel_rfl) (by kernel_rfl) (by kernel_rfl) (fun _ _ _ h => h) (Or.inl ⟨by rfl, ?_⟩) (by assumption) ?_
        rotate_left
        · (intro w hSw; (try dsimp only at hSw); go_simp; try with_reducible rfl)
        (try simp only [Act.put, List.getElem_toArray, List.getElem_cons_zero, List.getElem_cons_succ, List.setIfInBounds_toArray, List.set_cons_zero, List.set_cons_succ])
        refine wpAnyH_take (i := 2) (v := ?_) rfl (by kernel_rfl) (by kernel_rfl) (by kernel_rfl) (fun _ _ _ h => h) (Or.inl ⟨by rfl, ?_⟩) (by assumption) ?_
        rotate_left
        · (intro w hSw; (try dsimp only at hSw); go_simp; try with_reducible rfl)
        (try simp only [Act.put, List.getElem_toArray, List.getElem_cons_zero, List.getElem_cons_succ, List.setIfInBounds_toArray, List.set_cons_zero, List.set_cons_succ])
        refine wpAnyH_take (i := 3) (v := ?_) rfl (by kernel_rfl) (by kernel_rfl) (by kernel_rfl) (fun _ _ _ h => h) (Or.inl ⟨by rfl, ?_⟩) (by assumption) ?_
        rotate_left
        · (intro w hSw; (try dsimp only at hSw); go_simp; try with_reducible rfl)
        (try simp only [Act.put, List.getElem_toArray, List.getElem_cons_zero, List.getElem_cons_succ, List.setIfInBounds_toArray, List.set_cons_zero, List.set_cons_succ])
        refine wpAnyH_take (i := 5) (v := ?_) rfl (by kernel_rfl) (by kernel_rfl) (by kernel_rfl) (fun _ _ _ h => h) (Or.inl ⟨by rfl, ?_⟩) (by assumption) ?_
        rotate_left
        · (intro w hSw; (try dsimp only at hSw); go_simp; try with_reducible rfl)
        (try simp only [Act.put, List.getElem_toArray, List.getElem_cons_zero, List.getElem_cons_succ, List.setIfInBounds_toArray, List.set_cons_zero, List.set_cons_succ])
        refine wpAnyH_ready (rs := [4]) (by kernel_rfl) (by simp) ?_
        refine AllReadyH.cons rfl (fun K hK => ?_) AllReadyH.nil
        go_simp
        have hh : Hid (Fr WE _) := hHeld.2.2.2.2
        refine (upc_any _ E i T _ (IsNat.fr hI.out hh.out) (by omega) (by omega) (by omega) (by rw [Int.toNat_natCast]; exact HET.out)).mono ?_
        rintro e wn ⟨av, cv, rfl, iv, fy⟩
        have fz := hide (hh.out.trans fy)
        have IV := hide iv
        clear fy iv
        clear hh
        (try go_wp2_with fail)
        refine hK.out _ _ ?_ (fun hHeld => ?_)
        · (try dsimp only)
          exact ⟨fr_cell fz.out c7, fr_cell fz.out c9, fr_cell fz.out c12, fr_cell fz.out c14, fz⟩
        clear hK K
        (try simp only [Act.put, List.getElem_toArray, List.getElem_cons_zero, List.getElem_cons_succ, List.setIfInBounds_toArray, List.set_cons_zero, List.set_cons_succ])
        refine wpAnyH_ready (rs := [6]) (by kernel_rfl) (by simp) ?_
        refine AllReadyH.cons rfl (fun K hK => ?_) AllReadyH.nil
        go_simp
        have hh : Hid (Fr WE _) := hHeld.2.2.2.2
        refine (tenc_any i T _ (by omega) (by omega) (by rw [Int.toNat_natCast]; exact HT10.out)).mono ?_
        rintro e wn ⟨at', ct, rfl, it, fy⟩
        have fz := hide (hh.out.trans fy)
        have IV := hide (IsNat.fr IV.out fy)
        have IT := hide it
        clear fy it
        clear hh
        (try go_wp2_with fail)
        refine hK.out _ _ ?_ (fun hHeld => ?_)
        · (try dsimp only)
          exact ⟨fr_cell fz.out c7, fr_cell fz.out c9, fr_cell fz.out c12, fr_cell fz.out c14, fz⟩
        clear hK K
        (try simp only [Act.put, List.getElem_toArray, List.getElem_cons_zero, List.getElem_cons_succ, List.setIfInBounds_toArray, List.set_cons_zero, List.set_cons_succ])
        refine wpAnyH_ready (rs := [7]) (by kernel_rfl) (by simp) ?_
        refine AllReadyH.cons rfl (fun K hK => ?_) AllReadyH.nil
        go_simp
        have hh : Hid (Fr WE _) := hHeld.2.2.2.2
        refine (cmp_any _ _ T T _ IV.out IT.out (by omega) (by omega)).mono ?_
        rintro e wn ⟨rfl, fy⟩
        have fz := hide (hh.out.trans fy)
        rw [cmp_same]
        clear fy IV IT
        clear hh
        (try go_wp2_with fail)
        refine hK.out _ _ ?_ (fun hHeld => ?_)
        · (try dsimp only)
          exact ⟨fr_cell fz.out c7, fr_cell fz.out c9, fr_cell fz.out c12, fr_cell fz.out c14, fz⟩
        clear hK K
        (try simp only [Act.put, List.getElem_toArray, List.getElem_cons_zero, List.getElem_cons_succ, List.setIfInBounds_toArray, List.set_cons_zero, List.set_cons_succ])
        refine wpAnyH_take (i := 8) (v := ?_) rfl (by kernel_rfl) (by kernel_rfl) (by kernel_rfl) (fun _ _ _ h => h) (Or.inl ⟨by rfl, ?_⟩) (by assumption) ?_
        rotate_left
        · (intro w hSw; (try dsimp only at hSw); go_simp; try with_reducible rfl)
        (try simp only [Act.put, List.getElem_toArray, List.getElem_cons_zero, List.getElem_cons_succ, List.setIfInBounds_toArray, List.set_cons_zero, List.set_cons_succ])
        refine wpAnyH_take (i := 9) (v := ?_) rfl (by kernel_rfl) (by kernel_rfl) (by kernel_rfl) (fun _ _ _ h => h) (Or.inl ⟨by rfl, ?_⟩) (by assumption) ?_
        rotate_left
        · (intro w hSw; (try dsimp only at hSw); go_simp; try with_reducible rfl)
        (try simp only [Act.put, List.getElem_toArray, List.getElem_cons_zero, List.getElem_cons_succ, List.setIfInBounds_toArray, List.set_cons_zero, List.set_cons_succ])
        refine wpAnyH_take (i := 10) (v := ?_) rfl (by kernel_rfl) (by kernel_rfl) (by kernel_rfl) (fun _ _ _ h => h) (Or.inl ⟨by rfl, ?_⟩) (by assumption) ?_
        rotate_left
        · (intro w hSw; (try dsimp only at hSw); go_simp; try with_reducible rfl)
        (try simp only [Act.put, List.getElem_toArray, List.getElem_cons_zero, List.getElem_cons_succ, List.setIfInBounds_toArray, List.set_cons_zero, List.set_cons_succ])
        refine wpAnyH_take (i := 11) (v := ?_) rfl (by kernel_rfl) (by kernel_rfl) (by kernel_rfl) (fun _ _ _ h => h) (Or.inl ⟨by rfl, ?_⟩) (by assumption) ?_
        rotate_left
        · (intro w hSw; (try dsimp only at hSw); go_simp; try with_reducible rfl)
        (try simp only [Act.put, List.getElem_toArray, List.getElem_cons_zero, List.getElem_cons_succ, List.setIfInBounds_toArray, List.set_cons_zero, List.set_cons_succ])
        refine wpAnyH_take (i := 12) (v := ?_) rfl (by kernel_rfl) (by kernel_rfl) (by kernel_rfl) (fun _ _ _ h => h) (Or.inl ⟨by rfl, ?_⟩) (by assumption) ?_
        rotate_left
        · (intro w hSw; (try dsimp only at hSw); go_simp; try with_reducible rfl)
        (try simp only [Act.put, List.getElem_toArray, List.getElem_cons_zero, List.getElem_cons_succ, List.setIfInBounds_toArray, List.set_cons_zero, List.set_cons_succ])
        refine wpAnyH_take (i := 13) (v := ?_) rfl (by kernel_rfl) (by kernel_rfl) (by kernel_rfl) (fun _ _ _ h => h) (Or.inl ⟨by rfl, ?_⟩) (by assumption) ?_
        rotate_left
        · (intro w hSw; (try dsimp only at hSw); go_simp; try with_reducible rfl)
        (try simp only [Act.put, List.getElem_toArray, List.getElem_cons_zero, List.getElem_cons_succ, List.setIfInBounds_toArray, List.set_cons_zero, List.set_cons_succ])
        refine wpAnyH_take (i := 15) (v := ?_) rfl (by kernel_rfl) (by kernel_rfl) (by kernel_rfl) (fun _ _ _ h => h) (Or.inl ⟨by rfl, ?_⟩) (by assumption) ?_
        rotate_left
        · (intro w hSw; (try dsimp only at hSw); go_simp; try with_reducible rfl)
        (try simp only [Act.put, List.getElem_toArray, List.getElem_cons_zero, List.getElem_cons_succ, List.setIfInBounds_toArray, List.set_cons_zero, List.set_cons_succ])
        refine wpAnyH_take (i := 16) (v := ?_) rfl (by kernel_rfl) (by kernel_rfl) (by kernel_rfl) (fun _ _ _ h => h) (Or.inl ⟨by rfl, ?_⟩) (by assumption) ?_
        rotate_left
        · (intro w hSw; (try dsimp only at hSw); go_simp; try with_reducible rfl)
        (try simp only [Act.put, List.getElem_toArray, List.getElem_cons_zero, List.getElem_cons_succ, List.setIfInBounds_toArray, List.set_cons_zero, List.set_cons_succ])
        refine wpAnyH_take (i := 18) (v := ?_) rfl (by kernel_rfl) (by kernel_rfl) (by kernel_rfl) (fun _ _ _ h => h) (Or.inl ⟨by rfl, ?_⟩) (by assumption) ?_
        rotate_left
        · (intro w hSw; (try dsimp only at hSw); go_simp; try with_reducible rfl)
        (try simp only [Act.put, List.getElem_toArray, List.getElem_cons_zero, List.getElem_cons_succ, List.setIfInBounds_toArray, List.set_cons_zero, List.set_cons_succ])
        refine wpAnyH_take (i := 19) (v := ?_) rfl (by kernel_rfl) (by kernel_rfl) (by kernel_rfl) (fun _ _ _ h => h) (Or.inl ⟨by rfl, ?_⟩) (by assumption) ?_
        rotate_left
        · (intro w hSw; (try dsimp only at hSw); go_simp; try with_reducible rfl)
        (try simp only [Act.put, List.getElem_toArray, List.getElem_cons_zero, List.getElem_cons_succ, List.setIfInBounds_toArray, List.set_cons_zero, List.set_cons_succ])
        refine wpAnyH_take (i := 20) (v := ?_) rfl (by kernel_rfl) (by kernel_rfl) (by kernel_rfl) (fun _ _ _ h => h) (Or.inl ⟨by rfl, ?_⟩) (by assumption) ?_
        rotate_left
        · (intro w hSw; (try dsimp only at hSw); go_simp; try with_reducible rfl)
        (try simp only [Act.put, List.getElem_toArray, List.getElem_cons_zero, List.getElem_cons_succ, List.setIfInBounds_toArray, List.set_cons_zero, List.set_cons_succ])
        refine wpAnyH_take (i := 21) (v := ?_) rfl (by kernel_rfl) (by kernel_rfl) (by kernel_rfl) (fun _ _ _ h => h) (Or.inl ⟨by rfl, ?_⟩) (by assumption) ?_
        rotate_left
        · (intro w hSw; (try dsimp only at hSw); go_simp; try with_reducible rfl)
        (try simp only [Act.put, List.getElem_toArray, List.getElem_cons_zero, List.getElem_cons_succ, List.setIfInBounds_toArray, List.set_cons_zero, List.set_cons_succ])
        refine wpAnyH_take (i := 22) (v := ?_) rfl (by kernel_rfl) (by kernel_rfl) (by kernel_rfl) (fun _ _ _ h => h) (Or.inl ⟨by rfl, ?_⟩) (by assumption) ?_
        rotate_left
        · (intro w hSw; (try dsimp only at hSw); go_simp; try with_reducible rfl)
        (try simp only [Act.put, List.getElem_toArray, List.getElem_cons_zero, List.getElem_cons_succ, List.setIfInBounds_toArray, List.set_cons_zero, List.set_cons_succ])
        refine wpAnyH_take (i := 23) (v := ?_) rfl (by kernel_rfl) (by kernel_rfl) (by kernel_rfl) (fun _ _ _ h => h) (Or.inl ⟨by rfl, ?_⟩) (by assumption) ?_
        rotate_left
        · (intro w hSw; (try dsimp only at hSw); go_simp; try with_reducible rfl)
        (try simp only [Act.put, List.getElem_toArray, List.getElem_cons_zero, List.getElem_cons_succ, List.setIfInBounds_toArray, List.set_cons_zero, List.set_cons_succ])
        refine wpAnyH_ready (rs := [14]) (by kernel_rfl) (by simp) ?_
        refine AllReadyH.cons rfl (fun K hK => ?_) AllReadyH.nil
        go_simp
        have hh : Hid (Fr WE _) := hHeld.2.2.2.2
        refine (upc_any _ x i X1 _ (IsNat.fr HX.out hh.out) (by omega) (by omega) (by omega) (by rw [Int.toNat_natCast]; exact HX1.out)).mono ?_
        rintro e wn ⟨av1, cv1, rfl, iv, fy⟩
        have fz := hide (hh.out.trans fy)
        have IV := hide iv
        clear fy iv
        clear hh
        (try go_wp2_with fail)
        refine hK.out _ _ ?_ (fun hHeld => ?_)
        · (try dsimp only)
          exact ⟨fr_cell fz.out c7, fr_cell fz.out c9, fr_cell fz.out c12, fr_cell fz.out c14, fz⟩
        clear hK K
        (try simp only [Act.put, List.getElem_toArray, List.getElem_cons_zero, List.getElem_cons_succ, List.setIfInBounds_toArray, List.set_cons_zero, List.set_cons_succ])
        refine wpAnyH_ready (rs := [17]) (by kernel_rfl) (by simp) ?_
        refine AllReadyH.cons rfl (fun K hK => ?_) AllReadyH.nil
        go_simp
        have hh : Hid (Fr WE _) := hHeld.2.2.2.2
        refine (upc_any _ X1 M X2 _ IV.out (by omega) (by omega) (by omega) (by rw [Int.toNat_natCast]; exact HX2.out)).mono ?_
        rintro e wn ⟨av2, cv2, rfl, iv, fy⟩
        have fz := hide (hh.out.trans fy)
        have IV := hide iv
        clear fy iv
        clear hh
        (try go_wp2_with fail)
        refine hK.out _ _ ?_ (fun hHeld => ?_)
        · (try dsimp only)
          exact ⟨fr_cell fz.out c7, fr_cell fz.out c9, fr_cell fz.out c12, fr_cell fz.out c14, fz⟩
        clear hK K
        (try simp only [Act.put, List.getElem_toArray, List.getElem_cons_zero, List.getElem_cons_succ, List.setIfInBounds_toArray, List.set_cons_zero, List.set_cons_succ])
        refine wpAnyH_ready (rs := [24]) (by kernel_rfl) (by simp) ?_
        refine AllReadyH.cons rfl (fun K hK => ?_) AllReadyH.nil
        go_simp
        have hh : Hid (Fr WE _) := hHeld.2.2.2.2
        refine (upc_any _ x (i + M) X2 _ (IsNat.fr HX.out hh.out) (by omega) (by omega) (by omega) (by rw [TJ.out]; exact HX3.out)).mono ?_
        rintro e wn ⟨av3, cv3, rfl, iv, fy⟩
        have fz := hide (hh.out.trans fy)
        have IV := hide (IsNat.fr IV.out fy)
        have IT := hide iv
        clear fy iv
        clear hh
        (try go_wp2_with fail)
        refine hK.out _ _ ?_ (fun hHeld => ?_)
        · (try dsimp only)
          exact ⟨fr_cell fz.out c7, fr_cell fz.out c9, fr_cell fz.out c12, fr_cell fz.out c14, fz⟩
        clear hK K
        (try simp only [Act.put, List.getElem_toArray, List.getElem_cons_zero, List.getElem_cons_succ, List.setIfInBounds_toArray, List.set_cons_zero, List.set_cons_succ])
        refine wpAnyH_ready (rs := [25]) (by kernel_rfl) (by simp) ?_
        refine AllReadyH.cons rfl (fun K hK => ?_) AllReadyH.nil
        go_simp
        have hh : Hid (Fr WE _) := hHeld.2.2.2.2
        refine (cmp_any _ _ X2 X2 _ IV.out IT.out (by omega) (by omega)).mono ?_
        rintro e wn ⟨rfl, fy⟩
        have fz := hide (hh.out.trans fy)
        rw [cmp_same]
        clear fy IV IT
        clear hh
        (try go_wp2_with fail)
        refine hK.out _ _ ?_ (fun hHeld => ?_)
        · (try dsimp only)
          exact ⟨fr_cell fz.out c7, fr_cell fz.out c9, fr_cell fz.out c12, fr_cell fz.out c14, fz⟩
        clear hK K
        (try simp only [Act.put, List.getElem_toArray, List.getElem_cons_zero, List.getElem_cons_succ, List.setIfInBounds_toArray, List.set_cons_zero, List.set_cons_succ])
        refine wpAnyH_take (i := 26) (v := ?_) rfl (by kernel_rfl) (by kernel_rfl) (by kernel_rfl) (fun _ _ _ h => h) (Or.inl ⟨by rfl, ?_⟩) (by assumption) ?_
        rotate_left
        · (intro w hSw; (try dsimp only at hSw); go_simp; try with_reducible rfl)
        (try simp only [Act.put, List.getElem_toArray, List.getElem_cons_zero, List.getElem_cons_succ, List.setIfInBounds_toArray, List.set_cons_zero, List.set_cons_succ])
        refine wpAnyH_take (i := 27) (v := ?_) rfl (by kernel_rfl) (by kernel_rfl) (by kernel_rfl) (fun _ _ _ h => h) (Or.inl ⟨by rfl, ?_⟩) (by assumption) ?_
        rotate_left
        · (intro w hSw; (try dsimp only at hSw); go_simp; try with_reducible rfl)
        (try simp only [Act.put, List.getElem_toArray, List.getElem_cons_zero, List.getElem_cons_succ, List.setIfInBounds_toArray, List.set_cons_zero, List.set_cons_succ])
        refine wpAnyH_take (i := 28) (v := ?_) rfl (by kernel_rfl) (by kernel_rfl) (by kernel_rfl) (fun _ _ _ h => h) (Or.inl ⟨by rfl, ?_⟩) (by assumption) ?_
        rotate_left
        · (intro w hSw; (try dsimp only at hSw); go_simp; try with_reducible rfl)
        (try simp only [Act.put, List.getElem_toArray, List.getElem_cons_zero, List.getElem_cons_succ, List.setIfInBounds_toArray, List.set_cons_zero, List.set_cons_succ])
        refine wpAnyH_take (i := 29) (v := ?_) rfl (by kernel_rfl) (by kernel_rfl) (by kernel_rfl) (fun _ _ _ h => h) (Or.inl ⟨by rfl, ?_⟩) (by assumption) ?_
        rotate_left
        · (intro w hSw; (try dsimp only at hSw); go_simp; try with_reducible rfl)
        (try simp only [Act.put, List.getElem_toArray, List.getElem_cons_zero, List.getElem_cons_succ, List.setIfInBounds_toArray, List.set_cons_zero, List.set_cons_succ])
        refine wpAnyH_take (i := 30) (v := ?_) rfl (by kernel_rfl) (by kernel_rfl) (by kernel_rfl) (fun _ _ _ h => h) (Or.inl ⟨by rfl, ?_⟩) (by assumption) ?_
        rotate_left
        · (intro w hSw; (try dsimp only at hSw); go_simp; try with_reducible rfl)
        (try simp only [Act.put, List.getElem_toArray, List.getElem_cons_zero, List.getElem_cons_succ, List.setIfInBounds_toArray, List.set_cons_zero, List.set_cons_succ])
        refine wpAnyH_ready (rs := [31]) (by kernel_rfl) (by simp) ?_
        refine AllReadyH.cons rfl (fun K hK => ?_) AllReadyH.nil
        go_simp
        have hh : Hid (Fr WE _) := hHeld.2.2.2.2
        refine (cmp_any _ _ Y2 Y2 _ (IsNat.fr I12.out hh.out) (IsNat.fr I14.out hh.out) (by omega) (by omega)).mono ?_
        rintro e wn ⟨rfl, fy⟩
        have fz := hide (hh.out.trans fy)
        rw [cmp_same]
        clear fy
        clear hh
        (try go_wp2_with fail)
        refine hK.out _ _ ?_ (fun hHeld => ?_)
        · (try dsimp only)
          exact ⟨fr_cell fz.out c7, fr_cell fz.out c9, fr_cell fz.out c12, fr_cell fz.out c14, fz⟩
        clear hK K
        (try simp only [Act.put, List.getElem_toArray, List.getElem_cons_zero, List.getElem_cons_succ, List.setIfInBounds_toArray, List.set_cons_zero, List.set_cons_succ])
        refine wpAnyH_take (i := 32) (v := ?_) rfl (by kernel_rfl) (by kernel_rfl) (by kernel_rfl) (fun _ _ _ h => h) (Or.inl ⟨by rfl, ?_⟩) (by assumption) ?_
        rotate_left
        · (intro w hSw; (try dsimp only at hSw); go_simp; try with_reducible rfl)
        (try simp only [Act.put, List.getElem_toArray, List.getElem_cons_zero, List.getElem_cons_succ, List.setIfInBounds_toArray, List.set_cons_zero, List.set_cons_succ])
        refine wpAnyH_take (i := 33) (v := ?_) rfl (by kernel_rfl) (by kernel_rfl) (by kernel_rfl) (fun _ _ _ h => h) (Or.inl ⟨by rfl, ?_⟩) (by assumption) ?_
        rotate_left
        · (intro w hSw; (try dsimp only at hSw); go_simp; try with_reducible rfl)
        (try simp only [Act.put, List.getElem_toArray, List.getElem_cons_zero, List.getElem_cons_succ, List.setIfInBounds_toArray, List.set_cons_zero, List.set_cons_succ])
        refine wpAnyH_take (i := 34) (v := ?_) rfl (by kernel_rfl) (by kernel_rfl) (by kernel_rfl) (fun _ _ _ h => h) (Or.inl ⟨by rfl, ?_⟩) (by assumption) ?_
        rotate_left
        · (intro w hSw; (try dsimp only at hSw); go_simp; try with_reducible rfl)
        (try simp only [Act.put, List.getElem_toArray, List.getElem_cons_zero, List.getElem_cons_succ, List.setIfInBounds_toArray, List.set_cons_zero, List.set_cons_succ])
        refine wpAnyH_take (i := 35) (v := ?_) rfl (by kernel_rfl) (by kernel_rfl) (by kernel_rfl) (fun _ _ _ h => h) (Or.inl ⟨by rfl, ?_⟩) (by assumption) ?_
        rotate_left
        · (intro w hSw; (try dsimp only at hSw); go_simp; try with_reducible rfl)
        (try simp only [Act.put, List.getElem_toArray, List.getElem_cons_zero, List.getElem_cons_succ, List.setIfInBounds_toArray, List.set_cons_zero, List.set_cons_succ])
        refine wpAnyH_take (i := 36) (v := ?_) rfl (by kernel_rfl) (by kernel_rfl) (by kernel_rfl) (fun _ _ _ h => h) (Or.inl ⟨by rfl, ?_⟩) (by assumption) ?_
        rotate_left
        · (intro w hSw; (try dsimp only at hSw); go_simp; try with_reducible rfl)
        (try simp only [Act.put, List.getElem_toArray, List.getElem_cons_zero, List.getElem_cons_succ, List.setIfInBounds_toArray, List.set_cons_zero, List.set_cons_succ])
        refine wpAnyH_take (i := 37) (v := ?_) rfl (by kernel_rfl) (by kernel_rfl) (by kernel_rfl) (fun _ _ _ h => h) (Or.inl ⟨by rfl, ?_⟩) (by assumption) ?_
        rotate_left
        · (intro w hSw; (try dsimp only at hSw); go_simp; try with_reducible rfl)
        (try simp only [Act.put, List.getElem_toArray, List.getElem_cons_zero, List.getElem_cons_succ, List.setIfInBounds_toArray, List.set_cons_zero, List.set_cons_succ])
        refine wpAnyH_take (i := 38) (v := ?_) rfl (by kernel_rfl) (by kernel_rfl) (by kernel_rfl) (fun _ _ _ h => h) (Or.inl ⟨by rfl, ?_⟩) (by assumption) ?_
        rotate_left
        · (intro w hSw; (try dsimp only at hSw); go_simp; try with_reducible rfl)
        (try simp only [Act.put, List.getElem_toArray, List.getElem_cons_zero, List.getElem_cons_succ, List.setIfInBounds_toArray, List.set_cons_zero, List.set_cons_succ])
        refine wpAnyH_take (i := 39) (v := ?_) rfl (by kernel_rfl) (by kernel_rfl) (by kernel_rfl) (fun _ _ _ h => h) (Or.inl ⟨by rfl, ?_⟩) (by assumption) ?_
        rotate_left
        · (intro w hSw; (try dsimp only at hSw); go_simp; try with_reducible rfl)
        (try simp only [Act.put, List.getElem_toArray, List.getElem_cons_zero, List.getElem_cons_succ, List.setIfInBounds_toArray, List.set_cons_zero, List.set_cons_succ])
        refine wpAnyH_take (i := 40) (v := ?_) rfl (by kernel_rfl) (by kernel_rfl) (by kernel_rfl) (fun _ _ _ h => h) (Or.inl ⟨by rfl, ?_⟩) (by assumption) ?_
        rotate_left
        · (intro w hSw; (try dsimp only at hSw); go_simp; try with_reducible rfl)
        (try simp only [Act.put, List.getElem_toArray, List.getElem_cons_zero, List.getElem_cons_succ, List.setIfInBounds_toArray, List.set_cons_zero, List.set_cons_succ])
        refine wpAnyH_take (i := 41) (v := ?_) rfl (by kernel_rfl) (by kernel_rfl) (by kernel_rfl) (fun _ _ _ h => h) (Or.inl ⟨by rfl, ?_⟩) (by assumption) ?_
        rotate_left
        · (intro w hSw; (try dsimp only at hSw); go_simp; try with_reducible rfl)
        (try simp only [Act.put, List.getElem_toArray, List.getElem_cons_zero, List.getElem_cons_succ, List.setIfInBounds_toArray, List.set_cons_zero, List.set_cons_succ])
        refine wpAnyH_take (i := 42) (v := ?_) rfl (by kernel_rfl) (by kernel_rfl) (by kernel_rfl) (fun _ _ _ h => h) (Or.inl ⟨by rfl, ?_⟩) (by assumption) ?_
        rotate_left
        · (intro w hSw; (try dsimp only at hSw); go_simp; try with_reducible rfl)
        (try simp only [Act.put, List.getElem_toArray, List.getElem_cons_zero, List.getElem_cons_succ, List.setIfInBounds_toArray, List.set_cons_zero, List.set_cons_succ])
        refine wpAnyH_done (by kernel_rfl) ?_ _
        go_wp2_with fail
        go_ret
        exact ⟨rfl, F.out.trans fz.out⟩
      · (try simp only [Bool.false_or, Bool.true_or])
        refine wp_region_held_drew (S := (fun w' => w'.cell? ⟨w1.heap.size, 0, none⟩ = some (.slice ax (nlen 4294967296 x) cx) ∧ w'.cell? ⟨w2.heap.size, 0, none⟩ = some (.slice a (nlen 4294967296 E) c) ∧ w'.cell? ⟨w4.heap.size, 0, none⟩ = some (.slice a12 (nlen 4294967296 Y2) c12') ∧ w'.cell? ⟨w5.heap.size, 0, none⟩ = some (.slice a14 (nlen 4294967296 Y2) c14') ∧ Hid (Fr WE w'))) (by kernel_rfl) ?_ (fun hHeld => ?_)
        · exact ⟨c7, c9, c12, c14, Fr.drew _⟩
        refine wpAnyH_ready (rs := [0]) (by kernel_rfl) (by simp) ?_
        refine AllReadyH.cons rfl (fun K hK => ?_) AllReadyH.nil
        go_simp
        have hh : Hid (Fr WE _) := hHeld.2.2.2.2
        refine (wakes_any _ (Tab.fr HT.out (F.out.trans hh.out))).mono ?_
        rintro e wn ⟨rfl, fy⟩
        have fz := hide (hh.out.trans fy)
        clear fy
        clear hh
        (try go_wp2_with fail)
        refine hK.out _ _ ?_ (fun hHeld => ?_)
        · (try dsimp only)
          exact ⟨fr_cell fz.out c7, fr_cell fz.out c9, fr_cell fz.out c12, fr_cell fz.out c14, fz⟩
        clear hK K
        (try simp only [Act.put, List.getElem_toArray, List.getElem_cons_zero, List.getElem_cons_succ, List.setIfInBounds_toArray, List.set_cons_zero, List.set_cons_succ])
        refine wpAnyH_take (i := 1) (v := ?_) rfl (by kernel_rfl) (by kernel_rfl) (by kernel_rfl) (fun _ _ _ h => h) (Or.inl ⟨by rfl, ?_⟩) (by assumption) ?_
        rotate_left
        · (intro w hSw; (try dsimp only at hSw); go_simp; try with_reducible rfl)
        (try simp only [Act.put, List.getElem_toArray, List.getElem_cons_zero, List.getElem_cons_succ, List.setIfInBounds_toArray, List.set_cons_zero, List.set_cons_succ])
        refine wpAnyH_take (i := 2) (v := ?_) rfl (by kernel_rfl) (by kernel_rfl) (by kernel_rfl) (fun _ _ _ h => h) (Or.inl ⟨by rfl, ?_⟩) (by assumption) ?_
        rotate_left
        · (intro w hSw; (try dsimp only at hSw); go_simp; try with_reducible rfl)
        (try simp only [Act.put, List.getElem_toArray, List.getElem_cons_zero, List.getElem_cons_succ, List.setIfInBounds_toArray, List.set_cons_zero, List.set_cons_succ])
        refine wpAnyH_take (i := 3) (v := ?_) rfl (by kernel_rfl) (by kernel_rfl) (by kernel_rfl) (fun _ _ _ h => h) (Or.inl ⟨by rfl, ?_⟩) (by assumption) ?_
        rotate_left
        · (intro w hSw; (try dsimp only at hSw); go_simp; try with_reducible rfl)
        (try simp only [Act.put, List.getElem_toArray, List.getElem_cons_zero, List.getElem_cons_succ, List.setIfInBounds_toArray, List.set_cons_zero, List.set_cons_succ])
        refine wpAnyH_take (i := 5) (v := ?_) rfl (by kernel_rfl) (by kernel_rfl) (by kernel_rfl) (fun _ _ _ h => h) (Or.inl ⟨by rfl, ?_⟩) (by assumption) ?_
        rotate_left
        · (intro w hSw; (try dsimp only at hSw); go_simp; try with_reducible rfl)
        (try simp only [Act.put, List.getElem_toArray, List.getElem_cons_zero, List.getElem_cons_succ, List.setIfInBounds_toArray, List.set_cons_zero, List.set_cons_succ])
        refine wpAnyH_ready (rs := [4]) (by kernel_rfl) (by simp) ?_
        refine AllReadyH.cons rfl (fun K hK => ?_) AllReadyH.nil
        go_simp
        have hh : Hid (Fr WE _) := hHeld.2.2.2.2
        refine (upc_any _ E i T _ (IsNat.fr hI.out hh.out) (by omega) (by omega) (by omega) (by rw [Int.toNat_natCast]; exact HET.out)).mono ?_
        rintro e wn ⟨av, cv, rfl, iv, fy⟩
        have fz := hide (hh.out.trans fy)
        have IV := hide iv
        clear fy iv
        clear hh
        (try go_wp2_with fail)
        refine hK.out _ _ ?_ (fun hHeld => ?_)
        · (try dsimp only)
          exact ⟨fr_cell fz.out c7, fr_cell fz.out c9, fr_cell fz.out c12, fr_cell fz.out c14, fz⟩
        clear hK K
        (try simp only [Act.put, List.getElem_toArray, List.getElem_cons_zero, List.getElem_cons_succ, List.setIfInBounds_toArray, List.set_cons_zero, List.set_cons_succ])
        refine wpAnyH_ready (rs := [6]) (by kernel_rfl) (by simp) ?_
        refine AllReadyH.cons rfl (fun K hK => ?_) AllReadyH.nil
        go_simp
        have hh : Hid (Fr WE _) := hHeld.2.2.2.2
        refine (tenc_any i T _ (by omega) (by omega) (by rw [Int.toNat_natCast]; exact HT10.out)).mono ?_
        rintro e wn ⟨at', ct, rfl, it, fy⟩
        have fz := hide (hh.out.trans fy)
        have IV := hide (IsNat.fr IV.out fy)
        have IT := hide it
        clear fy it
        clear hh
        (try go_wp2_with fail)
        refine hK.out _ _ ?_ (fun hHeld => ?_)
        · (try dsimp only)
          exact ⟨fr_cell fz.out c7, fr_cell fz.out c9, fr_cell fz.out c12, fr_cell fz.out c14, fz⟩
        clear hK K
        (try simp only [Act.put, List.getElem_toArray, List.getElem_cons_zero, List.getElem_cons_succ, List.setIfInBounds_toArray, List.set_cons_zero, List.set_cons_succ])
        refine wpAnyH_ready (rs := [7]) (by kernel_rfl) (by simp) ?_
        refine AllReadyH.cons rfl (fun K hK => ?_) AllReadyH.nil
        go_simp
        have hh : Hid (Fr WE _) := hHeld.2.2.2.2
        refine (cmp_any _ _ T T _ IV.out IT.out (by omega) (by omega)).mono ?_
        rintro e wn ⟨rfl, fy⟩
        have fz := hide (hh.out.trans fy)
        rw [cmp_same]
        clear fy IV IT
        clear hh
        (try go_wp2_with fail)
        refine hK.out _ _ ?_ (fun hHeld => ?_)
        · (try dsimp only)
          exact ⟨fr_cell fz.out c7, fr_cell fz.out c9, fr_cell fz.out c12, fr_cell fz.out c14, fz⟩
        clear hK K
        (try simp only [Act.put, List.getElem_toArray, List.getElem_cons_zero, List.getElem_cons_succ, List.setIfInBounds_toArray, List.set_cons_zero, List.set_cons_succ])
        refine wpAnyH_take (i := 8) (v := ?_) rfl (by kernel_rfl) (by kernel_rfl) (by kernel_rfl) (fun _ _ _ h => h) (Or.inl ⟨by rfl, ?_⟩) (by assumption) ?_
        rotate_left
        · (intro w hSw; (try dsimp only at hSw); go_simp; try with_reducible rfl)
        (try simp only [Act.put, List.getElem_toArray, List.getElem_cons_zero, List.getElem_cons_succ, List.setIfInBounds_toArray, List.set_cons_zero, List.set_cons_succ])
        refine wpAnyH_take (i := 9) (v := ?_) rfl (by kernel_rfl) (by kernel_rfl) (by kernel_rfl) (fun _ _ _ h => h) (Or.inl ⟨by rfl, ?_⟩) (by assumption) ?_
        rotate_left
        · (intro w hSw; (try dsimp only at hSw); go_simp; try with_reducible rfl)
        (try simp only [Act.put, List.getElem_toArray, List.getElem_cons_zero, List.getElem_cons_succ, List.setIfInBounds_toArray, List.set_cons_zero, List.set_cons_succ])
        refine wpAnyH_take (i := 10) (v := ?_) rfl (by kernel_rfl) (by kernel_rfl) (by kernel_rfl) (fun _ _ _ h => h) (Or.inl ⟨by rfl, ?_⟩) (by assumption) ?_
        rotate_left
        · (intro w hSw; (try dsimp only at hSw); go_simp; try with_reducible rfl)
        (try simp only [Act.put, List.getElem_toArray, List.getElem_cons_zero, List.getElem_cons_succ, List.setIfInBounds_toArray, List.set_cons_zero, List.set_cons_succ])
        refine wpAnyH_take (i := 11) (v := ?_) rfl (by kernel_rfl) (by kernel_rfl) (by kernel_rfl) (fun _ _ _ h => h) (Or.inl ⟨by rfl, ?_⟩) (by assumption) ?_
        rotate_left
        · (intro w hSw; (try dsimp only at hSw); go_simp; try with_reducible rfl)
        (try simp only [Act.put, List.getElem_toArray, List.getElem_cons_zero, List.getElem_cons_succ, List.setIfInBounds_toArray, List.set_cons_zero, List.set_cons_succ])
        refine wpAnyH_take (i := 12) (v := ?_) rfl (by kernel_rfl) (by kernel_rfl) (by kernel_rfl) (fun _ _ _ h => h) (Or.inl ⟨by rfl, ?_⟩) (by assumption) ?_
        rotate_left
        · (intro w hSw; (try dsimp only at hSw); go_simp; try with_reducible rfl)
        (try simp only [Act.put, List.getElem_toArray, List.getElem_cons_zero, List.getElem_cons_succ, List.setIfInBounds_toArray, List.set_cons_zero, List.set_cons_succ])
        refine wpAnyH_take (i := 13) (v := ?_) rfl (by kernel_rfl) (by kernel_rfl) (by kernel_rfl) (fun _ _ _ h => h) (Or.inl ⟨by rfl, ?_⟩) (by assumption) ?_
        rotate_left
        · (intro w hSw; (try dsimp only at hSw); go_simp; try with_reducible rfl)
        (try simp only [Act.put, List.getElem_toArray, List.getElem_cons_zero, List.getElem_cons_succ, List.setIfInBounds_toArray, List.set_cons_zero, List.set_cons_succ])
        refine wpAnyH_take (i := 15) (v := ?_) rfl (by kernel_rfl) (by kernel_rfl) (by kernel_rfl) (fun _ _ _ h => h) (Or.inl ⟨by rfl, ?_⟩) (by assumption) ?_
        rotate_left
        · (intro w hSw; (try dsimp only at hSw); go_simp; try with_reducible rfl)
        (try simp only [Act.put, List.getElem_toArray, List.getElem_cons_zero, List.getElem_cons_succ, List.setIfInBounds_toArray, List.set_cons_zero, List.set_cons_succ])
        refine wpAnyH_take (i := 16) (v := ?_) rfl (by kernel_rfl) (by kernel_rfl) (by kernel_rfl) (fun _ _ _ h => h) (Or.inl ⟨by rfl, ?_⟩) (by assumption) ?_
        rotate_left
        · (intro w hSw; (try dsimp only at hSw); go_simp; try with_reducible rfl)
        (try simp only [Act.put, List.getElem_toArray, List.getElem_cons_zero, List.getElem_cons_succ, List.setIfInBounds_toArray, List.set_cons_zero, List.set_cons_succ])
        refine wpAnyH_take (i := 18) (v := ?_) rfl (by kernel_rfl) (by kernel_rfl) (by kernel_rfl) (fun _ _ _ h => h) (Or.inl ⟨by rfl, ?_⟩) (by assumption) ?_
        rotate_left
        · (intro w hSw; (try dsimp only at hSw); go_simp; try with_reducible rfl)
        (try simp only [Act.put, List.getElem_toArray, List.getElem_cons_zero, List.getElem_cons_succ, List.setIfInBounds_toArray, List.set_cons_zero, List.set_cons_succ])
        refine wpAnyH_take (i := 19) (v := ?_) rfl (by kernel_rfl) (by kernel_rfl) (by kernel_rfl) (fun _ _ _ h => h) (Or.inl ⟨by rfl, ?_⟩) (by assumption) ?_
        rotate_left
        · (intro w hSw; (try dsimp only at hSw); go_simp; try with_reducible rfl)
        (try simp only [Act.put, List.getElem_toArray, List.getElem_cons_zero, List.getElem_cons_succ, List.setIfInBounds_toArray, List.set_cons_zero, List.set_cons_succ])
        refine wpAnyH_take (i := 20) (v := ?_) rfl (by kernel_rfl) (by kernel_rfl) (by kernel_rfl) (fun _ _ _ h => h) (Or.inl ⟨by rfl, ?_⟩) (by assumption) ?_
        rotate_left
        · (intro w hSw; (try dsimp only at hSw); go_simp; try with_reducible rfl)
        (try simp only [Act.put, List.getElem_toArray, List.getElem_cons_zero, List.getElem_cons_succ, List.setIfInBounds_toArray, List.set_cons_zero, List.set_cons_succ])
        refine wpAnyH_take (i := 21) (v := ?_) rfl (by kernel_rfl) (by kernel_rfl) (by kernel_rfl) (fun _ _ _ h => h) (Or.inl ⟨by rfl, ?_⟩) (by assumption) ?_
        rotate_left
        · (intro w hSw; (try dsimp only at hSw); go_simp; try with_reducible rfl)
        (try simp only [Act.put, List.getElem_toArray, List.getElem_cons_zero, List.getElem_cons_succ, List.setIfInBounds_toArray, List.set_cons_zero, List.set_cons_succ])
        refine wpAnyH_take (i := 22) (v := ?_) rfl (by kernel_rfl) (by kernel_rfl) (by kernel_rfl) (fun _ _ _ h => h) (Or.inl ⟨by rfl, ?_⟩) (by assumption) ?_
        rotate_left
        · (intro w hSw; (try dsimp only at hSw); go_simp; try with_reducible rfl)
        (try simp only [Act.put, List.getElem_toArray, List.getElem_cons_zero, List.getElem_cons_succ, List.setIfInBounds_toArray, List.set_cons_zero, List.set_cons_succ])
        refine wpAnyH_take (i := 23) (v := ?_) rfl (by kernel_rfl) (by kernel_rfl) (by kernel_rfl) (fun _ _ _ h => h) (Or.inl ⟨by rfl, ?_⟩) (by assumption) ?_
        rotate_left
        · (intro w hSw; (try dsimp only at hSw); go_simp; try with_reducible rfl)
        (try simp only [Act.put, List.getElem_toArray, List.getElem_cons_zero, List.getElem_cons_succ, List.setIfInBounds_toArray, List.set_cons_zero, List.set_cons_succ])
        refine wpAnyH_ready (rs := [14]) (by kernel_rfl) (by simp) ?_
        refine AllReadyH.cons rfl (fun K hK => ?_) AllReadyH.nil
        go_simp
        have hh : Hid (Fr WE _) := hHeld.2.2.2.2
        refine (upc_any _ x i X1 _ (IsNat.fr HX.out hh.out) (by omega) (by omega) (by omega) (by rw [Int.toNat_natCast]; exact HX1.out)).mono ?_
        rintro e wn ⟨av1, cv1, rfl, iv, fy⟩
        have fz := hide (hh.out.trans fy)
        have IV := hide iv
        clear fy iv
        clear hh
        (try go_wp2_with fail)
        refine hK.out _ _ ?_ (fun hHeld => ?_)
        · (try dsimp only)
          exact ⟨fr_cell fz.out c7, fr_cell fz.out c9, fr_cell fz.out c12, fr_cell fz.out c14, fz⟩
        clear hK K
        (try simp only [Act.put, List.getElem_toArray, List.getElem_cons_zero, List.getElem_cons_succ, List.setIfInBounds_toArray, List.set_cons_zero, List.set_cons_succ])
        refine wpAnyH_ready (rs := [17]) (by kernel_rfl) (by simp) ?_
        refine AllReadyH.cons rfl (fun K hK => ?_) AllReadyH.nil
        go_simp
        have hh : Hid (Fr WE _) := hHeld.2.2.2.2
        refine (upc_any _ X1 M X2 _ IV.out (by omega) (by omega) (by omega) (by rw [Int.toNat_natCast]; exact HX2.out)).mono ?_
        rintro e wn ⟨av2, cv2, rfl, iv, fy⟩
        have fz := hide (hh.out.trans fy)
        have IV := hide iv
        clear fy iv
        clear hh
        (try go_wp2_with fail)
        refine hK.out _ _ ?_ (fun hHeld => ?_)
        · (try dsimp only)
          exact ⟨fr_cell fz.out c7, fr_cell fz.out c9, fr_cell fz.out c12, fr_cell fz.out c14, fz⟩
        clear hK K
        (try simp only [Act.put, List.getElem_toArray, List.getElem_cons_zero, List.getElem_cons_succ, List.setIfInBounds_toArray, List.set_cons_zero, List.set_cons_succ])
        refine wpAnyH_ready (rs := [24]) (by kernel_rfl) (by simp) ?_
        refine AllReadyH.cons rfl (fun K hK => ?_) AllReadyH.nil
        go_simp
        have hh : Hid (Fr WE _) := hHeld.2.2.2.2
        refine (upc_any _ x (i + M) X2 _ (IsNat.fr HX.out hh.out) (by omega) (by omega) (by omega) (by rw [TJ.out]; exact HX3.out)).mono ?_
        rintro e wn ⟨av3, cv3, rfl, iv, fy⟩
        have fz := hide (hh.out.trans fy)
        have IV := hide (IsNat.fr IV.out fy)
        have IT := hide iv
        clear fy iv
        clear hh
        (try go_wp2_with fail)
        refine hK.out _ _ ?_ (fun hHeld => ?_)
        · (try dsimp only)
          exact ⟨fr_cell fz.out c7, fr_cell fz.out c9, fr_cell fz.out c12, fr_cell fz.out c14, fz⟩
        clear hK K
        (try simp only [Act.put, List.getElem_toArray, List.getElem_cons_zero, List.getElem_cons_succ, List.setIfInBounds_toArray, List.set_cons_zero, List.set_cons_succ])
        refine wpAnyH_ready (rs := [25]) (by kernel_rfl) (by simp) ?_
        refine AllReadyH.cons rfl (fun K hK => ?_) AllReadyH.nil
        go_simp
        have hh : Hid (Fr WE _) := hHeld.2.2.2.2
        refine (cmp_any _ _ X2 X2 _ IV.out IT.out (by omega) (by omega)).mono ?_
        rintro e wn ⟨rfl, fy⟩
        have fz := hide (hh.out.trans fy)
        rw [cmp_same]
        clear fy IV IT
        clear hh
        (try go_wp2_with fail)
        refine hK.out _ _ ?_ (fun hHeld => ?_)
        · (try dsimp only)
          exact ⟨fr_cell fz.out c7, fr_cell fz.out c9, fr_cell fz.out c12, fr_cell fz.out c14, fz⟩
        clear hK K
        (try simp only [Act.put, List.getElem_toArray, List.getElem_cons_zero, List.getElem_cons_succ, List.setIfInBounds_toArray, List.set_cons_zero, List.set_cons_succ])
        refine wpAnyH_take (i := 26) (v := ?_) rfl (by kernel_rfl) (by kernel_rfl) (by kernel_rfl) (fun _ _ _ h => h) (Or.inl ⟨by rfl, ?_⟩) (by assumption) ?_
        rotate_left
        · (intro w hSw; (try dsimp only at hSw); go_simp; try with_reducible rfl)
        (try simp only [Act.put, List.getElem_toArray, List.getElem_cons_zero, List.getElem_cons_succ, List.setIfInBounds_toArray, List.set_cons_zero, List.set_cons_succ])
        refine wpAnyH_take (i := 27) (v := ?_) rfl (by kernel_rfl) (by kernel_rfl) (by kernel_rfl) (fun _ _ _ h => h) (Or.inl ⟨by rfl, ?_⟩) (by assumption) ?_
        rotate_left
        · (intro w hSw; (try dsimp only at hSw); go_simp; try with_reducible rfl)
        (try simp only [Act.put, List.getElem_toArray, List.getElem_cons_zero, List.getElem_cons_succ, List.setIfInBounds_toArray, List.set_cons_zero, List.set_cons_succ])
        refine wpAnyH_take (i := 28) (v := ?_) rfl (by kernel_rfl) (by kernel_rfl) (by kernel_rfl) (fun _ _ _ h => h) (Or.inl ⟨by rfl, ?_⟩) (by assumption) ?_
        rotate_left
        · (intro w hSw; (try dsimp only at hSw); go_simp; try with_reducible rfl)
        (try simp only [Act.put, List.getElem_toArray, List.getElem_cons_zero, List.getElem_cons_succ, List.setIfInBounds_toArray, List.set_cons_zero, List.set_cons_succ])
        refine wpAnyH_take (i := 29) (v := ?_) rfl (by kernel_rfl) (by kernel_rfl) (by kernel_rfl) (fun _ _ _ h => h) (Or.inl ⟨by rfl, ?_⟩) (by assumption) ?_
        rotate_left
        · (intro w hSw; (try dsimp only at hSw); go_simp; try with_reducible rfl)
        (try simp only [Act.put, List.getElem_toArray, List.getElem_cons_zero, List.getElem_cons_succ, List.setIfInBounds_toArray, List.set_cons_zero, List.set_cons_succ])
        refine wpAnyH_take (i := 30) (v := ?_) rfl (by kernel_rfl) (by kernel_rfl) (by kernel_rfl) (fun _ _ _ h => h) (Or.inl ⟨by rfl, ?_⟩) (by assumption) ?_
        rotate_left
        · (intro w hSw; (try dsimp only at hSw); go_simp; try with_reducible rfl)
        (try simp only [Act.put, List.getElem_toArray, List.getElem_cons_zero, List.getElem_cons_succ, List.setIfInBounds_toArray, List.set_cons_zero, List.set_cons_succ])
        refine wpAnyH_ready (rs := [31]) (by kernel_rfl) (by simp) ?_
        refine AllReadyH.cons rfl (fun K hK => ?_) AllReadyH.nil
        go_simp
        have hh : Hid (Fr WE _) := hHeld.2.2.2.2
        refine (cmp_any _ _ Y2 Y2 _ (IsNat.fr I12.out hh.out) (IsNat.fr I14.out hh.out) (by omega) (by omega)).mono ?_
        rintro e wn ⟨rfl, fy⟩
        have fz := hide (hh.out.trans fy)
        rw [cmp_same]
        clear fy
        clear hh
        (try go_wp2_with fail)
        refine hK.out _ _ ?_ (fun hHeld => ?_)
        · (try dsimp only)
          exact ⟨fr_cell fz.out c7, fr_cell fz.out c9, fr_cell fz.out c12, fr_cell fz.out c14, fz⟩
        clear hK K
        (try simp only [Act.put, List.getElem_toArray, List.getElem_cons_zero, List.getElem_cons_succ, List.setIfInBounds_toArray, List.set_cons_zero, List.set_cons_succ])
        refine wpAnyH_take (i := 32) (v := ?_) rfl (by kernel_rfl) (by kernel_rfl) (by kernel_rfl) (fun _ _ _ h => h) (Or.inl ⟨by rfl, ?_⟩) (by assumption) ?_
        rotate_left
        · (intro w hSw; (try dsimp only at hSw); go_simp; try with_reducible rfl)
        (try simp only [Act.put, List.getElem_toArray, List.getElem_cons_zero, List.getElem_cons_succ, List.setIfInBounds_toArray, List.set_cons_zero, List.set_cons_succ])
        refine wpAnyH_take (i := 33) (v := ?_) rfl (by kernel_rfl) (by kernel_rfl) (by kernel_rfl) (fun _ _ _ h => h) (Or.inl ⟨by rfl, ?_⟩) (by assumption) ?_
        rotate_left
        · (intro w hSw; (try dsimp only at hSw); go_simp; try with_reducible rfl)
        (try simp only [Act.put, List.getElem_toArray, List.getElem_cons_zero, List.getElem_cons_succ, List.setIfInBounds_toArray, List.set_cons_zero, List.set_cons_succ])
        refine wpAnyH_take (i := 34) (v := ?_) rfl (by kernel_rfl) (by kernel_rfl) (by kernel_rfl) (fun _ _ _ h => h) (Or.inl ⟨by rfl, ?_⟩) (by assumption) ?_
        rotate_left
        · (intro w hSw; (try dsimp only at hSw); go_simp; try with_reducible rfl)
        (try simp only [Act.put, List.getElem_toArray, List.getElem_cons_zero, List.getElem_cons_succ, List.setIfInBounds_toArray, List.set_cons_zero, List.set_cons_succ])
        refine wpAnyH_take (i := 35) (v := ?_) rfl (by kernel_rfl) (by kernel_rfl) (by kernel_rfl) (fun _ _ _ h => h) (Or.inl ⟨by rfl, ?_⟩) (by assumption) ?_
        rotate_left
        · (intro w hSw; (try dsimp only at hSw); go_simp; try with_reducible rfl)
        (try simp only [Act.put, List.getElem_toArray, List.getElem_cons_zero, List.getElem_cons_succ, List.setIfInBounds_toArray, List.set_cons_zero, List.set_cons_succ])
        refine wpAnyH_take (i := 36) (v := ?_) rfl (by kernel_rfl) (by kernel_rfl) (by kernel_rfl) (fun _ _ _ h => h) (Or.inl ⟨by rfl, ?_⟩) (by assumption) ?_
        rotate_left
        · (intro w hSw; (try dsimp only at hSw); go_simp; try with_reducible rfl)
        (try simp only [Act.put, List.getElem_toArray, List.getElem_cons_zero, List.getElem_cons_succ, List.setIfInBounds_toArray, List.set_cons_zero, List.set_cons_succ])
        refine wpAnyH_take (i := 37) (v := ?_) rfl (by kernel_rfl) (by kernel_rfl) (by kernel_rfl) (fun _ _ _ h => h) (Or.inl ⟨by rfl, ?_⟩) (by assumption) ?_
        rotate_left
        · (intro w hSw; (try dsimp only at hSw); go_simp; try with_reducible rfl)
        (try simp only [Act.put, List.getElem_toArray, List.getElem_cons_zero, List.getElem_cons_succ, List.setIfInBounds_toArray, List.set_cons_zero, List.set_cons_succ])
        refine wpAnyH_take (i := 38) (v := undef) rfl (by kernel_rfl) (by kernel_rfl) (by kernel_rfl) (fun _ _ _ h => h) (Or.inr ⟨by rfl, rfl⟩) (by assumption) ?_
        (try simp only [Act.put, List.getElem_toArray, List.getElem_cons_zero, List.getElem_cons_succ, List.setIfInBounds_toArray, List.set_cons_zero, List.set_cons_succ])
        refine wpAnyH_take (i := 39) (v := ?_) rfl (by kernel_rfl) (by kernel_rfl) (by kernel_rfl) (fun _ _ _ h => h) (Or.inl ⟨by rfl, ?_⟩) (by assumption) ?_
        rotate_left
        · (intro w hSw; (try dsimp only at hSw); go_simp; try with_reducible rfl)
        (try simp only [Act.put, List.getElem_toArray, List.getElem_cons_zero, List.getElem_cons_succ, List.setIfInBounds_toArray, List.set_cons_zero, List.set_cons_succ])
        refine wpAnyH_take (i := 40) (v := ?_) rfl (by kernel_rfl) (by kernel_rfl) (by kernel_rfl) (fun _ _ _ h => h) (Or.inl ⟨by rfl, ?_⟩) (by assumption) ?_
        rotate_left
        · (intro w hSw; (try dsimp only at hSw); go_simp; try with_reducible rfl)
        (try simp only [Act.put, List.getElem_toArray, List.getElem_cons_zero, List.getElem_cons_succ, List.setIfInBounds_toArray, List.set_cons_zero, List.set_cons_succ])
        refine wpAnyH_take (i := 41) (v := ?_) rfl (by kernel_rfl) (by kernel_rfl) (by kernel_rfl) (fun _ _ _ h => h) (Or.inl ⟨by rfl, ?_⟩) (by assumption) ?_
        rotate_left
        · (intro w hSw; (try dsimp only at hSw); go_simp; try with_reducible rfl)
        (try simp only [Act.put, List.getElem_toArray, List.getElem_cons_zero, List.getElem_cons_succ, List.setIfInBounds_toArray, List.set_cons_zero, List.set_cons_succ])
        refine wpAnyH_take (i := 42) (v := ?_) rfl (by kernel_rfl) (by kernel_rfl) (by kernel_rfl) (fun _ _ _ h => h) (Or.inl ⟨by rfl, ?_⟩) (by assumption) ?_
        rotate_left
        · (intro w hSw; (try dsimp only at hSw); go_simp; try with_reducible rfl)
        (try simp only [Act.put, List.getElem_toArray, List.getElem_cons_zero, List.getElem_cons_succ, List.setIfInBounds_toArray, List.set_cons_zero, List.set_cons_succ])
        refine wpAnyH_done (by kernel_rfl) ?_ _
        go_wp2_with fail
        go_ret
        exact ⟨rfl, F.out.trans fz.out⟩
end Go.Proofs.YtfmloickfopmmaaDoor
