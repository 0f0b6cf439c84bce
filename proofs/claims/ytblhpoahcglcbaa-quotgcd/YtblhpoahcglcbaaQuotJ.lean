/- The law QuotGcd. -/
import Derived.Test.YtblhpoahcglcbaaQuotG
import Derived.Test.YtblhpoahcglcbaaRegions
import Derived.Deep.RegionHeld3
namespace Go.Proofs.Ytblhpoahcglcbaa
set_option linter.unusedVariables false
set_option linter.unusedSimpArgs false
open Go.RowKit

theorem nl_gcd {x y n : Nat} (hx : nlen 4294967296 x ≤ n) (hy : nlen 4294967296 y ≤ n) : nlen 4294967296 (Nat.gcd x y) ≤ n := by
  by_cases h : x = 0
  · subst h; rw [Nat.gcd_zero_left]; exact hy
  · exact Nat.le_trans (nlen_mono b32 (Nat.gcd_le_left y (by omega))) hx
theorem bits_no {x : Nat} (h : x ≠ 0) : ((nlen 2 x : Int) == 0) = false := by
  have h1 := nlen_pos (B := 2) (by omega) h
  have h2 : nlen 2 x ≠ 0 := by omega
  simp [h2]

attribute [local go_sem] World.cell?_alloc_some
set_option maxHeartbeats 8000000 in
theorem law_QuotGcd (a0 : Option Addr) (len0 cap0 : Nat) (z0 : List Int) (a1 : Option Addr) (len1 cap1 : Nat) (z1 : List Int) (k : Int) (w : World) (h0 : IsRow .u32 w a0 len0 cap0 z0) (h1 : IsRow .u32 w a1 len1 cap1 z1) (h2 : (Lit.int .u32 k).wf = true) :
    Calls Try.prog 6 #[.slice a0 len0 cap0, .slice a1 len1 cap1, .int .u32 k] w fun e w' => e = .returned (.bool true) ∧ Fr w w' := by
  obtain ⟨n0, n1⟩ := u32_bd h2
  obtain ⟨m, rfl⟩ : ∃ m : Nat, k = m := ⟨k.toNat, by omega⟩
  clear h2
  obtain ⟨k0, x, kx, _, lx, _, fewx, madex⟩ := came 6 (by omega) h0
  obtain ⟨k1, y, ky, _, ly, _, fewy, madey⟩ := came 6 (by omega) h1
  have FX := hide fewx
  have FY := hide fewy
  have MX := hide madex
  have MY := hide madey
  have nx : nlen 4294967296 x ≤ 6 := Nat.le_trans (nlen_le b32 lx) kx
  have ny : nlen 4294967296 y ≤ 6 := Nat.le_trans (nlen_le b32 ly) ky
  have nm : nlen 4294967296 m ≤ 1 := nlen_le b32 (by omega)
  have na : nlen 4294967296 (x * m) ≤ 7 := nlen_mul b32 nx nm
  have nb : nlen 4294967296 (y * m) ≤ 7 := nlen_mul b32 ny nm
  clear fewx fewy madex madey h0 h1 lx ly
  go_enter Try.func6, Try.ntmps6
  go_wp2_with fail
  refine (ofc_any (m : Int) m _ rfl (by omega)).mono ?_
  rintro e w1 ⟨ak, ck, rfl, ik, _, f1⟩
  go_wp2_with fail
  obtain ⟨WB, hWB⟩ : ∃ WB, WB = w1.alloc (Obj.cells #[Value.slice ak (nlen 4294967296 m) ck] 25) := ⟨_, rfl⟩
  have fB : Fr w1 WB := by rw [hWB]; exact Fr.alloc _ _
  have c7 : WB.cell? ⟨w1.heap.size, 0, none⟩ = some (.slice ak (nlen 4294967296 m) ck) := by rw [hWB]; simp [go_sem]
  rw [← hWB]
  clear hWB
  have IK := hide (IsNat.fr ik fB)
  have FB := hide (f1.trans fB)
  clear ik f1 fB
  refine wp_region_named (S := (fun w' => w'.cell? ⟨w1.heap.size, 0, none⟩ = some (.slice ak (nlen 4294967296 m) ck) ∧ Hid (Fr WB w'))) (by kernel_rfl) (fun _ _ d _ _ h => by cases d <;> exact h) ?_ ?_
  · exact ⟨c7, Fr.drew _⟩
  intro ops hops Q hQ aR ha0 HPan hHeld0
  have N6_01 : Hid (∀ (am : Option Addr) (cm : Nat) (ap : Option Addr) (cp : Nat) (an : Option Addr) (cn : Nat) (aq : Option Addr) (cq : Nat) (b0 : Nat) (b1 : Nat) (wv : World), (fun w' => w'.cell? ⟨w1.heap.size, 0, none⟩ = some (.slice ak (nlen 4294967296 m) ck) ∧ Hid (Fr WB w')) wv → (IA : Hid (IsNat wv (.agg #[.slice ap (nlen 4294967296 (x * m)) cp]) (x * m))) → (Oap_0 : Off ap (nlen 4294967296 (x * m)) b0) → (Oap_1 : Off ap (nlen 4294967296 (x * m)) b1) → (IB : Hid (IsNat wv (.agg #[.slice aq (nlen 4294967296 (y * m)) cq]) (y * m))) → (Oaq_0 : Off aq (nlen 4294967296 (y * m)) b0) → (Oaq_1 : Off aq (nlen 4294967296 (y * m)) b1) → (V0 : Hid (Var WB wv b0)) → (V1 : Hid (Var WB wv b1)) → (D01 : b0 ≠ b1) → wpAnyH Try.prog .any ops Q (fun w' => w'.cell? ⟨w1.heap.size, 0, none⟩ = some (.slice ak (nlen 4294967296 m) ck) ∧ Hid (Fr WB w')) 2 #[true, true, true, true, true, true, true, true, true, true, true, true, false, false] ((((((((((((aR.put (some 25) (.slice a0 len0 cap0)).put (some 28) (.agg #[.slice ak (nlen 4294967296 (m)) ck])).put (some 30) (.slice a1 len1 cap1)).put (some 33) (.agg #[.slice ak (nlen 4294967296 (m)) ck])).put (some 26) (.slice a0 k0 cap0)).put (some 27) (.agg #[.slice am (nlen 4294967296 (x)) cm])).put (some 29) (.agg #[.slice ap (nlen 4294967296 (x * m)) cp])).put (some 31) (.slice a1 k1 cap1)).put (some 32) (.agg #[.slice an (nlen 4294967296 (y)) cn])).put (some 34) (.agg #[.slice aq (nlen 4294967296 (y * m)) cq])).put (some 8) (.pointer (some ⟨b0, 0, none⟩))).put (some 9) (.pointer (some ⟨b1, 0, none⟩))) wv) := by
    refine hide ?_
    intro am cm ap cp an cn aq cq b0 b1 wv hHeld IA Oap_0 Oap_1 IB Oaq_0 Oaq_1 V0 V1 D01
    rw [hops.out, ha0.out]
    have HPanF := HPan
    rw [hQ.out] at HPanF
    rw [hQ.out]
    (try simp only [Act.put, List.getElem_toArray, List.getElem_cons_zero, List.getElem_cons_succ, List.setIfInBounds_toArray, List.set_cons_zero, List.set_cons_succ])
    have fz : Hid (Fr WB wv) := hHeld.2
    have vc := V0.out.1
    have vz := V0.out.2.1
    have vn := V0.out.2.2
    refine wpAnyH_ready (rs := [12]) (by kernel_rfl) (by simp) ?_
    refine AllReadyH.cons rfl (fun K hK => ?_) AllReadyH.nil
    go_simp
    (try go_wp2_with fail)
    have fz : Hid (Fr WB (wv.setCell ⟨b0, 0, none⟩ (.slice ap (nlen 4294967296 (x * m)) cp))) := Below.setCell fz.out vn _
    refine hK.out _ _ ?_ (fun hHeld => ?_)
    · (try dsimp only)
      exact ⟨fr_cell fz.out c7, fz⟩
    clear hK K
    (try simp only [Act.put, List.getElem_toArray, List.getElem_cons_zero, List.getElem_cons_succ, List.setIfInBounds_toArray, List.set_cons_zero, List.set_cons_succ])
    have cE0 : World.cell? (wv.setCell ⟨b0, 0, none⟩ (.slice ap (nlen 4294967296 (x * m)) cp)) ⟨b0, 0, none⟩ = some (.slice ap (nlen 4294967296 (x * m)) cp) := World.cell?_setCell_same _ _ _ vc
    have V1 := hide (Var.put V1.out b0 (.slice ap (nlen 4294967296 (x * m)) cp) D01)
    have IA := hide (IsNat.off IA.out Oap_0 (.slice ap (nlen 4294967296 (x * m)) cp))
    have IB := hide (IsNat.off IB.out Oaq_0 (.slice ap (nlen 4294967296 (x * m)) cp))
    clear vc vz vn
    have vc := V1.out.1
    have vz := V1.out.2.1
    have vn := V1.out.2.2
    refine wpAnyH_ready (rs := [13]) (by kernel_rfl) (by simp) ?_
    refine AllReadyH.cons rfl (fun K hK => ?_) AllReadyH.nil
    go_simp
    (try go_wp2_with fail)
    have fz : Hid (Fr WB ((wv.setCell ⟨b0, 0, none⟩ (.slice ap (nlen 4294967296 (x * m)) cp)).setCell ⟨b1, 0, none⟩ (.slice aq (nlen 4294967296 (y * m)) cq))) := Below.setCell fz.out vn _
    refine hK.out _ _ ?_ (fun hHeld => ?_)
    · (try dsimp only)
      exact ⟨fr_cell fz.out c7, fz⟩
    clear hK K
    (try simp only [Act.put, List.getElem_toArray, List.getElem_cons_zero, List.getElem_cons_succ, List.setIfInBounds_toArray, List.set_cons_zero, List.set_cons_succ])
    have cE1 : World.cell? ((wv.setCell ⟨b0, 0, none⟩ (.slice ap (nlen 4294967296 (x * m)) cp)).setCell ⟨b1, 0, none⟩ (.slice aq (nlen 4294967296 (y * m)) cq)) ⟨b1, 0, none⟩ = some (.slice aq (nlen 4294967296 (y * m)) cq) := World.cell?_setCell_same _ _ _ vc
    have cE0 := (World.cell?_setCell_other (wv.setCell ⟨b0, 0, none⟩ (.slice ap (nlen 4294967296 (x * m)) cp)) ⟨b1, 0, none⟩ ⟨b0, 0, none⟩ (.slice aq (nlen 4294967296 (y * m)) cq) (fun e => D01.symm (by injection e))).trans cE0
    have IA := hide (IsNat.off IA.out Oap_1 (.slice aq (nlen 4294967296 (y * m)) cq))
    have IB := hide (IsNat.off IB.out Oaq_1 (.slice aq (nlen 4294967296 (y * m)) cq))
    clear vc vz vn
    refine wpAnyH_done (by kernel_rfl) ?_ _
    obtain ⟨WE, hWE⟩ : ∃ WE, WE = ((wv.setCell ⟨b0, 0, none⟩ (.slice ap (nlen 4294967296 (x * m)) cp)).setCell ⟨b1, 0, none⟩ (.slice aq (nlen 4294967296 (y * m)) cq)) := ⟨_, rfl⟩
    rw [← hWE] at cE0
    rw [← hWE] at cE1
    rw [← hWE] at IA
    rw [← hWE] at IB
    rw [← hWE] at fz
    rw [← hWE]
    have FE := fz
    clear fz hHeld hWE
    obtain ⟨A, hA⟩ : ∃ A, x * m = A := ⟨_, rfl⟩
    obtain ⟨B, hB⟩ : ∃ B, y * m = B := ⟨_, rfl⟩
    have dA : m ∣ A := hA ▸ Nat.dvd_mul_left m x
    have dB : m ∣ B := hB ▸ Nat.dvd_mul_left m y
    have m0 : A ≠ 0 → m ≠ 0 := fun h e => h (by rw [← hA, e, Nat.mul_zero])
    rw [hA] at cE0 IA na
    rw [hB] at cE1 IB nb
    rw [hA, hB]
    have DA := hide dA
    have DB := hide dB
    have M0 := hide m0
    clear dA dB m0 hA hB
    have c7 := fr_cell FE.out c7
    have IK := hide (IsNat.fr IK.out FE.out)
    have FA := hide (FB.out.trans FE.out)
    clear FE HPan HPanF hops ha0 hQ FX FY MX MY V0 V1 FB
    go_wp2_with fail
    refine (gcd_any _ _ A B _ IA.out IB.out (by omega) (by omega)).mono ?_
    rintro e w2 ⟨ag, cg, rfl, ig, f2⟩
    have ng : nlen 4294967296 (Nat.gcd A B) ≤ 7 := nl_gcd na nb
    obtain ⟨G, hG⟩ : ∃ G, Nat.gcd A B = G := ⟨_, rfl⟩
    rw [hG] at ig ng
    rw [hG]
    have HG := hide hG
    have HG2 : Hid (Nat.gcd B A = G) := by have := hG; rw [Nat.gcd_comm] at this; exact this
    clear hG
    have cE0 := fr_cell f2 cE0
    have cE1 := fr_cell f2 cE1
    have c7 := fr_cell f2 c7
    go_wp2_with fail
    obtain ⟨WG, hWG⟩ : ∃ WG, WG = w2.alloc (Obj.cells #[Value.slice ag (nlen 4294967296 G) cg] 25) := ⟨_, rfl⟩
    have fG : Fr w2 WG := by rw [hWG]; exact Fr.alloc _ _
    have c10 : WG.cell? ⟨w2.heap.size, 0, none⟩ = some (.slice ag (nlen 4294967296 G) cg) := by rw [hWG]; simp [go_sem]
    rw [← hWG]
    clear hWG
    have cE0 := fr_cell fG cE0
    have cE1 := fr_cell fG cE1
    have c7 := fr_cell fG c7
    have IG := hide (IsNat.fr ig fG)
    have IA := hide (IsNat.fr IA.out (f2.trans fG))
    have IB := hide (IsNat.fr IB.out (f2.trans fG))
    have IK := hide (IsNat.fr IK.out (f2.trans fG))
    have FA := hide (FA.out.trans (f2.trans fG))
    clear ig f2 fG
    refine wp_region_held_drew (S := (fun w' => w'.cell? ⟨b0, 0, none⟩ = some (.slice ap (nlen 4294967296 A) cp) ∧ w'.cell? ⟨b1, 0, none⟩ = some (.slice aq (nlen 4294967296 B) cq) ∧ w'.cell? ⟨w2.heap.size, 0, none⟩ = some (.slice ag (nlen 4294967296 G) cg) ∧ Hid (Fr WG w'))) (by kernel_rfl) ?_ (fun hHeld => ?_)
    · exact ⟨cE0, cE1, c10, Fr.drew _⟩
    refine wpAnyH_take (i := 0) (v := ?_) rfl (by kernel_rfl) (by kernel_rfl) (by kernel_rfl) (fun _ _ _ h => h) (Or.inl ⟨by rfl, ?_⟩) (by assumption) ?_
    rotate_left
    · (intro w hSw; (try dsimp only at hSw); go_simp; try with_reducible rfl)
    (try simp only [Act.put, List.getElem_toArray, List.getElem_cons_zero, List.getElem_cons_succ, List.setIfInBounds_toArray, List.set_cons_zero, List.set_cons_succ])
    refine wpAnyH_take (i := 1) (v := ?_) rfl (by kernel_rfl) (by kernel_rfl) (by kernel_rfl) (fun _ _ _ h => h) (Or.inl ⟨by rfl, ?_⟩) (by assumption) ?_
    rotate_left
    · (intro w hSw; (try dsimp only at hSw); go_simp; try with_reducible rfl)
    (try simp only [Act.put, List.getElem_toArray, List.getElem_cons_zero, List.getElem_cons_succ, List.setIfInBounds_toArray, List.set_cons_zero, List.set_cons_succ])
    refine wpAnyH_take (i := 2) (v := ?_) rfl (by kernel_rfl) (by kernel_rfl) (by kernel_rfl) (fun _ _ _ h => h) (Or.inl ⟨by rfl, ?_⟩) (by assumption) ?_
    rotate_left
    · (intro w hSw; (try dsimp only at hSw); go_simp; try with_reducible rfl)
    (try simp only [Act.put, List.getElem_toArray, List.getElem_cons_zero, List.getElem_cons_succ, List.setIfInBounds_toArray, List.set_cons_zero, List.set_cons_succ])
    refine wpAnyH_ready (rs := [3]) (by kernel_rfl) (by simp) ?_
    refine AllReadyH.cons rfl (fun K hK => ?_) AllReadyH.nil
    go_simp
    have hh : Hid (Fr WG _) := hHeld.2.2.2
    refine (gcd_any _ _ B A _ (IsNat.fr IB.out hh.out) (IsNat.fr IA.out hh.out) (by omega) (by omega)).mono ?_
    rintro e wn ⟨ah, ch, rfl, ih, fy⟩
    have fz := hide (hh.out.trans fy)
    rw [HG2.out] at ih
    rw [HG2.out]
    have IH := hide ih
    clear ih fy
    clear hh
    (try go_wp2_with fail)
    refine hK.out _ _ ?_ (fun hHeld => ?_)
    · (try dsimp only)
      exact ⟨fr_cell fz.out cE0, fr_cell fz.out cE1, fr_cell fz.out c10, fz⟩
    clear hK K
    (try simp only [Act.put, List.getElem_toArray, List.getElem_cons_zero, List.getElem_cons_succ, List.setIfInBounds_toArray, List.set_cons_zero, List.set_cons_succ])
    refine wpAnyH_ready (rs := [4]) (by kernel_rfl) (by simp) ?_
    refine AllReadyH.cons rfl (fun K hK => ?_) AllReadyH.nil
    go_simp
    have hh : Hid (Fr WG _) := hHeld.2.2.2
    refine (cmp_any _ _ G G _ (IsNat.fr IG.out hh.out) IH.out (by omega) (by omega)).mono ?_
    rintro e wn ⟨rfl, fy⟩
    have fz := hide (hh.out.trans fy)
    rw [show cmpZ G G = 0 by simp [cmpZ]]
    clear fy IH
    clear hh
    (try go_wp2_with fail)
    refine hK.out _ _ ?_ (fun hHeld => ?_)
    · (try dsimp only)
      exact ⟨fr_cell fz.out cE0, fr_cell fz.out cE1, fr_cell fz.out c10, fz⟩
    clear hK K
    (try simp only [Act.put, List.getElem_toArray, List.getElem_cons_zero, List.getElem_cons_succ, List.setIfInBounds_toArray, List.set_cons_zero, List.set_cons_succ])
    refine wpAnyH_take (i := 5) (v := ?_) rfl (by kernel_rfl) (by kernel_rfl) (by kernel_rfl) (fun _ _ _ h => h) (Or.inl ⟨by rfl, ?_⟩) (by assumption) ?_
    rotate_left
    · (intro w hSw; (try dsimp only at hSw); go_simp; try with_reducible rfl)
    (try simp only [Act.put, List.getElem_toArray, List.getElem_cons_zero, List.getElem_cons_succ, List.setIfInBounds_toArray, List.set_cons_zero, List.set_cons_succ])
    refine wpAnyH_done (by kernel_rfl) ?_ _
    have cE0 := fr_cell fz.out cE0
    have cE1 := fr_cell fz.out cE1
    have c10 := fr_cell fz.out c10
    have c7 := fr_cell fz.out c7
    have IA := hide (IsNat.fr IA.out fz.out)
    have IB := hide (IsNat.fr IB.out fz.out)
    have IG := hide (IsNat.fr IG.out fz.out)
    have IK := hide (IsNat.fr IK.out fz.out)
    have FA := hide (FA.out.trans fz.out)
    clear hHeld
    by_cases hA0 : A = 0
    · have hab : A + B = G := by rw [← HG.out, hA0, Nat.gcd_zero_left, Nat.zero_add]
      have HAB := hide hab
      have HN0 : Hid (nlen 2 A = 0) := by unfold Hid; rw [hA0, nlen_zero]
      clear hab hA0
      go_wp2_with fail
      refine (bits_any _ A _ IA.out (by omega)).mono ?_
      rintro e WH ⟨rfl, f3⟩
      rw [HN0.out]
      have cE0 := fr_cell f3 cE0
      have cE1 := fr_cell f3 cE1
      have c10 := fr_cell f3 c10
      have c7 := fr_cell f3 c7
      have IA := hide (IsNat.fr IA.out f3)
      have IB := hide (IsNat.fr IB.out f3)
      have IG := hide (IsNat.fr IG.out f3)
      have IK := hide (IsNat.fr IK.out f3)
      have FA := hide (FA.out.trans f3)
      go_wp2_with fail
      refine wp_region_held_drew (S := (fun w' => w'.cell? ⟨b0, 0, none⟩ = some (.slice ap (nlen 4294967296 A) cp) ∧ w'.cell? ⟨b1, 0, none⟩ = some (.slice aq (nlen 4294967296 B) cq) ∧ w'.cell? ⟨w2.heap.size, 0, none⟩ = some (.slice ag (nlen 4294967296 G) cg) ∧ Hid (Fr WH w'))) (by kernel_rfl) ?_ (fun hHeld => ?_)
      · exact ⟨cE0, cE1, c10, Fr.drew _⟩
      refine wpAnyH_ready (rs := [0]) (by kernel_rfl) (by simp) ?_
      refine AllReadyH.cons rfl (fun K hK => ?_) AllReadyH.nil
      go_simp
      have hh : Hid (Fr WH _) := hHeld.2.2.2
      refine (wakes_any _).mono ?_
      rintro e wn ⟨rfl, fy⟩
      have fz := hide (hh.out.trans fy)
      clear fy
      clear hh
      (try go_wp2_with fail)
      refine hK.out _ _ ?_ (fun hHeld => ?_)
      · (try dsimp only)
        exact ⟨fr_cell fz.out cE0, fr_cell fz.out cE1, fr_cell fz.out c10, fz⟩
      clear hK K
      (try simp only [Act.put, List.getElem_toArray, List.getElem_cons_zero, List.getElem_cons_succ, List.setIfInBounds_toArray, List.set_cons_zero, List.set_cons_succ])
      refine wpAnyH_take (i := 1) (v := ?_) rfl (by kernel_rfl) (by kernel_rfl) (by kernel_rfl) (fun _ _ _ h => h) (Or.inl ⟨by rfl, ?_⟩) (by assumption) ?_
      rotate_left
      · (intro w hSw; (try dsimp only at hSw); go_simp; try with_reducible rfl)
      (try simp only [Act.put, List.getElem_toArray, List.getElem_cons_zero, List.getElem_cons_succ, List.setIfInBounds_toArray, List.set_cons_zero, List.set_cons_succ])
      refine wpAnyH_take (i := 2) (v := ?_) rfl (by kernel_rfl) (by kernel_rfl) (by kernel_rfl) (fun _ _ _ h => h) (Or.inl ⟨by rfl, ?_⟩) (by assumption) ?_
      rotate_left
      · (intro w hSw; (try dsimp only at hSw); go_simp; try with_reducible rfl)
      (try simp only [Act.put, List.getElem_toArray, List.getElem_cons_zero, List.getElem_cons_succ, List.setIfInBounds_toArray, List.set_cons_zero, List.set_cons_succ])
      refine wpAnyH_take (i := 3) (v := ?_) rfl (by kernel_rfl) (by kernel_rfl) (by kernel_rfl) (fun _ _ _ h => h) (Or.inl ⟨by rfl, ?_⟩) (by assumption) ?_
      rotate_left
      · (intro w hSw; (try dsimp only at hSw); go_simp; try with_reducible rfl)
      (try simp only [Act.put, List.getElem_toArray, List.getElem_cons_zero, List.getElem_cons_succ, List.setIfInBounds_toArray, List.set_cons_zero, List.set_cons_succ])
      refine wpAnyH_take (i := 4) (v := ?_) rfl (by kernel_rfl) (by kernel_rfl) (by kernel_rfl) (fun _ _ _ h => h) (Or.inl ⟨by rfl, ?_⟩) (by assumption) ?_
      rotate_left
      · (intro w hSw; (try dsimp only at hSw); go_simp; try with_reducible rfl)
      (try simp only [Act.put, List.getElem_toArray, List.getElem_cons_zero, List.getElem_cons_succ, List.setIfInBounds_toArray, List.set_cons_zero, List.set_cons_succ])
      refine wpAnyH_ready (rs := [5]) (by kernel_rfl) (by simp) ?_
      refine AllReadyH.cons rfl (fun K hK => ?_) AllReadyH.nil
      go_simp
      have hh : Hid (Fr WH _) := hHeld.2.2.2
      refine (add_any _ _ A B _ (IsNat.fr IA.out hh.out) (IsNat.fr IB.out hh.out) (by omega) (by omega)).mono ?_
      rintro e wn ⟨ah, ch, rfl, ih, _, fy⟩
      have fz := hide (hh.out.trans fy)
      rw [HAB.out] at ih
      rw [HAB.out]
      have IH := hide ih
      clear ih fy
      clear hh
      (try go_wp2_with fail)
      refine hK.out _ _ ?_ (fun hHeld => ?_)
      · (try dsimp only)
        exact ⟨fr_cell fz.out cE0, fr_cell fz.out cE1, fr_cell fz.out c10, fz⟩
      clear hK K
      (try simp only [Act.put, List.getElem_toArray, List.getElem_cons_zero, List.getElem_cons_succ, List.setIfInBounds_toArray, List.set_cons_zero, List.set_cons_succ])
      refine wpAnyH_ready (rs := [6]) (by kernel_rfl) (by simp) ?_
      refine AllReadyH.cons rfl (fun K hK => ?_) AllReadyH.nil
      go_simp
      have hh : Hid (Fr WH _) := hHeld.2.2.2
      refine (cmp_any _ _ G G _ (IsNat.fr IG.out hh.out) IH.out (by omega) (by omega)).mono ?_
      rintro e wn ⟨rfl, fy⟩
      have fz := hide (hh.out.trans fy)
      rw [show cmpZ G G = 0 by simp [cmpZ]]
      clear fy IH
      clear hh
      (try go_wp2_with fail)
      refine hK.out _ _ ?_ (fun hHeld => ?_)
      · (try dsimp only)
        exact ⟨fr_cell fz.out cE0, fr_cell fz.out cE1, fr_cell fz.out c10, fz⟩
      clear hK K
      (try simp only [Act.put, List.getElem_toArray, List.getElem_cons_zero, List.getElem_cons_succ, List.setIfInBounds_toArray, List.set_cons_zero, List.set_cons_succ])
      refine wpAnyH_take (i := 7) (v := ?_) rfl (by kernel_rfl) (by kernel_rfl) (by kernel_rfl) (fun _ _ _ h => h) (Or.inl ⟨by rfl, ?_⟩) (by assumption) ?_
      rotate_left
      · (intro w hSw; (try dsimp only at hSw); go_simp; try with_reducible rfl)
      (try simp only [Act.put, List.getElem_toArray, List.getElem_cons_zero, List.getElem_cons_succ, List.setIfInBounds_toArray, List.set_cons_zero, List.set_cons_succ])
      refine wpAnyH_take (i := 8) (v := ?_) rfl (by kernel_rfl) (by kernel_rfl) (by kernel_rfl) (fun _ _ _ h => h) (Or.inl ⟨by rfl, ?_⟩) (by assumption) ?_
      rotate_left
      · (intro w hSw; (try dsimp only at hSw); go_simp; try with_reducible rfl)
      (try simp only [Act.put, List.getElem_toArray, List.getElem_cons_zero, List.getElem_cons_succ, List.setIfInBounds_toArray, List.set_cons_zero, List.set_cons_succ])
      refine wpAnyH_take (i := 9) (v := ?_) rfl (by kernel_rfl) (by kernel_rfl) (by kernel_rfl) (fun _ _ _ h => h) (Or.inl ⟨by rfl, ?_⟩) (by assumption) ?_
      rotate_left
      · (intro w hSw; (try dsimp only at hSw); go_simp; try with_reducible rfl)
      (try simp only [Act.put, List.getElem_toArray, List.getElem_cons_zero, List.getElem_cons_succ, List.setIfInBounds_toArray, List.set_cons_zero, List.set_cons_succ])
      refine wpAnyH_done (by kernel_rfl) ?_ _
      go_wp2_with fail
      go_ret
      exact ⟨rfl, FA.out.trans fz.out⟩
    · have hba := bits_no hA0
      obtain ⟨NA, hNA⟩ : ∃ NA, nlen 2 A = NA := ⟨_, rfl⟩
      rw [hNA] at hba
      go_wp2_with fail
      refine (bits_any _ A _ IA.out (by omega)).mono ?_
      rintro e w3 ⟨rfl, f3⟩
      rw [hNA]
      clear hNA
      have cE0 := fr_cell f3 cE0
      have cE1 := fr_cell f3 cE1
      have c10 := fr_cell f3 c10
      have c7 := fr_cell f3 c7
      have IA := hide (IsNat.fr IA.out f3)
      have IB := hide (IsNat.fr IB.out f3)
      have IG := hide (IsNat.fr IG.out f3)
      have IK := hide (IsNat.fr IK.out f3)
      have FA := hide (FA.out.trans f3)
      go_wp2_with fail
      refine (bits_any _ B _ IB.out (by omega)).mono ?_
      rintro e WH ⟨rfl, f4⟩
      have cE0 := fr_cell f4 cE0
      have cE1 := fr_cell f4 cE1
      have c10 := fr_cell f4 c10
      have c7 := fr_cell f4 c7
      have IA := hide (IsNat.fr IA.out f4)
      have IB := hide (IsNat.fr IB.out f4)
      have IG := hide (IsNat.fr IG.out f4)
      have IK := hide (IsNat.fr IK.out f4)
      have FA := hide (FA.out.trans f4)
      clear f3 f4
      by_cases hB0 : B = 0
      · have hab : A + B = G := by rw [← HG.out, hB0, Nat.gcd_zero_right, Nat.add_zero]
        have HAB := hide hab
        have hN0 : nlen 2 B = 0 := by rw [hB0, nlen_zero]
        rw [hN0]
        clear hab hB0 hN0
        go_wp2_with fail
        refine wp_region_held_drew (S := (fun w' => w'.cell? ⟨b0, 0, none⟩ = some (.slice ap (nlen 4294967296 A) cp) ∧ w'.cell? ⟨b1, 0, none⟩ = some (.slice aq (nlen 4294967296 B) cq) ∧ w'.cell? ⟨w2.heap.size, 0, none⟩ = some (.slice ag (nlen 4294967296 G) cg) ∧ Hid (Fr WH w'))) (by kernel_rfl) ?_ (fun hHeld => ?_)
        · exact ⟨cE0, cE1, c10, Fr.drew _⟩
        refine wpAnyH_ready (rs := [0]) (by kernel_rfl) (by simp) ?_
        refine AllReadyH.cons rfl (fun K hK => ?_) AllReadyH.nil
        go_simp
        have hh : Hid (Fr WH _) := hHeld.2.2.2
        refine (wakes_any _).mono ?_
        rintro e wn ⟨rfl, fy⟩
        have fz := hide (hh.out.trans fy)
        clear fy
        clear hh
        (try go_wp2_with fail)
        refine hK.out _ _ ?_ (fun hHeld => ?_)
        · (try dsimp only)
          exact ⟨fr_cell fz.out cE0, fr_cell fz.out cE1, fr_cell fz.out c10, fz⟩
        clear hK K
        (try simp only [Act.put, List.getElem_toArray, List.getElem_cons_zero, List.getElem_cons_succ, List.setIfInBounds_toArray, List.set_cons_zero, List.set_cons_succ])
        refine wpAnyH_take (i := 1) (v := ?_) rfl (by kernel_rfl) (by kernel_rfl) (by kernel_rfl) (fun _ _ _ h => h) (Or.inl ⟨by rfl, ?_⟩) (by assumption) ?_
        rotate_left
        · (intro w hSw; (try dsimp only at hSw); go_simp; try with_reducible rfl)
        (try simp only [Act.put, List.getElem_toArray, List.getElem_cons_zero, List.getElem_cons_succ, List.setIfInBounds_toArray, List.set_cons_zero, List.set_cons_succ])
        refine wpAnyH_take (i := 2) (v := ?_) rfl (by kernel_rfl) (by kernel_rfl) (by kernel_rfl) (fun _ _ _ h => h) (Or.inl ⟨by rfl, ?_⟩) (by assumption) ?_
        rotate_left
        · (intro w hSw; (try dsimp only at hSw); go_simp; try with_reducible rfl)
        (try simp only [Act.put, List.getElem_toArray, List.getElem_cons_zero, List.getElem_cons_succ, List.setIfInBounds_toArray, List.set_cons_zero, List.set_cons_succ])
        refine wpAnyH_take (i := 3) (v := ?_) rfl (by kernel_rfl) (by kernel_rfl) (by kernel_rfl) (fun _ _ _ h => h) (Or.inl ⟨by rfl, ?_⟩) (by assumption) ?_
        rotate_left
        · (intro w hSw; (try dsimp only at hSw); go_simp; try with_reducible rfl)
        (try simp only [Act.put, List.getElem_toArray, List.getElem_cons_zero, List.getElem_cons_succ, List.setIfInBounds_toArray, List.set_cons_zero, List.set_cons_succ])
        refine wpAnyH_take (i := 4) (v := ?_) rfl (by kernel_rfl) (by kernel_rfl) (by kernel_rfl) (fun _ _ _ h => h) (Or.inl ⟨by rfl, ?_⟩) (by assumption) ?_
        rotate_left
        · (intro w hSw; (try dsimp only at hSw); go_simp; try with_reducible rfl)
        (try simp only [Act.put, List.getElem_toArray, List.getElem_cons_zero, List.getElem_cons_succ, List.setIfInBounds_toArray, List.set_cons_zero, List.set_cons_succ])
        refine wpAnyH_ready (rs := [5]) (by kernel_rfl) (by simp) ?_
        refine AllReadyH.cons rfl (fun K hK => ?_) AllReadyH.nil
        go_simp
        have hh : Hid (Fr WH _) := hHeld.2.2.2
        refine (add_any _ _ A B _ (IsNat.fr IA.out hh.out) (IsNat.fr IB.out hh.out) (by omega) (by omega)).mono ?_
        rintro e wn ⟨ah, ch, rfl, ih, _, fy⟩
        have fz := hide (hh.out.trans fy)
        rw [HAB.out] at ih
        rw [HAB.out]
        have IH := hide ih
        clear ih fy
        clear hh
        (try go_wp2_with fail)
        refine hK.out _ _ ?_ (fun hHeld => ?_)
        · (try dsimp only)
          exact ⟨fr_cell fz.out cE0, fr_cell fz.out cE1, fr_cell fz.out c10, fz⟩
        clear hK K
        (try simp only [Act.put, List.getElem_toArray, List.getElem_cons_zero, List.getElem_cons_succ, List.setIfInBounds_toArray, List.set_cons_zero, List.set_cons_succ])
        refine wpAnyH_ready (rs := [6]) (by kernel_rfl) (by simp) ?_
        refine AllReadyH.cons rfl (fun K hK => ?_) AllReadyH.nil
        go_simp
        have hh : Hid (Fr WH _) := hHeld.2.2.2
        refine (cmp_any _ _ G G _ (IsNat.fr IG.out hh.out) IH.out (by omega) (by omega)).mono ?_
        rintro e wn ⟨rfl, fy⟩
        have fz := hide (hh.out.trans fy)
        rw [show cmpZ G G = 0 by simp [cmpZ]]
        clear fy IH
        clear hh
        (try go_wp2_with fail)
        refine hK.out _ _ ?_ (fun hHeld => ?_)
        · (try dsimp only)
          exact ⟨fr_cell fz.out cE0, fr_cell fz.out cE1, fr_cell fz.out c10, fz⟩
        clear hK K
        (try simp only [Act.put, List.getElem_toArray, List.getElem_cons_zero, List.getElem_cons_succ, List.setIfInBounds_toArray, List.set_cons_zero, List.set_cons_succ])
        refine wpAnyH_take (i := 7) (v := ?_) rfl (by kernel_rfl) (by kernel_rfl) (by kernel_rfl) (fun _ _ _ h => h) (Or.inl ⟨by rfl, ?_⟩) (by assumption) ?_
        rotate_left
        · (intro w hSw; (try dsimp only at hSw); go_simp; try with_reducible rfl)
        (try simp only [Act.put, List.getElem_toArray, List.getElem_cons_zero, List.getElem_cons_succ, List.setIfInBounds_toArray, List.set_cons_zero, List.set_cons_succ])
        refine wpAnyH_take (i := 8) (v := ?_) rfl (by kernel_rfl) (by kernel_rfl) (by kernel_rfl) (fun _ _ _ h => h) (Or.inl ⟨by rfl, ?_⟩) (by assumption) ?_
        rotate_left
        · (intro w hSw; (try dsimp only at hSw); go_simp; try with_reducible rfl)
        (try simp only [Act.put, List.getElem_toArray, List.getElem_cons_zero, List.getElem_cons_succ, List.setIfInBounds_toArray, List.set_cons_zero, List.set_cons_succ])
        refine wpAnyH_take (i := 9) (v := ?_) rfl (by kernel_rfl) (by kernel_rfl) (by kernel_rfl) (fun _ _ _ h => h) (Or.inl ⟨by rfl, ?_⟩) (by assumption) ?_
        rotate_left
        · (intro w hSw; (try dsimp only at hSw); go_simp; try with_reducible rfl)
        (try simp only [Act.put, List.getElem_toArray, List.getElem_cons_zero, List.getElem_cons_succ, List.setIfInBounds_toArray, List.set_cons_zero, List.set_cons_succ])
        refine wpAnyH_done (by kernel_rfl) ?_ _
        go_wp2_with fail
        go_ret
        exact ⟨rfl, FA.out.trans fz.out⟩
      · have hbb := bits_no hB0
        obtain ⟨NB, hNB⟩ : ∃ NB, nlen 2 B = NB := ⟨_, rfl⟩
        rw [hNB] at hbb
        rw [hNB]
        clear hNB
        have gp : 0 < G := by rw [← HG.out]; exact Nat.gcd_pos_of_pos_left _ (by omega)
        have r1 : A % G = 0 := by rw [← HG.out]; exact Nat.mod_eq_zero_of_dvd (Nat.gcd_dvd_left A B)
        have r2 : B % G = 0 := by rw [← HG.out]; exact Nat.mod_eq_zero_of_dvd (Nat.gcd_dvd_right A B)
        have r3 : G % m = 0 := by rw [← HG.out]; exact Nat.mod_eq_zero_of_dvd (Nat.dvd_gcd DA.out DB.out)
        have r4 : Nat.gcd (A / G) (B / G) = 1 := by rw [Nat.gcd_div (Nat.dvd_of_mod_eq_zero r1) (Nat.dvd_of_mod_eq_zero r2), HG.out]; exact Nat.div_self gp
        have R1 := hide r1
        have R2 := hide r2
        have R3 := hide r3
        have R4 := hide r4
        have m0 := M0.out hA0
        have nq1 : nlen 4294967296 (A / G) ≤ 7 := nl_div na
        have nq2 : nlen 4294967296 (B / G) ≤ 7 := nl_div nb
        clear r1 r2 r3 r4 M0 DA DB HG HG2
        go_wp2_with fail
        refine (div_yes _ _ A G _ IA.out IG.out (by omega) (by omega) (by omega)).mono ?_
        rintro e w5 ⟨au, cu, ar, cr, rfl, ⟨iu, _, f5⟩, ⟨ir, _, _⟩⟩
        rw [R1.out] at ir
        rw [R1.out]
        have cE0 := fr_cell f5 cE0
        have cE1 := fr_cell f5 cE1
        have c10 := fr_cell f5 c10
        have c7 := fr_cell f5 c7
        have IA := hide (IsNat.fr IA.out f5)
        have IB := hide (IsNat.fr IB.out f5)
        have IG := hide (IsNat.fr IG.out f5)
        have IK := hide (IsNat.fr IK.out f5)
        have FA := hide (FA.out.trans f5)
        go_wp2_with fail
        obtain ⟨V5, hV⟩ : ∃ V, V = (w5.alloc (Obj.cells #[Value.slice au (nlen 4294967296 (A / G)) cu] 25)).alloc (Obj.cells #[Value.slice ar (nlen 4294967296 0) cr] 25) := ⟨_, rfl⟩
        have g5 : Fr w5 V5 := by rw [hV]; exact (Fr.alloc _ _).trans (Fr.alloc _ _)
        have cQ5 : V5.cell? ⟨w5.heap.size, 0, none⟩ = some (.slice au (nlen 4294967296 (A / G)) cu) := by rw [hV]; simp [go_sem]
        have cR5 : V5.cell? ⟨w5.heap.size + 1, 0, none⟩ = some (.slice ar (nlen 4294967296 0) cr) := by rw [hV]; simp [go_sem]
        rw [← hV]
        clear hV
        have iu := hide (IsNat.fr iu g5)
        have ir := hide (IsNat.fr ir g5)
        have cE0 := fr_cell g5 cE0
        have cE1 := fr_cell g5 cE1
        have c10 := fr_cell g5 c10
        have c7 := fr_cell g5 c7
        have IA := hide (IsNat.fr IA.out g5)
        have IB := hide (IsNat.fr IB.out g5)
        have IG := hide (IsNat.fr IG.out g5)
        have IK := hide (IsNat.fr IK.out g5)
        have FA := hide (FA.out.trans g5)
        refine (div_yes _ _ B G _ IB.out IG.out (by omega) (by omega) (by omega)).mono ?_
        rintro e w6 ⟨av, cv, at2, ct, rfl, ⟨iv, _, f6⟩, ⟨it, _, _⟩⟩
        rw [R2.out] at it
        rw [R2.out]
        have cQ5 := fr_cell f6 cQ5
        have cR5 := fr_cell f6 cR5
        have iu := hide (IsNat.fr iu.out f6)
        have ir := hide (IsNat.fr ir.out f6)
        have cE0 := fr_cell f6 cE0
        have cE1 := fr_cell f6 cE1
        have c10 := fr_cell f6 c10
        have c7 := fr_cell f6 c7
        have IA := hide (IsNat.fr IA.out f6)
        have IB := hide (IsNat.fr IB.out f6)
        have IG := hide (IsNat.fr IG.out f6)
        have IK := hide (IsNat.fr IK.out f6)
        have FA := hide (FA.out.trans f6)
        go_wp2_with fail
        obtain ⟨V6, hV⟩ : ∃ V, V = (w6.alloc (Obj.cells #[Value.slice av (nlen 4294967296 (B / G)) cv] 25)).alloc (Obj.cells #[Value.slice at2 (nlen 4294967296 0) ct] 25) := ⟨_, rfl⟩
        have g6 : Fr w6 V6 := by rw [hV]; exact (Fr.alloc _ _).trans (Fr.alloc _ _)
        have cQ6 : V6.cell? ⟨w6.heap.size, 0, none⟩ = some (.slice av (nlen 4294967296 (B / G)) cv) := by rw [hV]; simp [go_sem]
        have cR6 : V6.cell? ⟨w6.heap.size + 1, 0, none⟩ = some (.slice at2 (nlen 4294967296 0) ct) := by rw [hV]; simp [go_sem]
        rw [← hV]
        clear hV
        have iv := hide (IsNat.fr iv g6)
        have it := hide (IsNat.fr it g6)
        have cQ5 := fr_cell g6 cQ5
        have cR5 := fr_cell g6 cR5
        have iu := hide (IsNat.fr iu.out g6)
        have ir := hide (IsNat.fr ir.out g6)
        have cE0 := fr_cell g6 cE0
        have cE1 := fr_cell g6 cE1
        have c10 := fr_cell g6 c10
        have c7 := fr_cell g6 c7
        have IA := hide (IsNat.fr IA.out g6)
        have IB := hide (IsNat.fr IB.out g6)
        have IG := hide (IsNat.fr IG.out g6)
        have IK := hide (IsNat.fr IK.out g6)
        have FA := hide (FA.out.trans g6)
        refine (div_yes _ _ G m _ IG.out IK.out (by omega) (by omega) m0).mono ?_
        rintro e w7 ⟨aw, cw, ay, cy, rfl, ⟨iw, _, f7⟩, ⟨iy, _, _⟩⟩
        rw [R3.out] at iy
        rw [R3.out]
        have cQ5 := fr_cell f7 cQ5
        have cR5 := fr_cell f7 cR5
        have cQ6 := fr_cell f7 cQ6
        have cR6 := fr_cell f7 cR6
        have iu := hide (IsNat.fr iu.out f7)
        have ir := hide (IsNat.fr ir.out f7)
        have iv := hide (IsNat.fr iv.out f7)
        have it := hide (IsNat.fr it.out f7)
        have cE0 := fr_cell f7 cE0
        have cE1 := fr_cell f7 cE1
        have c10 := fr_cell f7 c10
        have c7 := fr_cell f7 c7
        have IA := hide (IsNat.fr IA.out f7)
        have IB := hide (IsNat.fr IB.out f7)
        have IG := hide (IsNat.fr IG.out f7)
        have IK := hide (IsNat.fr IK.out f7)
        have FA := hide (FA.out.trans f7)
        go_wp2_with fail
        obtain ⟨V7, hV⟩ : ∃ V, V = (w7.alloc (Obj.cells #[Value.slice aw (nlen 4294967296 (G / m)) cw] 25)).alloc (Obj.cells #[Value.slice ay (nlen 4294967296 0) cy] 25) := ⟨_, rfl⟩
        have g7 : Fr w7 V7 := by rw [hV]; exact (Fr.alloc _ _).trans (Fr.alloc _ _)
        have cQ7 : V7.cell? ⟨w7.heap.size, 0, none⟩ = some (.slice aw (nlen 4294967296 (G / m)) cw) := by rw [hV]; simp [go_sem]
        have cR7 : V7.cell? ⟨w7.heap.size + 1, 0, none⟩ = some (.slice ay (nlen 4294967296 0) cy) := by rw [hV]; simp [go_sem]
        rw [← hV]
        clear hV
        have iw := hide (IsNat.fr iw g7)
        have iy := hide (IsNat.fr iy g7)
        have cQ5 := fr_cell g7 cQ5
        have cR5 := fr_cell g7 cR5
        have cQ6 := fr_cell g7 cQ6
        have cR6 := fr_cell g7 cR6
        have iu := hide (IsNat.fr iu.out g7)
        have ir := hide (IsNat.fr ir.out g7)
        have iv := hide (IsNat.fr iv.out g7)
        have it := hide (IsNat.fr it.out g7)
        have cE0 := fr_cell g7 cE0
        have cE1 := fr_cell g7 cE1
        have c10 := fr_cell g7 c10
        have c7 := fr_cell g7 c7
        have IA := hide (IsNat.fr IA.out g7)
        have IB := hide (IsNat.fr IB.out g7)
        have IG := hide (IsNat.fr IG.out g7)
        have IK := hide (IsNat.fr IK.out g7)
        have FA := hide (FA.out.trans g7)
        refine (gcd_any _ _ (A / G) (B / G) _ iu.out iv.out (by omega) (by omega)).mono ?_
        rintro e w8 ⟨ah, ch, rfl, ih, f8⟩
        rw [R4.out] at ih
        rw [R4.out]
        have cR5 := fr_cell f8 cR5
        have cR6 := fr_cell f8 cR6
        have cR7 := fr_cell f8 cR7
        have FA := hide (FA.out.trans f8)
        have ir := hide (IsNat.fr ir.out f8)
        have it := hide (IsNat.fr it.out f8)
        have iy := hide (IsNat.fr iy.out f8)
        go_wp2_with fail
        refine (small_any _ _ _ ih).mono ?_
        rintro e WI ⟨rfl, f9⟩
        rw [if_pos (by omega), decide_eq_true (by omega)]
        have cR5 := fr_cell f9 cR5
        have cR6 := fr_cell f9 cR6
        have cR7 := fr_cell f9 cR7
        have FA := hide (FA.out.trans f9)
        have ir := hide (IsNat.fr ir.out f9)
        have it := hide (IsNat.fr it.out f9)
        have iy := hide (IsNat.fr iy.out f9)
        clear f8 f9 ih IA IB IG IK iu iv iw
        go_wp2_with fail
        refine wp_region_held_drew (S := (fun w' => w'.cell? ⟨w5.heap.size + 1, 0, none⟩ = some (.slice ar (nlen 4294967296 0) cr) ∧ w'.cell? ⟨w6.heap.size + 1, 0, none⟩ = some (.slice at2 (nlen 4294967296 0) ct) ∧ w'.cell? ⟨w7.heap.size + 1, 0, none⟩ = some (.slice ay (nlen 4294967296 0) cy) ∧ Hid (Fr WI w'))) (by kernel_rfl) ?_ (fun hHeld => ?_)
        · exact ⟨cR5, cR6, cR7, Fr.drew _⟩
        refine wpAnyH_ready (rs := [0]) (by kernel_rfl) (by simp) ?_
        refine AllReadyH.cons rfl (fun K hK => ?_) AllReadyH.nil
        go_simp
        have hh : Hid (Fr WI _) := hHeld.2.2.2
        refine (wakes_any _).mono ?_
        rintro e wn ⟨rfl, fy⟩
        have fz := hide (hh.out.trans fy)
        clear fy
        clear hh
        (try go_wp2_with fail)
        refine hK.out _ _ ?_ (fun hHeld => ?_)
        · (try dsimp only)
          exact ⟨fr_cell fz.out cR5, fr_cell fz.out cR6, fr_cell fz.out cR7, fz⟩
        clear hK K
        (try simp only [Act.put, List.getElem_toArray, List.getElem_cons_zero, List.getElem_cons_succ, List.setIfInBounds_toArray, List.set_cons_zero, List.set_cons_succ])
        refine wpAnyH_take (i := 1) (v := ?_) rfl (by kernel_rfl) (by kernel_rfl) (by kernel_rfl) (fun _ _ _ h => h) (Or.inl ⟨by rfl, ?_⟩) (by assumption) ?_
        rotate_left
        · (intro w hSw; (try dsimp only at hSw); go_simp; try with_reducible rfl)
        (try simp only [Act.put, List.getElem_toArray, List.getElem_cons_zero, List.getElem_cons_succ, List.setIfInBounds_toArray, List.set_cons_zero, List.set_cons_succ])
        refine wpAnyH_take (i := 2) (v := ?_) rfl (by kernel_rfl) (by kernel_rfl) (by kernel_rfl) (fun _ _ _ h => h) (Or.inl ⟨by rfl, ?_⟩) (by assumption) ?_
        rotate_left
        · (intro w hSw; (try dsimp only at hSw); go_simp; try with_reducible rfl)
        (try simp only [Act.put, List.getElem_toArray, List.getElem_cons_zero, List.getElem_cons_succ, List.setIfInBounds_toArray, List.set_cons_zero, List.set_cons_succ])
        refine wpAnyH_take (i := 3) (v := ?_) rfl (by kernel_rfl) (by kernel_rfl) (by kernel_rfl) (fun _ _ _ h => h) (Or.inl ⟨by rfl, ?_⟩) (by assumption) ?_
        rotate_left
        · (intro w hSw; (try dsimp only at hSw); go_simp; try with_reducible rfl)
        (try simp only [Act.put, List.getElem_toArray, List.getElem_cons_zero, List.getElem_cons_succ, List.setIfInBounds_toArray, List.set_cons_zero, List.set_cons_succ])
        refine wpAnyH_take (i := 4) (v := ?_) rfl (by kernel_rfl) (by kernel_rfl) (by kernel_rfl) (fun _ _ _ h => h) (Or.inl ⟨by rfl, ?_⟩) (by assumption) ?_
        rotate_left
        · (intro w hSw; (try dsimp only at hSw); go_simp; try with_reducible rfl)
        (try simp only [Act.put, List.getElem_toArray, List.getElem_cons_zero, List.getElem_cons_succ, List.setIfInBounds_toArray, List.set_cons_zero, List.set_cons_succ])
        refine wpAnyH_take (i := 5) (v := ?_) rfl (by kernel_rfl) (by kernel_rfl) (by kernel_rfl) (fun _ _ _ h => h) (Or.inl ⟨by rfl, ?_⟩) (by assumption) ?_
        rotate_left
        · (intro w hSw; (try dsimp only at hSw); go_simp; try with_reducible rfl)
        (try simp only [Act.put, List.getElem_toArray, List.getElem_cons_zero, List.getElem_cons_succ, List.setIfInBounds_toArray, List.set_cons_zero, List.set_cons_succ])
        refine wpAnyH_take (i := 6) (v := ?_) rfl (by kernel_rfl) (by kernel_rfl) (by kernel_rfl) (fun _ _ _ h => h) (Or.inl ⟨by rfl, ?_⟩) (by assumption) ?_
        rotate_left
        · (intro w hSw; (try dsimp only at hSw); go_simp; try with_reducible rfl)
        (try simp only [Act.put, List.getElem_toArray, List.getElem_cons_zero, List.getElem_cons_succ, List.setIfInBounds_toArray, List.set_cons_zero, List.set_cons_succ])
        refine wpAnyH_take (i := 7) (v := ?_) rfl (by kernel_rfl) (by kernel_rfl) (by kernel_rfl) (fun _ _ _ h => h) (Or.inl ⟨by rfl, ?_⟩) (by assumption) ?_
        rotate_left
        · (intro w hSw; (try dsimp only at hSw); go_simp; try with_reducible rfl)
        (try simp only [Act.put, List.getElem_toArray, List.getElem_cons_zero, List.getElem_cons_succ, List.setIfInBounds_toArray, List.set_cons_zero, List.set_cons_succ])
        refine wpAnyH_take (i := 8) (v := ?_) rfl (by kernel_rfl) (by kernel_rfl) (by kernel_rfl) (fun _ _ _ h => h) (Or.inl ⟨by rfl, ?_⟩) (by assumption) ?_
        rotate_left
        · (intro w hSw; (try dsimp only at hSw); go_simp; try with_reducible rfl)
        (try simp only [Act.put, List.getElem_toArray, List.getElem_cons_zero, List.getElem_cons_succ, List.setIfInBounds_toArray, List.set_cons_zero, List.set_cons_succ])
        refine wpAnyH_take (i := 9) (v := ?_) rfl (by kernel_rfl) (by kernel_rfl) (by kernel_rfl) (fun _ _ _ h => h) (Or.inl ⟨by rfl, ?_⟩) (by assumption) ?_
        rotate_left
        · (intro w hSw; (try dsimp only at hSw); go_simp; try with_reducible rfl)
        (try simp only [Act.put, List.getElem_toArray, List.getElem_cons_zero, List.getElem_cons_succ, List.setIfInBounds_toArray, List.set_cons_zero, List.set_cons_succ])
        refine wpAnyH_take (i := 10) (v := ?_) rfl (by kernel_rfl) (by kernel_rfl) (by kernel_rfl) (fun _ _ _ h => h) (Or.inl ⟨by rfl, ?_⟩) (by assumption) ?_
        rotate_left
        · (intro w hSw; (try dsimp only at hSw); go_simp; try with_reducible rfl)
        (try simp only [Act.put, List.getElem_toArray, List.getElem_cons_zero, List.getElem_cons_succ, List.setIfInBounds_toArray, List.set_cons_zero, List.set_cons_succ])
        refine wpAnyH_take (i := 11) (v := ?_) rfl (by kernel_rfl) (by kernel_rfl) (by kernel_rfl) (fun _ _ _ h => h) (Or.inl ⟨by rfl, ?_⟩) (by assumption) ?_
        rotate_left
        · (intro w hSw; (try dsimp only at hSw); go_simp; try with_reducible rfl)
        (try simp only [Act.put, List.getElem_toArray, List.getElem_cons_zero, List.getElem_cons_succ, List.setIfInBounds_toArray, List.set_cons_zero, List.set_cons_succ])
        refine wpAnyH_take (i := 13) (v := ?_) rfl (by kernel_rfl) (by kernel_rfl) (by kernel_rfl) (fun _ _ _ h => h) (Or.inl ⟨by rfl, ?_⟩) (by assumption) ?_
        rotate_left
        · (intro w hSw; (try dsimp only at hSw); go_simp; try with_reducible rfl)
        (try simp only [Act.put, List.getElem_toArray, List.getElem_cons_zero, List.getElem_cons_succ, List.setIfInBounds_toArray, List.set_cons_zero, List.set_cons_succ])
        refine wpAnyH_take (i := 16) (v := ?_) rfl (by kernel_rfl) (by kernel_rfl) (by kernel_rfl) (fun _ _ _ h => h) (Or.inl ⟨by rfl, ?_⟩) (by assumption) ?_
        rotate_left
        · (intro w hSw; (try dsimp only at hSw); go_simp; try with_reducible rfl)
        (try simp only [Act.put, List.getElem_toArray, List.getElem_cons_zero, List.getElem_cons_succ, List.setIfInBounds_toArray, List.set_cons_zero, List.set_cons_succ])
        refine wpAnyH_ready (rs := [12]) (by kernel_rfl) (by simp) ?_
        refine AllReadyH.cons rfl (fun K hK => ?_) AllReadyH.nil
        go_simp
        have hh : Hid (Fr WI _) := hHeld.2.2.2
        refine (bits_any _ 0 _ (IsNat.fr ir.out hh.out) (by rw [nlen_zero]; omega)).mono ?_
        rintro e wn ⟨rfl, fy⟩
        have fz := hide (hh.out.trans fy)
        rw [nlen_zero]
        clear fy
        clear hh
        (try go_wp2_with fail)
        refine hK.out _ _ ?_ (fun hHeld => ?_)
        · (try dsimp only)
          exact ⟨fr_cell fz.out cR5, fr_cell fz.out cR6, fr_cell fz.out cR7, fz⟩
        clear hK K
        (try simp only [Act.put, List.getElem_toArray, List.getElem_cons_zero, List.getElem_cons_succ, List.setIfInBounds_toArray, List.set_cons_zero, List.set_cons_succ])
        refine wpAnyH_ready (rs := [14]) (by kernel_rfl) (by simp) ?_
        refine AllReadyH.cons rfl (fun K hK => ?_) AllReadyH.nil
        go_simp
        have hh : Hid (Fr WI _) := hHeld.2.2.2
        refine (bits_any _ 0 _ (IsNat.fr it.out hh.out) (by rw [nlen_zero]; omega)).mono ?_
        rintro e wn ⟨rfl, fy⟩
        have fz := hide (hh.out.trans fy)
        rw [nlen_zero]
        clear fy
        clear hh
        (try go_wp2_with fail)
        refine hK.out _ _ ?_ (fun hHeld => ?_)
        · (try dsimp only)
          exact ⟨fr_cell fz.out cR5, fr_cell fz.out cR6, fr_cell fz.out cR7, fz⟩
        clear hK K
        (try simp only [Act.put, List.getElem_toArray, List.getElem_cons_zero, List.getElem_cons_succ, List.setIfInBounds_toArray, List.set_cons_zero, List.set_cons_succ])
        refine wpAnyH_take (i := 15) (v := ?_) rfl (by kernel_rfl) (by kernel_rfl) (by kernel_rfl) (fun _ _ _ h => h) (Or.inl ⟨by rfl, ?_⟩) (by assumption) ?_
        rotate_left
        · (intro w hSw; (try dsimp only at hSw); go_simp; try with_reducible rfl)
        (try simp only [Act.put, List.getElem_toArray, List.getElem_cons_zero, List.getElem_cons_succ, List.setIfInBounds_toArray, List.set_cons_zero, List.set_cons_succ])
        refine wpAnyH_ready (rs := [17]) (by kernel_rfl) (by simp) ?_
        refine AllReadyH.cons rfl (fun K hK => ?_) AllReadyH.nil
        go_simp
        have hh : Hid (Fr WI _) := hHeld.2.2.2
        refine (bits_any _ 0 _ (IsNat.fr iy.out hh.out) (by rw [nlen_zero]; omega)).mono ?_
        rintro e wn ⟨rfl, fy⟩
        have fz := hide (hh.out.trans fy)
        rw [nlen_zero]
        clear fy
        clear hh
        (try go_wp2_with fail)
        refine hK.out _ _ ?_ (fun hHeld => ?_)
        · (try dsimp only)
          exact ⟨fr_cell fz.out cR5, fr_cell fz.out cR6, fr_cell fz.out cR7, fz⟩
        clear hK K
        (try simp only [Act.put, List.getElem_toArray, List.getElem_cons_zero, List.getElem_cons_succ, List.setIfInBounds_toArray, List.set_cons_zero, List.set_cons_succ])
        refine wpAnyH_take (i := 18) (v := ?_) rfl (by kernel_rfl) (by kernel_rfl) (by kernel_rfl) (fun _ _ _ h => h) (Or.inl ⟨by rfl, ?_⟩) (by assumption) ?_
        rotate_left
        · (intro w hSw; (try dsimp only at hSw); go_simp; try with_reducible rfl)
        (try simp only [Act.put, List.getElem_toArray, List.getElem_cons_zero, List.getElem_cons_succ, List.setIfInBounds_toArray, List.set_cons_zero, List.set_cons_succ])
        refine wpAnyH_take (i := 19) (v := ?_) rfl (by kernel_rfl) (by kernel_rfl) (by kernel_rfl) (fun _ _ _ h => h) (Or.inl ⟨by rfl, ?_⟩) (by assumption) ?_
        rotate_left
        · (intro w hSw; (try dsimp only at hSw); go_simp; try with_reducible rfl)
        (try simp only [Act.put, List.getElem_toArray, List.getElem_cons_zero, List.getElem_cons_succ, List.setIfInBounds_toArray, List.set_cons_zero, List.set_cons_succ])
        refine wpAnyH_take (i := 20) (v := ?_) rfl (by kernel_rfl) (by kernel_rfl) (by kernel_rfl) (fun _ _ _ h => h) (Or.inl ⟨by rfl, ?_⟩) (by assumption) ?_
        rotate_left
        · (intro w hSw; (try dsimp only at hSw); go_simp; try with_reducible rfl)
        (try simp only [Act.put, List.getElem_toArray, List.getElem_cons_zero, List.getElem_cons_succ, List.setIfInBounds_toArray, List.set_cons_zero, List.set_cons_succ])
        refine wpAnyH_take (i := 21) (v := ?_) rfl (by kernel_rfl) (by kernel_rfl) (by kernel_rfl) (fun _ _ _ h => h) (Or.inl ⟨by rfl, ?_⟩) (by assumption) ?_
        rotate_left
        · (intro w hSw; (try dsimp only at hSw); go_simp; try with_reducible rfl)
        (try simp only [Act.put, List.getElem_toArray, List.getElem_cons_zero, List.getElem_cons_succ, List.setIfInBounds_toArray, List.set_cons_zero, List.set_cons_succ])
        refine wpAnyH_take (i := 22) (v := ?_) rfl (by kernel_rfl) (by kernel_rfl) (by kernel_rfl) (fun _ _ _ h => h) (Or.inl ⟨by rfl, ?_⟩) (by assumption) ?_
        rotate_left
        · (intro w hSw; (try dsimp only at hSw); go_simp; try with_reducible rfl)
        (try simp only [Act.put, List.getElem_toArray, List.getElem_cons_zero, List.getElem_cons_succ, List.setIfInBounds_toArray, List.set_cons_zero, List.set_cons_succ])
        refine wpAnyH_take (i := 23) (v := ?_) rfl (by kernel_rfl) (by kernel_rfl) (by kernel_rfl) (fun _ _ _ h => h) (Or.inl ⟨by rfl, ?_⟩) (by assumption) ?_
        rotate_left
        · (intro w hSw; (try dsimp only at hSw); go_simp; try with_reducible rfl)
        (try simp only [Act.put, List.getElem_toArray, List.getElem_cons_zero, List.getElem_cons_succ, List.setIfInBounds_toArray, List.set_cons_zero, List.set_cons_succ])
        refine wpAnyH_take (i := 24) (v := ?_) rfl (by kernel_rfl) (by kernel_rfl) (by kernel_rfl) (fun _ _ _ h => h) (Or.inl ⟨by rfl, ?_⟩) (by assumption) ?_
        rotate_left
        · (intro w hSw; (try dsimp only at hSw); go_simp; try with_reducible rfl)
        (try simp only [Act.put, List.getElem_toArray, List.getElem_cons_zero, List.getElem_cons_succ, List.setIfInBounds_toArray, List.set_cons_zero, List.set_cons_succ])
        refine wpAnyH_take (i := 25) (v := ?_) rfl (by kernel_rfl) (by kernel_rfl) (by kernel_rfl) (fun _ _ _ h => h) (Or.inl ⟨by rfl, ?_⟩) (by assumption) ?_
        rotate_left
        · (intro w hSw; (try dsimp only at hSw); go_simp; try with_reducible rfl)
        (try simp only [Act.put, List.getElem_toArray, List.getElem_cons_zero, List.getElem_cons_succ, List.setIfInBounds_toArray, List.set_cons_zero, List.set_cons_succ])
        refine wpAnyH_take (i := 26) (v := ?_) rfl (by kernel_rfl) (by kernel_rfl) (by kernel_rfl) (fun _ _ _ h => h) (Or.inl ⟨by rfl, ?_⟩) (by assumption) ?_
        rotate_left
        · (intro w hSw; (try dsimp only at hSw); go_simp; try with_reducible rfl)
        (try simp only [Act.put, List.getElem_toArray, List.getElem_cons_zero, List.getElem_cons_succ, List.setIfInBounds_toArray, List.set_cons_zero, List.set_cons_succ])
        refine wpAnyH_take (i := 27) (v := ?_) rfl (by kernel_rfl) (by kernel_rfl) (by kernel_rfl) (fun _ _ _ h => h) (Or.inl ⟨by rfl, ?_⟩) (by assumption) ?_
        rotate_left
        · (intro w hSw; (try dsimp only at hSw); go_simp; try with_reducible rfl)
        (try simp only [Act.put, List.getElem_toArray, List.getElem_cons_zero, List.getElem_cons_succ, List.setIfInBounds_toArray, List.set_cons_zero, List.set_cons_succ])
        refine wpAnyH_take (i := 28) (v := ?_) rfl (by kernel_rfl) (by kernel_rfl) (by kernel_rfl) (fun _ _ _ h => h) (Or.inl ⟨by rfl, ?_⟩) (by assumption) ?_
        rotate_left
        · (intro w hSw; (try dsimp only at hSw); go_simp; try with_reducible rfl)
        (try simp only [Act.put, List.getElem_toArray, List.getElem_cons_zero, List.getElem_cons_succ, List.setIfInBounds_toArray, List.set_cons_zero, List.set_cons_succ])
        refine wpAnyH_done (by kernel_rfl) ?_ _
        go_wp2_with fail
        go_ret
        exact ⟨rfl, FA.out.trans fz.out⟩

  have N6_0 : Hid (∀ (am : Option Addr) (cm : Nat) (ap : Option Addr) (cp : Nat) (an : Option Addr) (cn : Nat) (aq : Option Addr) (cq : Nat) (b0 : Nat) (wv : World), (fun w' => w'.cell? ⟨w1.heap.size, 0, none⟩ = some (.slice ak (nlen 4294967296 m) ck) ∧ Hid (Fr WB w')) wv → (IA : Hid (IsNat wv (.agg #[.slice ap (nlen 4294967296 (x * m)) cp]) (x * m))) → (Oap_0 : Off ap (nlen 4294967296 (x * m)) b0) → (IB : Hid (IsNat wv (.agg #[.slice aq (nlen 4294967296 (y * m)) cq]) (y * m))) → (Oaq_0 : Off aq (nlen 4294967296 (y * m)) b0) → (V0 : Hid (Var WB wv b0)) → wpAnyH Try.prog .any ops Q (fun w' => w'.cell? ⟨w1.heap.size, 0, none⟩ = some (.slice ak (nlen 4294967296 m) ck) ∧ Hid (Fr WB w')) 3 #[true, true, true, true, true, true, true, true, true, true, true, false, false, false] (((((((((((aR.put (some 25) (.slice a0 len0 cap0)).put (some 28) (.agg #[.slice ak (nlen 4294967296 (m)) ck])).put (some 30) (.slice a1 len1 cap1)).put (some 33) (.agg #[.slice ak (nlen 4294967296 (m)) ck])).put (some 26) (.slice a0 k0 cap0)).put (some 27) (.agg #[.slice am (nlen 4294967296 (x)) cm])).put (some 29) (.agg #[.slice ap (nlen 4294967296 (x * m)) cp])).put (some 31) (.slice a1 k1 cap1)).put (some 32) (.agg #[.slice an (nlen 4294967296 (y)) cn])).put (some 34) (.agg #[.slice aq (nlen 4294967296 (y * m)) cq])).put (some 8) (.pointer (some ⟨b0, 0, none⟩))) wv) := by
    refine hide ?_
    intro am cm ap cp an cn aq cq b0 wv hHeld IA Oap_0 IB Oaq_0 V0
    rw [hops.out, ha0.out]
    (try simp only [Act.put, List.getElem_toArray, List.getElem_cons_zero, List.getElem_cons_succ, List.setIfInBounds_toArray, List.set_cons_zero, List.set_cons_succ])
    refine wpAnyH_ready (rs := [11]) (by kernel_rfl) (by simp) ?_
    refine AllReadyH.cons rfl (fun K hK => ?_) ?_
    · have hh : Hid (Fr WB wv) := hHeld.2
      have hn := Var.new (W := WB) (w := wv) (t := 25) hh.out.size
      have fz := hide (hh.out.trans (Fr.alloc wv (.cells #[.slice none 0 0] 25)))
      have Oap_1 := off_new IA.out
      have Oaq_1 := off_new IB.out
      have D01 : b0 ≠ wv.heap.size := by have := Var.lt V0.out; omega
      have V1 := hide hn
      have IA := hide (IsNat.fr IA.out (Fr.alloc wv (.cells #[.slice none 0 0] 25)))
      have IB := hide (IsNat.fr IB.out (Fr.alloc wv (.cells #[.slice none 0 0] 25)))
      have V0 := hide (Var.fr V0.out (Fr.alloc wv (.cells #[.slice none 0 0] 25)))
      clear hn
      go_simp
      refine hK.out _ _ ?_ (fun hHeld => ?_)
      · (try dsimp only)
        exact ⟨fr_cell fz.out c7, fz⟩
      (try simp only [Act.put, List.getElem_toArray, List.getElem_cons_zero, List.getElem_cons_succ, List.setIfInBounds_toArray, List.set_cons_zero, List.set_cons_succ])
      have n := N6_01.out am cm ap cp an cn aq cq b0 wv.heap.size _ hHeld IA Oap_0 Oap_1 IB Oaq_0 Oaq_1 V0 V1 D01
      rw [hops.out, ha0.out] at n
      (try simp only [Act.put, List.getElem_toArray, List.getElem_cons_zero, List.getElem_cons_succ, List.setIfInBounds_toArray, List.set_cons_zero, List.set_cons_succ] at n)
      exact n
    exact AllReadyH.nil
  have N6_1 : Hid (∀ (am : Option Addr) (cm : Nat) (ap : Option Addr) (cp : Nat) (an : Option Addr) (cn : Nat) (aq : Option Addr) (cq : Nat) (b1 : Nat) (wv : World), (fun w' => w'.cell? ⟨w1.heap.size, 0, none⟩ = some (.slice ak (nlen 4294967296 m) ck) ∧ Hid (Fr WB w')) wv → (IA : Hid (IsNat wv (.agg #[.slice ap (nlen 4294967296 (x * m)) cp]) (x * m))) → (Oap_1 : Off ap (nlen 4294967296 (x * m)) b1) → (IB : Hid (IsNat wv (.agg #[.slice aq (nlen 4294967296 (y * m)) cq]) (y * m))) → (Oaq_1 : Off aq (nlen 4294967296 (y * m)) b1) → (V1 : Hid (Var WB wv b1)) → wpAnyH Try.prog .any ops Q (fun w' => w'.cell? ⟨w1.heap.size, 0, none⟩ = some (.slice ak (nlen 4294967296 m) ck) ∧ Hid (Fr WB w')) 3 #[true, true, true, true, true, true, true, true, true, true, false, true, false, false] (((((((((((aR.put (some 25) (.slice a0 len0 cap0)).put (some 28) (.agg #[.slice ak (nlen 4294967296 (m)) ck])).put (some 30) (.slice a1 len1 cap1)).put (some 33) (.agg #[.slice ak (nlen 4294967296 (m)) ck])).put (some 26) (.slice a0 k0 cap0)).put (some 27) (.agg #[.slice am (nlen 4294967296 (x)) cm])).put (some 29) (.agg #[.slice ap (nlen 4294967296 (x * m)) cp])).put (some 31) (.slice a1 k1 cap1)).put (some 32) (.agg #[.slice an (nlen 4294967296 (y)) cn])).put (some 34) (.agg #[.slice aq (nlen 4294967296 (y * m)) cq])).put (some 9) (.pointer (some ⟨b1, 0, none⟩))) wv) := by
    refine hide ?_
    intro am cm ap cp an cn aq cq b1 wv hHeld IA Oap_1 IB Oaq_1 V1
    clear N6_0
    rw [hops.out, ha0.out]
    (try simp only [Act.put, List.getElem_toArray, List.getElem_cons_zero, List.getElem_cons_succ, List.setIfInBounds_toArray, List.set_cons_zero, List.set_cons_succ])
    refine wpAnyH_ready (rs := [10]) (by kernel_rfl) (by simp) ?_
    refine AllReadyH.cons rfl (fun K hK => ?_) ?_
    · have hh : Hid (Fr WB wv) := hHeld.2
      have hn := Var.new (W := WB) (w := wv) (t := 25) hh.out.size
      have fz := hide (hh.out.trans (Fr.alloc wv (.cells #[.slice none 0 0] 25)))
      have Oap_0 := off_new IA.out
      have Oaq_0 := off_new IB.out
      have D01 : wv.heap.size ≠ b1 := by have := Var.lt V1.out; omega
      have V0 := hide hn
      have IA := hide (IsNat.fr IA.out (Fr.alloc wv (.cells #[.slice none 0 0] 25)))
      have IB := hide (IsNat.fr IB.out (Fr.alloc wv (.cells #[.slice none 0 0] 25)))
      have V1 := hide (Var.fr V1.out (Fr.alloc wv (.cells #[.slice none 0 0] 25)))
      clear hn
      go_simp
      refine hK.out _ _ ?_ (fun hHeld => ?_)
      · (try dsimp only)
        exact ⟨fr_cell fz.out c7, fz⟩
      (try simp only [Act.put, List.getElem_toArray, List.getElem_cons_zero, List.getElem_cons_succ, List.setIfInBounds_toArray, List.set_cons_zero, List.set_cons_succ])
      have n := N6_01.out am cm ap cp an cn aq cq wv.heap.size b1 _ hHeld IA Oap_0 Oap_1 IB Oaq_0 Oaq_1 V0 V1 D01
      rw [hops.out, ha0.out] at n
      (try simp only [Act.put, List.getElem_toArray, List.getElem_cons_zero, List.getElem_cons_succ, List.setIfInBounds_toArray, List.set_cons_zero, List.set_cons_succ] at n)
      exact n
    exact AllReadyH.nil
  have N6_ : Hid (∀ (am : Option Addr) (cm : Nat) (ap : Option Addr) (cp : Nat) (an : Option Addr) (cn : Nat) (aq : Option Addr) (cq : Nat) (wv : World), (fun w' => w'.cell? ⟨w1.heap.size, 0, none⟩ = some (.slice ak (nlen 4294967296 m) ck) ∧ Hid (Fr WB w')) wv → (IA : Hid (IsNat wv (.agg #[.slice ap (nlen 4294967296 (x * m)) cp]) (x * m))) → (IB : Hid (IsNat wv (.agg #[.slice aq (nlen 4294967296 (y * m)) cq]) (y * m))) → wpAnyH Try.prog .any ops Q (fun w' => w'.cell? ⟨w1.heap.size, 0, none⟩ = some (.slice ak (nlen 4294967296 m) ck) ∧ Hid (Fr WB w')) 4 #[true, true, true, true, true, true, true, true, true, true, false, false, false, false] ((((((((((aR.put (some 25) (.slice a0 len0 cap0)).put (some 28) (.agg #[.slice ak (nlen 4294967296 (m)) ck])).put (some 30) (.slice a1 len1 cap1)).put (some 33) (.agg #[.slice ak (nlen 4294967296 (m)) ck])).put (some 26) (.slice a0 k0 cap0)).put (some 27) (.agg #[.slice am (nlen 4294967296 (x)) cm])).put (some 29) (.agg #[.slice ap (nlen 4294967296 (x * m)) cp])).put (some 31) (.slice a1 k1 cap1)).put (some 32) (.agg #[.slice an (nlen 4294967296 (y)) cn])).put (some 34) (.agg #[.slice aq (nlen 4294967296 (y * m)) cq])) wv) := by
    refine hide ?_
    intro am cm ap cp an cn aq cq  wv hHeld IA IB
    clear N6_01
    rw [hops.out, ha0.out]
    (try simp only [Act.put, List.getElem_toArray, List.getElem_cons_zero, List.getElem_cons_succ, List.setIfInBounds_toArray, List.set_cons_zero, List.set_cons_succ])
    refine wpAnyH_ready (rs := [10, 11]) (by kernel_rfl) (by simp) ?_
    refine AllReadyH.cons rfl (fun K hK => ?_) ?_
    · have hh : Hid (Fr WB wv) := hHeld.2
      have hn := Var.new (W := WB) (w := wv) (t := 25) hh.out.size
      have fz := hide (hh.out.trans (Fr.alloc wv (.cells #[.slice none 0 0] 25)))
      have Oap_0 := off_new IA.out
      have Oaq_0 := off_new IB.out
      have V0 := hide hn
      have IA := hide (IsNat.fr IA.out (Fr.alloc wv (.cells #[.slice none 0 0] 25)))
      have IB := hide (IsNat.fr IB.out (Fr.alloc wv (.cells #[.slice none 0 0] 25)))
      clear hn
      go_simp
      refine hK.out _ _ ?_ (fun hHeld => ?_)
      · (try dsimp only)
        exact ⟨fr_cell fz.out c7, fz⟩
      (try simp only [Act.put, List.getElem_toArray, List.getElem_cons_zero, List.getElem_cons_succ, List.setIfInBounds_toArray, List.set_cons_zero, List.set_cons_succ])
      have n := N6_0.out am cm ap cp an cn aq cq wv.heap.size _ hHeld IA Oap_0 IB Oaq_0 V0
      rw [hops.out, ha0.out] at n
      (try simp only [Act.put, List.getElem_toArray, List.getElem_cons_zero, List.getElem_cons_succ, List.setIfInBounds_toArray, List.set_cons_zero, List.set_cons_succ] at n)
      exact n
    refine AllReadyH.cons rfl (fun K hK => ?_) ?_
    · have hh : Hid (Fr WB wv) := hHeld.2
      have hn := Var.new (W := WB) (w := wv) (t := 25) hh.out.size
      have fz := hide (hh.out.trans (Fr.alloc wv (.cells #[.slice none 0 0] 25)))
      have Oap_1 := off_new IA.out
      have Oaq_1 := off_new IB.out
      have V1 := hide hn
      have IA := hide (IsNat.fr IA.out (Fr.alloc wv (.cells #[.slice none 0 0] 25)))
      have IB := hide (IsNat.fr IB.out (Fr.alloc wv (.cells #[.slice none 0 0] 25)))
      clear hn
      go_simp
      refine hK.out _ _ ?_ (fun hHeld => ?_)
      · (try dsimp only)
        exact ⟨fr_cell fz.out c7, fz⟩
      (try simp only [Act.put, List.getElem_toArray, List.getElem_cons_zero, List.getElem_cons_succ, List.setIfInBounds_toArray, List.set_cons_zero, List.set_cons_succ])
      have n := N6_1.out am cm ap cp an cn aq cq wv.heap.size _ hHeld IA Oap_1 IB Oaq_1 V1
      rw [hops.out, ha0.out] at n
      (try simp only [Act.put, List.getElem_toArray, List.getElem_cons_zero, List.getElem_cons_succ, List.setIfInBounds_toArray, List.set_cons_zero, List.set_cons_succ] at n)
      exact n
    exact AllReadyH.nil
  have N5_01 : Hid (∀ (am : Option Addr) (cm : Nat) (ap : Option Addr) (cp : Nat) (an : Option Addr) (cn : Nat) (b0 : Nat) (b1 : Nat) (wv : World), (fun w' => w'.cell? ⟨w1.heap.size, 0, none⟩ = some (.slice ak (nlen 4294967296 m) ck) ∧ Hid (Fr WB w')) wv → (IA : Hid (IsNat wv (.agg #[.slice ap (nlen 4294967296 (x * m)) cp]) (x * m))) → (Oap_0 : Off ap (nlen 4294967296 (x * m)) b0) → (Oap_1 : Off ap (nlen 4294967296 (x * m)) b1) → (IN : Hid (IsNat wv (.agg #[.slice an (nlen 4294967296 (y)) cn]) y)) → (V0 : Hid (Var WB wv b0)) → (V1 : Hid (Var WB wv b1)) → (D01 : b0 ≠ b1) → wpAnyH Try.prog .any ops Q (fun w' => w'.cell? ⟨w1.heap.size, 0, none⟩ = some (.slice ak (nlen 4294967296 m) ck) ∧ Hid (Fr WB w')) 3 #[true, true, true, true, true, true, true, true, true, false, true, true, false, false] (((((((((((aR.put (some 25) (.slice a0 len0 cap0)).put (some 28) (.agg #[.slice ak (nlen 4294967296 (m)) ck])).put (some 30) (.slice a1 len1 cap1)).put (some 33) (.agg #[.slice ak (nlen 4294967296 (m)) ck])).put (some 26) (.slice a0 k0 cap0)).put (some 27) (.agg #[.slice am (nlen 4294967296 (x)) cm])).put (some 29) (.agg #[.slice ap (nlen 4294967296 (x * m)) cp])).put (some 31) (.slice a1 k1 cap1)).put (some 32) (.agg #[.slice an (nlen 4294967296 (y)) cn])).put (some 8) (.pointer (some ⟨b0, 0, none⟩))).put (some 9) (.pointer (some ⟨b1, 0, none⟩))) wv) := by
    refine hide ?_
    intro am cm ap cp an cn b0 b1 wv hHeld IA Oap_0 Oap_1 IN V0 V1 D01
    clear N6_0 N6_1 N6_
    rw [hops.out, ha0.out]
    (try simp only [Act.put, List.getElem_toArray, List.getElem_cons_zero, List.getElem_cons_succ, List.setIfInBounds_toArray, List.set_cons_zero, List.set_cons_succ])
    refine wpAnyH_ready (rs := [9]) (by kernel_rfl) (by simp) ?_
    refine AllReadyH.cons rfl (fun K hK => ?_) ?_
    · have hh : Hid (Fr WB wv) := hHeld.2
      go_simp
      refine (mul_any _ _ y m _ IN.out (IsNat.fr IK.out hh.out) (by omega) (by omega)).mono ?_
      rintro e wn ⟨aq, cq, rfl, im, lm, fy⟩
      have fz := hide (hh.out.trans fy)
      have IB := hide im
      have Oaq_0 : Off aq (nlen 4294967296 (y * m)) b0 := off_old lm (Var.lt V0.out)
      have Oaq_1 : Off aq (nlen 4294967296 (y * m)) b1 := off_old lm (Var.lt V1.out)
      have IA := hide (IsNat.fr IA.out fy)
      have V0 := hide (Var.fr V0.out fy)
      have V1 := hide (Var.fr V1.out fy)
      (try go_wp2_with fail)
      refine hK.out _ _ ?_ (fun hHeld => ?_)
      · (try dsimp only)
        exact ⟨fr_cell fz.out c7, fz⟩
      (try simp only [Act.put, List.getElem_toArray, List.getElem_cons_zero, List.getElem_cons_succ, List.setIfInBounds_toArray, List.set_cons_zero, List.set_cons_succ])
      have n := N6_01.out am cm ap cp an cn aq cq b0 b1 wn hHeld IA Oap_0 Oap_1 IB Oaq_0 Oaq_1 V0 V1 D01
      rw [hops.out, ha0.out] at n
      (try simp only [Act.put, List.getElem_toArray, List.getElem_cons_zero, List.getElem_cons_succ, List.setIfInBounds_toArray, List.set_cons_zero, List.set_cons_succ] at n)
      exact n
    exact AllReadyH.nil
  have N5_0 : Hid (∀ (am : Option Addr) (cm : Nat) (ap : Option Addr) (cp : Nat) (an : Option Addr) (cn : Nat) (b0 : Nat) (wv : World), (fun w' => w'.cell? ⟨w1.heap.size, 0, none⟩ = some (.slice ak (nlen 4294967296 m) ck) ∧ Hid (Fr WB w')) wv → (IA : Hid (IsNat wv (.agg #[.slice ap (nlen 4294967296 (x * m)) cp]) (x * m))) → (Oap_0 : Off ap (nlen 4294967296 (x * m)) b0) → (IN : Hid (IsNat wv (.agg #[.slice an (nlen 4294967296 (y)) cn]) y)) → (V0 : Hid (Var WB wv b0)) → wpAnyH Try.prog .any ops Q (fun w' => w'.cell? ⟨w1.heap.size, 0, none⟩ = some (.slice ak (nlen 4294967296 m) ck) ∧ Hid (Fr WB w')) 4 #[true, true, true, true, true, true, true, true, true, false, true, false, false, false] ((((((((((aR.put (some 25) (.slice a0 len0 cap0)).put (some 28) (.agg #[.slice ak (nlen 4294967296 (m)) ck])).put (some 30) (.slice a1 len1 cap1)).put (some 33) (.agg #[.slice ak (nlen 4294967296 (m)) ck])).put (some 26) (.slice a0 k0 cap0)).put (some 27) (.agg #[.slice am (nlen 4294967296 (x)) cm])).put (some 29) (.agg #[.slice ap (nlen 4294967296 (x * m)) cp])).put (some 31) (.slice a1 k1 cap1)).put (some 32) (.agg #[.slice an (nlen 4294967296 (y)) cn])).put (some 8) (.pointer (some ⟨b0, 0, none⟩))) wv) := by
    refine hide ?_
    intro am cm ap cp an cn b0 wv hHeld IA Oap_0 IN V0
    clear N6_01 N6_1 N6_
    rw [hops.out, ha0.out]
    (try simp only [Act.put, List.getElem_toArray, List.getElem_cons_zero, List.getElem_cons_succ, List.setIfInBounds_toArray, List.set_cons_zero, List.set_cons_succ])
    refine wpAnyH_ready (rs := [9, 11]) (by kernel_rfl) (by simp) ?_
    refine AllReadyH.cons rfl (fun K hK => ?_) ?_
    · have hh : Hid (Fr WB wv) := hHeld.2
      go_simp
      refine (mul_any _ _ y m _ IN.out (IsNat.fr IK.out hh.out) (by omega) (by omega)).mono ?_
      rintro e wn ⟨aq, cq, rfl, im, lm, fy⟩
      have fz := hide (hh.out.trans fy)
      have IB := hide im
      have Oaq_0 : Off aq (nlen 4294967296 (y * m)) b0 := off_old lm (Var.lt V0.out)
      have IA := hide (IsNat.fr IA.out fy)
      have V0 := hide (Var.fr V0.out fy)
      (try go_wp2_with fail)
      refine hK.out _ _ ?_ (fun hHeld => ?_)
      · (try dsimp only)
        exact ⟨fr_cell fz.out c7, fz⟩
      (try simp only [Act.put, List.getElem_toArray, List.getElem_cons_zero, List.getElem_cons_succ, List.setIfInBounds_toArray, List.set_cons_zero, List.set_cons_succ])
      have n := N6_0.out am cm ap cp an cn aq cq b0 wn hHeld IA Oap_0 IB Oaq_0 V0
      rw [hops.out, ha0.out] at n
      (try simp only [Act.put, List.getElem_toArray, List.getElem_cons_zero, List.getElem_cons_succ, List.setIfInBounds_toArray, List.set_cons_zero, List.set_cons_succ] at n)
      exact n
    refine AllReadyH.cons rfl (fun K hK => ?_) ?_
    · have hh : Hid (Fr WB wv) := hHeld.2
      have hn := Var.new (W := WB) (w := wv) (t := 25) hh.out.size
      have fz := hide (hh.out.trans (Fr.alloc wv (.cells #[.slice none 0 0] 25)))
      have Oap_1 := off_new IA.out
      have D01 : b0 ≠ wv.heap.size := by have := Var.lt V0.out; omega
      have V1 := hide hn
      have IA := hide (IsNat.fr IA.out (Fr.alloc wv (.cells #[.slice none 0 0] 25)))
      have IN := hide (IsNat.fr IN.out (Fr.alloc wv (.cells #[.slice none 0 0] 25)))
      have V0 := hide (Var.fr V0.out (Fr.alloc wv (.cells #[.slice none 0 0] 25)))
      clear hn
      go_simp
      refine hK.out _ _ ?_ (fun hHeld => ?_)
      · (try dsimp only)
        exact ⟨fr_cell fz.out c7, fz⟩
      (try simp only [Act.put, List.getElem_toArray, List.getElem_cons_zero, List.getElem_cons_succ, List.setIfInBounds_toArray, List.set_cons_zero, List.set_cons_succ])
      have n := N5_01.out am cm ap cp an cn b0 wv.heap.size _ hHeld IA Oap_0 Oap_1 IN V0 V1 D01
      rw [hops.out, ha0.out] at n
      (try simp only [Act.put, List.getElem_toArray, List.getElem_cons_zero, List.getElem_cons_succ, List.setIfInBounds_toArray, List.set_cons_zero, List.set_cons_succ] at n)
      exact n
    exact AllReadyH.nil
  have N5_1 : Hid (∀ (am : Option Addr) (cm : Nat) (ap : Option Addr) (cp : Nat) (an : Option Addr) (cn : Nat) (b1 : Nat) (wv : World), (fun w' => w'.cell? ⟨w1.heap.size, 0, none⟩ = some (.slice ak (nlen 4294967296 m) ck) ∧ Hid (Fr WB w')) wv → (IA : Hid (IsNat wv (.agg #[.slice ap (nlen 4294967296 (x * m)) cp]) (x * m))) → (Oap_1 : Off ap (nlen 4294967296 (x * m)) b1) → (IN : Hid (IsNat wv (.agg #[.slice an (nlen 4294967296 (y)) cn]) y)) → (V1 : Hid (Var WB wv b1)) → wpAnyH Try.prog .any ops Q (fun w' => w'.cell? ⟨w1.heap.size, 0, none⟩ = some (.slice ak (nlen 4294967296 m) ck) ∧ Hid (Fr WB w')) 4 #[true, true, true, true, true, true, true, true, true, false, false, true, false, false] ((((((((((aR.put (some 25) (.slice a0 len0 cap0)).put (some 28) (.agg #[.slice ak (nlen 4294967296 (m)) ck])).put (some 30) (.slice a1 len1 cap1)).put (some 33) (.agg #[.slice ak (nlen 4294967296 (m)) ck])).put (some 26) (.slice a0 k0 cap0)).put (some 27) (.agg #[.slice am (nlen 4294967296 (x)) cm])).put (some 29) (.agg #[.slice ap (nlen 4294967296 (x * m)) cp])).put (some 31) (.slice a1 k1 cap1)).put (some 32) (.agg #[.slice an (nlen 4294967296 (y)) cn])).put (some 9) (.pointer (some ⟨b1, 0, none⟩))) wv) := by
    refine hide ?_
    intro am cm ap cp an cn b1 wv hHeld IA Oap_1 IN V1
    clear N6_01 N6_0 N6_ N5_0
    rw [hops.out, ha0.out]
    (try simp only [Act.put, List.getElem_toArray, List.getElem_cons_zero, List.getElem_cons_succ, List.setIfInBounds_toArray, List.set_cons_zero, List.set_cons_succ])
    refine wpAnyH_ready (rs := [9, 10]) (by kernel_rfl) (by simp) ?_
    refine AllReadyH.cons rfl (fun K hK => ?_) ?_
    · have hh : Hid (Fr WB wv) := hHeld.2
      go_simp
      refine (mul_any _ _ y m _ IN.out (IsNat.fr IK.out hh.out) (by omega) (by omega)).mono ?_
      rintro e wn ⟨aq, cq, rfl, im, lm, fy⟩
      have fz := hide (hh.out.trans fy)
      have IB := hide im
      have Oaq_1 : Off aq (nlen 4294967296 (y * m)) b1 := off_old lm (Var.lt V1.out)
      have IA := hide (IsNat.fr IA.out fy)
      have V1 := hide (Var.fr V1.out fy)
      (try go_wp2_with fail)
      refine hK.out _ _ ?_ (fun hHeld => ?_)
      · (try dsimp only)
        exact ⟨fr_cell fz.out c7, fz⟩
      (try simp only [Act.put, List.getElem_toArray, List.getElem_cons_zero, List.getElem_cons_succ, List.setIfInBounds_toArray, List.set_cons_zero, List.set_cons_succ])
      have n := N6_1.out am cm ap cp an cn aq cq b1 wn hHeld IA Oap_1 IB Oaq_1 V1
      rw [hops.out, ha0.out] at n
      (try simp only [Act.put, List.getElem_toArray, List.getElem_cons_zero, List.getElem_cons_succ, List.setIfInBounds_toArray, List.set_cons_zero, List.set_cons_succ] at n)
      exact n
    refine AllReadyH.cons rfl (fun K hK => ?_) ?_
    · have hh : Hid (Fr WB wv) := hHeld.2
      have hn := Var.new (W := WB) (w := wv) (t := 25) hh.out.size
      have fz := hide (hh.out.trans (Fr.alloc wv (.cells #[.slice none 0 0] 25)))
      have Oap_0 := off_new IA.out
      have D01 : wv.heap.size ≠ b1 := by have := Var.lt V1.out; omega
      have V0 := hide hn
      have IA := hide (IsNat.fr IA.out (Fr.alloc wv (.cells #[.slice none 0 0] 25)))
      have IN := hide (IsNat.fr IN.out (Fr.alloc wv (.cells #[.slice none 0 0] 25)))
      have V1 := hide (Var.fr V1.out (Fr.alloc wv (.cells #[.slice none 0 0] 25)))
      clear hn
      go_simp
      refine hK.out _ _ ?_ (fun hHeld => ?_)
      · (try dsimp only)
        exact ⟨fr_cell fz.out c7, fz⟩
      (try simp only [Act.put, List.getElem_toArray, List.getElem_cons_zero, List.getElem_cons_succ, List.setIfInBounds_toArray, List.set_cons_zero, List.set_cons_succ])
      have n := N5_01.out am cm ap cp an cn wv.heap.size b1 _ hHeld IA Oap_0 Oap_1 IN V0 V1 D01
      rw [hops.out, ha0.out] at n
      (try simp only [Act.put, List.getElem_toArray, List.getElem_cons_zero, List.getElem_cons_succ, List.setIfInBounds_toArray, List.set_cons_zero, List.set_cons_succ] at n)
      exact n
    exact AllReadyH.nil
  have N5_ : Hid (∀ (am : Option Addr) (cm : Nat) (ap : Option Addr) (cp : Nat) (an : Option Addr) (cn : Nat) (wv : World), (fun w' => w'.cell? ⟨w1.heap.size, 0, none⟩ = some (.slice ak (nlen 4294967296 m) ck) ∧ Hid (Fr WB w')) wv → (IA : Hid (IsNat wv (.agg #[.slice ap (nlen 4294967296 (x * m)) cp]) (x * m))) → (IN : Hid (IsNat wv (.agg #[.slice an (nlen 4294967296 (y)) cn]) y)) → wpAnyH Try.prog .any ops Q (fun w' => w'.cell? ⟨w1.heap.size, 0, none⟩ = some (.slice ak (nlen 4294967296 m) ck) ∧ Hid (Fr WB w')) 5 #[true, true, true, true, true, true, true, true, true, false, false, false, false, false] (((((((((aR.put (some 25) (.slice a0 len0 cap0)).put (some 28) (.agg #[.slice ak (nlen 4294967296 (m)) ck])).put (some 30) (.slice a1 len1 cap1)).put (some 33) (.agg #[.slice ak (nlen 4294967296 (m)) ck])).put (some 26) (.slice a0 k0 cap0)).put (some 27) (.agg #[.slice am (nlen 4294967296 (x)) cm])).put (some 29) (.agg #[.slice ap (nlen 4294967296 (x * m)) cp])).put (some 31) (.slice a1 k1 cap1)).put (some 32) (.agg #[.slice an (nlen 4294967296 (y)) cn])) wv) := by
    refine hide ?_
    intro am cm ap cp an cn  wv hHeld IA IN
    clear N6_01 N6_0 N6_1 N5_01
    rw [hops.out, ha0.out]
    (try simp only [Act.put, List.getElem_toArray, List.getElem_cons_zero, List.getElem_cons_succ, List.setIfInBounds_toArray, List.set_cons_zero, List.set_cons_succ])
    refine wpAnyH_ready (rs := [9, 10, 11]) (by kernel_rfl) (by simp) ?_
    refine AllReadyH.cons rfl (fun K hK => ?_) ?_
    · have hh : Hid (Fr WB wv) := hHeld.2
      go_simp
      refine (mul_any _ _ y m _ IN.out (IsNat.fr IK.out hh.out) (by omega) (by omega)).mono ?_
      rintro e wn ⟨aq, cq, rfl, im, lm, fy⟩
      have fz := hide (hh.out.trans fy)
      have IB := hide im
      have IA := hide (IsNat.fr IA.out fy)
      (try go_wp2_with fail)
      refine hK.out _ _ ?_ (fun hHeld => ?_)
      · (try dsimp only)
        exact ⟨fr_cell fz.out c7, fz⟩
      (try simp only [Act.put, List.getElem_toArray, List.getElem_cons_zero, List.getElem_cons_succ, List.setIfInBounds_toArray, List.set_cons_zero, List.set_cons_succ])
      have n := N6_.out am cm ap cp an cn aq cq wn hHeld IA IB
      rw [hops.out, ha0.out] at n
      (try simp only [Act.put, List.getElem_toArray, List.getElem_cons_zero, List.getElem_cons_succ, List.setIfInBounds_toArray, List.set_cons_zero, List.set_cons_succ] at n)
      exact n
    refine AllReadyH.cons rfl (fun K hK => ?_) ?_
    · have hh : Hid (Fr WB wv) := hHeld.2
      have hn := Var.new (W := WB) (w := wv) (t := 25) hh.out.size
      have fz := hide (hh.out.trans (Fr.alloc wv (.cells #[.slice none 0 0] 25)))
      have Oap_0 := off_new IA.out
      have V0 := hide hn
      have IA := hide (IsNat.fr IA.out (Fr.alloc wv (.cells #[.slice none 0 0] 25)))
      have IN := hide (IsNat.fr IN.out (Fr.alloc wv (.cells #[.slice none 0 0] 25)))
      clear hn
      go_simp
      refine hK.out _ _ ?_ (fun hHeld => ?_)
      · (try dsimp only)
        exact ⟨fr_cell fz.out c7, fz⟩
      (try simp only [Act.put, List.getElem_toArray, List.getElem_cons_zero, List.getElem_cons_succ, List.setIfInBounds_toArray, List.set_cons_zero, List.set_cons_succ])
      have n := N5_0.out am cm ap cp an cn wv.heap.size _ hHeld IA Oap_0 IN V0
      rw [hops.out, ha0.out] at n
      (try simp only [Act.put, List.getElem_toArray, List.getElem_cons_zero, List.getElem_cons_succ, List.setIfInBounds_toArray, List.set_cons_zero, List.set_cons_succ] at n)
      exact n
    refine AllReadyH.cons rfl (fun K hK => ?_) ?_
    · have hh : Hid (Fr WB wv) := hHeld.2
      have hn := Var.new (W := WB) (w := wv) (t := 25) hh.out.size
      have fz := hide (hh.out.trans (Fr.alloc wv (.cells #[.slice none 0 0] 25)))
      have Oap_1 := off_new IA.out
      have V1 := hide hn
      have IA := hide (IsNat.fr IA.out (Fr.alloc wv (.cells #[.slice none 0 0] 25)))
      have IN := hide (IsNat.fr IN.out (Fr.alloc wv (.cells #[.slice none 0 0] 25)))
      clear hn
      go_simp
      refine hK.out _ _ ?_ (fun hHeld => ?_)
      · (try dsimp only)
        exact ⟨fr_cell fz.out c7, fz⟩
      (try simp only [Act.put, List.getElem_toArray, List.getElem_cons_zero, List.getElem_cons_succ, List.setIfInBounds_toArray, List.set_cons_zero, List.set_cons_succ])
      have n := N5_1.out am cm ap cp an cn wv.heap.size _ hHeld IA Oap_1 IN V1
      rw [hops.out, ha0.out] at n
      (try simp only [Act.put, List.getElem_toArray, List.getElem_cons_zero, List.getElem_cons_succ, List.setIfInBounds_toArray, List.set_cons_zero, List.set_cons_succ] at n)
      exact n
    exact AllReadyH.nil
  have N4_01 : Hid (∀ (am : Option Addr) (cm : Nat) (ap : Option Addr) (cp : Nat) (b0 : Nat) (b1 : Nat) (wv : World), (fun w' => w'.cell? ⟨w1.heap.size, 0, none⟩ = some (.slice ak (nlen 4294967296 m) ck) ∧ Hid (Fr WB w')) wv → (IA : Hid (IsNat wv (.agg #[.slice ap (nlen 4294967296 (x * m)) cp]) (x * m))) → (Oap_0 : Off ap (nlen 4294967296 (x * m)) b0) → (Oap_1 : Off ap (nlen 4294967296 (x * m)) b1) → (V0 : Hid (Var WB wv b0)) → (V1 : Hid (Var WB wv b1)) → (D01 : b0 ≠ b1) → wpAnyH Try.prog .any ops Q (fun w' => w'.cell? ⟨w1.heap.size, 0, none⟩ = some (.slice ak (nlen 4294967296 m) ck) ∧ Hid (Fr WB w')) 4 #[true, true, true, true, true, true, true, false, true, false, true, true, false, false] ((((((((((aR.put (some 25) (.slice a0 len0 cap0)).put (some 28) (.agg #[.slice ak (nlen 4294967296 (m)) ck])).put (some 30) (.slice a1 len1 cap1)).put (some 33) (.agg #[.slice ak (nlen 4294967296 (m)) ck])).put (some 26) (.slice a0 k0 cap0)).put (some 27) (.agg #[.slice am (nlen 4294967296 (x)) cm])).put (some 29) (.agg #[.slice ap (nlen 4294967296 (x * m)) cp])).put (some 31) (.slice a1 k1 cap1)).put (some 8) (.pointer (some ⟨b0, 0, none⟩))).put (some 9) (.pointer (some ⟨b1, 0, none⟩))) wv) := by
    refine hide ?_
    intro am cm ap cp b0 b1 wv hHeld IA Oap_0 Oap_1 V0 V1 D01
    clear N6_01 N6_0 N6_1 N6_ N5_0 N5_1 N5_
    rw [hops.out, ha0.out]
    (try simp only [Act.put, List.getElem_toArray, List.getElem_cons_zero, List.getElem_cons_succ, List.setIfInBounds_toArray, List.set_cons_zero, List.set_cons_succ])
    refine wpAnyH_ready (rs := [7]) (by kernel_rfl) (by simp) ?_
    refine AllReadyH.cons rfl (fun K hK => ?_) ?_
    · have hh : Hid (Fr WB wv) := hHeld.2
      go_simp
      refine (MY.out _ (FB.out.trans hh.out)).mono ?_
      rintro e wn ⟨an, cn, rfl, im, _, fy⟩
      have fz := hide (hh.out.trans fy)
      have IN := hide im
      have IA := hide (IsNat.fr IA.out fy)
      have V0 := hide (Var.fr V0.out fy)
      have V1 := hide (Var.fr V1.out fy)
      (try go_wp2_with fail)
      refine hK.out _ _ ?_ (fun hHeld => ?_)
      · (try dsimp only)
        exact ⟨fr_cell fz.out c7, fz⟩
      (try simp only [Act.put, List.getElem_toArray, List.getElem_cons_zero, List.getElem_cons_succ, List.setIfInBounds_toArray, List.set_cons_zero, List.set_cons_succ])
      have n := N5_01.out am cm ap cp an cn b0 b1 wn hHeld IA Oap_0 Oap_1 IN V0 V1 D01
      rw [hops.out, ha0.out] at n
      (try simp only [Act.put, List.getElem_toArray, List.getElem_cons_zero, List.getElem_cons_succ, List.setIfInBounds_toArray, List.set_cons_zero, List.set_cons_succ] at n)
      exact n
    exact AllReadyH.nil
  have N4_0 : Hid (∀ (am : Option Addr) (cm : Nat) (ap : Option Addr) (cp : Nat) (b0 : Nat) (wv : World), (fun w' => w'.cell? ⟨w1.heap.size, 0, none⟩ = some (.slice ak (nlen 4294967296 m) ck) ∧ Hid (Fr WB w')) wv → (IA : Hid (IsNat wv (.agg #[.slice ap (nlen 4294967296 (x * m)) cp]) (x * m))) → (Oap_0 : Off ap (nlen 4294967296 (x * m)) b0) → (V0 : Hid (Var WB wv b0)) → wpAnyH Try.prog .any ops Q (fun w' => w'.cell? ⟨w1.heap.size, 0, none⟩ = some (.slice ak (nlen 4294967296 m) ck) ∧ Hid (Fr WB w')) 5 #[true, true, true, true, true, true, true, false, true, false, true, false, false, false] (((((((((aR.put (some 25) (.slice a0 len0 cap0)).put (some 28) (.agg #[.slice ak (nlen 4294967296 (m)) ck])).put (some 30) (.slice a1 len1 cap1)).put (some 33) (.agg #[.slice ak (nlen 4294967296 (m)) ck])).put (some 26) (.slice a0 k0 cap0)).put (some 27) (.agg #[.slice am (nlen 4294967296 (x)) cm])).put (some 29) (.agg #[.slice ap (nlen 4294967296 (x * m)) cp])).put (some 31) (.slice a1 k1 cap1)).put (some 8) (.pointer (some ⟨b0, 0, none⟩))) wv) := by
    refine hide ?_
    intro am cm ap cp b0 wv hHeld IA Oap_0 V0
    clear N6_01 N6_0 N6_1 N6_ N5_01 N5_1 N5_
    rw [hops.out, ha0.out]
    (try simp only [Act.put, List.getElem_toArray, List.getElem_cons_zero, List.getElem_cons_succ, List.setIfInBounds_toArray, List.set_cons_zero, List.set_cons_succ])
    refine wpAnyH_ready (rs := [7, 11]) (by kernel_rfl) (by simp) ?_
    refine AllReadyH.cons rfl (fun K hK => ?_) ?_
    · have hh : Hid (Fr WB wv) := hHeld.2
      go_simp
      refine (MY.out _ (FB.out.trans hh.out)).mono ?_
      rintro e wn ⟨an, cn, rfl, im, _, fy⟩
      have fz := hide (hh.out.trans fy)
      have IN := hide im
      have IA := hide (IsNat.fr IA.out fy)
      have V0 := hide (Var.fr V0.out fy)
      (try go_wp2_with fail)
      refine hK.out _ _ ?_ (fun hHeld => ?_)
      · (try dsimp only)
        exact ⟨fr_cell fz.out c7, fz⟩
      (try simp only [Act.put, List.getElem_toArray, List.getElem_cons_zero, List.getElem_cons_succ, List.setIfInBounds_toArray, List.set_cons_zero, List.set_cons_succ])
      have n := N5_0.out am cm ap cp an cn b0 wn hHeld IA Oap_0 IN V0
      rw [hops.out, ha0.out] at n
      (try simp only [Act.put, List.getElem_toArray, List.getElem_cons_zero, List.getElem_cons_succ, List.setIfInBounds_toArray, List.set_cons_zero, List.set_cons_succ] at n)
      exact n
    refine AllReadyH.cons rfl (fun K hK => ?_) ?_
    · have hh : Hid (Fr WB wv) := hHeld.2
      have hn := Var.new (W := WB) (w := wv) (t := 25) hh.out.size
      have fz := hide (hh.out.trans (Fr.alloc wv (.cells #[.slice none 0 0] 25)))
      have Oap_1 := off_new IA.out
      have D01 : b0 ≠ wv.heap.size := by have := Var.lt V0.out; omega
      have V1 := hide hn
      have IA := hide (IsNat.fr IA.out (Fr.alloc wv (.cells #[.slice none 0 0] 25)))
      have V0 := hide (Var.fr V0.out (Fr.alloc wv (.cells #[.slice none 0 0] 25)))
      clear hn
      go_simp
      refine hK.out _ _ ?_ (fun hHeld => ?_)
      · (try dsimp only)
        exact ⟨fr_cell fz.out c7, fz⟩
      (try simp only [Act.put, List.getElem_toArray, List.getElem_cons_zero, List.getElem_cons_succ, List.setIfInBounds_toArray, List.set_cons_zero, List.set_cons_succ])
      have n := N4_01.out am cm ap cp b0 wv.heap.size _ hHeld IA Oap_0 Oap_1 V0 V1 D01
      rw [hops.out, ha0.out] at n
      (try simp only [Act.put, List.getElem_toArray, List.getElem_cons_zero, List.getElem_cons_succ, List.setIfInBounds_toArray, List.set_cons_zero, List.set_cons_succ] at n)
      exact n
    exact AllReadyH.nil
  have N4_1 : Hid (∀ (am : Option Addr) (cm : Nat) (ap : Option Addr) (cp : Nat) (b1 : Nat) (wv : World), (fun w' => w'.cell? ⟨w1.heap.size, 0, none⟩ = some (.slice ak (nlen 4294967296 m) ck) ∧ Hid (Fr WB w')) wv → (IA : Hid (IsNat wv (.agg #[.slice ap (nlen 4294967296 (x * m)) cp]) (x * m))) → (Oap_1 : Off ap (nlen 4294967296 (x * m)) b1) → (V1 : Hid (Var WB wv b1)) → wpAnyH Try.prog .any ops Q (fun w' => w'.cell? ⟨w1.heap.size, 0, none⟩ = some (.slice ak (nlen 4294967296 m) ck) ∧ Hid (Fr WB w')) 5 #[true, true, true, true, true, true, true, false, true, false, false, true, false, false] (((((((((aR.put (some 25) (.slice a0 len0 cap0)).put (some 28) (.agg #[.slice ak (nlen 4294967296 (m)) ck])).put (some 30) (.slice a1 len1 cap1)).put (some 33) (.agg #[.slice ak (nlen 4294967296 (m)) ck])).put (some 26) (.slice a0 k0 cap0)).put (some 27) (.agg #[.slice am (nlen 4294967296 (x)) cm])).put (some 29) (.agg #[.slice ap (nlen 4294967296 (x * m)) cp])).put (some 31) (.slice a1 k1 cap1)).put (some 9) (.pointer (some ⟨b1, 0, none⟩))) wv) := by
    refine hide ?_
    intro am cm ap cp b1 wv hHeld IA Oap_1 V1
    clear N6_01 N6_0 N6_1 N6_ N5_01 N5_0 N5_ N4_0
    rw [hops.out, ha0.out]
    (try simp only [Act.put, List.getElem_toArray, List.getElem_cons_zero, List.getElem_cons_succ, List.setIfInBounds_toArray, List.set_cons_zero, List.set_cons_succ])
    refine wpAnyH_ready (rs := [7, 10]) (by kernel_rfl) (by simp) ?_
    refine AllReadyH.cons rfl (fun K hK => ?_) ?_
    · have hh : Hid (Fr WB wv) := hHeld.2
      go_simp
      refine (MY.out _ (FB.out.trans hh.out)).mono ?_
      rintro e wn ⟨an, cn, rfl, im, _, fy⟩
      have fz := hide (hh.out.trans fy)
      have IN := hide im
      have IA := hide (IsNat.fr IA.out fy)
      have V1 := hide (Var.fr V1.out fy)
      (try go_wp2_with fail)
      refine hK.out _ _ ?_ (fun hHeld => ?_)
      · (try dsimp only)
        exact ⟨fr_cell fz.out c7, fz⟩
      (try simp only [Act.put, List.getElem_toArray, List.getElem_cons_zero, List.getElem_cons_succ, List.setIfInBounds_toArray, List.set_cons_zero, List.set_cons_succ])
      have n := N5_1.out am cm ap cp an cn b1 wn hHeld IA Oap_1 IN V1
      rw [hops.out, ha0.out] at n
      (try simp only [Act.put, List.getElem_toArray, List.getElem_cons_zero, List.getElem_cons_succ, List.setIfInBounds_toArray, List.set_cons_zero, List.set_cons_succ] at n)
      exact n
    refine AllReadyH.cons rfl (fun K hK => ?_) ?_
    · have hh : Hid (Fr WB wv) := hHeld.2
      have hn := Var.new (W := WB) (w := wv) (t := 25) hh.out.size
      have fz := hide (hh.out.trans (Fr.alloc wv (.cells #[.slice none 0 0] 25)))
      have Oap_0 := off_new IA.out
      have D01 : wv.heap.size ≠ b1 := by have := Var.lt V1.out; omega
      have V0 := hide hn
      have IA := hide (IsNat.fr IA.out (Fr.alloc wv (.cells #[.slice none 0 0] 25)))
      have V1 := hide (Var.fr V1.out (Fr.alloc wv (.cells #[.slice none 0 0] 25)))
      clear hn
      go_simp
      refine hK.out _ _ ?_ (fun hHeld => ?_)
      · (try dsimp only)
        exact ⟨fr_cell fz.out c7, fz⟩
      (try simp only [Act.put, List.getElem_toArray, List.getElem_cons_zero, List.getElem_cons_succ, List.setIfInBounds_toArray, List.set_cons_zero, List.set_cons_succ])
      have n := N4_01.out am cm ap cp wv.heap.size b1 _ hHeld IA Oap_0 Oap_1 V0 V1 D01
      rw [hops.out, ha0.out] at n
      (try simp only [Act.put, List.getElem_toArray, List.getElem_cons_zero, List.getElem_cons_succ, List.setIfInBounds_toArray, List.set_cons_zero, List.set_cons_succ] at n)
      exact n
    exact AllReadyH.nil
  have N4_ : Hid (∀ (am : Option Addr) (cm : Nat) (ap : Option Addr) (cp : Nat) (wv : World), (fun w' => w'.cell? ⟨w1.heap.size, 0, none⟩ = some (.slice ak (nlen 4294967296 m) ck) ∧ Hid (Fr WB w')) wv → (IA : Hid (IsNat wv (.agg #[.slice ap (nlen 4294967296 (x * m)) cp]) (x * m))) → wpAnyH Try.prog .any ops Q (fun w' => w'.cell? ⟨w1.heap.size, 0, none⟩ = some (.slice ak (nlen 4294967296 m) ck) ∧ Hid (Fr WB w')) 6 #[true, true, true, true, true, true, true, false, true, false, false, false, false, false] ((((((((aR.put (some 25) (.slice a0 len0 cap0)).put (some 28) (.agg #[.slice ak (nlen 4294967296 (m)) ck])).put (some 30) (.slice a1 len1 cap1)).put (some 33) (.agg #[.slice ak (nlen 4294967296 (m)) ck])).put (some 26) (.slice a0 k0 cap0)).put (some 27) (.agg #[.slice am (nlen 4294967296 (x)) cm])).put (some 29) (.agg #[.slice ap (nlen 4294967296 (x * m)) cp])).put (some 31) (.slice a1 k1 cap1)) wv) := by
    refine hide ?_
    intro am cm ap cp  wv hHeld IA
    clear N6_01 N6_0 N6_1 N6_ N5_01 N5_0 N5_1 N4_01
    rw [hops.out, ha0.out]
    (try simp only [Act.put, List.getElem_toArray, List.getElem_cons_zero, List.getElem_cons_succ, List.setIfInBounds_toArray, List.set_cons_zero, List.set_cons_succ])
    refine wpAnyH_ready (rs := [7, 10, 11]) (by kernel_rfl) (by simp) ?_
    refine AllReadyH.cons rfl (fun K hK => ?_) ?_
    · have hh : Hid (Fr WB wv) := hHeld.2
      go_simp
      refine (MY.out _ (FB.out.trans hh.out)).mono ?_
      rintro e wn ⟨an, cn, rfl, im, _, fy⟩
      have fz := hide (hh.out.trans fy)
      have IN := hide im
      have IA := hide (IsNat.fr IA.out fy)
      (try go_wp2_with fail)
      refine hK.out _ _ ?_ (fun hHeld => ?_)
      · (try dsimp only)
        exact ⟨fr_cell fz.out c7, fz⟩
      (try simp only [Act.put, List.getElem_toArray, List.getElem_cons_zero, List.getElem_cons_succ, List.setIfInBounds_toArray, List.set_cons_zero, List.set_cons_succ])
      have n := N5_.out am cm ap cp an cn wn hHeld IA IN
      rw [hops.out, ha0.out] at n
      (try simp only [Act.put, List.getElem_toArray, List.getElem_cons_zero, List.getElem_cons_succ, List.setIfInBounds_toArray, List.set_cons_zero, List.set_cons_succ] at n)
      exact n
    refine AllReadyH.cons rfl (fun K hK => ?_) ?_
    · have hh : Hid (Fr WB wv) := hHeld.2
      have hn := Var.new (W := WB) (w := wv) (t := 25) hh.out.size
      have fz := hide (hh.out.trans (Fr.alloc wv (.cells #[.slice none 0 0] 25)))
      have Oap_0 := off_new IA.out
      have V0 := hide hn
      have IA := hide (IsNat.fr IA.out (Fr.alloc wv (.cells #[.slice none 0 0] 25)))
      clear hn
      go_simp
      refine hK.out _ _ ?_ (fun hHeld => ?_)
      · (try dsimp only)
        exact ⟨fr_cell fz.out c7, fz⟩
      (try simp only [Act.put, List.getElem_toArray, List.getElem_cons_zero, List.getElem_cons_succ, List.setIfInBounds_toArray, List.set_cons_zero, List.set_cons_succ])
      have n := N4_0.out am cm ap cp wv.heap.size _ hHeld IA Oap_0 V0
      rw [hops.out, ha0.out] at n
      (try simp only [Act.put, List.getElem_toArray, List.getElem_cons_zero, List.getElem_cons_succ, List.setIfInBounds_toArray, List.set_cons_zero, List.set_cons_succ] at n)
      exact n
    refine AllReadyH.cons rfl (fun K hK => ?_) ?_
    · have hh : Hid (Fr WB wv) := hHeld.2
      have hn := Var.new (W := WB) (w := wv) (t := 25) hh.out.size
      have fz := hide (hh.out.trans (Fr.alloc wv (.cells #[.slice none 0 0] 25)))
      have Oap_1 := off_new IA.out
      have V1 := hide hn
      have IA := hide (IsNat.fr IA.out (Fr.alloc wv (.cells #[.slice none 0 0] 25)))
      clear hn
      go_simp
      refine hK.out _ _ ?_ (fun hHeld => ?_)
      · (try dsimp only)
        exact ⟨fr_cell fz.out c7, fz⟩
      (try simp only [Act.put, List.getElem_toArray, List.getElem_cons_zero, List.getElem_cons_succ, List.setIfInBounds_toArray, List.set_cons_zero, List.set_cons_succ])
      have n := N4_1.out am cm ap cp wv.heap.size _ hHeld IA Oap_1 V1
      rw [hops.out, ha0.out] at n
      (try simp only [Act.put, List.getElem_toArray, List.getElem_cons_zero, List.getElem_cons_succ, List.setIfInBounds_toArray, List.set_cons_zero, List.set_cons_succ] at n)
      exact n
    exact AllReadyH.nil
  have N3_01 : Hid (∀ (am : Option Addr) (cm : Nat) (ap : Option Addr) (cp : Nat) (b0 : Nat) (b1 : Nat) (wv : World), (fun w' => w'.cell? ⟨w1.heap.size, 0, none⟩ = some (.slice ak (nlen 4294967296 m) ck) ∧ Hid (Fr WB w')) wv → (IA : Hid (IsNat wv (.agg #[.slice ap (nlen 4294967296 (x * m)) cp]) (x * m))) → (Oap_0 : Off ap (nlen 4294967296 (x * m)) b0) → (Oap_1 : Off ap (nlen 4294967296 (x * m)) b1) → (V0 : Hid (Var WB wv b0)) → (V1 : Hid (Var WB wv b1)) → (D01 : b0 ≠ b1) → wpAnyH Try.prog .any ops Q (fun w' => w'.cell? ⟨w1.heap.size, 0, none⟩ = some (.slice ak (nlen 4294967296 m) ck) ∧ Hid (Fr WB w')) 5 #[true, true, true, true, true, true, false, false, true, false, true, true, false, false] (((((((((aR.put (some 25) (.slice a0 len0 cap0)).put (some 28) (.agg #[.slice ak (nlen 4294967296 (m)) ck])).put (some 30) (.slice a1 len1 cap1)).put (some 33) (.agg #[.slice ak (nlen 4294967296 (m)) ck])).put (some 26) (.slice a0 k0 cap0)).put (some 27) (.agg #[.slice am (nlen 4294967296 (x)) cm])).put (some 29) (.agg #[.slice ap (nlen 4294967296 (x * m)) cp])).put (some 8) (.pointer (some ⟨b0, 0, none⟩))).put (some 9) (.pointer (some ⟨b1, 0, none⟩))) wv) := by
    refine hide ?_
    intro am cm ap cp b0 b1 wv hHeld IA Oap_0 Oap_1 V0 V1 D01
    clear N6_01 N6_0 N6_1 N6_ N5_01 N5_0 N5_1 N5_ N4_0 N4_1 N4_
    rw [hops.out, ha0.out]
    (try simp only [Act.put, List.getElem_toArray, List.getElem_cons_zero, List.getElem_cons_succ, List.setIfInBounds_toArray, List.set_cons_zero, List.set_cons_succ])
    refine wpAnyH_ready (rs := [6]) (by kernel_rfl) (by simp) ?_
    refine AllReadyH.cons rfl (fun K hK => ?_) ?_
    · have hh : Hid (Fr WB wv) := hHeld.2
      go_simp
      refine (FY.out _).mono ?_
      rintro e wn ⟨rfl, hwn⟩
      have fy : Fr wv wn := by rw [hwn]; exact Fr.refl _
      clear hwn
      have fz := hide (hh.out.trans fy)
      have IA := hide (IsNat.fr IA.out fy)
      have V0 := hide (Var.fr V0.out fy)
      have V1 := hide (Var.fr V1.out fy)
      (try go_wp2_with fail)
      refine hK.out _ _ ?_ (fun hHeld => ?_)
      · (try dsimp only)
        exact ⟨fr_cell fz.out c7, fz⟩
      (try simp only [Act.put, List.getElem_toArray, List.getElem_cons_zero, List.getElem_cons_succ, List.setIfInBounds_toArray, List.set_cons_zero, List.set_cons_succ])
      have n := N4_01.out am cm ap cp b0 b1 wn hHeld IA Oap_0 Oap_1 V0 V1 D01
      rw [hops.out, ha0.out] at n
      (try simp only [Act.put, List.getElem_toArray, List.getElem_cons_zero, List.getElem_cons_succ, List.setIfInBounds_toArray, List.set_cons_zero, List.set_cons_succ] at n)
      exact n
    exact AllReadyH.nil
  have N3_0 : Hid (∀ (am : Option Addr) (cm : Nat) (ap : Option Addr) (cp : Nat) (b0 : Nat) (wv : World), (fun w' => w'.cell? ⟨w1.heap.size, 0, none⟩ = some (.slice ak (nlen 4294967296 m) ck) ∧ Hid (Fr WB w')) wv → (IA : Hid (IsNat wv (.agg #[.slice ap (nlen 4294967296 (x * m)) cp]) (x * m))) → (Oap_0 : Off ap (nlen 4294967296 (x * m)) b0) → (V0 : Hid (Var WB wv b0)) → wpAnyH Try.prog .any ops Q (fun w' => w'.cell? ⟨w1.heap.size, 0, none⟩ = some (.slice ak (nlen 4294967296 m) ck) ∧ Hid (Fr WB w')) 6 #[true, true, true, true, true, true, false, false, true, false, true, false, false, false] ((((((((aR.put (some 25) (.slice a0 len0 cap0)).put (some 28) (.agg #[.slice ak (nlen 4294967296 (m)) ck])).put (some 30) (.slice a1 len1 cap1)).put (some 33) (.agg #[.slice ak (nlen 4294967296 (m)) ck])).put (some 26) (.slice a0 k0 cap0)).put (some 27) (.agg #[.slice am (nlen 4294967296 (x)) cm])).put (some 29) (.agg #[.slice ap (nlen 4294967296 (x * m)) cp])).put (some 8) (.pointer (some ⟨b0, 0, none⟩))) wv) := by
    refine hide ?_
    intro am cm ap cp b0 wv hHeld IA Oap_0 V0
    clear N6_01 N6_0 N6_1 N6_ N5_01 N5_0 N5_1 N5_ N4_01 N4_1 N4_
    rw [hops.out, ha0.out]
    (try simp only [Act.put, List.getElem_toArray, List.getElem_cons_zero, List.getElem_cons_succ, List.setIfInBounds_toArray, List.set_cons_zero, List.set_cons_succ])
    refine wpAnyH_ready (rs := [6, 11]) (by kernel_rfl) (by simp) ?_
    refine AllReadyH.cons rfl (fun K hK => ?_) ?_
    · have hh : Hid (Fr WB wv) := hHeld.2
      go_simp
      refine (FY.out _).mono ?_
      rintro e wn ⟨rfl, hwn⟩
      have fy : Fr wv wn := by rw [hwn]; exact Fr.refl _
      clear hwn
      have fz := hide (hh.out.trans fy)
      have IA := hide (IsNat.fr IA.out fy)
      have V0 := hide (Var.fr V0.out fy)
      (try go_wp2_with fail)
      refine hK.out _ _ ?_ (fun hHeld => ?_)
      · (try dsimp only)
        exact ⟨fr_cell fz.out c7, fz⟩
      (try simp only [Act.put, List.getElem_toArray, List.getElem_cons_zero, List.getElem_cons_succ, List.setIfInBounds_toArray, List.set_cons_zero, List.set_cons_succ])
      have n := N4_0.out am cm ap cp b0 wn hHeld IA Oap_0 V0
      rw [hops.out, ha0.out] at n
      (try simp only [Act.put, List.getElem_toArray, List.getElem_cons_zero, List.getElem_cons_succ, List.setIfInBounds_toArray, List.set_cons_zero, List.set_cons_succ] at n)
      exact n
    refine AllReadyH.cons rfl (fun K hK => ?_) ?_
    · have hh : Hid (Fr WB wv) := hHeld.2
      have hn := Var.new (W := WB) (w := wv) (t := 25) hh.out.size
      have fz := hide (hh.out.trans (Fr.alloc wv (.cells #[.slice none 0 0] 25)))
      have Oap_1 := off_new IA.out
      have D01 : b0 ≠ wv.heap.size := by have := Var.lt V0.out; omega
      have V1 := hide hn
      have IA := hide (IsNat.fr IA.out (Fr.alloc wv (.cells #[.slice none 0 0] 25)))
      have V0 := hide (Var.fr V0.out (Fr.alloc wv (.cells #[.slice none 0 0] 25)))
      clear hn
      go_simp
      refine hK.out _ _ ?_ (fun hHeld => ?_)
      · (try dsimp only)
        exact ⟨fr_cell fz.out c7, fz⟩
      (try simp only [Act.put, List.getElem_toArray, List.getElem_cons_zero, List.getElem_cons_succ, List.setIfInBounds_toArray, List.set_cons_zero, List.set_cons_succ])
      have n := N3_01.out am cm ap cp b0 wv.heap.size _ hHeld IA Oap_0 Oap_1 V0 V1 D01
      rw [hops.out, ha0.out] at n
      (try simp only [Act.put, List.getElem_toArray, List.getElem_cons_zero, List.getElem_cons_succ, List.setIfInBounds_toArray, List.set_cons_zero, List.set_cons_succ] at n)
      exact n
    exact AllReadyH.nil
  have N3_1 : Hid (∀ (am : Option Addr) (cm : Nat) (ap : Option Addr) (cp : Nat) (b1 : Nat) (wv : World), (fun w' => w'.cell? ⟨w1.heap.size, 0, none⟩ = some (.slice ak (nlen 4294967296 m) ck) ∧ Hid (Fr WB w')) wv → (IA : Hid (IsNat wv (.agg #[.slice ap (nlen 4294967296 (x * m)) cp]) (x * m))) → (Oap_1 : Off ap (nlen 4294967296 (x * m)) b1) → (V1 : Hid (Var WB wv b1)) → wpAnyH Try.prog .any ops Q (fun w' => w'.cell? ⟨w1.heap.size, 0, none⟩ = some (.slice ak (nlen 4294967296 m) ck) ∧ Hid (Fr WB w')) 6 #[true, true, true, true, true, true, false, false, true, false, false, true, false, false] ((((((((aR.put (some 25) (.slice a0 len0 cap0)).put (some 28) (.agg #[.slice ak (nlen 4294967296 (m)) ck])).put (some 30) (.slice a1 len1 cap1)).put (some 33) (.agg #[.slice ak (nlen 4294967296 (m)) ck])).put (some 26) (.slice a0 k0 cap0)).put (some 27) (.agg #[.slice am (nlen 4294967296 (x)) cm])).put (some 29) (.agg #[.slice ap (nlen 4294967296 (x * m)) cp])).put (some 9) (.pointer (some ⟨b1, 0, none⟩))) wv) := by
    refine hide ?_
    intro am cm ap cp b1 wv hHeld IA Oap_1 V1
    clear N6_01 N6_0 N6_1 N6_ N5_01 N5_0 N5_1 N5_ N4_01 N4_0 N4_ N3_0
    rw [hops.out, ha0.out]
    (try simp only [Act.put, List.getElem_toArray, List.getElem_cons_zero, List.getElem_cons_succ, List.setIfInBounds_toArray, List.set_cons_zero, List.set_cons_succ])
    refine wpAnyH_ready (rs := [6, 10]) (by kernel_rfl) (by simp) ?_
    refine AllReadyH.cons rfl (fun K hK => ?_) ?_
    · have hh : Hid (Fr WB wv) := hHeld.2
      go_simp
      refine (FY.out _).mono ?_
      rintro e wn ⟨rfl, hwn⟩
      have fy : Fr wv wn := by rw [hwn]; exact Fr.refl _
      clear hwn
      have fz := hide (hh.out.trans fy)
      have IA := hide (IsNat.fr IA.out fy)
      have V1 := hide (Var.fr V1.out fy)
      (try go_wp2_with fail)
      refine hK.out _ _ ?_ (fun hHeld => ?_)
      · (try dsimp only)
        exact ⟨fr_cell fz.out c7, fz⟩
      (try simp only [Act.put, List.getElem_toArray, List.getElem_cons_zero, List.getElem_cons_succ, List.setIfInBounds_toArray, List.set_cons_zero, List.set_cons_succ])
      have n := N4_1.out am cm ap cp b1 wn hHeld IA Oap_1 V1
      rw [hops.out, ha0.out] at n
      (try simp only [Act.put, List.getElem_toArray, List.getElem_cons_zero, List.getElem_cons_succ, List.setIfInBounds_toArray, List.set_cons_zero, List.set_cons_succ] at n)
      exact n
    refine AllReadyH.cons rfl (fun K hK => ?_) ?_
    · have hh : Hid (Fr WB wv) := hHeld.2
      have hn := Var.new (W := WB) (w := wv) (t := 25) hh.out.size
      have fz := hide (hh.out.trans (Fr.alloc wv (.cells #[.slice none 0 0] 25)))
      have Oap_0 := off_new IA.out
      have D01 : wv.heap.size ≠ b1 := by have := Var.lt V1.out; omega
      have V0 := hide hn
      have IA := hide (IsNat.fr IA.out (Fr.alloc wv (.cells #[.slice none 0 0] 25)))
      have V1 := hide (Var.fr V1.out (Fr.alloc wv (.cells #[.slice none 0 0] 25)))
      clear hn
      go_simp
      refine hK.out _ _ ?_ (fun hHeld => ?_)
      · (try dsimp only)
        exact ⟨fr_cell fz.out c7, fz⟩
      (try simp only [Act.put, List.getElem_toArray, List.getElem_cons_zero, List.getElem_cons_succ, List.setIfInBounds_toArray, List.set_cons_zero, List.set_cons_succ])
      have n := N3_01.out am cm ap cp wv.heap.size b1 _ hHeld IA Oap_0 Oap_1 V0 V1 D01
      rw [hops.out, ha0.out] at n
      (try simp only [Act.put, List.getElem_toArray, List.getElem_cons_zero, List.getElem_cons_succ, List.setIfInBounds_toArray, List.set_cons_zero, List.set_cons_succ] at n)
      exact n
    exact AllReadyH.nil
  have N3_ : Hid (∀ (am : Option Addr) (cm : Nat) (ap : Option Addr) (cp : Nat) (wv : World), (fun w' => w'.cell? ⟨w1.heap.size, 0, none⟩ = some (.slice ak (nlen 4294967296 m) ck) ∧ Hid (Fr WB w')) wv → (IA : Hid (IsNat wv (.agg #[.slice ap (nlen 4294967296 (x * m)) cp]) (x * m))) → wpAnyH Try.prog .any ops Q (fun w' => w'.cell? ⟨w1.heap.size, 0, none⟩ = some (.slice ak (nlen 4294967296 m) ck) ∧ Hid (Fr WB w')) 7 #[true, true, true, true, true, true, false, false, true, false, false, false, false, false] (((((((aR.put (some 25) (.slice a0 len0 cap0)).put (some 28) (.agg #[.slice ak (nlen 4294967296 (m)) ck])).put (some 30) (.slice a1 len1 cap1)).put (some 33) (.agg #[.slice ak (nlen 4294967296 (m)) ck])).put (some 26) (.slice a0 k0 cap0)).put (some 27) (.agg #[.slice am (nlen 4294967296 (x)) cm])).put (some 29) (.agg #[.slice ap (nlen 4294967296 (x * m)) cp])) wv) := by
    refine hide ?_
    intro am cm ap cp  wv hHeld IA
    clear N6_01 N6_0 N6_1 N6_ N5_01 N5_0 N5_1 N5_ N4_01 N4_0 N4_1 N3_01
    rw [hops.out, ha0.out]
    (try simp only [Act.put, List.getElem_toArray, List.getElem_cons_zero, List.getElem_cons_succ, List.setIfInBounds_toArray, List.set_cons_zero, List.set_cons_succ])
    refine wpAnyH_ready (rs := [6, 10, 11]) (by kernel_rfl) (by simp) ?_
    refine AllReadyH.cons rfl (fun K hK => ?_) ?_
    · have hh : Hid (Fr WB wv) := hHeld.2
      go_simp
      refine (FY.out _).mono ?_
      rintro e wn ⟨rfl, hwn⟩
      have fy : Fr wv wn := by rw [hwn]; exact Fr.refl _
      clear hwn
      have fz := hide (hh.out.trans fy)
      have IA := hide (IsNat.fr IA.out fy)
      (try go_wp2_with fail)
      refine hK.out _ _ ?_ (fun hHeld => ?_)
      · (try dsimp only)
        exact ⟨fr_cell fz.out c7, fz⟩
      (try simp only [Act.put, List.getElem_toArray, List.getElem_cons_zero, List.getElem_cons_succ, List.setIfInBounds_toArray, List.set_cons_zero, List.set_cons_succ])
      have n := N4_.out am cm ap cp wn hHeld IA
      rw [hops.out, ha0.out] at n
      (try simp only [Act.put, List.getElem_toArray, List.getElem_cons_zero, List.getElem_cons_succ, List.setIfInBounds_toArray, List.set_cons_zero, List.set_cons_succ] at n)
      exact n
    refine AllReadyH.cons rfl (fun K hK => ?_) ?_
    · have hh : Hid (Fr WB wv) := hHeld.2
      have hn := Var.new (W := WB) (w := wv) (t := 25) hh.out.size
      have fz := hide (hh.out.trans (Fr.alloc wv (.cells #[.slice none 0 0] 25)))
      have Oap_0 := off_new IA.out
      have V0 := hide hn
      have IA := hide (IsNat.fr IA.out (Fr.alloc wv (.cells #[.slice none 0 0] 25)))
      clear hn
      go_simp
      refine hK.out _ _ ?_ (fun hHeld => ?_)
      · (try dsimp only)
        exact ⟨fr_cell fz.out c7, fz⟩
      (try simp only [Act.put, List.getElem_toArray, List.getElem_cons_zero, List.getElem_cons_succ, List.setIfInBounds_toArray, List.set_cons_zero, List.set_cons_succ])
      have n := N3_0.out am cm ap cp wv.heap.size _ hHeld IA Oap_0 V0
      rw [hops.out, ha0.out] at n
      (try simp only [Act.put, List.getElem_toArray, List.getElem_cons_zero, List.getElem_cons_succ, List.setIfInBounds_toArray, List.set_cons_zero, List.set_cons_succ] at n)
      exact n
    refine AllReadyH.cons rfl (fun K hK => ?_) ?_
    · have hh : Hid (Fr WB wv) := hHeld.2
      have hn := Var.new (W := WB) (w := wv) (t := 25) hh.out.size
      have fz := hide (hh.out.trans (Fr.alloc wv (.cells #[.slice none 0 0] 25)))
      have Oap_1 := off_new IA.out
      have V1 := hide hn
      have IA := hide (IsNat.fr IA.out (Fr.alloc wv (.cells #[.slice none 0 0] 25)))
      clear hn
      go_simp
      refine hK.out _ _ ?_ (fun hHeld => ?_)
      · (try dsimp only)
        exact ⟨fr_cell fz.out c7, fz⟩
      (try simp only [Act.put, List.getElem_toArray, List.getElem_cons_zero, List.getElem_cons_succ, List.setIfInBounds_toArray, List.set_cons_zero, List.set_cons_succ])
      have n := N3_1.out am cm ap cp wv.heap.size _ hHeld IA Oap_1 V1
      rw [hops.out, ha0.out] at n
      (try simp only [Act.put, List.getElem_toArray, List.getElem_cons_zero, List.getElem_cons_succ, List.setIfInBounds_toArray, List.set_cons_zero, List.set_cons_succ] at n)
      exact n
    exact AllReadyH.nil
  have N2_01 : Hid (∀ (am : Option Addr) (cm : Nat) (b0 : Nat) (b1 : Nat) (wv : World), (fun w' => w'.cell? ⟨w1.heap.size, 0, none⟩ = some (.slice ak (nlen 4294967296 m) ck) ∧ Hid (Fr WB w')) wv → (IM : Hid (IsNat wv (.agg #[.slice am (nlen 4294967296 (x)) cm]) x)) → (V0 : Hid (Var WB wv b0)) → (V1 : Hid (Var WB wv b1)) → (D01 : b0 ≠ b1) → wpAnyH Try.prog .any ops Q (fun w' => w'.cell? ⟨w1.heap.size, 0, none⟩ = some (.slice ak (nlen 4294967296 m) ck) ∧ Hid (Fr WB w')) 6 #[true, true, true, true, false, true, false, false, true, false, true, true, false, false] ((((((((aR.put (some 25) (.slice a0 len0 cap0)).put (some 28) (.agg #[.slice ak (nlen 4294967296 (m)) ck])).put (some 30) (.slice a1 len1 cap1)).put (some 33) (.agg #[.slice ak (nlen 4294967296 (m)) ck])).put (some 26) (.slice a0 k0 cap0)).put (some 27) (.agg #[.slice am (nlen 4294967296 (x)) cm])).put (some 8) (.pointer (some ⟨b0, 0, none⟩))).put (some 9) (.pointer (some ⟨b1, 0, none⟩))) wv) := by
    refine hide ?_
    intro am cm b0 b1 wv hHeld IM V0 V1 D01
    clear N6_01 N6_0 N6_1 N6_ N5_01 N5_0 N5_1 N5_ N4_01 N4_0 N4_1 N4_ N3_0 N3_1 N3_
    rw [hops.out, ha0.out]
    (try simp only [Act.put, List.getElem_toArray, List.getElem_cons_zero, List.getElem_cons_succ, List.setIfInBounds_toArray, List.set_cons_zero, List.set_cons_succ])
    refine wpAnyH_ready (rs := [4]) (by kernel_rfl) (by simp) ?_
    refine AllReadyH.cons rfl (fun K hK => ?_) ?_
    · have hh : Hid (Fr WB wv) := hHeld.2
      go_simp
      refine (mul_any _ _ x m _ IM.out (IsNat.fr IK.out hh.out) (by omega) (by omega)).mono ?_
      rintro e wn ⟨ap, cp, rfl, im, lm, fy⟩
      have fz := hide (hh.out.trans fy)
      have IA := hide im
      have Oap_0 : Off ap (nlen 4294967296 (x * m)) b0 := off_old lm (Var.lt V0.out)
      have Oap_1 : Off ap (nlen 4294967296 (x * m)) b1 := off_old lm (Var.lt V1.out)
      have V0 := hide (Var.fr V0.out fy)
      have V1 := hide (Var.fr V1.out fy)
      (try go_wp2_with fail)
      refine hK.out _ _ ?_ (fun hHeld => ?_)
      · (try dsimp only)
        exact ⟨fr_cell fz.out c7, fz⟩
      (try simp only [Act.put, List.getElem_toArray, List.getElem_cons_zero, List.getElem_cons_succ, List.setIfInBounds_toArray, List.set_cons_zero, List.set_cons_succ])
      have n := N3_01.out am cm ap cp b0 b1 wn hHeld IA Oap_0 Oap_1 V0 V1 D01
      rw [hops.out, ha0.out] at n
      (try simp only [Act.put, List.getElem_toArray, List.getElem_cons_zero, List.getElem_cons_succ, List.setIfInBounds_toArray, List.set_cons_zero, List.set_cons_succ] at n)
      exact n
    exact AllReadyH.nil
  have N2_0 : Hid (∀ (am : Option Addr) (cm : Nat) (b0 : Nat) (wv : World), (fun w' => w'.cell? ⟨w1.heap.size, 0, none⟩ = some (.slice ak (nlen 4294967296 m) ck) ∧ Hid (Fr WB w')) wv → (IM : Hid (IsNat wv (.agg #[.slice am (nlen 4294967296 (x)) cm]) x)) → (V0 : Hid (Var WB wv b0)) → wpAnyH Try.prog .any ops Q (fun w' => w'.cell? ⟨w1.heap.size, 0, none⟩ = some (.slice ak (nlen 4294967296 m) ck) ∧ Hid (Fr WB w')) 7 #[true, true, true, true, false, true, false, false, true, false, true, false, false, false] (((((((aR.put (some 25) (.slice a0 len0 cap0)).put (some 28) (.agg #[.slice ak (nlen 4294967296 (m)) ck])).put (some 30) (.slice a1 len1 cap1)).put (some 33) (.agg #[.slice ak (nlen 4294967296 (m)) ck])).put (some 26) (.slice a0 k0 cap0)).put (some 27) (.agg #[.slice am (nlen 4294967296 (x)) cm])).put (some 8) (.pointer (some ⟨b0, 0, none⟩))) wv) := by
    refine hide ?_
    intro am cm b0 wv hHeld IM V0
    clear N6_01 N6_0 N6_1 N6_ N5_01 N5_0 N5_1 N5_ N4_01 N4_0 N4_1 N4_ N3_01 N3_1 N3_
    rw [hops.out, ha0.out]
    (try simp only [Act.put, List.getElem_toArray, List.getElem_cons_zero, List.getElem_cons_succ, List.setIfInBounds_toArray, List.set_cons_zero, List.set_cons_succ])
    refine wpAnyH_ready (rs := [4, 11]) (by kernel_rfl) (by simp) ?_
    refine AllReadyH.cons rfl (fun K hK => ?_) ?_
    · have hh : Hid (Fr WB wv) := hHeld.2
      go_simp
      refine (mul_any _ _ x m _ IM.out (IsNat.fr IK.out hh.out) (by omega) (by omega)).mono ?_
      rintro e wn ⟨ap, cp, rfl, im, lm, fy⟩
      have fz := hide (hh.out.trans fy)
      have IA := hide im
      have Oap_0 : Off ap (nlen 4294967296 (x * m)) b0 := off_old lm (Var.lt V0.out)
      have V0 := hide (Var.fr V0.out fy)
      (try go_wp2_with fail)
      refine hK.out _ _ ?_ (fun hHeld => ?_)
      · (try dsimp only)
        exact ⟨fr_cell fz.out c7, fz⟩
      (try simp only [Act.put, List.getElem_toArray, List.getElem_cons_zero, List.getElem_cons_succ, List.setIfInBounds_toArray, List.set_cons_zero, List.set_cons_succ])
      have n := N3_0.out am cm ap cp b0 wn hHeld IA Oap_0 V0
      rw [hops.out, ha0.out] at n
      (try simp only [Act.put, List.getElem_toArray, List.getElem_cons_zero, List.getElem_cons_succ, List.setIfInBounds_toArray, List.set_cons_zero, List.set_cons_succ] at n)
      exact n
    refine AllReadyH.cons rfl (fun K hK => ?_) ?_
    · have hh : Hid (Fr WB wv) := hHeld.2
      have hn := Var.new (W := WB) (w := wv) (t := 25) hh.out.size
      have fz := hide (hh.out.trans (Fr.alloc wv (.cells #[.slice none 0 0] 25)))
      have D01 : b0 ≠ wv.heap.size := by have := Var.lt V0.out; omega
      have V1 := hide hn
      have IM := hide (IsNat.fr IM.out (Fr.alloc wv (.cells #[.slice none 0 0] 25)))
      have V0 := hide (Var.fr V0.out (Fr.alloc wv (.cells #[.slice none 0 0] 25)))
      clear hn
      go_simp
      refine hK.out _ _ ?_ (fun hHeld => ?_)
      · (try dsimp only)
        exact ⟨fr_cell fz.out c7, fz⟩
      (try simp only [Act.put, List.getElem_toArray, List.getElem_cons_zero, List.getElem_cons_succ, List.setIfInBounds_toArray, List.set_cons_zero, List.set_cons_succ])
      have n := N2_01.out am cm b0 wv.heap.size _ hHeld IM V0 V1 D01
      rw [hops.out, ha0.out] at n
      (try simp only [Act.put, List.getElem_toArray, List.getElem_cons_zero, List.getElem_cons_succ, List.setIfInBounds_toArray, List.set_cons_zero, List.set_cons_succ] at n)
      exact n
    exact AllReadyH.nil
  have N2_1 : Hid (∀ (am : Option Addr) (cm : Nat) (b1 : Nat) (wv : World), (fun w' => w'.cell? ⟨w1.heap.size, 0, none⟩ = some (.slice ak (nlen 4294967296 m) ck) ∧ Hid (Fr WB w')) wv → (IM : Hid (IsNat wv (.agg #[.slice am (nlen 4294967296 (x)) cm]) x)) → (V1 : Hid (Var WB wv b1)) → wpAnyH Try.prog .any ops Q (fun w' => w'.cell? ⟨w1.heap.size, 0, none⟩ = some (.slice ak (nlen 4294967296 m) ck) ∧ Hid (Fr WB w')) 7 #[true, true, true, true, false, true, false, false, true, false, false, true, false, false] (((((((aR.put (some 25) (.slice a0 len0 cap0)).put (some 28) (.agg #[.slice ak (nlen 4294967296 (m)) ck])).put (some 30) (.slice a1 len1 cap1)).put (some 33) (.agg #[.slice ak (nlen 4294967296 (m)) ck])).put (some 26) (.slice a0 k0 cap0)).put (some 27) (.agg #[.slice am (nlen 4294967296 (x)) cm])).put (some 9) (.pointer (some ⟨b1, 0, none⟩))) wv) := by
    refine hide ?_
    intro am cm b1 wv hHeld IM V1
    clear N6_01 N6_0 N6_1 N6_ N5_01 N5_0 N5_1 N5_ N4_01 N4_0 N4_1 N4_ N3_01 N3_0 N3_ N2_0
    rw [hops.out, ha0.out]
    (try simp only [Act.put, List.getElem_toArray, List.getElem_cons_zero, List.getElem_cons_succ, List.setIfInBounds_toArray, List.set_cons_zero, List.set_cons_succ])
    refine wpAnyH_ready (rs := [4, 10]) (by kernel_rfl) (by simp) ?_
    refine AllReadyH.cons rfl (fun K hK => ?_) ?_
    · have hh : Hid (Fr WB wv) := hHeld.2
      go_simp
      refine (mul_any _ _ x m _ IM.out (IsNat.fr IK.out hh.out) (by omega) (by omega)).mono ?_
      rintro e wn ⟨ap, cp, rfl, im, lm, fy⟩
      have fz := hide (hh.out.trans fy)
      have IA := hide im
      have Oap_1 : Off ap (nlen 4294967296 (x * m)) b1 := off_old lm (Var.lt V1.out)
      have V1 := hide (Var.fr V1.out fy)
      (try go_wp2_with fail)
      refine hK.out _ _ ?_ (fun hHeld => ?_)
      · (try dsimp only)
        exact ⟨fr_cell fz.out c7, fz⟩
      (try simp only [Act.put, List.getElem_toArray, List.getElem_cons_zero, List.getElem_cons_succ, List.setIfInBounds_toArray, List.set_cons_zero, List.set_cons_succ])
      have n := N3_1.out am cm ap cp b1 wn hHeld IA Oap_1 V1
      rw [hops.out, ha0.out] at n
      (try simp only [Act.put, List.getElem_toArray, List.getElem_cons_zero, List.getElem_cons_succ, List.setIfInBounds_toArray, List.set_cons_zero, List.set_cons_succ] at n)
      exact n
    refine AllReadyH.cons rfl (fun K hK => ?_) ?_
    · have hh : Hid (Fr WB wv) := hHeld.2
      have hn := Var.new (W := WB) (w := wv) (t := 25) hh.out.size
      have fz := hide (hh.out.trans (Fr.alloc wv (.cells #[.slice none 0 0] 25)))
      have D01 : wv.heap.size ≠ b1 := by have := Var.lt V1.out; omega
      have V0 := hide hn
      have IM := hide (IsNat.fr IM.out (Fr.alloc wv (.cells #[.slice none 0 0] 25)))
      have V1 := hide (Var.fr V1.out (Fr.alloc wv (.cells #[.slice none 0 0] 25)))
      clear hn
      go_simp
      refine hK.out _ _ ?_ (fun hHeld => ?_)
      · (try dsimp only)
        exact ⟨fr_cell fz.out c7, fz⟩
      (try simp only [Act.put, List.getElem_toArray, List.getElem_cons_zero, List.getElem_cons_succ, List.setIfInBounds_toArray, List.set_cons_zero, List.set_cons_succ])
      have n := N2_01.out am cm wv.heap.size b1 _ hHeld IM V0 V1 D01
      rw [hops.out, ha0.out] at n
      (try simp only [Act.put, List.getElem_toArray, List.getElem_cons_zero, List.getElem_cons_succ, List.setIfInBounds_toArray, List.set_cons_zero, List.set_cons_succ] at n)
      exact n
    exact AllReadyH.nil
  have N2_ : Hid (∀ (am : Option Addr) (cm : Nat) (wv : World), (fun w' => w'.cell? ⟨w1.heap.size, 0, none⟩ = some (.slice ak (nlen 4294967296 m) ck) ∧ Hid (Fr WB w')) wv → (IM : Hid (IsNat wv (.agg #[.slice am (nlen 4294967296 (x)) cm]) x)) → wpAnyH Try.prog .any ops Q (fun w' => w'.cell? ⟨w1.heap.size, 0, none⟩ = some (.slice ak (nlen 4294967296 m) ck) ∧ Hid (Fr WB w')) 8 #[true, true, true, true, false, true, false, false, true, false, false, false, false, false] ((((((aR.put (some 25) (.slice a0 len0 cap0)).put (some 28) (.agg #[.slice ak (nlen 4294967296 (m)) ck])).put (some 30) (.slice a1 len1 cap1)).put (some 33) (.agg #[.slice ak (nlen 4294967296 (m)) ck])).put (some 26) (.slice a0 k0 cap0)).put (some 27) (.agg #[.slice am (nlen 4294967296 (x)) cm])) wv) := by
    refine hide ?_
    intro am cm  wv hHeld IM
    clear N6_01 N6_0 N6_1 N6_ N5_01 N5_0 N5_1 N5_ N4_01 N4_0 N4_1 N4_ N3_01 N3_0 N3_1 N2_01
    rw [hops.out, ha0.out]
    (try simp only [Act.put, List.getElem_toArray, List.getElem_cons_zero, List.getElem_cons_succ, List.setIfInBounds_toArray, List.set_cons_zero, List.set_cons_succ])
    refine wpAnyH_ready (rs := [4, 10, 11]) (by kernel_rfl) (by simp) ?_
    refine AllReadyH.cons rfl (fun K hK => ?_) ?_
    · have hh : Hid (Fr WB wv) := hHeld.2
      go_simp
      refine (mul_any _ _ x m _ IM.out (IsNat.fr IK.out hh.out) (by omega) (by omega)).mono ?_
      rintro e wn ⟨ap, cp, rfl, im, lm, fy⟩
      have fz := hide (hh.out.trans fy)
      have IA := hide im
      (try go_wp2_with fail)
      refine hK.out _ _ ?_ (fun hHeld => ?_)
      · (try dsimp only)
        exact ⟨fr_cell fz.out c7, fz⟩
      (try simp only [Act.put, List.getElem_toArray, List.getElem_cons_zero, List.getElem_cons_succ, List.setIfInBounds_toArray, List.set_cons_zero, List.set_cons_succ])
      have n := N3_.out am cm ap cp wn hHeld IA
      rw [hops.out, ha0.out] at n
      (try simp only [Act.put, List.getElem_toArray, List.getElem_cons_zero, List.getElem_cons_succ, List.setIfInBounds_toArray, List.set_cons_zero, List.set_cons_succ] at n)
      exact n
    refine AllReadyH.cons rfl (fun K hK => ?_) ?_
    · have hh : Hid (Fr WB wv) := hHeld.2
      have hn := Var.new (W := WB) (w := wv) (t := 25) hh.out.size
      have fz := hide (hh.out.trans (Fr.alloc wv (.cells #[.slice none 0 0] 25)))
      have V0 := hide hn
      have IM := hide (IsNat.fr IM.out (Fr.alloc wv (.cells #[.slice none 0 0] 25)))
      clear hn
      go_simp
      refine hK.out _ _ ?_ (fun hHeld => ?_)
      · (try dsimp only)
        exact ⟨fr_cell fz.out c7, fz⟩
      (try simp only [Act.put, List.getElem_toArray, List.getElem_cons_zero, List.getElem_cons_succ, List.setIfInBounds_toArray, List.set_cons_zero, List.set_cons_succ])
      have n := N2_0.out am cm wv.heap.size _ hHeld IM V0
      rw [hops.out, ha0.out] at n
      (try simp only [Act.put, List.getElem_toArray, List.getElem_cons_zero, List.getElem_cons_succ, List.setIfInBounds_toArray, List.set_cons_zero, List.set_cons_succ] at n)
      exact n
    refine AllReadyH.cons rfl (fun K hK => ?_) ?_
    · have hh : Hid (Fr WB wv) := hHeld.2
      have hn := Var.new (W := WB) (w := wv) (t := 25) hh.out.size
      have fz := hide (hh.out.trans (Fr.alloc wv (.cells #[.slice none 0 0] 25)))
      have V1 := hide hn
      have IM := hide (IsNat.fr IM.out (Fr.alloc wv (.cells #[.slice none 0 0] 25)))
      clear hn
      go_simp
      refine hK.out _ _ ?_ (fun hHeld => ?_)
      · (try dsimp only)
        exact ⟨fr_cell fz.out c7, fz⟩
      (try simp only [Act.put, List.getElem_toArray, List.getElem_cons_zero, List.getElem_cons_succ, List.setIfInBounds_toArray, List.set_cons_zero, List.set_cons_succ])
      have n := N2_1.out am cm wv.heap.size _ hHeld IM V1
      rw [hops.out, ha0.out] at n
      (try simp only [Act.put, List.getElem_toArray, List.getElem_cons_zero, List.getElem_cons_succ, List.setIfInBounds_toArray, List.set_cons_zero, List.set_cons_succ] at n)
      exact n
    exact AllReadyH.nil
  have N1_01 : Hid (∀ (b0 : Nat) (b1 : Nat) (wv : World), (fun w' => w'.cell? ⟨w1.heap.size, 0, none⟩ = some (.slice ak (nlen 4294967296 m) ck) ∧ Hid (Fr WB w')) wv → (V0 : Hid (Var WB wv b0)) → (V1 : Hid (Var WB wv b1)) → (D01 : b0 ≠ b1) → wpAnyH Try.prog .any ops Q (fun w' => w'.cell? ⟨w1.heap.size, 0, none⟩ = some (.slice ak (nlen 4294967296 m) ck) ∧ Hid (Fr WB w')) 7 #[true, true, false, true, false, true, false, false, true, false, true, true, false, false] (((((((aR.put (some 25) (.slice a0 len0 cap0)).put (some 28) (.agg #[.slice ak (nlen 4294967296 (m)) ck])).put (some 30) (.slice a1 len1 cap1)).put (some 33) (.agg #[.slice ak (nlen 4294967296 (m)) ck])).put (some 26) (.slice a0 k0 cap0)).put (some 8) (.pointer (some ⟨b0, 0, none⟩))).put (some 9) (.pointer (some ⟨b1, 0, none⟩))) wv) := by
    refine hide ?_
    intro  b0 b1 wv hHeld V0 V1 D01
    clear N6_01 N6_0 N6_1 N6_ N5_01 N5_0 N5_1 N5_ N4_01 N4_0 N4_1 N4_ N3_01 N3_0 N3_1 N3_ N2_0 N2_1 N2_
    rw [hops.out, ha0.out]
    (try simp only [Act.put, List.getElem_toArray, List.getElem_cons_zero, List.getElem_cons_succ, List.setIfInBounds_toArray, List.set_cons_zero, List.set_cons_succ])
    refine wpAnyH_ready (rs := [2]) (by kernel_rfl) (by simp) ?_
    refine AllReadyH.cons rfl (fun K hK => ?_) ?_
    · have hh : Hid (Fr WB wv) := hHeld.2
      go_simp
      refine (MX.out _ (FB.out.trans hh.out)).mono ?_
      rintro e wn ⟨am, cm, rfl, im, _, fy⟩
      have fz := hide (hh.out.trans fy)
      have IM := hide im
      have V0 := hide (Var.fr V0.out fy)
      have V1 := hide (Var.fr V1.out fy)
      (try go_wp2_with fail)
      refine hK.out _ _ ?_ (fun hHeld => ?_)
      · (try dsimp only)
        exact ⟨fr_cell fz.out c7, fz⟩
      (try simp only [Act.put, List.getElem_toArray, List.getElem_cons_zero, List.getElem_cons_succ, List.setIfInBounds_toArray, List.set_cons_zero, List.set_cons_succ])
      have n := N2_01.out am cm b0 b1 wn hHeld IM V0 V1 D01
      rw [hops.out, ha0.out] at n
      (try simp only [Act.put, List.getElem_toArray, List.getElem_cons_zero, List.getElem_cons_succ, List.setIfInBounds_toArray, List.set_cons_zero, List.set_cons_succ] at n)
      exact n
    exact AllReadyH.nil
  have N1_0 : Hid (∀ (b0 : Nat) (wv : World), (fun w' => w'.cell? ⟨w1.heap.size, 0, none⟩ = some (.slice ak (nlen 4294967296 m) ck) ∧ Hid (Fr WB w')) wv → (V0 : Hid (Var WB wv b0)) → wpAnyH Try.prog .any ops Q (fun w' => w'.cell? ⟨w1.heap.size, 0, none⟩ = some (.slice ak (nlen 4294967296 m) ck) ∧ Hid (Fr WB w')) 8 #[true, true, false, true, false, true, false, false, true, false, true, false, false, false] ((((((aR.put (some 25) (.slice a0 len0 cap0)).put (some 28) (.agg #[.slice ak (nlen 4294967296 (m)) ck])).put (some 30) (.slice a1 len1 cap1)).put (some 33) (.agg #[.slice ak (nlen 4294967296 (m)) ck])).put (some 26) (.slice a0 k0 cap0)).put (some 8) (.pointer (some ⟨b0, 0, none⟩))) wv) := by
    refine hide ?_
    intro  b0 wv hHeld V0
    clear N6_01 N6_0 N6_1 N6_ N5_01 N5_0 N5_1 N5_ N4_01 N4_0 N4_1 N4_ N3_01 N3_0 N3_1 N3_ N2_01 N2_1 N2_
    rw [hops.out, ha0.out]
    (try simp only [Act.put, List.getElem_toArray, List.getElem_cons_zero, List.getElem_cons_succ, List.setIfInBounds_toArray, List.set_cons_zero, List.set_cons_succ])
    refine wpAnyH_ready (rs := [2, 11]) (by kernel_rfl) (by simp) ?_
    refine AllReadyH.cons rfl (fun K hK => ?_) ?_
    · have hh : Hid (Fr WB wv) := hHeld.2
      go_simp
      refine (MX.out _ (FB.out.trans hh.out)).mono ?_
      rintro e wn ⟨am, cm, rfl, im, _, fy⟩
      have fz := hide (hh.out.trans fy)
      have IM := hide im
      have V0 := hide (Var.fr V0.out fy)
      (try go_wp2_with fail)
      refine hK.out _ _ ?_ (fun hHeld => ?_)
      · (try dsimp only)
        exact ⟨fr_cell fz.out c7, fz⟩
      (try simp only [Act.put, List.getElem_toArray, List.getElem_cons_zero, List.getElem_cons_succ, List.setIfInBounds_toArray, List.set_cons_zero, List.set_cons_succ])
      have n := N2_0.out am cm b0 wn hHeld IM V0
      rw [hops.out, ha0.out] at n
      (try simp only [Act.put, List.getElem_toArray, List.getElem_cons_zero, List.getElem_cons_succ, List.setIfInBounds_toArray, List.set_cons_zero, List.set_cons_succ] at n)
      exact n
    refine AllReadyH.cons rfl (fun K hK => ?_) ?_
    · have hh : Hid (Fr WB wv) := hHeld.2
      have hn := Var.new (W := WB) (w := wv) (t := 25) hh.out.size
      have fz := hide (hh.out.trans (Fr.alloc wv (.cells #[.slice none 0 0] 25)))
      have D01 : b0 ≠ wv.heap.size := by have := Var.lt V0.out; omega
      have V1 := hide hn
      have V0 := hide (Var.fr V0.out (Fr.alloc wv (.cells #[.slice none 0 0] 25)))
      clear hn
      go_simp
      refine hK.out _ _ ?_ (fun hHeld => ?_)
      · (try dsimp only)
        exact ⟨fr_cell fz.out c7, fz⟩
      (try simp only [Act.put, List.getElem_toArray, List.getElem_cons_zero, List.getElem_cons_succ, List.setIfInBounds_toArray, List.set_cons_zero, List.set_cons_succ])
      have n := N1_01.out b0 wv.heap.size _ hHeld V0 V1 D01
      rw [hops.out, ha0.out] at n
      (try simp only [Act.put, List.getElem_toArray, List.getElem_cons_zero, List.getElem_cons_succ, List.setIfInBounds_toArray, List.set_cons_zero, List.set_cons_succ] at n)
      exact n
    exact AllReadyH.nil
  have N1_1 : Hid (∀ (b1 : Nat) (wv : World), (fun w' => w'.cell? ⟨w1.heap.size, 0, none⟩ = some (.slice ak (nlen 4294967296 m) ck) ∧ Hid (Fr WB w')) wv → (V1 : Hid (Var WB wv b1)) → wpAnyH Try.prog .any ops Q (fun w' => w'.cell? ⟨w1.heap.size, 0, none⟩ = some (.slice ak (nlen 4294967296 m) ck) ∧ Hid (Fr WB w')) 8 #[true, true, false, true, false, true, false, false, true, false, false, true, false, false] ((((((aR.put (some 25) (.slice a0 len0 cap0)).put (some 28) (.agg #[.slice ak (nlen 4294967296 (m)) ck])).put (some 30) (.slice a1 len1 cap1)).put (some 33) (.agg #[.slice ak (nlen 4294967296 (m)) ck])).put (some 26) (.slice a0 k0 cap0)).put (some 9) (.pointer (some ⟨b1, 0, none⟩))) wv) := by
    refine hide ?_
    intro  b1 wv hHeld V1
    clear N6_01 N6_0 N6_1 N6_ N5_01 N5_0 N5_1 N5_ N4_01 N4_0 N4_1 N4_ N3_01 N3_0 N3_1 N3_ N2_01 N2_0 N2_ N1_0
    rw [hops.out, ha0.out]
    (try simp only [Act.put, List.getElem_toArray, List.getElem_cons_zero, List.getElem_cons_succ, List.setIfInBounds_toArray, List.set_cons_zero, List.set_cons_succ])
    refine wpAnyH_ready (rs := [2, 10]) (by kernel_rfl) (by simp) ?_
    refine AllReadyH.cons rfl (fun K hK => ?_) ?_
    · have hh : Hid (Fr WB wv) := hHeld.2
      go_simp
      refine (MX.out _ (FB.out.trans hh.out)).mono ?_
      rintro e wn ⟨am, cm, rfl, im, _, fy⟩
      have fz := hide (hh.out.trans fy)
      have IM := hide im
      have V1 := hide (Var.fr V1.out fy)
      (try go_wp2_with fail)
      refine hK.out _ _ ?_ (fun hHeld => ?_)
      · (try dsimp only)
        exact ⟨fr_cell fz.out c7, fz⟩
      (try simp only [Act.put, List.getElem_toArray, List.getElem_cons_zero, List.getElem_cons_succ, List.setIfInBounds_toArray, List.set_cons_zero, List.set_cons_succ])
      have n := N2_1.out am cm b1 wn hHeld IM V1
      rw [hops.out, ha0.out] at n
      (try simp only [Act.put, List.getElem_toArray, List.getElem_cons_zero, List.getElem_cons_succ, List.setIfInBounds_toArray, List.set_cons_zero, List.set_cons_succ] at n)
      exact n
    refine AllReadyH.cons rfl (fun K hK => ?_) ?_
    · have hh : Hid (Fr WB wv) := hHeld.2
      have hn := Var.new (W := WB) (w := wv) (t := 25) hh.out.size
      have fz := hide (hh.out.trans (Fr.alloc wv (.cells #[.slice none 0 0] 25)))
      have D01 : wv.heap.size ≠ b1 := by have := Var.lt V1.out; omega
      have V0 := hide hn
      have V1 := hide (Var.fr V1.out (Fr.alloc wv (.cells #[.slice none 0 0] 25)))
      clear hn
      go_simp
      refine hK.out _ _ ?_ (fun hHeld => ?_)
      · (try dsimp only)
        exact ⟨fr_cell fz.out c7, fz⟩
      (try simp only [Act.put, List.getElem_toArray, List.getElem_cons_zero, List.getElem_cons_succ, List.setIfInBounds_toArray, List.set_cons_zero, List.set_cons_succ])
      have n := N1_01.out wv.heap.size b1 _ hHeld V0 V1 D01
      rw [hops.out, ha0.out] at n
      (try simp only [Act.put, List.getElem_toArray, List.getElem_cons_zero, List.getElem_cons_succ, List.setIfInBounds_toArray, List.set_cons_zero, List.set_cons_succ] at n)
      exact n
    exact AllReadyH.nil
  have N1_ : Hid (∀ (wv : World), (fun w' => w'.cell? ⟨w1.heap.size, 0, none⟩ = some (.slice ak (nlen 4294967296 m) ck) ∧ Hid (Fr WB w')) wv → wpAnyH Try.prog .any ops Q (fun w' => w'.cell? ⟨w1.heap.size, 0, none⟩ = some (.slice ak (nlen 4294967296 m) ck) ∧ Hid (Fr WB w')) 9 #[true, true, false, true, false, true, false, false, true, false, false, false, false, false] (((((aR.put (some 25) (.slice a0 len0 cap0)).put (some 28) (.agg #[.slice ak (nlen 4294967296 (m)) ck])).put (some 30) (.slice a1 len1 cap1)).put (some 33) (.agg #[.slice ak (nlen 4294967296 (m)) ck])).put (some 26) (.slice a0 k0 cap0)) wv) := by
    refine hide ?_
    intro   wv hHeld 
    clear N6_01 N6_0 N6_1 N6_ N5_01 N5_0 N5_1 N5_ N4_01 N4_0 N4_1 N4_ N3_01 N3_0 N3_1 N3_ N2_01 N2_0 N2_1 N1_01
    rw [hops.out, ha0.out]
    (try simp only [Act.put, List.getElem_toArray, List.getElem_cons_zero, List.getElem_cons_succ, List.setIfInBounds_toArray, List.set_cons_zero, List.set_cons_succ])
    refine wpAnyH_ready (rs := [2, 10, 11]) (by kernel_rfl) (by simp) ?_
    refine AllReadyH.cons rfl (fun K hK => ?_) ?_
    · have hh : Hid (Fr WB wv) := hHeld.2
      go_simp
      refine (MX.out _ (FB.out.trans hh.out)).mono ?_
      rintro e wn ⟨am, cm, rfl, im, _, fy⟩
      have fz := hide (hh.out.trans fy)
      have IM := hide im
      (try go_wp2_with fail)
      refine hK.out _ _ ?_ (fun hHeld => ?_)
      · (try dsimp only)
        exact ⟨fr_cell fz.out c7, fz⟩
      (try simp only [Act.put, List.getElem_toArray, List.getElem_cons_zero, List.getElem_cons_succ, List.setIfInBounds_toArray, List.set_cons_zero, List.set_cons_succ])
      have n := N2_.out am cm wn hHeld IM
      rw [hops.out, ha0.out] at n
      (try simp only [Act.put, List.getElem_toArray, List.getElem_cons_zero, List.getElem_cons_succ, List.setIfInBounds_toArray, List.set_cons_zero, List.set_cons_succ] at n)
      exact n
    refine AllReadyH.cons rfl (fun K hK => ?_) ?_
    · have hh : Hid (Fr WB wv) := hHeld.2
      have hn := Var.new (W := WB) (w := wv) (t := 25) hh.out.size
      have fz := hide (hh.out.trans (Fr.alloc wv (.cells #[.slice none 0 0] 25)))
      have V0 := hide hn
      clear hn
      go_simp
      refine hK.out _ _ ?_ (fun hHeld => ?_)
      · (try dsimp only)
        exact ⟨fr_cell fz.out c7, fz⟩
      (try simp only [Act.put, List.getElem_toArray, List.getElem_cons_zero, List.getElem_cons_succ, List.setIfInBounds_toArray, List.set_cons_zero, List.set_cons_succ])
      have n := N1_0.out wv.heap.size _ hHeld V0
      rw [hops.out, ha0.out] at n
      (try simp only [Act.put, List.getElem_toArray, List.getElem_cons_zero, List.getElem_cons_succ, List.setIfInBounds_toArray, List.set_cons_zero, List.set_cons_succ] at n)
      exact n
    refine AllReadyH.cons rfl (fun K hK => ?_) ?_
    · have hh : Hid (Fr WB wv) := hHeld.2
      have hn := Var.new (W := WB) (w := wv) (t := 25) hh.out.size
      have fz := hide (hh.out.trans (Fr.alloc wv (.cells #[.slice none 0 0] 25)))
      have V1 := hide hn
      clear hn
      go_simp
      refine hK.out _ _ ?_ (fun hHeld => ?_)
      · (try dsimp only)
        exact ⟨fr_cell fz.out c7, fz⟩
      (try simp only [Act.put, List.getElem_toArray, List.getElem_cons_zero, List.getElem_cons_succ, List.setIfInBounds_toArray, List.set_cons_zero, List.set_cons_succ])
      have n := N1_1.out wv.heap.size _ hHeld V1
      rw [hops.out, ha0.out] at n
      (try simp only [Act.put, List.getElem_toArray, List.getElem_cons_zero, List.getElem_cons_succ, List.setIfInBounds_toArray, List.set_cons_zero, List.set_cons_succ] at n)
      exact n
    exact AllReadyH.nil
  have N0_01 : Hid (∀ (b0 : Nat) (b1 : Nat) (wv : World), (fun w' => w'.cell? ⟨w1.heap.size, 0, none⟩ = some (.slice ak (nlen 4294967296 m) ck) ∧ Hid (Fr WB w')) wv → (V0 : Hid (Var WB wv b0)) → (V1 : Hid (Var WB wv b1)) → (D01 : b0 ≠ b1) → wpAnyH Try.prog .any ops Q (fun w' => w'.cell? ⟨w1.heap.size, 0, none⟩ = some (.slice ak (nlen 4294967296 m) ck) ∧ Hid (Fr WB w')) 8 #[true, false, false, true, false, true, false, false, true, false, true, true, false, false] ((((((aR.put (some 25) (.slice a0 len0 cap0)).put (some 28) (.agg #[.slice ak (nlen 4294967296 (m)) ck])).put (some 30) (.slice a1 len1 cap1)).put (some 33) (.agg #[.slice ak (nlen 4294967296 (m)) ck])).put (some 8) (.pointer (some ⟨b0, 0, none⟩))).put (some 9) (.pointer (some ⟨b1, 0, none⟩))) wv) := by
    refine hide ?_
    intro  b0 b1 wv hHeld V0 V1 D01
    clear N6_01 N6_0 N6_1 N6_ N5_01 N5_0 N5_1 N5_ N4_01 N4_0 N4_1 N4_ N3_01 N3_0 N3_1 N3_ N2_01 N2_0 N2_1 N2_ N1_0 N1_1 N1_
    rw [hops.out, ha0.out]
    (try simp only [Act.put, List.getElem_toArray, List.getElem_cons_zero, List.getElem_cons_succ, List.setIfInBounds_toArray, List.set_cons_zero, List.set_cons_succ])
    refine wpAnyH_ready (rs := [1]) (by kernel_rfl) (by simp) ?_
    refine AllReadyH.cons rfl (fun K hK => ?_) ?_
    · have hh : Hid (Fr WB wv) := hHeld.2
      go_simp
      refine (FX.out _).mono ?_
      rintro e wn ⟨rfl, hwn⟩
      have fy : Fr wv wn := by rw [hwn]; exact Fr.refl _
      clear hwn
      have fz := hide (hh.out.trans fy)
      have V0 := hide (Var.fr V0.out fy)
      have V1 := hide (Var.fr V1.out fy)
      (try go_wp2_with fail)
      refine hK.out _ _ ?_ (fun hHeld => ?_)
      · (try dsimp only)
        exact ⟨fr_cell fz.out c7, fz⟩
      (try simp only [Act.put, List.getElem_toArray, List.getElem_cons_zero, List.getElem_cons_succ, List.setIfInBounds_toArray, List.set_cons_zero, List.set_cons_succ])
      have n := N1_01.out b0 b1 wn hHeld V0 V1 D01
      rw [hops.out, ha0.out] at n
      (try simp only [Act.put, List.getElem_toArray, List.getElem_cons_zero, List.getElem_cons_succ, List.setIfInBounds_toArray, List.set_cons_zero, List.set_cons_succ] at n)
      exact n
    exact AllReadyH.nil
  have N0_0 : Hid (∀ (b0 : Nat) (wv : World), (fun w' => w'.cell? ⟨w1.heap.size, 0, none⟩ = some (.slice ak (nlen 4294967296 m) ck) ∧ Hid (Fr WB w')) wv → (V0 : Hid (Var WB wv b0)) → wpAnyH Try.prog .any ops Q (fun w' => w'.cell? ⟨w1.heap.size, 0, none⟩ = some (.slice ak (nlen 4294967296 m) ck) ∧ Hid (Fr WB w')) 9 #[true, false, false, true, false, true, false, false, true, false, true, false, false, false] (((((aR.put (some 25) (.slice a0 len0 cap0)).put (some 28) (.agg #[.slice ak (nlen 4294967296 (m)) ck])).put (some 30) (.slice a1 len1 cap1)).put (some 33) (.agg #[.slice ak (nlen 4294967296 (m)) ck])).put (some 8) (.pointer (some ⟨b0, 0, none⟩))) wv) := by
    refine hide ?_
    intro  b0 wv hHeld V0
    clear N6_01 N6_0 N6_1 N6_ N5_01 N5_0 N5_1 N5_ N4_01 N4_0 N4_1 N4_ N3_01 N3_0 N3_1 N3_ N2_01 N2_0 N2_1 N2_ N1_01 N1_1 N1_
    rw [hops.out, ha0.out]
    (try simp only [Act.put, List.getElem_toArray, List.getElem_cons_zero, List.getElem_cons_succ, List.setIfInBounds_toArray, List.set_cons_zero, List.set_cons_succ])
    refine wpAnyH_ready (rs := [1, 11]) (by kernel_rfl) (by simp) ?_
    refine AllReadyH.cons rfl (fun K hK => ?_) ?_
    · have hh : Hid (Fr WB wv) := hHeld.2
      go_simp
      refine (FX.out _).mono ?_
      rintro e wn ⟨rfl, hwn⟩
      have fy : Fr wv wn := by rw [hwn]; exact Fr.refl _
      clear hwn
      have fz := hide (hh.out.trans fy)
      have V0 := hide (Var.fr V0.out fy)
      (try go_wp2_with fail)
      refine hK.out _ _ ?_ (fun hHeld => ?_)
      · (try dsimp only)
        exact ⟨fr_cell fz.out c7, fz⟩
      (try simp only [Act.put, List.getElem_toArray, List.getElem_cons_zero, List.getElem_cons_succ, List.setIfInBounds_toArray, List.set_cons_zero, List.set_cons_succ])
      have n := N1_0.out b0 wn hHeld V0
      rw [hops.out, ha0.out] at n
      (try simp only [Act.put, List.getElem_toArray, List.getElem_cons_zero, List.getElem_cons_succ, List.setIfInBounds_toArray, List.set_cons_zero, List.set_cons_succ] at n)
      exact n
    refine AllReadyH.cons rfl (fun K hK => ?_) ?_
    · have hh : Hid (Fr WB wv) := hHeld.2
      have hn := Var.new (W := WB) (w := wv) (t := 25) hh.out.size
      have fz := hide (hh.out.trans (Fr.alloc wv (.cells #[.slice none 0 0] 25)))
      have D01 : b0 ≠ wv.heap.size := by have := Var.lt V0.out; omega
      have V1 := hide hn
      have V0 := hide (Var.fr V0.out (Fr.alloc wv (.cells #[.slice none 0 0] 25)))
      clear hn
      go_simp
      refine hK.out _ _ ?_ (fun hHeld => ?_)
      · (try dsimp only)
        exact ⟨fr_cell fz.out c7, fz⟩
      (try simp only [Act.put, List.getElem_toArray, List.getElem_cons_zero, List.getElem_cons_succ, List.setIfInBounds_toArray, List.set_cons_zero, List.set_cons_succ])
      have n := N0_01.out b0 wv.heap.size _ hHeld V0 V1 D01
      rw [hops.out, ha0.out] at n
      (try simp only [Act.put, List.getElem_toArray, List.getElem_cons_zero, List.getElem_cons_succ, List.setIfInBounds_toArray, List.set_cons_zero, List.set_cons_succ] at n)
      exact n
    exact AllReadyH.nil
  have N0_1 : Hid (∀ (b1 : Nat) (wv : World), (fun w' => w'.cell? ⟨w1.heap.size, 0, none⟩ = some (.slice ak (nlen 4294967296 m) ck) ∧ Hid (Fr WB w')) wv → (V1 : Hid (Var WB wv b1)) → wpAnyH Try.prog .any ops Q (fun w' => w'.cell? ⟨w1.heap.size, 0, none⟩ = some (.slice ak (nlen 4294967296 m) ck) ∧ Hid (Fr WB w')) 9 #[true, false, false, true, false, true, false, false, true, false, false, true, false, false] (((((aR.put (some 25) (.slice a0 len0 cap0)).put (some 28) (.agg #[.slice ak (nlen 4294967296 (m)) ck])).put (some 30) (.slice a1 len1 cap1)).put (some 33) (.agg #[.slice ak (nlen 4294967296 (m)) ck])).put (some 9) (.pointer (some ⟨b1, 0, none⟩))) wv) := by
    refine hide ?_
    intro  b1 wv hHeld V1
    clear N6_01 N6_0 N6_1 N6_ N5_01 N5_0 N5_1 N5_ N4_01 N4_0 N4_1 N4_ N3_01 N3_0 N3_1 N3_ N2_01 N2_0 N2_1 N2_ N1_01 N1_0 N1_ N0_0
    rw [hops.out, ha0.out]
    (try simp only [Act.put, List.getElem_toArray, List.getElem_cons_zero, List.getElem_cons_succ, List.setIfInBounds_toArray, List.set_cons_zero, List.set_cons_succ])
    refine wpAnyH_ready (rs := [1, 10]) (by kernel_rfl) (by simp) ?_
    refine AllReadyH.cons rfl (fun K hK => ?_) ?_
    · have hh : Hid (Fr WB wv) := hHeld.2
      go_simp
      refine (FX.out _).mono ?_
      rintro e wn ⟨rfl, hwn⟩
      have fy : Fr wv wn := by rw [hwn]; exact Fr.refl _
      clear hwn
      have fz := hide (hh.out.trans fy)
      have V1 := hide (Var.fr V1.out fy)
      (try go_wp2_with fail)
      refine hK.out _ _ ?_ (fun hHeld => ?_)
      · (try dsimp only)
        exact ⟨fr_cell fz.out c7, fz⟩
      (try simp only [Act.put, List.getElem_toArray, List.getElem_cons_zero, List.getElem_cons_succ, List.setIfInBounds_toArray, List.set_cons_zero, List.set_cons_succ])
      have n := N1_1.out b1 wn hHeld V1
      rw [hops.out, ha0.out] at n
      (try simp only [Act.put, List.getElem_toArray, List.getElem_cons_zero, List.getElem_cons_succ, List.setIfInBounds_toArray, List.set_cons_zero, List.set_cons_succ] at n)
      exact n
    refine AllReadyH.cons rfl (fun K hK => ?_) ?_
    · have hh : Hid (Fr WB wv) := hHeld.2
      have hn := Var.new (W := WB) (w := wv) (t := 25) hh.out.size
      have fz := hide (hh.out.trans (Fr.alloc wv (.cells #[.slice none 0 0] 25)))
      have D01 : wv.heap.size ≠ b1 := by have := Var.lt V1.out; omega
      have V0 := hide hn
      have V1 := hide (Var.fr V1.out (Fr.alloc wv (.cells #[.slice none 0 0] 25)))
      clear hn
      go_simp
      refine hK.out _ _ ?_ (fun hHeld => ?_)
      · (try dsimp only)
        exact ⟨fr_cell fz.out c7, fz⟩
      (try simp only [Act.put, List.getElem_toArray, List.getElem_cons_zero, List.getElem_cons_succ, List.setIfInBounds_toArray, List.set_cons_zero, List.set_cons_succ])
      have n := N0_01.out wv.heap.size b1 _ hHeld V0 V1 D01
      rw [hops.out, ha0.out] at n
      (try simp only [Act.put, List.getElem_toArray, List.getElem_cons_zero, List.getElem_cons_succ, List.setIfInBounds_toArray, List.set_cons_zero, List.set_cons_succ] at n)
      exact n
    exact AllReadyH.nil
  have N0_ : Hid (∀ (wv : World), (fun w' => w'.cell? ⟨w1.heap.size, 0, none⟩ = some (.slice ak (nlen 4294967296 m) ck) ∧ Hid (Fr WB w')) wv → wpAnyH Try.prog .any ops Q (fun w' => w'.cell? ⟨w1.heap.size, 0, none⟩ = some (.slice ak (nlen 4294967296 m) ck) ∧ Hid (Fr WB w')) 10 #[true, false, false, true, false, true, false, false, true, false, false, false, false, false] ((((aR.put (some 25) (.slice a0 len0 cap0)).put (some 28) (.agg #[.slice ak (nlen 4294967296 (m)) ck])).put (some 30) (.slice a1 len1 cap1)).put (some 33) (.agg #[.slice ak (nlen 4294967296 (m)) ck])) wv) := by
    refine hide ?_
    intro   wv hHeld 
    clear N6_01 N6_0 N6_1 N6_ N5_01 N5_0 N5_1 N5_ N4_01 N4_0 N4_1 N4_ N3_01 N3_0 N3_1 N3_ N2_01 N2_0 N2_1 N2_ N1_01 N1_0 N1_1 N0_01
    rw [hops.out, ha0.out]
    (try simp only [Act.put, List.getElem_toArray, List.getElem_cons_zero, List.getElem_cons_succ, List.setIfInBounds_toArray, List.set_cons_zero, List.set_cons_succ])
    refine wpAnyH_ready (rs := [1, 10, 11]) (by kernel_rfl) (by simp) ?_
    refine AllReadyH.cons rfl (fun K hK => ?_) ?_
    · have hh : Hid (Fr WB wv) := hHeld.2
      go_simp
      refine (FX.out _).mono ?_
      rintro e wn ⟨rfl, hwn⟩
      have fy : Fr wv wn := by rw [hwn]; exact Fr.refl _
      clear hwn
      have fz := hide (hh.out.trans fy)
      (try go_wp2_with fail)
      refine hK.out _ _ ?_ (fun hHeld => ?_)
      · (try dsimp only)
        exact ⟨fr_cell fz.out c7, fz⟩
      (try simp only [Act.put, List.getElem_toArray, List.getElem_cons_zero, List.getElem_cons_succ, List.setIfInBounds_toArray, List.set_cons_zero, List.set_cons_succ])
      have n := N1_.out  wn hHeld 
      rw [hops.out, ha0.out] at n
      (try simp only [Act.put, List.getElem_toArray, List.getElem_cons_zero, List.getElem_cons_succ, List.setIfInBounds_toArray, List.set_cons_zero, List.set_cons_succ] at n)
      exact n
    refine AllReadyH.cons rfl (fun K hK => ?_) ?_
    · have hh : Hid (Fr WB wv) := hHeld.2
      have hn := Var.new (W := WB) (w := wv) (t := 25) hh.out.size
      have fz := hide (hh.out.trans (Fr.alloc wv (.cells #[.slice none 0 0] 25)))
      have V0 := hide hn
      clear hn
      go_simp
      refine hK.out _ _ ?_ (fun hHeld => ?_)
      · (try dsimp only)
        exact ⟨fr_cell fz.out c7, fz⟩
      (try simp only [Act.put, List.getElem_toArray, List.getElem_cons_zero, List.getElem_cons_succ, List.setIfInBounds_toArray, List.set_cons_zero, List.set_cons_succ])
      have n := N0_0.out wv.heap.size _ hHeld V0
      rw [hops.out, ha0.out] at n
      (try simp only [Act.put, List.getElem_toArray, List.getElem_cons_zero, List.getElem_cons_succ, List.setIfInBounds_toArray, List.set_cons_zero, List.set_cons_succ] at n)
      exact n
    refine AllReadyH.cons rfl (fun K hK => ?_) ?_
    · have hh : Hid (Fr WB wv) := hHeld.2
      have hn := Var.new (W := WB) (w := wv) (t := 25) hh.out.size
      have fz := hide (hh.out.trans (Fr.alloc wv (.cells #[.slice none 0 0] 25)))
      have V1 := hide hn
      clear hn
      go_simp
      refine hK.out _ _ ?_ (fun hHeld => ?_)
      · (try dsimp only)
        exact ⟨fr_cell fz.out c7, fz⟩
      (try simp only [Act.put, List.getElem_toArray, List.getElem_cons_zero, List.getElem_cons_succ, List.setIfInBounds_toArray, List.set_cons_zero, List.set_cons_succ])
      have n := N0_1.out wv.heap.size _ hHeld V1
      rw [hops.out, ha0.out] at n
      (try simp only [Act.put, List.getElem_toArray, List.getElem_cons_zero, List.getElem_cons_succ, List.setIfInBounds_toArray, List.set_cons_zero, List.set_cons_succ] at n)
      exact n
    exact AllReadyH.nil
  clear N6_01 N6_0 N6_1 N6_ N5_01 N5_0 N5_1 N5_ N4_01 N4_0 N4_1 N4_ N3_01 N3_0 N3_1 N3_ N2_01 N2_0 N2_1 N2_ N1_01 N1_0 N1_1 N1_ N0_01 N0_0 N0_1
  rw [hops.out, ha0.out]
  have hHeld := hHeld0
  refine wpAnyH_take (i := 0) (v := ?_) rfl (by kernel_rfl) (by kernel_rfl) (by kernel_rfl) (fun _ _ _ h => HPan.out _ _ _ _ _ h) (Or.inl ⟨by rfl, ?_⟩) (by assumption) ?_
  rotate_left
  · (intro w hSw; (try dsimp only at hSw); go_simp; try with_reducible rfl)
  (try simp only [Act.put, List.getElem_toArray, List.getElem_cons_zero, List.getElem_cons_succ, List.setIfInBounds_toArray, List.set_cons_zero, List.set_cons_succ])
  refine wpAnyH_take (i := 3) (v := ?_) rfl (by kernel_rfl) (by kernel_rfl) (by kernel_rfl) (fun _ _ _ h => HPan.out _ _ _ _ _ h) (Or.inl ⟨by rfl, ?_⟩) (by assumption) ?_
  rotate_left
  · (intro w hSw; (try dsimp only at hSw); go_simp; try with_reducible rfl)
  (try simp only [Act.put, List.getElem_toArray, List.getElem_cons_zero, List.getElem_cons_succ, List.setIfInBounds_toArray, List.set_cons_zero, List.set_cons_succ])
  refine wpAnyH_take (i := 5) (v := ?_) rfl (by kernel_rfl) (by kernel_rfl) (by kernel_rfl) (fun _ _ _ h => HPan.out _ _ _ _ _ h) (Or.inl ⟨by rfl, ?_⟩) (by assumption) ?_
  rotate_left
  · (intro w hSw; (try dsimp only at hSw); go_simp; try with_reducible rfl)
  (try simp only [Act.put, List.getElem_toArray, List.getElem_cons_zero, List.getElem_cons_succ, List.setIfInBounds_toArray, List.set_cons_zero, List.set_cons_succ])
  refine wpAnyH_take (i := 8) (v := ?_) rfl (by kernel_rfl) (by kernel_rfl) (by kernel_rfl) (fun _ _ _ h => HPan.out _ _ _ _ _ h) (Or.inl ⟨by rfl, ?_⟩) (by assumption) ?_
  rotate_left
  · (intro w hSw; (try dsimp only at hSw); go_simp; try with_reducible rfl)
  (try simp only [Act.put, List.getElem_toArray, List.getElem_cons_zero, List.getElem_cons_succ, List.setIfInBounds_toArray, List.set_cons_zero, List.set_cons_succ])
  have n := N0_.out _ hHeld
  rw [hops.out, ha0.out] at n
  (try simp only [Act.put, List.getElem_toArray, List.getElem_cons_zero, List.getElem_cons_succ, List.setIfInBounds_toArray, List.set_cons_zero, List.set_cons_succ] at n)
  exact n
end Go.Proofs.Ytblhpoahcglcbaa
