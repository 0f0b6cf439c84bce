/- Layer 6: number, Parse. -/
import Derived.Test.YtkdiniboponphaaDoorDigB
import Derived.Test.YtkdiniboponphaaDoorTenA
import Derived.Test.YtkdiniboponphaaDoorTimesB
import Derived.Test.YtkdiniboponphaaDoorNatD
import Derived.Deep.RegionHeld3
namespace Go.Proofs.YtkdiniboponphaaDoor
set_option linter.unusedVariables false
set_option linter.unusedSimpArgs false
open Go.RowKit

attribute [local go_sem] World.cell?_alloc_some
theorem pow_ten_lt {x n : Nat} (h : x < 10 ^ n) : nlen 4294967296 x ≤ n := nlen_le b32 (Nat.lt_of_lt_of_le h (Nat.pow_le_pow_left (by decide) n))
theorem nl_valD {l : List UInt8} (h : AllD l) : nlen 4294967296 (valD l) ≤ l.length := pow_ten_lt (valD_lt l h)
theorem cut_data (s : ByteArray) (c : Nat) (hc : c ≤ s.size) : (s.extract 0 c).data.toList = s.data.toList.take c ∧ (s.extract c s.size).data.toList = s.data.toList.drop c ∧ (s.extract 0 c).size = c ∧ (s.extract c s.size).size = s.size - c := by
  have hl := len_data s
  have h1 : (s.extract 0 c).data.toList = s.data.toList.take c := by rw [Go.Lib.extract_data]; simp
  have h2 : (s.extract c s.size).data.toList = s.data.toList.drop c := by
    rw [Go.Lib.extract_data]
    exact List.take_of_length_le (by rw [List.length_drop, hl]; omega)
  refine ⟨h1, h2, ?_, ?_⟩
  · rw [← len_data, h1, List.length_take, hl]; omega
  · rw [← len_data, h2, List.length_drop, hl]

set_option maxHeartbeats 4000000 in
set_option maxRecDepth 4000 in
theorem number_step (m : Nat) (ih : ∀ (s : ByteArray) (w : World), s.size < m → s.size ≤ 100000 → AllD s.data.toList →
    Calls Tryd.prog 36 #[.string s] w fun e w' => ∃ a c, e = .returned (.agg #[.slice a (nlen 4294967296 (valD s.data.toList)) c]) ∧ Res w w' a c (valD s.data.toList))
    (s : ByteArray) (w : World) (hm : s.size ≤ m) (h5 : s.size ≤ 100000) (hA : AllD s.data.toList) :
    Calls Tryd.prog 36 #[.string s] w fun e w' => ∃ a c, e = .returned (.agg #[.slice a (nlen 4294967296 (valD s.data.toList)) c]) ∧ Res w w' a c (valD s.data.toList) := by
  obtain ⟨t, ht⟩ : ∃ t, bs (Lib.trimLeftB s.data.toList 48) = t := ⟨_, rfl⟩
  obtain ⟨X, hX⟩ : ∃ X, valD s.data.toList = X := ⟨_, rfl⟩
  have htd : t.data.toList = Lib.trimLeftB s.data.toList 48 := by rw [← ht, bs_data]
  have htA : AllD t.data.toList := by rw [htd]; exact trimLeft_all hA
  have htX : valD t.data.toList = X := by rw [htd, trimLeft_val, hX]
  have hts : t.size ≤ s.size := by rw [← ht, bs_size, ← len_data s]; exact trimLeft_len _
  have HTL : Hid (∀ w, Calls Tryd.prog 54 #[.string s, .string ⟨#[48]⟩] w fun e w' => e = .returned (.string t) ∧ w' = w) := by
    refine hide ?_
    intro w
    have := Tryd.strings_TrimLeft_one s 48 (by decide) w
    rw [show (⟨(Lib.trimLeftB s.data.toList 48).toArray⟩ : ByteArray) = t from ht] at this
    exact this
  rw [hX]
  have HA := hide htA
  have HX := hide htX
  have IH := hide ih
  clear htd htA htX ht hX ih hA
  by_cases hsm : t.size ≤ 19
  · have HS := hide (fun w => small_any6 t w hsm HA.out)
    rw [HX.out] at HS
    have hXb : X < 18446744073709551616 := by
      have h1 := valD_lt _ HA.out
      rw [HX.out, len_data] at h1
      have h2 : 10 ^ t.size ≤ 10 ^ 19 := Nat.pow_le_pow_right (by decide) hsm
      omega
    have HO := hide (fun w => of_any X w hXb)
    clear hXb
    go_enter Tryd.func36, Tryd.ntmps36
    go_wp2_with fail
    refine (HTL.out _).mono ?_
    rintro e w1 ⟨rfl, rfl⟩
    go_wp2_with fail
    refine (HS.out _).mono ?_
    rintro e w1 ⟨rfl, rfl⟩
    go_wp2_with fail
    refine (HO.out _).mono ?_
    rintro e w1 ⟨a, c, rfl, h1, l1, f1⟩
    have H1 := hide h1
    have L1 := hide l1
    have z4 := var_free f1
    have c4 := var_cell f1
    have F := hide ((Fr.alloc _ _).trans f1)
    have s1 := cell_lt c4
    simp only [] at s1
    clear f1 h1 l1
    go_wp2_with fail
    (try simp only [Exit.inBlock, Exit.then])
    refine bodyPost_ret (results_nat rfl _ _ w.heap.size (.slice a (nlen 4294967296 X) c) rfl ?_) rfl ?_
    · go_simp
    · refine ⟨_, _, rfl, ?_, fun g off s e => ?_, Below.setCell F.out (by simp) _⟩
      · exact IsNat.put H1.out _ _ (fun g off s e => by have := L1.out g off s e; simp at this; simp; omega)
      · have := L1.out g off s e; simp at this; omega
  · obtain ⟨lo, hlo⟩ : ∃ lo : Nat, t.size / 2 = lo := ⟨_, rfl⟩
    obtain ⟨cu, hcu⟩ : ∃ cu : Nat, t.size - lo = cu := ⟨_, rfl⟩
    have e1 : ((t.size : Int) / 2) = (lo : Int) := by omega
    have e2 : ((t.size : Int) - (lo : Int)) = (cu : Int) := by omega
    have hcs : cu ≤ t.size := by omega
    have hc0 : cu < t.size := by omega
    have hl0 : 10 ≤ lo := by omega
    obtain ⟨d1, d2, d3, d4⟩ := cut_data t cu hcs
    obtain ⟨p, hp⟩ : ∃ p, t.extract 0 cu = p := ⟨_, rfl⟩
    obtain ⟨q, hq⟩ : ∃ q, t.extract cu t.size = q := ⟨_, rfl⟩
    have hpA : AllD p.data.toList := by rw [← hp, d1]; exact fun b hb => HA.out b (List.mem_of_mem_take hb)
    have hqA : AllD q.data.toList := by rw [← hq, d2]; exact fun b hb => HA.out b (List.mem_of_mem_drop hb)
    rw [hp] at d1 d3
    rw [hq] at d2 d4
    obtain ⟨Y, hY⟩ : ∃ Y, valD p.data.toList = Y := ⟨_, rfl⟩
    obtain ⟨Z, hZ⟩ : ∃ Z, valD q.data.toList = Z := ⟨_, rfl⟩
    obtain ⟨T, hT⟩ : ∃ T, 10 ^ lo = T := ⟨_, rfl⟩
    have hXX : Y * T + Z = X := by
      rw [← hY, ← hZ, ← hT, ← HX.out, d1, d2]
      have h1 := valD_append (t.data.toList.take cu) (t.data.toList.drop cu)
      rw [List.take_append_drop, List.length_drop, len_data, show t.size - cu = lo by omega] at h1
      exact h1.symm
    have nY : nlen 4294967296 Y ≤ 100000 := by have := nl_valD hpA; rw [hY, len_data] at this; omega
    have nZ : nlen 4294967296 Z ≤ 100000 := by have := nl_valD hqA; rw [hZ, len_data] at this; omega
    have nT : nlen 4294967296 T ≤ 100001 := by
      have := nlen_pow (x := 10) (n := 1) (by rw [nlten]; omega) lo
      rw [hT] at this; omega
    have nYT : nlen 4294967296 (Y * T) ≤ 1000000 := Nat.le_trans (nlen_mul b32 nY nT) (by omega)
    have HP : Hid (∀ w, Calls Tryd.prog 36 #[.string p] w fun e w' => ∃ a c, e = .returned (.agg #[.slice a (nlen 4294967296 Y) c]) ∧ Res w w' a c Y) := by
      refine hide ?_
      intro w
      have := IH.out p w (by omega) (by omega) hpA
      rwa [hY] at this
    have HQ : Hid (∀ w, Calls Tryd.prog 36 #[.string q] w fun e w' => ∃ a c, e = .returned (.agg #[.slice a (nlen 4294967296 Z) c]) ∧ Res w w' a c Z) := by
      refine hide ?_
      intro w
      have := IH.out q w (by omega) (by omega) hqA
      rwa [hZ] at this
    have HT : Hid (∀ w, Calls Tryd.prog 33 #[.int .i64 lo] w fun e w' => ∃ a c, e = .returned (.agg #[.slice a (nlen 4294967296 T) c]) ∧ IsNat w' (.agg #[.slice a (nlen 4294967296 T) c]) T ∧ Fr w w') :=
      hide (fun w => tenc_any lo T w (by omega) (by omega) (by rw [Int.toNat_natCast]; exact hT))
    have HXX := hide hXX
    have HNY := hide nY
    have HNZ := hide nZ
    have HNT := hide nT
    have HNYT := hide nYT
    clear hXX nY nZ nT nYT hT hY hZ hpA hqA d1 d2 IH
    go_enter Tryd.func36, Tryd.ntmps36
    go_wp2_with fail
    refine (HTL.out _).mono ?_
    rintro e w1 ⟨rfl, rfl⟩
    go_wp2_with fail
    obtain ⟨W, hW⟩ : ∃ W, W = w.alloc (Obj.cells #[Value.slice none 0 0] 24) := ⟨_, rfl⟩
    have fW : Fr w W := by rw [hW]; exact Fr.alloc _ _
    have c4 : W.cell? ⟨w.heap.size, 0, none⟩ = some (.slice none 0 0) := by rw [hW]; simp [go_sem]
    have z4 : W.frozen? ⟨w.heap.size, 0, none⟩ = false := by rw [hW]; simp [go_sem]
    have hWs : W.heap.size = w.heap.size + 1 := by rw [hW]; simp
    rw [← hW]
    clear hW
    have fz := hide (Fr.drew W)
    refine wp_region_held_drew (S := (fun w' => Hid (Fr w w'))) (by kernel_rfl) ?_ (fun hHeld => ?_)
    · exact hide (fW.trans (Fr.drew _))
    refine wpAnyH_take (i := 0) (v := ?_) rfl (by kernel_rfl) (by kernel_rfl) (by kernel_rfl) (fun _ _ _ h => h) (Or.inl ⟨by rfl, ?_⟩) (by assumption) ?_
    rotate_left
    · (intro w hSw; (try dsimp only at hSw); go_simp; try with_reducible rfl)
    (try simp only [Act.put, List.getElem_toArray, List.getElem_cons_zero, List.getElem_cons_succ, List.setIfInBounds_toArray, List.set_cons_zero, List.set_cons_succ])
    refine wpAnyH_take (i := 1) (v := ?_) rfl (by kernel_rfl) (by kernel_rfl) (by kernel_rfl) (fun _ _ _ h => h) (Or.inl ⟨by rfl, ?_⟩) (by assumption) ?_
    rotate_left
    · (intro w hSw; (try dsimp only at hSw); go_simp; try with_reducible rfl)
    (try simp only [Act.put, List.getElem_toArray, List.getElem_cons_zero, List.getElem_cons_succ, List.setIfInBounds_toArray, List.set_cons_zero, List.set_cons_succ])
    refine wpAnyH_take (i := 2) (v := ?_) rfl (by kernel_rfl) (by kernel_rfl) (by kernel_rfl) (fun _ _ _ h => h) (Or.inl ⟨by rfl, ?_⟩) (by assumption) ?_
    rotate_left
    · (intro w hSw; (try dsimp only at hSw); go_simp; try with_reducible rfl)
    (try simp only [Act.put, List.getElem_toArray, List.getElem_cons_zero, List.getElem_cons_succ, List.setIfInBounds_toArray, List.set_cons_zero, List.set_cons_succ])
    refine wpAnyH_take (i := 4) (v := ?_) rfl (by kernel_rfl) (by kernel_rfl) (by kernel_rfl) (fun _ _ _ h => h) (Or.inl ⟨by rfl, ?_⟩) (by assumption) ?_
    rotate_left
    · (intro w hSw; (try dsimp only at hSw); go_simp; try with_reducible rfl)
    (try simp only [Act.put, List.getElem_toArray, List.getElem_cons_zero, List.getElem_cons_succ, List.setIfInBounds_toArray, List.set_cons_zero, List.set_cons_succ])
    refine wpAnyH_take (i := 7) (v := ?_) rfl (by kernel_rfl) (by kernel_rfl) (by kernel_rfl) (fun _ _ _ h => h) (Or.inl ⟨by rfl, ?_⟩) (by assumption) ?_
    rotate_left
    · (intro w hSw; (try dsimp only at hSw); go_simp; try with_reducible rfl)
    (try simp only [Act.put, List.getElem_toArray, List.getElem_cons_zero, List.getElem_cons_succ, List.setIfInBounds_toArray, List.set_cons_zero, List.set_cons_succ])
    refine wpAnyH_take (i := 8) (v := ?_) rfl (by kernel_rfl) (by kernel_rfl) (by kernel_rfl) (fun _ _ _ h => h) (Or.inl ⟨by rfl, ?_⟩) (by assumption) ?_
    rotate_left
    · (intro w hSw; (try dsimp only at hSw); go_simp; try with_reducible rfl)
    (try simp only [Act.put, List.getElem_toArray, List.getElem_cons_zero, List.getElem_cons_succ, List.setIfInBounds_toArray, List.set_cons_zero, List.set_cons_succ])
    refine wpAnyH_take (i := 9) (v := ?_) rfl (by kernel_rfl) (by kernel_rfl) (by kernel_rfl) (fun _ _ _ h => h) (Or.inl ⟨by rfl, ?_⟩) (by assumption) ?_
    rotate_left
    · (intro w hSw; (try dsimp only at hSw); go_simp; try with_reducible rfl)
    (try simp only [Act.put, List.getElem_toArray, List.getElem_cons_zero, List.getElem_cons_succ, List.setIfInBounds_toArray, List.set_cons_zero, List.set_cons_succ])
    refine wpAnyH_ready (rs := [3]) (by kernel_rfl) (by simp) ?_
    refine AllReadyH.cons rfl (fun K hK => ?_) AllReadyH.nil
    go_simp
    refine (HP.out _).mono ?_
    rintro e wn ⟨a5, c5, rfl, i5, _, fy⟩
    have hsz := fz.out.size
    have fz := hide (fz.out.trans fy)
    have I5 := hide i5; clear i5 fy
    clear hsz
    (try go_wp2_with fail)
    refine hK.out _ _ ?_ (fun hHeld => ?_)
    · (try dsimp only)
      exact hide (fW.trans fz.out)
    clear hK K
    (try simp only [Act.put, List.getElem_toArray, List.getElem_cons_zero, List.getElem_cons_succ, List.setIfInBounds_toArray, List.set_cons_zero, List.set_cons_succ])
    refine wpAnyH_ready (rs := [5]) (by kernel_rfl) (by simp) ?_
    refine AllReadyH.cons rfl (fun K hK => ?_) AllReadyH.nil
    go_simp
    refine (HT.out _).mono ?_
    rintro e wn ⟨a6, c6, rfl, i6, fy⟩
    have hsz := fz.out.size
    have fz := hide (fz.out.trans fy)
    have I5 := hide (IsNat.fr I5.out fy); have I6 := hide i6; clear i6 fy
    clear hsz
    (try go_wp2_with fail)
    refine hK.out _ _ ?_ (fun hHeld => ?_)
    · (try dsimp only)
      exact hide (fW.trans fz.out)
    clear hK K
    (try simp only [Act.put, List.getElem_toArray, List.getElem_cons_zero, List.getElem_cons_succ, List.setIfInBounds_toArray, List.set_cons_zero, List.set_cons_succ])
    refine wpAnyH_ready (rs := [6]) (by kernel_rfl) (by simp) ?_
    refine AllReadyH.cons rfl (fun K hK => ?_) AllReadyH.nil
    go_simp
    refine (mul_any _ _ Y T _ I5.out I6.out (Nat.le_trans HNY.out (by omega)) (Nat.le_trans HNT.out (by omega))).mono ?_
    rintro e wn ⟨a7, c7, rfl, i7, _, fy⟩
    have hsz := fz.out.size
    have fz := hide (fz.out.trans fy)
    have I7 := hide i7; clear i7 fy I5 I6
    clear hsz
    (try go_wp2_with fail)
    refine hK.out _ _ ?_ (fun hHeld => ?_)
    · (try dsimp only)
      exact hide (fW.trans fz.out)
    clear hK K
    (try simp only [Act.put, List.getElem_toArray, List.getElem_cons_zero, List.getElem_cons_succ, List.setIfInBounds_toArray, List.set_cons_zero, List.set_cons_succ])
    refine wpAnyH_ready (rs := [10]) (by kernel_rfl) (by simp) ?_
    refine AllReadyH.cons rfl (fun K hK => ?_) AllReadyH.nil
    go_simp
    refine (HQ.out _).mono ?_
    rintro e wn ⟨a8, c8, rfl, i8, _, fy⟩
    have hsz := fz.out.size
    have fz := hide (fz.out.trans fy)
    have I7 := hide (IsNat.fr I7.out fy); have I8 := hide i8; clear i8 fy
    clear hsz
    (try go_wp2_with fail)
    refine hK.out _ _ ?_ (fun hHeld => ?_)
    · (try dsimp only)
      exact hide (fW.trans fz.out)
    clear hK K
    (try simp only [Act.put, List.getElem_toArray, List.getElem_cons_zero, List.getElem_cons_succ, List.setIfInBounds_toArray, List.set_cons_zero, List.set_cons_succ])
    refine wpAnyH_ready (rs := [11]) (by kernel_rfl) (by simp) ?_
    refine AllReadyH.cons rfl (fun K hK => ?_) AllReadyH.nil
    go_simp
    refine (add_any _ _ (Y * T) Z _ I7.out I8.out (Nat.le_trans HNYT.out (by omega)) (Nat.le_trans HNZ.out (by omega))).mono ?_
    rintro e wn ⟨a9, c9, rfl, i9, l9, fy⟩
    have hsz := fz.out.size
    have fz := hide (fz.out.trans fy)
    rw [HXX.out] at i9 ⊢
    have I9 := hide i9
    have L9 : Hid (∀ g off s, a9 = some ⟨g, off, s⟩ → w.heap.size < g) := fun g off s e => by have := l9 g off s e; omega
    have z4 := fr_free fz.out c4 z4
    have c4 := fr_cell fz.out c4
    clear i9 fy I7 I8 hsz l9
    (try go_wp2_with fail)
    refine hK.out _ _ ?_ (fun hHeld => ?_)
    · (try dsimp only)
      exact hide (fW.trans fz.out)
    clear hK K
    (try simp only [Act.put, List.getElem_toArray, List.getElem_cons_zero, List.getElem_cons_succ, List.setIfInBounds_toArray, List.set_cons_zero, List.set_cons_succ])
    refine wpAnyH_ready (rs := [12]) (by kernel_rfl) (by simp) ?_
    refine AllReadyH.cons rfl (fun K hK => ?_) AllReadyH.nil
    go_simp
    (try go_wp2_with fail)
    refine hK.out _ _ ?_ (fun hHeld => ?_)
    · (try dsimp only)
      exact hide (Below.setCell (fW.trans fz.out) (by simp) _)
    clear hK K
    (try simp only [Act.put, List.getElem_toArray, List.getElem_cons_zero, List.getElem_cons_succ, List.setIfInBounds_toArray, List.set_cons_zero, List.set_cons_succ])
    refine wpAnyH_done (by kernel_rfl) ?_ _
    go_wp2_with fail
    (try simp only [Exit.inBlock, Exit.then])
    refine bodyPost_ret (results_nat rfl _ _ w.heap.size (.slice a9 (nlen 4294967296 X) c9) rfl ?_) rfl ?_
    · exact World.cell?_setCell_same _ _ _ c4
    · refine ⟨_, _, rfl, ?_, fun g off s e => ?_, ?_⟩
      · exact IsNat.put I9.out _ _ (fun g off s e => by have := L9.out g off s e; simp; omega)
      · have := L9.out g off s e; omega
      · exact Below.setCell (fW.trans fz.out) (by simp) _

theorem number_any (s : ByteArray) (w : World) (h5 : s.size ≤ 100000) (hA : AllD s.data.toList) :
    Calls Tryd.prog 36 #[.string s] w fun e w' => ∃ a c, e = .returned (.agg #[.slice a (nlen 4294967296 (valD s.data.toList)) c]) ∧ Res w w' a c (valD s.data.toList) := by
  have h : ∀ m : Nat, ∀ (s : ByteArray) (w : World), s.size < m → s.size ≤ 100000 → AllD s.data.toList →
    Calls Tryd.prog 36 #[.string s] w fun e w' => ∃ a c, e = .returned (.agg #[.slice a (nlen 4294967296 (valD s.data.toList)) c]) ∧ Res w w' a c (valD s.data.toList) := by
    intro m
    induction m with
    | zero => intro s w h; omega
    | succ m ih => intro s w h h5 hA; exact number_step m ih s w (by omega) h5 hA
  exact h _ s w (Nat.lt_succ_self _) h5 hA
end Go.Proofs.YtkdiniboponphaaDoor
