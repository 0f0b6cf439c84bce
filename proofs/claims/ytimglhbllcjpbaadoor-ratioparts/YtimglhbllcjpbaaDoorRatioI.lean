/- What the laws take: of, same. -/
import Derived.Test.YtimglhbllcjpbaaDoorRatioH
namespace Go.Proofs.YtimglhbllcjpbaaDoor
set_option linter.unusedVariables false
set_option linter.unusedSimpArgs false
open Go.RowKit

attribute [local go_sem] World.cell?_alloc_some
theorem Slot2.other2 {W0 W1 w : World} {b b' : Nat} {u v u' v' : Value} (h : Slot2 W0 w b u v) (k : Slot2 W1 w b' u' v') (hne : b' ≠ b) (a : Option Addr) (n c : Nat) (a' : Option Addr) (n' c' : Nat) : Slot2 W0 ((w.setCell ⟨b', 0, none⟩ (.slice a n c)).setCell ⟨b', 1, none⟩ (.slice a' n' c')) b u v := by
  have e1 : (w.setCell ⟨b', 0, none⟩ (.slice a n c)).cell? ⟨b', 1, none⟩ = some v' := (World.cell?_setCell_other _ _ _ _ (fun e => by injection e with _ e; omega)).trans k.2.1
  exact ⟨(World.cell?_setCell_other _ _ _ _ (fun e => hne (by injection e))).trans ((World.cell?_setCell_other _ _ _ _ (fun e => hne (by injection e))).trans h.1), (World.cell?_setCell_other _ _ _ _ (fun e => hne (by injection e))).trans ((World.cell?_setCell_other _ _ _ _ (fun e => hne (by injection e))).trans h.2.1), fun o => by simpa using h.2.2.1 o, (h.2.2.2.1.put k.1 _ _ _).put e1 _ _ _, h.2.2.2.2⟩
theorem results_of {fn : Func} {p p' u : Tmp} (h : fn.results = #[.cell p 26, .cell p' 29, .tmp u]) (tmps : Array Value) (w : World) (b b' : Nat) (v0 v1 v2 v3 : Value) (hp : tmps.getD p undef = .pointer (some ⟨b, 0, none⟩)) (hp' : tmps.getD p' undef = .pointer (some ⟨b', 0, none⟩)) (hc : w.cell? ⟨b, 0, none⟩ = some v0) (hc1 : w.cell? ⟨b, 1, none⟩ = some v1) (hc2 : w.cell? ⟨b', 0, none⟩ = some v2) (hc3 : w.cell? ⟨b', 1, none⟩ = some v3) :
    (results fn tmps).run Tryd.prog w = .ok (.tuple #[.agg #[v0, v1], .agg #[v2, v3], tmps.getD u undef]) w := by
  have hp1 : tmps[p]?.getD undef = .pointer (some ⟨b, 0, none⟩) := by simpa using hp
  have hp2 : tmps[p']?.getD undef = .pointer (some ⟨b', 0, none⟩) := by simpa using hp'
  simp [results, h, hp1, hp2]
  go_simp
theorem ofR_any (va vb : Value) (x y : Nat) (w : World) (hT : Tab w) (ha : IsNat w va x) (hb : IsNat w vb y) (hx : nlen 4294967296 x ≤ 1000000) (hy : nlen 4294967296 y ≤ 1000000) :
    Calls Tryd.prog 24 #[va, vb] w fun e w' => ∃ u1 u2 u3 u4 u5 u6, e = .returned (.tuple #[.agg #[.slice u1 u2 u3, .slice u4 u5 u6], .bool (decide (y ≠ 0))]) ∧ (y ≠ 0 → IsRat w' (.agg #[.slice u1 u2 u3, .slice u4 u5 u6]) x y) ∧ Fr w w' := by
  by_cases c : y = 0
  · subst c
    refine (ofR_no va vb x w ha hb).mono ?_
    rintro e w' ⟨rfl, f⟩
    exact ⟨_, _, _, _, _, _, rfl, fun h => absurd rfl h, f⟩
  · refine (ofR_yes va vb x y w hT ha hb hx hy c).mono ?_
    rintro e w' ⟨v, rfl, h, f⟩
    obtain ⟨u1, u2, u3, u4, u5, u6, rfl⟩ := h.form
    exact ⟨_, _, _, _, _, _, by rw [decide_eq_true c], fun _ => h, f⟩

set_option maxHeartbeats 2000000 in
set_option maxRecDepth 4000 in
theorem ofL_any (va vb : Value) (x y : Nat) (w : World) (hT : Tab w) (ha : Arg w va x) (hb : Arg w vb y) :
    Calls Tryd.prog 7 #[va, vb] w fun e w' => ∃ u1 u2 u3 u4 u5 u6 t1 t2 t3 t4 t5 t6, e = .returned (.tuple #[.agg #[.slice u1 u2 u3, .slice u4 u5 u6], .agg #[.slice t1 t2 t3, .slice t4 t5 t6], .bool (decide (y ≠ 0))]) ∧ (y ≠ 0 → IsRat w' (.agg #[.slice u1 u2 u3, .slice u4 u5 u6]) x y) ∧ IsFrac w' (.agg #[.slice t1 t2 t3, .slice t4 t5 t6]) x y ∧ Fr w w' := by
  have HT := hide hT
  have nx := ha.nl
  have ny := hb.nl
  obtain ⟨a, k, c, hk, hx, cx, kc, c1, an, FX⟩ := arg_few ha
  obtain ⟨a', k', c', hk', hy, cy, kc', c1', an', FY⟩ := arg_few hb
  have MX : Hid (∀ wz, Fr w wz → Calls Tryd.prog 30 #[.slice a k c] wz fun e w' => ∃ a' c', e = .returned (.agg #[.slice a' (nlen 4294967296 x) c']) ∧ IsNat w' (.agg #[.slice a' (nlen 4294967296 x) c']) x ∧ Fr wz w') := fun wz f => madec_any wz hk hx (cx.fr f)
  have MY : Hid (∀ wz, Fr w wz → Calls Tryd.prog 30 #[.slice a' k' c'] wz fun e w' => ∃ a' c', e = .returned (.agg #[.slice a' (nlen 4294967296 y) c']) ∧ IsNat w' (.agg #[.slice a' (nlen 4294967296 y) c']) y ∧ Fr wz w') := fun wz f => madec_any wz hk' hy (cy.fr f)
  have RX : Hid (∀ wz, Fr w wz → Calls Tryd.prog 31 #[.slice a k c] wz fun e w' => ∃ v, e = .returned v ∧ IsDec w' v x ∧ Fr wz w') := fun wz f => refMade_any x k c a wz hx (by omega) (cx.fr f)
  have RY : Hid (∀ wz, Fr w wz → Calls Tryd.prog 31 #[.slice a' k' c'] wz fun e w' => ∃ v, e = .returned v ∧ IsDec w' v y ∧ Fr wz w') := fun wz f => refMade_any y k' c' a' wz hy (by omega) (cy.fr f)
  have FX := hide FX
  have FY := hide FY
  obtain ⟨B, hB⟩ : ∃ B, decide (y ≠ 0) = B := ⟨_, rfl⟩
  rw [hB]
  have HB := hide hB
  clear hB hT ha hb hx cx hy cy an an'
  go_enter Tryd.func7, Tryd.ntmps7
  go_wp2_with fail
  obtain ⟨W, hW⟩ : ∃ W, W = ((w.alloc (Obj.cells #[Value.slice none 0 0, Value.slice none 0 0] 26)).alloc (Obj.cells #[Value.slice none 0 0, Value.slice none 0 0] 29)) := ⟨_, rfl⟩
  have fW : Fr w W := by rw [hW]; exact ((Fr.alloc w (Obj.cells #[Value.slice none 0 0, Value.slice none 0 0] 26)).trans (Fr.alloc _ (Obj.cells #[Value.slice none 0 0, Value.slice none 0 0] 29)))
  have s4 : Slot2 w W (w.heap.size) (.slice none 0 0) (.slice none 0 0) := by
    rw [hW]; simpa using (Slot2.new (Fr.refl w) none 0 0 none 0 0 26).fr (Fr.alloc _ _)
  have s5 : Slot2 w W (w.heap.size + 1) (.slice none 0 0) (.slice none 0 0) := by
    rw [hW]; simpa using Slot2.new (Fr.alloc w (Obj.cells #[Value.slice none 0 0, Value.slice none 0 0] 26)) none 0 0 none 0 0 29
  rw [← hW]
  clear hW
  have S4 := hide s4
  have S5 := hide s5
  have FW := hide fW
  clear s4 s5 fW
  refine (FX.out _).mono ?_
  rintro e w' ⟨rfl, rfl⟩
  go_wp2_with fail
  refine (MX.out _ FW.out).mono ?_
  rintro e w1 ⟨ax, cx, rfl, ix, f1⟩
  have S4 := hide (S4.out.fr f1)
  have S5 := hide (S5.out.fr f1)
  have FW := hide (FW.out.trans f1)
  have IX := hide ix
  clear ix f1
  go_wp2_with fail
  refine (FY.out _).mono ?_
  rintro e w' ⟨rfl, rfl⟩
  go_wp2_with fail
  refine (MY.out _ FW.out).mono ?_
  rintro e w2 ⟨ay, cy, rfl, iy, f2⟩
  have S4 := hide (S4.out.fr f2)
  have S5 := hide (S5.out.fr f2)
  have IX := hide (IX.out.fr f2)
  have FW := hide (FW.out.trans f2)
  have IY := hide iy
  clear iy f2
  go_wp2_with fail
  refine (ofR_any _ _ x y _ (Tab.fr HT.out FW.out) IX.out IY.out (by omega) (by omega)).mono ?_
  rintro e w3 ⟨u1, u2, u3, u4, u5, u6, rfl, rv, f3⟩
  rw [HB.out]
  have S4 := hide (S4.out.fr f3)
  have S5 := hide (S5.out.fr f3)
  have FW := hide (FW.out.trans f3)
  have RV := hide rv
  have l3 := cell_lt S5.out.1
  simp only [] at l3
  clear rv f3 IX IY MX MY
  go_wp2_with fail
  obtain ⟨W3, hW3⟩ : ∃ W, W = (w3.alloc (Obj.cells #[Value.slice u1 u2 u3, Value.slice u4 u5 u6] 26)) := ⟨_, rfl⟩
  have f3 : Fr w3 W3 := by rw [hW3]; exact (Fr.alloc w3 (Obj.cells #[Value.slice u1 u2 u3, Value.slice u4 u5 u6] 26))
  have s7 : Slot2 w3 W3 (w3.heap.size) (.slice u1 u2 u3) (.slice u4 u5 u6) := by
    rw [hW3]; simpa using Slot2.new (Fr.refl w3) u1 u2 u3 u4 u5 u6 26
  rw [← hW3]
  clear hW3
  have S7 := hide s7
  have RV := hide (fun h => (RV.out h).fr f3)
  have S4 := hide (S4.out.fr f3)
  have S5 := hide (S5.out.fr f3)
  have FW := hide (FW.out.trans f3)
  clear s7 f3
  have S4 := hide (S4.out.fr (Fr.drew _))
  have S5 := hide (S5.out.fr (Fr.drew _))
  have S7 := hide (S7.out.fr (Fr.drew _))
  have FW := hide (FW.out.trans (Fr.drew _))
  have RV := hide (fun h => (RV.out h).fr (Fr.drew _))
  have q7 := S7.out.1
  have q7' := S7.out.2.1
  go_wp2_with fail
  refine wp_region_held_drew (S := (fun w' => w'.cell? ⟨w3.heap.size, 0, none⟩ = some (.slice u1 u2 u3) ∧ w'.cell? ⟨w3.heap.size, 1, none⟩ = some (.slice u4 u5 u6))) (by kernel_rfl) ?_ (fun hHeld => ?_)
  · exact ⟨S7.out.1, S7.out.2.1⟩
  obtain ⟨wd, hwd⟩ : ∃ wd, wd = W3.drew := ⟨_, rfl⟩
  rw [← hwd] at hHeld S4 S5 S7 RV FW ⊢
  clear hwd
  refine wpAnyH_take (i := 0) (v := ?_) rfl (by kernel_rfl) (by kernel_rfl) (by kernel_rfl) (fun _ _ _ h => h) (Or.inl ⟨by rfl, ?_⟩) (by assumption) ?_
  rotate_left
  · (intro w hSw; (try dsimp only at hSw); go_simp; try with_reducible rfl)
  (try simp only [Act.put, List.getElem_toArray, List.getElem_cons_zero, List.getElem_cons_succ, List.setIfInBounds_toArray, List.set_cons_zero, List.set_cons_succ])
  refine wpAnyH_take (i := 1) (v := ?_) rfl (by kernel_rfl) (by kernel_rfl) (by kernel_rfl) (fun _ _ _ h => h) (Or.inl ⟨by rfl, ?_⟩) (by assumption) ?_
  rotate_left
  · (intro w hSw; (try dsimp only at hSw); go_simp; try with_reducible rfl)
  (try simp only [Act.put, List.getElem_toArray, List.getElem_cons_zero, List.getElem_cons_succ, List.setIfInBounds_toArray, List.set_cons_zero, List.set_cons_succ])
  refine wpAnyH_take (i := 4) (v := ?_) rfl (by kernel_rfl) (by kernel_rfl) (by kernel_rfl) (fun _ _ _ h => h) (Or.inl ⟨by rfl, ?_⟩) (by assumption) ?_
  rotate_left
  · (intro w hSw; (try dsimp only at hSw); go_simp; try with_reducible rfl)
  (try simp only [Act.put, List.getElem_toArray, List.getElem_cons_zero, List.getElem_cons_succ, List.setIfInBounds_toArray, List.set_cons_zero, List.set_cons_succ])
  refine wpAnyH_take (i := 8) (v := ?_) rfl (by kernel_rfl) (by kernel_rfl) (by kernel_rfl) (fun _ _ _ h => h) (Or.inl ⟨by rfl, ?_⟩) (by assumption) ?_
  rotate_left
  · (intro w hSw; (try dsimp only at hSw); go_simp; try with_reducible rfl)
  (try simp only [Act.put, List.getElem_toArray, List.getElem_cons_zero, List.getElem_cons_succ, List.setIfInBounds_toArray, List.set_cons_zero, List.set_cons_succ])
  refine wpAnyH_ready (rs := [2]) (by kernel_rfl) (by simp) ?_
  refine AllReadyH.cons rfl (fun K hK => ?_) AllReadyH.nil
  go_simp
  refine (FX.out _).mono ?_
  rintro e w' ⟨rfl, rfl⟩
  (try go_wp2_with fail)
  refine hK.out _ _ ?_ (fun hHeld => ?_)
  · (try dsimp only)
    exact ⟨S7.out.1, S7.out.2.1⟩
  clear hK K
  (try simp only [Act.put, List.getElem_toArray, List.getElem_cons_zero, List.getElem_cons_succ, List.setIfInBounds_toArray, List.set_cons_zero, List.set_cons_succ])
  refine wpAnyH_ready (rs := [3]) (by kernel_rfl) (by simp) ?_
  refine AllReadyH.cons rfl (fun K hK => ?_) AllReadyH.nil
  go_simp
  refine (RX.out _ FW.out).mono ?_
  rintro e wa ⟨va, rfl, iy, fy⟩
  obtain ⟨t1, t2, t3, rfl⟩ := iy.form
  have IA := hide iy
  have RV := hide (fun h => (RV.out h).fr fy)
  have S4 := hide (S4.out.fr fy)
  have S5 := hide (S5.out.fr fy)
  have S7 := hide (S7.out.fr fy)
  have FW := hide (FW.out.trans fy)
  clear iy fy
  (try go_wp2_with fail)
  refine hK.out _ _ ?_ (fun hHeld => ?_)
  · (try dsimp only)
    exact ⟨S7.out.1, S7.out.2.1⟩
  clear hK K
  (try simp only [Act.put, List.getElem_toArray, List.getElem_cons_zero, List.getElem_cons_succ, List.setIfInBounds_toArray, List.set_cons_zero, List.set_cons_succ])
  refine wpAnyH_ready (rs := [5]) (by kernel_rfl) (by simp) ?_
  refine AllReadyH.cons rfl (fun K hK => ?_) AllReadyH.nil
  go_simp
  refine (FY.out _).mono ?_
  rintro e w' ⟨rfl, rfl⟩
  (try go_wp2_with fail)
  refine hK.out _ _ ?_ (fun hHeld => ?_)
  · (try dsimp only)
    exact ⟨S7.out.1, S7.out.2.1⟩
  clear hK K
  (try simp only [Act.put, List.getElem_toArray, List.getElem_cons_zero, List.getElem_cons_succ, List.setIfInBounds_toArray, List.set_cons_zero, List.set_cons_succ])
  refine wpAnyH_ready (rs := [6]) (by kernel_rfl) (by simp) ?_
  refine AllReadyH.cons rfl (fun K hK => ?_) AllReadyH.nil
  go_simp
  refine (RY.out _ FW.out).mono ?_
  rintro e wb ⟨vb, rfl, iy, fy⟩
  obtain ⟨t4, t5, t6, rfl⟩ := iy.form
  have IB := hide iy
  have RV := hide (fun h => (RV.out h).fr fy)
  have IA := hide (IA.out.fr fy)
  have S4 := hide (S4.out.fr fy)
  have S5 := hide (S5.out.fr fy)
  have S7 := hide (S7.out.fr fy)
  have FW := hide (FW.out.trans fy)
  clear iy fy
  (try go_wp2_with fail)
  refine hK.out _ _ ?_ (fun hHeld => ?_)
  · (try dsimp only)
    exact ⟨S7.out.1, S7.out.2.1⟩
  clear hK K
  (try simp only [Act.put, List.getElem_toArray, List.getElem_cons_zero, List.getElem_cons_succ, List.setIfInBounds_toArray, List.set_cons_zero, List.set_cons_succ])
  refine wpAnyH_take (i := 7) (v := ?_) rfl (by kernel_rfl) (by kernel_rfl) (by kernel_rfl) (fun _ _ _ h => h) (Or.inl ⟨by rfl, ?_⟩) (by assumption) ?_
  rotate_left
  · (intro w hSw; (try dsimp only at hSw); go_simp; try with_reducible rfl)
  (try simp only [Act.put, List.getElem_toArray, List.getElem_cons_zero, List.getElem_cons_succ, List.setIfInBounds_toArray, List.set_cons_zero, List.set_cons_succ])
  refine wpAnyH_ready (rs := [9]) (by kernel_rfl) (by simp) ?_
  refine AllReadyH.cons rfl (fun K hK => ?_) AllReadyH.nil
  have q_ := S4.out.1
  have q2_ := S4.out.2.1
  have z_ := S4.out.2.2.1 0
  have z2_ := S4.out.2.2.1 1
  have S5 := hide (S5.out.other2 S4.out (by omega) u1 u2 u3 u4 u5 u6)
  have S7 := hide (S7.out.other2 S4.out (by omega) u1 u2 u3 u4 u5 u6)
  have IA := hide (S4.out.dec IA.out u1 u2 u3 (.slice u4 u5 u6))
  have IB := hide (S4.out.dec IB.out u1 u2 u3 (.slice u4 u5 u6))
  have RV := hide (fun h => S4.out.rat (RV.out h) u1 u2 u3 (.slice u4 u5 u6))
  have FW := hide (S4.out.set_fr FW.out (.slice u1 u2 u3) (.slice u4 u5 u6))
  have S4 := hide (S4.out.set u1 u2 u3 u4 u5 u6)
  go_simp
  (try go_wp2_with fail)
  refine hK.out _ _ ?_ (fun hHeld => ?_)
  · (try dsimp only)
    exact ⟨S7.out.1, S7.out.2.1⟩
  clear hK K
  (try simp only [Act.put, List.getElem_toArray, List.getElem_cons_zero, List.getElem_cons_succ, List.setIfInBounds_toArray, List.set_cons_zero, List.set_cons_succ])
  refine wpAnyH_ready (rs := [10]) (by kernel_rfl) (by simp) ?_
  refine AllReadyH.cons rfl (fun K hK => ?_) AllReadyH.nil
  obtain ⟨V1, hV1⟩ : ∃ V, V = (wb.setCell ⟨w.heap.size, 0, none⟩ (.slice u1 u2 u3)).setCell ⟨w.heap.size, 1, none⟩ (.slice u4 u5 u6) := ⟨_, rfl⟩
  rw [← hV1] at hHeld S4 S5 S7 IA IB RV FW ⊢
  clear hV1
  have q_ := S5.out.1
  have q2_ := S5.out.2.1
  have z_ := S5.out.2.2.1 0
  have z2_ := S5.out.2.2.1 1
  have S4 := hide (S4.out.other2 S5.out (by omega) t1 t2 t3 t4 t5 t6)
  have S7 := hide (S7.out.other2 S5.out (by omega) t1 t2 t3 t4 t5 t6)
  have IA := hide (S5.out.dec IA.out t1 t2 t3 (.slice t4 t5 t6))
  have IB := hide (S5.out.dec IB.out t1 t2 t3 (.slice t4 t5 t6))
  have RV := hide (fun h => S5.out.rat (RV.out h) t1 t2 t3 (.slice t4 t5 t6))
  have FW := hide (S5.out.set_fr FW.out (.slice t1 t2 t3) (.slice t4 t5 t6))
  have S5 := hide (S5.out.set t1 t2 t3 t4 t5 t6)
  go_simp
  (try go_wp2_with fail)
  refine hK.out _ _ ?_ (fun hHeld => ?_)
  · (try dsimp only)
    exact ⟨S7.out.1, S7.out.2.1⟩
  clear hK K
  (try simp only [Act.put, List.getElem_toArray, List.getElem_cons_zero, List.getElem_cons_succ, List.setIfInBounds_toArray, List.set_cons_zero, List.set_cons_succ])
  refine wpAnyH_take (i := 11) (v := ?_) rfl (by kernel_rfl) (by kernel_rfl) (by kernel_rfl) (fun _ _ _ h => h) (Or.inl ⟨by rfl, ?_⟩) (by assumption) ?_
  rotate_left
  · (intro w hSw; (try dsimp only at hSw); go_simp; try with_reducible rfl)
  (try simp only [Act.put, List.getElem_toArray, List.getElem_cons_zero, List.getElem_cons_succ, List.setIfInBounds_toArray, List.set_cons_zero, List.set_cons_succ])
  refine wpAnyH_done (by kernel_rfl) ?_ _
  go_wp2_with fail
  exact bodyPost_ret (results_of rfl _ _ w.heap.size (w.heap.size + 1) _ _ _ _ rfl rfl S4.out.1 S4.out.2.1 S5.out.1 S5.out.2.1) rfl ⟨_, _, _, _, _, _, _, _, _, _, _, _, rfl, RV.out, ⟨_, _, _, _, _, _, rfl, IA.out, IB.out⟩, FW.out⟩

theorem same_eq {n d X Y : Nat} (h : d ≠ 0) (e : n * Y = X * d) : rN n d * Y = X * rD n d := by
  have hg := gcd_pos_right (n := n) h
  have a1 := @rN_mul n d
  have a2 := @rD_mul n d
  generalize Nat.gcd n d = G at *
  generalize rN n d = P at *
  generalize rD n d = Q at *
  subst a1 a2
  refine Nat.eq_of_mul_eq_mul_right hg ?_
  calc P * Y * G = P * G * Y := by ac_rfl
    _ = X * (Q * G) := e
    _ = X * Q * G := by ac_rfl

set_option maxHeartbeats 2000000 in
set_option maxRecDepth 4000 in
theorem same_yes (va vb : Value) (n d X Y : Nat) (w : World) (ha : IsRat w va n d) (hb : IsFrac w vb X Y) (h1 : nlen 4294967296 n ≤ 1000) (h2 : nlen 4294967296 d ≤ 1000) (h3 : nlen 10 X ≤ 100000) (h4 : nlen 10 Y ≤ 100000) (he : n * Y = X * d) :
    Calls Tryd.prog 11 #[va, vb] w fun e w' => e = .returned (.bool true) ∧ Fr w w' := by
  have HA := hide ha
  have HF := hide hb
  obtain ⟨a, N, ca, b, M, cb, rfl⟩ := ha.form
  obtain ⟨a', n', c', b', m', k', rfl, _, _⟩ := hb
  have hd := ha.1
  have np : nlen 4294967296 (rN n d) ≤ 1000 := nl_le h1 (rN_le _ _)
  have nq : nlen 4294967296 (rD n d) ≤ 1000 := nl_le h2 (rD_le _ _)
  have mp : nlen 10 (rN n d) ≤ 100000 := by have := nl10 (lt_of_nlen b32 np); omega
  have mq : nlen 10 (rD n d) ≤ 100000 := by have := nl10 (lt_of_nlen b32 nq); omega
  have hq0 := rD_pos (n := n) hd
  have hg := rgcd (n := n) hd
  have hc : cmpZ (rN n d * Y) (X * rD n d) = 0 := by rw [same_eq hd he]; unfold cmpZ; rw [if_neg (by omega), if_pos rfl]
  have TA : Hid (∀ wz, Fr w wz → Calls Tryd.prog 8 #[.agg #[.slice a N ca, .slice b M cb]] wz fun e w' => ∃ a c b k, e = .returned (.tuple #[.agg #[.slice a (nlen 4294967296 (rN n d)) c], .agg #[.slice b (nlen 4294967296 (rD n d)) k]]) ∧ IsNat w' (.agg #[.slice a (nlen 4294967296 (rN n d)) c]) (rN n d) ∧ IsNat w' (.agg #[.slice b (nlen 4294967296 (rD n d)) k]) (rD n d) ∧ Fr wz w') := fun wz f => terms_rat _ n d wz (HA.out.fr f) (by omega)
  generalize rN n d = p at *
  generalize rD n d = q at *
  have hb2 := nlen_pos (B := 2) (by omega) hq0
  obtain ⟨Z, hZ⟩ : ∃ Z : Int, (nlen 2 q : Int) = Z := ⟨_, rfl⟩
  have hz0 : 0 < Z := by omega
  have EZ := hide hZ
  have HC := hide hc
  have HG := hide hg
  clear HA ha h1 h2 he hb2 hZ hc hg
  go_enter Tryd.func11, Tryd.ntmps11
  go_wp2_with fail
  obtain ⟨W, hW⟩ : ∃ W, W = ((w.alloc (Obj.cells #[Value.slice a N ca, Value.slice b M cb] 26)).alloc (Obj.cells #[Value.slice a' n' c', Value.slice b' m' k'] 29)) := ⟨_, rfl⟩
  have fW : Fr w W := by rw [hW]; exact ((Fr.alloc w (Obj.cells #[Value.slice a N ca, Value.slice b M cb] 26)).trans (Fr.alloc _ (Obj.cells #[Value.slice a' n' c', Value.slice b' m' k'] 29)))
  have s3 : Slot2 w W (w.heap.size + 1) (.slice a' n' c') (.slice b' m' k') := by
    rw [hW]; simpa using Slot2.new (Fr.alloc w (Obj.cells #[Value.slice a N ca, Value.slice b M cb] 26)) a' n' c' b' m' k' 29
  rw [← hW]
  clear hW
  refine (TA.out _ fW).mono ?_
  rintro e w1 ⟨ap, cp, aq, cq, rfl, ip, iq, f1⟩
  have S3 := hide (s3.fr f1)
  have FW := hide (fW.trans f1)
  have l1 := cell_lt S3.out.1
  simp only [] at l1
  clear s3 fW f1 TA
  go_wp2_with fail
  obtain ⟨W1, hW1⟩ : ∃ W, W = ((w1.alloc (Obj.cells #[Value.slice ap (nlen 4294967296 p) cp] 24)).alloc (Obj.cells #[Value.slice aq (nlen 4294967296 q) cq] 24)) := ⟨_, rfl⟩
  have f1 : Fr w1 W1 := by rw [hW1]; exact ((Fr.alloc w1 (Obj.cells #[Value.slice ap (nlen 4294967296 p) cp] 24)).trans (Fr.alloc _ (Obj.cells #[Value.slice aq (nlen 4294967296 q) cq] 24)))
  have s5 : Slot w1 W1 (w1.heap.size) (.slice ap (nlen 4294967296 p) cp) := by
    rw [hW1]; simpa using (Slot.new (Fr.refl w1) ap (nlen 4294967296 p) cp 24).fr (Fr.alloc _ _)
  have s6 : Slot w1 W1 (w1.heap.size + 1) (.slice aq (nlen 4294967296 q) cq) := by
    rw [hW1]; simpa using Slot.new (Fr.alloc w1 (Obj.cells #[Value.slice ap (nlen 4294967296 p) cp] 24)) aq (nlen 4294967296 q) cq 24
  rw [← hW1]
  clear hW1
  have S5 := hide s5
  have S6 := hide s6
  have IP := hide (ip.fr f1)
  have IQ := hide (iq.fr f1)
  have S3 := hide (S3.out.fr f1)
  have FW := hide (FW.out.trans f1)
  clear s5 s6 f1 ip iq
  refine (gcd_any _ _ p q _ IP.out IQ.out (by omega) (by omega)).mono ?_
  rintro e w2 ⟨ag, cg, rfl, ig, f2⟩
  rw [HG.out] at ig ⊢
  have S3 := hide (S3.out.fr f2)
  have S5 := hide (S5.out.fr f2)
  have S6 := hide (S6.out.fr f2)
  have IP := hide (IP.out.fr f2)
  have IQ := hide (IQ.out.fr f2)
  have FW := hide (FW.out.trans f2)
  go_wp2_with fail
  refine (small_any _ 1 _ ig).mono ?_
  rintro e w3 ⟨rfl, f3⟩
  rw [if_pos (by omega), decide_eq_true (by omega)]
  have S3 := hide (S3.out.fr f3)
  have S5 := hide (S5.out.fr f3)
  have S6 := hide (S6.out.fr f3)
  have IP := hide (IP.out.fr f3)
  have IQ := hide (IQ.out.fr f3)
  have FW := hide (FW.out.trans f3)
  clear ig f2 f3
  have S3 := hide (S3.out.fr (Fr.drew _))
  have S5 := hide (S5.out.fr (Fr.drew _))
  have S6 := hide (S6.out.fr (Fr.drew _))
  have IP := hide (IP.out.fr (Fr.drew _))
  have IQ := hide (IQ.out.fr (Fr.drew _))
  have FW := hide (FW.out.trans (Fr.drew _))
  have HF := hide (HF.out.fr FW.out)
  have q3 := S3.out.1
  have q3' := S3.out.2.1
  have q5 := S5.out.1
  have q6 := S6.out.1
  go_wp2_with fail
  refine wp_region_held_drew (S := (fun w' => w'.cell? ⟨w.heap.size + 1, 0, none⟩ = some (.slice a' n' c') ∧ w'.cell? ⟨w.heap.size + 1, 1, none⟩ = some (.slice b' m' k') ∧ w'.cell? ⟨w1.heap.size, 0, none⟩ = some (.slice ap (nlen 4294967296 p) cp) ∧ w'.cell? ⟨w1.heap.size + 1, 0, none⟩ = some (.slice aq (nlen 4294967296 q) cq))) (by kernel_rfl) ?_ (fun hHeld => ?_)
  · exact ⟨S3.out.1, S3.out.2.1, S5.out.1, S6.out.1⟩
  obtain ⟨wd, hwd⟩ : ∃ wd, wd = w3.drew := ⟨_, rfl⟩
  rw [← hwd] at hHeld S3 S5 S6 HF IP IQ FW ⊢
  clear hwd
  refine wpAnyH_take (i := 0) (v := ?_) rfl (by kernel_rfl) (by kernel_rfl) (by kernel_rfl) (fun _ _ _ h => h) (Or.inl ⟨by rfl, ?_⟩) (by assumption) ?_
  rotate_left
  · (intro w hSw; (try dsimp only at hSw); go_simp; try with_reducible rfl)
  (try simp only [Act.put, List.getElem_toArray, List.getElem_cons_zero, List.getElem_cons_succ, List.setIfInBounds_toArray, List.set_cons_zero, List.set_cons_succ])
  refine wpAnyH_take (i := 1) (v := ?_) rfl (by kernel_rfl) (by kernel_rfl) (by kernel_rfl) (fun _ _ _ h => h) (Or.inl ⟨by rfl, ?_⟩) (by assumption) ?_
  rotate_left
  · (intro w hSw; (try dsimp only at hSw); go_simp; try with_reducible rfl)
  (try simp only [Act.put, List.getElem_toArray, List.getElem_cons_zero, List.getElem_cons_succ, List.setIfInBounds_toArray, List.set_cons_zero, List.set_cons_succ])
  refine wpAnyH_take (i := 2) (v := ?_) rfl (by kernel_rfl) (by kernel_rfl) (by kernel_rfl) (fun _ _ _ h => h) (Or.inl ⟨by rfl, ?_⟩) (by assumption) ?_
  rotate_left
  · (intro w hSw; (try dsimp only at hSw); go_simp; try with_reducible rfl)
  (try simp only [Act.put, List.getElem_toArray, List.getElem_cons_zero, List.getElem_cons_succ, List.setIfInBounds_toArray, List.set_cons_zero, List.set_cons_succ])
  refine wpAnyH_take (i := 3) (v := ?_) rfl (by kernel_rfl) (by kernel_rfl) (by kernel_rfl) (fun _ _ _ h => h) (Or.inl ⟨by rfl, ?_⟩) (by assumption) ?_
  rotate_left
  · (intro w hSw; (try dsimp only at hSw); go_simp; try with_reducible rfl)
  (try simp only [Act.put, List.getElem_toArray, List.getElem_cons_zero, List.getElem_cons_succ, List.setIfInBounds_toArray, List.set_cons_zero, List.set_cons_succ])
  refine wpAnyH_take (i := 4) (v := ?_) rfl (by kernel_rfl) (by kernel_rfl) (by kernel_rfl) (fun _ _ _ h => h) (Or.inl ⟨by rfl, ?_⟩) (by assumption) ?_
  rotate_left
  · (intro w hSw; (try dsimp only at hSw); go_simp; try with_reducible rfl)
  (try simp only [Act.put, List.getElem_toArray, List.getElem_cons_zero, List.getElem_cons_succ, List.setIfInBounds_toArray, List.set_cons_zero, List.set_cons_succ])
  refine wpAnyH_take (i := 5) (v := ?_) rfl (by kernel_rfl) (by kernel_rfl) (by kernel_rfl) (fun _ _ _ h => h) (Or.inl ⟨by rfl, ?_⟩) (by assumption) ?_
  rotate_left
  · (intro w hSw; (try dsimp only at hSw); go_simp; try with_reducible rfl)
  (try simp only [Act.put, List.getElem_toArray, List.getElem_cons_zero, List.getElem_cons_succ, List.setIfInBounds_toArray, List.set_cons_zero, List.set_cons_succ])
  refine wpAnyH_take (i := 6) (v := ?_) rfl (by kernel_rfl) (by kernel_rfl) (by kernel_rfl) (fun _ _ _ h => h) (Or.inl ⟨by rfl, ?_⟩) (by assumption) ?_
  rotate_left
  · (intro w hSw; (try dsimp only at hSw); go_simp; try with_reducible rfl)
  (try simp only [Act.put, List.getElem_toArray, List.getElem_cons_zero, List.getElem_cons_succ, List.setIfInBounds_toArray, List.set_cons_zero, List.set_cons_succ])
  refine wpAnyH_ready (rs := [7]) (by kernel_rfl) (by simp) ?_
  refine AllReadyH.cons rfl (fun K hK => ?_) AllReadyH.nil
  go_simp
  refine (bits_any _ q _ IQ.out (by omega)).mono ?_
  rintro e wa ⟨rfl, fy⟩
  rw [EZ.out]
  have S3 := hide (S3.out.fr fy)
  have S5 := hide (S5.out.fr fy)
  have S6 := hide (S6.out.fr fy)
  have HF := hide (HF.out.fr fy)
  have IP := hide (IP.out.fr fy)
  have IQ := hide (IQ.out.fr fy)
  have FW := hide (FW.out.trans fy)
  clear fy
  (try go_wp2_with fail)
  refine hK.out _ _ ?_ (fun hHeld => ?_)
  · (try dsimp only)
    exact ⟨S3.out.1, S3.out.2.1, S5.out.1, S6.out.1⟩
  clear hK K
  (try simp only [Act.put, List.getElem_toArray, List.getElem_cons_zero, List.getElem_cons_succ, List.setIfInBounds_toArray, List.set_cons_zero, List.set_cons_succ])
  refine wpAnyH_take (i := 8) (v := ?_) rfl (by kernel_rfl) (by kernel_rfl) (by kernel_rfl) (fun _ _ _ h => h) (Or.inl ⟨by rfl, ?_⟩) (by assumption) ?_
  rotate_left
  · (intro w hSw; (try dsimp only at hSw); go_simp; try with_reducible rfl)
  (try simp only [Act.put, List.getElem_toArray, List.getElem_cons_zero, List.getElem_cons_succ, List.setIfInBounds_toArray, List.set_cons_zero, List.set_cons_succ])
  refine wpAnyH_take (i := 9) (v := ?_) rfl (by kernel_rfl) (by kernel_rfl) (by kernel_rfl) (fun _ _ _ h => h) (Or.inl ⟨by rfl, ?_⟩) (by assumption) ?_
  rotate_left
  · (intro w hSw; (try dsimp only at hSw); go_simp; try with_reducible rfl)
  (try simp only [Act.put, List.getElem_toArray, List.getElem_cons_zero, List.getElem_cons_succ, List.setIfInBounds_toArray, List.set_cons_zero, List.set_cons_succ])
  refine wpAnyH_take (i := 10) (v := ?_) rfl (by kernel_rfl) (by kernel_rfl) (by kernel_rfl) (fun _ _ _ h => h) (Or.inl ⟨by rfl, ?_⟩) (by assumption) ?_
  rotate_left
  · (intro w hSw; (try dsimp only at hSw); go_simp; try with_reducible rfl)
  (try simp only [Act.put, List.getElem_toArray, List.getElem_cons_zero, List.getElem_cons_succ, List.setIfInBounds_toArray, List.set_cons_zero, List.set_cons_succ])
  refine wpAnyH_take (i := 11) (v := ?_) rfl (by kernel_rfl) (by kernel_rfl) (by kernel_rfl) (fun _ _ _ h => h) (Or.inl ⟨by rfl, ?_⟩) (by assumption) ?_
  rotate_left
  · (intro w hSw; (try dsimp only at hSw); go_simp; try with_reducible rfl)
  (try simp only [Act.put, List.getElem_toArray, List.getElem_cons_zero, List.getElem_cons_succ, List.setIfInBounds_toArray, List.set_cons_zero, List.set_cons_succ])
  refine wpAnyH_take (i := 13) (v := ?_) rfl (by kernel_rfl) (by kernel_rfl) (by kernel_rfl) (fun _ _ _ h => h) (Or.inl ⟨by rfl, ?_⟩) (by assumption) ?_
  rotate_left
  · (intro w hSw; (try dsimp only at hSw); go_simp; try with_reducible rfl)
  (try simp only [Act.put, List.getElem_toArray, List.getElem_cons_zero, List.getElem_cons_succ, List.setIfInBounds_toArray, List.set_cons_zero, List.set_cons_succ])
  refine wpAnyH_take (i := 16) (v := ?_) rfl (by kernel_rfl) (by kernel_rfl) (by kernel_rfl) (fun _ _ _ h => h) (Or.inl ⟨by rfl, ?_⟩) (by assumption) ?_
  rotate_left
  · (intro w hSw; (try dsimp only at hSw); go_simp; try with_reducible rfl)
  (try simp only [Act.put, List.getElem_toArray, List.getElem_cons_zero, List.getElem_cons_succ, List.setIfInBounds_toArray, List.set_cons_zero, List.set_cons_succ])
  refine wpAnyH_ready (rs := [12]) (by kernel_rfl) (by simp) ?_
  refine AllReadyH.cons rfl (fun K hK => ?_) AllReadyH.nil
  go_simp
  refine (digits_any _ p _ IP.out (by omega)).mono ?_
  rintro e wb ⟨vx, rfl, iy, fy⟩
  obtain ⟨x1, x2, x3, rfl⟩ := iy.form
  have IX := hide iy
  have S3 := hide (S3.out.fr fy)
  have S5 := hide (S5.out.fr fy)
  have S6 := hide (S6.out.fr fy)
  have HF := hide (HF.out.fr fy)
  have IQ := hide (IQ.out.fr fy)
  have FW := hide (FW.out.trans fy)
  clear fy iy
  (try go_wp2_with fail)
  refine hK.out _ _ ?_ (fun hHeld => ?_)
  · (try dsimp only)
    exact ⟨S3.out.1, S3.out.2.1, S5.out.1, S6.out.1⟩
  clear hK K
  (try simp only [Act.put, List.getElem_toArray, List.getElem_cons_zero, List.getElem_cons_succ, List.setIfInBounds_toArray, List.set_cons_zero, List.set_cons_succ])
  refine wpAnyH_ready (rs := [14]) (by kernel_rfl) (by simp) ?_
  refine AllReadyH.cons rfl (fun K hK => ?_) AllReadyH.nil
  go_simp
  refine (digits_any _ q _ IQ.out (by omega)).mono ?_
  rintro e wc ⟨vx, rfl, iy, fy⟩
  obtain ⟨y1, y2, y3, rfl⟩ := iy.form
  have IY := hide iy
  have S3 := hide (S3.out.fr fy)
  have S5 := hide (S5.out.fr fy)
  have S6 := hide (S6.out.fr fy)
  have HF := hide (HF.out.fr fy)
  have IX := hide (IX.out.fr fy)
  have FW := hide (FW.out.trans fy)
  clear fy iy
  (try go_wp2_with fail)
  refine hK.out _ _ ?_ (fun hHeld => ?_)
  · (try dsimp only)
    exact ⟨S3.out.1, S3.out.2.1, S5.out.1, S6.out.1⟩
  clear hK K
  (try simp only [Act.put, List.getElem_toArray, List.getElem_cons_zero, List.getElem_cons_succ, List.setIfInBounds_toArray, List.set_cons_zero, List.set_cons_succ])
  refine wpAnyH_take (i := 15) (v := ?_) rfl (by kernel_rfl) (by kernel_rfl) (by kernel_rfl) (fun _ _ _ h => h) (Or.inl ⟨by rfl, ?_⟩) (by assumption) ?_
  rotate_left
  · (intro w hSw; (try dsimp only at hSw); go_simp; try with_reducible rfl)
  (try simp only [Act.put, List.getElem_toArray, List.getElem_cons_zero, List.getElem_cons_succ, List.setIfInBounds_toArray, List.set_cons_zero, List.set_cons_succ])
  refine wpAnyH_ready (rs := [17]) (by kernel_rfl) (by simp) ?_
  refine AllReadyH.cons rfl (fun K hK => ?_) AllReadyH.nil
  go_simp
  refine (refCmp8 _ _ p q X Y _ ⟨_, _, _, _, _, _, rfl, IX.out, IY.out⟩ HF.out (by omega) (by omega) (by omega) (by omega)).mono ?_
  rintro e we ⟨rfl, fy⟩
  rw [HC.out]
  have S3 := hide (S3.out.fr fy)
  have S5 := hide (S5.out.fr fy)
  have S6 := hide (S6.out.fr fy)
  have HF := hide (HF.out.fr fy)
  have FW := hide (FW.out.trans fy)
  clear fy
  (try go_wp2_with fail)
  refine hK.out _ _ ?_ (fun hHeld => ?_)
  · (try dsimp only)
    exact ⟨S3.out.1, S3.out.2.1, S5.out.1, S6.out.1⟩
  clear hK K
  (try simp only [Act.put, List.getElem_toArray, List.getElem_cons_zero, List.getElem_cons_succ, List.setIfInBounds_toArray, List.set_cons_zero, List.set_cons_succ])
  refine wpAnyH_take (i := 18) (v := ?_) rfl (by kernel_rfl) (by kernel_rfl) (by kernel_rfl) (fun _ _ _ h => h) (Or.inl ⟨by rfl, ?_⟩) (by assumption) ?_
  rotate_left
  · (intro w hSw; (try dsimp only at hSw); go_simp; try with_reducible rfl)
  (try simp only [Act.put, List.getElem_toArray, List.getElem_cons_zero, List.getElem_cons_succ, List.setIfInBounds_toArray, List.set_cons_zero, List.set_cons_succ])
  refine wpAnyH_take (i := 19) (v := ?_) rfl (by kernel_rfl) (by kernel_rfl) (by kernel_rfl) (fun _ _ _ h => h) (Or.inl ⟨by rfl, ?_⟩) (by assumption) ?_
  rotate_left
  · (intro w hSw; (try dsimp only at hSw); go_simp; try with_reducible rfl)
  (try simp only [Act.put, List.getElem_toArray, List.getElem_cons_zero, List.getElem_cons_succ, List.setIfInBounds_toArray, List.set_cons_zero, List.set_cons_succ])
  refine wpAnyH_take (i := 20) (v := ?_) rfl (by kernel_rfl) (by kernel_rfl) (by kernel_rfl) (fun _ _ _ h => h) (Or.inl ⟨by rfl, ?_⟩) (by assumption) ?_
  rotate_left
  · (intro w hSw; (try dsimp only at hSw); go_simp; try with_reducible rfl)
  (try simp only [Act.put, List.getElem_toArray, List.getElem_cons_zero, List.getElem_cons_succ, List.setIfInBounds_toArray, List.set_cons_zero, List.set_cons_succ])
  refine wpAnyH_done (by kernel_rfl) ?_ _
  go_wp2_with fail
  go_ret
  exact ⟨rfl, FW.out⟩
end Go.Proofs.YtimglhbllcjpbaaDoor
