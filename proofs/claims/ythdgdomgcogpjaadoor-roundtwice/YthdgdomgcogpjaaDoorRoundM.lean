/- numerarylaw09: rows that came in; Of; tenfold. -/
import Derived.Test.YthdgdomgcogpjaaDoorRoundW
import Derived.Test.YthdgdomgcogpjaaDoorRoundG
namespace Go.Proofs.YthdgdomgcogpjaaDoor
set_option linter.unusedVariables false
set_option linter.unusedSimpArgs false
open Go.RowKit

attribute [local go_sem] World.cell?_alloc_some
theorem came9 (B : Nat) (hB : B ≤ 4) {w : World} {a : Option Addr} {len cap : Nat} {zs : List Int} (h : IsRow .u32 w a len cap zs) : ∃ k x : Nat, k ≤ B ∧ k ≤ len ∧ len ≤ cap ∧ cap ≤ 9223372036854775807 ∧ min (len : Int) B = k ∧ nlen 4294967296 x ≤ B ∧ (a = none → cap = 0) ∧ Hid (∀ wz, Fr w wz → Calls Tryd.prog 17 #[.slice a k cap] wz fun e w' => ∃ a' c', e = .returned (.agg #[.slice a' (nlen 4294967296 x) c']) ∧ IsNat w' (.agg #[.slice a' (nlen 4294967296 x) c']) x ∧ Fr wz w') := by
  obtain ⟨h1, h2, h3, h4, h5⟩ := row_take h (min len B) (by omega)
  have h6 : a = none → cap = 0 := by
    intro e
    subst e
    rcases h with ⟨_, _, rfl, _⟩ | ⟨y, e, _⟩
    · rfl
    · cases e
  refine ⟨min len B, lnum zs (min len B), by omega, by omega, h4, h5, by omega, Nat.le_trans (nlen_le b32 h2) (by omega), h6, ?_⟩
  intro wz f
  refine (made_any (min len B) cap a _ (lnum zs (min len B)) wz (by omega) (h1.fr f) h2 (fun j _ => rfl)).mono ?_
  rintro e w' ⟨a', c', rfl, _, hN, hf⟩
  exact ⟨_, _, rfl, hN, hf⟩
/-- A quotient, where the lower term isn't 0. -/
def RatIf (w : World) (v : Value) (x y : Nat) : Prop := y ≠ 0 → IsRat w v x y
theorem RatIf.fr {w w' : World} {v : Value} {x y : Nat} (h : RatIf w v x y) (f : Fr w w') : RatIf w' v x y := fun k => (h k).fr f
theorem Slot2.ratif {W0 w : World} {b : Nat} {u v : Value} (h : Slot2 W0 w b u v) {va : Value} {n d : Nat} (k : RatIf w va n d) (a : Option Addr) (m c : Nat) (u2 : Value) : RatIf ((w.setCell ⟨b, 0, none⟩ (.slice a m c)).setCell ⟨b, 1, none⟩ u2) va n d := fun e => h.rat (k e) a m c u2
theorem ofR_both (va vb : Value) (x y : Nat) (w : World) (hT : Tab w) (ha : IsNat w va x) (hb : IsNat w vb y) (hx : nlen 4294967296 x ≤ 1000000) (hy : nlen 4294967296 y ≤ 1000000) (ok : Bool) (hok : decide (y ≠ 0) = ok) :
    Calls Tryd.prog 16 #[va, vb] w fun e w' => ∃ r1 r2 r3 r4 r5 r6, e = .returned (.tuple #[.agg #[.slice r1 r2 r3, .slice r4 r5 r6], .bool ok]) ∧ RatIf w' (.agg #[.slice r1 r2 r3, .slice r4 r5 r6]) x y ∧ Fr w w' := by
  subst hok
  by_cases c : y = 0
  · subst c
    refine (ofR_no va vb x w ha hb).mono ?_
    rintro e w' ⟨rfl, f⟩
    exact ⟨none, 0, 0, none, 0, 0, rfl, fun h => absurd rfl h, f⟩
  · refine (ofR_yes va vb x y w hT ha hb hx hy c).mono ?_
    rintro e w' ⟨v, rfl, h, f⟩
    have h' := h
    obtain ⟨u1, u2, u3, u4, u5, u6, rfl⟩ := h.form
    exact ⟨u1, u2, u3, u4, u5, u6, by rw [decide_eq_true c], fun _ => h', f⟩

set_option maxHeartbeats 1000000 in
set_option maxRecDepth 4000 in
theorem tenfold_any (v : Value) (x : Nat) (w : World) (h : IsNat w v x) (hx : nlen 4294967296 x ≤ 10000) :
    Calls Tryd.prog 19 #[v] w fun e w' => ∃ a c, e = .returned (.slice a (nlen 4294967296 (x * 10)) c) ∧ nlen 4294967296 (x * 10) ≤ c ∧ Lm w' a (x * 10) ∧ Fr w w' := by
  have HA := hide h
  obtain ⟨a, ca, rfl, a2, a3, a4⟩ := h
  clear a4
  have n2 : nlen 4294967296 (x + x) ≤ 10001 := nl_sum hx hx
  have n4 : nlen 4294967296 (x + x + (x + x)) ≤ 10002 := nl_sum n2 n2
  have n8 : nlen 4294967296 (x + x + (x + x) + (x + x + (x + x))) ≤ 10003 := nl_sum n4 n4
  have n10 : nlen 4294967296 (x + x + (x + x) + (x + x + (x + x)) + (x + x)) ≤ 10004 := nl_sum n8 (by omega)
  have e10 : x * 10 = x + x + (x + x) + (x + x + (x + x)) + (x + x) := by omega
  rw [e10]
  clear e10
  obtain ⟨y, hy⟩ : ∃ y, x + x = y := ⟨_, rfl⟩
  obtain ⟨z, hz⟩ : ∃ z, y + y = z := ⟨_, rfl⟩
  rw [hy, hz] at n4 n8 n10 ⊢
  rw [hy] at n2
  have HY := hide hy
  have HZ := hide hz
  clear hy hz
  go_enter Tryd.func19, Tryd.ntmps19
  go_wp2_with fail
  obtain ⟨W, hW⟩ : ∃ W, W = (w.alloc (Obj.cells #[Value.slice a (nlen 4294967296 x) ca] 25)) := ⟨_, rfl⟩
  have fW : Fr w W := by rw [hW]; exact (Fr.alloc w (Obj.cells #[Value.slice a (nlen 4294967296 x) ca] 25))
  rw [← hW]
  clear hW
  have IA := hide (HA.out.fr fW)
  have FW := hide fW
  clear fW
  refine (add_any _ _ x x _ IA.out IA.out (by omega) (by omega)).mono ?_
  rintro e w1 ⟨a1, c1, rfl, i1, _, f1⟩
  rw [HY.out] at i1 ⊢
  have I1 := hide i1
  have FW := hide (FW.out.trans f1)
  clear i1 f1 IA
  go_wp2_with fail
  obtain ⟨W1, hW1⟩ : ∃ W, W = (w1.alloc (Obj.cells #[Value.slice a1 (nlen 4294967296 y) c1] 25)) := ⟨_, rfl⟩
  have f1 : Fr w1 W1 := by rw [hW1]; exact (Fr.alloc w1 (Obj.cells #[Value.slice a1 (nlen 4294967296 y) c1] 25))
  have s1 : Slot w1 W1 (w1.heap.size) (.slice a1 (nlen 4294967296 y) c1) := by
    rw [hW1]; simpa using Slot.new (Fr.refl w1) a1 (nlen 4294967296 y) c1 25
  rw [← hW1]
  clear hW1
  have S3 := hide s1
  have I1 := hide (I1.out.fr f1)
  have FW := hide (FW.out.trans f1)
  clear s1 f1
  refine (add_any _ _ y y _ I1.out I1.out (by omega) (by omega)).mono ?_
  rintro e w2 ⟨a2', c2, rfl, i2, _, f2⟩
  rw [HZ.out] at i2 ⊢
  have I2 := hide i2
  have I1 := hide (I1.out.fr f2)
  have S3 := hide (S3.out.fr f2)
  have FW := hide (FW.out.trans f2)
  clear i2 f2
  go_wp2_with fail
  obtain ⟨W2, hW2⟩ : ∃ W, W = (w2.alloc (Obj.cells #[Value.slice a2' (nlen 4294967296 z) c2] 25)) := ⟨_, rfl⟩
  have f2 : Fr w2 W2 := by rw [hW2]; exact (Fr.alloc w2 (Obj.cells #[Value.slice a2' (nlen 4294967296 z) c2] 25))
  have s4 : Slot w2 W2 (w2.heap.size) (.slice a2' (nlen 4294967296 z) c2) := by
    rw [hW2]; simpa using Slot.new (Fr.refl w2) a2' (nlen 4294967296 z) c2 25
  rw [← hW2]
  clear hW2
  have S4 := hide s4
  have I1 := hide (I1.out.fr f2)
  have I2 := hide (I2.out.fr f2)
  have S3 := hide (S3.out.fr f2)
  have FW := hide (FW.out.trans f2)
  clear s4 f2
  have I1 := hide (I1.out.fr (Fr.drew _))
  have I2 := hide (I2.out.fr (Fr.drew _))
  have S3 := hide (S3.out.fr (Fr.drew _))
  have S4 := hide (S4.out.fr (Fr.drew _))
  have FW := hide (FW.out.trans (Fr.drew _))
  have q3 := S3.out.1
  have q4 := S4.out.1
  go_wp2_with fail
  refine wp_region_held_drew (S := (fun w' => w'.cell? ⟨w1.heap.size, 0, none⟩ = some (.slice a1 (nlen 4294967296 y) c1) ∧ w'.cell? ⟨w2.heap.size, 0, none⟩ = some (.slice a2' (nlen 4294967296 z) c2))) (by kernel_rfl) ?_ (fun hHeld => ?_)
  · exact ⟨S3.out.1, S4.out.1⟩
  obtain ⟨wd, hwd⟩ : ∃ wd, wd = W2.drew := ⟨_, rfl⟩
  rw [← hwd] at hHeld I1 I2 S3 S4 FW ⊢
  clear hwd
  refine wpAnyH_take (i := 0) (v := ?_) rfl (by kernel_rfl) (by kernel_rfl) (by kernel_rfl) (fun _ _ _ h => h) (Or.inl ⟨by rfl, ?_⟩) (by assumption) ?_
  rotate_left
  · (intro w hSw; (try dsimp only at hSw); go_simp; try with_reducible rfl)
  (try simp only [Act.put, List.getElem_toArray, List.getElem_cons_zero, List.getElem_cons_succ, List.setIfInBounds_toArray, List.set_cons_zero, List.set_cons_succ])
  refine wpAnyH_take (i := 1) (v := ?_) rfl (by kernel_rfl) (by kernel_rfl) (by kernel_rfl) (fun _ _ _ h => h) (Or.inl ⟨by rfl, ?_⟩) (by assumption) ?_
  rotate_left
  · (intro w hSw; (try dsimp only at hSw); go_simp; try with_reducible rfl)
  (try simp only [Act.put, List.getElem_toArray, List.getElem_cons_zero, List.getElem_cons_succ, List.setIfInBounds_toArray, List.set_cons_zero, List.set_cons_succ])
  refine wpAnyH_take (i := 3) (v := ?_) rfl (by kernel_rfl) (by kernel_rfl) (by kernel_rfl) (fun _ _ _ h => h) (Or.inl ⟨by rfl, ?_⟩) (by assumption) ?_
  rotate_left
  · (intro w hSw; (try dsimp only at hSw); go_simp; try with_reducible rfl)
  (try simp only [Act.put, List.getElem_toArray, List.getElem_cons_zero, List.getElem_cons_succ, List.setIfInBounds_toArray, List.set_cons_zero, List.set_cons_succ])
  refine wpAnyH_ready (rs := [2]) (by kernel_rfl) (by simp) ?_
  refine AllReadyH.cons rfl (fun K hK => ?_) AllReadyH.nil
  go_simp
  refine (add_any _ _ z z _ I2.out I2.out (by omega) (by omega)).mono ?_
  rintro e wn ⟨a5, c5, rfl, i5, _, fy⟩
  have I5 := hide i5
  have I1 := hide (I1.out.fr fy)
  have S3 := hide (S3.out.fr fy)
  have S4 := hide (S4.out.fr fy)
  have FW := hide (FW.out.trans fy)
  clear i5 fy
  (try go_wp2_with fail)
  refine hK.out _ _ ?_ (fun hHeld => ?_)
  · (try dsimp only)
    exact ⟨S3.out.1, S4.out.1⟩
  clear hK K
  (try simp only [Act.put, List.getElem_toArray, List.getElem_cons_zero, List.getElem_cons_succ, List.setIfInBounds_toArray, List.set_cons_zero, List.set_cons_succ])
  refine wpAnyH_ready (rs := [4]) (by kernel_rfl) (by simp) ?_
  refine AllReadyH.cons rfl (fun K hK => ?_) AllReadyH.nil
  go_simp
  refine (add_any _ _ (z + z) y _ I5.out I1.out (by omega) (by omega)).mono ?_
  rintro e wn ⟨a6, c6, rfl, i6, _, fy⟩
  have I6 := hide i6
  have S3 := hide (S3.out.fr fy)
  have S4 := hide (S4.out.fr fy)
  have FW := hide (FW.out.trans fy)
  clear i6 fy
  (try go_wp2_with fail)
  refine hK.out _ _ ?_ (fun hHeld => ?_)
  · (try dsimp only)
    exact ⟨S3.out.1, S4.out.1⟩
  clear hK K
  (try simp only [Act.put, List.getElem_toArray, List.getElem_cons_zero, List.getElem_cons_succ, List.setIfInBounds_toArray, List.set_cons_zero, List.set_cons_succ])
  refine wpAnyH_ready (rs := [5]) (by kernel_rfl) (by simp) ?_
  refine AllReadyH.cons rfl (fun K hK => ?_) AllReadyH.nil
  go_simp
  refine (limbs_lm _ (z + z + y) _ I6.out (by omega)).mono ?_
  rintro e wn ⟨a7, c7, rfl, l7, i7, fy⟩
  have I7 := hide i7
  have S3 := hide (S3.out.fr fy)
  have S4 := hide (S4.out.fr fy)
  have FW := hide (FW.out.trans fy)
  clear i7 fy
  (try go_wp2_with fail)
  refine hK.out _ _ ?_ (fun hHeld => ?_)
  · (try dsimp only)
    exact ⟨S3.out.1, S4.out.1⟩
  clear hK K
  (try simp only [Act.put, List.getElem_toArray, List.getElem_cons_zero, List.getElem_cons_succ, List.setIfInBounds_toArray, List.set_cons_zero, List.set_cons_succ])
  refine wpAnyH_take (i := 6) (v := ?_) rfl (by kernel_rfl) (by kernel_rfl) (by kernel_rfl) (fun _ _ _ h => h) (Or.inl ⟨by rfl, ?_⟩) (by assumption) ?_
  rotate_left
  · (intro w hSw; (try dsimp only at hSw); go_simp; try with_reducible rfl)
  (try simp only [Act.put, List.getElem_toArray, List.getElem_cons_zero, List.getElem_cons_succ, List.setIfInBounds_toArray, List.set_cons_zero, List.set_cons_succ])
  refine wpAnyH_done (by kernel_rfl) ?_ _
  go_wp2_with fail
  go_ret
  exact ⟨_, _, rfl, l7, I7.out, FW.out⟩
/-- What Made makes of limbs. -/
theorem made_lm {x c : Nat} {a : Option Addr} (w : World) (hx : nlen 4294967296 x ≤ 100000) (h : Lm w a x) :
    Calls Tryd.prog 17 #[.slice a (nlen 4294967296 x) c] w fun e w' => ∃ a' c', e = .returned (.agg #[.slice a' (nlen 4294967296 x) c']) ∧ IsNat w' (.agg #[.slice a' (nlen 4294967296 x) c']) x ∧ Fr w w' := by
  refine (made_any (nlen 4294967296 x) c a _ x w (by omega) h.1 (lt_nlen b32 x) (fun j _ => rfl)).mono ?_
  rintro e w' ⟨a', c', rfl, _, hN, hf⟩
  exact ⟨_, _, rfl, hN, hf⟩
end Go.Proofs.YthdgdomgcogpjaaDoor
