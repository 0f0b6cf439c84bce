/- Gcd. -/
import Derived.Test.YtimglhbllcjpbaaDoorQuotN
namespace Go.Proofs.YtimglhbllcjpbaaDoor
set_option linter.unusedVariables false
set_option linter.unusedSimpArgs false
open Go.RowKit

attribute [local go_sem] World.cell?_alloc_some
/-- The number of the first n digits. -/
def sumD (f : Nat → Nat) : Nat → Nat
  | 0 => 0
  | n + 1 => sumD f n + 4294967296 ^ n * f n
theorem sumD_dg (x : Nat) : ∀ n, sumD (dg 4294967296 x) n = x % 4294967296 ^ n
  | 0 => by simp [sumD, Nat.mod_one]
  | n + 1 => by rw [sumD, sumD_dg x n, mod_step]
theorem sumD_congr {f h : Nat → Nat} : ∀ n, (∀ j, j < n → f j = h j) → sumD f n = sumD h n
  | 0, _ => rfl
  | n + 1, e => by rw [sumD, sumD, sumD_congr n (fun j hj => e j (by omega)), e n (by omega)]
def limbAt (w : World) (a : Option Addr) (j : Nat) : Nat :=
  match a with
  | some ⟨b, off, none⟩ => (match w.cell? ⟨b, off + j, none⟩ with
    | some (.int _ z) => z.toNat
    | _ => 0)
  | _ => 0
/-- The number that a variable's cell has. -/
def readN (w : World) (b : Nat) : Nat :=
  match w.cell? ⟨b, 0, none⟩ with
  | some (.slice a n _) => sumD (limbAt w a) n
  | _ => 0
theorem readN_of {w : World} {b c x : Nat} {a : Option Addr} (h : w.cell? ⟨b, 0, none⟩ = some (.slice a (nlen 4294967296 x) c)) (hN : IsNat w (.agg #[.slice a (nlen 4294967296 x) c]) x) : readN w b = x := by
  unfold readN
  rw [h]
  obtain ⟨a', c', h1, h2, h3, h4⟩ := hN
  simp only [Value.agg.injEq] at h1
  have h1' : a = a' := by injection h1 with h1; injection h1 with h1; injection h1
  subst h1'
  simp only []
  have e : sumD (limbAt w a) (nlen 4294967296 x) = sumD (dg 4294967296 x) (nlen 4294967296 x) := by
    refine sumD_congr _ (fun j hj => ?_)
    rcases h4 with h0 | ⟨g, off, rfl, hg, hc⟩
    · omega
    · simp only [limbAt, hc j hj, Int.toNat_natCast]
  rw [e, sumD_dg, Nat.mod_eq_of_lt (lt_nlen b32 x)]
/-- A Nat's limbs lie in none of three cells. -/
def Far (w : World) (a : Option Addr) (n : Nat) : Prop := n = 0 ∨ ∀ g off s, a = some ⟨g, off, s⟩ → g < w.heap.size ∨ w.heap.size + 2 < g
theorem isNat_far {w : World} {a : Option Addr} {c x : Nat} (h : IsNat w (.agg #[.slice a (nlen 4294967296 x) c]) x) : Far w a (nlen 4294967296 x) := by
  obtain ⟨a', c', h1, h2, h3, h4⟩ := h
  simp only [Value.agg.injEq] at h1
  have h1' : a = a' := by injection h1 with h1; injection h1 with h1; injection h1
  subst h1'
  rcases h4 with h0 | ⟨g, off, rfl, hg, _⟩
  · exact .inl h0
  · refine .inr (fun g' off' s e => .inl ?_)
    simp only [Option.some.injEq, Addr.mk.injEq] at e
    omega
theorem IsNat.far {w0 w : World} {x c : Nat} {a : Option Addr} (h : IsNat w (.agg #[.slice a (nlen 4294967296 x) c]) x) (hf : Far w0 a (nlen 4294967296 x)) (p : Addr) (u : Value) (h1 : w0.heap.size ≤ p.block) (h2 : p.block ≤ w0.heap.size + 2) : IsNat (w.setCell p u) (.agg #[.slice a (nlen 4294967296 x) c]) x := by
  rcases hf with h0 | hf
  · have e : x = 0 := nlen_nil b32 h0
    subst e
    obtain ⟨a', c', g1, g2, g3, g4⟩ := h
    exact ⟨a', c', g1, g2, g3, .inl (nlen_zero _)⟩
  · exact h.put p u (fun g off s e => by have := hf g off s e; omega)

set_option maxHeartbeats 2000000 in
set_option maxRecDepth 4000 in
theorem gcd_any (va vb : Value) (x y : Nat) (w : World) (ha : IsNat w va x) (hb : IsNat w vb y) (hx : nlen 4294967296 x ≤ 100000000000) (hy : nlen 4294967296 y ≤ 100000000000) :
    Calls Tryd.prog 35 #[va, vb] w fun e w' => ∃ a c, e = .returned (.agg #[.slice a (nlen 4294967296 (Nat.gcd x y)) c]) ∧ IsNat w' (.agg #[.slice a (nlen 4294967296 (Nat.gcd x y)) c]) (Nat.gcd x y) ∧ Fr w w' := by
  have HA := hide ha
  have HB := hide hb
  obtain ⟨a, ca, rfl, a2, a3, a4⟩ := ha
  obtain ⟨b, cb, rfl, b2, b3, b4⟩ := hb
  clear a4 b4
  go_enter Tryd.func35, Tryd.ntmps35
  go_wp2_with fail
  go_loopw [8] (fun s8 wr => ∃ (p q : Nat) (ap aq : Option Addr) (cp cq : Nat), Hid (Nat.gcd p q = Nat.gcd x y) ∧ nlen 4294967296 p ≤ 100000000000 ∧ nlen 4294967296 q ≤ 100000000000 ∧
      wr.cell? ⟨w.heap.size, 0, none⟩ = some (.slice ap (nlen 4294967296 p) cp) ∧ wr.cell? ⟨w.heap.size + 1, 0, none⟩ = some (.slice aq (nlen 4294967296 q) cq) ∧ wr.cell? ⟨w.heap.size + 1 + 1, 0, none⟩ = some (.slice none 0 0) ∧
      wr.frozen? ⟨w.heap.size, 0, none⟩ = false ∧ wr.frozen? ⟨w.heap.size + 1, 0, none⟩ = false ∧ wr.frozen? ⟨w.heap.size + 1 + 1, 0, none⟩ = false ∧
      Hid (IsNat wr (.agg #[.slice ap (nlen 4294967296 p) cp]) p) ∧ Hid (IsNat wr (.agg #[.slice aq (nlen 4294967296 q) cq]) q) ∧ Hid (Far w ap (nlen 4294967296 p)) ∧ Hid (Far w aq (nlen 4294967296 q)) ∧ Hid (Fr w wr)) (fun _ wr => readN wr (w.heap.size + 1))
  case atStart =>
    have fW : Fr w (((w.alloc (Obj.cells #[Value.slice a (nlen 4294967296 x) ca] 24)).alloc (Obj.cells #[Value.slice b (nlen 4294967296 y) cb] 24)).alloc (Obj.cells #[Value.slice none 0 0] 24)) := ((Fr.alloc _ _).trans (Fr.alloc _ _)).trans (Fr.alloc _ _)
    exact ⟨x, y, a, b, ca, cb, rfl, hx, hy, by simp [go_sem], by simp [go_sem], by simp [go_sem], by simp [go_sem], by simp [go_sem], by simp [go_sem], IsNat.fr HA.out fW, IsNat.fr HB.out fW, isNat_far HA.out, isNat_far HB.out, fW⟩
  case round =>
    obtain ⟨p, q, ap, aq, cp, cq, hg, np, nq, c2, c3, c4, z2, z3, z4, ip, iq, rp, rq, hF⟩ := hrel
    by_cases hq : q = 0
    · subst hq
      go_wp2_with fail
      refine (div_no _ _ p _ ip.out iq.out).mono ?_
      rintro e w1 ⟨rfl, f1⟩
      have z2 := fr_free f1 c2 z2
      have c2 := fr_cell f1 c2
      have z4 := fr_free f1 c4 z4
      have c4 := fr_cell f1 c4
      have ip := hide (IsNat.fr ip.out f1)
      have hF := hide (hF.out.trans f1)
      have za : ∀ o o', ((w1.alloc o).alloc o').frozen? ⟨w.heap.size + 1 + 1, 0, none⟩ = false := fun o o' => fr_free ((Fr.alloc w1 o).trans (Fr.alloc _ o')) c4 z4
      clear f1
      go_wp2_with fail
      (try simp only [Exit.inBlock, Exit.then])
      have hgg := hg.out
      rw [Nat.gcd_zero_right] at hgg
      rw [← hgg]
      have fa : ∀ o o', Fr w1 ((w1.alloc o).alloc o') := fun o o' => (Fr.alloc _ _).trans (Fr.alloc _ _)
      refine bodyPost_ret (results_nat rfl _ _ (w.heap.size + 1 + 1) (.slice ap (nlen 4294967296 p) cp) rfl ?_) rfl ?_
      · exact World.cell?_setCell_same _ _ _ (fr_cell (fa _ _) c4)
      · refine ⟨_, _, rfl, ?_, ?_⟩
        · exact IsNat.far (IsNat.fr ip.out (fa _ _)) rp.out _ _ (by simp; omega) (by simp)
        · exact Below.setCell (hF.out.trans (fa _ _)) (by simp; omega) _
    · go_wp2_with fail
      refine (div_yes _ _ p q _ ip.out iq.out np nq hq).mono ?_
      rintro e w1 ⟨aw, cw, ar, cr, rfl, ⟨iw, lw, f1⟩, ⟨ir, lr, _⟩⟩
      go_wp2_with fail
      obtain ⟨W2, hW2⟩ : ∃ W2, W2 = (w1.alloc (Obj.cells #[Value.slice aw (nlen 4294967296 (p / q)) cw] 24)).alloc (Obj.cells #[Value.slice ar (nlen 4294967296 (p % q)) cr] 24) := ⟨_, rfl⟩
      have f2 : Fr w1 W2 := by rw [hW2]; exact (Fr.alloc _ _).trans (Fr.alloc _ _)
      have c6 : W2.cell? ⟨w1.heap.size + 1, 0, none⟩ = some (.slice ar (nlen 4294967296 (p % q)) cr) := by rw [hW2]; simp [go_sem]
      rw [← hW2]
      clear hW2
      have f3 := f1.trans f2
      have sr := cell_lt c4
      simp only [] at sr
      have s1 := f1.size
      have Z2 := fr_free f3 c2 z2
      have C2 := fr_cell f3 c2
      have Z3 := fr_free f3 c3 z3
      have C3 := fr_cell f3 c3
      have Z4 := fr_free f3 c4 z4
      have C4 := fr_cell f3 c4
      have IQ := hide (IsNat.fr iq.out f3)
      have IR := hide (IsNat.fr ir f2)
      have RR : Hid (Far w ar (nlen 4294967296 (p % q))) := .inr (fun g off s e => by have := lr g off s e; omega)
      have FF := hide (hF.out.trans f3)
      have nr : nlen 4294967296 (p % q) ≤ 100000000000 := nl_mod np
      have hm0 := hide (readN_of c3 iq.out)
      clear f1 f2 f3 iw ir lw lr ip iq
      refine wp_region_held_drew (S := (fun w' => w'.cell? ⟨w1.heap.size + 1, 0, none⟩ = some (.slice ar (nlen 4294967296 (p % q)) cr))) (by kernel_rfl) ?_ (fun hHeld => ?_)
      · exact c6
      refine wpAnyH_take (i := 1) (v := ?_) rfl (by kernel_rfl) (by kernel_rfl) (by kernel_rfl) (fun _ _ _ h => h) (Or.inl ⟨by rfl, ?_⟩) (by assumption) ?_
      rotate_left
      · (intro w hSw; (try dsimp only at hSw); go_simp; try with_reducible rfl)
      (try simp only [Act.put, List.getElem_toArray, List.getElem_cons_zero, List.getElem_cons_succ, List.setIfInBounds_toArray, List.set_cons_zero, List.set_cons_succ])
      refine wpAnyH_ready (rs := [0]) (by kernel_rfl) (by simp) ?_
      refine AllReadyH.cons rfl (fun K hK => ?_) AllReadyH.nil
      go_simp
      (try go_wp2_with fail)
      refine hK.out _ _ ?_ (fun hHeld => ?_)
      · (try dsimp only)
        exact c6
      clear hK K
      (try simp only [Act.put, List.getElem_toArray, List.getElem_cons_zero, List.getElem_cons_succ, List.setIfInBounds_toArray, List.set_cons_zero, List.set_cons_succ])
      refine wpAnyH_ready (rs := [2]) (by kernel_rfl) (by simp) ?_
      refine AllReadyH.cons rfl (fun K hK => ?_) AllReadyH.nil
      go_simp
      (try go_wp2_with fail)
      refine hK.out _ _ ?_ (fun hHeld => ?_)
      · (try dsimp only)
        exact (World.cell?_setCell_other _ _ _ _ (fun h => by injection h with h1 h2 h3; omega)).trans c6
      clear hK K
      (try simp only [Act.put, List.getElem_toArray, List.getElem_cons_zero, List.getElem_cons_succ, List.setIfInBounds_toArray, List.set_cons_zero, List.set_cons_succ])
      refine wpAnyH_ready (rs := [3]) (by kernel_rfl) (by simp) ?_
      refine AllReadyH.cons rfl (fun K hK => ?_) AllReadyH.nil
      go_simp
      (try go_wp2_with fail)
      refine hK.out _ _ ?_ (fun hHeld => ?_)
      · (try dsimp only)
        exact ((World.cell?_setCell_other _ _ _ _ (fun h => by injection h with h1 h2 h3; omega)).trans (World.cell?_setCell_other _ _ _ _ (fun h => by injection h with h1 h2 h3; omega))).trans c6
      clear hK K
      (try simp only [Act.put, List.getElem_toArray, List.getElem_cons_zero, List.getElem_cons_succ, List.setIfInBounds_toArray, List.set_cons_zero, List.set_cons_succ])
      refine wpAnyH_done (by kernel_rfl) ?_ _
      obtain ⟨W4, hW4⟩ : ∃ W4, W4 = ((W2.setCell ⟨w.heap.size, 0, none⟩ (Value.slice aq (nlen 4294967296 q) cq)).setCell ⟨w.heap.size + 1, 0, none⟩ (Value.slice ar (nlen 4294967296 (p % q)) cr)).drew := ⟨_, rfl⟩
      have d2 : W4.cell? ⟨w.heap.size, 0, none⟩ = some (.slice aq (nlen 4294967296 q) cq) := by
        rw [hW4]
        exact (World.cell?_setCell_other _ _ _ _ (fun h => by injection h with h1 h2 h3; omega)).trans (World.cell?_setCell_same _ _ _ C2)
      have d3 : W4.cell? ⟨w.heap.size + 1, 0, none⟩ = some (.slice ar (nlen 4294967296 (p % q)) cr) := by
        rw [hW4]
        exact World.cell?_setCell_same _ _ _ ((World.cell?_setCell_other _ _ _ _ (fun h => by injection h with h1 h2 h3; omega)).trans C3)
      have d4 : W4.cell? ⟨w.heap.size + 1 + 1, 0, none⟩ = some (.slice none 0 0) := by
        rw [hW4]
        exact ((World.cell?_setCell_other _ _ _ _ (fun h => by injection h with h1 h2 h3; omega)).trans (World.cell?_setCell_other _ _ _ _ (fun h => by injection h with h1 h2 h3; omega))).trans C4
      have y2 : W4.frozen? ⟨w.heap.size, 0, none⟩ = false := by rw [hW4]; simpa using Z2
      have y3 : W4.frozen? ⟨w.heap.size + 1, 0, none⟩ = false := by rw [hW4]; simpa using Z3
      have y4 : W4.frozen? ⟨w.heap.size + 1 + 1, 0, none⟩ = false := by rw [hW4]; simpa using Z4
      have jq : IsNat W4 (.agg #[.slice aq (nlen 4294967296 q) cq]) q := by
        rw [hW4]
        exact IsNat.fr (IsNat.far (IsNat.far IQ.out rq.out _ _ (by simp) (by simp)) rq.out _ _ (by simp) (by simp)) (Fr.drew _)
      have jr : IsNat W4 (.agg #[.slice ar (nlen 4294967296 (p % q)) cr]) (p % q) := by
        rw [hW4]
        exact IsNat.fr (IsNat.far (IsNat.far IR.out RR.out _ _ (by simp) (by simp)) RR.out _ _ (by simp) (by simp)) (Fr.drew _)
      have F4 : Fr w W4 := by
        rw [hW4]
        exact Fr.trans (Below.setCell (Below.setCell FF.out (by simp) _) (by simp) _) (Fr.drew _)
      rw [← hW4]
      have hm1 := hide (readN_of d3 jr)
      have JQ := hide jq
      have JR := hide jr
      have HF4 := hide F4
      clear hW4 jq jr F4 Z2 Z3 Z4 C2 C3 C4 c6 IQ IR FF hHeld
      go_wp2_with fail
      go_roundw
      case rel => exact ⟨q, p % q, aq, ar, cq, cr, by have := hg.out; rw [Nat.gcd_comm q, ← Nat.gcd_rec, Nat.gcd_comm]; exact this, nq, nr, d2, d3, d4, y2, y3, y4, JQ, JR, rq, RR, HF4⟩
      case measure =>
        rw [hm0.out, hm1.out]
        exact Nat.mod_lt _ (by omega)
end Go.Proofs.YtimglhbllcjpbaaDoor
