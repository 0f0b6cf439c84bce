/- PackC: several texts in one. -/
import Derived.Test.YtmaapdmbkhoigaaDoorPackB
import Derived.Test.YtmaapdmbkhoigaaDoorPackA
import Derived.BigQuiet
import Derived.Deep.RegionHeld3
import Derived.Deep.DeepCutAuto
/- Plain maths of quotients: lowest terms. -/
namespace Go.Proofs.YtmaapdmbkhoigaaDoor
set_option linter.unusedVariables false

/-- The lowest terms of n / d. -/
def rN (n d : Nat) : Nat := n / Nat.gcd n d
def rD (n d : Nat) : Nat := d / Nat.gcd n d
/-- The lower one as it is kept: 0 of 0. -/
def rZ (n d : Nat) : Nat := if n = 0 then 0 else rD n d

theorem gcd_pos_right {n d : Nat} (h : d ≠ 0) : 0 < Nat.gcd n d := Nat.gcd_pos_of_pos_right n (by omega)
theorem rN_mul {n d : Nat} : rN n d * Nat.gcd n d = n := Nat.div_mul_cancel (Nat.gcd_dvd_left n d)
theorem rD_mul {n d : Nat} : rD n d * Nat.gcd n d = d := Nat.div_mul_cancel (Nat.gcd_dvd_right n d)
theorem rD_pos {n d : Nat} (h : d ≠ 0) : rD n d ≠ 0 := by
  intro e
  have := @rD_mul n d
  rw [e, Nat.zero_mul] at this
  omega
theorem rN_zero {n d : Nat} (h : d ≠ 0) : rN n d = 0 ↔ n = 0 := by
  constructor
  · intro e
    have := @rN_mul n d
    rw [e, Nat.zero_mul] at this
    omega
  · rintro rfl; unfold rN; rw [Nat.zero_div]
theorem rD_zero {d : Nat} (h : d ≠ 0) : rD 0 d = 1 := by unfold rD; rw [Nat.gcd_zero_left]; exact Nat.div_self (by omega)
theorem rN_le (n d : Nat) : rN n d ≤ n := Nat.div_le_self _ _
theorem rD_le (n d : Nat) : rD n d ≤ d := Nat.div_le_self _ _
theorem rN_scale {n d k : Nat} (hk : k ≠ 0) : rN (n * k) (d * k) = rN n d := by
  unfold rN; rw [Nat.gcd_mul_right]; exact Nat.mul_div_mul_right _ _ (by omega)
theorem rD_scale {n d k : Nat} (hk : k ≠ 0) : rD (n * k) (d * k) = rD n d := by
  unfold rD; rw [Nat.gcd_mul_right]; exact Nat.mul_div_mul_right _ _ (by omega)
theorem rN_same {n d n' d' : Nat} (h : d ≠ 0) (h' : d' ≠ 0) (e : n * d' = n' * d) : rN n d = rN n' d' := by
  rw [← rN_scale (n := n) (d := d) h', ← rN_scale (n := n') (d := d') h, e, Nat.mul_comm d d']
theorem rD_same {n d n' d' : Nat} (h : d ≠ 0) (h' : d' ≠ 0) (e : n * d' = n' * d) : rD n d = rD n' d' := by
  rw [← rD_scale (n := n) (d := d) h', ← rD_scale (n := n') (d := d') h, e, Nat.mul_comm d d']
theorem same_nought {n d n' d' : Nat} (h : d ≠ 0) (h' : d' ≠ 0) (e : n * d' = n' * d) : n = 0 ↔ n' = 0 := by
  constructor
  · rintro rfl
    rw [Nat.zero_mul] at e
    rcases Nat.mul_eq_zero.1 e.symm with e | e
    · exact e
    · exact absurd e h
  · rintro rfl
    rw [Nat.zero_mul] at e
    rcases Nat.mul_eq_zero.1 e with e | e
    · exact e
    · exact absurd e h'
theorem rZ_same {n d n' d' : Nat} (h : d ≠ 0) (h' : d' ≠ 0) (e : n * d' = n' * d) : rZ n d = rZ n' d' := by
  have := same_nought h h' e
  unfold rZ
  by_cases c : n = 0
  · rw [if_pos c, if_pos (this.1 c)]
  · rw [if_neg c, if_neg (fun k => c (this.2 k)), rD_same h h' e]
theorem gcd_odd {u v k : Nat} (hu : u % 2 = 1) : Nat.gcd u (v * 2 ^ k) = Nat.gcd u v := by
  have h2 : Nat.Coprime 2 u := by
    unfold Nat.Coprime
    rw [Nat.gcd_rec, hu, Nat.gcd_one_left]
  have : Nat.Coprime (2 ^ k) u := Nat.Coprime.pow_left k h2
  exact this.gcd_mul_right_cancel_right v
theorem gcd_twos {u v a b : Nat} (hu : u % 2 = 1) (hv : v % 2 = 1) : Nat.gcd (u * 2 ^ a) (v * 2 ^ b) = Nat.gcd u v * 2 ^ (min a b) := by
  rcases Nat.le_total a b with h | h
  · obtain ⟨c, rfl⟩ : ∃ c, b = c + a := ⟨b - a, by omega⟩
    rw [Nat.pow_add, ← Nat.mul_assoc, Nat.gcd_mul_right, gcd_odd hu, Nat.min_eq_left (by omega)]
  · obtain ⟨c, rfl⟩ : ∃ c, a = c + b := ⟨a - b, by omega⟩
    rw [Nat.pow_add, ← Nat.mul_assoc, Nat.gcd_mul_right, Nat.gcd_comm, gcd_odd hv, Nat.gcd_comm, Nat.min_eq_right (by omega)]
theorem gcd_shared {x y : Nat} (hx : x ≠ 0) (hy : y ≠ 0) : Nat.gcd (x / 2 ^ tz x) (y / 2 ^ tz y) * 2 ^ (min (tz x) (tz y)) = Nat.gcd x y := by
  rw [← gcd_twos (down_odd hx) (down_odd hy)]
  rw [Nat.div_mul_cancel (Nat.dvd_of_mod_eq_zero (mod_own hx)), Nat.div_mul_cancel (Nat.dvd_of_mod_eq_zero (mod_own hy))]
theorem cmpZ_scale {x y k : Nat} (hk : k ≠ 0) : cmpZ (x * k) (y * k) = cmpZ x y := by
  unfold cmpZ
  have h1 : x * k < y * k ↔ x < y := Nat.mul_lt_mul_right (by omega)
  have h2 : x * k = y * k ↔ x = y := ⟨fun e => Nat.eq_of_mul_eq_mul_right (by omega) e, fun e => by rw [e]⟩
  simp only [h1, h2]
end Go.Proofs.YtmaapdmbkhoigaaDoor

/- Quotients: how they are told; isNought, Terms. -/
namespace Go.Proofs.YtmaapdmbkhoigaaDoor
set_option linter.unusedVariables false
set_option linter.unusedSimpArgs false
open Go.RowKit

attribute [local go_sem] World.cell?_alloc_some

set_option maxHeartbeats 1000000 in
set_option maxRecDepth 4000 in
theorem isNought_any (v : Value) (x : Nat) (w : World) (h : IsNat w v x) (hn : nlen 4294967296 x ≤ 100000000000) :
    Calls Tryd.prog 68 #[v] w fun e w' => e = .returned (.bool (decide (x = 0))) ∧ Fr w w' := by
  have H := hide h
  obtain ⟨a, cap, rfl, h2, h3, h4⟩ := h
  clear h4
  have e0 : decide (x = 0) = ((nlen 2 x : Int) == 0) := by
    by_cases c : x = 0
    · subst c; rw [nlen_zero]; rfl
    · have := nlen_pos (B := 2) (by omega) c
      have h : nlen 2 x ≠ 0 := by omega
      simp [h, c]
  rw [e0]
  clear e0
  go_enter Tryd.func68, Tryd.ntmps68
  go_wp2_with fail
  refine (bits_any _ x _ (IsNat.fr H.out (Fr.alloc _ _)) (by omega)).mono ?_
  rintro e w1 ⟨rfl, f1⟩
  have F := (Fr.alloc w (Obj.cells #[Value.slice a (nlen 4294967296 x) cap] 78)).trans f1
  go_wp2_with fail
  go_ret
  exact ⟨rfl, F⟩

/-- No number lies in a block. -/
def NoNum (w : World) (b : Nat) : Prop := ∀ (off : Nat) (k : IntKind) (z : Int), w.cell? ⟨b, off, none⟩ ≠ some (.int k z)
theorem NoNum.fr {w w' : World} {b : Nat} (h : NoNum w b) (hb : b < w.heap.size) (f : Fr w w') : NoNum w' b := fun off k z e => h off k z ((Below.cell f hb).symm.trans e)
theorem NoNum.new1 (w : World) (a : Option Addr) (n c : Nat) (t : TypeId) : NoNum (w.alloc (.cells #[.slice a n c] t)) w.heap.size := by
  intro off k z e
  simp [go_sem] at e
  rcases off with _ | off <;> simp at e
theorem NoNum.new2 (w : World) (a b : Option Addr) (n c m d : Nat) (t : TypeId) : NoNum (w.alloc (.cells #[.slice a n c, .slice b m d] t)) w.heap.size := by
  intro off k z e
  simp [go_sem] at e
  rcases off with _ | _ | off <;> simp at e
theorem NoNum.put {w : World} {b : Nat} (h : NoNum w b) {p : Addr} {u : Value} (hp : w.cell? p = some u) (a : Option Addr) (n c : Nat) : NoNum (w.setCell p (.slice a n c)) b := by
  intro off k z e
  by_cases hq : p = ⟨b, off, none⟩
  · subst hq
    rw [World.cell?_setCell_same _ _ _ hp] at e; cases e
  · rw [World.cell?_setCell_other w p _ _ hq] at e
    exact h off k z e
theorem IsNat.calm {w : World} {v : Value} {x : Nat} (h : IsNat w v x) (p : Addr) (u : Value) (hb : NoNum w p.block) : IsNat (w.setCell p u) v x := by
  obtain ⟨a, c, rfl, h2, h3, h4⟩ := h
  refine ⟨a, c, rfl, h2, h3, ?_⟩
  by_cases h0 : nlen 4294967296 x = 0
  · exact .inl h0
  · refine h4.set p u ?_
    rcases h4 with h4 | ⟨b, off, rfl, hb', hc⟩
    · exact absurd h4 h0
    · intro g off' s e e2
      simp only [Option.some.injEq, Addr.mk.injEq] at e
      obtain ⟨rfl, rfl, rfl⟩ := e
      subst e2
      exact hb _ _ _ (hc 0 (by omega))

/-- A variable of a Nat at block b, new since W0: what lies in it, and that it may be written. -/
def Slot (W0 w : World) (b : Nat) (u : Value) : Prop := w.cell? ⟨b, 0, none⟩ = some u ∧ w.frozen? ⟨b, 0, none⟩ = false ∧ NoNum w b ∧ W0.heap.size ≤ b
theorem Slot.fr {W0 w w' : World} {b : Nat} {u : Value} (h : Slot W0 w b u) (f : Fr w w') : Slot W0 w' b u := ⟨fr_cell f h.1, fr_free f h.1 h.2.1, h.2.2.1.fr (cell_lt h.1) f, h.2.2.2⟩
theorem Slot.new {W0 w : World} (f : Fr W0 w) (a : Option Addr) (n c : Nat) (t : TypeId) : Slot W0 (w.alloc (.cells #[.slice a n c] t)) w.heap.size (.slice a n c) := ⟨by simp [go_sem], by simp [go_sem], NoNum.new1 _ _ _ _ _, f.size⟩
theorem Slot.set {W0 w : World} {b : Nat} {u : Value} (h : Slot W0 w b u) (a : Option Addr) (n c : Nat) : Slot W0 (w.setCell ⟨b, 0, none⟩ (.slice a n c)) b (.slice a n c) := ⟨World.cell?_setCell_same _ _ _ h.1, by simpa using h.2.1, h.2.2.1.put h.1 _ _ _, h.2.2.2⟩
theorem Slot.set_fr {W0 w : World} {b : Nat} {u : Value} (h : Slot W0 w b u) (f : Fr W0 w) (v : Value) : Fr W0 (w.setCell ⟨b, 0, none⟩ v) := Below.setCell f h.2.2.2 _
theorem Slot.nat {W0 w : World} {b : Nat} {u : Value} (h : Slot W0 w b u) {v : Value} {x : Nat} (k : IsNat w v x) (u' : Value) : IsNat (w.setCell ⟨b, 0, none⟩ u') v x := k.calm _ _ h.2.2.1
theorem Slot.other {W0 W1 w : World} {b b' : Nat} {u u' : Value} (h : Slot W0 w b u) (k : Slot W1 w b' u') (hne : b' ≠ b) (a : Option Addr) (n c : Nat) : Slot W0 (w.setCell ⟨b', 0, none⟩ (.slice a n c)) b u :=
  ⟨(World.cell?_setCell_other _ _ _ _ (fun e => hne (by injection e))).trans h.1, by simpa using h.2.1, h.2.2.1.put k.1 _ _ _, h.2.2.2⟩

/-- A quotient's value: two Nats. -/
def Pair (w : World) (v : Value) (p z : Nat) : Prop := ∃ a c b d, v = .agg #[.slice a (nlen 4294967296 p) c, .slice b (nlen 4294967296 z) d] ∧ IsNat w (.agg #[.slice a (nlen 4294967296 p) c]) p ∧ IsNat w (.agg #[.slice b (nlen 4294967296 z) d]) z
theorem Pair.fr {w w' : World} {v : Value} {p z : Nat} (h : Pair w v p z) (f : Fr w w') : Pair w' v p z := by
  obtain ⟨a, c, b, d, h1, h2, h3⟩ := h
  exact ⟨a, c, b, d, h1, h2.fr f, h3.fr f⟩
theorem pair_zero (w : World) : Pair w (.agg #[.slice none 0 0, .slice none 0 0]) 0 0 := ⟨none, 0, none, 0, by rw [nlen_zero], by rw [nlen_zero]; exact isNat_zero _, by rw [nlen_zero]; exact isNat_zero _⟩
/-- The lower term, as Terms tells it. -/
def low (p z : Nat) : Nat := if p = 0 then 1 else z
theorem results_nat2 {fn : Func} {p p' : Tmp} (h : fn.results = #[.cell p 78, .cell p' 78]) (tmps : Array Value) (w : World) (b b' : Nat) (v v' : Value) (hp : tmps.getD p undef = .pointer (some ⟨b, 0, none⟩)) (hp' : tmps.getD p' undef = .pointer (some ⟨b', 0, none⟩)) (hc : w.cell? ⟨b, 0, none⟩ = some v) (hc' : w.cell? ⟨b', 0, none⟩ = some v') :
    (results fn tmps).run Tryd.prog w = .ok (.tuple #[.agg #[v], .agg #[v']]) w := by
  have hp1 : tmps[p]?.getD undef = .pointer (some ⟨b, 0, none⟩) := by simpa using hp
  have hp2 : tmps[p']?.getD undef = .pointer (some ⟨b', 0, none⟩) := by simpa using hp'
  simp [results, h, hp1, hp2]
  go_simp
theorem results_nat3 {fn : Func} {p p' p'' : Tmp} (h : fn.results = #[.cell p 78, .cell p' 78, .cell p'' 78]) (tmps : Array Value) (w : World) (b b' b'' : Nat) (v v' v'' : Value) (hp : tmps.getD p undef = .pointer (some ⟨b, 0, none⟩)) (hp' : tmps.getD p' undef = .pointer (some ⟨b', 0, none⟩)) (hp'' : tmps.getD p'' undef = .pointer (some ⟨b'', 0, none⟩)) (hc : w.cell? ⟨b, 0, none⟩ = some v) (hc' : w.cell? ⟨b', 0, none⟩ = some v') (hc'' : w.cell? ⟨b'', 0, none⟩ = some v'') :
    (results fn tmps).run Tryd.prog w = .ok (.tuple #[.agg #[v], .agg #[v'], .agg #[v'']]) w := by
  have hp1 : tmps[p]?.getD undef = .pointer (some ⟨b, 0, none⟩) := by simpa using hp
  have hp2 : tmps[p']?.getD undef = .pointer (some ⟨b', 0, none⟩) := by simpa using hp'
  have hp3 : tmps[p'']?.getD undef = .pointer (some ⟨b'', 0, none⟩) := by simpa using hp''
  simp [results, h, hp1, hp2, hp3]
  go_simp
theorem results_rat {fn : Func} {p : Tmp} (h : fn.results = #[.cell p 80]) (tmps : Array Value) (w : World) (b : Nat) (v0 v1 : Value) (hp : tmps.getD p undef = .pointer (some ⟨b, 0, none⟩)) (hc : w.cell? ⟨b, 0, none⟩ = some v0) (hc' : w.cell? ⟨b, 1, none⟩ = some v1) :
    (results fn tmps).run Tryd.prog w = .ok (.agg #[v0, v1]) w := by
  have hp1 : tmps[p]?.getD undef = .pointer (some ⟨b, 0, none⟩) := by simpa using hp
  simp [results, h, hp1]
  go_simp
theorem results_rat_ok {fn : Func} {p u : Tmp} (h : fn.results = #[.cell p 80, .tmp u]) (tmps : Array Value) (w : World) (b : Nat) (v0 v1 : Value) (hp : tmps.getD p undef = .pointer (some ⟨b, 0, none⟩)) (hc : w.cell? ⟨b, 0, none⟩ = some v0) (hc' : w.cell? ⟨b, 1, none⟩ = some v1) :
    (results fn tmps).run Tryd.prog w = .ok (.tuple #[.agg #[v0, v1], tmps.getD u undef]) w := by
  have hp1 : tmps[p]?.getD undef = .pointer (some ⟨b, 0, none⟩) := by simpa using hp
  simp [results, h, hp1]
  go_simp
/-- A variable of a quotient at block b, new since W0. -/
def Slot2 (W0 w : World) (b : Nat) (u v : Value) : Prop := w.cell? ⟨b, 0, none⟩ = some u ∧ w.cell? ⟨b, 1, none⟩ = some v ∧ (∀ o, w.frozen? ⟨b, o, none⟩ = false) ∧ NoNum w b ∧ W0.heap.size ≤ b
theorem Slot2.fr {W0 w w' : World} {b : Nat} {u v : Value} (h : Slot2 W0 w b u v) (f : Fr w w') : Slot2 W0 w' b u v := by
  refine ⟨fr_cell f h.1, fr_cell f h.2.1, fun o => ?_, h.2.2.2.1.fr (cell_lt h.1) f, h.2.2.2.2⟩
  have hb := f.block b (cell_lt h.1)
  have := h.2.2.1 o
  unfold World.frozen? at *
  rw [hb]; exact this
theorem Slot2.new {W0 w : World} (f : Fr W0 w) (a : Option Addr) (n c : Nat) (a' : Option Addr) (n' c' : Nat) (t : TypeId) : Slot2 W0 (w.alloc (.cells #[.slice a n c, .slice a' n' c'] t)) w.heap.size (.slice a n c) (.slice a' n' c') := ⟨by simp [go_sem], by simp [go_sem], fun o => by simp [go_sem], NoNum.new2 _ _ _ _ _ _ _ _, f.size⟩
theorem Slot2.set {W0 w : World} {b : Nat} {u v : Value} (h : Slot2 W0 w b u v) (a : Option Addr) (n c : Nat) (a' : Option Addr) (n' c' : Nat) : Slot2 W0 ((w.setCell ⟨b, 0, none⟩ (.slice a n c)).setCell ⟨b, 1, none⟩ (.slice a' n' c')) b (.slice a n c) (.slice a' n' c') := by
  have e1 : (w.setCell ⟨b, 0, none⟩ (.slice a n c)).cell? ⟨b, 1, none⟩ = some v := (World.cell?_setCell_other _ _ _ _ (fun e => by injection e with _ e; omega)).trans h.2.1
  refine ⟨(World.cell?_setCell_other _ _ _ _ (fun e => by injection e with _ e; omega)).trans (World.cell?_setCell_same _ _ _ h.1), World.cell?_setCell_same _ _ _ e1, fun o => by simpa using h.2.2.1 o, (h.2.2.2.1.put h.1 _ _ _).put e1 _ _ _, h.2.2.2.2⟩
theorem Slot2.set_fr {W0 w : World} {b : Nat} {u v : Value} (h : Slot2 W0 w b u v) (f : Fr W0 w) (v1 v2 : Value) : Fr W0 ((w.setCell ⟨b, 0, none⟩ v1).setCell ⟨b, 1, none⟩ v2) := Below.setCell (Below.setCell f h.2.2.2.2 _) h.2.2.2.2 _
theorem Slot2.nat {W0 w : World} {b : Nat} {u v : Value} (h : Slot2 W0 w b u v) {va : Value} {x : Nat} (k : IsNat w va x) (a : Option Addr) (n c : Nat) (u2 : Value) : IsNat ((w.setCell ⟨b, 0, none⟩ (.slice a n c)).setCell ⟨b, 1, none⟩ u2) va x := (k.calm _ _ h.2.2.2.1).calm _ _ (h.2.2.2.1.put h.1 _ _ _)
theorem Slot2.other {W0 W1 w : World} {b b' : Nat} {u v u' v' : Value} (h : Slot W0 w b u) (k : Slot2 W1 w b' u' v') (hne : b' ≠ b) (a : Option Addr) (n c : Nat) (a' : Option Addr) (n' c' : Nat) : Slot W0 ((w.setCell ⟨b', 0, none⟩ (.slice a n c)).setCell ⟨b', 1, none⟩ (.slice a' n' c')) b u := by
  have e1 : (w.setCell ⟨b', 0, none⟩ (.slice a n c)).cell? ⟨b', 1, none⟩ = some v' := (World.cell?_setCell_other _ _ _ _ (fun e => by injection e with _ e; omega)).trans k.2.1
  refine ⟨(World.cell?_setCell_other _ _ _ _ (fun e => hne (by injection e))).trans ((World.cell?_setCell_other _ _ _ _ (fun e => hne (by injection e))).trans h.1), by simpa using h.2.1, (h.2.2.1.put k.1 _ _ _).put e1 _ _ _, h.2.2.2⟩
theorem Slot.other2 {W0 W1 w : World} {b b' : Nat} {u v u' : Value} (h : Slot2 W0 w b u v) (k : Slot W1 w b' u') (hne : b' ≠ b) (a : Option Addr) (n c : Nat) : Slot2 W0 (w.setCell ⟨b', 0, none⟩ (.slice a n c)) b u v :=
  ⟨(World.cell?_setCell_other _ _ _ _ (fun e => hne (by injection e))).trans h.1, (World.cell?_setCell_other _ _ _ _ (fun e => hne (by injection e))).trans h.2.1, fun o => by simpa using h.2.2.1 o, h.2.2.2.1.put k.1 _ _ _, h.2.2.2.2⟩

set_option maxHeartbeats 1000000 in
set_option maxRecDepth 4000 in
theorem terms_zero (v : Value) (z : Nat) (w : World) (h : Pair w v 0 z) :
    Calls Tryd.prog 74 #[v] w fun e w' => ∃ b d, e = .returned (.tuple #[.agg #[.slice none 0 0], .agg #[.slice b (nlen 4294967296 1) d]]) ∧ IsNat w' (.agg #[.slice b (nlen 4294967296 1) d]) 1 ∧ Fr w w' := by
  obtain ⟨a, ca, b, cb, rfl, h1, h2⟩ := h
  have H1 := hide h1
  clear h1 h2
  generalize nlen 4294967296 z = m at *
  rw [nlen_zero] at *
  go_enter Tryd.func74, Tryd.ntmps74
  go_wp2_with fail
  obtain ⟨W, hW⟩ : ∃ W, W = ((w.alloc (Obj.cells #[Value.slice a 0 ca, Value.slice b m cb] 80)).alloc (Obj.cells #[Value.slice none 0 0] 78)).alloc (Obj.cells #[Value.slice none 0 0] 78) := ⟨_, rfl⟩
  have fW : Fr w W := by rw [hW]; exact ((Fr.alloc _ _).trans (Fr.alloc _ _)).trans (Fr.alloc _ _)
  have s2 : Slot w W (w.heap.size + 1) (.slice none 0 0) := by
    rw [hW]; simpa using (Slot.new (Fr.alloc w (Obj.cells #[Value.slice a 0 ca, Value.slice b m cb] 80)) none 0 0 78).fr (Fr.alloc _ _)
  have s3 : Slot w W (w.heap.size + 1 + 1) (.slice none 0 0) := by
    rw [hW]; simpa using (Slot.new ((Fr.alloc w (Obj.cells #[Value.slice a 0 ca, Value.slice b m cb] 80)).trans (Fr.alloc _ (Obj.cells #[Value.slice none 0 0] 78))) none 0 0 78)
  rw [← hW]
  clear hW
  refine (isNought_any _ 0 _ (H1.out.fr fW) (by rw [nlen_zero]; omega)).mono ?_
  rintro e w1 ⟨rfl, f1⟩
  have F1 := fW.trans f1
  have s2 := s2.fr f1
  have s3 := s3.fr f1
  clear fW f1
  go_wp2_with fail
  refine (ofc_any 1 1 _ rfl (by omega)).mono ?_
  rintro e w2 ⟨a2, c2, rfl, h2, _, f2⟩
  have F2 := hide (F1.trans f2)
  have S2 := hide (s2.fr f2)
  have S3 := hide (s3.fr f2)
  have H2 := hide h2
  clear F1 f2 s2 s3 h2
  have q2 := S2.out.1
  have z2 := S2.out.2.1
  have q3 := S3.out.1
  have z3 := S3.out.2.1
  go_wp2_with fail
  have T3 := S3.out.other S2.out (by omega) none 0 0
  have T2 := (S2.out.set none 0 0).other T3 (by omega) a2 (nlen 4294967296 1) c2
  have T3' := T3.set a2 (nlen 4294967296 1) c2
  refine bodyPost_ret (results_nat2 rfl _ _ (w.heap.size + 1) (w.heap.size + 1 + 1) _ _ rfl rfl T2.1 T3'.1) rfl ?_
  exact ⟨_, _, rfl, T3.nat (S2.out.nat H2.out _) _, T3.set_fr (S2.out.set_fr F2.out _) _⟩

set_option maxHeartbeats 1000000 in
set_option maxRecDepth 4000 in
theorem terms_some (v : Value) (p z : Nat) (w : World) (h : Pair w v p z) (hn : nlen 4294967296 p ≤ 100000000000) (hp : p ≠ 0) :
    Calls Tryd.prog 74 #[v] w fun e w' => ∃ a c b d, e = .returned (.tuple #[.agg #[.slice a (nlen 4294967296 p) c], .agg #[.slice b (nlen 4294967296 z) d]]) ∧ IsNat w' (.agg #[.slice a (nlen 4294967296 p) c]) p ∧ IsNat w' (.agg #[.slice b (nlen 4294967296 z) d]) z ∧ Fr w w' := by
  obtain ⟨a, ca, b, cb, rfl, h1, h2⟩ := h
  have H1 := hide h1
  have H2 := hide h2
  clear h1 h2
  obtain ⟨n, hn1⟩ : ∃ n, nlen 4294967296 p = n := ⟨_, rfl⟩
  obtain ⟨m, hm1⟩ : ∃ m, nlen 4294967296 z = m := ⟨_, rfl⟩
  rw [hn1] at hn H1 ⊢
  rw [hm1] at H2 ⊢
  have Hn := hide hn1
  clear hn1 hm1
  go_enter Tryd.func74, Tryd.ntmps74
  go_wp2_with fail
  obtain ⟨W, hW⟩ : ∃ W, W = ((w.alloc (Obj.cells #[Value.slice a n ca, Value.slice b m cb] 80)).alloc (Obj.cells #[Value.slice none 0 0] 78)).alloc (Obj.cells #[Value.slice none 0 0] 78) := ⟨_, rfl⟩
  have fW : Fr w W := by rw [hW]; exact ((Fr.alloc _ _).trans (Fr.alloc _ _)).trans (Fr.alloc _ _)
  have c1 : Slot2 w W w.heap.size (.slice a n ca) (.slice b m cb) := by
    rw [hW]; simpa using ((Slot2.new (Fr.refl w) a n ca b m cb 80).fr (Fr.alloc _ _)).fr (Fr.alloc _ _)
  have s2 : Slot w W (w.heap.size + 1) (.slice none 0 0) := by
    rw [hW]; simpa using (Slot.new (Fr.alloc w (Obj.cells #[Value.slice a n ca, Value.slice b m cb] 80)) none 0 0 78).fr (Fr.alloc _ _)
  have s3 : Slot w W (w.heap.size + 1 + 1) (.slice none 0 0) := by
    rw [hW]; simpa using (Slot.new ((Fr.alloc w (Obj.cells #[Value.slice a n ca, Value.slice b m cb] 80)).trans (Fr.alloc _ (Obj.cells #[Value.slice none 0 0] 78))) none 0 0 78)
  rw [← hW]
  clear hW
  refine (isNought_any _ p _ (H1.out.fr fW) (by rw [Hn.out]; omega)).mono ?_
  rintro e w1 ⟨rfl, f1⟩
  rw [decide_eq_false hp]
  have F1 := hide ((fW.trans f1).trans (Fr.drew _))
  have S2 := hide ((s2.fr f1).fr (Fr.drew _))
  have S3 := hide ((s3.fr f1).fr (Fr.drew _))
  have C1 := hide ((c1.fr f1).fr (Fr.drew _))
  have c1 := c1.fr f1
  have q0 := c1.1
  have q1 := c1.2.1
  clear fW f1 s2 s3 c1
  go_wp2_with fail
  refine wp_region_held_drew (S := (fun w' => w'.cell? ⟨w.heap.size, 0, none⟩ = some (.slice a n ca) ∧ w'.cell? ⟨w.heap.size, 1, none⟩ = some (.slice b m cb))) (by kernel_rfl) ?_ (fun hHeld => ?_)
  · exact ⟨C1.out.1, C1.out.2.1⟩
  obtain ⟨wd, hwd⟩ : ∃ wd, wd = w1.drew := ⟨_, rfl⟩
  rw [← hwd] at hHeld S2 S3 C1 F1 ⊢
  clear hwd
  refine wpAnyH_take (i := 0) (v := ?_) rfl (by kernel_rfl) (by kernel_rfl) (by kernel_rfl) (fun _ _ _ h => h) (Or.inl ⟨by rfl, ?_⟩) (by assumption) ?_
  rotate_left
  · (intro w hSw; (try dsimp only at hSw); go_simp; try with_reducible rfl)
  (try simp only [Act.put, List.getElem_toArray, List.getElem_cons_zero, List.getElem_cons_succ, List.setIfInBounds_toArray, List.set_cons_zero, List.set_cons_succ])
  refine wpAnyH_take (i := 1) (v := ?_) rfl (by kernel_rfl) (by kernel_rfl) (by kernel_rfl) (fun _ _ _ h => h) (Or.inl ⟨by rfl, ?_⟩) (by assumption) ?_
  rotate_left
  · (intro w hSw; (try dsimp only at hSw); go_simp; try with_reducible rfl)
  (try simp only [Act.put, List.getElem_toArray, List.getElem_cons_zero, List.getElem_cons_succ, List.setIfInBounds_toArray, List.set_cons_zero, List.set_cons_succ])
  refine wpAnyH_take (i := 2) (v := ?_) rfl (by kernel_rfl) (by kernel_rfl) (by kernel_rfl) (fun _ _ _ h => h) (Or.inl ⟨by rfl, ?_⟩) (by assumption) ?_
  rotate_left
  · (intro w hSw; (try dsimp only at hSw); go_simp; try with_reducible rfl)
  (try simp only [Act.put, List.getElem_toArray, List.getElem_cons_zero, List.getElem_cons_succ, List.setIfInBounds_toArray, List.set_cons_zero, List.set_cons_succ])
  refine wpAnyH_take (i := 3) (v := ?_) rfl (by kernel_rfl) (by kernel_rfl) (by kernel_rfl) (fun _ _ _ h => h) (Or.inl ⟨by rfl, ?_⟩) (by assumption) ?_
  rotate_left
  · (intro w hSw; (try dsimp only at hSw); go_simp; try with_reducible rfl)
  (try simp only [Act.put, List.getElem_toArray, List.getElem_cons_zero, List.getElem_cons_succ, List.setIfInBounds_toArray, List.set_cons_zero, List.set_cons_succ])
  refine wpAnyH_ready (rs := [4]) (by kernel_rfl) (by simp) ?_
  refine AllReadyH.cons rfl (fun K hK => ?_) AllReadyH.nil
  have q2 := S2.out.1
  have z2 := S2.out.2.1
  have C2 := hide (Slot.other2 C1.out S2.out (by omega) a n ca)
  have T3 := hide (S3.out.other S2.out (by omega) a n ca)
  have T2 := hide (S2.out.set a n ca)
  go_simp
  (try go_wp2_with fail)
  refine hK.out _ _ ?_ (fun hHeld => ?_)
  · (try dsimp only)
    exact ⟨C2.out.1, C2.out.2.1⟩
  clear hK K
  (try simp only [Act.put, List.getElem_toArray, List.getElem_cons_zero, List.getElem_cons_succ, List.setIfInBounds_toArray, List.set_cons_zero, List.set_cons_succ])
  refine wpAnyH_ready (rs := [5]) (by kernel_rfl) (by simp) ?_
  refine AllReadyH.cons rfl (fun K hK => ?_) AllReadyH.nil
  have q3 := T3.out.1
  have z3 := S3.out.2.1
  have C3 := hide (Slot.other2 C2.out T3.out (by omega) b m cb)
  have U3 := hide (T3.out.set b m cb)
  have U2 := hide (T2.out.other T3.out (by omega) b m cb)
  go_simp
  (try go_wp2_with fail)
  refine hK.out _ _ ?_ (fun hHeld => ?_)
  · (try dsimp only)
    exact ⟨C3.out.1, C3.out.2.1⟩
  clear hK K
  (try simp only [Act.put, List.getElem_toArray, List.getElem_cons_zero, List.getElem_cons_succ, List.setIfInBounds_toArray, List.set_cons_zero, List.set_cons_succ])
  refine wpAnyH_done (by kernel_rfl) ?_ _
  have K1 := hide (H1.out.fr F1.out)
  have K2 := hide (H2.out.fr F1.out)
  go_wp2_with fail
  refine bodyPost_ret (results_nat2 rfl _ _ (w.heap.size + 1) (w.heap.size + 1 + 1) _ _ rfl rfl U2.out.1 U3.out.1) rfl ?_
  exact ⟨_, _, _, _, rfl, T3.out.nat (S2.out.nat K1.out _) _, T3.out.nat (S2.out.nat K2.out _) _, T3.out.set_fr (S2.out.set_fr F1.out _) _⟩

theorem terms_any (v : Value) (p z : Nat) (w : World) (h : Pair w v p z) (hn : nlen 4294967296 p ≤ 100000000000) :
    Calls Tryd.prog 74 #[v] w fun e w' => ∃ a c b d, e = .returned (.tuple #[.agg #[.slice a (nlen 4294967296 p) c], .agg #[.slice b (nlen 4294967296 (low p z)) d]]) ∧ IsNat w' (.agg #[.slice a (nlen 4294967296 p) c]) p ∧ IsNat w' (.agg #[.slice b (nlen 4294967296 (low p z)) d]) (low p z) ∧ Fr w w' := by
  by_cases hp : p = 0
  · subst hp
    refine (terms_zero v z w h).mono ?_
    rintro e w' ⟨b, d, rfl, k, f⟩
    have : low 0 z = 1 := rfl
    rw [this]
    exact ⟨none, 0, b, d, by rw [nlen_zero], by rw [nlen_zero]; exact isNat_zero _, k, f⟩
  · have : low p z = z := if_neg hp
    rw [this]
    exact terms_some v p z w h hn hp
end Go.Proofs.YtmaapdmbkhoigaaDoor

/- Quotients: shared, lowest, levelled. -/
namespace Go.Proofs.YtmaapdmbkhoigaaDoor
set_option linter.unusedVariables false
set_option linter.unusedSimpArgs false
open Go.RowKit

attribute [local go_sem] World.cell?_alloc_some
theorem tz_lt {x n : Nat} (hx : x ≠ 0) (h : nlen 4294967296 x ≤ n) : tz x < 32 * n := by
  have h1 : x < 2 ^ (32 * n) := by
    have := lt_of_nlen b32 h
    rwa [show (4294967296 : Nat) = 2 ^ 32 by decide, ← Nat.pow_mul] at this
  have h2 : 2 ^ tz x ≤ x := Nat.le_of_dvd (by omega) (Nat.dvd_of_mod_eq_zero (mod_own hx))
  exact (Nat.pow_lt_pow_iff_right (a := 2) (by omega)).1 (Nat.lt_of_le_of_lt h2 h1)
theorem nl_le {x y n : Nat} (h : nlen 4294967296 x ≤ n) (k : y ≤ x) : nlen 4294967296 y ≤ n := Nat.le_trans (nlen_mono b32 k) h

set_option maxHeartbeats 2000000 in
set_option maxRecDepth 4000 in
theorem shared_any (va vb : Value) (x y : Nat) (w : World) (hT : Tab w) (ha : IsNat w va x) (hb : IsNat w vb y) (hx : nlen 4294967296 x ≤ 1000000000) (hy : nlen 4294967296 y ≤ 1000000000) (hx0 : x ≠ 0) (hy0 : y ≠ 0) :
    Calls Tryd.prog 69 #[va, vb] w fun e w' => ∃ a c, e = .returned (.agg #[.slice a (nlen 4294967296 (Nat.gcd x y)) c]) ∧ IsNat w' (.agg #[.slice a (nlen 4294967296 (Nat.gcd x y)) c]) (Nat.gcd x y) ∧ Fr w w' := by
  have HA := hide ha
  have HB := hide hb
  have HT := hide hT
  have g0 := gcd_shared hx0 hy0
  have tx := tz_lt hx0 hx
  have ty := tz_lt hy0 hy
  obtain ⟨a, ca, rfl, a2, a3, a4⟩ := ha
  obtain ⟨b, cb, rfl, b2, b3, b4⟩ := hb
  obtain ⟨A, hA⟩ : ∃ A, tz x = A := ⟨_, rfl⟩
  obtain ⟨B, hB⟩ : ∃ B, tz y = B := ⟨_, rfl⟩
  rw [hA] at g0 tx
  rw [hB] at g0 ty
  obtain ⟨P, hP⟩ : ∃ P, x / 2 ^ A = P := ⟨_, rfl⟩
  obtain ⟨R, hR⟩ : ∃ R, y / 2 ^ B = R := ⟨_, rfl⟩
  have nP : nlen 4294967296 P ≤ 1000000000 := by rw [← hP]; exact nl_div hx
  have nR : nlen 4294967296 R ≤ 1000000000 := by rw [← hR]; exact nl_div hy
  rw [hP, hR] at g0
  obtain ⟨G, hG⟩ : ∃ G, Nat.gcd x y = G := ⟨_, rfl⟩
  rw [hG] at g0 ⊢
  have HA0 := hide hA
  have HB0 := hide hB
  have HP := hide hP
  have HR := hide hR
  have HG := hide g0
  clear a4 b4 hA hB hP hR g0 hG hT
  go_enter Tryd.func69, Tryd.ntmps69
  go_wp2_with fail
  obtain ⟨W, hW⟩ : ∃ W, W = (((w.alloc (Obj.cells #[Value.slice a (nlen 4294967296 x) ca] 78)).alloc (Obj.cells #[Value.slice b (nlen 4294967296 y) cb] 78)).alloc (Obj.cells #[Value.slice none 0 0] 78)) := ⟨_, rfl⟩
  have fW : Fr w W := by rw [hW]; exact (((Fr.alloc w (Obj.cells #[Value.slice a (nlen 4294967296 x) ca] 78)).trans (Fr.alloc _ (Obj.cells #[Value.slice b (nlen 4294967296 y) cb] 78))).trans (Fr.alloc _ (Obj.cells #[Value.slice none 0 0] 78)))
  have s2 : Slot w W (w.heap.size) (.slice a (nlen 4294967296 x) ca) := by
    rw [hW]; simpa using ((Slot.new (Fr.refl w) a (nlen 4294967296 x) ca 78).fr (Fr.alloc _ _)).fr (Fr.alloc _ _)
  have s3 : Slot w W (w.heap.size + 1) (.slice b (nlen 4294967296 y) cb) := by
    rw [hW]; simpa using (Slot.new (Fr.alloc w (Obj.cells #[Value.slice a (nlen 4294967296 x) ca] 78)) b (nlen 4294967296 y) cb 78).fr (Fr.alloc _ _)
  have s4 : Slot w W (w.heap.size + 1 + 1) (.slice none 0 0) := by
    rw [hW]; simpa using Slot.new ((Fr.alloc w (Obj.cells #[Value.slice a (nlen 4294967296 x) ca] 78)).trans (Fr.alloc _ (Obj.cells #[Value.slice b (nlen 4294967296 y) cb] 78))) none 0 0 78
  rw [← hW]
  clear hW
  have S2 := hide s2
  have S3 := hide s3
  have S4 := hide s4
  have FW := hide fW
  have q2 := s2.1
  have q3 := s3.1
  clear s2 s3 s4 fW
  refine wp_region_held_drew (S := (fun w' => w'.cell? ⟨w.heap.size, 0, none⟩ = some (.slice a (nlen 4294967296 x) ca) ∧ w'.cell? ⟨w.heap.size + 1, 0, none⟩ = some (.slice b (nlen 4294967296 y) cb) ∧ Hid (Fr W w'))) (by kernel_rfl) ?_ (fun hHeld => ?_)
  · exact ⟨fr_cell (Fr.drew _) q2, fr_cell (Fr.drew _) q3, Fr.drew _⟩
  refine wpAnyH_take (i := 0) (v := ?_) rfl (by kernel_rfl) (by kernel_rfl) (by kernel_rfl) (fun _ _ _ h => h) (Or.inl ⟨by rfl, ?_⟩) (by assumption) ?_
  rotate_left
  · (intro w hSw; (try dsimp only at hSw); go_simp; try with_reducible rfl)
  (try simp only [Act.put, List.getElem_toArray, List.getElem_cons_zero, List.getElem_cons_succ, List.setIfInBounds_toArray, List.set_cons_zero, List.set_cons_succ])
  refine wpAnyH_take (i := 2) (v := ?_) rfl (by kernel_rfl) (by kernel_rfl) (by kernel_rfl) (fun _ _ _ h => h) (Or.inl ⟨by rfl, ?_⟩) (by assumption) ?_
  rotate_left
  · (intro w hSw; (try dsimp only at hSw); go_simp; try with_reducible rfl)
  (try simp only [Act.put, List.getElem_toArray, List.getElem_cons_zero, List.getElem_cons_succ, List.setIfInBounds_toArray, List.set_cons_zero, List.set_cons_succ])
  refine wpAnyH_ready (rs := [1]) (by kernel_rfl) (by simp) ?_
  refine AllReadyH.cons rfl (fun K hK => ?_) AllReadyH.nil
  go_simp
  have hh := hHeld
  refine (noughtsc_any _ x (A : Int) _ (Tab.fr HT.out (FW.out.trans hh.2.2.out)) (HA.out.fr (FW.out.trans hh.2.2.out)) (by omega) (by rw [HA0.out])).mono ?_
  rintro e wn ⟨rfl, fy⟩
  have fz := hide (hh.2.2.out.trans fy)
  clear hh fy
  (try go_wp2_with fail)
  refine hK.out _ _ ?_ (fun hHeld => ?_)
  · (try dsimp only)
    exact ⟨fr_cell fz.out q2, fr_cell fz.out q3, fz⟩
  clear hK K
  (try simp only [Act.put, List.getElem_toArray, List.getElem_cons_zero, List.getElem_cons_succ, List.setIfInBounds_toArray, List.set_cons_zero, List.set_cons_succ])
  refine wpAnyH_ready (rs := [3]) (by kernel_rfl) (by simp) ?_
  refine AllReadyH.cons rfl (fun K hK => ?_) AllReadyH.nil
  go_simp
  have hh := hHeld
  refine (noughtsc_any _ y (B : Int) _ (Tab.fr HT.out (FW.out.trans hh.2.2.out)) (HB.out.fr (FW.out.trans hh.2.2.out)) (by omega) (by rw [HB0.out])).mono ?_
  rintro e wn ⟨rfl, fy⟩
  have fz := hide (hh.2.2.out.trans fy)
  clear hh fy
  (try go_wp2_with fail)
  refine hK.out _ _ ?_ (fun hHeld => ?_)
  · (try dsimp only)
    exact ⟨fr_cell fz.out q2, fr_cell fz.out q3, fz⟩
  clear hK K
  (try simp only [Act.put, List.getElem_toArray, List.getElem_cons_zero, List.getElem_cons_succ, List.setIfInBounds_toArray, List.set_cons_zero, List.set_cons_succ])
  refine wpAnyH_take (i := 4) (v := ?_) rfl (by kernel_rfl) (by kernel_rfl) (by kernel_rfl) (fun _ _ _ h => h) (Or.inl ⟨by rfl, ?_⟩) (by assumption) ?_
  rotate_left
  · (intro w hSw; (try dsimp only at hSw); go_simp; try with_reducible rfl)
  (try simp only [Act.put, List.getElem_toArray, List.getElem_cons_zero, List.getElem_cons_succ, List.setIfInBounds_toArray, List.set_cons_zero, List.set_cons_succ])
  refine wpAnyH_take (i := 5) (v := ?_) rfl (by kernel_rfl) (by kernel_rfl) (by kernel_rfl) (fun _ _ _ h => h) (Or.inl ⟨by rfl, ?_⟩) (by assumption) ?_
  rotate_left
  · (intro w hSw; (try dsimp only at hSw); go_simp; try with_reducible rfl)
  (try simp only [Act.put, List.getElem_toArray, List.getElem_cons_zero, List.getElem_cons_succ, List.setIfInBounds_toArray, List.set_cons_zero, List.set_cons_succ])
  refine wpAnyH_done (by kernel_rfl) ?_ _
  have S2 := hide (S2.out.fr fz.out)
  have S3 := hide (S3.out.fr fz.out)
  have S4 := hide (S4.out.fr fz.out)
  have FW := hide (FW.out.trans fz.out)
  clear fz hHeld q2 q3
  have q2 := S2.out.1
  have q3 := S3.out.1
  go_wp2_with fail
  refine (downc_any _ x (A : Int) P _ _ (Tab.fr HT.out FW.out) (HA.out.fr FW.out) (by omega) (by omega) (by omega) (by rw [Int.toNat_natCast]; exact HP.out) rfl).mono ?_
  rintro e w2 ⟨a2, c2, rfl, i2, f2⟩
  have S2 := hide (S2.out.fr f2)
  have S3 := hide (S3.out.fr f2)
  have S4 := hide (S4.out.fr f2)
  have FW := hide (FW.out.trans f2)
  have I2 := hide i2
  clear f2 i2 q2 q3
  have q2 := S2.out.1
  have z2 := S2.out.2.1
  have q3 := S3.out.1
  go_wp2_with fail
  have S3 := hide (S3.out.other S2.out (by omega) a2 (nlen 4294967296 P) c2)
  have S4 := hide (S4.out.other S2.out (by omega) a2 (nlen 4294967296 P) c2)
  have I2 := hide (S2.out.nat I2.out (.slice a2 (nlen 4294967296 P) c2))
  have FW := hide (S2.out.set_fr FW.out (.slice a2 (nlen 4294967296 P) c2))
  have S2 := hide (S2.out.set a2 (nlen 4294967296 P) c2)
  obtain ⟨V, hV⟩ : ∃ V, V = w2.setCell ⟨w.heap.size, 0, none⟩ (.slice a2 (nlen 4294967296 P) c2) := ⟨_, rfl⟩
  rw [← hV] at S2 S3 S4 I2 FW ⊢
  clear hV q2 z2 q3
  refine (downc_any _ y (B : Int) R _ _ (Tab.fr HT.out FW.out) (HB.out.fr FW.out) (by omega) (by omega) (by omega) (by rw [Int.toNat_natCast]; exact HR.out) rfl).mono ?_
  rintro e w3 ⟨a3, c3, rfl, i3, f3⟩
  have S2 := hide (S2.out.fr f3)
  have S3 := hide (S3.out.fr f3)
  have S4 := hide (S4.out.fr f3)
  have I2 := hide (I2.out.fr f3)
  have FW := hide (FW.out.trans f3)
  have I3 := hide i3
  clear f3 i3
  have q2 := S2.out.1
  have q3 := S3.out.1
  have z3 := S3.out.2.1
  go_wp2_with fail
  have S2 := hide (S2.out.other S3.out (by omega) a3 (nlen 4294967296 R) c3)
  have S4 := hide (S4.out.other S3.out (by omega) a3 (nlen 4294967296 R) c3)
  have I2 := hide (S3.out.nat I2.out (.slice a3 (nlen 4294967296 R) c3))
  have I3 := hide (S3.out.nat I3.out (.slice a3 (nlen 4294967296 R) c3))
  have FW := hide (S3.out.set_fr FW.out (.slice a3 (nlen 4294967296 R) c3))
  obtain ⟨V2, hV⟩ : ∃ V, V = w3.setCell ⟨w.heap.size + 1, 0, none⟩ (.slice a3 (nlen 4294967296 R) c3) := ⟨_, rfl⟩
  rw [← hV] at S2 S4 I2 I3 FW ⊢
  clear hV q2 z3 q3 S3
  refine (gcd_any _ _ P R _ I2.out I3.out (by omega) (by omega)).mono ?_
  rintro e w4 ⟨a4, c4, rfl, i4, f4⟩
  have S4 := hide (S4.out.fr f4)
  have FW := hide (FW.out.trans f4)
  have I4 := hide i4
  have ng : nlen 4294967296 (Nat.gcd P R) ≤ 1000000000 := by
    by_cases h : P = 0
    · rw [h, Nat.gcd_zero_left]; exact nR
    · exact Nat.le_trans (nlen_mono b32 (Nat.gcd_le_left R (by omega))) nP
  obtain ⟨K, hK⟩ : ∃ K, Nat.gcd P R = K := ⟨_, rfl⟩
  rw [hK] at ng I4 HG ⊢
  clear f4 i4 hK S2 I2 I3
  have q4 := S4.out.1
  have z4 := S4.out.2.1
  have fin : Hid (∀ (a5 : Option Addr) (c5 : Nat) (w5 : World), Fr w4 w5 → IsNat w5 (.agg #[.slice a5 (nlen 4294967296 G) c5]) G → IsNat (w5.setCell ⟨w.heap.size + 1 + 1, 0, none⟩ (.slice a5 (nlen 4294967296 G) c5)) (.agg #[.slice a5 (nlen 4294967296 G) c5]) G ∧ Fr w (w5.setCell ⟨w.heap.size + 1 + 1, 0, none⟩ (.slice a5 (nlen 4294967296 G) c5)) ∧ (w5.setCell ⟨w.heap.size + 1 + 1, 0, none⟩ (.slice a5 (nlen 4294967296 G) c5)).cell? ⟨w.heap.size + 1 + 1, 0, none⟩ = some (.slice a5 (nlen 4294967296 G) c5)) := by
    intro a5 c5 w5 f5 i5
    have T := S4.out.fr f5
    exact ⟨T.nat i5 _, T.set_fr (FW.out.trans f5) _, (T.set _ _ _).1⟩
  rcases Nat.lt_or_ge B A with hm | hm
  · rw [Nat.min_eq_right (by omega)] at HG
    go_wp2_with fail
    refine (upc_any _ K (B : Int) G _ I4.out (by omega) (by omega) (by omega) (by rw [Int.toNat_natCast]; exact HG.out)).mono ?_
    rintro e w5 ⟨a5, c5, rfl, i5, f5⟩
    have q4 := fr_cell f5 q4
    have z4 := (S4.out.fr f5).2.1
    obtain ⟨j1, j2, j3⟩ := fin.out a5 c5 w5 f5 i5
    go_wp2_with fail
    exact bodyPost_ret (results_nat rfl _ _ (w.heap.size + 1 + 1) _ rfl j3) rfl ⟨_, _, rfl, j1, j2⟩
  · rw [Nat.min_eq_left (by omega)] at HG
    go_wp2_with fail
    refine (upc_any _ K (A : Int) G _ I4.out (by omega) (by omega) (by omega) (by rw [Int.toNat_natCast]; exact HG.out)).mono ?_
    rintro e w5 ⟨a5, c5, rfl, i5, f5⟩
    have q4 := fr_cell f5 q4
    have z4 := (S4.out.fr f5).2.1
    obtain ⟨j1, j2, j3⟩ := fin.out a5 c5 w5 f5 i5
    go_wp2_with fail
    exact bodyPost_ret (results_nat rfl _ _ (w.heap.size + 1 + 1) _ rfl j3) rfl ⟨_, _, rfl, j1, j2⟩
end Go.Proofs.YtmaapdmbkhoigaaDoor

/- Quotients: lowest, levelled. -/
namespace Go.Proofs.YtmaapdmbkhoigaaDoor
set_option linter.unusedVariables false
set_option linter.unusedSimpArgs false
open Go.RowKit

attribute [local go_sem] World.cell?_alloc_some
/-- A quotient: n divided by d, kept in its lowest terms. -/
def IsRat (w : World) (v : Value) (n d : Nat) : Prop := d ≠ 0 ∧ Pair w v (rN n d) (rZ n d)
theorem IsRat.fr {w w' : World} {v : Value} {n d : Nat} (h : IsRat w v n d) (f : Fr w w') : IsRat w' v n d := ⟨h.1, h.2.fr f⟩
theorem IsRat.same {w : World} {v : Value} {n d n' d' : Nat} (h : IsRat w v n d) (h' : d' ≠ 0) (e : n * d' = n' * d) : IsRat w v n' d' := by
  refine ⟨h', ?_⟩
  rw [← rN_same h.1 h' e, ← rZ_same h.1 h' e]
  exact h.2

set_option maxHeartbeats 2000000 in
set_option maxRecDepth 4000 in
theorem lowest_zero (va vb : Value) (y : Nat) (w : World) (ha : IsNat w va 0) (hb : IsNat w vb y) :
    Calls Tryd.prog 49 #[va, vb] w fun e w' => e = .returned (.agg #[.slice none 0 0, .slice none 0 0]) ∧ Fr w w' := by
  have HA := hide ha
  obtain ⟨a, ca, rfl, a2, a3, a4⟩ := ha
  obtain ⟨b, cb, rfl, b2, b3, b4⟩ := hb
  clear a4 b4
  go_enter Tryd.func49, Tryd.ntmps49
  go_wp2_with fail
  obtain ⟨W, hW⟩ : ∃ W, W = (((w.alloc (Obj.cells #[Value.slice a (nlen 4294967296 0) ca] 78)).alloc (Obj.cells #[Value.slice b (nlen 4294967296 y) cb] 78)).alloc (Obj.cells #[Value.slice none 0 0, Value.slice none 0 0] 80)) := ⟨_, rfl⟩
  have fW : Fr w W := by rw [hW]; exact (((Fr.alloc w (Obj.cells #[Value.slice a (nlen 4294967296 0) ca] 78)).trans (Fr.alloc _ (Obj.cells #[Value.slice b (nlen 4294967296 y) cb] 78))).trans (Fr.alloc _ (Obj.cells #[Value.slice none 0 0, Value.slice none 0 0] 80)))
  have s4 : Slot2 w W (w.heap.size + 1 + 1) (.slice none 0 0) (.slice none 0 0) := by
    rw [hW]; simpa using Slot2.new ((Fr.alloc w (Obj.cells #[Value.slice a (nlen 4294967296 0) ca] 78)).trans (Fr.alloc _ (Obj.cells #[Value.slice b (nlen 4294967296 y) cb] 78))) none 0 0 none 0 0 80
  rw [← hW]
  clear hW
  refine (isNought_any _ 0 _ (HA.out.fr fW) (by rw [nlen_zero]; omega)).mono ?_
  rintro e w1 ⟨rfl, f1⟩
  have S4 := hide (s4.fr f1)
  have F1 := hide (fW.trans f1)
  clear s4 fW f1
  have q4 := S4.out.1
  have q5 := S4.out.2.1
  have z4 := S4.out.2.2.1 0
  have z5 := S4.out.2.2.1 1
  go_wp2_with fail
  have T := S4.out.set none 0 0 none 0 0
  exact bodyPost_ret (results_rat rfl _ _ (w.heap.size + 1 + 1) _ _ rfl T.1 T.2.1) rfl ⟨rfl, S4.out.set_fr F1.out _ _⟩

set_option maxHeartbeats 2000000 in
set_option maxRecDepth 4000 in
theorem lowest_some (va vb : Value) (x y : Nat) (w : World) (hT : Tab w) (ha : IsNat w va x) (hb : IsNat w vb y) (hx : nlen 4294967296 x ≤ 1000000000) (hy : nlen 4294967296 y ≤ 1000000000) (hx0 : x ≠ 0) (hy0 : y ≠ 0) :
    Calls Tryd.prog 49 #[va, vb] w fun e w' => ∃ v, e = .returned v ∧ Pair w' v (rN x y) (rD x y) ∧ Fr w w' := by
  have HA := hide ha
  have HB := hide hb
  have HT := hide hT
  have hg : Nat.gcd x y ≠ 0 := by have := gcd_pos_right (n := x) hy0; omega
  have ng : nlen 4294967296 (Nat.gcd x y) ≤ 1000000000 := nl_le hx (Nat.gcd_le_left y (by omega))
  unfold rN rD
  obtain ⟨G, hG⟩ : ∃ G, Nat.gcd x y = G := ⟨_, rfl⟩
  rw [hG] at hg ng ⊢
  obtain ⟨P, hP⟩ : ∃ P, x / G = P := ⟨_, rfl⟩
  obtain ⟨R, hR⟩ : ∃ R, y / G = R := ⟨_, rfl⟩
  rw [hP, hR]
  have HG := hide hG
  have HP := hide hP
  have HR := hide hR
  obtain ⟨a, ca, rfl, a2, a3, a4⟩ := ha
  obtain ⟨b, cb, rfl, b2, b3, b4⟩ := hb
  clear a4 b4 hT hG hP hR
  go_enter Tryd.func49, Tryd.ntmps49
  go_wp2_with fail
  obtain ⟨W, hW⟩ : ∃ W, W = (((w.alloc (Obj.cells #[Value.slice a (nlen 4294967296 x) ca] 78)).alloc (Obj.cells #[Value.slice b (nlen 4294967296 y) cb] 78)).alloc (Obj.cells #[Value.slice none 0 0, Value.slice none 0 0] 80)) := ⟨_, rfl⟩
  have fW : Fr w W := by rw [hW]; exact (((Fr.alloc w (Obj.cells #[Value.slice a (nlen 4294967296 x) ca] 78)).trans (Fr.alloc _ (Obj.cells #[Value.slice b (nlen 4294967296 y) cb] 78))).trans (Fr.alloc _ (Obj.cells #[Value.slice none 0 0, Value.slice none 0 0] 80)))
  have s2 : Slot w W (w.heap.size) (.slice a (nlen 4294967296 x) ca) := by
    rw [hW]; simpa using ((Slot.new (Fr.refl w) a (nlen 4294967296 x) ca 78).fr (Fr.alloc _ _)).fr (Fr.alloc _ _)
  have s3 : Slot w W (w.heap.size + 1) (.slice b (nlen 4294967296 y) cb) := by
    rw [hW]; simpa using (Slot.new (Fr.alloc w (Obj.cells #[Value.slice a (nlen 4294967296 x) ca] 78)) b (nlen 4294967296 y) cb 78).fr (Fr.alloc _ _)
  have s4 : Slot2 w W (w.heap.size + 1 + 1) (.slice none 0 0) (.slice none 0 0) := by
    rw [hW]; simpa using Slot2.new ((Fr.alloc w (Obj.cells #[Value.slice a (nlen 4294967296 x) ca] 78)).trans (Fr.alloc _ (Obj.cells #[Value.slice b (nlen 4294967296 y) cb] 78))) none 0 0 none 0 0 80
  rw [← hW]
  clear hW
  refine (isNought_any _ x _ (HA.out.fr fW) (by omega)).mono ?_
  rintro e w1 ⟨rfl, f1⟩
  rw [decide_eq_false hx0]
  have S2 := hide (s2.fr f1)
  have S3 := hide (s3.fr f1)
  have S4 := hide (s4.fr f1)
  have FW := hide (fW.trans f1)
  clear s2 s3 s4 fW f1
  have q2 := S2.out.1
  have q3 := S3.out.1
  go_wp2_with fail
  refine (shared_any _ _ x y _ (Tab.fr HT.out FW.out) (HA.out.fr FW.out) (HB.out.fr FW.out) hx hy hx0 hy0).mono ?_
  rintro e w2 ⟨ag, cg, rfl, ig, f2⟩
  rw [HG.out] at ig ⊢
  have S2 := hide (S2.out.fr f2)
  have S3 := hide (S3.out.fr f2)
  have S4 := hide (S4.out.fr f2)
  have FW := hide (FW.out.trans f2)
  clear f2 q2 q3
  have q2 := S2.out.1
  have l4 := cell_lt S4.out.1
  simp only [] at l4
  go_wp2_with fail
  obtain ⟨W2, hW2⟩ : ∃ W, W = (w2.alloc (Obj.cells #[Value.slice ag (nlen 4294967296 G) cg] 78)) := ⟨_, rfl⟩
  have f2 : Fr w2 W2 := by rw [hW2]; exact (Fr.alloc w2 (Obj.cells #[Value.slice ag (nlen 4294967296 G) cg] 78))
  have s5 : Slot w2 W2 (w2.heap.size) (.slice ag (nlen 4294967296 G) cg) := by
    rw [hW2]; simpa using Slot.new (Fr.refl w2) ag (nlen 4294967296 G) cg 78
  rw [← hW2]
  clear hW2
  have S5 := hide s5
  have S2 := hide (S2.out.fr f2)
  have S3 := hide (S3.out.fr f2)
  have S4 := hide (S4.out.fr f2)
  have FW := hide (FW.out.trans f2)
  have IG := hide (ig.fr f2)
  clear f2 q2 ig s5
  refine (div_yes _ _ x G _ (HA.out.fr FW.out) IG.out (by omega) (by omega) hg).mono ?_
  rintro e w3 ⟨ap, cp, ap', cp', rfl, ⟨ip, _, f3⟩, ⟨_, _, _⟩⟩
  rw [HP.out] at ip ⊢
  have S2 := hide (S2.out.fr f3)
  have S3 := hide (S3.out.fr f3)
  have S4 := hide (S4.out.fr f3)
  have S5 := hide (S5.out.fr f3)
  have FW := hide (FW.out.trans f3)
  have IG := hide (IG.out.fr f3)
  have IP := hide ip
  clear f3 ip
  have q2 := S2.out.1
  have z2 := S2.out.2.1
  have q3 := S3.out.1
  have q5 := S5.out.1
  go_wp2_with fail
  have S3 := hide (S3.out.other S2.out (by omega) ap (nlen 4294967296 P) cp)
  have S4 := hide (Slot.other2 S4.out S2.out (by omega) ap (nlen 4294967296 P) cp)
  have IP := hide (S2.out.nat IP.out (.slice ap (nlen 4294967296 P) cp))
  have IG := hide (S2.out.nat IG.out (.slice ap (nlen 4294967296 P) cp))
  have FW := hide (S2.out.set_fr FW.out (.slice ap (nlen 4294967296 P) cp))
  have S2 := hide (S2.out.set ap (nlen 4294967296 P) cp)
  obtain ⟨V, hV⟩ : ∃ V, V = w3.setCell ⟨w.heap.size, 0, none⟩ (.slice ap (nlen 4294967296 P) cp) := ⟨_, rfl⟩
  rw [← hV] at S2 S3 S4 IP IG FW ⊢
  clear hV q2 z2 q3 q5 S5
  refine (div_yes _ _ y G _ (HB.out.fr FW.out) IG.out (by omega) (by omega) hg).mono ?_
  rintro e w4 ⟨ar, cr, ar', cr', rfl, ⟨ir, _, f4⟩, ⟨_, _, _⟩⟩
  rw [HR.out] at ir ⊢
  have S2 := hide (S2.out.fr f4)
  have S3 := hide (S3.out.fr f4)
  have S4 := hide (S4.out.fr f4)
  have FW := hide (FW.out.trans f4)
  have IP := hide (IP.out.fr f4)
  have IR := hide ir
  clear f4 ir IG
  have q2 := S2.out.1
  have q3 := S3.out.1
  have z3 := S3.out.2.1
  have q4 := S4.out.1
  have q5 := S4.out.2.1
  have z4 := S4.out.2.2.1 0
  have z5 := S4.out.2.2.1 1
  go_wp2_with fail
  have S4 := hide (Slot.other2 S4.out S3.out (by omega) ar (nlen 4294967296 R) cr)
  have IP := hide (S3.out.nat IP.out (.slice ar (nlen 4294967296 R) cr))
  have IR := hide (S3.out.nat IR.out (.slice ar (nlen 4294967296 R) cr))
  have FW := hide (S3.out.set_fr FW.out (.slice ar (nlen 4294967296 R) cr))
  have T := S4.out.set ap (nlen 4294967296 P) cp ar (nlen 4294967296 R) cr
  refine bodyPost_ret (results_rat rfl _ _ (w.heap.size + 1 + 1) _ _ rfl T.1 T.2.1) rfl ?_
  exact ⟨_, rfl, ⟨_, _, _, _, rfl, S4.out.nat IP.out _ _ _ _, S4.out.nat IR.out _ _ _ _⟩, S4.out.set_fr FW.out _ _⟩

theorem lowest_any (va vb : Value) (x y : Nat) (w : World) (hT : Tab w) (ha : IsNat w va x) (hb : IsNat w vb y) (hx : nlen 4294967296 x ≤ 1000000000) (hy : nlen 4294967296 y ≤ 1000000000) (hy0 : y ≠ 0) :
    Calls Tryd.prog 49 #[va, vb] w fun e w' => ∃ v, e = .returned v ∧ IsRat w' v x y ∧ Fr w w' := by
  by_cases c : x = 0
  · subst c
    refine (lowest_zero va vb y w ha hb).mono ?_
    rintro e w' ⟨rfl, f⟩
    refine ⟨_, rfl, ⟨hy0, ?_⟩, f⟩
    rw [(rN_zero hy0).2 rfl, show rZ 0 y = 0 from rfl]
    exact pair_zero _
  · refine (lowest_some va vb x y w hT ha hb hx hy c hy0).mono ?_
    rintro e w' ⟨v, rfl, h, f⟩
    refine ⟨v, rfl, ⟨hy0, ?_⟩, f⟩
    rw [show rZ x y = rD x y from if_neg c]
    exact h

/-- A quotient's value, laid open, and its terms. -/
theorem terms_rat (v : Value) (n d : Nat) (w : World) (h : IsRat w v n d) (hn : nlen 4294967296 n ≤ 100000000000) :
    Calls Tryd.prog 74 #[v] w fun e w' => ∃ a c b k, e = .returned (.tuple #[.agg #[.slice a (nlen 4294967296 (rN n d)) c], .agg #[.slice b (nlen 4294967296 (rD n d)) k]]) ∧ IsNat w' (.agg #[.slice a (nlen 4294967296 (rN n d)) c]) (rN n d) ∧ IsNat w' (.agg #[.slice b (nlen 4294967296 (rD n d)) k]) (rD n d) ∧ Fr w w' := by
  have := terms_any v _ _ w h.2 (nl_le hn (rN_le n d))
  have e : low (rN n d) (rZ n d) = rD n d := by
    unfold low rZ
    by_cases c : n = 0
    · subst c
      rw [if_pos ((rN_zero h.1).2 rfl), rD_zero h.1]
    · rw [if_neg (fun k => c ((rN_zero h.1).1 k)), if_neg c]
  rwa [e] at this
end Go.Proofs.YtmaapdmbkhoigaaDoor

/- Quotients: levelled, Cmp, Add, Mul, Away. -/
namespace Go.Proofs.YtmaapdmbkhoigaaDoor
set_option linter.unusedVariables false
set_option linter.unusedSimpArgs false
open Go.RowKit

attribute [local go_sem] World.cell?_alloc_some
theorem IsRat.form {w : World} {v : Value} {n d : Nat} (h : IsRat w v n d) : ∃ a N c b M k, v = .agg #[.slice a N c, .slice b M k] := by
  obtain ⟨_, a, c, b, k, h1, _, _⟩ := h
  exact ⟨a, _, c, b, _, k, h1⟩
theorem Pair.calm {w : World} {v : Value} {p z : Nat} (h : Pair w v p z) (q : Addr) (u : Value) (hb : NoNum w q.block) : Pair (w.setCell q u) v p z := by
  obtain ⟨a, c, b, k, h1, h2, h3⟩ := h
  exact ⟨a, c, b, k, h1, h2.calm q u hb, h3.calm q u hb⟩
theorem Slot.rat {W0 w : World} {b : Nat} {u : Value} (h : Slot W0 w b u) {v : Value} {n d : Nat} (k : IsRat w v n d) (u' : Value) : IsRat (w.setCell ⟨b, 0, none⟩ u') v n d := ⟨k.1, k.2.calm _ _ h.2.2.1⟩
theorem Slot2.rat {W0 w : World} {b : Nat} {u v : Value} (h : Slot2 W0 w b u v) {va : Value} {n d : Nat} (k : IsRat w va n d) (a : Option Addr) (m c : Nat) (u2 : Value) : IsRat ((w.setCell ⟨b, 0, none⟩ (.slice a m c)).setCell ⟨b, 1, none⟩ u2) va n d := ⟨k.1, (k.2.calm _ _ h.2.2.2.1).calm _ _ (h.2.2.2.1.put h.1 _ _ _)⟩

set_option maxHeartbeats 4000000 in
set_option maxRecDepth 4000 in
theorem levelled_any (va vb : Value) (n1 d1 n2 d2 : Nat) (w : World) (ha : IsRat w va n1 d1) (hb : IsRat w vb n2 d2) (h1 : nlen 4294967296 n1 ≤ 1000000) (k1 : nlen 4294967296 d1 ≤ 1000000) (h2 : nlen 4294967296 n2 ≤ 1000000) (k2 : nlen 4294967296 d2 ≤ 1000000) (L R D : Nat) (eL : rN n1 d1 * rD n2 d2 = L) (eR : rN n2 d2 * rD n1 d1 = R) (eD : rD n1 d1 * rD n2 d2 = D) :
    Calls Tryd.prog 52 #[va, vb] w fun e w' => ∃ aL cL aR cR aD cD, e = .returned (.tuple #[.agg #[.slice aL (nlen 4294967296 L) cL], .agg #[.slice aR (nlen 4294967296 R) cR], .agg #[.slice aD (nlen 4294967296 D) cD]]) ∧ IsNat w' (.agg #[.slice aL (nlen 4294967296 L) cL]) L ∧ IsNat w' (.agg #[.slice aR (nlen 4294967296 R) cR]) R ∧ IsNat w' (.agg #[.slice aD (nlen 4294967296 D) cD]) D ∧ Fr w w' := by
  have HA := hide ha
  have HB := hide hb
  obtain ⟨a, N, ca, b, M, cb, rfl⟩ := ha.form
  obtain ⟨a', N', ca', b', M', cb', rfl⟩ := hb.form
  have np1 : nlen 4294967296 (rN n1 d1) ≤ 1000000 := nl_le h1 (rN_le _ _)
  have nq1 : nlen 4294967296 (rD n1 d1) ≤ 1000000 := nl_le k1 (rD_le _ _)
  have np2 : nlen 4294967296 (rN n2 d2) ≤ 1000000 := nl_le h2 (rN_le _ _)
  have nq2 : nlen 4294967296 (rD n2 d2) ≤ 1000000 := nl_le k2 (rD_le _ _)
  have TA : Hid (∀ wz, Fr w wz → Calls Tryd.prog 74 #[.agg #[.slice a N ca, .slice b M cb]] wz fun e w' => ∃ a c b k, e = .returned (.tuple #[.agg #[.slice a (nlen 4294967296 (rN n1 d1)) c], .agg #[.slice b (nlen 4294967296 (rD n1 d1)) k]]) ∧ IsNat w' (.agg #[.slice a (nlen 4294967296 (rN n1 d1)) c]) (rN n1 d1) ∧ IsNat w' (.agg #[.slice b (nlen 4294967296 (rD n1 d1)) k]) (rD n1 d1) ∧ Fr wz w') := fun wz f => terms_rat _ n1 d1 wz (HA.out.fr f) (by omega)
  have TB : Hid (∀ wz, Fr w wz → Calls Tryd.prog 74 #[.agg #[.slice a' N' ca', .slice b' M' cb']] wz fun e w' => ∃ a c b k, e = .returned (.tuple #[.agg #[.slice a (nlen 4294967296 (rN n2 d2)) c], .agg #[.slice b (nlen 4294967296 (rD n2 d2)) k]]) ∧ IsNat w' (.agg #[.slice a (nlen 4294967296 (rN n2 d2)) c]) (rN n2 d2) ∧ IsNat w' (.agg #[.slice b (nlen 4294967296 (rD n2 d2)) k]) (rD n2 d2) ∧ Fr wz w') := fun wz f => terms_rat _ n2 d2 wz (HB.out.fr f) (by omega)
  generalize rN n1 d1 = p1 at *
  generalize rD n1 d1 = q1 at *
  generalize rN n2 d2 = p2 at *
  generalize rD n2 d2 = q2 at *
  have EL := hide eL
  have ER := hide eR
  have ED := hide eD
  clear HA HB ha hb eL eR eD h1 k1 h2 k2
  go_enter Tryd.func52, Tryd.ntmps52
  go_wp2_with fail
  obtain ⟨W, hW⟩ : ∃ W, W = (((((w.alloc (Obj.cells #[Value.slice a N ca, Value.slice b M cb] 80)).alloc (Obj.cells #[Value.slice a' N' ca', Value.slice b' M' cb'] 80)).alloc (Obj.cells #[Value.slice none 0 0] 78)).alloc (Obj.cells #[Value.slice none 0 0] 78)).alloc (Obj.cells #[Value.slice none 0 0] 78)) := ⟨_, rfl⟩
  have fW : Fr w W := by rw [hW]; exact (((((Fr.alloc w (Obj.cells #[Value.slice a N ca, Value.slice b M cb] 80)).trans (Fr.alloc _ (Obj.cells #[Value.slice a' N' ca', Value.slice b' M' cb'] 80))).trans (Fr.alloc _ (Obj.cells #[Value.slice none 0 0] 78))).trans (Fr.alloc _ (Obj.cells #[Value.slice none 0 0] 78))).trans (Fr.alloc _ (Obj.cells #[Value.slice none 0 0] 78)))
  have s2 : Slot2 w W (w.heap.size) (.slice a N ca) (.slice b M cb) := by
    rw [hW]; simpa using ((((Slot2.new (Fr.refl w) a N ca b M cb 80).fr (Fr.alloc _ _)).fr (Fr.alloc _ _)).fr (Fr.alloc _ _)).fr (Fr.alloc _ _)
  have s3 : Slot2 w W (w.heap.size + 1) (.slice a' N' ca') (.slice b' M' cb') := by
    rw [hW]; simpa using (((Slot2.new (Fr.alloc w (Obj.cells #[Value.slice a N ca, Value.slice b M cb] 80)) a' N' ca' b' M' cb' 80).fr (Fr.alloc _ _)).fr (Fr.alloc _ _)).fr (Fr.alloc _ _)
  have s4 : Slot w W (w.heap.size + 1 + 1) (.slice none 0 0) := by
    rw [hW]; simpa using ((Slot.new ((Fr.alloc w (Obj.cells #[Value.slice a N ca, Value.slice b M cb] 80)).trans (Fr.alloc _ (Obj.cells #[Value.slice a' N' ca', Value.slice b' M' cb'] 80))) none 0 0 78).fr (Fr.alloc _ _)).fr (Fr.alloc _ _)
  have s5 : Slot w W (w.heap.size + 1 + 1 + 1) (.slice none 0 0) := by
    rw [hW]; simpa using (Slot.new (((Fr.alloc w (Obj.cells #[Value.slice a N ca, Value.slice b M cb] 80)).trans (Fr.alloc _ (Obj.cells #[Value.slice a' N' ca', Value.slice b' M' cb'] 80))).trans (Fr.alloc _ (Obj.cells #[Value.slice none 0 0] 78))) none 0 0 78).fr (Fr.alloc _ _)
  have s6 : Slot w W (w.heap.size + 1 + 1 + 1 + 1) (.slice none 0 0) := by
    rw [hW]; simpa using Slot.new ((((Fr.alloc w (Obj.cells #[Value.slice a N ca, Value.slice b M cb] 80)).trans (Fr.alloc _ (Obj.cells #[Value.slice a' N' ca', Value.slice b' M' cb'] 80))).trans (Fr.alloc _ (Obj.cells #[Value.slice none 0 0] 78))).trans (Fr.alloc _ (Obj.cells #[Value.slice none 0 0] 78))) none 0 0 78
  rw [← hW]
  clear hW
  refine (TA.out _ fW).mono ?_
  rintro e w1 ⟨ap, cp, aq, cq, rfl, ip, iq, f1⟩
  have S3 := hide (s3.fr f1)
  have S4 := hide (s4.fr f1)
  have S5 := hide (s5.fr f1)
  have S6 := hide (s6.fr f1)
  have FW := hide (fW.trans f1)
  have l1 := cell_lt S6.out.1
  simp only [] at l1
  clear s2 s3 s4 s5 s6 fW f1 TA
  have q3 := S3.out.1
  have q3' := S3.out.2.1
  go_wp2_with fail
  obtain ⟨W1, hW1⟩ : ∃ W, W = ((w1.alloc (Obj.cells #[Value.slice ap (nlen 4294967296 p1) cp] 78)).alloc (Obj.cells #[Value.slice aq (nlen 4294967296 q1) cq] 78)) := ⟨_, rfl⟩
  have f1 : Fr w1 W1 := by rw [hW1]; exact ((Fr.alloc w1 (Obj.cells #[Value.slice ap (nlen 4294967296 p1) cp] 78)).trans (Fr.alloc _ (Obj.cells #[Value.slice aq (nlen 4294967296 q1) cq] 78)))
  have s7 : Slot w1 W1 (w1.heap.size) (.slice ap (nlen 4294967296 p1) cp) := by
    rw [hW1]; simpa using (Slot.new (Fr.refl w1) ap (nlen 4294967296 p1) cp 78).fr (Fr.alloc _ _)
  have s8 : Slot w1 W1 (w1.heap.size + 1) (.slice aq (nlen 4294967296 q1) cq) := by
    rw [hW1]; simpa using Slot.new (Fr.alloc w1 (Obj.cells #[Value.slice ap (nlen 4294967296 p1) cp] 78)) aq (nlen 4294967296 q1) cq 78
  rw [← hW1]
  clear hW1
  have S7 := hide s7
  have S8 := hide s8
  have S4 := hide (S4.out.fr f1)
  have S5 := hide (S5.out.fr f1)
  have S6 := hide (S6.out.fr f1)
  have FW := hide (FW.out.trans f1)
  have IP1 := hide (ip.fr f1)
  have IQ1 := hide (iq.fr f1)
  clear s7 s8 ip iq f1 q3 q3' S3
  refine (TB.out _ FW.out).mono ?_
  rintro e w2 ⟨ap', cp', aq', cq', rfl, ip, iq, f2⟩
  have S4 := hide (S4.out.fr f2)
  have S5 := hide (S5.out.fr f2)
  have S6 := hide (S6.out.fr f2)
  have S7 := hide (S7.out.fr f2)
  have S8 := hide (S8.out.fr f2)
  have IP1 := hide (IP1.out.fr f2)
  have IQ1 := hide (IQ1.out.fr f2)
  have FW := hide (FW.out.trans f2)
  have l2 := cell_lt S8.out.1
  simp only [] at l2
  clear f2 TB
  go_wp2_with fail
  obtain ⟨W2, hW2⟩ : ∃ W, W = ((w2.alloc (Obj.cells #[Value.slice ap' (nlen 4294967296 p2) cp'] 78)).alloc (Obj.cells #[Value.slice aq' (nlen 4294967296 q2) cq'] 78)) := ⟨_, rfl⟩
  have f2 : Fr w2 W2 := by rw [hW2]; exact ((Fr.alloc w2 (Obj.cells #[Value.slice ap' (nlen 4294967296 p2) cp'] 78)).trans (Fr.alloc _ (Obj.cells #[Value.slice aq' (nlen 4294967296 q2) cq'] 78)))
  have s9 : Slot w2 W2 (w2.heap.size) (.slice ap' (nlen 4294967296 p2) cp') := by
    rw [hW2]; simpa using (Slot.new (Fr.refl w2) ap' (nlen 4294967296 p2) cp' 78).fr (Fr.alloc _ _)
  have s10 : Slot w2 W2 (w2.heap.size + 1) (.slice aq' (nlen 4294967296 q2) cq') := by
    rw [hW2]; simpa using Slot.new (Fr.alloc w2 (Obj.cells #[Value.slice ap' (nlen 4294967296 p2) cp'] 78)) aq' (nlen 4294967296 q2) cq' 78
  rw [← hW2]
  clear hW2
  have IP2 := hide (ip.fr f2)
  have IQ2 := hide (iq.fr f2)
  have S9 := hide s9
  have S10 := hide s10
  have S4 := hide (S4.out.fr f2)
  have S5 := hide (S5.out.fr f2)
  have S6 := hide (S6.out.fr f2)
  have S7 := hide (S7.out.fr f2)
  have S8 := hide (S8.out.fr f2)
  have IP1 := hide (IP1.out.fr f2)
  have IQ1 := hide (IQ1.out.fr f2)
  have FW := hide (FW.out.trans f2)
  clear f2 ip iq s9 s10
  have S4 := hide (S4.out.fr (Fr.drew _))
  have S5 := hide (S5.out.fr (Fr.drew _))
  have S6 := hide (S6.out.fr (Fr.drew _))
  have S7 := hide (S7.out.fr (Fr.drew _))
  have S8 := hide (S8.out.fr (Fr.drew _))
  have S9 := hide (S9.out.fr (Fr.drew _))
  have S10 := hide (S10.out.fr (Fr.drew _))
  have IP1 := hide (IP1.out.fr (Fr.drew _))
  have IQ1 := hide (IQ1.out.fr (Fr.drew _))
  have IP2 := hide (IP2.out.fr (Fr.drew _))
  have IQ2 := hide (IQ2.out.fr (Fr.drew _))
  have FW := hide (FW.out.trans (Fr.drew _))
  have c7 := S7.out.1
  have c8 := S8.out.1
  have c9 := S9.out.1
  have c10 := S10.out.1
  go_wp2_with fail
  refine wp_region_held_drew (S := (fun w' => w'.cell? ⟨w1.heap.size, 0, none⟩ = some (.slice ap (nlen 4294967296 p1) cp) ∧ w'.cell? ⟨w1.heap.size + 1, 0, none⟩ = some (.slice aq (nlen 4294967296 q1) cq) ∧ w'.cell? ⟨w2.heap.size, 0, none⟩ = some (.slice ap' (nlen 4294967296 p2) cp') ∧ w'.cell? ⟨w2.heap.size + 1, 0, none⟩ = some (.slice aq' (nlen 4294967296 q2) cq'))) (by kernel_rfl) ?_ (fun hHeld => ?_)
  · exact ⟨S7.out.1, S8.out.1, S9.out.1, S10.out.1⟩
  obtain ⟨wd, hwd⟩ : ∃ wd, wd = W2.drew := ⟨_, rfl⟩
  rw [← hwd] at hHeld S4 S5 S6 S7 S8 S9 S10 IP1 IQ1 IP2 IQ2 FW ⊢
  clear hwd
  refine wpAnyH_take (i := 0) (v := ?_) rfl (by kernel_rfl) (by kernel_rfl) (by kernel_rfl) (fun _ _ _ h => h) (Or.inl ⟨by rfl, ?_⟩) (by assumption) ?_
  rotate_left
  · (intro w hSw; (try dsimp only at hSw); go_simp; try with_reducible rfl)
  (try simp only [Act.put, List.getElem_toArray, List.getElem_cons_zero, List.getElem_cons_succ, List.setIfInBounds_toArray, List.set_cons_zero, List.set_cons_succ])
  refine wpAnyH_take (i := 1) (v := ?_) rfl (by kernel_rfl) (by kernel_rfl) (by kernel_rfl) (fun _ _ _ h => h) (Or.inl ⟨by rfl, ?_⟩) (by assumption) ?_
  rotate_left
  · (intro w hSw; (try dsimp only at hSw); go_simp; try with_reducible rfl)
  (try simp only [Act.put, List.getElem_toArray, List.getElem_cons_zero, List.getElem_cons_succ, List.setIfInBounds_toArray, List.set_cons_zero, List.set_cons_succ])
  refine wpAnyH_take (i := 3) (v := ?_) rfl (by kernel_rfl) (by kernel_rfl) (by kernel_rfl) (fun _ _ _ h => h) (Or.inl ⟨by rfl, ?_⟩) (by assumption) ?_
  rotate_left
  · (intro w hSw; (try dsimp only at hSw); go_simp; try with_reducible rfl)
  (try simp only [Act.put, List.getElem_toArray, List.getElem_cons_zero, List.getElem_cons_succ, List.setIfInBounds_toArray, List.set_cons_zero, List.set_cons_succ])
  refine wpAnyH_take (i := 4) (v := ?_) rfl (by kernel_rfl) (by kernel_rfl) (by kernel_rfl) (fun _ _ _ h => h) (Or.inl ⟨by rfl, ?_⟩) (by assumption) ?_
  rotate_left
  · (intro w hSw; (try dsimp only at hSw); go_simp; try with_reducible rfl)
  (try simp only [Act.put, List.getElem_toArray, List.getElem_cons_zero, List.getElem_cons_succ, List.setIfInBounds_toArray, List.set_cons_zero, List.set_cons_succ])
  refine wpAnyH_take (i := 6) (v := ?_) rfl (by kernel_rfl) (by kernel_rfl) (by kernel_rfl) (fun _ _ _ h => h) (Or.inl ⟨by rfl, ?_⟩) (by assumption) ?_
  rotate_left
  · (intro w hSw; (try dsimp only at hSw); go_simp; try with_reducible rfl)
  (try simp only [Act.put, List.getElem_toArray, List.getElem_cons_zero, List.getElem_cons_succ, List.setIfInBounds_toArray, List.set_cons_zero, List.set_cons_succ])
  refine wpAnyH_take (i := 7) (v := ?_) rfl (by kernel_rfl) (by kernel_rfl) (by kernel_rfl) (fun _ _ _ h => h) (Or.inl ⟨by rfl, ?_⟩) (by assumption) ?_
  rotate_left
  · (intro w hSw; (try dsimp only at hSw); go_simp; try with_reducible rfl)
  (try simp only [Act.put, List.getElem_toArray, List.getElem_cons_zero, List.getElem_cons_succ, List.setIfInBounds_toArray, List.set_cons_zero, List.set_cons_succ])
  refine wpAnyH_ready (rs := [2]) (by kernel_rfl) (by simp) ?_
  refine AllReadyH.cons rfl (fun K hK => ?_) AllReadyH.nil
  go_simp
  refine (mul_any _ _ p1 q2 _ IP1.out IQ2.out (by omega) (by omega)).mono ?_
  rintro e wL ⟨aL, cL, rfl, iL, _, fy⟩
  rw [EL.out] at iL ⊢
  have IL := hide iL
  have S4 := hide (S4.out.fr fy)
  have S5 := hide (S5.out.fr fy)
  have S6 := hide (S6.out.fr fy)
  have S7 := hide (S7.out.fr fy)
  have S8 := hide (S8.out.fr fy)
  have S9 := hide (S9.out.fr fy)
  have S10 := hide (S10.out.fr fy)
  have IP1 := hide (IP1.out.fr fy)
  have IQ1 := hide (IQ1.out.fr fy)
  have IP2 := hide (IP2.out.fr fy)
  have IQ2 := hide (IQ2.out.fr fy)
  have FW := hide (FW.out.trans fy)
  clear iL fy
  (try go_wp2_with fail)
  refine hK.out _ _ ?_ (fun hHeld => ?_)
  · (try dsimp only)
    exact ⟨S7.out.1, S8.out.1, S9.out.1, S10.out.1⟩
  clear hK K
  (try simp only [Act.put, List.getElem_toArray, List.getElem_cons_zero, List.getElem_cons_succ, List.setIfInBounds_toArray, List.set_cons_zero, List.set_cons_succ])
  refine wpAnyH_ready (rs := [5]) (by kernel_rfl) (by simp) ?_
  refine AllReadyH.cons rfl (fun K hK => ?_) AllReadyH.nil
  go_simp
  refine (mul_any _ _ p2 q1 _ IP2.out IQ1.out (by omega) (by omega)).mono ?_
  rintro e wR ⟨aR, cR, rfl, iR, _, fy⟩
  rw [ER.out] at iR ⊢
  have IR := hide iR
  have S4 := hide (S4.out.fr fy)
  have S5 := hide (S5.out.fr fy)
  have S6 := hide (S6.out.fr fy)
  have S7 := hide (S7.out.fr fy)
  have S8 := hide (S8.out.fr fy)
  have S9 := hide (S9.out.fr fy)
  have S10 := hide (S10.out.fr fy)
  have IP1 := hide (IP1.out.fr fy)
  have IQ1 := hide (IQ1.out.fr fy)
  have IP2 := hide (IP2.out.fr fy)
  have IQ2 := hide (IQ2.out.fr fy)
  have IL := hide (IL.out.fr fy)
  have FW := hide (FW.out.trans fy)
  clear iR fy
  (try go_wp2_with fail)
  refine hK.out _ _ ?_ (fun hHeld => ?_)
  · (try dsimp only)
    exact ⟨S7.out.1, S8.out.1, S9.out.1, S10.out.1⟩
  clear hK K
  (try simp only [Act.put, List.getElem_toArray, List.getElem_cons_zero, List.getElem_cons_succ, List.setIfInBounds_toArray, List.set_cons_zero, List.set_cons_succ])
  refine wpAnyH_ready (rs := [8]) (by kernel_rfl) (by simp) ?_
  refine AllReadyH.cons rfl (fun K hK => ?_) AllReadyH.nil
  go_simp
  refine (mul_any _ _ q1 q2 _ IQ1.out IQ2.out (by omega) (by omega)).mono ?_
  rintro e wD ⟨aD, cD, rfl, iD, _, fy⟩
  rw [ED.out] at iD ⊢
  have ID := hide iD
  have S4 := hide (S4.out.fr fy)
  have S5 := hide (S5.out.fr fy)
  have S6 := hide (S6.out.fr fy)
  have S7 := hide (S7.out.fr fy)
  have S8 := hide (S8.out.fr fy)
  have S9 := hide (S9.out.fr fy)
  have S10 := hide (S10.out.fr fy)
  have IP1 := hide (IP1.out.fr fy)
  have IQ1 := hide (IQ1.out.fr fy)
  have IP2 := hide (IP2.out.fr fy)
  have IQ2 := hide (IQ2.out.fr fy)
  have IL := hide (IL.out.fr fy)
  have IR := hide (IR.out.fr fy)
  have FW := hide (FW.out.trans fy)
  clear iD fy
  (try go_wp2_with fail)
  refine hK.out _ _ ?_ (fun hHeld => ?_)
  · (try dsimp only)
    exact ⟨S7.out.1, S8.out.1, S9.out.1, S10.out.1⟩
  clear hK K
  (try simp only [Act.put, List.getElem_toArray, List.getElem_cons_zero, List.getElem_cons_succ, List.setIfInBounds_toArray, List.set_cons_zero, List.set_cons_succ])
  refine wpAnyH_ready (rs := [9]) (by kernel_rfl) (by simp) ?_
  refine AllReadyH.cons rfl (fun K hK => ?_) AllReadyH.nil
  have q_ := S4.out.1
  have z_ := S4.out.2.1
  have S5 := hide (S5.out.other S4.out (by omega) aL (nlen 4294967296 L) cL)
  have S6 := hide (S6.out.other S4.out (by omega) aL (nlen 4294967296 L) cL)
  have S7 := hide (S7.out.other S4.out (by omega) aL (nlen 4294967296 L) cL)
  have S8 := hide (S8.out.other S4.out (by omega) aL (nlen 4294967296 L) cL)
  have S9 := hide (S9.out.other S4.out (by omega) aL (nlen 4294967296 L) cL)
  have S10 := hide (S10.out.other S4.out (by omega) aL (nlen 4294967296 L) cL)
  have IL := hide (S4.out.nat IL.out (.slice aL (nlen 4294967296 L) cL))
  have IR := hide (S4.out.nat IR.out (.slice aL (nlen 4294967296 L) cL))
  have ID := hide (S4.out.nat ID.out (.slice aL (nlen 4294967296 L) cL))
  have FW := hide (S4.out.set_fr FW.out (.slice aL (nlen 4294967296 L) cL))
  have S4 := hide (S4.out.set aL (nlen 4294967296 L) cL)
  go_simp
  (try go_wp2_with fail)
  refine hK.out _ _ ?_ (fun hHeld => ?_)
  · (try dsimp only)
    exact ⟨S7.out.1, S8.out.1, S9.out.1, S10.out.1⟩
  clear hK K
  (try simp only [Act.put, List.getElem_toArray, List.getElem_cons_zero, List.getElem_cons_succ, List.setIfInBounds_toArray, List.set_cons_zero, List.set_cons_succ])
  refine wpAnyH_ready (rs := [10]) (by kernel_rfl) (by simp) ?_
  refine AllReadyH.cons rfl (fun K hK => ?_) AllReadyH.nil
  obtain ⟨V1, hV1⟩ : ∃ V, V = wD.setCell ⟨w.heap.size + 1 + 1, 0, none⟩ (.slice aL (nlen 4294967296 L) cL) := ⟨_, rfl⟩
  rw [← hV1] at hHeld S4 S5 S6 S7 S8 S9 S10 IL IR ID FW ⊢
  clear hV1
  have q_ := S5.out.1
  have z_ := S5.out.2.1
  have S4 := hide (S4.out.other S5.out (by omega) aR (nlen 4294967296 R) cR)
  have S6 := hide (S6.out.other S5.out (by omega) aR (nlen 4294967296 R) cR)
  have S7 := hide (S7.out.other S5.out (by omega) aR (nlen 4294967296 R) cR)
  have S8 := hide (S8.out.other S5.out (by omega) aR (nlen 4294967296 R) cR)
  have S9 := hide (S9.out.other S5.out (by omega) aR (nlen 4294967296 R) cR)
  have S10 := hide (S10.out.other S5.out (by omega) aR (nlen 4294967296 R) cR)
  have IL := hide (S5.out.nat IL.out (.slice aR (nlen 4294967296 R) cR))
  have IR := hide (S5.out.nat IR.out (.slice aR (nlen 4294967296 R) cR))
  have ID := hide (S5.out.nat ID.out (.slice aR (nlen 4294967296 R) cR))
  have FW := hide (S5.out.set_fr FW.out (.slice aR (nlen 4294967296 R) cR))
  have S5 := hide (S5.out.set aR (nlen 4294967296 R) cR)
  go_simp
  (try go_wp2_with fail)
  refine hK.out _ _ ?_ (fun hHeld => ?_)
  · (try dsimp only)
    exact ⟨S7.out.1, S8.out.1, S9.out.1, S10.out.1⟩
  clear hK K
  (try simp only [Act.put, List.getElem_toArray, List.getElem_cons_zero, List.getElem_cons_succ, List.setIfInBounds_toArray, List.set_cons_zero, List.set_cons_succ])
  refine wpAnyH_ready (rs := [11]) (by kernel_rfl) (by simp) ?_
  refine AllReadyH.cons rfl (fun K hK => ?_) AllReadyH.nil
  obtain ⟨V2, hV2⟩ : ∃ V, V = V1.setCell ⟨w.heap.size + 1 + 1 + 1, 0, none⟩ (.slice aR (nlen 4294967296 R) cR) := ⟨_, rfl⟩
  rw [← hV2] at hHeld S4 S5 S6 S7 S8 S9 S10 IL IR ID FW ⊢
  clear hV2
  have q_ := S6.out.1
  have z_ := S6.out.2.1
  have S4 := hide (S4.out.other S6.out (by omega) aD (nlen 4294967296 D) cD)
  have S5 := hide (S5.out.other S6.out (by omega) aD (nlen 4294967296 D) cD)
  have S7 := hide (S7.out.other S6.out (by omega) aD (nlen 4294967296 D) cD)
  have S8 := hide (S8.out.other S6.out (by omega) aD (nlen 4294967296 D) cD)
  have S9 := hide (S9.out.other S6.out (by omega) aD (nlen 4294967296 D) cD)
  have S10 := hide (S10.out.other S6.out (by omega) aD (nlen 4294967296 D) cD)
  have IL := hide (S6.out.nat IL.out (.slice aD (nlen 4294967296 D) cD))
  have IR := hide (S6.out.nat IR.out (.slice aD (nlen 4294967296 D) cD))
  have ID := hide (S6.out.nat ID.out (.slice aD (nlen 4294967296 D) cD))
  have FW := hide (S6.out.set_fr FW.out (.slice aD (nlen 4294967296 D) cD))
  have S6 := hide (S6.out.set aD (nlen 4294967296 D) cD)
  go_simp
  (try go_wp2_with fail)
  refine hK.out _ _ ?_ (fun hHeld => ?_)
  · (try dsimp only)
    exact ⟨S7.out.1, S8.out.1, S9.out.1, S10.out.1⟩
  clear hK K
  (try simp only [Act.put, List.getElem_toArray, List.getElem_cons_zero, List.getElem_cons_succ, List.setIfInBounds_toArray, List.set_cons_zero, List.set_cons_succ])
  refine wpAnyH_done (by kernel_rfl) ?_ _
  go_wp2_with fail
  exact bodyPost_ret (results_nat3 rfl _ _ (w.heap.size + 1 + 1) (w.heap.size + 1 + 1 + 1) (w.heap.size + 1 + 1 + 1 + 1) _ _ _ rfl rfl rfl S4.out.1 S5.out.1 S6.out.1) rfl ⟨_, _, _, _, _, _, rfl, IL.out, IR.out, ID.out, FW.out⟩
end Go.Proofs.YtmaapdmbkhoigaaDoor

/- Quotients: Cmp, Add, Away, Mul. -/
namespace Go.Proofs.YtmaapdmbkhoigaaDoor
set_option linter.unusedVariables false
set_option linter.unusedSimpArgs false
open Go.RowKit

attribute [local go_sem] World.cell?_alloc_some
theorem lev_cmp {n1 d1 n2 d2 : Nat} (h1 : d1 ≠ 0) (h2 : d2 ≠ 0) : cmpZ (rN n1 d1 * rD n2 d2) (rN n2 d2 * rD n1 d1) = cmpZ (n1 * d2) (n2 * d1) := by
  have g1 := gcd_pos_right (n := n1) h1
  have g2 := gcd_pos_right (n := n2) h2
  have a1 := @rN_mul n1 d1
  have a2 := @rD_mul n1 d1
  have b1 := @rN_mul n2 d2
  have b2 := @rD_mul n2 d2
  have hk : Nat.gcd n1 d1 * Nat.gcd n2 d2 ≠ 0 := Nat.mul_ne_zero (by omega) (by omega)
  rw [← cmpZ_scale hk]
  generalize Nat.gcd n1 d1 = G1 at *
  generalize Nat.gcd n2 d2 = G2 at *
  generalize rN n1 d1 = P1 at *
  generalize rD n1 d1 = Q1 at *
  generalize rN n2 d2 = P2 at *
  generalize rD n2 d2 = Q2 at *
  subst a1 a2 b1 b2
  congr 1 <;> ac_rfl
set_option maxHeartbeats 2000000 in
set_option maxRecDepth 4000 in
theorem cmpR_any (va vb : Value) (n1 d1 n2 d2 : Nat) (w : World) (hT : Tab w) (ha : IsRat w va n1 d1) (hb : IsRat w vb n2 d2) (h1 : nlen 4294967296 n1 ≤ 1000000) (k1 : nlen 4294967296 d1 ≤ 1000000) (h2 : nlen 4294967296 n2 ≤ 1000000) (k2 : nlen 4294967296 d2 ≤ 1000000) (Z : Int) (eZ : cmpZ (n1 * d2) (n2 * d1) = Z) :
    Calls Tryd.prog 33 #[va, vb] w fun e w' => e = .returned (.int .i64 Z) ∧ Fr w w' := by
  have HA := hide ha
  have HB := hide hb
  have HT := hide hT
  obtain ⟨a, N, ca, b, M, cb, rfl⟩ := ha.form
  obtain ⟨a', N', ca', b', M', cb', rfl⟩ := hb.form
  have hd1 := ha.1
  have hd2 := hb.1
  have np1 : nlen 4294967296 (rN n1 d1) ≤ 1000000 := nl_le h1 (rN_le _ _)
  have nq1 : nlen 4294967296 (rD n1 d1) ≤ 1000000 := nl_le k1 (rD_le _ _)
  have np2 : nlen 4294967296 (rN n2 d2) ≤ 1000000 := nl_le h2 (rN_le _ _)
  have nq2 : nlen 4294967296 (rD n2 d2) ≤ 1000000 := nl_le k2 (rD_le _ _)
  have nL : nlen 4294967296 (rN n1 d1 * rD n2 d2) ≤ 2000000 := nlen_mul b32 np1 nq2
  have nR : nlen 4294967296 (rN n2 d2 * rD n1 d1) ≤ 2000000 := nlen_mul b32 np2 nq1
  have nD : nlen 4294967296 (rD n1 d1 * rD n2 d2) ≤ 2000000 := nlen_mul b32 nq1 nq2
  have hD0 : rD n1 d1 * rD n2 d2 ≠ 0 := Nat.mul_ne_zero (rD_pos hd1) (rD_pos hd2)
  obtain ⟨L, hL⟩ : ∃ L, rN n1 d1 * rD n2 d2 = L := ⟨_, rfl⟩
  obtain ⟨R, hR⟩ : ∃ R, rN n2 d2 * rD n1 d1 = R := ⟨_, rfl⟩
  obtain ⟨D, hD⟩ : ∃ D, rD n1 d1 * rD n2 d2 = D := ⟨_, rfl⟩
  rw [hL] at nL
  rw [hR] at nR
  rw [hD] at nD hD0
  have EL := hide hL
  have ER := hide hR
  have ED := hide hD
  rw [← lev_cmp hd1 hd2, hL, hR] at eZ
  have EZ := hide eZ
  clear hL hR hD ha hb hT eZ
  go_enter Tryd.func33, Tryd.ntmps33
  go_wp2_with fail
  obtain ⟨W, hW⟩ : ∃ W, W = ((w.alloc (Obj.cells #[Value.slice a N ca, Value.slice b M cb] 80)).alloc (Obj.cells #[Value.slice a' N' ca', Value.slice b' M' cb'] 80)) := ⟨_, rfl⟩
  have fW : Fr w W := by rw [hW]; exact ((Fr.alloc w (Obj.cells #[Value.slice a N ca, Value.slice b M cb] 80)).trans (Fr.alloc _ (Obj.cells #[Value.slice a' N' ca', Value.slice b' M' cb'] 80)))
  have s2 : Slot2 w W (w.heap.size) (.slice a N ca) (.slice b M cb) := by
    rw [hW]; simpa using (Slot2.new (Fr.refl w) a N ca b M cb 80).fr (Fr.alloc _ _)
  have s3 : Slot2 w W (w.heap.size + 1) (.slice a' N' ca') (.slice b' M' cb') := by
    rw [hW]; simpa using Slot2.new (Fr.alloc w (Obj.cells #[Value.slice a N ca, Value.slice b M cb] 80)) a' N' ca' b' M' cb' 80
  rw [← hW]
  clear hW
  refine (levelled_any _ _ n1 d1 n2 d2 _ (HA.out.fr fW) (HB.out.fr fW) h1 k1 h2 k2 L R D EL.out ER.out ED.out).mono ?_
  rintro e w1 ⟨aL, cL, aR, cR, aD, cD, rfl, iL, iR, iD, f1⟩
  have F := hide (fW.trans f1)
  have IL := hide iL
  have IR := hide iR
  clear iL iR iD s2 s3 fW f1
  go_wp2_with fail
  obtain ⟨W1, hW1⟩ : ∃ W, W = (((w1.alloc (Obj.cells #[Value.slice aL (nlen 4294967296 L) cL] 78)).alloc (Obj.cells #[Value.slice aR (nlen 4294967296 R) cR] 78)).alloc (Obj.cells #[Value.slice aD (nlen 4294967296 D) cD] 78)) := ⟨_, rfl⟩
  have f1 : Fr w1 W1 := by rw [hW1]; exact (((Fr.alloc w1 (Obj.cells #[Value.slice aL (nlen 4294967296 L) cL] 78)).trans (Fr.alloc _ (Obj.cells #[Value.slice aR (nlen 4294967296 R) cR] 78))).trans (Fr.alloc _ (Obj.cells #[Value.slice aD (nlen 4294967296 D) cD] 78)))
  rw [← hW1]
  clear hW1
  refine (cmp_any _ _ L R _ (IL.out.fr f1) (IR.out.fr f1) (by omega) (by omega)).mono ?_
  rintro e w2 ⟨rfl, f2⟩
  rw [EZ.out]
  have F := hide ((F.out.trans f1).trans f2)
  go_wp2_with fail
  go_ret
  exact ⟨rfl, F.out⟩

end Go.Proofs.YtmaapdmbkhoigaaDoor

/- Quotients: Away, Of, Parts, Scale. -/
namespace Go.Proofs.YtmaapdmbkhoigaaDoor
set_option linter.unusedVariables false
set_option linter.unusedSimpArgs false
open Go.RowKit

attribute [local go_sem] World.cell?_alloc_some
set_option maxHeartbeats 600000 in
set_option maxRecDepth 4000 in
theorem ofR_yes (va vb : Value) (x y : Nat) (w : World) (hT : Tab w) (ha : IsNat w va x) (hb : IsNat w vb y) (hx : nlen 4294967296 x ≤ 1000000) (hy : nlen 4294967296 y ≤ 1000000) (hy0 : y ≠ 0) :
    Calls Tryd.prog 54 #[va, vb] w fun e w' => ∃ v, e = .returned (.tuple #[v, .bool true]) ∧ IsRat w' v x y ∧ Fr w w' := by
  have HA := hide ha
  have HB := hide hb
  have HT := hide hT
  obtain ⟨a, ca, rfl, a2, a3, a4⟩ := ha
  obtain ⟨b, cb, rfl, b2, b3, b4⟩ := hb
  clear a4 b4 hT
  go_enter Tryd.func54, Tryd.ntmps54
  go_wp2_with fail
  obtain ⟨W, hW⟩ : ∃ W, W = (((w.alloc (Obj.cells #[Value.slice a (nlen 4294967296 x) ca] 78)).alloc (Obj.cells #[Value.slice b (nlen 4294967296 y) cb] 78)).alloc (Obj.cells #[Value.slice none 0 0, Value.slice none 0 0] 80)) := ⟨_, rfl⟩
  have fW : Fr w W := by rw [hW]; exact (((Fr.alloc w (Obj.cells #[Value.slice a (nlen 4294967296 x) ca] 78)).trans (Fr.alloc _ (Obj.cells #[Value.slice b (nlen 4294967296 y) cb] 78))).trans (Fr.alloc _ (Obj.cells #[Value.slice none 0 0, Value.slice none 0 0] 80)))
  have s2 : Slot w W (w.heap.size) (.slice a (nlen 4294967296 x) ca) := by
    rw [hW]; simpa using ((Slot.new (Fr.refl w) a (nlen 4294967296 x) ca 78).fr (Fr.alloc _ _)).fr (Fr.alloc _ _)
  have s3 : Slot w W (w.heap.size + 1) (.slice b (nlen 4294967296 y) cb) := by
    rw [hW]; simpa using (Slot.new (Fr.alloc w (Obj.cells #[Value.slice a (nlen 4294967296 x) ca] 78)) b (nlen 4294967296 y) cb 78).fr (Fr.alloc _ _)
  have s4 : Slot2 w W (w.heap.size + 1 + 1) (.slice none 0 0) (.slice none 0 0) := by
    rw [hW]; simpa using Slot2.new ((Fr.alloc w (Obj.cells #[Value.slice a (nlen 4294967296 x) ca] 78)).trans (Fr.alloc _ (Obj.cells #[Value.slice b (nlen 4294967296 y) cb] 78))) none 0 0 none 0 0 80
  rw [← hW]
  clear hW
  refine (isNought_any _ y _ (HB.out.fr fW) (by omega)).mono ?_
  rintro e w1 ⟨rfl, f1⟩
  rw [decide_eq_false hy0]
  have S4 := hide (s4.fr f1)
  have FW := hide (fW.trans f1)
  have q2 := (s2.fr f1).1
  have q3 := (s3.fr f1).1
  clear s2 s3 s4 fW f1
  go_wp2_with fail
  refine (lowest_any _ _ x y _ (Tab.fr HT.out FW.out) (HA.out.fr FW.out) (HB.out.fr FW.out) (by omega) (by omega) hy0).mono ?_
  rintro e wr ⟨v, rfl, ir, fy⟩
  have RV := hide ir
  have S4 := hide (S4.out.fr fy)
  have FW := hide (FW.out.trans fy)
  obtain ⟨u1, u2, u3, u4, u5, u6, rfl⟩ := ir.form
  clear ir fy
  have q_ := S4.out.1
  have q2_ := S4.out.2.1
  have z_ := S4.out.2.2.1 0
  have z2_ := S4.out.2.2.1 1
  have RV := hide (S4.out.rat RV.out u1 u2 u3 (.slice u4 u5 u6))
  have FW := hide (S4.out.set_fr FW.out (.slice u1 u2 u3) (.slice u4 u5 u6))
  have S4 := hide (S4.out.set u1 u2 u3 u4 u5 u6)
  go_wp2_with fail
  exact bodyPost_ret (results_rat_ok rfl _ _ (w.heap.size + 1 + 1) _ _ rfl S4.out.1 S4.out.2.1) rfl ⟨_, rfl, RV.out, FW.out⟩
end Go.Proofs.YtmaapdmbkhoigaaDoor

/- Quotients: Parts, Scale. -/
namespace Go.Proofs.YtmaapdmbkhoigaaDoor
set_option linter.unusedVariables false
set_option linter.unusedSimpArgs false
open Go.RowKit

attribute [local go_sem] World.cell?_alloc_some
end Go.Proofs.YtmaapdmbkhoigaaDoor
