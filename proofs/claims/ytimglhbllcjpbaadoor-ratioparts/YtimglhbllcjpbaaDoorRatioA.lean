/- Quotients: how they are told; isNought, Terms. -/
import Derived.Test.YtimglhbllcjpbaaDoorDownA
import Derived.Test.YtimglhbllcjpbaaDoorGcdA
import Derived.BigQuiet
import Derived.Deep.RegionHeld3
import Derived.Deep.DeepCutAuto
namespace Go.Proofs.YtimglhbllcjpbaaDoor
set_option linter.unusedVariables false
set_option linter.unusedSimpArgs false
open Go.RowKit

attribute [local go_sem] World.cell?_alloc_some

set_option maxHeartbeats 1000000 in
set_option maxRecDepth 4000 in
theorem isNought_any (v : Value) (x : Nat) (w : World) (h : IsNat w v x) (hn : nlen 4294967296 x ≤ 100000000000) :
    Calls Tryd.prog 32 #[v] w fun e w' => e = .returned (.bool (decide (x = 0))) ∧ Fr w w' := by
  have H := hide h
  obtain ⟨a, cap, rfl, h2, h3, h4⟩ := h
  clear h4
  have e0 : decide (x = 0) = ((nlen 2 x : Int) == 0) := by
    by_cases c : x = 0
    · subst c; rw [nlen_zero]; rfl
    · have := nlen_pos (B := 2) (by omega) c
      have h : nlen 2 x ≠ 0 := by omega
      simp [h, c]
  rw [e0]
  clear e0
  go_enter Tryd.func32, Tryd.ntmps32
  go_wp2_with fail
  refine (bits_any _ x _ (IsNat.fr H.out (Fr.alloc _ _)) (by omega)).mono ?_
  rintro e w1 ⟨rfl, f1⟩
  have F := (Fr.alloc w (Obj.cells #[Value.slice a (nlen 4294967296 x) cap] 24)).trans f1
  go_wp2_with fail
  go_ret
  exact ⟨rfl, F⟩

/-- No number lies in a block. -/
def NoNum (w : World) (b : Nat) : Prop := ∀ (off : Nat) (k : IntKind) (z : Int), w.cell? ⟨b, off, none⟩ ≠ some (.int k z)
theorem NoNum.fr {w w' : World} {b : Nat} (h : NoNum w b) (hb : b < w.heap.size) (f : Fr w w') : NoNum w' b := fun off k z e => h off k z ((Below.cell f hb).symm.trans e)
theorem NoNum.new1 (w : World) (a : Option Addr) (n c : Nat) (t : TypeId) : NoNum (w.alloc (.cells #[.slice a n c] t)) w.heap.size := by
  intro off k z e
  simp [go_sem] at e
  rcases off with _ | off <;> simp at e
theorem NoNum.new2 (w : World) (a b : Option Addr) (n c m d : Nat) (t : TypeId) : NoNum (w.alloc (.cells #[.slice a n c, .slice b m d] t)) w.heap.size := by
  intro off k z e
  simp [go_sem] at e
  rcases off with _ | _ | off <;> simp at e
theorem NoNum.put {w : World} {b : Nat} (h : NoNum w b) {p : Addr} {u : Value} (hp : w.cell? p = some u) (a : Option Addr) (n c : Nat) : NoNum (w.setCell p (.slice a n c)) b := by
  intro off k z e
  by_cases hq : p = ⟨b, off, none⟩
  · subst hq
    rw [World.cell?_setCell_same _ _ _ hp] at e; cases e
  · rw [World.cell?_setCell_other w p _ _ hq] at e
    exact h off k z e
theorem IsNat.calm {w : World} {v : Value} {x : Nat} (h : IsNat w v x) (p : Addr) (u : Value) (hb : NoNum w p.block) : IsNat (w.setCell p u) v x := by
  obtain ⟨a, c, rfl, h2, h3, h4⟩ := h
  refine ⟨a, c, rfl, h2, h3, ?_⟩
  by_cases h0 : nlen 4294967296 x = 0
  · exact .inl h0
  · refine h4.set p u ?_
    rcases h4 with h4 | ⟨b, off, rfl, hb', hc⟩
    · exact absurd h4 h0
    · intro g off' s e e2
      simp only [Option.some.injEq, Addr.mk.injEq] at e
      obtain ⟨rfl, rfl, rfl⟩ := e
      subst e2
      exact hb _ _ _ (hc 0 (by omega))

/-- A variable of a Nat at block b, new since W0: what lies in it, and that it may be written. -/
def Slot (W0 w : World) (b : Nat) (u : Value) : Prop := w.cell? ⟨b, 0, none⟩ = some u ∧ w.frozen? ⟨b, 0, none⟩ = false ∧ NoNum w b ∧ W0.heap.size ≤ b
theorem Slot.fr {W0 w w' : World} {b : Nat} {u : Value} (h : Slot W0 w b u) (f : Fr w w') : Slot W0 w' b u := ⟨fr_cell f h.1, fr_free f h.1 h.2.1, h.2.2.1.fr (cell_lt h.1) f, h.2.2.2⟩
theorem Slot.old {W0 W1 w : World} {b : Nat} {u : Value} (h : Slot W1 w b u) (f : Fr W0 W1) : Slot W0 w b u := ⟨h.1, h.2.1, h.2.2.1, Nat.le_trans f.size h.2.2.2⟩
theorem Slot.new {W0 w : World} (f : Fr W0 w) (a : Option Addr) (n c : Nat) (t : TypeId) : Slot W0 (w.alloc (.cells #[.slice a n c] t)) w.heap.size (.slice a n c) := ⟨by simp [go_sem], by simp [go_sem], NoNum.new1 _ _ _ _ _, f.size⟩
theorem Slot.set {W0 w : World} {b : Nat} {u : Value} (h : Slot W0 w b u) (a : Option Addr) (n c : Nat) : Slot W0 (w.setCell ⟨b, 0, none⟩ (.slice a n c)) b (.slice a n c) := ⟨World.cell?_setCell_same _ _ _ h.1, by simpa using h.2.1, h.2.2.1.put h.1 _ _ _, h.2.2.2⟩
theorem Slot.set_fr {W0 w : World} {b : Nat} {u : Value} (h : Slot W0 w b u) (f : Fr W0 w) (v : Value) : Fr W0 (w.setCell ⟨b, 0, none⟩ v) := Below.setCell f h.2.2.2 _
theorem Slot.nat {W0 w : World} {b : Nat} {u : Value} (h : Slot W0 w b u) {v : Value} {x : Nat} (k : IsNat w v x) (u' : Value) : IsNat (w.setCell ⟨b, 0, none⟩ u') v x := k.calm _ _ h.2.2.1
theorem Slot.other {W0 W1 w : World} {b b' : Nat} {u u' : Value} (h : Slot W0 w b u) (k : Slot W1 w b' u') (hne : b' ≠ b) (a : Option Addr) (n c : Nat) : Slot W0 (w.setCell ⟨b', 0, none⟩ (.slice a n c)) b u :=
  ⟨(World.cell?_setCell_other _ _ _ _ (fun e => hne (by injection e))).trans h.1, by simpa using h.2.1, h.2.2.1.put k.1 _ _ _, h.2.2.2⟩

/-- A quotient's value: two Nats. -/
def Pair (w : World) (v : Value) (p z : Nat) : Prop := ∃ a c b d, v = .agg #[.slice a (nlen 4294967296 p) c, .slice b (nlen 4294967296 z) d] ∧ IsNat w (.agg #[.slice a (nlen 4294967296 p) c]) p ∧ IsNat w (.agg #[.slice b (nlen 4294967296 z) d]) z
theorem Pair.fr {w w' : World} {v : Value} {p z : Nat} (h : Pair w v p z) (f : Fr w w') : Pair w' v p z := by
  obtain ⟨a, c, b, d, h1, h2, h3⟩ := h
  exact ⟨a, c, b, d, h1, h2.fr f, h3.fr f⟩
theorem pair_zero (w : World) : Pair w (.agg #[.slice none 0 0, .slice none 0 0]) 0 0 := ⟨none, 0, none, 0, by rw [nlen_zero], by rw [nlen_zero]; exact isNat_zero _, by rw [nlen_zero]; exact isNat_zero _⟩
/-- The lower term, as Terms tells it. -/
def low (p z : Nat) : Nat := if p = 0 then 1 else z
theorem results_nat2 {fn : Func} {p p' : Tmp} (h : fn.results = #[.cell p 24, .cell p' 24]) (tmps : Array Value) (w : World) (b b' : Nat) (v v' : Value) (hp : tmps.getD p undef = .pointer (some ⟨b, 0, none⟩)) (hp' : tmps.getD p' undef = .pointer (some ⟨b', 0, none⟩)) (hc : w.cell? ⟨b, 0, none⟩ = some v) (hc' : w.cell? ⟨b', 0, none⟩ = some v') :
    (results fn tmps).run Tryd.prog w = .ok (.tuple #[.agg #[v], .agg #[v']]) w := by
  have hp1 : tmps[p]?.getD undef = .pointer (some ⟨b, 0, none⟩) := by simpa using hp
  have hp2 : tmps[p']?.getD undef = .pointer (some ⟨b', 0, none⟩) := by simpa using hp'
  simp [results, h, hp1, hp2]
  go_simp
theorem results_nat3 {fn : Func} {p p' p'' : Tmp} (h : fn.results = #[.cell p 24, .cell p' 24, .cell p'' 24]) (tmps : Array Value) (w : World) (b b' b'' : Nat) (v v' v'' : Value) (hp : tmps.getD p undef = .pointer (some ⟨b, 0, none⟩)) (hp' : tmps.getD p' undef = .pointer (some ⟨b', 0, none⟩)) (hp'' : tmps.getD p'' undef = .pointer (some ⟨b'', 0, none⟩)) (hc : w.cell? ⟨b, 0, none⟩ = some v) (hc' : w.cell? ⟨b', 0, none⟩ = some v') (hc'' : w.cell? ⟨b'', 0, none⟩ = some v'') :
    (results fn tmps).run Tryd.prog w = .ok (.tuple #[.agg #[v], .agg #[v'], .agg #[v'']]) w := by
  have hp1 : tmps[p]?.getD undef = .pointer (some ⟨b, 0, none⟩) := by simpa using hp
  have hp2 : tmps[p']?.getD undef = .pointer (some ⟨b', 0, none⟩) := by simpa using hp'
  have hp3 : tmps[p'']?.getD undef = .pointer (some ⟨b'', 0, none⟩) := by simpa using hp''
  simp [results, h, hp1, hp2, hp3]
  go_simp
theorem results_rat {fn : Func} {p : Tmp} (h : fn.results = #[.cell p 26]) (tmps : Array Value) (w : World) (b : Nat) (v0 v1 : Value) (hp : tmps.getD p undef = .pointer (some ⟨b, 0, none⟩)) (hc : w.cell? ⟨b, 0, none⟩ = some v0) (hc' : w.cell? ⟨b, 1, none⟩ = some v1) :
    (results fn tmps).run Tryd.prog w = .ok (.agg #[v0, v1]) w := by
  have hp1 : tmps[p]?.getD undef = .pointer (some ⟨b, 0, none⟩) := by simpa using hp
  simp [results, h, hp1]
  go_simp
theorem results_rat_ok {fn : Func} {p u : Tmp} (h : fn.results = #[.cell p 26, .tmp u]) (tmps : Array Value) (w : World) (b : Nat) (v0 v1 : Value) (hp : tmps.getD p undef = .pointer (some ⟨b, 0, none⟩)) (hc : w.cell? ⟨b, 0, none⟩ = some v0) (hc' : w.cell? ⟨b, 1, none⟩ = some v1) :
    (results fn tmps).run Tryd.prog w = .ok (.tuple #[.agg #[v0, v1], tmps.getD u undef]) w := by
  have hp1 : tmps[p]?.getD undef = .pointer (some ⟨b, 0, none⟩) := by simpa using hp
  simp [results, h, hp1]
  go_simp
theorem results_nat_rat {fn : Func} {p p' : Tmp} (h : fn.results = #[.cell p 24, .cell p' 26]) (tmps : Array Value) (w : World) (b b' : Nat) (v v0 v1 : Value) (hp : tmps.getD p undef = .pointer (some ⟨b, 0, none⟩)) (hp' : tmps.getD p' undef = .pointer (some ⟨b', 0, none⟩)) (hc : w.cell? ⟨b, 0, none⟩ = some v) (hc0 : w.cell? ⟨b', 0, none⟩ = some v0) (hc1 : w.cell? ⟨b', 1, none⟩ = some v1) :
    (results fn tmps).run Tryd.prog w = .ok (.tuple #[.agg #[v], .agg #[v0, v1]]) w := by
  have hp1 : tmps[p]?.getD undef = .pointer (some ⟨b, 0, none⟩) := by simpa using hp
  have hp2 : tmps[p']?.getD undef = .pointer (some ⟨b', 0, none⟩) := by simpa using hp'
  simp [results, h, hp1, hp2]
  go_simp

/-- A variable of a quotient at block b, new since W0. -/
def Slot2 (W0 w : World) (b : Nat) (u v : Value) : Prop := w.cell? ⟨b, 0, none⟩ = some u ∧ w.cell? ⟨b, 1, none⟩ = some v ∧ (∀ o, w.frozen? ⟨b, o, none⟩ = false) ∧ NoNum w b ∧ W0.heap.size ≤ b
theorem Slot2.fr {W0 w w' : World} {b : Nat} {u v : Value} (h : Slot2 W0 w b u v) (f : Fr w w') : Slot2 W0 w' b u v := by
  refine ⟨fr_cell f h.1, fr_cell f h.2.1, fun o => ?_, h.2.2.2.1.fr (cell_lt h.1) f, h.2.2.2.2⟩
  have hb := f.block b (cell_lt h.1)
  have := h.2.2.1 o
  unfold World.frozen? at *
  rw [hb]; exact this
theorem Slot2.old {W0 W1 w : World} {b : Nat} {u v : Value} (h : Slot2 W1 w b u v) (f : Fr W0 W1) : Slot2 W0 w b u v := ⟨h.1, h.2.1, h.2.2.1, h.2.2.2.1, Nat.le_trans f.size h.2.2.2.2⟩
theorem Slot2.new {W0 w : World} (f : Fr W0 w) (a : Option Addr) (n c : Nat) (a' : Option Addr) (n' c' : Nat) (t : TypeId) : Slot2 W0 (w.alloc (.cells #[.slice a n c, .slice a' n' c'] t)) w.heap.size (.slice a n c) (.slice a' n' c') := ⟨by simp [go_sem], by simp [go_sem], fun o => by simp [go_sem], NoNum.new2 _ _ _ _ _ _ _ _, f.size⟩
theorem Slot2.set {W0 w : World} {b : Nat} {u v : Value} (h : Slot2 W0 w b u v) (a : Option Addr) (n c : Nat) (a' : Option Addr) (n' c' : Nat) : Slot2 W0 ((w.setCell ⟨b, 0, none⟩ (.slice a n c)).setCell ⟨b, 1, none⟩ (.slice a' n' c')) b (.slice a n c) (.slice a' n' c') := by
  have e1 : (w.setCell ⟨b, 0, none⟩ (.slice a n c)).cell? ⟨b, 1, none⟩ = some v := (World.cell?_setCell_other _ _ _ _ (fun e => by injection e with _ e; omega)).trans h.2.1
  refine ⟨(World.cell?_setCell_other _ _ _ _ (fun e => by injection e with _ e; omega)).trans (World.cell?_setCell_same _ _ _ h.1), World.cell?_setCell_same _ _ _ e1, fun o => by simpa using h.2.2.1 o, (h.2.2.2.1.put h.1 _ _ _).put e1 _ _ _, h.2.2.2.2⟩
theorem Slot2.set_fr {W0 w : World} {b : Nat} {u v : Value} (h : Slot2 W0 w b u v) (f : Fr W0 w) (v1 v2 : Value) : Fr W0 ((w.setCell ⟨b, 0, none⟩ v1).setCell ⟨b, 1, none⟩ v2) := Below.setCell (Below.setCell f h.2.2.2.2 _) h.2.2.2.2 _
theorem Slot2.nat {W0 w : World} {b : Nat} {u v : Value} (h : Slot2 W0 w b u v) {va : Value} {x : Nat} (k : IsNat w va x) (a : Option Addr) (n c : Nat) (u2 : Value) : IsNat ((w.setCell ⟨b, 0, none⟩ (.slice a n c)).setCell ⟨b, 1, none⟩ u2) va x := (k.calm _ _ h.2.2.2.1).calm _ _ (h.2.2.2.1.put h.1 _ _ _)
theorem Slot2.other {W0 W1 w : World} {b b' : Nat} {u v u' v' : Value} (h : Slot W0 w b u) (k : Slot2 W1 w b' u' v') (hne : b' ≠ b) (a : Option Addr) (n c : Nat) (a' : Option Addr) (n' c' : Nat) : Slot W0 ((w.setCell ⟨b', 0, none⟩ (.slice a n c)).setCell ⟨b', 1, none⟩ (.slice a' n' c')) b u := by
  have e1 : (w.setCell ⟨b', 0, none⟩ (.slice a n c)).cell? ⟨b', 1, none⟩ = some v' := (World.cell?_setCell_other _ _ _ _ (fun e => by injection e with _ e; omega)).trans k.2.1
  refine ⟨(World.cell?_setCell_other _ _ _ _ (fun e => hne (by injection e))).trans ((World.cell?_setCell_other _ _ _ _ (fun e => hne (by injection e))).trans h.1), by simpa using h.2.1, (h.2.2.1.put k.1 _ _ _).put e1 _ _ _, h.2.2.2⟩
theorem Slot.other2 {W0 W1 w : World} {b b' : Nat} {u v u' : Value} (h : Slot2 W0 w b u v) (k : Slot W1 w b' u') (hne : b' ≠ b) (a : Option Addr) (n c : Nat) : Slot2 W0 (w.setCell ⟨b', 0, none⟩ (.slice a n c)) b u v :=
  ⟨(World.cell?_setCell_other _ _ _ _ (fun e => hne (by injection e))).trans h.1, (World.cell?_setCell_other _ _ _ _ (fun e => hne (by injection e))).trans h.2.1, fun o => by simpa using h.2.2.1 o, h.2.2.2.1.put k.1 _ _ _, h.2.2.2.2⟩

set_option maxHeartbeats 1000000 in
set_option maxRecDepth 4000 in
theorem terms_zero (v : Value) (z : Nat) (w : World) (h : Pair w v 0 z) :
    Calls Tryd.prog 8 #[v] w fun e w' => ∃ b d, e = .returned (.tuple #[.agg #[.slice none 0 0], .agg #[.slice b (nlen 4294967296 1) d]]) ∧ IsNat w' (.agg #[.slice b (nlen 4294967296 1) d]) 1 ∧ Fr w w' := by
  obtain ⟨a, ca, b, cb, rfl, h1, h2⟩ := h
  have H1 := hide h1
  clear h1 h2
  generalize nlen 4294967296 z = m at *
  rw [nlen_zero] at *
  go_enter Tryd.func8, Tryd.ntmps8
  go_wp2_with fail
  obtain ⟨W, hW⟩ : ∃ W, W = ((w.alloc (Obj.cells #[Value.slice a 0 ca, Value.slice b m cb] 26)).alloc (Obj.cells #[Value.slice none 0 0] 24)).alloc (Obj.cells #[Value.slice none 0 0] 24) := ⟨_, rfl⟩
  have fW : Fr w W := by rw [hW]; exact ((Fr.alloc _ _).trans (Fr.alloc _ _)).trans (Fr.alloc _ _)
  have s2 : Slot w W (w.heap.size + 1) (.slice none 0 0) := by
    rw [hW]; simpa using (Slot.new (Fr.alloc w (Obj.cells #[Value.slice a 0 ca, Value.slice b m cb] 26)) none 0 0 24).fr (Fr.alloc _ _)
  have s3 : Slot w W (w.heap.size + 1 + 1) (.slice none 0 0) := by
    rw [hW]; simpa using (Slot.new ((Fr.alloc w (Obj.cells #[Value.slice a 0 ca, Value.slice b m cb] 26)).trans (Fr.alloc _ (Obj.cells #[Value.slice none 0 0] 24))) none 0 0 24)
  rw [← hW]
  clear hW
  refine (isNought_any _ 0 _ (H1.out.fr fW) (by rw [nlen_zero]; omega)).mono ?_
  rintro e w1 ⟨rfl, f1⟩
  have F1 := fW.trans f1
  have s2 := s2.fr f1
  have s3 := s3.fr f1
  clear fW f1
  go_wp2_with fail
  refine (ofc_any 1 1 _ rfl (by omega)).mono ?_
  rintro e w2 ⟨a2, c2, rfl, h2, _, f2⟩
  have F2 := hide (F1.trans f2)
  have S2 := hide (s2.fr f2)
  have S3 := hide (s3.fr f2)
  have H2 := hide h2
  clear F1 f2 s2 s3 h2
  have q2 := S2.out.1
  have z2 := S2.out.2.1
  have q3 := S3.out.1
  have z3 := S3.out.2.1
  go_wp2_with fail
  have T3 := S3.out.other S2.out (by omega) none 0 0
  have T2 := (S2.out.set none 0 0).other T3 (by omega) a2 (nlen 4294967296 1) c2
  have T3' := T3.set a2 (nlen 4294967296 1) c2
  refine bodyPost_ret (results_nat2 rfl _ _ (w.heap.size + 1) (w.heap.size + 1 + 1) _ _ rfl rfl T2.1 T3'.1) rfl ?_
  exact ⟨_, _, rfl, T3.nat (S2.out.nat H2.out _) _, T3.set_fr (S2.out.set_fr F2.out _) _⟩

set_option maxHeartbeats 1000000 in
set_option maxRecDepth 4000 in
theorem terms_some (v : Value) (p z : Nat) (w : World) (h : Pair w v p z) (hn : nlen 4294967296 p ≤ 100000000000) (hp : p ≠ 0) :
    Calls Tryd.prog 8 #[v] w fun e w' => ∃ a c b d, e = .returned (.tuple #[.agg #[.slice a (nlen 4294967296 p) c], .agg #[.slice b (nlen 4294967296 z) d]]) ∧ IsNat w' (.agg #[.slice a (nlen 4294967296 p) c]) p ∧ IsNat w' (.agg #[.slice b (nlen 4294967296 z) d]) z ∧ Fr w w' := by
  obtain ⟨a, ca, b, cb, rfl, h1, h2⟩ := h
  have H1 := hide h1
  have H2 := hide h2
  clear h1 h2
  obtain ⟨n, hn1⟩ : ∃ n, nlen 4294967296 p = n := ⟨_, rfl⟩
  obtain ⟨m, hm1⟩ : ∃ m, nlen 4294967296 z = m := ⟨_, rfl⟩
  rw [hn1] at hn H1 ⊢
  rw [hm1] at H2 ⊢
  have Hn := hide hn1
  clear hn1 hm1
  go_enter Tryd.func8, Tryd.ntmps8
  go_wp2_with fail
  obtain ⟨W, hW⟩ : ∃ W, W = ((w.alloc (Obj.cells #[Value.slice a n ca, Value.slice b m cb] 26)).alloc (Obj.cells #[Value.slice none 0 0] 24)).alloc (Obj.cells #[Value.slice none 0 0] 24) := ⟨_, rfl⟩
  have fW : Fr w W := by rw [hW]; exact ((Fr.alloc _ _).trans (Fr.alloc _ _)).trans (Fr.alloc _ _)
  have c1 : Slot2 w W w.heap.size (.slice a n ca) (.slice b m cb) := by
    rw [hW]; simpa using ((Slot2.new (Fr.refl w) a n ca b m cb 26).fr (Fr.alloc _ _)).fr (Fr.alloc _ _)
  have s2 : Slot w W (w.heap.size + 1) (.slice none 0 0) := by
    rw [hW]; simpa using (Slot.new (Fr.alloc w (Obj.cells #[Value.slice a n ca, Value.slice b m cb] 26)) none 0 0 24).fr (Fr.alloc _ _)
  have s3 : Slot w W (w.heap.size + 1 + 1) (.slice none 0 0) := by
    rw [hW]; simpa using (Slot.new ((Fr.alloc w (Obj.cells #[Value.slice a n ca, Value.slice b m cb] 26)).trans (Fr.alloc _ (Obj.cells #[Value.slice none 0 0] 24))) none 0 0 24)
  rw [← hW]
  clear hW
  refine (isNought_any _ p _ (H1.out.fr fW) (by rw [Hn.out]; omega)).mono ?_
  rintro e w1 ⟨rfl, f1⟩
  rw [decide_eq_false hp]
  have F1 := hide ((fW.trans f1).trans (Fr.drew _))
  have S2 := hide ((s2.fr f1).fr (Fr.drew _))
  have S3 := hide ((s3.fr f1).fr (Fr.drew _))
  have C1 := hide ((c1.fr f1).fr (Fr.drew _))
  have c1 := c1.fr f1
  have q0 := c1.1
  have q1 := c1.2.1
  clear fW f1 s2 s3 c1
  go_wp2_with fail
  refine wp_region_held_drew (S := (fun w' => w'.cell? ⟨w.heap.size, 0, none⟩ = some (.slice a n ca) ∧ w'.cell? ⟨w.heap.size, 1, none⟩ = some (.slice b m cb))) (by kernel_rfl) ?_ (fun hHeld => ?_)
  · exact ⟨C1.out.1, C1.out.2.1⟩
  obtain ⟨wd, hwd⟩ : ∃ wd, wd = w1.drew := ⟨_, rfl⟩
  rw [← hwd] at hHeld S2 S3 C1 F1 ⊢
  clear hwd
  refine wpAnyH_take (i := 0) (v := ?_) rfl (by kernel_rfl) (by kernel_rfl) (by kernel_rfl) (fun _ _ _ h => h) (Or.inl ⟨by rfl, ?_⟩) (by assumption) ?_
  rotate_left
  · (intro w hSw; (try dsimp only at hSw); go_simp; try with_reducible rfl)
  (try simp only [Act.put, List.getElem_toArray, List.getElem_cons_zero, List.getElem_cons_succ, List.setIfInBounds_toArray, List.set_cons_zero, List.set_cons_succ])
  refine wpAnyH_take (i := 1) (v := ?_) rfl (by kernel_rfl) (by kernel_rfl) (by kernel_rfl) (fun _ _ _ h => h) (Or.inl ⟨by rfl, ?_⟩) (by assumption) ?_
  rotate_left
  · (intro w hSw; (try dsimp only at hSw); go_simp; try with_reducible rfl)
  (try simp only [Act.put, List.getElem_toArray, List.getElem_cons_zero, List.getElem_cons_succ, List.setIfInBounds_toArray, List.set_cons_zero, List.set_cons_succ])
  refine wpAnyH_take (i := 2) (v := ?_) rfl (by kernel_rfl) (by kernel_rfl) (by kernel_rfl) (fun _ _ _ h => h) (Or.inl ⟨by rfl, ?_⟩) (by assumption) ?_
  rotate_left
  · (intro w hSw; (try dsimp only at hSw); go_simp; try with_reducible rfl)
  (try simp only [Act.put, List.getElem_toArray, List.getElem_cons_zero, List.getElem_cons_succ, List.setIfInBounds_toArray, List.set_cons_zero, List.set_cons_succ])
  refine wpAnyH_take (i := 3) (v := ?_) rfl (by kernel_rfl) (by kernel_rfl) (by kernel_rfl) (fun _ _ _ h => h) (Or.inl ⟨by rfl, ?_⟩) (by assumption) ?_
  rotate_left
  · (intro w hSw; (try dsimp only at hSw); go_simp; try with_reducible rfl)
  (try simp only [Act.put, List.getElem_toArray, List.getElem_cons_zero, List.getElem_cons_succ, List.setIfInBounds_toArray, List.set_cons_zero, List.set_cons_succ])
  refine wpAnyH_ready (rs := [4]) (by kernel_rfl) (by simp) ?_
  refine AllReadyH.cons rfl (fun K hK => ?_) AllReadyH.nil
  have q2 := S2.out.1
  have z2 := S2.out.2.1
  have C2 := hide (Slot.other2 C1.out S2.out (by omega) a n ca)
  have T3 := hide (S3.out.other S2.out (by omega) a n ca)
  have T2 := hide (S2.out.set a n ca)
  go_simp
  (try go_wp2_with fail)
  refine hK.out _ _ ?_ (fun hHeld => ?_)
  · (try dsimp only)
    exact ⟨C2.out.1, C2.out.2.1⟩
  clear hK K
  (try simp only [Act.put, List.getElem_toArray, List.getElem_cons_zero, List.getElem_cons_succ, List.setIfInBounds_toArray, List.set_cons_zero, List.set_cons_succ])
  refine wpAnyH_ready (rs := [5]) (by kernel_rfl) (by simp) ?_
  refine AllReadyH.cons rfl (fun K hK => ?_) AllReadyH.nil
  have q3 := T3.out.1
  have z3 := S3.out.2.1
  have C3 := hide (Slot.other2 C2.out T3.out (by omega) b m cb)
  have U3 := hide (T3.out.set b m cb)
  have U2 := hide (T2.out.other T3.out (by omega) b m cb)
  go_simp
  (try go_wp2_with fail)
  refine hK.out _ _ ?_ (fun hHeld => ?_)
  · (try dsimp only)
    exact ⟨C3.out.1, C3.out.2.1⟩
  clear hK K
  (try simp only [Act.put, List.getElem_toArray, List.getElem_cons_zero, List.getElem_cons_succ, List.setIfInBounds_toArray, List.set_cons_zero, List.set_cons_succ])
  refine wpAnyH_done (by kernel_rfl) ?_ _
  have K1 := hide (H1.out.fr F1.out)
  have K2 := hide (H2.out.fr F1.out)
  go_wp2_with fail
  refine bodyPost_ret (results_nat2 rfl _ _ (w.heap.size + 1) (w.heap.size + 1 + 1) _ _ rfl rfl U2.out.1 U3.out.1) rfl ?_
  exact ⟨_, _, _, _, rfl, T3.out.nat (S2.out.nat K1.out _) _, T3.out.nat (S2.out.nat K2.out _) _, T3.out.set_fr (S2.out.set_fr F1.out _) _⟩

theorem terms_any (v : Value) (p z : Nat) (w : World) (h : Pair w v p z) (hn : nlen 4294967296 p ≤ 100000000000) :
    Calls Tryd.prog 8 #[v] w fun e w' => ∃ a c b d, e = .returned (.tuple #[.agg #[.slice a (nlen 4294967296 p) c], .agg #[.slice b (nlen 4294967296 (low p z)) d]]) ∧ IsNat w' (.agg #[.slice a (nlen 4294967296 p) c]) p ∧ IsNat w' (.agg #[.slice b (nlen 4294967296 (low p z)) d]) (low p z) ∧ Fr w w' := by
  by_cases hp : p = 0
  · subst hp
    refine (terms_zero v z w h).mono ?_
    rintro e w' ⟨b, d, rfl, k, f⟩
    have : low 0 z = 1 := rfl
    rw [this]
    exact ⟨none, 0, b, d, by rw [nlen_zero], by rw [nlen_zero]; exact isNat_zero _, k, f⟩
  · have : low p z = z := if_neg hp
    rw [this]
    exact terms_some v p z w h hn hp
end Go.Proofs.YtimglhbllcjpbaaDoor
