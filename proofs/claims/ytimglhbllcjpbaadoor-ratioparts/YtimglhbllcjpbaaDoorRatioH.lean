/- The document's quotients: Cmp, Add, Mul, Away; what the laws take: few, digits. -/
import Derived.Test.YtimglhbllcjpbaaDoorRatioG
import Derived.Test.YtimglhbllcjpbaaDoorDecP
import Derived.Test.YtimglhbllcjpbaaDoorDecS
import Derived.Test.YtimglhbllcjpbaaDoorNatU
namespace Go.Proofs.YtimglhbllcjpbaaDoor
set_option linter.unusedVariables false
set_option linter.unusedSimpArgs false
open Go.RowKit

attribute [local go_sem] World.cell?_alloc_some
theorem IsDec.calm {w : World} {v : Value} {x : Nat} (h : IsDec w v x) (p : Addr) (u : Value) (hb : NoNum w p.block) : IsDec (w.setCell p u) v x := by
  obtain ⟨a, c, rfl, h2, h3, h4⟩ := h
  refine ⟨a, c, rfl, h2, h3, ?_⟩
  by_cases h0 : nlen 10 x = 0
  · exact .inl h0
  · refine h4.set p u ?_
    rcases h4 with h4 | ⟨b, off, rfl, hb', hc⟩
    · exact absurd h4 h0
    · intro g off' s e e2
      simp only [Option.some.injEq, Addr.mk.injEq] at e
      obtain ⟨rfl, rfl, rfl⟩ := e
      subst e2
      exact hb _ _ _ (hc 0 (by omega))
theorem Slot2.dec {W0 w : World} {b : Nat} {u v : Value} (h : Slot2 W0 w b u v) {va : Value} {x : Nat} (k : IsDec w va x) (a : Option Addr) (n c : Nat) (u2 : Value) : IsDec ((w.setCell ⟨b, 0, none⟩ (.slice a n c)).setCell ⟨b, 1, none⟩ u2) va x := (k.calm _ _ h.2.2.2.1).calm _ _ (h.2.2.2.1.put h.1 _ _ _)
/-- The document's quotient of x and y. -/
def IsFrac (w : World) (v : Value) (x y : Nat) : Prop := ∃ a n c b m k, v = .agg #[.slice a n c, .slice b m k] ∧ IsDec w (.slice a n c) x ∧ IsDec w (.slice b m k) y
theorem IsFrac.fr {w w' : World} {v : Value} {x y : Nat} (h : IsFrac w v x y) (f : Fr w w') : IsFrac w' v x y := by
  obtain ⟨a, n, c, b, m, k, h1, h2, h3⟩ := h
  exact ⟨a, n, c, b, m, k, h1, h2.fr f, h3.fr f⟩
theorem Slot2.frac {W0 w : World} {b : Nat} {u v : Value} (h : Slot2 W0 w b u v) {va : Value} {x y : Nat} (k : IsFrac w va x y) (a : Option Addr) (n c : Nat) (u2 : Value) : IsFrac ((w.setCell ⟨b, 0, none⟩ (.slice a n c)).setCell ⟨b, 1, none⟩ u2) va x y := by
  obtain ⟨a1, n1, c1, b1, m1, k1, h1, h2, h3⟩ := k
  exact ⟨a1, n1, c1, b1, m1, k1, h1, h.dec h2 _ _ _ _, h.dec h3 _ _ _ _⟩
theorem IsDec.form {w : World} {v : Value} {x : Nat} (h : IsDec w v x) : ∃ a n c, v = .slice a n c := by
  obtain ⟨a, c, h1, _⟩ := h
  exact ⟨a, _, c, h1⟩
theorem results_ref {fn : Func} {p : Tmp} (h : fn.results = #[.cell p 29]) (tmps : Array Value) (w : World) (b : Nat) (v0 v1 : Value) (hp : tmps.getD p undef = .pointer (some ⟨b, 0, none⟩)) (hc : w.cell? ⟨b, 0, none⟩ = some v0) (hc' : w.cell? ⟨b, 1, none⟩ = some v1) :
    (results fn tmps).run Tryd.prog w = .ok (.agg #[v0, v1]) w := by
  have hp1 : tmps[p]?.getD undef = .pointer (some ⟨b, 0, none⟩) := by simpa using hp
  simp [results, h, hp1]
  go_simp
theorem nl10_mul {x y n m : Nat} (hx : nlen 10 x ≤ n) (hy : nlen 10 y ≤ m) : nlen 10 (x * y) ≤ n + m := nlen_mul (by omega) hx hy

set_option maxHeartbeats 1000000 in
set_option maxRecDepth 4000 in
theorem refCmp8 (va vb : Value) (x y x' y' : Nat) (w : World) (ha : IsFrac w va x y) (hb : IsFrac w vb x' y') (h1 : nlen 10 x ≤ 100000) (h2 : nlen 10 y ≤ 100000) (h3 : nlen 10 x' ≤ 100000) (h4 : nlen 10 y' ≤ 100000) :
    Calls Tryd.prog 15 #[va, vb] w fun e w' => e = .returned (.int .i64 (cmpZ (x * y') (x' * y))) ∧ Fr w w' := by
  obtain ⟨a, n, c, b, m, k, rfl, ia, ib⟩ := ha
  obtain ⟨a', n', c', b', m', k', rfl, ia', ib'⟩ := hb
  have IA := hide ia
  have IB := hide ib
  have IC := hide ia'
  have ID := hide ib'
  clear ia ib ia' ib'
  have nX : nlen 10 (x * y') ≤ 200000 := nl10_mul h1 h4
  have nY : nlen 10 (x' * y) ≤ 200000 := nl10_mul h3 h2
  have nD : nlen 10 (y * y') ≤ 200000 := nl10_mul h2 h4
  go_enter Tryd.func15, Tryd.ntmps15
  go_wp2_with fail
  obtain ⟨W, hW⟩ : ∃ W, W = ((w.alloc (Obj.cells #[Value.slice a n c, Value.slice b m k] 29)).alloc (Obj.cells #[Value.slice a' n' c', Value.slice b' m' k'] 29)) := ⟨_, rfl⟩
  have fW : Fr w W := by rw [hW]; exact ((Fr.alloc w (Obj.cells #[Value.slice a n c, Value.slice b m k] 29)).trans (Fr.alloc _ (Obj.cells #[Value.slice a' n' c', Value.slice b' m' k'] 29)))
  have s2 : Slot2 w W (w.heap.size) (.slice a n c) (.slice b m k) := by
    rw [hW]; simpa using (Slot2.new (Fr.refl w) a n c b m k 29).fr (Fr.alloc _ _)
  have s3 : Slot2 w W (w.heap.size + 1) (.slice a' n' c') (.slice b' m' k') := by
    rw [hW]; simpa using Slot2.new (Fr.alloc w (Obj.cells #[Value.slice a n c, Value.slice b m k] 29)) a' n' c' b' m' k' 29
  rw [← hW]
  clear hW
  have S2 := hide s2
  have S3 := hide s3
  have FW := hide fW
  have IA := hide (IA.out.fr fW)
  have IB := hide (IB.out.fr fW)
  have IC := hide (IC.out.fr fW)
  have ID := hide (ID.out.fr fW)
  clear s2 s3 fW
  refine (refMul_any _ _ x y' _ IA.out ID.out (by omega) (by omega)).mono ?_
  rintro e w1 ⟨vx, rfl, ix, fx⟩
  obtain ⟨ax, nx, cx, rfl⟩ := ix.form
  have IX := hide ix
  have IA := hide (IA.out.fr fx)
  have IB := hide (IB.out.fr fx)
  have IC := hide (IC.out.fr fx)
  have ID := hide (ID.out.fr fx)
  have S2 := hide (S2.out.fr fx)
  have S3 := hide (S3.out.fr fx)
  have FW := hide (FW.out.trans fx)
  clear ix fx
  have q2 := S2.out.1
  have q2' := S2.out.2.1
  have q3 := S3.out.1
  have q3' := S3.out.2.1
  go_wp2_with fail
  refine (refMul_any _ _ x' y _ IC.out IB.out (by omega) (by omega)).mono ?_
  rintro e w2 ⟨vy, rfl, iy, fy⟩
  obtain ⟨ay, ny, cy, rfl⟩ := iy.form
  have IY := hide iy
  have IA := hide (IA.out.fr fy)
  have IB := hide (IB.out.fr fy)
  have IC := hide (IC.out.fr fy)
  have ID := hide (ID.out.fr fy)
  have S2 := hide (S2.out.fr fy)
  have S3 := hide (S3.out.fr fy)
  have IX := hide (IX.out.fr fy)
  have FW := hide (FW.out.trans fy)
  clear iy fy
  go_wp2_with fail
  refine (refCmp_any _ _ _ _ _ IX.out IY.out (by omega) (by omega)).mono ?_
  rintro e w3 ⟨rfl, f3⟩
  have FW := hide (FW.out.trans f3)
  go_wp2_with fail
  go_ret
  exact ⟨rfl, FW.out⟩

set_option maxHeartbeats 1000000 in
set_option maxRecDepth 4000 in
theorem refAdd8 (va vb : Value) (x y x' y' : Nat) (w : World) (ha : IsFrac w va x y) (hb : IsFrac w vb x' y') (h1 : nlen 10 x ≤ 100000) (h2 : nlen 10 y ≤ 100000) (h3 : nlen 10 x' ≤ 100000) (h4 : nlen 10 y' ≤ 100000) :
    Calls Tryd.prog 17 #[va, vb] w fun e w' => ∃ v, e = .returned v ∧ IsFrac w' v (x * y' + x' * y) (y * y') ∧ Fr w w' := by
  obtain ⟨a, n, c, b, m, k, rfl, ia, ib⟩ := ha
  obtain ⟨a', n', c', b', m', k', rfl, ia', ib'⟩ := hb
  have IA := hide ia
  have IB := hide ib
  have IC := hide ia'
  have ID := hide ib'
  clear ia ib ia' ib'
  have nX : nlen 10 (x * y') ≤ 200000 := nl10_mul h1 h4
  have nY : nlen 10 (x' * y) ≤ 200000 := nl10_mul h3 h2
  have nD : nlen 10 (y * y') ≤ 200000 := nl10_mul h2 h4
  go_enter Tryd.func17, Tryd.ntmps17
  go_wp2_with fail
  obtain ⟨W, hW⟩ : ∃ W, W = (((w.alloc (Obj.cells #[Value.slice a n c, Value.slice b m k] 29)).alloc (Obj.cells #[Value.slice a' n' c', Value.slice b' m' k'] 29)).alloc (Obj.cells #[Value.slice none 0 0, Value.slice none 0 0] 29)) := ⟨_, rfl⟩
  have fW : Fr w W := by rw [hW]; exact (((Fr.alloc w (Obj.cells #[Value.slice a n c, Value.slice b m k] 29)).trans (Fr.alloc _ (Obj.cells #[Value.slice a' n' c', Value.slice b' m' k'] 29))).trans (Fr.alloc _ (Obj.cells #[Value.slice none 0 0, Value.slice none 0 0] 29)))
  have s2 : Slot2 w W (w.heap.size) (.slice a n c) (.slice b m k) := by
    rw [hW]; simpa using ((Slot2.new (Fr.refl w) a n c b m k 29).fr (Fr.alloc _ _)).fr (Fr.alloc _ _)
  have s3 : Slot2 w W (w.heap.size + 1) (.slice a' n' c') (.slice b' m' k') := by
    rw [hW]; simpa using (Slot2.new (Fr.alloc w (Obj.cells #[Value.slice a n c, Value.slice b m k] 29)) a' n' c' b' m' k' 29).fr (Fr.alloc _ _)
  have s4 : Slot2 w W (w.heap.size + 1 + 1) (.slice none 0 0) (.slice none 0 0) := by
    rw [hW]; simpa using Slot2.new ((Fr.alloc w (Obj.cells #[Value.slice a n c, Value.slice b m k] 29)).trans (Fr.alloc _ (Obj.cells #[Value.slice a' n' c', Value.slice b' m' k'] 29))) none 0 0 none 0 0 29
  rw [← hW]
  clear hW
  have S2 := hide s2
  have S3 := hide s3
  have S4 := hide s4
  have FW := hide fW
  have IA := hide (IA.out.fr fW)
  have IB := hide (IB.out.fr fW)
  have IC := hide (IC.out.fr fW)
  have ID := hide (ID.out.fr fW)
  clear s2 s3 fW s4
  refine (refMul_any _ _ x y' _ IA.out ID.out (by omega) (by omega)).mono ?_
  rintro e w1 ⟨vx, rfl, ix, fx⟩
  obtain ⟨ax, nx, cx, rfl⟩ := ix.form
  have IX := hide ix
  have IA := hide (IA.out.fr fx)
  have IB := hide (IB.out.fr fx)
  have IC := hide (IC.out.fr fx)
  have ID := hide (ID.out.fr fx)
  have S2 := hide (S2.out.fr fx)
  have S3 := hide (S3.out.fr fx)
  have S4 := hide (S4.out.fr fx)
  have FW := hide (FW.out.trans fx)
  clear ix fx
  have q2 := S2.out.1
  have q2' := S2.out.2.1
  have q3 := S3.out.1
  have q3' := S3.out.2.1
  go_wp2_with fail
  refine (refMul_any _ _ x' y _ IC.out IB.out (by omega) (by omega)).mono ?_
  rintro e w2 ⟨vy, rfl, iy, fy⟩
  obtain ⟨ay, ny, cy, rfl⟩ := iy.form
  have IY := hide iy
  have IA := hide (IA.out.fr fy)
  have IB := hide (IB.out.fr fy)
  have IC := hide (IC.out.fr fy)
  have ID := hide (ID.out.fr fy)
  have S2 := hide (S2.out.fr fy)
  have S3 := hide (S3.out.fr fy)
  have S4 := hide (S4.out.fr fy)
  have IX := hide (IX.out.fr fy)
  have FW := hide (FW.out.trans fy)
  clear iy fy
  have q2 := S2.out.1
  have q2' := S2.out.2.1
  have q3 := S3.out.1
  have q3' := S3.out.2.1
  go_wp2_with fail
  refine (refMul_any _ _ y y' _ IB.out ID.out (by omega) (by omega)).mono ?_
  rintro e w3 ⟨vd, rfl, id, fd⟩
  obtain ⟨ad, nd, cd, rfl⟩ := id.form
  have IE := hide id
  have IA := hide (IA.out.fr fd)
  have IB := hide (IB.out.fr fd)
  have IC := hide (IC.out.fr fd)
  have ID := hide (ID.out.fr fd)
  have S2 := hide (S2.out.fr fd)
  have S3 := hide (S3.out.fr fd)
  have S4 := hide (S4.out.fr fd)
  have IX := hide (IX.out.fr fd)
  have IY := hide (IY.out.fr fd)
  have FW := hide (FW.out.trans fd)
  clear id fd
  go_wp2_with fail
  refine (refAdd_any _ _ _ _ _ IX.out IY.out (by omega) (by omega)).mono ?_
  rintro e w4 ⟨vz, rfl, iz, fz⟩
  obtain ⟨az, nz, cz, rfl⟩ := iz.form
  have IZ := hide iz
  have IE := hide (IE.out.fr fz)
  have S4 := hide (S4.out.fr fz)
  have FW := hide (FW.out.trans fz)
  clear iz fz
  have q4 := S4.out.1
  have q4' := S4.out.2.1
  have z4 := S4.out.2.2.1 0
  have z4' := S4.out.2.2.1 1
  go_wp2_with fail
  have IZ := hide (S4.out.dec IZ.out az nz cz (.slice ad nd cd))
  have IE := hide (S4.out.dec IE.out az nz cz (.slice ad nd cd))
  have FW := hide (S4.out.set_fr FW.out (.slice az nz cz) (.slice ad nd cd))
  have S4 := hide (S4.out.set az nz cz ad nd cd)
  exact bodyPost_ret (results_ref rfl _ _ (w.heap.size + 1 + 1) _ _ rfl S4.out.1 S4.out.2.1) rfl ⟨_, rfl, ⟨_, _, _, _, _, _, rfl, IZ.out, IE.out⟩, FW.out⟩

set_option maxHeartbeats 1000000 in
set_option maxRecDepth 4000 in
theorem refMul8 (va vb : Value) (x y x' y' : Nat) (w : World) (ha : IsFrac w va x y) (hb : IsFrac w vb x' y') (h1 : nlen 10 x ≤ 100000) (h2 : nlen 10 y ≤ 100000) (h3 : nlen 10 x' ≤ 100000) (h4 : nlen 10 y' ≤ 100000) :
    Calls Tryd.prog 19 #[va, vb] w fun e w' => ∃ v, e = .returned v ∧ IsFrac w' v (x * x') (y * y') ∧ Fr w w' := by
  obtain ⟨a, n, c, b, m, k, rfl, ia, ib⟩ := ha
  obtain ⟨a', n', c', b', m', k', rfl, ia', ib'⟩ := hb
  have IA := hide ia
  have IB := hide ib
  have IC := hide ia'
  have ID := hide ib'
  clear ia ib ia' ib'
  have nX : nlen 10 (x * y') ≤ 200000 := nl10_mul h1 h4
  have nY : nlen 10 (x' * y) ≤ 200000 := nl10_mul h3 h2
  have nD : nlen 10 (y * y') ≤ 200000 := nl10_mul h2 h4
  go_enter Tryd.func19, Tryd.ntmps19
  go_wp2_with fail
  obtain ⟨W, hW⟩ : ∃ W, W = (((w.alloc (Obj.cells #[Value.slice a n c, Value.slice b m k] 29)).alloc (Obj.cells #[Value.slice a' n' c', Value.slice b' m' k'] 29)).alloc (Obj.cells #[Value.slice none 0 0, Value.slice none 0 0] 29)) := ⟨_, rfl⟩
  have fW : Fr w W := by rw [hW]; exact (((Fr.alloc w (Obj.cells #[Value.slice a n c, Value.slice b m k] 29)).trans (Fr.alloc _ (Obj.cells #[Value.slice a' n' c', Value.slice b' m' k'] 29))).trans (Fr.alloc _ (Obj.cells #[Value.slice none 0 0, Value.slice none 0 0] 29)))
  have s2 : Slot2 w W (w.heap.size) (.slice a n c) (.slice b m k) := by
    rw [hW]; simpa using ((Slot2.new (Fr.refl w) a n c b m k 29).fr (Fr.alloc _ _)).fr (Fr.alloc _ _)
  have s3 : Slot2 w W (w.heap.size + 1) (.slice a' n' c') (.slice b' m' k') := by
    rw [hW]; simpa using (Slot2.new (Fr.alloc w (Obj.cells #[Value.slice a n c, Value.slice b m k] 29)) a' n' c' b' m' k' 29).fr (Fr.alloc _ _)
  have s4 : Slot2 w W (w.heap.size + 1 + 1) (.slice none 0 0) (.slice none 0 0) := by
    rw [hW]; simpa using Slot2.new ((Fr.alloc w (Obj.cells #[Value.slice a n c, Value.slice b m k] 29)).trans (Fr.alloc _ (Obj.cells #[Value.slice a' n' c', Value.slice b' m' k'] 29))) none 0 0 none 0 0 29
  rw [← hW]
  clear hW
  have S2 := hide s2
  have S3 := hide s3
  have S4 := hide s4
  have FW := hide fW
  have IA := hide (IA.out.fr fW)
  have IB := hide (IB.out.fr fW)
  have IC := hide (IC.out.fr fW)
  have ID := hide (ID.out.fr fW)
  clear s2 s3 fW s4
  refine (refMul_any _ _ x x' _ IA.out IC.out (by omega) (by omega)).mono ?_
  rintro e w1 ⟨vz, rfl, iz, fz⟩
  obtain ⟨az, nz, cz, rfl⟩ := iz.form
  have IZ := hide iz
  have IA := hide (IA.out.fr fz)
  have IB := hide (IB.out.fr fz)
  have IC := hide (IC.out.fr fz)
  have ID := hide (ID.out.fr fz)
  have S2 := hide (S2.out.fr fz)
  have S3 := hide (S3.out.fr fz)
  have S4 := hide (S4.out.fr fz)
  have FW := hide (FW.out.trans fz)
  clear iz fz
  have q2 := S2.out.1
  have q2' := S2.out.2.1
  have q3 := S3.out.1
  have q3' := S3.out.2.1
  go_wp2_with fail
  refine (refMul_any _ _ y y' _ IB.out ID.out (by omega) (by omega)).mono ?_
  rintro e w2 ⟨vd, rfl, id, fd⟩
  obtain ⟨ad, nd, cd, rfl⟩ := id.form
  have IE := hide id
  have IA := hide (IA.out.fr fd)
  have IB := hide (IB.out.fr fd)
  have IC := hide (IC.out.fr fd)
  have ID := hide (ID.out.fr fd)
  have S2 := hide (S2.out.fr fd)
  have S3 := hide (S3.out.fr fd)
  have S4 := hide (S4.out.fr fd)
  have IZ := hide (IZ.out.fr fd)
  have FW := hide (FW.out.trans fd)
  clear id fd
  have q4 := S4.out.1
  have q4' := S4.out.2.1
  have z4 := S4.out.2.2.1 0
  have z4' := S4.out.2.2.1 1
  go_wp2_with fail
  have IZ := hide (S4.out.dec IZ.out az nz cz (.slice ad nd cd))
  have IE := hide (S4.out.dec IE.out az nz cz (.slice ad nd cd))
  have FW := hide (S4.out.set_fr FW.out (.slice az nz cz) (.slice ad nd cd))
  have S4 := hide (S4.out.set az nz cz ad nd cd)
  exact bodyPost_ret (results_ref rfl _ _ (w.heap.size + 1 + 1) _ _ rfl S4.out.1 S4.out.2.1) rfl ⟨_, rfl, ⟨_, _, _, _, _, _, rfl, IZ.out, IE.out⟩, FW.out⟩

set_option maxHeartbeats 1000000 in
set_option maxRecDepth 4000 in
theorem refAway8 (va vb : Value) (x y x' y' : Nat) (w : World) (ha : IsFrac w va x y) (hb : IsFrac w vb x' y') (h1 : nlen 10 x ≤ 100000) (h2 : nlen 10 y ≤ 100000) (h3 : nlen 10 x' ≤ 100000) (h4 : nlen 10 y' ≤ 100000) :
    Calls Tryd.prog 21 #[va, vb] w fun e w' => ∃ v, e = .returned v ∧ IsFrac w' v (awayN (x * y') (x' * y)) (y * y') ∧ Fr w w' := by
  obtain ⟨a, n, c, b, m, k, rfl, ia, ib⟩ := ha
  obtain ⟨a', n', c', b', m', k', rfl, ia', ib'⟩ := hb
  have IA := hide ia
  have IB := hide ib
  have IC := hide ia'
  have ID := hide ib'
  clear ia ib ia' ib'
  have nX : nlen 10 (x * y') ≤ 200000 := nl10_mul h1 h4
  have nY : nlen 10 (x' * y) ≤ 200000 := nl10_mul h3 h2
  have nD : nlen 10 (y * y') ≤ 200000 := nl10_mul h2 h4
  go_enter Tryd.func21, Tryd.ntmps21
  go_wp2_with fail
  obtain ⟨W, hW⟩ : ∃ W, W = (((w.alloc (Obj.cells #[Value.slice a n c, Value.slice b m k] 29)).alloc (Obj.cells #[Value.slice a' n' c', Value.slice b' m' k'] 29)).alloc (Obj.cells #[Value.slice none 0 0, Value.slice none 0 0] 29)) := ⟨_, rfl⟩
  have fW : Fr w W := by rw [hW]; exact (((Fr.alloc w (Obj.cells #[Value.slice a n c, Value.slice b m k] 29)).trans (Fr.alloc _ (Obj.cells #[Value.slice a' n' c', Value.slice b' m' k'] 29))).trans (Fr.alloc _ (Obj.cells #[Value.slice none 0 0, Value.slice none 0 0] 29)))
  have s2 : Slot2 w W (w.heap.size) (.slice a n c) (.slice b m k) := by
    rw [hW]; simpa using ((Slot2.new (Fr.refl w) a n c b m k 29).fr (Fr.alloc _ _)).fr (Fr.alloc _ _)
  have s3 : Slot2 w W (w.heap.size + 1) (.slice a' n' c') (.slice b' m' k') := by
    rw [hW]; simpa using (Slot2.new (Fr.alloc w (Obj.cells #[Value.slice a n c, Value.slice b m k] 29)) a' n' c' b' m' k' 29).fr (Fr.alloc _ _)
  have s4 : Slot2 w W (w.heap.size + 1 + 1) (.slice none 0 0) (.slice none 0 0) := by
    rw [hW]; simpa using Slot2.new ((Fr.alloc w (Obj.cells #[Value.slice a n c, Value.slice b m k] 29)).trans (Fr.alloc _ (Obj.cells #[Value.slice a' n' c', Value.slice b' m' k'] 29))) none 0 0 none 0 0 29
  rw [← hW]
  clear hW
  have S2 := hide s2
  have S3 := hide s3
  have S4 := hide s4
  have FW := hide fW
  have IA := hide (IA.out.fr fW)
  have IB := hide (IB.out.fr fW)
  have IC := hide (IC.out.fr fW)
  have ID := hide (ID.out.fr fW)
  clear s2 s3 fW s4
  refine (refMul_any _ _ x y' _ IA.out ID.out (by omega) (by omega)).mono ?_
  rintro e w1 ⟨vx, rfl, ix, fx⟩
  obtain ⟨ax, nx, cx, rfl⟩ := ix.form
  have IX := hide ix
  have IA := hide (IA.out.fr fx)
  have IB := hide (IB.out.fr fx)
  have IC := hide (IC.out.fr fx)
  have ID := hide (ID.out.fr fx)
  have S2 := hide (S2.out.fr fx)
  have S3 := hide (S3.out.fr fx)
  have S4 := hide (S4.out.fr fx)
  have FW := hide (FW.out.trans fx)
  clear ix fx
  have q2 := S2.out.1
  have q2' := S2.out.2.1
  have q3 := S3.out.1
  have q3' := S3.out.2.1
  go_wp2_with fail
  refine (refMul_any _ _ x' y _ IC.out IB.out (by omega) (by omega)).mono ?_
  rintro e w2 ⟨vy, rfl, iy, fy⟩
  obtain ⟨ay, ny, cy, rfl⟩ := iy.form
  have IY := hide iy
  have IA := hide (IA.out.fr fy)
  have IB := hide (IB.out.fr fy)
  have IC := hide (IC.out.fr fy)
  have ID := hide (ID.out.fr fy)
  have S2 := hide (S2.out.fr fy)
  have S3 := hide (S3.out.fr fy)
  have S4 := hide (S4.out.fr fy)
  have IX := hide (IX.out.fr fy)
  have FW := hide (FW.out.trans fy)
  clear iy fy
  have q2 := S2.out.1
  have q2' := S2.out.2.1
  have q3 := S3.out.1
  have q3' := S3.out.2.1
  go_wp2_with fail
  refine (refMul_any _ _ y y' _ IB.out ID.out (by omega) (by omega)).mono ?_
  rintro e w3 ⟨vd, rfl, id, fd⟩
  obtain ⟨ad, nd, cd, rfl⟩ := id.form
  have IE := hide id
  have IA := hide (IA.out.fr fd)
  have IB := hide (IB.out.fr fd)
  have IC := hide (IC.out.fr fd)
  have ID := hide (ID.out.fr fd)
  have S2 := hide (S2.out.fr fd)
  have S3 := hide (S3.out.fr fd)
  have S4 := hide (S4.out.fr fd)
  have IX := hide (IX.out.fr fd)
  have IY := hide (IY.out.fr fd)
  have FW := hide (FW.out.trans fd)
  clear id fd
  go_wp2_with fail
  refine (refCmp_any _ _ _ _ _ IX.out IY.out (by omega) (by omega)).mono ?_
  rintro e w4 ⟨rfl, f4⟩
  have IX := hide (IX.out.fr f4)
  have IY := hide (IY.out.fr f4)
  have IE := hide (IE.out.fr f4)
  have S4 := hide (S4.out.fr f4)
  have FW := hide (FW.out.trans f4)
  clear f4
  by_cases hc : x * y' < x' * y
  · rw [show cmpZ (x * y') (x' * y) = -1 by unfold cmpZ; rw [if_pos hc]]
    have HC := hide hc
    clear hc
    go_wp2_with fail
    have hc := HC.out
    refine (refSub_any _ _ _ _ _ IY.out IX.out (by omega) (by omega) (by omega)).mono ?_
    rintro e w5 ⟨vz, rfl, iz, fz⟩
    have eA : x' * y - x * y' = awayN (x * y') (x' * y) := by unfold awayN; omega
    rw [eA] at iz
    clear eA
    obtain ⟨az, nz, cz, rfl⟩ := iz.form
    have IZ := hide iz
    have IE := hide (IE.out.fr fz)
    have S4 := hide (S4.out.fr fz)
    have FW := hide (FW.out.trans fz)
    clear iz fz
    have q4 := S4.out.1
    have q4' := S4.out.2.1
    have z4 := S4.out.2.2.1 0
    have z4' := S4.out.2.2.1 1
    go_wp2_with fail
    have IZ := hide (S4.out.dec IZ.out az nz cz (.slice ad nd cd))
    have IE := hide (S4.out.dec IE.out az nz cz (.slice ad nd cd))
    have FW := hide (S4.out.set_fr FW.out (.slice az nz cz) (.slice ad nd cd))
    have S4 := hide (S4.out.set az nz cz ad nd cd)
    exact bodyPost_ret (results_ref rfl _ _ (w.heap.size + 1 + 1) _ _ rfl S4.out.1 S4.out.2.1) rfl ⟨_, rfl, ⟨_, _, _, _, _, _, rfl, IZ.out, IE.out⟩, FW.out⟩
  · have hz : 0 ≤ cmpZ (x * y') (x' * y) := by unfold cmpZ; rw [if_neg hc]; split <;> omega
    have HC := hide hc
    generalize cmpZ (x * y') (x' * y) = Z at *
    clear hc
    go_wp2_with fail
    have hc := HC.out
    refine (refSub_any _ _ _ _ _ IX.out IY.out (by omega) (by omega) (by omega)).mono ?_
    rintro e w5 ⟨vz, rfl, iz, fz⟩
    have eA : x * y' - x' * y = awayN (x * y') (x' * y) := by unfold awayN; omega
    rw [eA] at iz
    clear eA
    obtain ⟨az, nz, cz, rfl⟩ := iz.form
    have IZ := hide iz
    have IE := hide (IE.out.fr fz)
    have S4 := hide (S4.out.fr fz)
    have FW := hide (FW.out.trans fz)
    clear iz fz
    have q4 := S4.out.1
    have q4' := S4.out.2.1
    have z4 := S4.out.2.2.1 0
    have z4' := S4.out.2.2.1 1
    go_wp2_with fail
    have IZ := hide (S4.out.dec IZ.out az nz cz (.slice ad nd cd))
    have IE := hide (S4.out.dec IE.out az nz cz (.slice ad nd cd))
    have FW := hide (S4.out.set_fr FW.out (.slice az nz cz) (.slice ad nd cd))
    have S4 := hide (S4.out.set az nz cz ad nd cd)
    exact bodyPost_ret (results_ref rfl _ _ (w.heap.size + 1 + 1) _ _ rfl S4.out.1 S4.out.2.1) rfl ⟨_, rfl, ⟨_, _, _, _, _, _, rfl, IZ.out, IE.out⟩, FW.out⟩

set_option maxHeartbeats 400000 in
set_option maxRecDepth 4000 in
theorem few_any (a : Option Addr) (len cap : Nat) (w : World) (h1 : len ≤ cap) (h2 : cap ≤ maxLen) (h3 : a = none → cap = 0) :
    Calls Tryd.prog 13 #[.slice a len cap] w fun e w' => e = .returned (.slice a (min len 5) cap) ∧ w' = w := by
  unfold maxLen at h2
  by_cases c : len ≤ 5
  · rw [Nat.min_eq_left c]
    rcases a with _ | ad
    · obtain rfl := h3 rfl
      obtain rfl : len = 0 := by omega
      go_enter Tryd.func13, Tryd.ntmps13
      go_wp2
      go_ret
      exact ⟨rfl, rfl⟩
    · go_enter Tryd.func13, Tryd.ntmps13
      go_wp2
      go_ret
      exact ⟨rfl, rfl⟩
  · rw [Nat.min_eq_right (by omega)]
    rcases a with _ | ad
    · have := h3 rfl; omega
    · go_enter Tryd.func13, Tryd.ntmps13
      go_wp2
      go_ret
      exact ⟨rfl, rfl⟩

/-- Limbs that are handed in: x is the number of the first five. -/
def Arg (w : World) (v : Value) (x : Nat) : Prop := ∃ a len cap, v = .slice a len cap ∧ len ≤ cap ∧ cap ≤ maxLen ∧ (a = none → cap = 0) ∧ x < 4294967296 ^ (min len 5) ∧ Cs .u32 w a (min len 5) (dg 4294967296 x)
theorem Arg.fr {w w' : World} {v : Value} {x : Nat} (h : Arg w v x) (f : Fr w w') : Arg w' v x := by
  obtain ⟨a, len, cap, h1, h2, h3, h4, h5, h6⟩ := h
  exact ⟨a, len, cap, h1, h2, h3, h4, h5, h6.fr f⟩
theorem Arg.nl {w : World} {v : Value} {x : Nat} (h : Arg w v x) : nlen 4294967296 x ≤ 5 := by
  obtain ⟨a, len, cap, h1, h2, h3, h4, h5, h6⟩ := h
  exact Nat.le_trans (nlen_le b32 h5) (by omega)
theorem arg_row {w : World} {a : Option Addr} {len cap : Nat} {zs : List Int} (h : IsRow .u32 w a len cap zs) : ∃ x, Arg w (.slice a len cap) x := by
  obtain ⟨h1, h2, h3, h4, h5⟩ := row_take h (min len 5) (by omega)
  refine ⟨lnum zs (min len 5), a, len, cap, rfl, h4, h5, ?_, h2, h1⟩
  intro e
  rcases h with ⟨_, _, h, _⟩ | ⟨x, hx, _⟩
  · exact h
  · rw [e] at hx; cases hx
/-- few of such, and what is made of it. -/
theorem arg_few {w : World} {v : Value} {x : Nat} (h : Arg w v x) : ∃ a k cap, k ≤ 5 ∧ x < 4294967296 ^ k ∧ Cs .u32 w a k (dg 4294967296 x) ∧ k ≤ cap ∧ cap ≤ maxLen ∧ (a = none → cap = 0) ∧ ∀ wz, Calls Tryd.prog 13 #[v] wz fun e w' => e = .returned (.slice a k cap) ∧ w' = wz := by
  obtain ⟨a, len, cap, rfl, h2, h3, h4, h5, h6⟩ := h
  exact ⟨a, min len 5, cap, by omega, h5, h6, by omega, h3, h4, fun wz => few_any a len cap wz h2 h3 h4⟩
theorem madec_any {x k cap : Nat} {a : Option Addr} (w : World) (hk : k ≤ 5) (hx : x < 4294967296 ^ k) (h : Cs .u32 w a k (dg 4294967296 x)) :
    Calls Tryd.prog 30 #[.slice a k cap] w fun e w' => ∃ a' c', e = .returned (.agg #[.slice a' (nlen 4294967296 x) c']) ∧ IsNat w' (.agg #[.slice a' (nlen 4294967296 x) c']) x ∧ Fr w w' := by
  refine (made_any k cap a _ x w (by omega) h hx (fun j _ => rfl)).mono ?_
  rintro e w' ⟨a', c', rfl, _, hN, hf⟩
  exact ⟨_, _, rfl, hN, hf⟩

set_option maxHeartbeats 400000 in
set_option maxRecDepth 4000 in
theorem digits_any (v : Value) (x : Nat) (w : World) (h : IsNat w v x) (hn : nlen 4294967296 x ≤ 1000) :
    Calls Tryd.prog 28 #[v] w fun e w' => ∃ u, e = .returned u ∧ IsDec w' u x ∧ Fr w w' := by
  have H := hide h
  obtain ⟨a, ca, rfl, a2, a3, a4⟩ := h
  clear a4
  go_enter Tryd.func28, Tryd.ntmps28
  go_wp2_with fail
  have fW := Fr.alloc w (Obj.cells #[Value.slice a (nlen 4294967296 x) ca] 24)
  refine (limbs_any _ x _ (H.out.fr fW) (by omega)).mono ?_
  rintro e w1 ⟨v', rfl, o1, f1⟩
  obtain ⟨a1, c1, rfl, _, _, _⟩ := own_form o1
  have C1 := own_cs o1
  have F := fW.trans f1
  clear o1 f1 fW
  go_wp2_with fail
  refine (refMade_any x (nlen 4294967296 x) c1 a1 _ (lt_nlen b32 x) hn C1).mono ?_
  rintro e w2 ⟨u, rfl, iu, f2⟩
  have F := F.trans f2
  go_wp2_with fail
  go_ret
  exact ⟨_, rfl, iu, F⟩
end Go.Proofs.YtimglhbllcjpbaaDoor
