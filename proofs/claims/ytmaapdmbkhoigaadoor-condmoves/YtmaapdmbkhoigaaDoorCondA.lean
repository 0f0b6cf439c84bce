/- Layer 13: mayStand, onNumber; a variable of four cells. -/
import Derived.Test.YtmaapdmbkhoigaaDoorCondP
import Derived.Test.YtmaapdmbkhoigaaDoorPackE
import Derived.Test.YtmaapdmbkhoigaaDoorPackC
namespace Go.Proofs.YtmaapdmbkhoigaaDoor
set_option linter.unusedVariables false
set_option linter.unusedSimpArgs false
open Go.RowKit
open Go.Lib (hasPrefix trimPrefix trimLeftB trimRightB)

/-- The library's variable that strings.Cut reads holds some number. -/
def MaxOk (w : World) : Prop := ∃ m, w.cell? ⟨1, 0, none⟩ = some (.int .i64 m)
theorem MaxOk.fr {w w' : World} (h : MaxOk w) (k : Fr w w') : MaxOk w' := by
  obtain ⟨m, hm⟩ := h
  exact ⟨m, fr_cell k hm⟩

theorem c_same {w : World} {a : Addr} {u v : Value} (h : w.cell? a = some u) : (w.setCell a v).cell? a = some v := World.cell?_setCell_same w a v h
theorem c_other {w : World} {b i j : Nat} {u v : Value} (hij : i ≠ j) (h : w.cell? ⟨b, j, none⟩ = some u) : (w.setCell ⟨b, i, none⟩ v).cell? ⟨b, j, none⟩ = some u := by
  rw [World.cell?_setCell_other w _ _ v (fun e => hij (by injection e))]
  exact h
/-- A variable of four cells, made since W0. -/
def Quad (W0 w : World) (b : Nat) (v0 v1 v2 v3 : Value) : Prop := w.cell? ⟨b, 0, none⟩ = some v0 ∧ w.cell? ⟨b, 1, none⟩ = some v1 ∧ w.cell? ⟨b, 2, none⟩ = some v2 ∧ w.cell? ⟨b, 3, none⟩ = some v3 ∧ (∀ o, w.frozen? ⟨b, o, none⟩ = false) ∧ W0.heap.size ≤ b
theorem Quad.new {W0 w : World} (f : Fr W0 w) (v0 v1 v2 v3 : Value) (t : TypeId) : Quad W0 (w.alloc (.cells #[v0, v1, v2, v3] t)) w.heap.size v0 v1 v2 v3 := ⟨by simp [go_sem], by simp [go_sem], by simp [go_sem], by simp [go_sem], fun o => by simp [go_sem], f.size⟩
theorem Quad.fr {W0 w w' : World} {b : Nat} {v0 v1 v2 v3 : Value} (h : Quad W0 w b v0 v1 v2 v3) (f : Fr w w') : Quad W0 w' b v0 v1 v2 v3 := by
  obtain ⟨h0, h1, h2, h3, h4, h5⟩ := h
  refine ⟨fr_cell f h0, fr_cell f h1, fr_cell f h2, fr_cell f h3, fun o => ?_, h5⟩
  have hb := f.block b (cell_lt h0)
  have := h4 o
  unfold World.frozen? at *
  rw [hb]; exact this
theorem Quad.set {W0 w : World} {b : Nat} {v0 v1 v2 v3 : Value} (h : Quad W0 w b v0 v1 v2 v3) (u0 u1 u2 u3 : Value) : Quad W0 ((((w.setCell ⟨b, 0, none⟩ u0).setCell ⟨b, 1, none⟩ u1).setCell ⟨b, 2, none⟩ u2).setCell ⟨b, 3, none⟩ u3) b u0 u1 u2 u3 := by
  obtain ⟨c0, c1, c2, c3, c4, c5⟩ := h
  exact ⟨c_other (by decide) (c_other (by decide) (c_other (by decide) (c_same c0))), c_other (by decide) (c_other (by decide) (c_same (c_other (by decide) c1))), c_other (by decide) (c_same (c_other (by decide) (c_other (by decide) c2))), c_same (c_other (by decide) (c_other (by decide) (c_other (by decide) c3))), fun o => by simpa using c4 o, c5⟩
theorem Quad.set_fr {W0 w : World} {b : Nat} {v0 v1 v2 v3 : Value} (h : Quad W0 w b v0 v1 v2 v3) (f : Fr W0 w) (u0 u1 u2 u3 : Value) : Fr W0 ((((w.setCell ⟨b, 0, none⟩ u0).setCell ⟨b, 1, none⟩ u1).setCell ⟨b, 2, none⟩ u2).setCell ⟨b, 3, none⟩ u3) :=
  Below.setCell (Below.setCell (Below.setCell (Below.setCell f h.2.2.2.2.2 _) h.2.2.2.2.2 _) h.2.2.2.2.2 _) h.2.2.2.2.2 _
theorem Quad.put {W0 w : World} {b : Nat} {v0 v1 v2 v3 : Value} (h : Quad W0 w b v0 v1 v2 v3) (u1 : Value) : Quad W0 (w.setCell ⟨b, 1, none⟩ u1) b v0 u1 v2 v3 := by
  obtain ⟨c0, c1, c2, c3, c4, c5⟩ := h
  exact ⟨c_other (by decide) c0, c_same c1, c_other (by decide) c2, c_other (by decide) c3, fun o => by simpa using c4 o, c5⟩
theorem results_cond {fn : Func} {p u : Tmp} {t : TypeId} (ht : t = 24 ∨ t = 28) (h : fn.results = #[.cell p t, .tmp u]) (tmps : Array Value) {W0 w : World} {b : Nat} {v0 v1 v2 v3 : Value} (hq : Quad W0 w b v0 v1 v2 v3) (hp : tmps.getD p undef = .pointer (some ⟨b, 0, none⟩)) :
    (results fn tmps).run Tryd.prog w = .ok (.tuple #[.agg #[v0, v1, v2, v3], tmps.getD u undef]) w := by
  obtain ⟨h0, h1, h2, h3, _, _⟩ := hq
  have hp' : tmps[p]?.getD undef = .pointer (some ⟨b, 0, none⟩) := by simpa using hp
  rcases ht with rfl | rfl
  · simp [results, h, hp']
    go_simp
  · simp [results, h, hp']
    go_simp

theorem pre45 (l : List UInt8) : hasPrefix l [45] = neD l ∧ trimPrefix l [45] = szD l := by
  unfold trimPrefix szD hasPrefix neD
  cases l with
  | nil => simp [List.isPrefixOf]
  | cons a r =>
    by_cases h : a = 45
    · subst h; simp [List.isPrefixOf]
    · have h' : ((45 : UInt8) == a) = false := by rw [beq_eq_false_iff_ne]; exact fun e => h e.symm
      have h2 : (a == (45 : UInt8)) = false := by rw [beq_eq_false_iff_ne]; exact h
      simp [List.isPrefixOf, h2, h']
theorem index_dot (b : UInt8) : ∀ l : List UInt8, (Lib.index l [b] = -1 ∧ l.takeWhile (fun x => x != b) = l) ∨ ∃ i : Nat, Lib.index l [b] = i ∧ l.takeWhile (fun x => x != b) = l.take i ∧ i < l.length
  | [] => .inl ⟨rfl, rfl⟩
  | a :: l => by
    by_cases h : a = b
    · subst h
      exact .inr ⟨0, by simp [Lib.index, List.isPrefixOf], by simp, by simp⟩
    · have hp : [b].isPrefixOf (a :: l) = false := by simp [List.isPrefixOf]; exact fun e => h e.symm
      have hw : (a :: l).takeWhile (fun x => x != b) = a :: l.takeWhile (fun x => x != b) := by rw [List.takeWhile_cons, if_pos (by simpa using h)]
      rcases index_dot b l with ⟨h1, h2⟩ | ⟨i, h1, h2, h3⟩
      · left
        rw [hw, h2]
        exact ⟨by simp [Lib.index, hp, h1], rfl⟩
      · right
        refine ⟨i + 1, ?_, by rw [hw, h2]; rfl, by simpa using h3⟩
        have : ((i : Int) == -1) = false := by rw [beq_eq_false_iff_ne]; omega
        simp [Lib.index, hp, h1, this]
theorem cut_dot (l : List UInt8) : Lib.cut (szD l) [46] = (whD l, paD l, poD l) := by
  unfold paD poD whD
  generalize szD l = m
  unfold Lib.cut
  rcases index_dot 46 m with ⟨h1, h2⟩ | ⟨i, h1, h2, h3⟩
  · rw [h1, if_neg (by omega), h2]
    simp
  · rw [h1, if_pos (by omega), h2, List.length_take, Nat.min_eq_left (by omega)]
    simp [h3]

theorem szD_le (l : List UInt8) : (szD l).length ≤ l.length := by
  unfold szD; split
  · rw [List.length_tail]; omega
  · exact Nat.le_refl _
theorem whD_le (l : List UInt8) : (whD l).length ≤ l.length := by
  have := szD_le l
  have := (List.takeWhile_sublist (fun x : UInt8 => x != 46) (l := szD l)).length_le
  unfold whD; omega
theorem paD_le (l : List UInt8) : (paD l).length ≤ l.length := by
  have := szD_le l
  unfold paD; rw [List.length_drop]; omega

theorem bs_maxLen {l : List UInt8} {n : Nat} (h : l.length ≤ n) (hn : n ≤ 1000000) : (bs l).size ≤ maxLen := by rw [bs_size]; unfold maxLen; omega

set_option maxHeartbeats 1000000 in
set_option maxRecDepth 4000 in
theorem mayStand_any (l : List UInt8) (w : World) (hl : l.length ≤ 100000) :
    Calls Tryd.prog 28 #[.string (bs l)] w fun e w' => e = .returned (.bool (runD l)) ∧ Fr w w' := by
  have hz : (bs l).size = l.length := bs_size l
  by_cases h30 : l.length ≤ 30
  · cases hr : runD l with
    | true =>
      obtain ⟨h1, h2, h3⟩ := runD_iff.1 hr
      have HP := hide (fun w => parse_yes (bs l) (valD l) w (by omega) (by rw [bs_data]; intro e; rw [e] at h1; simp at h1) (by rw [bs_data]; exact h3) (by rw [bs_data]))
      have hz' : ((bs l).size : Int) ≤ 30 := by omega
      clear hr h1 h2 h3
      go_enter Tryd.func28, Tryd.ntmps28
      go_wp2_with fail
      refine (HP.out _).mono ?_
      rintro e w1 ⟨a, c, rfl, h1, l1, f1⟩
      go_wp2_with fail
      go_ret
      exact ⟨rfl, f1.trans (Fr.alloc _ _)⟩
    | false =>
      have HP := hide (fun w => parse_no (bs l) w (bs_maxLen h30 (by omega)) (by
        rw [bs_data]
        by_cases hn : l = []
        · exact .inl hn
        · right
          intro hA
          have := runD_iff.2 ⟨by have := List.length_pos_iff.2 hn; omega, h30, hA⟩
          rw [hr] at this
          cases this))
      have hz' : ((bs l).size : Int) ≤ 30 := by omega
      clear hr
      go_enter Tryd.func28, Tryd.ntmps28
      go_wp2_with fail
      refine (HP.out _).mono ?_
      rintro e w1 ⟨rfl, f1⟩
      go_wp2_with fail
      go_ret
      exact ⟨rfl, f1.trans (Fr.alloc _ _)⟩
  · have hr : runD l = false := by
      cases hc : runD l with
      | false => rfl
      | true => exact absurd (runD_iff.1 hc).2.1 h30
    rw [hr]
    have hz' : ¬ ((bs l).size : Int) ≤ 30 := by omega
    have hz2 : (30 : Int) < ((bs l).size : Int) := by omega
    clear hr
    go_enter Tryd.func28, Tryd.ntmps28
    go_wp2_with fail
    go_ret
    exact ⟨rfl, Fr.refl _⟩
end Go.Proofs.YtmaapdmbkhoigaaDoor
