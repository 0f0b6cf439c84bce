/- The document's marked, closed. -/
import Derived.Test.YtaokmegoheofjaaDoorTokJ
import Derived.Deep.RegionHeld3
import Derived.Deep.DeepCutAuto
namespace Go.Proofs.YtaokmegoheofjaaDoor
set_option linter.unusedVariables false
set_option linter.unusedSimpArgs false
open Go.RowKit

def refV : Nx → Value
  | .ok k t c n => .tuple #[tkV k t c 0, .int .i64 n, .int .i64 0, .int .i64 0]
  | .no o e => .tuple #[tkV 0 [] 0 0, .int .i64 0, .int .i64 o, .int .i64 e]

theorem results_ref {fn : Func} {p u1 u2 u3 : Tmp} (h : fn.results = #[.cell p 42, .tmp u1, .tmp u2, .tmp u3]) (tmps : Array Value) (w : World) (b : Nat) (v0 v1 v2 v3 : Value) (hp : tmps.getD p undef = .pointer (some ⟨b, 0, none⟩)) (h0 : w.cell? ⟨b, 0, none⟩ = some v0) (h1 : w.cell? ⟨b, 1, none⟩ = some v1) (h2 : w.cell? ⟨b, 2, none⟩ = some v2) (h3 : w.cell? ⟨b, 3, none⟩ = some v3) :
    (results fn tmps).run Tryd.prog w = .ok (.tuple #[.agg #[v0, v1, v2, v3], tmps.getD u1 undef, tmps.getD u2 undef, tmps.getD u3 undef]) w := by
  have hp' : tmps[p]?.getD undef = .pointer (some ⟨b, 0, none⟩) := by simpa using hp
  simp [results, h, hp']
  go_simp

/-- The answer's variable, at a block, and the empty token's behind it. -/
structure Vars (w V : World) (B : Nat) : Prop where
  c : ∃ x0 x1 x2 x3, V.cell? ⟨B, 0, none⟩ = some x0 ∧ V.cell? ⟨B, 1, none⟩ = some x1 ∧ V.cell? ⟨B, 2, none⟩ = some x2 ∧ V.cell? ⟨B, 3, none⟩ = some x3
  f : ∀ j, V.frozen? ⟨B, j, none⟩ = false
  n : V.cell? ⟨B + 1, 0, none⟩ = some (.int .i64 0) ∧ V.cell? ⟨B + 1, 1, none⟩ = some (.string ⟨#[]⟩) ∧ V.cell? ⟨B + 1, 2, none⟩ = some (.int .i64 0) ∧ V.cell? ⟨B + 1, 3, none⟩ = some (.int .i64 0)
  b : w.heap.size ≤ B
  fr : Fr w V

theorem Vars.go {w V V' : World} {B : Nat} (h : Vars w V B) (k : Fr V V') : Vars w V' B := by
  obtain ⟨x0, x1, x2, x3, c0, c1, c2, c3⟩ := h.c
  refine ⟨⟨x0, x1, x2, x3, fr_cell k c0, fr_cell k c1, fr_cell k c2, fr_cell k c3⟩, fun j => ?_, ⟨fr_cell k h.n.1, fr_cell k h.n.2.1, fr_cell k h.n.2.2.1, fr_cell k h.n.2.2.2⟩, h.b, h.fr.trans k⟩
  have hb := k.block B (cell_lt c0)
  have := h.f j
  unfold World.frozen? at this ⊢
  simp only at this ⊢
  rw [hb]
  exact this
theorem Vars.new (w : World) (t : TypeId) : Vars w ((w.alloc (.cells #[.int .i64 0, .string ⟨#[]⟩, .int .i64 0, .int .i64 0] t)).alloc (.cells #[.int .i64 0, .string ⟨#[]⟩, .int .i64 0, .int .i64 0] t)) w.heap.size := by
  have F := Fr.alloc (w.alloc (.cells #[.int .i64 0, .string ⟨#[]⟩, .int .i64 0, .int .i64 0] t)) (.cells #[.int .i64 0, .string ⟨#[]⟩, .int .i64 0, .int .i64 0] t)
  obtain ⟨c0, c1, c2, c3⟩ := four_cells F
  obtain ⟨d0, d1, d2, d3⟩ := four_cells (Fr.refl ((w.alloc (.cells #[.int .i64 0, .string ⟨#[]⟩, .int .i64 0, .int .i64 0] t)).alloc (.cells #[.int .i64 0, .string ⟨#[]⟩, .int .i64 0, .int .i64 0] t)))
  have hz : (w.alloc (.cells #[.int .i64 0, .string ⟨#[]⟩, .int .i64 0, .int .i64 0] t)).heap.size = w.heap.size + 1 := by simp
  rw [hz] at d0 d1 d2 d3
  exact ⟨⟨_, _, _, _, c0, c1, c2, c3⟩, var_free F, ⟨d0, d1, d2, d3⟩, Nat.le_refl _, (Fr.alloc _ _).trans F⟩

theorem results_vars {fn : Func} {p u1 u2 u3 : Tmp} (h : fn.results = #[.cell p 42, .tmp u1, .tmp u2, .tmp u3]) (tmps : Array Value) {w V : World} {B : Nat} (r : Vars w V B) (v0 v1 v2 v3 : Value) (hp : tmps.getD p undef = .pointer (some ⟨B, 0, none⟩)) :
    (results fn tmps).run Tryd.prog ((((V.setCell ⟨B, 0, none⟩ v0).setCell ⟨B, 1, none⟩ v1).setCell ⟨B, 2, none⟩ v2).setCell ⟨B, 3, none⟩ v3)
      = .ok (.tuple #[.agg #[v0, v1, v2, v3], tmps.getD u1 undef, tmps.getD u2 undef, tmps.getD u3 undef]) ((((V.setCell ⟨B, 0, none⟩ v0).setCell ⟨B, 1, none⟩ v1).setCell ⟨B, 2, none⟩ v2).setCell ⟨B, 3, none⟩ v3) := by
  obtain ⟨x0, x1, x2, x3, c0, c1, c2, c3⟩ := r.c
  refine results_ref h tmps _ B v0 v1 v2 v3 hp ?_ ?_ ?_ ?_
  · exact set_other (by decide) (set_other (by decide) (set_other (by decide) (set_same c0)))
  · exact set_other (by decide) (set_other (by decide) (set_same (set_other (by decide) c1)))
  · exact set_other (by decide) (set_same (set_other (by decide) (set_other (by decide) c2)))
  · exact set_same (set_other (by decide) (set_other (by decide) (set_other (by decide) c3)))
theorem fr_vars {w V : World} {B : Nat} (r : Vars w V B) (v0 v1 v2 v3 : Value) :
    Fr w ((((V.setCell ⟨B, 0, none⟩ v0).setCell ⟨B, 1, none⟩ v1).setCell ⟨B, 2, none⟩ v2).setCell ⟨B, 3, none⟩ v3) :=
  Below.setCell (Below.setCell (Below.setCell (Below.setCell r.fr r.b _) r.b _) r.b _) r.b _

set_option maxHeartbeats 1000000 in
set_option maxRecDepth 4000 in
theorem marked_any (s : ByteArray) (k e : Int) (w : World) (hs : s.size ≤ maxLen) (h0 : 0 < s.size) :
    Calls Tryd.prog 36 #[.string s, .int .i64 k, .int .i64 e] w fun r w' => r = .returned (refV (markN k e ((ints s).drop 1))) ∧ Fr w w' := by
  have hs' := hs
  unfold maxLen at hs
  have hV := Vars.new w 42
  by_cases h : s.size = 1
  · have e' : (ints s).drop 1 = [] := List.drop_eq_nil_of_le (by rw [ints_length]; omega)
    rw [e']
    clear e' hs'
    have h2 : (s.size : Int) < 2 := by omega
    go_enter Tryd.func36, Tryd.ntmps36
    go_upto_region 2 with fail
    generalize (w.alloc _).alloc _ = V at *
    obtain ⟨x0, x1, x2, x3, c0, c1, c2, c3⟩ := hV.c
    have ff := hV.f
    obtain ⟨n0, n1, n2, n3⟩ := hV.n
    go_wp2_with fail
    exact bodyPost_ret (results_vars rfl _ hV _ _ _ _ rfl) rfl ⟨by simp only [markN, if_true, refV, tkV, str_nil]; rfl, fr_vars hV _ _ _ _⟩
  · have hne : (ints s).drop 1 ≠ [] := by
      intro hh
      have := congrArg List.length hh
      rw [List.length_drop, ints_length] at this
      simp at this
      omega
    have h1 : ¬ (s.size : Int) < 2 := by omega
    rcases rfirst_cases ((ints s).drop 1) (drop_range s 1) with hf | ⟨m, t, hm, ht, hf⟩
    · have hp : markN k e ((ints s).drop 1) = .no 1 4 := by unfold markN; rw [if_neg hne, hf]; rfl
      rw [hp]
      have HFf := hide hf
      clear hp hf hne
      go_enter Tryd.func36, Tryd.ntmps36
      go_upto_region 2 with fail
      generalize (w.alloc _).alloc _ = V at *
      go_wp2_with fail
      refine (refFirst_any (s.extract 1 s.size) _ (size_from s 1 hs')).mono ?_
      rintro e w1 ⟨rfl, hF1⟩
      rw [ints_from, HFf.out]
      have hW := hV.go hF1
      obtain ⟨x0, x1, x2, x3, c0, c1, c2, c3⟩ := hW.c
      have ff := hW.f
      obtain ⟨n0, n1, n2, n3⟩ := hW.n
      go_wp2_with fail
      exact bodyPost_ret (results_vars rfl _ hW _ _ _ _ rfl) rfl ⟨by simp only [refV, tkV, str_nil]; rfl, fr_vars hW _ _ _ _⟩
    · have hnl := nums_length m hm
      have hc := rsize_cases m
      have hz : 1 + (nums m).length ≤ s.size := by
        have := congrArg List.length ht
        rw [List.length_drop, ints_length, List.length_append] at this
        have := nums_pos m
        omega
      have hp : markN k e ((ints s).drop 1) = .ok k (nums m) 0 (1 + (nums m).length) := by
        unfold markN
        rw [if_neg hne, hf, if_pos rfl, show (rsize m).toNat = (nums m).length by omega, ht, List.take_left]
      rw [hp]
      have HFf := hide hf
      have HX : Hid (s.extract 1 ((1 : Int) + ((nums m).length : Int)).toNat = strOfNums (nums m)) := hide (by rw [str_ext, ht, show ((1 : Int) + ((nums m).length : Int)).toNat - 1 = (nums m).length by omega, List.take_left])
      have HNL := hide hnl
      have hN4 : (nums m).length ≤ 4 := by omega
      generalize nums m = u at *
      clear hp hf hne hc ht hnl
      generalize hN : u.length = N at *
      go_enter Tryd.func36, Tryd.ntmps36
      go_upto_region 2 with fail
      generalize (w.alloc _).alloc _ = V at *
      go_wp2_with fail
      refine (refFirst_any (s.extract 1 s.size) _ (size_from s 1 hs')).mono ?_
      rintro r w1 ⟨rfl, hF1⟩
      rw [ints_from, HFf.out, ← HNL.out]
      have hW := hV.go hF1
      obtain ⟨x0, x1, x2, x3, c0, c1, c2, c3⟩ := hW.c
      have ff := hW.f
      go_wp2_with fail
      exact bodyPost_ret (results_vars rfl _ hW _ _ _ _ rfl) rfl ⟨by simp only [refV, tkV]; rw [← HX.out, show ((1 + N : Nat) : Int) = 1 + (N : Int) by omega]; rfl, fr_vars hW _ _ _ _⟩
end Go.Proofs.YtaokmegoheofjaaDoor
