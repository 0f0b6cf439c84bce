/- Mul. -/
import Derived.Test.YtimglhbllcjpbaaDoorTimesA
import Derived.Deep.RegionHeld3
namespace Go.Proofs.YtimglhbllcjpbaaDoor
set_option linter.unusedVariables false
set_option linter.unusedSimpArgs false
open Go.RowKit

set_option maxHeartbeats 1000000 in
set_option maxRecDepth 4000 in
theorem mul_any (va vb : Value) (x y : Nat) (w : World) (ha : IsNat w va x) (hb : IsNat w vb y) (hx : nlen 4294967296 x ≤ 100000000000) (hy : nlen 4294967296 y ≤ 100000000000) :
    Calls Tryd.prog 43 #[va, vb] w fun e w' => ∃ a c, e = .returned (.agg #[.slice a (nlen 4294967296 (x * y)) c]) ∧ Res w w' a c (x * y) := by
  have HA := hide ha
  have HB := hide hb
  obtain ⟨a, ca, rfl, a2, a3, a4⟩ := ha
  obtain ⟨b, cb, rfl, b2, b3, b4⟩ := hb
  clear a4 b4
  have lx := hide (lt_nlen b32 x)
  have ly := hide (lt_nlen b32 y)
  go_enter Tryd.func43, Tryd.ntmps43
  go_wp2_with fail
  obtain ⟨W, hW⟩ : ∃ W, W = ((w.alloc (Obj.cells #[Value.slice a (nlen 4294967296 x) ca] 24)).alloc (Obj.cells #[Value.slice b (nlen 4294967296 y) cb] 24)).alloc (Obj.cells #[Value.slice none 0 0] 24) := ⟨_, rfl⟩
  have fW : Fr w W := by rw [hW]; exact ((Fr.alloc _ _).trans (Fr.alloc _ _)).trans (Fr.alloc _ _)
  have c2 : W.cell? ⟨w.heap.size, 0, none⟩ = some (.slice a (nlen 4294967296 x) ca) := by rw [hW]; simp [go_sem]
  have c3 : W.cell? ⟨w.heap.size + 1, 0, none⟩ = some (.slice b (nlen 4294967296 y) cb) := by rw [hW]; simp [go_sem]
  have c4 : W.cell? ⟨w.heap.size + 1 + 1, 0, none⟩ = some (.slice none 0 0) := by rw [hW]; simp [go_sem]
  have z4 : W.frozen? ⟨w.heap.size + 1 + 1, 0, none⟩ = false := by rw [hW]; simp [go_sem]
  have sW : w.heap.size + 1 + 1 < W.heap.size := cell_lt c4
  rw [← hW]
  clear hW
  have HA := hide (IsNat.fr HA.out fW)
  have HB := hide (IsNat.fr HB.out fW)
  have FW := hide fW
  clear fW
  go_region_held3 (fun w' => w'.cell? ⟨w.heap.size, 0, none⟩ = some (.slice a (nlen 4294967296 x) ca) ∧ w'.cell? ⟨w.heap.size + 1, 0, none⟩ = some (.slice b (nlen 4294967296 y) cb) ∧ Hid (Fr W w'))
    (first | exact ⟨fr_cell fz.out c2, fr_cell fz.out c3, fz⟩ | exact ⟨c2, c3, Fr.drew _⟩)
    (first
    | (go_at_call 51
       have hh := (by assumption : _ ∧ _ ∧ Hid (Fr W _))
       first
       | (refine (limbs_lm _ x _ (IsNat.fr HA.out hh.2.2.out) (by omega)).mono ?_
          rintro e wn ⟨a1, c1, rfl, n1, l1, fy⟩
          have L1 := hide l1
          try (have L2 := hide (L2.out.fr fy))
          have fz := hide (hh.2.2.out.trans fy)
          clear hh fy l1)
       | (refine (limbs_lm _ y _ (IsNat.fr HB.out hh.2.2.out) (by omega)).mono ?_
          rintro e wn ⟨a5, c5, rfl, n5, l2, fy⟩
          have L2 := hide l2
          try (have L1 := hide (L1.out.fr fy))
          have fz := hide (hh.2.2.out.trans fy)
          clear hh fy l2)))
  go_wp2_with fail
  obtain ⟨M, hM⟩ : ∃ M : Nat, nlen 4294967296 x + nlen 4294967296 y = M := ⟨_, rfl⟩
  have e : (nlen 4294967296 x : Int) + (nlen 4294967296 y : Int) = (M : Int) := by omega
  rw [e]
  clear e
  have hmk := run_make_row' (P := Tryd.prog) 22 41 (.int .u32 0) 4 Tryd.underlying22 info32 rfl .i64 .i64 M (by omega) (by omega)
  rw [hmk]
  simp only [Result.andThen]
  rw [Oper.upon_value]
  generalize hN1 : nlen 4294967296 x = N1 at *
  generalize hN2 : nlen 4294967296 y = N2 at *
  have HN1 := hide hN1
  have HN2 := hide hN2
  clear hmk hN1 hN2
  go_wp2_with fail
  go_loopw [22] (fun s22 wr => ∃ i : Nat, i ≤ N1 ∧ s22 = .int .i64 i ∧ wr.rowIs wn.heap.size 41 M (fun j => .int .u32 (dg 4294967296 (x % 4294967296 ^ i * y) j : Int)) ∧ Hid (Fr wn wr)) (fun s22 _ => N1 - (intOf s22).toNat)
  case atStart =>
    refine ⟨0, by omega, rfl, ?_, Fr.alloc _ _⟩
    rw [Nat.pow_zero, Nat.mod_one, Nat.zero_mul]
    simp only [dg_zero]
    exact World.rowIs_made wn (.int .u32 0) M 41
  case round =>
    obtain ⟨i, hi, rfl, hrw, hF⟩ := hrel
    by_cases hc : i < N1
    · have lk := dg_lt b32 x i
      have hcx := (L1.out.1).fr hF.out
      rw [HN1.out] at hcx
      rcases hcx with h0 | ⟨bx, off, rfl, hbx, hcell⟩
      · omega
      · have hcx := hcell i hc
        clear hcell
        have HR := hide hrw
        clear hrw
        go_wp2_with fail
        have hy' := ly.out
        refine (addRow_any wn.heap.size M i N2 (M - i) (M - i) (x % 4294967296 ^ i * y) y (dg 4294967296 x i) c5 a5 wr HR.out (part_lt b32 x y i N2 hy') (by omega) (by omega) (by omega) hy' lk ?_ L2.out.2).mono ?_
        · have := (L2.out.1).fr hF.out
          rw [HN2.out] at this
          exact this
        · rintro e w1 ⟨rfl, hr1, f1⟩
          rw [mul_round] at hr1
          have HR1 := hide hr1
          clear hr1
          go_wp2_with fail
          go_roundw
          case rel => exact ⟨i + 1, by omega, by go_num, HR1.out, Below.trans hF.out f1⟩
          case measure => simp [intOf]; omega
    · have e : i = N1 := by omega
      subst e
      have hcs : Cs .u32 wr (some ⟨wn.heap.size, 0, none⟩) M (dg 4294967296 (x % 4294967296 ^ i * y)) := .inr ⟨_, 0, rfl, hrw.lt, fun j hj => by rw [Nat.zero_add]; exact hrw.cell hj⟩
      have hxx : x % 4294967296 ^ i = x := Nat.mod_eq_of_lt lx.out
      rw [hxx] at hcs
      have hlt : x * y < 4294967296 ^ M := by have := part_lt b32 x y i N2 ly.out; rw [hxx] at this; rwa [hM] at this
      have HC := hide hcs
      have HL := hide hlt
      clear hcs hlt hrw hxx
      go_wp2_with fail
      refine (made_any M M (some ⟨wn.heap.size, 0, none⟩) _ (x * y) _ (by omega) HC.out HL.out (fun j _ => rfl)).mono ?_
      rintro e w1 ⟨a6, c6, rfl, hl6, h6, f6⟩
      have f7 := (fz.out.trans hF.out).trans f6
      have hcell := fr_cell f7 c4
      have hfz := fr_free f7 c4 z4
      have H6 := hide h6
      have s1 := (fz.out.trans hF.out).size
      have F8 := FW.out.trans f7
      have HL6 := hide hl6
      clear h6 hl6
      unfold natVal
      go_wp2_with fail
      (try simp only [Exit.inBlock, Exit.then])
      refine bodyPost_ret (results_nat rfl _ _ (w.heap.size + 1 + 1) (.slice (natA (x * y) a6) (nlen 4294967296 (x * y)) (natC (x * y) c6)) rfl ?_) rfl ?_
      · go_simp
      · have hg : ∀ g off s, natA (x * y) a6 = some ⟨g, off, s⟩ → wr.heap.size < g := fun g off s e => HL6.out g off s (natA_some e)
        refine ⟨_, _, rfl, ?_, fun g off s e => ?_, ?_⟩
        · exact IsNat.set H6.out _ _ (fun g off s e => by have := HL6.out g off s e; simp; omega)
        · have := hg g off s e; omega
        · exact Below.setCell F8 (by simp; omega) _
end Go.Proofs.YtimglhbllcjpbaaDoor
