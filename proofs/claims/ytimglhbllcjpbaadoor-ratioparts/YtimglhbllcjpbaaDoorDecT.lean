/- The document's Div. -/
import Derived.Test.YtimglhbllcjpbaaDoorDecS
import Derived.Test.YtimglhbllcjpbaaDoorDecO
import Derived.Test.YtimglhbllcjpbaaDoorTimesP
namespace Go.Proofs.YtimglhbllcjpbaaDoor
set_option linter.unusedVariables false
set_option linter.unusedSimpArgs false
open Go.RowKit

/-- One digit of a quotient. -/
theorem ldiv_step (x y k : Nat) (hy : 0 < y) : (x / 10 ^ (k + 1) % y * 10 + dg 10 x k) % y = x / 10 ^ k % y ∧ (x / 10 ^ (k + 1) % y * 10 + dg 10 x k) / y = dg 10 (x / y) k := by
  have h1 := div_step ten2 x k
  have h2 := Nat.div_add_mod (x / 10 ^ (k + 1)) y
  have hd := dg_lt ten2 x k
  have hr := Nat.mod_lt (x / 10 ^ (k + 1)) hy
  have e3 : dg 10 (x / y) k = x / 10 ^ k / y % 10 := by unfold dg; rw [Nat.div_div_eq_div_mul, Nat.div_div_eq_div_mul, Nat.mul_comm y]
  rw [e3, h1]
  generalize x / 10 ^ (k + 1) = X at *
  generalize dg 10 x k = d at *
  generalize X % y = R at *
  generalize X / y = Q at *
  have e1 : 10 * X + d = y * (10 * Q) + (R * 10 + d) := by
    rw [← h2, Nat.mul_add, show 10 * (y * Q) = y * (10 * Q) by ac_rfl]; omega
  rw [e1, Nat.mul_add_mod, Nat.mul_add_div hy]
  refine ⟨rfl, ?_⟩
  have hlt : (R * 10 + d) / y < 10 := by rw [Nat.div_lt_iff_lt_mul hy]; omega
  rw [Nat.mul_add_mod, Nat.mod_eq_of_lt hlt]
theorem nl_sumB {B x y n : Nat} (hB : 2 ≤ B) (hx : nlen B x ≤ n) (hy : nlen B y ≤ n) : nlen B (x + y) ≤ n + 1 := nlen_le hB (sum_lt hB (lt_of_nlen hB hx) (lt_of_nlen hB hy))
def readI (w : World) (a : Addr) : Nat :=
  match w.cell? a with
  | some (.int _ z) => z.toNat
  | _ => 0
theorem readI_of {w : World} {a : Addr} {k : IntKind} {n : Nat} (h : w.cell? a = some (.int k (n : Int))) : readI w a = n := by
  unfold readI; rw [h]; simp
/-- The quotient's digits: those behind place k, t at place k, noughts below. -/
def rowQ (f : Nat → Nat) (k t j : Nat) : Value := .int .i64 ((if k < j then f j else if j = k then t else 0 : Nat) : Int)
theorem rowQ_set {w : World} {g n k t : Nat} {ty : TypeId} {f : Nat → Nat} (h : w.rowIs g ty n (rowQ f k t)) (d : Int) (hd : d = (t + 1 : Nat)) : (w.setCell ⟨g, k, none⟩ (.int .i64 d)).rowIs g ty n (rowQ f k (t + 1)) := by
  refine (h.set k (.int .i64 d)).congr ?_
  intro j hj
  unfold rowQ
  by_cases h1 : j = k
  · subst h1; rw [if_pos rfl, if_neg (by omega), if_pos rfl, hd]
  · rw [if_neg h1]
    by_cases h2 : k < j
    · rw [if_pos h2, if_pos h2]
    · rw [if_neg h2, if_neg h2, if_neg h1, if_neg h1]
def rowV (f : Nat → Nat) (k j : Nat) : Value := .int .i64 ((if k ≤ j then f j else 0 : Nat) : Int)
theorem rowV_open {w : World} {g n k : Nat} {ty : TypeId} {f : Nat → Nat} (h : w.rowIs g ty n (rowV f (k + 1))) : w.rowIs g ty n (rowQ f k 0) := by
  refine h.congr ?_
  intro j hj
  unfold rowQ rowV
  by_cases h2 : k + 1 ≤ j
  · rw [if_pos h2, if_pos (by omega)]
  · rw [if_neg h2, if_neg (by omega)]
    split <;> rfl
theorem rowV_shut {w : World} {g n k : Nat} {ty : TypeId} {f : Nat → Nat} (h : w.rowIs g ty n (rowQ f k (f k))) : w.rowIs g ty n (rowV f k) := by
  refine h.congr ?_
  intro j hj
  unfold rowQ rowV
  by_cases h2 : k < j
  · rw [if_pos h2, if_pos (by omega)]
  · rw [if_neg h2]
    by_cases h3 : j = k
    · subst h3; rw [if_pos rfl, if_pos (by omega)]
    · rw [if_neg h3, if_neg (by omega)]
theorem rowV_cs {w : World} {g n : Nat} {ty : TypeId} {f : Nat → Nat} (h : w.rowIs g ty n (rowV f 0)) : Cs .i64 w (some ⟨g, 0, none⟩) n f := by
  refine .inr ⟨g, 0, rfl, h.lt, fun j hj => ?_⟩
  rw [Nat.zero_add, h.cell hj, rowV, if_pos (by omega)]
theorem IsDec.put {w : World} {x c g j : Nat} {a : Option Addr} {u : Value} (h : IsDec w (.slice a (nlen 10 x) c) x) (hne : ∀ b off s, a = some ⟨b, off, s⟩ → b ≠ g) : IsDec (w.setCell ⟨g, j, none⟩ u) (.slice a (nlen 10 x) c) x := by
  obtain ⟨a', c', h1, h2, h3, h4⟩ := h
  have h1' : a = a' := by injection h1
  exact ⟨a', c', h1, h2, h3, h4.set _ u fun b off s e => hne b off s (h1'.trans e)⟩

set_option maxHeartbeats 2000000 in
set_option maxRecDepth 4000 in
theorem refDiv_any (va vb : Value) (x y : Nat) (w : World) (ha : IsDec w va x) (hb : IsDec w vb y) (hx : nlen 10 x ≤ 1000000) (hy : nlen 10 y ≤ 1000000) (hy0 : y ≠ 0) :
    Calls Tryd.prog 23 #[va, vb] w fun e w' => ∃ vq vr, e = .returned (.tuple #[vq, vr]) ∧ IsDec w' vq (x / y) ∧ IsDec w' vr (x % y) ∧ Fr w w' := by
  have HA := hide ha
  have HB := hide hb
  obtain ⟨a, ca, rfl, a2, a3, a4⟩ := ha
  obtain ⟨b, cb, rfl, b2, b3, b4⟩ := hb
  have A4 := hide a4
  clear a4 b4
  have LX := hide (lt_nlen ten2 x)
  obtain ⟨n, hn⟩ : ∃ n, nlen 10 x = n := ⟨_, rfl⟩
  rw [hn] at hx a2 A4 LX ⊢
  have HN := hide hn
  clear hn
  have hmk := run_make_row' (P := Tryd.prog) 27 3 (.int .i64 0) 8 Tryd.underlying27 info64 rfl .i64 .i64 n (by omega) (by omega)
  go_enter Tryd.func23, Tryd.ntmps23
  go_wp2_with fail
  go_loopw [7, 8] (fun s7 s8 wr => ∃ (k : Nat) (ar : Option Addr) (cr : Nat), k ≤ n ∧ s8 = .int .i64 ((k : Int) - 1) ∧ s7 = .slice ar (nlen 10 (x / 10 ^ k % y)) cr ∧ Hid (IsDec wr (.slice ar (nlen 10 (x / 10 ^ k % y)) cr) (x / 10 ^ k % y)) ∧ Hid (wr.rowIs w.heap.size 3 n (rowV (dg 10 (x / y)) k)) ∧ Hid (Fr w wr)) (fun _ s8 _ => (intOf s8 + 1).toNat)
  case atStart =>
    refine ⟨n, none, 0, by omega, by go_num, ?_, ?_, ?_, Fr.alloc _ _⟩
    · rw [Nat.div_eq_of_lt LX.out, Nat.zero_mod, nlen_zero]
    · rw [Nat.div_eq_of_lt LX.out, Nat.zero_mod, nlen_zero]; exact isDec_nil _
    · refine (World.rowIs_made w (.int .i64 0) n 3).congr (fun j hj => ?_)
      unfold rowV; rw [if_neg (by omega)]; rfl
  case round =>
    obtain ⟨k, ar, cr, hk, rfl, rfl, HR, HQ, hF⟩ := hrel
    by_cases c0 : k = 0
    · subst c0
      have hq := hide (rowV_cs HQ.out)
      have hql : x / y < 10 ^ n := Nat.lt_of_le_of_lt (Nat.div_le_self _ _) LX.out
      have HQL := hide hql
      have HR0 := HR
      rw [Nat.pow_zero, Nat.div_one] at HR0
      rw [Nat.pow_zero, Nat.div_one]
      clear hql HR HQ
      go_wp2_with fail
      refine (trim_any (x / y) n n _ _ HQL.out (by omega) (by unfold maxLen; omega) (fun h => by cases h) hq.out).mono ?_
      rintro e w1 ⟨rfl, rfl⟩
      have hnl := nlen_le ten2 HQL.out
      go_wp2_with fail
      go_ret2
      exact ⟨_, _, rfl, ⟨_, n, rfl, hnl, by unfold maxLen; omega, hq.out.less hnl⟩, HR0.out, hF.out⟩
    · obtain ⟨k, rfl⟩ : ∃ j, k = j + 1 := ⟨k - 1, by omega⟩
      have e0 : ((k + 1 : Nat) : Int) - 1 = (k : Int) := by omega
      rw [e0]
      clear e0
      obtain ⟨st1, st2⟩ := ldiv_step x y k (by omega)
      have hr1 := Nat.mod_lt (x / 10 ^ (k + 1)) (by omega : 0 < y)
      have hd9 := dg_lt ten2 x k
      have nr1 : nlen 10 (x / 10 ^ (k + 1) % y) ≤ 1000000 := Nat.le_trans (nlen_mono ten2 (by omega)) hy
      have hq9 := dg_lt ten2 (x / y) k
      have hcx := A4.out.fr hF.out
      rcases hcx with h0 | ⟨g0, off0, rfl, hg0, hcell⟩
      · omega
      have hcx := hcell k (by omega)
      clear hcell
      obtain ⟨R0, hR0⟩ : ∃ R0, x / 10 ^ (k + 1) % y = R0 := ⟨_, rfl⟩
      rw [hR0] at st1 st2 hr1 nr1 HR
      rw [hR0]
      obtain ⟨d, hd⟩ : ∃ d, dg 10 x k = d := ⟨_, rfl⟩
      rw [hd] at st1 st2 hd9 hcx
      clear hR0 hd
      go_wp2_with fail
      refine (refTimes_any _ R0 10 _ HR.out (by omega) (by omega)).mono ?_
      rintro e w1 ⟨v1, rfl, i1, f1⟩
      have I1 := hide i1
      have hcx := fr_cell f1 hcx
      clear i1 HR
      go_wp2_with fail
      refine (refOf_any d _ (by omega)).mono ?_
      rintro e w2 ⟨v2, rfl, i2, f2⟩
      have I1 := hide (IsDec.fr I1.out f2)
      have I2 := hide i2
      clear i2
      have n1 : nlen 10 (R0 * 10) ≤ 1000002 := nlen_mul ten2 nr1 (nlen_le ten2 (by omega) : nlen 10 10 ≤ 2)
      have n2 : nlen 10 d ≤ 1 := nlen_le ten2 (by omega)
      go_wp2_with fail
      refine (refAdd_any _ _ (R0 * 10) d _ I1.out I2.out (by omega) (by omega)).mono ?_
      rintro e w3 ⟨v3, rfl, i3, f3⟩
      have F3 := hide ((f1.trans f2).trans f3)
      have n3 : nlen 10 (R0 * 10 + d) ≤ 1000003 := nl_sumB ten2 n1 (by omega)
      obtain ⟨R1, hR1⟩ : ∃ R1, R0 * 10 + d = R1 := ⟨_, rfl⟩
      rw [hR1] at st1 st2 i3 n3
      obtain ⟨a3', c3', rfl, _, _, _⟩ := id i3
      have I3 := hide i3
      have HQ3 := hide ((rowV_open HQ.out).of_block (F3.out.block _ HQ.out.lt))
      have hF3 := hide (hF.out.trans F3.out)
      have ST1 := hide st1
      have ST2 := hide st2
      clear I1 I2 i3 f1 f2 f3 hR1 st1 st2 HQ F3 hcx n1 n2
      go_wp2_with fail
      go_loopw [7] (fun s7 wr => ∃ (t : Nat) (ar : Option Addr) (cr : Nat), t ≤ R1 / y ∧ s7 = .slice ar (nlen 10 (R1 - t * y)) cr ∧ Hid (IsDec wr (.slice ar (nlen 10 (R1 - t * y)) cr) (R1 - t * y)) ∧ Hid (wr.rowIs w.heap.size 3 n (rowQ (dg 10 (x / y)) k t)) ∧ Hid (Fr w wr)) (fun _ wr => 10 - readI wr ⟨w.heap.size, k, none⟩)
      case atStart => exact ⟨0, a3', c3', Nat.zero_le _, by rw [Nat.zero_mul, Nat.sub_zero], by rw [Nat.zero_mul, Nat.sub_zero]; exact I3, HQ3, hF3⟩
      case round =>
        obtain ⟨t, ar2, cr2, ht, rfl, HR2, HQ2, hF2⟩ := hrel
        have hty : t * y ≤ R1 := Nat.le_trans (Nat.mul_le_mul_right _ ht) (Nat.div_mul_le_self _ _)
        have n4 : nlen 10 (R1 - t * y) ≤ 1000003 := Nat.le_trans (nlen_mono ten2 (Nat.sub_le _ _)) n3
        have HB2 := hide (IsDec.fr HB.out hF2.out)
        by_cases hlt : R1 - t * y < y
        · have hc : cmpZ (R1 - t * y) y = -1 := by unfold cmpZ; rw [if_pos hlt]
          have htt : t = R1 / y := by
            refine (Nat.div_eq_of_lt_le hty ?_).symm
            rw [Nat.succ_mul]; omega
          have hmod : R1 - t * y = R1 % y := by
            have h := Nat.div_add_mod R1 y
            rw [htt, Nat.mul_comm]; omega
          have hq2 := HQ2.out
          rw [htt, ST2.out] at hq2
          have hr2 := HR2.out
          rw [hmod, ST1.out] at hr2
          have HQ4 := hide (rowV_shut hq2)
          have HR4 := hide hr2
          have HMM : Hid (R1 - t * y = x / 10 ^ k % y) := hmod.trans ST1.out
          have HC := hide hc
          clear hc htt hmod hq2 hr2 hlt hty ht
          go_wp2_with fail
          refine (refCmp_any _ _ _ y _ HR2.out HB2.out (by omega) (by omega)).mono ?_
          rintro e w5 ⟨rfl, f5⟩
          rw [HC.out]
          go_wp2_with fail
          go_roundw
          case rel => exact ⟨k, ar2, cr2, by omega, by go_num, by rw [HMM.out], IsDec.fr HR4.out f5, HQ4.out.of_block (f5.block _ HQ4.out.lt), hF2.out.trans f5⟩
          case measure => simp [intOf]
        · have hc : 0 ≤ cmpZ (R1 - t * y) y := by unfold cmpZ; rw [if_neg hlt]; split <;> omega
          have HS : Hid (R1 - t * y - y = R1 - (t + 1) * y) := by unfold Hid; rw [Nat.succ_mul]; omega
          have ht2 : t + 1 ≤ R1 / y := (Nat.le_div_iff_mul_le (by omega)).2 (by rw [Nat.succ_mul]; omega)
          have ht3 : R1 / y < 10 := by rw [ST2.out]; omega
          obtain ⟨cz, hcz⟩ : ∃ cz, cmpZ (R1 - t * y) y = cz := ⟨_, rfl⟩
          rw [hcz] at hc
          have HC := hide hcz
          clear hcz
          go_wp2_with fail
          refine (refCmp_any _ _ _ y _ HR2.out HB2.out (by omega) (by omega)).mono ?_
          rintro e w5 ⟨rfl, f5⟩
          rw [HC.out]
          have HR5 := hide (IsDec.fr HR2.out f5)
          have HB5 := hide (IsDec.fr HB2.out f5)
          have hq5 := HQ2.out.of_block (f5.block _ HQ2.out.lt)
          have HQ5 := hide hq5
          have hF5 := hide (hF2.out.trans f5)
          have hm0 : Hid (readI wr ⟨w.heap.size, k, none⟩ = t) := by
            have := HQ2.out.cell (i := k) (by omega)
            rw [rowQ, if_neg (by omega), if_pos rfl] at this
            exact readI_of this
          clear hq5 HR2 HB2 HQ2 f5
          go_wp2_with fail
          refine (refSub_new _ _ (R1 - t * y) y _ HR5.out HB5.out (by omega) (by omega) (by omega)).mono ?_
          rintro e w6 ⟨a6, c6, rfl, i6, l6, f6⟩
          rw [HS.out] at i6
          rw [HS.out]
          have hq6 := HQ5.out.of_block (f6.block _ HQ5.out.lt)
          have hcq := hq6.cell (i := k) (by omega)
          have hfq := hq6.frozen k
          rw [rowQ, if_neg (by omega), if_pos rfl] at hcq
          have hlt5 := HQ5.out.lt
          have HQ6 := hide hq6
          have I6 := hide i6
          have L6 := hide l6
          have hF6 := hide (hF5.out.trans f6)
          clear hq6 i6 l6 HQ5 HR5 HB5
          go_wp2_with fail
          have hq7 := rowQ_set HQ6.out ((t : Int) + 1) (by omega)
          have hm1 := hq7.cell (i := k) (by omega)
          rw [rowQ, if_neg (by omega), if_pos rfl] at hm1
          have HM1 := hide (readI_of hm1)
          have HQ7 := hide hq7
          clear hq7 hm1
          go_roundw
          case rel => exact ⟨t + 1, a6, c6, ht2, rfl, IsDec.put I6.out (fun b off s e => by have := L6.out b off s e; omega), HQ7, Below.setCell hF6.out (by simp) _⟩
          case measure =>
            rw [hm0.out, HM1.out]
            omega
end Go.Proofs.YtimglhbllcjpbaaDoor
