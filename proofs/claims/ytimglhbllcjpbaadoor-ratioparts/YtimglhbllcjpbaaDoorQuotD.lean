/- Div. -/
import Derived.Test.YtimglhbllcjpbaaDoorQuotC
namespace Go.Proofs.YtimglhbllcjpbaaDoor
set_option linter.unusedVariables false
set_option linter.unusedSimpArgs false
open Go.RowKit

/-- Two Nats and a bool that are handed back, the Nats through their cells. -/
theorem results_nat2_ok {fn : Func} {p p' u : Tmp} (h : fn.results = #[.cell p 24, .cell p' 24, .tmp u]) (tmps : Array Value) (w : World) (b b' : Nat) (v v' : Value) (hp : tmps.getD p undef = .pointer (some ⟨b, 0, none⟩)) (hp' : tmps.getD p' undef = .pointer (some ⟨b', 0, none⟩)) (hc : w.cell? ⟨b, 0, none⟩ = some v) (hc' : w.cell? ⟨b', 0, none⟩ = some v') :
    (results fn tmps).run Tryd.prog w = .ok (.tuple #[.agg #[v], .agg #[v'], tmps.getD u undef]) w := by
  have hp1 : tmps[p]?.getD undef = .pointer (some ⟨b, 0, none⟩) := by simpa using hp
  have hp2 : tmps[p']?.getD undef = .pointer (some ⟨b', 0, none⟩) := by simpa using hp'
  simp [results, h, hp1, hp2]
  go_simp
theorem isNat_zero (w : World) : IsNat w (.agg #[.slice none 0 0]) 0 := ⟨none, 0, by rw [nlen_zero], by rw [nlen_zero]; omega, by omega, .inl (nlen_zero _)⟩

set_option maxHeartbeats 1000000 in
set_option maxRecDepth 4000 in
theorem div_no (va vb : Value) (x : Nat) (w : World) (ha : IsNat w va x) (hb : IsNat w vb 0) :
    Calls Tryd.prog 46 #[va, vb] w fun e w' => e = .returned (.tuple #[.agg #[.slice none 0 0], .agg #[.slice none 0 0], .bool false]) ∧ Fr w w' := by
  have HB := hide hb
  obtain ⟨a, ca, rfl, a2, a3, a4⟩ := ha
  obtain ⟨b, cb, rfl, b2, b3, b4⟩ := hb
  clear a4 b4
  go_enter Tryd.func46, Tryd.ntmps46
  go_wp2_with fail
  obtain ⟨W, hW⟩ : ∃ W, W = (((w.alloc (Obj.cells #[Value.slice a (nlen 4294967296 x) ca] 24)).alloc (Obj.cells #[Value.slice b (nlen 4294967296 0) cb] 24)).alloc (Obj.cells #[Value.slice none 0 0] 24)).alloc (Obj.cells #[Value.slice none 0 0] 24) := ⟨_, rfl⟩
  have fW : Fr w W := by rw [hW]; exact (((Fr.alloc _ _).trans (Fr.alloc _ _)).trans (Fr.alloc _ _)).trans (Fr.alloc _ _)
  have c4 : W.cell? ⟨w.heap.size + 1 + 1, 0, none⟩ = some (.slice none 0 0) := by rw [hW]; simp [go_sem]
  have z4 : W.frozen? ⟨w.heap.size + 1 + 1, 0, none⟩ = false := by rw [hW]; simp [go_sem]
  have c5 : W.cell? ⟨w.heap.size + 1 + 1 + 1, 0, none⟩ = some (.slice none 0 0) := by rw [hW]; simp [go_sem]
  have z5 : W.frozen? ⟨w.heap.size + 1 + 1 + 1, 0, none⟩ = false := by rw [hW]; simp [go_sem]
  rw [← hW]
  clear hW
  refine (limbs_lm _ 0 _ (IsNat.fr HB.out fW) (by rw [nlen_zero]; omega)).mono ?_
  rintro e w1 ⟨a1, c1, rfl, n1, l1, f1⟩
  rw [nlen_zero] at *
  have z4 := fr_free f1 c4 z4
  have c4 := fr_cell f1 c4
  have z5 := fr_free f1 c5 z5
  have c5 := fr_cell f1 c5
  have F := fW.trans f1
  clear fW f1 l1
  go_wp2_with fail
  (try simp only [Exit.inBlock, Exit.then])
  refine bodyPost_ret (results_nat2_ok rfl _ _ (w.heap.size + 1 + 1) (w.heap.size + 1 + 1 + 1) (.slice none 0 0) (.slice none 0 0) rfl rfl ?_ ?_) rfl ?_
  · go_simp
  · go_simp
  · exact ⟨rfl, Below.setCell (Below.setCell F (by simp; omega) _) (by simp; omega) _⟩

/-- The limbs of a raised divisor, without the last one, which is a nought. -/
theorem rowIs_cs {w : World} {g n m : Nat} {t : TypeId} {f : Nat → Nat} (h : w.rowIs g t n (fun j => .int .u32 (f j : Int))) (hm : m ≤ n) : Cs .u32 w (some ⟨g, 0, none⟩) m f :=
  .inr ⟨g, 0, rfl, h.lt, fun j hj => by rw [Nat.zero_add]; exact h.cell (by omega)⟩

set_option maxHeartbeats 2000000 in
set_option maxRecDepth 4000 in
theorem div_yes (va vb : Value) (x y : Nat) (w : World) (ha : IsNat w va x) (hb : IsNat w vb y) (hx : nlen 4294967296 x ≤ 100000000000) (hy : nlen 4294967296 y ≤ 100000000000) (hy0 : y ≠ 0) :
    Calls Tryd.prog 46 #[va, vb] w fun e w' => ∃ a c a' c', e = .returned (.tuple #[.agg #[.slice a (nlen 4294967296 (x / y)) c], .agg #[.slice a' (nlen 4294967296 (x % y)) c'], .bool true]) ∧ Res w w' a c (x / y) ∧ Res w w' a' c' (x % y) := by
  have HA := hide ha
  have HB := hide hb
  obtain ⟨a, ca, rfl, a2, a3, a4⟩ := ha
  obtain ⟨b, cb, rfl, b2, b3, b4⟩ := hb
  clear a4 b4
  have hyp := nlen_pos b32 hy0
  obtain ⟨n, hn⟩ : ∃ n, nlen 4294967296 y = n + 1 := ⟨nlen 4294967296 y - 1, by omega⟩
  have ly := lt_nlen b32 y
  have lw := nlen_low b32 y hy0
  rw [hn] at ly lw
  simp only [Nat.add_sub_cancel] at lw
  have hbt := bits_top y n ly lw
  have htp := top_pos b32 ly lw
  have htl := dg_lt b32 y n
  have ht0 := nlen_pos (B := 2) (by omega) (x := dg 4294967296 y n) (by omega)
  have ht1 : nlen 2 (dg 4294967296 y n) ≤ 32 := nlen_le (by omega) (by omega)
  obtain ⟨u, hu⟩ : ∃ u, u + nlen 2 (dg 4294967296 y n) = 32 := ⟨32 - nlen 2 (dg 4294967296 y n), by omega⟩
  have hfit := raise_fits y n ly lw u _ rfl hu hbt
  have hlow : 4294967296 ^ n ≤ y * 2 ^ u := Nat.le_trans lw (Nat.le_mul_of_pos_right _ (Nat.pow_pos (by omega)))
  have lx := lt_nlen b32 x
  have LX := hide lx
  have LY := hide ly
  have LW := hide lw
  have HFIT := hide hfit
  have HLOW := hide hlow
  have hu31 : u ≤ 31 := by omega
  have hz : (32 : Int) - (nlen 2 (dg 4294967296 y n) : Int) = (u : Int) := by omega
  have HZ := hide hz
  clear hbt ht0 ht1 hfit hlow lw ly lx hz hu htp
  rw [hn] at hy b2 HB ⊢
  go_enter Tryd.func46, Tryd.ntmps46
  go_wp2_with fail
  obtain ⟨W, hW⟩ : ∃ W, W = (((w.alloc (Obj.cells #[Value.slice a (nlen 4294967296 x) ca] 24)).alloc (Obj.cells #[Value.slice b (n + 1) cb] 24)).alloc (Obj.cells #[Value.slice none 0 0] 24)).alloc (Obj.cells #[Value.slice none 0 0] 24) := ⟨_, rfl⟩
  have fW : Fr w W := by rw [hW]; exact (((Fr.alloc _ _).trans (Fr.alloc _ _)).trans (Fr.alloc _ _)).trans (Fr.alloc _ _)
  have c2 : W.cell? ⟨w.heap.size, 0, none⟩ = some (.slice a (nlen 4294967296 x) ca) := by rw [hW]; simp [go_sem]
  have c4 : W.cell? ⟨w.heap.size + 1 + 1, 0, none⟩ = some (.slice none 0 0) := by rw [hW]; simp [go_sem]
  have z4 : W.frozen? ⟨w.heap.size + 1 + 1, 0, none⟩ = false := by rw [hW]; simp [go_sem]
  have c5 : W.cell? ⟨w.heap.size + 1 + 1 + 1, 0, none⟩ = some (.slice none 0 0) := by rw [hW]; simp [go_sem]
  have z5 : W.frozen? ⟨w.heap.size + 1 + 1 + 1, 0, none⟩ = false := by rw [hW]; simp [go_sem]
  rw [← hW]
  clear hW
  have hl := limbs_lm _ y _ (IsNat.fr HB.out fW) (by omega)
  rw [hn] at hl
  refine hl.mono ?_
  rintro e w1 ⟨a1, c1, rfl, n1, l1, f1⟩
  have L1 := hide l1
  have C1 : Hid (Cs .u32 w1 a1 (n + 1) (dg 4294967296 y)) := by have := l1.1; rw [hn] at this; exact this
  have F1 := hide f1
  have c2 := fr_cell f1 c2
  clear l1 hl f1
  rcases C1.out with h0 | ⟨g0, off0, rfl, hg0, hcell⟩
  · omega
  have hct := hcell n (by omega)
  clear hcell
  go_wp2_with fail
  refine (lz32_any _ _ (by omega) (by omega)).mono ?_
  rintro e w2 ⟨rfl, rfl⟩
  rw [Int.toNat_natCast, HZ.out]
  clear hct
  go_wp2_with fail
  refine (raised_any _ (n + 1) c1 y u _ (by omega) hu31 C1.out LY.out).mono ?_
  rintro e w3 ⟨rfl, r3, f3⟩
  have R3 := hide r3
  have F3 := hide (F1.out.trans f3)
  have c2 := fr_cell f3 c2
  clear r3 L1 C1 F1
  go_wp2_with fail
  refine (limbs_lm _ x _ (IsNat.fr HA.out (fW.trans F3.out)) (by omega)).mono ?_
  rintro e w4 ⟨a4, c4', rfl, n4, l4, f4⟩
  have L4 := hide l4
  clear l4
  go_wp2_with fail
  refine (raised_any _ (nlen 4294967296 x) c4' x u _ (by omega) hu31 L4.out.1 LX.out).mono ?_
  rintro e w5 ⟨rfl, r5, f5⟩
  have R5 := hide r5
  have F4 := hide (F3.out.trans f4)
  have hg12 : w2.heap.size < w4.heap.size := Nat.lt_of_lt_of_le R3.out.lt f4.size
  have R4 := hide (R3.out.of_block (f4.block _ R3.out.lt))
  have CY := hide (rowIs_cs R4.out (m := n + 1) (by omega))
  have z4 := fr_free F4.out c4 z4
  have c4 := fr_cell F4.out c4
  have z5 := fr_free F4.out c5 z5
  have c5 := fr_cell F4.out c5
  have FW := hide (fW.trans F4.out)
  have F5 := hide f5
  clear r5 L4 f4 F3 F4 R3 R4 c2 f3 f5 fW
  obtain ⟨M, hM⟩ : ∃ M, nlen 4294967296 x + 1 = M := ⟨_, rfl⟩
  obtain ⟨K, hK⟩ : ∃ K : Nat, nlen 4294967296 x - n = K := ⟨_, rfl⟩
  have hKx : x / y < 4294967296 ^ K := div_few b32 (Nat.lt_of_lt_of_le LX.out (Nat.pow_le_pow_right (by omega) (by omega : nlen 4294967296 x ≤ n + K))) LW.out
  have hxK : x * 2 ^ u < 4294967296 ^ K * (y * 2 ^ u) := by
    rw [← Nat.mul_assoc]
    exact Nat.mul_lt_mul_of_pos_right ((Nat.div_lt_iff_lt_mul (by omega)).1 hKx) (Nat.pow_pos (by omega))
  have HKX := hide hKx
  have HXK := hide hxK
  clear hKx hxK
  rw [hM] at R5
  have hmk : ∀ z : Int, z = (K : Int) → ∀ w : World, (Sem.run Tryd.prog (Instr.makeSlice 22 (.int .i64 z) (.int .i64 z)) w) = .ok (.slice (some ⟨w.heap.size, 0, none⟩) K K) (w.alloc (.cells (madeCells #[.int .u32 0] K) 41)) := fun z e w => by
    subst e
    exact run_make_row' (P := Tryd.prog) 22 41 (.int .u32 0) 4 Tryd.underlying22 info32 rfl .i64 .i64 K (by omega) (by omega) w
  have HMK := hide hmk
  clear hmk
  go_wp2_with fail
  all_goals (
    rw [HMK.out _ (by omega)]
    simp only [Result.andThen]
    rw [Oper.upon_value]
    go_wp2_with fail
    go_loopw [13] (fun s13 wr => ∃ k : Nat, k ≤ K ∧ s13 = .int .i64 ((k : Int) - 1) ∧ Hid (wr.rowIs w5.heap.size 41 K (rowU (dg 4294967296 (x / y)) k)) ∧ Hid (wr.rowIs w4.heap.size 41 M (fun j => .int .u32 (dg 4294967296 (x * 2 ^ u % (4294967296 ^ k * (y * 2 ^ u))) j : Int))) ∧ Hid (Fr w4 wr)) (fun s13 _ => (intOf s13 + 1).toNat)
    case atStart =>
      refine ⟨K, by omega, by go_num, ?_, ?_, ?_⟩
      · exact (World.rowIs_made w5 (.int .u32 0) K 41).congr (fun j hj => rowU_made _ _ _ hj)
      · rw [Nat.mod_eq_of_lt HXK.out]
        exact R5.out.of_block ((Fr.alloc w5 _).block _ R5.out.lt)
      · exact F5.out.trans (Fr.alloc _ _)
    case round =>
      obtain ⟨k, hk, rfl, hq, hr, hF⟩ := hrel
      have hg23 : w4.heap.size < w5.heap.size := R5.out.lt
      by_cases c0 : k = 0
      · subst c0
        have z4 := fr_free hF.out c4 z4
        have c4 := fr_cell hF.out c4
        have z5 := fr_free hF.out c5 z5
        have c5 := fr_cell hF.out c5
        have hr0 := hr.out
        rw [Nat.pow_zero, Nat.one_mul, Nat.mul_mod_mul_right] at hr0
        have CR := hide (rowIs_cs hr0 (Nat.le_refl M))
        have hrl : x % y * 2 ^ u < 4294967296 ^ M := by
          rw [← hM]
          refine raise_lt (Nat.lt_of_le_of_lt (Nat.mod_le _ _) LX.out) (by have := pow2_le hu31; omega)
        have HRL := hide hrl
        have CQ := hide (rowU_cs hq.out)
        clear hr0 hrl
        go_wp2_with fail
        refine (made_any K K (some ⟨w5.heap.size, 0, none⟩) _ (x / y) _ (by omega) CQ.out HKX.out (fun j _ => rfl)).mono ?_
        rintro e w6 ⟨a6, c6, rfl, hl6, h6, f6⟩
        have H6 := hide h6
        have HL6 := hide hl6
        have CR6 := hide (CR.out.fr f6)
        have F6 := hide (hF.out.trans f6)
        clear h6 hl6
        go_wp2_with fail
        refine (lowered_any _ M M (x % y * 2 ^ u) u _ (by omega) hu31 CR6.out HRL.out).mono ?_
        rintro e w7 ⟨c7, rfl, h7, f7⟩
        rw [Nat.mul_div_cancel _ (Nat.pow_pos (by omega))] at h7
        have H7 := hide h7
        have F7 := hide (F6.out.trans f7)
        have H67 := hide (IsNat.fr H6.out f7)
        have s7 := f7.size
        clear h7
        go_wp2_with fail
        have hrl2 : x % y < 4294967296 ^ M := Nat.lt_of_lt_of_le (Nat.lt_of_le_of_lt (Nat.mod_le _ _) LX.out) (Nat.pow_le_pow_right (by omega) (by omega))
        refine (made_any M c7 _ _ (x % y) _ (by omega) H7.out hrl2 (fun j _ => rfl)).mono ?_
        rintro e w8 ⟨a8, c8, rfl, hl8, h8, f8⟩
        have H8 := hide h8
        have HL8 := hide hl8
        have F8 := hide (F7.out.trans f8)
        have H68 := hide (IsNat.fr H67.out f8)
        have ff := (f6.trans f7).trans f8
        have z4 := fr_free ff c4 z4
        have c4 := fr_cell ff c4
        have z5 := fr_free ff c5 z5
        have c5 := fr_cell ff c5
        have s6 := f6.size
        have sW := FW.out.size
        have sr := hF.out.size
        have s8 := cell_lt c5
        have s9 := cell_lt (fr_cell (Fr.refl w4) (by assumption : w4.cell? ⟨w.heap.size + 1 + 1 + 1, 0, none⟩ = _))
        simp only [] at s9
        clear h8 hl8 hrl2
        unfold natVal
        go_wp2_with fail
        (try simp only [Exit.inBlock, Exit.then])
        refine bodyPost_ret (results_nat2_ok rfl _ _ (w.heap.size + 1 + 1) (w.heap.size + 1 + 1 + 1) (.slice (natA (x / y) a6) (nlen 4294967296 (x / y)) (natC (x / y) c6)) (.slice (natA (x % y) a8) (nlen 4294967296 (x % y)) (natC (x % y) c8)) rfl rfl ?_ ?_) rfl ?_
        · go_simp
        · go_simp
        · have FF : Fr w ((w8.setCell ⟨w.heap.size + 1 + 1, 0, none⟩ (.slice (natA (x / y) a6) (nlen 4294967296 (x / y)) (natC (x / y) c6))).setCell ⟨w.heap.size + 1 + 1 + 1, 0, none⟩ (.slice (natA (x % y) a8) (nlen 4294967296 (x % y)) (natC (x % y) c8))) := Below.setCell (Below.setCell (FW.out.trans F8.out) (by simp; omega) _) (by simp; omega) _
          refine ⟨_, _, _, _, rfl, ⟨?_, fun g off s e => ?_, FF⟩, ⟨?_, fun g off s e => ?_, FF⟩⟩
          · refine IsNat.put (IsNat.put H68.out _ _ (fun g off s e => ?_)) _ _ (fun g off s e => ?_)
            · have := HL6.out g off s (natA_some e); simp; omega
            · have := HL6.out g off s (natA_some e); simp; omega
          · have := HL6.out g off s (natA_some e); omega
          · refine IsNat.put (IsNat.put H8.out _ _ (fun g off s e => ?_)) _ _ (fun g off s e => ?_)
            · have := HL8.out g off s (natA_some e); simp; omega
            · have := HL8.out g off s (natA_some e); simp; omega
          · have := HL8.out g off s (natA_some e); omega
      · obtain ⟨k, rfl⟩ : ∃ j, k = j + 1 := ⟨k - 1, by omega⟩
        have e0 : ((k + 1 : Nat) : Int) - 1 = (k : Int) := by omega
        rw [e0]
        clear e0
        try (exfalso; omega)
        all_goals (
          have hMk : k + n + 1 + 1 ≤ M := by omega
          go_wp2_with fail
          rw [show k + (n + 1) + 1 - k = n + 1 + 1 by omega]
          have hp : x * 2 ^ u % (4294967296 ^ (k + 1) * (y * 2 ^ u)) < 4294967296 ^ k * (y * 2 ^ u) * 4294967296 := by
            rw [show 4294967296 ^ k * (y * 2 ^ u) * 4294967296 = 4294967296 ^ (k + 1) * (y * 2 ^ u) by rw [Nat.pow_succ]; ac_rfl]
            exact Nat.mod_lt _ (Nat.mul_pos (pow_pos' b32 _) (Nat.lt_of_lt_of_le (pow_pos' b32 n) HLOW.out))
          refine (takeDigit_any w4.heap.size M k n (M - k) _ (y * 2 ^ u) (n + 1 + 1) (some ⟨w2.heap.size, 0, none⟩) wr hr.out hp hMk (by omega) HFIT.out HLOW.out (CY.out.fr hF.out) (fun b off s e => by simp at e; omega)).mono ?_
          rintro e w6 ⟨rfl, r6, f6⟩
          rw [div_round_r] at r6
          rw [div_round_d, Nat.mul_div_mul_right _ _ (Nat.pow_pos (by omega))]
          have HR6 := hide r6
          have hqq := hq.out.of_block (f6.2.2.2.2 _ hq.out.lt (by omega))
          have lq := dg_lt b32 (x / y) k
          have hcq := hqq.cell (i := k) (by omega)
          have hfq := hqq.frozen k
          have HQ6 := hide hqq
          have F6 := hide (f6.fr hF.out (Nat.le_refl _))
          rw [rowU, if_neg (by omega)] at hcq
          clear r6 f6 hqq hp
          go_wp2_with fail
          go_roundw
          case rel =>
            refine ⟨k, by omega, by go_num, ?_, ?_, ?_⟩
            · exact rowU_set HQ6.out _ rfl
            · exact HR6.out.of_block (Below.heap_setCell w6 _ _ _ (by simp; omega))
            · exact Below.setCell F6.out (by simp; omega) _
          case measure => simp [intOf]))
end Go.Proofs.YtimglhbllcjpbaaDoor
