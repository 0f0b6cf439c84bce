/- Up. -/
import Derived.Test.YtimglhbllcjpbaaDoorTensA
namespace Go.Proofs.YtimglhbllcjpbaaDoor
set_option linter.unusedVariables false
set_option linter.unusedSimpArgs false
open Go.RowKit

set_option maxHeartbeats 1000000 in
set_option maxRecDepth 4000 in
theorem up_none (v : Value) (x : Nat) (k : Int) (w : World) (h : IsNat w v x) (hn : nlen 4294967296 x ≤ 100000000000) (k0 : -9223372036854775808 ≤ k) (hk : k ≤ 0) :
    Calls Tryd.prog 55 #[v, .int .i64 k] w fun e w' => e = .returned v ∧ Fr w w' := by
  have H := hide h
  obtain ⟨a, cap, rfl, h2, h3, h4⟩ := h
  clear h4
  go_enter Tryd.func55, Tryd.ntmps55
  go_wp2_with fail
  obtain ⟨W, hW⟩ : ∃ W, W = (w.alloc (Obj.cells #[Value.slice a (nlen 4294967296 x) cap] 24)).alloc (Obj.cells #[Value.slice none 0 0] 24) := ⟨_, rfl⟩
  have fW : Fr w W := by rw [hW]; exact (Fr.alloc _ _).trans (Fr.alloc _ _)
  have c2 : W.cell? ⟨w.heap.size, 0, none⟩ = some (.slice a (nlen 4294967296 x) cap) := by rw [hW]; simp [go_sem]
  have c4 : W.cell? ⟨w.heap.size + 1, 0, none⟩ = some (.slice none 0 0) := by rw [hW]; simp [go_sem]
  have z4 : W.frozen? ⟨w.heap.size + 1, 0, none⟩ = false := by rw [hW]; simp [go_sem]
  rw [← hW]
  clear hW
  refine (limbs_lm _ x _ (IsNat.fr H.out fW) (by omega)).mono ?_
  rintro e w1 ⟨a1, c1, rfl, n1, l1, f1⟩
  have z4 := fr_free f1 c4 z4
  have c4 := fr_cell f1 c4
  have c2 := fr_cell f1 c2
  have F := fW.trans f1
  clear fW f1 l1
  go_wp2_with fail
  (try simp only [Exit.inBlock, Exit.then])
  refine bodyPost_ret (results_nat rfl _ _ (w.heap.size + 1) (.slice a (nlen 4294967296 x) cap) rfl ?_) rfl ?_
  · go_simp
  · exact ⟨rfl, Below.setCell F (by simp) _⟩

set_option maxHeartbeats 1000000 in
set_option maxRecDepth 4000 in
theorem up_zero (v : Value) (k : Int) (w : World) (h : IsNat w v 0) (k0 : 1 ≤ k) :
    Calls Tryd.prog 55 #[v, .int .i64 k] w fun e w' => e = .returned v ∧ Fr w w' := by
  have H := hide h
  obtain ⟨a, cap, rfl, h2, h3, h4⟩ := h
  clear h4
  rw [nlen_zero] at h2 H ⊢
  go_enter Tryd.func55, Tryd.ntmps55
  go_wp2_with fail
  obtain ⟨W, hW⟩ : ∃ W, W = (w.alloc (Obj.cells #[Value.slice a 0 cap] 24)).alloc (Obj.cells #[Value.slice none 0 0] 24) := ⟨_, rfl⟩
  have fW : Fr w W := by rw [hW]; exact (Fr.alloc _ _).trans (Fr.alloc _ _)
  have c2 : W.cell? ⟨w.heap.size, 0, none⟩ = some (.slice a 0 cap) := by rw [hW]; simp [go_sem]
  have c4 : W.cell? ⟨w.heap.size + 1, 0, none⟩ = some (.slice none 0 0) := by rw [hW]; simp [go_sem]
  have z4 : W.frozen? ⟨w.heap.size + 1, 0, none⟩ = false := by rw [hW]; simp [go_sem]
  rw [← hW]
  clear hW
  refine (limbs_lm _ 0 _ (IsNat.fr H.out fW) (by rw [nlen_zero]; omega)).mono ?_
  rintro e w1 ⟨a1, c1, rfl, n1, l1, f1⟩
  rw [nlen_zero]
  have z4 := fr_free f1 c4 z4
  have c4 := fr_cell f1 c4
  have c2 := fr_cell f1 c2
  have F := fW.trans f1
  clear fW f1 l1
  go_wp2_with fail
  (try simp only [Exit.inBlock, Exit.then])
  refine bodyPost_ret (results_nat rfl _ _ (w.heap.size + 1) (.slice a 0 cap) rfl ?_) rfl ?_
  · go_simp
  · exact ⟨rfl, Below.setCell F (by simp) _⟩

/-- The row behind i rounds: s noughts, the first i digits of the product, the carry, then noughts. -/
def rowTS (s x k i j : Nat) : Value := .int .u32 ((if j < s then 0 else if j < s + i then dg 4294967296 (x * k) (j - s) else if j = s + i then tcarry 4294967296 x k i else 0 : Nat) : Int)

set_option maxHeartbeats 2000000 in
set_option maxRecDepth 4000 in
theorem up_some (v : Value) (x k : Nat) (w : World) (h : IsNat w v x) (hx0 : x ≠ 0) (hn : nlen 4294967296 x ≤ 100000000000) (k0 : 1 ≤ k) (k1 : k ≤ 100000000000) :
    Calls Tryd.prog 55 #[v, .int .i64 k] w fun e w' => ∃ a c, e = .returned (.agg #[.slice a (nlen 4294967296 (x * 2 ^ k)) c]) ∧ IsNat w' (.agg #[.slice a (nlen 4294967296 (x * 2 ^ k)) c]) (x * 2 ^ k) ∧ Fr w w' := by
  have H := hide h
  obtain ⟨a, cap, rfl, h2, h3, h4⟩ := h
  clear h4
  have hx := hide (lt_nlen b32 x)
  have hp := nlen_pos b32 hx0
  have HV := hide (up_val x k)
  have HU := hide (up_lt (k := k) hx.out)
  obtain ⟨s, hs⟩ : ∃ s, k / 32 = s := ⟨_, rfl⟩
  obtain ⟨u, hu⟩ : ∃ u, k % 32 = u := ⟨_, rfl⟩
  rw [hs, hu] at HV
  rw [hs] at HU
  have hu31 : u ≤ 31 := by omega
  have hsk : s ≤ 100000000000 := by omega
  have ek : (k : Int) / 32 = (s : Int) := by omega
  have eu : (k : Int) % 32 = (u : Int) := by omega
  clear hs hu
  go_enter Tryd.func55, Tryd.ntmps55
  go_wp2_with fail
  obtain ⟨W, hW⟩ : ∃ W, W = (w.alloc (Obj.cells #[Value.slice a (nlen 4294967296 x) cap] 24)).alloc (Obj.cells #[Value.slice none 0 0] 24) := ⟨_, rfl⟩
  have fW : Fr w W := by rw [hW]; exact (Fr.alloc _ _).trans (Fr.alloc _ _)
  have c4 : W.cell? ⟨w.heap.size + 1, 0, none⟩ = some (.slice none 0 0) := by rw [hW]; simp [go_sem]
  have z4 : W.frozen? ⟨w.heap.size + 1, 0, none⟩ = false := by rw [hW]; simp [go_sem]
  rw [← hW]
  clear hW
  refine (limbs_lm _ x _ (IsNat.fr H.out fW) (by omega)).mono ?_
  rintro e w1 ⟨a1, c1, rfl, n1, l1, f1⟩
  have L1 := hide l1
  have z4 := fr_free f1 c4 z4
  have c4 := fr_cell f1 c4
  have F := hide (fW.trans f1)
  have HC : Hid (Cs .u32 w1 a1 (nlen 4294967296 x) (dg 4294967296 x)) := L1.out.1
  clear fW f1 l1 H L1
  generalize nlen 4294967296 x = n at *
  have hn0 : ((n : Int) == 0) = false := by
    have : n ≠ 0 := by omega
    simp [this]
  obtain ⟨M, hM⟩ : ∃ M : Nat, s + n + 1 = M := ⟨_, rfl⟩
  have hmk := run_make_row' (P := Tryd.prog) 22 41 (.int .u32 0) 4 Tryd.underlying22 info32 rfl .i64 .i64 M (by omega) (by omega)
  go_wp2_with fail
  rw [eu]
  have e : (s : Int) + (n : Int) + 1 = (M : Int) := by omega
  rw [e]
  clear e eu ek
  rw [hmk]
  simp only [Result.andThen]
  rw [Oper.upon_value]
  clear hmk
  go_wp2_with fail
  go_loopw [34] (fun s34 wr => ∃ i : Nat, i ≤ n ∧ s34 = .int .i64 i ∧ wr.rowIs w1.heap.size 41 M (rowTS s x (2 ^ u) i) ∧ Hid (Fr w1 wr)) (fun s34 _ => n - (intOf s34).toNat)
  case atStart =>
    refine ⟨0, by omega, rfl, ?_, Fr.alloc _ _⟩
    refine (World.rowIs_made w1 (.int .u32 0) M 41).congr (fun j hj => ?_)
    unfold rowTS
    rw [tcarry_zero]
    by_cases h1 : j < s
    · rw [if_pos h1]; rfl
    · rw [if_neg h1, if_neg (by omega)]
      split <;> rfl
  case round =>
    obtain ⟨i, hi, rfl, hrw, hF⟩ := hrel
    by_cases hc : i < n
    · have hst := times_step b32 x (2 ^ u) i
      have hcl := tcarry_lt b32 x (2 ^ u) i (Nat.pow_pos (by omega))
      have hku := pow2_le hu31
      have lx := dg_lt b32 x i
      have lq := dg_lt b32 (x * 2 ^ u) i
      have hcx := Cs.fr HC.out hF.out
      have hcp := hrw.cell (i := s + i) (by omega)
      have hcp1 := hrw.cell (i := s + i + 1) (by omega)
      have hfz := hrw.frozen (s + i)
      have hfz1 := hrw.frozen (s + i + 1)
      have HR := hide hrw
      rw [rowTS, if_neg (by omega), if_neg (by omega), if_pos rfl] at hcp
      rw [rowTS, if_neg (by omega), if_neg (by omega), if_neg (by omega)] at hcp1
      clear hrw
      obtain ⟨ho1, ho2⟩ := raise_or (d := dg 4294967296 x i) hu31 hcl
      have hdk : dg 4294967296 x i * 2 ^ u ≤ 4294967295 * 2147483648 := Nat.mul_le_mul (by omega) hku
      have v1 : Hid (bits BinOp.or IntKind.u32 (tcarry 4294967296 x (2 ^ u) i : Int) (IntKind.u64.wrap ((dg 4294967296 x i : Int) * 2 ^ u) % 4294967296) = (dg 4294967296 (x * 2 ^ u) i : Int)) := by
        unfold Hid
        have e : ((dg 4294967296 x i : Int) * 2 ^ u) = ((dg 4294967296 x i * 2 ^ u : Nat) : Int) := by simp
        rw [e, IntKind.wrap_u64]
        have e2 : ((dg 4294967296 x i * 2 ^ u : Nat) : Int) % 18446744073709551616 % 4294967296 = ((dg 4294967296 x i * 2 ^ u % 4294967296 : Nat) : Int) := by omega
        rw [e2, u32_or_nat _ _ (by omega) (by omega), ho1]
        omega
      have v2 : Hid (IntKind.u64.wrap ((dg 4294967296 x i : Int) * 2 ^ u) / 4294967296 % 4294967296 = (tcarry 4294967296 x (2 ^ u) (i + 1) : Int)) := by
        unfold Hid
        have e : ((dg 4294967296 x i : Int) * 2 ^ u) = ((dg 4294967296 x i * 2 ^ u : Nat) : Int) := by simp
        rw [e, IntKind.wrap_u64]
        omega
      clear ho1 ho2 hdk hst
      rcases hcx with h0 | ⟨b, off, rfl, hb, hcell⟩
      · omega
      · have hcx := hcell i hc
        clear hcell
        go_wp2_with fail
        go_roundw
        case rel =>
          rw [v1.out, v2.out]
          refine ⟨i + 1, by omega, by go_num, ?_, ?_⟩
          · refine ((HR.out.set (s + i) _).set (s + i + 1) _).congr ?_
            intro j hj
            unfold rowTS
            by_cases h1 : j = s + i + 1
            · subst h1; rw [if_pos rfl, if_neg (by omega), if_neg (by omega), if_pos (by omega)]
            · rw [if_neg h1]
              by_cases h2 : j = s + i
              · subst h2; rw [if_pos rfl, if_neg (by omega), if_pos (by omega), Nat.add_sub_cancel_left]
              · rw [if_neg h2]
                by_cases h3 : j < s
                · rw [if_pos h3, if_pos h3]
                · rw [if_neg h3, if_neg h3]
                  by_cases h4 : j < s + i
                  · rw [if_pos h4, if_pos (by omega)]
                  · rw [if_neg h4, if_neg h2, if_neg (by omega), if_neg (by omega)]
          · exact Below.setCell (Below.setCell hF.out (by simp) _) (by simp) _
        case measure => simp [intOf]; omega
    · have e : i = n := by omega
      subst e
      have ht := raise_top (k := 2 ^ u) hx.out (by have := pow2_le hu31; omega)
      have CR : Hid (Cs .u32 wr (some ⟨w1.heap.size, 0, none⟩) M (dg 4294967296 (x * 2 ^ k))) := by
        refine .inr ⟨_, 0, rfl, hrw.lt, fun j hj => ?_⟩
        rw [Nat.zero_add, hrw.cell hj, rowTS, HV.out, dg_shift]
        by_cases h1 : j < s
        · rw [if_pos h1, if_pos h1]
        · rw [if_neg h1, if_neg h1]
          by_cases h2 : j < s + i
          · rw [if_pos h2]
          · obtain rfl : j = s + i := by omega
            rw [if_neg h2, if_pos rfl, ht, Nat.add_sub_cancel_left]
      have HL : Hid (x * 2 ^ k < 4294967296 ^ M) := by rw [← hM]; exact HU.out
      have z4 := fr_free hF.out c4 z4
      have c4 := fr_cell hF.out c4
      clear ht hrw
      go_wp2_with fail
      refine (made_any M M (some ⟨w1.heap.size, 0, none⟩) _ (x * 2 ^ k) _ (by omega) CR.out HL.out (fun j _ => rfl)).mono ?_
      rintro e w2 ⟨a2, c2', rfl, hl2, i2, f2⟩
      have I2 := hide i2
      have FF := hide ((F.out.trans hF.out).trans f2)
      have z4 := fr_free f2 c4 z4
      have c4 := fr_cell f2 c4
      have sz := hF.out.size
      have s4 := cell_lt c4
      have sw := F.out.size
      have HL2 := hide hl2
      clear i2 f2 hl2
      unfold natVal
      go_wp2_with fail
      (try simp only [Exit.inBlock, Exit.then])
      refine bodyPost_ret (results_nat rfl _ _ (w.heap.size + 1) (.slice (natA (x * 2 ^ k) a2) (nlen 4294967296 (x * 2 ^ k)) (natC (x * 2 ^ k) c2')) rfl ?_) rfl ?_
      · go_simp
      · refine ⟨_, _, rfl, ?_, Below.setCell FF.out (by simp) _⟩
        have hb1 : w.heap.size + 1 < wr.heap.size := cell_lt (by assumption : wr.cell? ⟨w.heap.size + 1, 0, none⟩ = _)
        exact IsNat.put I2.out _ _ (fun g off s e => by have := HL2.out g off s (natA_some e); simp; omega)

theorem up_any (v : Value) (x : Nat) (k : Int) (w : World) (h : IsNat w v x) (hn : nlen 4294967296 x ≤ 100000000000) (k0 : -9223372036854775808 ≤ k) (k1 : k ≤ 100000000000) :
    Calls Tryd.prog 55 #[v, .int .i64 k] w fun e w' => ∃ a c, e = .returned (.agg #[.slice a (nlen 4294967296 (x * 2 ^ k.toNat)) c]) ∧ IsNat w' (.agg #[.slice a (nlen 4294967296 (x * 2 ^ k.toNat)) c]) (x * 2 ^ k.toNat) ∧ Fr w w' := by
  by_cases c : k ≤ 0
  · refine (up_none v x k w h hn k0 c).mono ?_
    rintro e w' ⟨rfl, f⟩
    have e0 : x * 2 ^ k.toNat = x := by rw [show k.toNat = 0 by omega, Nat.pow_zero, Nat.mul_one]
    rw [e0]
    have h' := h.fr f
    obtain ⟨a, cap, rfl, _⟩ := h
    exact ⟨a, cap, rfl, h', f⟩
  · by_cases hx : x = 0
    · subst hx
      refine (up_zero v k w h (by omega)).mono ?_
      rintro e w' ⟨rfl, f⟩
      rw [Nat.zero_mul]
      have h' := h.fr f
      obtain ⟨a, cap, rfl, _⟩ := h
      exact ⟨a, cap, rfl, h', f⟩
    · have := up_some v x k.toNat w h hx hn (by omega) (by omega)
      rwa [Int.toNat_of_nonneg (by omega)] at this
end Go.Proofs.YtimglhbllcjpbaaDoor
