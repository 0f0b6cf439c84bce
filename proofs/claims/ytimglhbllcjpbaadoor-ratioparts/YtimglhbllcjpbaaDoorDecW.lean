/- The document's Tens and Decimals (layer 7's reference). -/
import Derived.Test.YtimglhbllcjpbaaDoorDecN
namespace Go.Proofs.YtimglhbllcjpbaaDoor
set_option linter.unusedVariables false
set_option linter.unusedSimpArgs false
open Go.RowKit

theorem dg_shift10 (y s j : Nat) : dg 10 (y * 10 ^ s) j = if j < s then 0 else dg 10 y (j - s) := by
  unfold dg
  split
  · rename_i h
    obtain ⟨d, rfl⟩ : ∃ d, s = j + (d + 1) := ⟨s - j - 1, by omega⟩
    rw [Nat.pow_add, show y * (10 ^ j * 10 ^ (d + 1)) = 10 ^ j * (y * 10 ^ (d + 1)) by ac_rfl, Nat.mul_div_cancel_left _ (Nat.pow_pos (by omega)), Nat.pow_succ, ← Nat.mul_assoc, Nat.mul_mod_left]
  · rename_i h
    obtain ⟨d, rfl⟩ : ∃ d, j = s + d := ⟨j - s, by omega⟩
    rw [Nat.pow_add, ← Nat.div_div_eq_div_mul, Nat.mul_div_cancel _ (Nat.pow_pos (by omega)), Nat.add_sub_cancel_left]
theorem nlen_shift10 {y : Nat} (hy : y ≠ 0) (s : Nat) : nlen 10 (y * 10 ^ s) = s + nlen 10 y := by
  have h1 := lt_nlen ten2 y
  have h2 := nlen_low ten2 y hy
  have h3 := nlen_pos ten2 hy
  refine nlen_eq ten2 ?_ (.inr ?_)
  · rw [Nat.pow_add, Nat.mul_comm]
    exact Nat.mul_lt_mul_of_pos_left h1 (Nat.pow_pos (by omega))
  · rw [show s + nlen 10 y - 1 = s + (nlen 10 y - 1) by omega, Nat.pow_add, Nat.mul_comm y]
    exact Nat.mul_le_mul_left _ h2
theorem made_own (w : World) (n : Nat) (e : TypeId) (hn : n ≤ maxLen) : (w.alloc (.cells (madeCells #[.int .i64 0] n) e)).ownsRow w.heap.size e 1 (.slice (some ⟨w.heap.size, 0, none⟩) n n) n (rowOf .i64 n (fun _ => 0)) := by
  refine ⟨by rw [rowOf_len, Nat.mul_one], .inr ⟨w.heap.size, n, madeCells #[.int .i64 0] n, rfl, Nat.le_refl _, heap_alloc_new w _, Nat.le_refl _, hn, by rw [size_madeCells, Nat.mul_one], ?_⟩⟩
  rw [Nat.mul_one, List.take_of_length_le (by rw [Array.length_toList, size_madeCells]; exact Nat.le_refl _)]
  unfold madeCells rowOf
  rw [Array.toList_map, Array.toList_range]
  refine List.map_congr_left (fun j _ => ?_)
  have h0 : j % (#[Value.int .i64 0] : Array Value).size = 0 := Nat.mod_one j
  rw [h0]
  rfl
theorem rowOf_join (n m : Nat) (f g : Nat → Nat) : rowOf .i64 n f ++ rowOf .i64 m g = rowOf .i64 (n + m) (fun j => if j < n then f j else g (j - n)) := by
  apply List.ext_getElem?
  intro j
  rcases Nat.lt_or_ge j n with h | h
  · rw [List.getElem?_append_left (by rw [rowOf_len]; exact h), rowOf_at h, rowOf_at (by omega), if_pos h]
  · rw [List.getElem?_append_right (by rw [rowOf_len]; exact h), rowOf_len]
    rcases Nat.lt_or_ge j (n + m) with h2 | h2
    · rw [rowOf_at (by omega), rowOf_at h2, if_neg (by omega)]
    · rw [List.getElem?_eq_none (by rw [rowOf_len]; omega), List.getElem?_eq_none (by rw [rowOf_len]; omega)]

set_option maxHeartbeats 1000000 in
set_option maxRecDepth 4000 in
theorem refTens_any (va : Value) (x : Nat) (k : Int) (w : World) (ha : IsDec w va x) (hx : nlen 10 x ≤ 1000000) (k0 : -9223372036854775808 ≤ k) (k1 : k ≤ 1000000) :
    Calls Tryd.prog 26 #[va, .int .i64 k] w fun e w' => ∃ v, e = .returned v ∧ IsDec w' v (x * 10 ^ k.toNat) ∧ Fr w w' := by
  have HA := hide ha
  obtain ⟨a, ca, rfl, a2, a3, a4⟩ := ha
  by_cases hx0 : x = 0
  · subst hx0
    rw [nlen_zero] at *
    have HA2 : Hid (IsDec w (.slice a 0 ca) (0 * 10 ^ k.toNat)) := by rw [Nat.zero_mul]; exact HA
    clear a4 HA
    go_enter Tryd.func26, Tryd.ntmps26
    go_wp2_with fail
    go_ret
    exact ⟨_, rfl, HA2.out, Fr.refl _⟩
  · have np := nlen_pos ten2 hx0
    by_cases hk : k < 1
    · have HA2 : Hid (IsDec w (.slice a (nlen 10 x) ca) (x * 10 ^ k.toNat)) := by rw [show k.toNat = 0 by omega, Nat.pow_zero, Nat.mul_one]; exact HA
      clear a4 HA
      generalize nlen 10 x = N at *
      have z : ((N : Int) == 0) = false := by simp only [beq_eq_false_iff_ne]; omega
      go_enter Tryd.func26, Tryd.ntmps26
      go_wp2_with fail
      go_ret
      exact ⟨_, rfl, HA2.out, Fr.refl _⟩
    · obtain ⟨K, rfl⟩ : ∃ K : Nat, k = K := ⟨k.toNat, by omega⟩
      obtain ⟨i0, hi, hz0, hz1, hz2⟩ := info_parts info64
      have hl := nlen_shift10 hx0 K
      have hd := dg_shift10 x K
      rw [Int.toNat_natCast]
      have HD := hide hd
      have HL := hide hl
      clear hd hl HA
      generalize nlen 10 x = N at *
      have z : ((N : Int) == 0) = false := by simp only [beq_eq_false_iff_ne]; omega
      have hmk := run_make_row' (P := Tryd.prog) 27 3 (.int .i64 0) 8 Tryd.underlying27 info64 rfl .i64 .i64 K (by omega) (by omega)
      rcases a4 with h0 | ⟨b, off, rfl, hb, hc⟩
      · omega
      · have HC := hide hc
        clear hc
        go_enter Tryd.func26, Tryd.ntmps26
        have HM := hide (made_own w K 3 (by unfold maxLen; omega))
        go_wp2_with (at_builtin; refine wpList_append_own _ rfl _ _ 27 rfl w.heap.size 3 i0 (.int .i64 0) 1 8 Tryd.underlying27 hi hz0 hz1 hz2 rfl (by decide) _ _ _ rfl HM.out ⟨b, off, none⟩ N ca (rowOf .i64 N (dg 10 x)) rfl (by rw [rowOf_len, Nat.mul_one]) ?c1 ?c2 ?c3 ?c4 ?c5 ?_)
        case c1 =>
          intro j u hu
          obtain ⟨hj, rfl⟩ := rowOf_get hu
          exact HC.out j hj
        case c2 =>
          intro u hu
          obtain ⟨j, _, rfl⟩ := List.mem_map.1 hu
          rfl
        case c3 => unfold maxLen; omega
        case c4 => omega
        intro v' w2 hown' hgrow _
        obtain ⟨a5, c5, hv2, hc1, hc2, _⟩ := own_form hown'
        rw [hv2] at hown'
        rw [hv2]
        have hF2 : Fr w w2 := Below.grown (Below.alloc (Fr.refl w) (Nat.le_refl _) _) hgrow (by simp) (own_below HM.out)
        rw [rowOf_join] at hown'
        have hR : Hid (IsDec w2 (.slice a5 (K + N) c5) (x * 10 ^ K)) := by
          refine ⟨a5, c5, by rw [HL.out], by rw [HL.out]; exact hc1, hc2, ?_⟩
          rw [HL.out]
          have e : dg 10 (x * 10 ^ K) = fun j => if j < K then 0 else dg 10 x (j - K) := funext HD.out
          rw [e]
          exact own_cs hown'
        have HF2 := hide hF2
        clear hgrow hown' hv2 hF2 HM hc1 hc2
        go_wp2_with fail
        go_ret
        exact ⟨_, rfl, hR, HF2.out⟩
end Go.Proofs.YtimglhbllcjpbaaDoor
