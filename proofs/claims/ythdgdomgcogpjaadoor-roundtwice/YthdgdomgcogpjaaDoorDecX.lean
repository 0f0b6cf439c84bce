/- The document's Text of decimals. -/
import Derived.Test.YthdgdomgcogpjaaDoorDigD
import Derived.Test.YthdgdomgcogpjaaDoorPackD
import Derived.Test.YthdgdomgcogpjaaDoorPackA
import Derived.ProofKit
import Derived.LaidMore
import Derived.Stop.Joined
import Derived.Stop.LaidErr
import Derived.Lib.LaidTab
namespace Go.Proofs.YthdgdomgcogpjaaDoor
set_option linter.unusedVariables false
set_option linter.unusedSimpArgs false
open Go.RowKit

theorem conv_byte (c : UInt8) (z : Int) (h : (c.toNat : Int) = z) (w : World) : (convert 51 9 (.slice (some ⟨w.heap.size, 0, none⟩) 1 1)).run Tryd.prog (w.alloc (.cells #[.int .u8 z] 5)) = .ok (.string (bs [c])) (w.alloc (.cells #[.int .u8 z] 5)) := by
  subst h
  exact run_convert_bytes_back (P := Tryd.prog) (w.alloc (.cells #[.int .u8 (c.toNat : Int)] 5)) 51 9 5 ⟨w.heap.size, 0, none⟩ 1 [c] Tryd.underlying51 Tryd.underlying5 Tryd.underlying9 (fun j hj => by
    simp only [List.length_singleton] at hj
    obtain rfl : j = 0 := by omega
    rw [Lib.add_plain, World.cell?_alloc_new]
    rfl)

/-- The digits from the top down to place j. -/
def topD (x n j : Nat) : List UInt8 := if n ≤ j then [] else Lib.decDigits (x / 10 ^ j)
theorem topD_step {x n j : Nat} (h1 : x < 10 ^ n) (h2 : 10 ^ (n - 1) ≤ x) (hj : j < n) : topD x n j = topD x n (j + 1) ++ [UInt8.ofNat (48 + dg 10 x j)] := by
  unfold topD
  rw [if_neg (by omega)]
  have hd : x / 10 ^ (j + 1) = x / 10 ^ j / 10 := by rw [Nat.div_div_eq_div_mul, Nat.pow_succ]
  have hg : dg 10 x j = x / 10 ^ j % 10 := rfl
  by_cases hn : n ≤ j + 1
  · rw [if_pos hn]
    have : n = j + 1 := by omega
    subst this
    have hlt : x / 10 ^ j < 10 := Nat.div_lt_of_lt_mul (by rw [Nat.pow_succ] at h1; exact h1)
    rw [Lib.decDigits_one hlt, hg, Nat.mod_eq_of_lt hlt]
    rfl
  · rw [if_neg hn, hd, hg]
    refine decDigits_ten ?_
    have hp : 10 ^ (j + 1) ≤ x := Nat.le_trans (Nat.pow_le_pow_right (by decide) (by omega)) h2
    have : 10 ≤ x / 10 ^ j := (Nat.le_div_iff_mul_le (Nat.pow_pos (by decide))).2 (by rw [Nat.pow_succ, Nat.mul_comm] at hp; exact hp)
    omega
theorem topD_zero {x n : Nat} (h : 0 < n) : topD x n 0 = Lib.decDigits x := by
  unfold topD
  rw [if_neg (by omega), Nat.pow_zero, Nat.div_one]
theorem topD_len {x n j : Nat} (h1 : x < 10 ^ n) (hn : n ≤ 100000) : (topD x n j).length ≤ 100001 := by
  unfold topD
  split
  · simp
  · rw [Lib.decDigits_length]
    have := ndig_le (k := n) (x := x / 10 ^ j) (Nat.lt_of_le_of_lt (Nat.div_le_self _ _) h1)
    omega

set_option maxHeartbeats 2000000 in
set_option maxRecDepth 4000 in
theorem refText_any (v : Value) (x : Nat) (w : World) (h : IsDec w v x) (hx : nlen 10 x ≤ 100000) :
    Calls Tryd.prog 39 #[v] w fun e w' => e = .returned (.string (bs (Lib.decDigits x))) ∧ Fr w w' := by
  have HD := hide h
  obtain ⟨a, ca, rfl, a2, a3, a4⟩ := h
  by_cases h0 : x = 0
  · subst h0
    have e0 : bs (Lib.decDigits 0) = ⟨#[48]⟩ := by rw [Lib.decDigits_one (by decide)]; rfl
    rw [e0]
    rw [nlen_zero] at *
    clear a4
    go_enter Tryd.func39, Tryd.ntmps39
    go_wp2_with fail
    go_ret
    exact ⟨rfl, Fr.refl _⟩
  · obtain ⟨n, hn⟩ : ∃ n, nlen 10 x = n := ⟨_, rfl⟩
    have hn0 := nlen_pos (B := 10) (by omega) h0
    have l1 := lt_nlen (B := 10) (by omega) x
    have l2 := nlen_low (B := 10) (by omega) x h0
    rw [hn] at hx a2 a4 hn0 l1 l2 ⊢
    rcases a4 with q | ⟨b, off, rfl, hb, hcs⟩
    · omega
    · have hb0 : ((n : Int) == 0) = false := by
        have h : n ≠ 0 := by omega
        simp [h]
      have HC := hide hcs
      have HL1 := hide l1
      have HL2 := hide l2
      clear hcs l1 l2 hn h0
      unfold maxLen at a3
      go_enter Tryd.func39, Tryd.ntmps39
      go_wp2_with fail
      go_loopw [3, 4] (fun s i wr => ∃ (j : Nat) (t : ByteArray), j ≤ n ∧ ((j = 0 ∧ i = .int .i64 (-1)) ∨ ∃ k : Nat, j = k + 1 ∧ i = .int .i64 k) ∧ s = .string t ∧ Hid (t = bs (topD x n j)) ∧ t.size ≤ 100001 ∧ Hid (Fr w wr)) (fun _ i _ => (intOf i + 1).toNat)
      case atStart =>
        refine ⟨n, ⟨#[]⟩, by omega, .inr ⟨n - 1, by omega, ?_⟩, rfl, hide ?_, by simp [ByteArray.size], hide (Fr.refl _)⟩
        · congr 1; omega
        · unfold topD; rw [if_pos (Nat.le_refl _)]
      case round =>
        obtain ⟨j, t, hj, hji, rfl, hT, hts, hF⟩ := hrel
        rcases hji with ⟨rfl, rfl⟩ | ⟨k, rfl, rfl⟩
        · have hT2 := hT.out
          rw [topD_zero (by omega)] at hT2
          have HT2 := hide hT2
          clear hT2 hT
          go_wp2_with fail
          go_ret
          exact ⟨by rw [← HT2.out]; rfl, hF.out⟩
        · obtain ⟨d, hd⟩ : ∃ d : Nat, dg 10 x k = d := ⟨_, rfl⟩
          have hd9 : d < 10 := by rw [← hd]; exact dg_lt (by omega) x k
          have hcell := fr_cell hF.out (HC.out k (by omega))
          rw [hd] at hcell
          obtain ⟨c, hc⟩ : ∃ c, UInt8.ofNat (48 + d) = c := ⟨_, rfl⟩
          have hcv := conv_byte c (48 + (d : Int)) (by rw [← hc, byte_of hd9]; omega)
          have hst := topD_step HL1.out HL2.out (show k < n by omega)
          rw [hd, hc] at hst
          have HST := hide hst
          have hsz : (bs [c]).size = 1 := bs_size [c]
          clear hd hc hst
          go_wp2_with fail
          go_roundw
          case rel =>
            refine ⟨k, _, by omega, ?_, rfl, hide ?_, ?_, hide (hF.out.trans (Fr.alloc _ _))⟩
            · rcases k with _ | k
              · exact .inl ⟨rfl, by go_num⟩
              · exact .inr ⟨k, rfl, by go_num⟩
            · rw [HST.out, ← bs_append, hT.out]
            · rw [show t ++ bs [c] = bs (topD x n k) by rw [HST.out, ← bs_append, hT.out], bs_size]
              exact topD_len HL1.out hx
          case measure => simp [intOf]
end Go.Proofs.YthdgdomgcogpjaaDoor
