/- PackF: several texts in one. -/
import Derived.Test.YtammjgieocgelaaGreatDoorPackE
import Derived.Test.YtammjgieocgelaaGreatDoorPackD
import Derived.Test.YtammjgieocgelaaGreatDoorPackA
import Derived.ProofKit
import Derived.LaidMore
import Derived.Stop.Joined
import Derived.Stop.LaidErr
import Derived.Lib.LaidTab
import Derived.Test.YtammjgieocgelaaGreatDoorPackB
import Derived.BigQuiet
import Derived.Deep.DeepCutAuto
import Derived.Laws.StructEq
import Derived.Deep.RegionHeld3
import Derived.Test.YtammjgieocgelaaGreatDoorPackC
/- The document's Text of decimals. -/
namespace Go.Proofs.YtammjgieocgelaaGreatDoor
set_option linter.unusedVariables false
set_option linter.unusedSimpArgs false
open Go.RowKit

theorem conv_byte (c : UInt8) (z : Int) (h : (c.toNat : Int) = z) (w : World) : (convert 39 9 (.slice (some ⟨w.heap.size, 0, none⟩) 1 1)).run Tryz.prog (w.alloc (.cells #[.int .u8 z] 5)) = .ok (.string (bs [c])) (w.alloc (.cells #[.int .u8 z] 5)) := by
  subst h
  exact run_convert_bytes_back (P := Tryz.prog) (w.alloc (.cells #[.int .u8 (c.toNat : Int)] 5)) 39 9 5 ⟨w.heap.size, 0, none⟩ 1 [c] Tryz.underlying39 Tryz.underlying5 Tryz.underlying9 (fun j hj => by
    simp only [List.length_singleton] at hj
    obtain rfl : j = 0 := by omega
    rw [Lib.add_plain, World.cell?_alloc_new]
    rfl)

/-- The digits from the top down to place j. -/
def topD (x n j : Nat) : List UInt8 := if n ≤ j then [] else Lib.decDigits (x / 10 ^ j)
theorem topD_step {x n j : Nat} (h1 : x < 10 ^ n) (h2 : 10 ^ (n - 1) ≤ x) (hj : j < n) : topD x n j = topD x n (j + 1) ++ [UInt8.ofNat (48 + dg 10 x j)] := by
  unfold topD
  rw [if_neg (by omega)]
  have hd : x / 10 ^ (j + 1) = x / 10 ^ j / 10 := by rw [Nat.div_div_eq_div_mul, Nat.pow_succ]
  have hg : dg 10 x j = x / 10 ^ j % 10 := rfl
  by_cases hn : n ≤ j + 1
  · rw [if_pos hn]
    have : n = j + 1 := by omega
    subst this
    have hlt : x / 10 ^ j < 10 := Nat.div_lt_of_lt_mul (by rw [Nat.pow_succ] at h1; exact h1)
    rw [Lib.decDigits_one hlt, hg, Nat.mod_eq_of_lt hlt]
    rfl
  · rw [if_neg hn, hd, hg]
    refine decDigits_ten ?_
    have hp : 10 ^ (j + 1) ≤ x := Nat.le_trans (Nat.pow_le_pow_right (by decide) (by omega)) h2
    have : 10 ≤ x / 10 ^ j := (Nat.le_div_iff_mul_le (Nat.pow_pos (by decide))).2 (by rw [Nat.pow_succ, Nat.mul_comm] at hp; exact hp)
    omega
theorem topD_zero {x n : Nat} (h : 0 < n) : topD x n 0 = Lib.decDigits x := by
  unfold topD
  rw [if_neg (by omega), Nat.pow_zero, Nat.div_one]
theorem topD_len {x n j : Nat} (h1 : x < 10 ^ n) (hn : n ≤ 100000) : (topD x n j).length ≤ 100001 := by
  unfold topD
  split
  · simp
  · rw [Lib.decDigits_length]
    have := ndig_le (k := n) (x := x / 10 ^ j) (Nat.lt_of_le_of_lt (Nat.div_le_self _ _) h1)
    omega

set_option maxHeartbeats 2000000 in
set_option maxRecDepth 4000 in
theorem refText_any (v : Value) (x : Nat) (w : World) (h : IsDec w v x) (hx : nlen 10 x ≤ 100000) :
    Calls Tryz.prog 31 #[v] w fun e w' => e = .returned (.string (bs (Lib.decDigits x))) ∧ Fr w w' := by
  have HD := hide h
  obtain ⟨a, ca, rfl, a2, a3, a4⟩ := h
  by_cases h0 : x = 0
  · subst h0
    have e0 : bs (Lib.decDigits 0) = ⟨#[48]⟩ := by rw [Lib.decDigits_one (by decide)]; rfl
    rw [e0]
    rw [nlen_zero] at *
    clear a4
    go_enter Tryz.func31, Tryz.ntmps31
    go_wp2_with fail
    go_ret
    exact ⟨rfl, Fr.refl _⟩
  · obtain ⟨n, hn⟩ : ∃ n, nlen 10 x = n := ⟨_, rfl⟩
    have hn0 := nlen_pos (B := 10) (by omega) h0
    have l1 := lt_nlen (B := 10) (by omega) x
    have l2 := nlen_low (B := 10) (by omega) x h0
    rw [hn] at hx a2 a4 hn0 l1 l2 ⊢
    rcases a4 with q | ⟨b, off, rfl, hb, hcs⟩
    · omega
    · have hb0 : ((n : Int) == 0) = false := by
        have h : n ≠ 0 := by omega
        simp [h]
      have HC := hide hcs
      have HL1 := hide l1
      have HL2 := hide l2
      clear hcs l1 l2 hn h0
      unfold maxLen at a3
      go_enter Tryz.func31, Tryz.ntmps31
      go_wp2_with fail
      go_loopw [3, 4] (fun s i wr => ∃ (j : Nat) (t : ByteArray), j ≤ n ∧ ((j = 0 ∧ i = .int .i64 (-1)) ∨ ∃ k : Nat, j = k + 1 ∧ i = .int .i64 k) ∧ s = .string t ∧ Hid (t = bs (topD x n j)) ∧ t.size ≤ 100001 ∧ Hid (Fr w wr)) (fun _ i _ => (intOf i + 1).toNat)
      case atStart =>
        refine ⟨n, ⟨#[]⟩, by omega, .inr ⟨n - 1, by omega, ?_⟩, rfl, hide ?_, by simp [ByteArray.size], hide (Fr.refl _)⟩
        · congr 1; omega
        · unfold topD; rw [if_pos (Nat.le_refl _)]
      case round =>
        obtain ⟨j, t, hj, hji, rfl, hT, hts, hF⟩ := hrel
        rcases hji with ⟨rfl, rfl⟩ | ⟨k, rfl, rfl⟩
        · have hT2 := hT.out
          rw [topD_zero (by omega)] at hT2
          have HT2 := hide hT2
          clear hT2 hT
          go_wp2_with fail
          go_ret
          exact ⟨by rw [← HT2.out]; rfl, hF.out⟩
        · obtain ⟨d, hd⟩ : ∃ d : Nat, dg 10 x k = d := ⟨_, rfl⟩
          have hd9 : d < 10 := by rw [← hd]; exact dg_lt (by omega) x k
          have hcell := fr_cell hF.out (HC.out k (by omega))
          rw [hd] at hcell
          obtain ⟨c, hc⟩ : ∃ c, UInt8.ofNat (48 + d) = c := ⟨_, rfl⟩
          have hcv := conv_byte c (48 + (d : Int)) (by rw [← hc, byte_of hd9]; omega)
          have hst := topD_step HL1.out HL2.out (show k < n by omega)
          rw [hd, hc] at hst
          have HST := hide hst
          have hsz : (bs [c]).size = 1 := bs_size [c]
          clear hd hc hst
          go_wp2_with fail
          go_roundw
          case rel =>
            refine ⟨k, _, by omega, ?_, rfl, hide ?_, ?_, hide (hF.out.trans (Fr.alloc _ _))⟩
            · rcases k with _ | k
              · exact .inl ⟨rfl, by go_num⟩
              · exact .inr ⟨k, rfl, by go_num⟩
            · rw [HST.out, ← bs_append, hT.out]
            · rw [show t ++ bs [c] = bs (topD x n k) by rw [HST.out, ← bs_append, hT.out], bs_size]
              exact topD_len HL1.out hx
          case measure => simp [intOf]
end Go.Proofs.YtammjgieocgelaaGreatDoor

/- The values of 64 bits: Of, and the document's Of. -/
namespace Go.Proofs.YtammjgieocgelaaGreatDoor
set_option linter.unusedVariables false
set_option linter.unusedSimpArgs false
open Go.RowKit

def bE (b : Nat) : Nat := b / 4503599627370496 % 2048
def bF (b : Nat) : Nat := b % 4503599627370496
def bS (b : Nat) : Bool := decide (9223372036854775808 ≤ b)
def bC (b : Nat) : Nat := if bE b = 2047 then (if bF b = 0 then 2 else 3) else if bE b = 0 ∧ bF b = 0 then 0 else 1
def bN (b : Nat) : Bool := if bE b = 2047 ∧ bF b ≠ 0 then false else bS b
def bM (b : Nat) : Nat := if bE b = 2047 then 0 else if bE b = 0 then bF b else bF b + 4503599627370496
def bX (b : Nat) : Int := if bE b = 2047 then 0 else if bE b = 0 then (if bF b = 0 then 0 else -1074) else (bE b : Int) - 1075
def bval (b : Nat) : Value := .agg #[.int .i64 (bC b : Int), .bool (bN b), .int .u64 (bM b : Int), .int .i64 (bX b)]

theorem results_four {fn : Func} {p : Tmp} {t : TypeId} (ht : t = 60) (h : fn.results = #[.cell p t]) (tmps : Array Value) (w : World) (b : Nat) (v0 v1 v2 v3 : Value) (hp : tmps.getD p undef = .pointer (some ⟨b, 0, none⟩)) (h0 : w.cell? ⟨b, 0, none⟩ = some v0) (h1 : w.cell? ⟨b, 1, none⟩ = some v1) (h2 : w.cell? ⟨b, 2, none⟩ = some v2) (h3 : w.cell? ⟨b, 3, none⟩ = some v3) :
    (results fn tmps).run Tryz.prog w = .ok (.agg #[v0, v1, v2, v3]) w := by
  have hp' : tmps[p]?.getD undef = .pointer (some ⟨b, 0, none⟩) := by simpa using hp
  subst ht
  simp [results, h, hp']
  go_simp

theorem and_sign (b : Nat) (hb : b < 18446744073709551616) : bits .and .u64 (b : Int) 9223372036854775808 = if 9223372036854775808 ≤ b then 9223372036854775808 else 0 := by
  by_cases c : 9223372036854775808 ≤ b
  · rw [if_pos c]
    go_bits2
  · rw [if_neg c]
    go_bits2
theorem and_exp (b : Nat) (hb : b < 4096) : bits .and .u64 (b : Int) 2047 = ((b % 2048 : Nat) : Int) := by
  go_bits2
theorem and_frac (b : Nat) (hb : b < 18446744073709551616) : bits .and .u64 (b : Int) 4503599627370495 = ((b % 4503599627370496 : Nat) : Int) := by
  go_bits2

theorem results_alloc4 {fn : Func} {p : Tmp} {t : TypeId} (ht : t = 60) (h : fn.results = #[.cell p t]) (tmps : Array Value) (w : World) (v0 v1 v2 v3 : Value) (hp : tmps.getD p undef = .pointer (some ⟨w.heap.size, 0, none⟩)) :
    (results fn tmps).run Tryz.prog (w.alloc (Obj.cells #[v0, v1, v2, v3] t)) = .ok (.agg #[v0, v1, v2, v3]) (w.alloc (Obj.cells #[v0, v1, v2, v3] t)) :=
  results_four ht h tmps _ w.heap.size v0 v1 v2 v3 hp (by go_simp) (by go_simp) (by go_simp) (by go_simp)

set_option maxHeartbeats 4000000 in
set_option maxRecDepth 4000 in
theorem of_any7 (b : Nat) (w : World) (hb : b < 18446744073709551616) :
    Calls Tryz.prog 23 #[.int .u64 (b : Int)] w fun e w' => e = .returned (bval b) ∧ Fr w w' := by
  have r1 := and_sign b hb
  have r2 : bits .and .u64 ((b : Int) / 4503599627370496) 2047 = ((bE b : Nat) : Int) := and_exp (b / 4503599627370496) (by omega)
  have r3 : bits .and .u64 (b : Int) 4503599627370495 = ((bF b : Nat) : Int) := and_frac b hb
  have lE : bE b < 2048 := Nat.mod_lt _ (by omega)
  have lF : bF b < 4503599627370496 := Nat.mod_lt _ (by omega)
  unfold bval bC bN bM bX bS
  generalize bE b = E at *
  generalize bF b = F at *
  by_cases s : 9223372036854775808 ≤ b
  · simp only [decide_eq_true s]
    rw [if_pos s] at r1
    by_cases e1 : E = 2047
    · by_cases f0 : F = 0
      · subst e1
        subst f0
        go_enter Tryz.func23, Tryz.ntmps23
        go_wp2_with fail
        (try simp only [Exit.inBlock, Exit.then])
        refine bodyPost_ret (results_alloc4 rfl rfl _ w _ _ _ _ rfl) rfl ⟨?_, Fr.alloc _ _⟩
        (try rfl)
      · subst e1
        have hF : ((F : Int) == 0) = false := by simp only [beq_eq_false_iff_ne]; omega
        simp only [if_true, f0, if_false, ne_eq, not_false_eq_true, and_self]
        go_enter Tryz.func23, Tryz.ntmps23
        go_wp2_with fail
        (try simp only [Exit.inBlock, Exit.then])
        refine bodyPost_ret (results_alloc4 rfl rfl _ w _ _ _ _ rfl) rfl ⟨?_, Fr.alloc _ _⟩
        (try rfl)
    · by_cases e0 : E = 0
      · by_cases f0 : F = 0
        · subst f0
          subst e0
          go_enter Tryz.func23, Tryz.ntmps23
          go_wp2_with fail
          (try simp only [Exit.inBlock, Exit.then])
          refine bodyPost_ret (results_alloc4 rfl rfl _ w _ _ _ _ rfl) rfl ⟨?_, Fr.alloc _ _⟩
          (try rfl)
        · subst e0
          have hF : ((F : Int) == 0) = false := by simp only [beq_eq_false_iff_ne]; omega
          simp only [if_true, f0, if_false, ne_eq, not_false_eq_true, and_self, and_false, Nat.reduceEqDiff, false_and]
          go_enter Tryz.func23, Tryz.ntmps23
          go_wp2_with fail
          (try simp only [Exit.inBlock, Exit.then])
          refine bodyPost_ret (results_alloc4 rfl rfl _ w _ _ _ _ rfl) rfl ⟨?_, Fr.alloc _ _⟩
          (try rfl)
      · have hE1 : ((E : Int) == 2047) = false := by simp only [beq_eq_false_iff_ne]; omega
        have hE0 : ((E : Int) == 0) = false := by simp only [beq_eq_false_iff_ne]; omega
        simp only [if_true, e1, e0, if_false, ne_eq, not_false_eq_true, and_self, false_and]
        go_enter Tryz.func23, Tryz.ntmps23
        go_wp2_with fail
        (try simp only [Exit.inBlock, Exit.then])
        refine bodyPost_ret (results_alloc4 rfl rfl _ w _ _ _ _ rfl) rfl ⟨?_, Fr.alloc _ _⟩
        rw [show (((F + 4503599627370496 : Nat) : Int)) = (F : Int) + 4503599627370496 by omega]
        first | rfl | (rw [show (E : Int) - 1075 = (E : Int) - 1 + -1074 by omega]; rfl)
  · simp only [decide_eq_false s]
    rw [if_neg s] at r1
    by_cases e1 : E = 2047
    · by_cases f0 : F = 0
      · subst e1
        subst f0
        go_enter Tryz.func23, Tryz.ntmps23
        go_wp2_with fail
        (try simp only [Exit.inBlock, Exit.then])
        refine bodyPost_ret (results_alloc4 rfl rfl _ w _ _ _ _ rfl) rfl ⟨?_, Fr.alloc _ _⟩
        (try rfl)
      · subst e1
        have hF : ((F : Int) == 0) = false := by simp only [beq_eq_false_iff_ne]; omega
        simp only [if_true, f0, if_false, ne_eq, not_false_eq_true, and_self]
        go_enter Tryz.func23, Tryz.ntmps23
        go_wp2_with fail
        (try simp only [Exit.inBlock, Exit.then])
        refine bodyPost_ret (results_alloc4 rfl rfl _ w _ _ _ _ rfl) rfl ⟨?_, Fr.alloc _ _⟩
        (try rfl)
    · by_cases e0 : E = 0
      · by_cases f0 : F = 0
        · subst f0
          subst e0
          go_enter Tryz.func23, Tryz.ntmps23
          go_wp2_with fail
          (try simp only [Exit.inBlock, Exit.then])
          refine bodyPost_ret (results_alloc4 rfl rfl _ w _ _ _ _ rfl) rfl ⟨?_, Fr.alloc _ _⟩
          (try rfl)
        · subst e0
          have hF : ((F : Int) == 0) = false := by simp only [beq_eq_false_iff_ne]; omega
          simp only [if_true, f0, if_false, ne_eq, not_false_eq_true, and_self, and_false, Nat.reduceEqDiff, false_and]
          go_enter Tryz.func23, Tryz.ntmps23
          go_wp2_with fail
          (try simp only [Exit.inBlock, Exit.then])
          refine bodyPost_ret (results_alloc4 rfl rfl _ w _ _ _ _ rfl) rfl ⟨?_, Fr.alloc _ _⟩
          (try rfl)
      · have hE1 : ((E : Int) == 2047) = false := by simp only [beq_eq_false_iff_ne]; omega
        have hE0 : ((E : Int) == 0) = false := by simp only [beq_eq_false_iff_ne]; omega
        simp only [if_true, e1, e0, if_false, ne_eq, not_false_eq_true, and_self, false_and]
        go_enter Tryz.func23, Tryz.ntmps23
        go_wp2_with fail
        (try simp only [Exit.inBlock, Exit.then])
        refine bodyPost_ret (results_alloc4 rfl rfl _ w _ _ _ _ rfl) rfl ⟨?_, Fr.alloc _ _⟩
        rw [show (((F + 4503599627370496 : Nat) : Int)) = (F : Int) + 4503599627370496 by omega]
        first | rfl | (rw [show (E : Int) - 1075 = (E : Int) - 1 + -1074 by omega]; rfl)
end Go.Proofs.YtammjgieocgelaaGreatDoor

/- Bits that are joined: joined, unsigned, Bits, Next. -/
namespace Go.Proofs.YtammjgieocgelaaGreatDoor
set_option linter.unusedVariables false
set_option linter.unusedSimpArgs false
open Go.RowKit

def joinN (m : Nat) (x : Int) : Nat := (((x + 1074) * 4503599627370496 + m) % 18446744073709551616).toNat
theorem join_eq (m : Nat) (x : Int) : IntKind.u64.wrap (IntKind.u64.wrap (IntKind.u64.wrap (wrap64 (x + 1074)) * 4503599627370496) + (m : Int)) = (joinN m x : Int) := by
  unfold joinN wrap64
  rw [IntKind.wrap_u64, IntKind.wrap_u64, IntKind.wrap_u64]
  omega
theorem joinN_lt (m : Nat) (x : Int) : joinN m x < 18446744073709551616 := by unfold joinN; omega

set_option maxHeartbeats 1000000 in
set_option maxRecDepth 4000 in
theorem joined_any (m : Nat) (x : Int) (w : World) (hm : m < 18446744073709551616) (x0 : -9223372036854775808 ≤ x) (x1 : x ≤ 9223372036854775807) :
    Calls Tryz.prog 56 #[.int .u64 (m : Int), .int .i64 x] w fun e w' => e = .returned (.int .u64 (joinN m x : Int)) ∧ Fr w w' := by
  go_enter Tryz.func56, Tryz.ntmps56
  go_wp2_with fail
  go_ret
  refine ⟨?_, Fr.refl _⟩
  rw [join_eq]
  rfl


def unsN (c : Int) (m : Nat) (x : Int) : Nat := if c = 1 then joinN m x else if c = 2 then 9218868437227405312 else if c = 3 then 9221120237041090560 else 0
theorem unsN_lt (c : Int) (m : Nat) (x : Int) : unsN c m x < 18446744073709551616 := by
  unfold unsN
  have := joinN_lt m x
  split
  · omega
  · split
    · omega
    · split <;> omega

set_option maxHeartbeats 1000000 in
set_option maxRecDepth 4000 in
theorem unsigned_any (c : Int) (n : Bool) (m : Nat) (x : Int) (w : World) (hm : m < 18446744073709551616) (x0 : -9223372036854775808 ≤ x) (x1 : x ≤ 9223372036854775807) :
    Calls Tryz.prog 62 #[.agg #[.int .i64 c, .bool n, .int .u64 (m : Int), .int .i64 x]] w fun e w' => e = .returned (.int .u64 (unsN c m x : Int)) ∧ Fr w w' := by
  unfold unsN
  by_cases c1 : c = 1
  · subst c1
    rw [if_pos rfl]
    go_enter Tryz.func62, Tryz.ntmps62
    go_wp2_with fail
    refine (joined_any m x _ hm x0 x1).mono ?_
    rintro e w1 ⟨rfl, f1⟩
    go_wp2_with fail
    go_ret
    exact ⟨rfl, (Fr.alloc _ _).trans f1⟩
  · rw [if_neg c1]
    have k1 : (c == 1) = false := by simpa using c1
    by_cases c2 : c = 2
    · subst c2
      rw [if_pos rfl]
      go_enter Tryz.func62, Tryz.ntmps62
      go_wp2_with fail
      go_ret
      exact ⟨rfl, Fr.alloc _ _⟩
    · rw [if_neg c2]
      have k2 : (c == 2) = false := by simpa using c2
      by_cases c3 : c = 3
      · subst c3
        rw [if_pos rfl]
        go_enter Tryz.func62, Tryz.ntmps62
        go_wp2_with fail
        go_ret
        exact ⟨rfl, Fr.alloc _ _⟩
      · rw [if_neg c3]
        have k3 : (c == 3) = false := by simpa using c3
        go_enter Tryz.func62, Tryz.ntmps62
        go_wp2_with fail
        go_ret
        exact ⟨rfl, Fr.alloc _ _⟩

/-- The bits that are tried for a value. -/
def triedN (c : Int) (n : Bool) (m : Nat) (x : Int) : Nat := if n = true then unsN c m x ||| 9223372036854775808 else unsN c m x
def okN (c : Int) (n : Bool) (m : Nat) (x : Int) : Bool := decide ((bC (triedN c n m x) : Int) = c ∧ bN (triedN c n m x) = n ∧ (bM (triedN c n m x) : Int) = m ∧ bX (triedN c n m x) = x)

theorem or_lt (b : Nat) (hb : b < 18446744073709551616) : b ||| 9223372036854775808 < 18446744073709551616 := Nat.or_lt_two_pow (n := 64) hb (by decide)
theorem or_sign (b : Nat) (hb : b < 18446744073709551616) : bits .or .u64 (b : Int) 9223372036854775808 = ((b ||| 9223372036854775808 : Nat) : Int) := by
  exact u64_or_nat b 9223372036854775808 hb (by omega)
theorem four_cells {w w1 : World} {v0 v1 v2 v3 : Value} {t : TypeId} (f : Fr (w.alloc (.cells #[v0, v1, v2, v3] t)) w1) : w1.cell? ⟨w.heap.size, 0, none⟩ = some v0 ∧ w1.cell? ⟨w.heap.size, 1, none⟩ = some v1 ∧ w1.cell? ⟨w.heap.size, 2, none⟩ = some v2 ∧ w1.cell? ⟨w.heap.size, 3, none⟩ = some v3 :=
  ⟨fr_cell f (by simp [go_sem]), fr_cell f (by simp [go_sem]), fr_cell f (by simp [go_sem]), fr_cell f (by simp [go_sem])⟩

/-- Values are the same just if their four parts are. -/
theorem eqIn_four (w : World) (c : Int) (n : Bool) (m x : Int) (c' : Int) (n' : Bool) (m' x' : Int) :
    (Op.equalIn 10000 60 (.agg #[.int .i64 c, .bool n, .int .u64 m, .int .i64 x]) (.agg #[.int .i64 c', .bool n', .int .u64 m', .int .i64 x'])).run Tryz.prog w = .ok (decide (c = c' ∧ n = n' ∧ m = m' ∧ x = x')) w := by
  rw [show (10000 : Nat) = 9999 + 1 by rfl, run_equalIn_agg w 9999 60 _ _ (by kernel_rfl) (by kernel_rfl)]
  have hfs : (Tryz.prog.fieldsOf 60).toList = [Field.mk "Class" 58 0 false "" "" 0, Field.mk "Negative" 4 1 false "" "" 8, Field.mk "Mant" 22 2 false "" "" 16, Field.mk "Exp" 3 3 false "" "" 24] := by kernel_rfl
  rw [hfs]
  unfold Op.eqFields Op.eqFields Op.eqFields Op.eqFields Op.eqFields
  have ec : (c == c') = decide (c = c') := rfl
  by_cases h1 : c = c'
  · by_cases h2 : n = n'
    · by_cases h3 : m = m'
      · by_cases h4 : x = x'
        · subst h1 h2 h3 h4
          go_simp
        · go_simp
      · go_simp
    · go_simp
  · go_simp
set_option maxHeartbeats 1000000 in
set_option maxRecDepth 4000 in
theorem vbits_any (c : Int) (n : Bool) (m : Nat) (x : Int) (w : World) (hm : m < 18446744073709551616) (x0 : -9223372036854775808 ≤ x) (x1 : x ≤ 9223372036854775807) :
    Calls Tryz.prog 40 #[.agg #[.int .i64 c, .bool n, .int .u64 (m : Int), .int .i64 x]] w fun e w' => e = .returned (.tuple #[.int .u64 (if okN c n m x = true then (triedN c n m x : Int) else 0), .bool (okN c n m x)]) ∧ Fr w w' := by
  have lu := unsN_lt c m x
  obtain ⟨u, hu⟩ : ∃ u : Nat, unsN c m x = u := ⟨_, rfl⟩
  obtain ⟨T, hT⟩ : ∃ T : Nat, triedN c n m x = T := ⟨_, rfl⟩
  have lT : T < 18446744073709551616 := by
    rw [← hT]; unfold triedN
    split
    · exact or_lt _ lu
    · exact lu
  have HO : Hid (n = true → bits .or .u64 (u : Int) 9223372036854775808 = (T : Int)) := by
    refine hide ?_
    rintro rfl
    rw [← hu, or_sign _ lu, ← hT]
    rfl
  have HU : Hid (n = false → T = u) := by
    refine hide ?_
    rintro rfl
    rw [← hT, ← hu]
    rfl
  rw [hT]
  have ho : okN c n m x = decide ((bC T : Int) = c ∧ bN T = n ∧ (bM T : Int) = m ∧ bX T = x) := by unfold okN; rw [hT]
  rw [ho]
  have hof := fun w => of_any7 T w lT
  unfold bval at hof
  generalize bC T = C1 at *
  generalize bN T = N1 at *
  generalize bM T = M1 at *
  generalize bX T = X1 at *
  have HOF := hide hof
  obtain ⟨ok, hok⟩ : ∃ ok : Bool, decide ((C1 : Int) = c ∧ N1 = n ∧ (M1 : Int) = m ∧ X1 = x) = ok := ⟨_, rfl⟩
  rw [hok]
  have HK := hide hok
  clear hof ho hT hok
  go_enter Tryz.func40, Tryz.ntmps40
  go_wp2_with fail
  refine (unsigned_any c n m x _ hm x0 x1).mono ?_
  rintro e w1 ⟨rfl, f1⟩
  rw [hu]
  obtain ⟨d0, d1, d2, d3⟩ := four_cells f1
  have F := hide ((Fr.alloc _ _).trans f1)
  clear f1 hu lu
  cases n
  · obtain rfl := HU.out rfl
    clear HO HU
    go_wp2_with fail
    have e0 : ∀ p : FrBox w1, p.now.cell? ⟨w.heap.size, 0, none⟩ = some (.int .i64 c) := fun p => fr_cell p.fr d0
    have e1 : ∀ p : FrBox w1, p.now.cell? ⟨w.heap.size, 1, none⟩ = some (.bool false) := fun p => fr_cell p.fr d1
    have e2 : ∀ p : FrBox w1, p.now.cell? ⟨w.heap.size, 2, none⟩ = some (.int .u64 (m : Int)) := fun p => fr_cell p.fr d2
    have e3 : ∀ p : FrBox w1, p.now.cell? ⟨w.heap.size, 3, none⟩ = some (.int .i64 x) := fun p => fr_cell p.fr d3
    have k1 : Hid (∀ p : FrBox w1, Calls Tryz.prog 23 #[.int .u64 (T : Int)] p.now fun e w'' => e = .returned (.agg #[.int .i64 (C1 : Int), .bool N1, .int .u64 (M1 : Int), .int .i64 X1]) ∧ ∃ p : FrBox w1, w'' = p.now) := fun p => Calls.fr_of (HOF.out _)
    have nb := FrBox.some w1
    refine wp_region_fr (by kernel_rfl) (by kernel_rfl) ?_
    repeat (quiet_step (with_reducible exact k1.out _))
    refine wpQuiet_step (fun K hK => ?_)
    go_simp
    refine ⟨.bool (!ok), fun a => ?_, hK _ ?_⟩
    · rw [← HK.out]
      rcases Decidable.em ((C1 : Int) = c) with h1 | h1 <;> rcases Decidable.em ((M1 : Int) = m) with h2 | h2 <;> rcases Decidable.em (X1 = x) with h3 | h3 <;> cases N1 <;> simp [h1, h2, h3]
    clear hK K
    refine wpQuiet_nil ?_
    intro wq hq
    obtain ⟨p, hp⟩ := hq
    have fq := p.fr
    rw [← hp] at fq
    have FF := hide (F.out.trans fq)
    clear hp e0 e1 e2 e3 nb p k1 fq
    clear HK
    cases ok
    · simp only [Bool.not_false, Bool.false_eq_true, if_false]
      go_wp2_with fail
      go_ret2
      exact ⟨rfl, FF.out⟩
    · simp only [Bool.not_true, if_true]
      go_wp2_with fail
      go_ret2
      exact ⟨rfl, FF.out⟩
  · have ho := HO.out rfl
    clear HO HU
    go_wp2_with fail
    have e0 : ∀ p : FrBox w1, p.now.cell? ⟨w.heap.size, 0, none⟩ = some (.int .i64 c) := fun p => fr_cell p.fr d0
    have e1 : ∀ p : FrBox w1, p.now.cell? ⟨w.heap.size, 1, none⟩ = some (.bool true) := fun p => fr_cell p.fr d1
    have e2 : ∀ p : FrBox w1, p.now.cell? ⟨w.heap.size, 2, none⟩ = some (.int .u64 (m : Int)) := fun p => fr_cell p.fr d2
    have e3 : ∀ p : FrBox w1, p.now.cell? ⟨w.heap.size, 3, none⟩ = some (.int .i64 x) := fun p => fr_cell p.fr d3
    have k1 : Hid (∀ p : FrBox w1, Calls Tryz.prog 23 #[.int .u64 (T : Int)] p.now fun e w'' => e = .returned (.agg #[.int .i64 (C1 : Int), .bool N1, .int .u64 (M1 : Int), .int .i64 X1]) ∧ ∃ p : FrBox w1, w'' = p.now) := fun p => Calls.fr_of (HOF.out _)
    have nb := FrBox.some w1
    refine wp_region_fr (by kernel_rfl) (by kernel_rfl) ?_
    repeat (quiet_step (with_reducible exact k1.out _))
    refine wpQuiet_step (fun K hK => ?_)
    go_simp
    refine ⟨.bool (!ok), fun a => ?_, hK _ ?_⟩
    · rw [← HK.out]
      rcases Decidable.em ((C1 : Int) = c) with h1 | h1 <;> rcases Decidable.em ((M1 : Int) = m) with h2 | h2 <;> rcases Decidable.em (X1 = x) with h3 | h3 <;> cases N1 <;> simp [h1, h2, h3]
    clear hK K
    refine wpQuiet_nil ?_
    intro wq hq
    obtain ⟨p, hp⟩ := hq
    have fq := p.fr
    rw [← hp] at fq
    have FF := hide (F.out.trans fq)
    clear hp e0 e1 e2 e3 nb p k1 fq
    clear HK
    cases ok
    · simp only [Bool.not_false, Bool.false_eq_true, if_false]
      go_wp2_with fail
      go_ret2
      exact ⟨rfl, FF.out⟩
    · simp only [Bool.not_true, if_true]
      go_wp2_with fail
      go_ret2
      exact ⟨rfl, FF.out⟩
end Go.Proofs.YtammjgieocgelaaGreatDoor

/- The values of 64 bits: Of, and the document's Of. -/
namespace Go.Proofs.YtammjgieocgelaaGreatDoor
set_option linter.unusedVariables false
set_option linter.unusedSimpArgs false
open Go.RowKit

theorem results_fourr {fn : Func} {p : Tmp} (h : fn.results = #[.cell p 24]) (tmps : Array Value) (w : World) (b : Nat) (v0 v1 v2 v3 : Value) (hp : tmps.getD p undef = .pointer (some ⟨b, 0, none⟩)) (h0 : w.cell? ⟨b, 0, none⟩ = some v0) (h1 : w.cell? ⟨b, 1, none⟩ = some v1) (h2 : w.cell? ⟨b, 2, none⟩ = some v2) (h3 : w.cell? ⟨b, 3, none⟩ = some v3) :
    (results fn tmps).run Tryz.prog w = .ok (.agg #[v0, v1, v2, v3]) w := by
  have hp' : tmps[p]?.getD undef = .pointer (some ⟨b, 0, none⟩) := by simpa using hp
  simp [results, h, hp']
  go_simp

theorem results_alloc4r {fn : Func} {p : Tmp} (h : fn.results = #[.cell p 24]) (tmps : Array Value) (w : World) (v0 v1 v2 v3 : Value) (hp : tmps.getD p undef = .pointer (some ⟨w.heap.size, 0, none⟩)) :
    (results fn tmps).run Tryz.prog (w.alloc (Obj.cells #[v0, v1, v2, v3] 24)) = .ok (.agg #[v0, v1, v2, v3]) (w.alloc (Obj.cells #[v0, v1, v2, v3] 24)) :=
  results_fourr h tmps _ w.heap.size v0 v1 v2 v3 hp (by go_simp) (by go_simp) (by go_simp) (by go_simp)

set_option maxHeartbeats 4000000 in
set_option maxRecDepth 4000 in
theorem refOf_any7 (b : Nat) (w : World) (hb : b < 18446744073709551616) :
    Calls Tryz.prog 8 #[.int .u64 (b : Int)] w fun e w' => e = .returned (bval b) ∧ Fr w w' := by
  have r2 : Hid ((if 9223372036854775808 ≤ b then ((b : Int) - 9223372036854775808) / 4503599627370496 else (b : Int) / 4503599627370496) = ((bE b : Nat) : Int)) := by refine hide ?_; unfold bE; split <;> omega
  have r3 : Hid ((if 9223372036854775808 ≤ b then ((b : Int) - 9223372036854775808) % 4503599627370496 else (b : Int) % 4503599627370496) = ((bF b : Nat) : Int)) := by refine hide ?_; unfold bF; split <;> omega
  have lE : bE b < 2048 := Nat.mod_lt _ (by omega)
  have lF : bF b < 4503599627370496 := Nat.mod_lt _ (by omega)
  unfold bval bC bN bM bX bS
  generalize bE b = E at *
  generalize bF b = F at *
  by_cases s : 9223372036854775808 ≤ b
  · simp only [decide_eq_true s]
    rw [if_pos s] at r2 r3
    obtain ⟨B, hB⟩ : ∃ B : Int, (b : Int) = B := ⟨_, rfl⟩
    have B0 : 9223372036854775808 ≤ B := by omega
    have B1 : B < 18446744073709551616 := by omega
    rw [hB] at r2 r3 ⊢
    clear hB s hb
    by_cases e1 : E = 2047
    · by_cases f0 : F = 0
      · subst e1
        subst f0
        go_enter Tryz.func8, Tryz.ntmps8
        go_upto_region 6 with fail
        rw [r2.out, r3.out]
        clear r2 r3
        go_wp2_with fail
        (try simp only [Exit.inBlock, Exit.then])
        refine bodyPost_ret (results_alloc4r rfl _ w _ _ _ _ rfl) rfl ⟨?_, Fr.alloc _ _⟩
        (try rfl)
      · subst e1
        have hF : 0 < F := by omega
        simp only [if_true, f0, if_false, ne_eq, not_false_eq_true, and_self]
        go_enter Tryz.func8, Tryz.ntmps8
        go_upto_region 6 with fail
        rw [r2.out, r3.out]
        clear r2 r3
        go_wp2_with fail
        (try simp only [Exit.inBlock, Exit.then])
        refine bodyPost_ret (results_alloc4r rfl _ w _ _ _ _ rfl) rfl ⟨?_, Fr.alloc _ _⟩
        (try rfl)
    · by_cases e0 : E = 0
      · by_cases f0 : F = 0
        · subst f0
          subst e0
          go_enter Tryz.func8, Tryz.ntmps8
          go_upto_region 6 with fail
          rw [r2.out, r3.out]
          clear r2 r3
          go_wp2_with fail
          (try simp only [Exit.inBlock, Exit.then])
          refine bodyPost_ret (results_alloc4r rfl _ w _ _ _ _ rfl) rfl ⟨?_, Fr.alloc _ _⟩
          (try rfl)
        · subst e0
          have hF : 0 < F := by omega
          simp only [if_true, f0, if_false, ne_eq, not_false_eq_true, and_self, and_false, Nat.reduceEqDiff, false_and]
          go_enter Tryz.func8, Tryz.ntmps8
          go_upto_region 6 with fail
          rw [r2.out, r3.out]
          clear r2 r3
          go_wp2_with fail
          (try simp only [Exit.inBlock, Exit.then])
          refine bodyPost_ret (results_alloc4r rfl _ w _ _ _ _ rfl) rfl ⟨?_, Fr.alloc _ _⟩
          (try rfl)
      · have hE1 : ((E : Int) == 2047) = false := by simp only [beq_eq_false_iff_ne]; omega
        have hE0 : ((E : Int) == 0) = false := by simp only [beq_eq_false_iff_ne]; omega
        simp only [if_true, e1, e0, if_false, ne_eq, not_false_eq_true, and_self, false_and]
        go_enter Tryz.func8, Tryz.ntmps8
        go_upto_region 6 with fail
        rw [r2.out, r3.out]
        clear r2 r3
        go_wp2_with fail
        (try simp only [Exit.inBlock, Exit.then])
        refine bodyPost_ret (results_alloc4r rfl _ w _ _ _ _ rfl) rfl ⟨?_, Fr.alloc _ _⟩
        rw [show (((F + 4503599627370496 : Nat) : Int)) = (F : Int) + 4503599627370496 by omega]
        first | rfl | (rw [show (E : Int) - 1075 = (E : Int) - 1 + -1074 by omega]; rfl)
  · simp only [decide_eq_false s]
    rw [if_neg s] at r2 r3
    obtain ⟨B, hB⟩ : ∃ B : Int, (b : Int) = B := ⟨_, rfl⟩
    have B0 : 0 ≤ B := by omega
    have B1 : B < 9223372036854775808 := by omega
    rw [hB] at r2 r3 ⊢
    clear hB s hb
    by_cases e1 : E = 2047
    · by_cases f0 : F = 0
      · subst e1
        subst f0
        go_enter Tryz.func8, Tryz.ntmps8
        go_upto_region 6 with fail
        rw [r2.out, r3.out]
        clear r2 r3
        go_wp2_with fail
        (try simp only [Exit.inBlock, Exit.then])
        refine bodyPost_ret (results_alloc4r rfl _ w _ _ _ _ rfl) rfl ⟨?_, Fr.alloc _ _⟩
        rw [decide_eq_false (show ¬ (9223372036854775808 : Int) ≤ B by omega)]
        (try rfl)
      · subst e1
        have hF : 0 < F := by omega
        simp only [if_true, f0, if_false, ne_eq, not_false_eq_true, and_self]
        go_enter Tryz.func8, Tryz.ntmps8
        go_upto_region 6 with fail
        rw [r2.out, r3.out]
        clear r2 r3
        go_wp2_with fail
        (try simp only [Exit.inBlock, Exit.then])
        refine bodyPost_ret (results_alloc4r rfl _ w _ _ _ _ rfl) rfl ⟨?_, Fr.alloc _ _⟩
        (try rfl)
    · by_cases e0 : E = 0
      · by_cases f0 : F = 0
        · subst f0
          subst e0
          go_enter Tryz.func8, Tryz.ntmps8
          go_upto_region 6 with fail
          rw [r2.out, r3.out]
          clear r2 r3
          go_wp2_with fail
          (try simp only [Exit.inBlock, Exit.then])
          refine bodyPost_ret (results_alloc4r rfl _ w _ _ _ _ rfl) rfl ⟨?_, Fr.alloc _ _⟩
          rw [decide_eq_false (show ¬ (9223372036854775808 : Int) ≤ B by omega)]
          (try rfl)
        · subst e0
          have hF : 0 < F := by omega
          simp only [if_true, f0, if_false, ne_eq, not_false_eq_true, and_self, and_false, Nat.reduceEqDiff, false_and]
          go_enter Tryz.func8, Tryz.ntmps8
          go_upto_region 6 with fail
          rw [r2.out, r3.out]
          clear r2 r3
          go_wp2_with fail
          (try simp only [Exit.inBlock, Exit.then])
          refine bodyPost_ret (results_alloc4r rfl _ w _ _ _ _ rfl) rfl ⟨?_, Fr.alloc _ _⟩
          rw [decide_eq_false (show ¬ (9223372036854775808 : Int) ≤ B by omega)]
          (try rfl)
      · have hE1 : ((E : Int) == 2047) = false := by simp only [beq_eq_false_iff_ne]; omega
        have hE0 : ((E : Int) == 0) = false := by simp only [beq_eq_false_iff_ne]; omega
        simp only [if_true, e1, e0, if_false, ne_eq, not_false_eq_true, and_self, false_and]
        go_enter Tryz.func8, Tryz.ntmps8
        go_upto_region 6 with fail
        rw [r2.out, r3.out]
        clear r2 r3
        go_wp2_with fail
        (try simp only [Exit.inBlock, Exit.then])
        refine bodyPost_ret (results_alloc4r rfl _ w _ _ _ _ rfl) rfl ⟨?_, Fr.alloc _ _⟩
        rw [decide_eq_false (show ¬ (9223372036854775808 : Int) ≤ B by omega)]
        rw [show (((F + 4503599627370496 : Nat) : Int)) = (F : Int) + 4503599627370496 by omega]
        first | rfl | (rw [show (E : Int) - 1075 = (E : Int) - 1 + -1074 by omega]; rfl)
end Go.Proofs.YtammjgieocgelaaGreatDoor

/- Plain maths of layer 7: values of 64 bits as whole numbers of 2^-1074, and the bits nearest to a quotient. -/
namespace Go.Proofs.YtammjgieocgelaaGreatDoor
set_option linter.unusedVariables false

/-- The value of bits without a sign, in units of 2 to -1074; 2^1024 of Infinite. -/
def bV (b : Nat) : Nat := if b < 4503599627370496 then b else (b % 4503599627370496 + 4503599627370496) * 2 ^ (b / 4503599627370496 - 1)

theorem bV_form (b : Nat) : ∃ e M, b = e * 4503599627370496 + M ∧ M < 9007199254740992 ∧ (4503599627370496 ≤ M ∨ e = 0) ∧ bV b = M * 2 ^ e ∧ bV (b + 1) = (M + 1) * 2 ^ e := by
  by_cases h : b < 4503599627370496
  · refine ⟨0, b, by omega, by omega, .inr rfl, ?_, ?_⟩
    · unfold bV; rw [if_pos h, Nat.pow_zero, Nat.mul_one]
    · unfold bV
      by_cases h1 : b + 1 < 4503599627370496
      · rw [if_pos h1, Nat.pow_zero, Nat.mul_one]
      · rw [if_neg h1, show (b + 1) / 4503599627370496 - 1 = 0 by omega, show (b + 1) % 4503599627370496 + 4503599627370496 = b + 1 by omega]
  · refine ⟨b / 4503599627370496 - 1, b % 4503599627370496 + 4503599627370496, by omega, by omega, .inl (by omega), ?_, ?_⟩
    · unfold bV; rw [if_neg h]
    · unfold bV
      rw [if_neg (by omega)]
      by_cases h1 : b % 4503599627370496 + 1 < 4503599627370496
      · rw [show (b + 1) / 4503599627370496 - 1 = b / 4503599627370496 - 1 by omega, show (b + 1) % 4503599627370496 + 4503599627370496 = b % 4503599627370496 + 4503599627370496 + 1 by omega]
      · rw [show (b + 1) / 4503599627370496 - 1 = (b / 4503599627370496 - 1) + 1 by omega, show (b + 1) % 4503599627370496 + 4503599627370496 = 4503599627370496 by omega, show b % 4503599627370496 + 4503599627370496 + 1 = 4503599627370496 * 2 by omega, Nat.pow_succ]
        ac_rfl
theorem bV_zero : bV 0 = 0 := by unfold bV; rfl
theorem bV_step (b : Nat) : bV b < bV (b + 1) := by
  obtain ⟨e, M, _, _, _, h1, h2⟩ := bV_form b
  rw [h1, h2, Nat.add_mul]
  have : 0 < 2 ^ e := Nat.pow_pos (by omega)
  omega
theorem bV_lt {a b : Nat} (h : a < b) : bV a < bV b := by
  induction b with
  | zero => omega
  | succ b ih =>
    by_cases c : a = b
    · subst c; exact bV_step _
    · exact Nat.lt_trans (ih (by omega)) (bV_step b)
theorem bV_le {a b : Nat} (h : a ≤ b) : bV a ≤ bV b := by
  by_cases c : a = b
  · subst c; exact Nat.le_refl _
  · exact Nat.le_of_lt (bV_lt (by omega))

def topB (x y : Nat) : Int := if x * 2 ^ (-((nlen 2 x : Int) - nlen 2 y)).toNat < y * 2 ^ ((nlen 2 x : Int) - nlen 2 y).toNat then (nlen 2 x : Int) - nlen 2 y - 1 else (nlen 2 x : Int) - nlen 2 y
def wholeN (a b : Nat) : Nat := if 2 * (a % b) < b then a / b else if 2 * (a % b) = b then a / b + a / b % 2 else a / b + 1
def expN (x y : Nat) : Int := max (topB x y - 52) (-1074)
def nearN (x y : Nat) : Nat := if x = 0 then 0 else if 971 < expN x y then 9218868437227405312 else (expN x y + 1074).toNat * 4503599627370496 + wholeN (x * 2 ^ (-expN x y).toNat) (y * 2 ^ (expN x y).toNat)

/-- Both terms of a quotient raised: a common factor. -/
theorem scale (k : Int) (K N : Nat) (h : k = (K : Int) - N) : ∃ c, 0 < c ∧ ∀ x y : Nat, x * 2 ^ N = x * 2 ^ (-k).toNat * c ∧ y * 2 ^ K = y * 2 ^ k.toNat * c := by
  by_cases hk : K ≤ N
  · refine ⟨2 ^ K, Nat.pow_pos (by omega), fun x y => ?_⟩
    rw [show (-k).toNat = N - K by omega, show k.toNat = 0 by omega, Nat.mul_assoc, ← Nat.pow_add, show N - K + K = N by omega]
    simp
  · refine ⟨2 ^ N, Nat.pow_pos (by omega), fun x y => ?_⟩
    rw [show (-k).toNat = 0 by omega, show k.toNat = K - N by omega, Nat.mul_assoc y, ← Nat.pow_add, show K - N + N = K by omega]
    simp

theorem topB_spec {x y : Nat} (hx : 0 < x) (hy : 0 < y) (K N : Nat) (h : topB x y = (K : Int) - N) : y * 2 ^ K ≤ x * 2 ^ N ∧ x * 2 ^ N < y * 2 ^ (K + 1) := by
  have x1 := lt_nlen (B := 2) (by omega) x
  have x0 := nlen_low (B := 2) (by omega) x (by omega)
  have y1 := lt_nlen (B := 2) (by omega) y
  have y0 := nlen_low (B := 2) (by omega) y (by omega)
  have px := nlen_pos (B := 2) (by omega) (show x ≠ 0 by omega)
  have py := nlen_pos (B := 2) (by omega) (show y ≠ 0 by omega)
  unfold topB at h
  generalize nlen 2 x = lx at *
  generalize nlen 2 y = ly at *
  split at h
  · rename_i hc
    obtain ⟨c, c0, hs⟩ := scale ((lx : Int) - ly) (K + 1) N (by omega)
    have hs := hs x y
    refine ⟨?_, ?_⟩
    · have a1 : y * 2 ^ K ≤ 2 ^ ly * 2 ^ K := Nat.mul_le_mul_right _ (by omega)
      have a2 : 2 ^ (lx - 1) * 2 ^ N ≤ x * 2 ^ N := Nat.mul_le_mul_right _ x0
      rw [← Nat.pow_add] at a1 a2
      rw [show ly + K = lx - 1 + N by omega] at a1
      omega
    · rw [hs.1, hs.2]
      exact Nat.mul_lt_mul_of_pos_right hc c0
  · rename_i hc
    obtain ⟨c, c0, hs⟩ := scale ((lx : Int) - ly) K N (by omega)
    have hs := hs x y
    refine ⟨?_, ?_⟩
    · rw [hs.1, hs.2]
      exact Nat.mul_le_mul_right _ (by omega)
    · have a1 : x * 2 ^ N < 2 ^ lx * 2 ^ N := Nat.mul_lt_mul_of_pos_right x1 (Nat.pow_pos (by omega))
      have a2 : 2 ^ (ly - 1) * 2 ^ (K + 1) ≤ y * 2 ^ (K + 1) := Nat.mul_le_mul_right _ y0
      rw [← Nat.pow_add] at a1 a2
      rw [show ly - 1 + (K + 1) = lx + N by omega] at a2
      omega

theorem pow2_mono {a b : Nat} (h : a ≤ b) (y : Nat) : y * 2 ^ a ≤ y * 2 ^ b := Nat.mul_le_mul_left _ (Nat.pow_le_pow_right (by omega) h)
theorem expN_eq {x y e M : Nat} (hx : 0 < x) (hy : 0 < y) (hM : M < 9007199254740992) (hM0 : 4503599627370496 ≤ M ∨ e = 0) (h1 : M * 2 ^ e * y ≤ x * 2 ^ 1074) (h2 : x * 2 ^ 1074 < (M + 1) * 2 ^ e * y) : expN x y = (e : Int) - 1074 := by
  have u : x * 2 ^ 1074 < y * 2 ^ (e + 53) := by
    refine Nat.lt_of_lt_of_le h2 ?_
    rw [Nat.pow_add, Nat.mul_assoc, Nat.mul_comm y (2 ^ e * 2 ^ 53), Nat.mul_comm (2 ^ e) (2 ^ 53), Nat.mul_assoc]
    exact Nat.mul_le_mul_right _ (by omega)
  unfold expN
  have hmax : ∀ a b c : Int, (a = c ∧ b ≤ c) ∨ (a ≤ c ∧ b = c) → max a b = c := by intro a b c; omega
  refine hmax _ _ _ ?_
  by_cases ht : -1074 ≤ topB x y
  · have hs := topB_spec hx hy (topB x y + 1074).toNat 1074 (by omega)
    obtain ⟨T, hT⟩ : ∃ T, (topB x y + 1074).toNat = T := ⟨_, rfl⟩
    rw [hT] at hs
    have b1 : T ≤ e + 52 := by
      apply Nat.le_of_not_lt
      intro hc
      have := pow2_mono (show e + 53 ≤ T by omega) y
      omega
    rcases hM0 with hM0 | he
    · have l : y * 2 ^ (e + 52) ≤ x * 2 ^ 1074 := by
        refine Nat.le_trans ?_ h1
        rw [Nat.pow_add, Nat.mul_assoc, Nat.mul_comm y (2 ^ e * 2 ^ 52), Nat.mul_comm (2 ^ e) (2 ^ 52), Nat.mul_assoc]
        exact Nat.mul_le_mul_right _ (by omega)
      have b2 : e + 52 ≤ T := by
        apply Nat.le_of_not_lt
        intro hc
        have := pow2_mono (show T + 1 ≤ e + 52 by omega) y
        omega
      omega
    · omega
  · rcases hM0 with hM0 | he
    · exfalso
      have hs := topB_spec hx hy 0 (-topB x y).toNat (by omega)
      have e1 : (-topB x y).toNat = 1074 + ((-topB x y).toNat - 1074) := by omega
      have e2 : ∀ N d : Nat, x * 2 ^ (N + d) = x * 2 ^ N * 2 ^ d := fun N d => by rw [Nat.pow_add, ← Nat.mul_assoc]
      rw [e1, e2] at hs
      have p : 1 ≤ 2 ^ ((-topB x y).toNat - 1074) := Nat.pow_pos (by omega)
      have l : x * 2 ^ 1074 * 1 ≤ x * 2 ^ 1074 * 2 ^ ((-topB x y).toNat - 1074) := Nat.mul_le_mul_left _ p
      have q : 1 ≤ 2 ^ e := Nat.pow_pos (by omega)
      have l2 : 2 * 1 * y ≤ M * 2 ^ e * y := Nat.mul_le_mul_right _ (Nat.mul_le_mul (by omega) q)
      omega
    · omega

theorem wholeN_eq {a b M : Nat} (h1 : M * b ≤ a) (h2 : a < (M + 1) * b) : wholeN a b = if 2 * a < (2 * M + 1) * b then M else if 2 * a = (2 * M + 1) * b then M + M % 2 else M + 1 := by
  have d : a / b = M := by
    apply Nat.div_eq_of_lt_le
    · exact h1
    · exact h2
  have r : a % b = a - M * b := by
    have := Nat.div_add_mod a b
    rw [d, Nat.mul_comm] at this
    omega
  have e : (2 * M + 1) * b = 2 * (M * b) + b := by rw [Nat.add_mul, Nat.mul_assoc, Nat.one_mul]
  unfold wholeN
  rw [d, r, e]
  split <;> split <;> (try split) <;> (try split) <;> omega

/-- Of a number from one value of bits up to the next one the nearer one's bits are told, of two as near the even one's. -/
theorem near_spec {x y b : Nat} (hy : 0 < y) (hb : b < 9218868437227405312) (h1 : bV b * y ≤ x * 2 ^ 1074) (h2 : x * 2 ^ 1074 < bV (b + 1) * y) :
    nearN x y = if 2 * (x * 2 ^ 1074) < (bV b + bV (b + 1)) * y then b else if 2 * (x * 2 ^ 1074) = (bV b + bV (b + 1)) * y then b + b % 2 else b + 1 := by
  by_cases hx : x = 0
  · subst hx
    generalize 2 ^ 1074 = P at h1 h2 ⊢
    rw [Nat.zero_mul] at h1 h2 ⊢
    have b0 : b = 0 := by
      apply Nat.eq_zero_of_not_pos
      intro hc
      have := bV_lt hc
      rw [bV_zero] at this
      have := Nat.mul_pos this hy
      omega
    subst b0
    have p : 0 < (bV 0 + bV (0 + 1)) * y := Nat.mul_pos (by have := bV_step 0; omega) hy
    rw [if_pos (by omega)]
    unfold nearN
    rw [if_pos rfl]
  · obtain ⟨e, M, rfl, hM, hM0, v0, v1⟩ := bV_form b
    rw [v0] at h1
    rw [v1] at h2
    have he := expN_eq (by omega) hy hM hM0 h1 h2
    obtain ⟨c, c0, hs⟩ := scale ((e : Int) - 1074) e 1074 rfl
    have hs := hs x y
    unfold nearN
    rw [if_neg hx, he, if_neg (by omega), show ((e : Int) - 1074 + 1074).toNat = e by omega]
    obtain ⟨A, hA⟩ : ∃ A, x * 2 ^ (-((e : Int) - 1074)).toNat = A := ⟨_, rfl⟩
    obtain ⟨D, hD⟩ : ∃ D, y * 2 ^ ((e : Int) - 1074).toNat = D := ⟨_, rfl⟩
    rw [hA, hD] at hs
    rw [hA, hD, v0, v1]
    have m0 : ∀ k, k * 2 ^ e * y = k * D * c := by
      intro k
      rw [Nat.mul_assoc, Nat.mul_comm (2 ^ e) y, hs.2, Nat.mul_assoc]
    rw [m0, hs.1] at h1 h2
    have q1 : M * D ≤ A := Nat.le_of_mul_le_mul_right h1 c0
    have q2 : A < (M + 1) * D := Nat.lt_of_mul_lt_mul_right h2
    rw [wholeN_eq q1 q2, ← Nat.add_mul, m0, hs.1, show M + (M + 1) = 2 * M + 1 by omega, ← Nat.mul_assoc]
    have k1 : (2 * A * c < (2 * M + 1) * D * c) ↔ 2 * A < (2 * M + 1) * D := ⟨fun h => Nat.lt_of_mul_lt_mul_right h, fun h => Nat.mul_lt_mul_of_pos_right h c0⟩
    have k2 : (2 * A * c = (2 * M + 1) * D * c) ↔ 2 * A = (2 * M + 1) * D := ⟨fun h => Nat.eq_of_mul_eq_mul_right c0 h, fun h => by rw [h]⟩
    simp only [k1, k2]
    split
    · rfl
    · split
      · omega
      · omega

theorem near_exact {x y b : Nat} (hy : 0 < y) (hb : b < 9218868437227405312) (h : x * 2 ^ 1074 = bV b * y) : nearN x y = b := by
  have l := Nat.mul_lt_mul_of_pos_right (bV_step b) hy
  rw [near_spec hy hb (by omega) (by omega), if_pos]
  rw [Nat.add_mul]
  omega

theorem near_all {x y m : Nat} (hm : x * 2 ^ 1074 < bV m * y) : ∃ b, b < m ∧ bV b * y ≤ x * 2 ^ 1074 ∧ x * 2 ^ 1074 < bV (b + 1) * y := by
  induction m with
  | zero => rw [bV_zero, Nat.zero_mul] at hm; omega
  | succ m ih =>
    by_cases c : x * 2 ^ 1074 < bV m * y
    · obtain ⟨b, h⟩ := ih c
      exact ⟨b, by omega, h.2⟩
    · exact ⟨m, by omega, by omega, hm⟩

/-- No neighbour is nearer; one as near only to even bits. -/
theorem near_sides {x y m : Nat} (hy : 0 < y) (hmm : m < 9218868437227405312) (hm : x * 2 ^ 1074 < bV m * y) :
    nearN x y ≤ m ∧ (2 * (x * 2 ^ 1074) ≤ (bV (nearN x y) + bV (nearN x y + 1)) * y ∧ (2 * (x * 2 ^ 1074) = (bV (nearN x y) + bV (nearN x y + 1)) * y → nearN x y % 2 = 0)) ∧
      (∀ c, nearN x y = c + 1 → (bV c + bV (c + 1)) * y ≤ 2 * (x * 2 ^ 1074) ∧ (2 * (x * 2 ^ 1074) = (bV c + bV (c + 1)) * y → nearN x y % 2 = 0)) := by
  obtain ⟨b, hb, h1, h2⟩ := near_all hm
  have hn := near_spec hy (by omega) h1 h2
  have up : bV (b + 1) * y < bV (b + 1 + 1) * y := Nat.mul_lt_mul_of_pos_right (bV_step _) hy
  have e2 := Nat.add_mul (bV b) (bV (b + 1)) y
  have e3 := Nat.add_mul (bV (b + 1)) (bV (b + 1 + 1)) y
  have low : ∀ c, b = c + 1 → bV c * y < bV b * y := by
    intro c hc; subst hc; exact Nat.mul_lt_mul_of_pos_right (bV_step _) hy
  have isB : nearN x y = b → 2 * (x * 2 ^ 1074) ≤ (bV b + bV (b + 1)) * y → (2 * (x * 2 ^ 1074) = (bV b + bV (b + 1)) * y → b % 2 = 0) →
      nearN x y ≤ m ∧ (2 * (x * 2 ^ 1074) ≤ (bV (nearN x y) + bV (nearN x y + 1)) * y ∧ (2 * (x * 2 ^ 1074) = (bV (nearN x y) + bV (nearN x y + 1)) * y → nearN x y % 2 = 0)) ∧
      (∀ c, nearN x y = c + 1 → (bV c + bV (c + 1)) * y ≤ 2 * (x * 2 ^ 1074) ∧ (2 * (x * 2 ^ 1074) = (bV c + bV (c + 1)) * y → nearN x y % 2 = 0)) := by
    intro e a1 a2
    rw [e]
    refine ⟨by omega, ⟨a1, a2⟩, fun c hc => ?_⟩
    have := low c hc
    have e4 := Nat.add_mul (bV c) (bV (c + 1)) y
    rw [← hc] at e4 ⊢
    exact ⟨by omega, fun h => by omega⟩
  have isS : nearN x y = b + 1 → (bV b + bV (b + 1)) * y ≤ 2 * (x * 2 ^ 1074) → (2 * (x * 2 ^ 1074) = (bV b + bV (b + 1)) * y → (b + 1) % 2 = 0) →
      nearN x y ≤ m ∧ (2 * (x * 2 ^ 1074) ≤ (bV (nearN x y) + bV (nearN x y + 1)) * y ∧ (2 * (x * 2 ^ 1074) = (bV (nearN x y) + bV (nearN x y + 1)) * y → nearN x y % 2 = 0)) ∧
      (∀ c, nearN x y = c + 1 → (bV c + bV (c + 1)) * y ≤ 2 * (x * 2 ^ 1074) ∧ (2 * (x * 2 ^ 1074) = (bV c + bV (c + 1)) * y → nearN x y % 2 = 0)) := by
    intro e a1 a2
    rw [e]
    refine ⟨by omega, ⟨by omega, fun h => by omega⟩, fun c hc => ?_⟩
    obtain rfl : c = b := by omega
    exact ⟨a1, a2⟩
  split at hn
  · exact isB hn (by omega) (fun h => by omega)
  · split at hn
    · by_cases p : b % 2 = 0
      · exact isB (by omega) (by omega) (fun _ => p)
      · exact isS (by omega) (by omega) (fun _ => by omega)
    · exact isS hn (by omega) (fun h => by omega)
end Go.Proofs.YtammjgieocgelaaGreatDoor

/- The bits nearest to a quotient: topBit, wholeNear, Nearest. -/
namespace Go.Proofs.YtammjgieocgelaaGreatDoor
set_option linter.unusedVariables false
set_option linter.unusedSimpArgs false
open Go.RowKit

theorem addc_any (va vb : Value) (x y P : Nat) (w : World) (ha : IsNat w va x) (hb : IsNat w vb y) (hx : nlen 4294967296 x ≤ 100000000000) (hy : nlen 4294967296 y ≤ 100000000000) (e : x + y = P) :
    Calls Tryz.prog 85 #[va, vb] w fun e w' => ∃ a c, e = .returned (.agg #[.slice a (nlen 4294967296 P) c]) ∧ IsNat w' (.agg #[.slice a (nlen 4294967296 P) c]) P ∧ Fr w w' := by
  subst e
  refine (add_any va vb x y w ha hb (by omega) (by omega)).mono ?_
  rintro e w' ⟨a, c, rfl, h1, h2, h3⟩
  exact ⟨a, c, rfl, h1, h3⟩
theorem nl_dbl {r N : Nat} (h : nlen 4294967296 r ≤ N) : nlen 4294967296 (r + r) ≤ N + 1 := nlen_le b32 (sum_lt b32 (lt_of_nlen b32 h) (lt_of_nlen b32 h))
theorem i64_small {n : Int} (h0 : -9223372036854775808 ≤ n) (h1 : n ≤ 9223372036854775807) : IntKind.i64.wrap n = n := by
  simp [IntKind.wrap, IntKind.bits, IntKind.signed]
  omega
theorem nl2 {x n : Nat} (h : nlen 4294967296 x ≤ n) : nlen 2 x ≤ 32 * n := by
  refine nlen_le (by omega) ?_
  rw [Nat.pow_mul]
  exact lt_of_nlen b32 h

set_option maxHeartbeats 2000000 in
set_option maxRecDepth 4000 in
theorem topBit_any (va vb : Value) (x y : Nat) (w : World) (ha : IsNat w va x) (hb : IsNat w vb y) (hx : nlen 4294967296 x ≤ 1000000) (hy : nlen 4294967296 y ≤ 1000000) :
    Calls Tryz.prog 54 #[va, vb] w fun e w' => e = .returned (.int .i64 (topB x y)) ∧ Fr w w' := by
  have HA := hide ha
  have HB := hide hb
  have lp := nl2 hx
  have lq := nl2 hy
  unfold topB
  obtain ⟨p, hp⟩ : ∃ p, nlen 2 x = p := ⟨_, rfl⟩
  obtain ⟨q, hq⟩ : ∃ q, nlen 2 y = q := ⟨_, rfl⟩
  obtain ⟨k, hk⟩ : ∃ k : Int, (p : Int) - q = k := ⟨_, rfl⟩
  rw [hp] at lp
  rw [hq] at lq
  rw [hp, hq, hk]
  obtain ⟨P1, h1⟩ : ∃ P, x * 2 ^ (-k).toNat = P := ⟨_, rfl⟩
  obtain ⟨P2, h2⟩ : ∃ P, y * 2 ^ k.toNat = P := ⟨_, rfl⟩
  rw [h1, h2]
  obtain ⟨R, hR⟩ : ∃ R, (if P1 < P2 then k - 1 else k) = R := ⟨_, rfl⟩
  rw [hR]
  have HR := hide hR
  clear hR
  have k0 : -32000000 ≤ k := by omega
  have k1 : k ≤ 32000000 := by omega
  have n1 : nlen 4294967296 P1 ≤ 10000000 := by
    have := nl_up (k := (-k).toNat) hx
    rw [h1] at this
    omega
  have n2 : nlen 4294967296 P2 ≤ 10000000 := by
    have := nl_up (k := k.toNat) hy
    rw [h2] at this
    omega
  have H1 := hide h1
  have H2 := hide h2
  have HP := hide hp
  have HQ := hide hq
  have hkw : IntKind.i64.wrap ((p : Int) - q) = k := by rw [hk]; exact i64_small (by omega) (by omega)
  have hkn : IntKind.i64.wrap (-k) = -k := i64_small (by omega) (by omega)
  obtain ⟨a, ca, rfl, a2, a3, a4⟩ := ha
  obtain ⟨b, cb, rfl, b2, b3, b4⟩ := hb
  clear a4 b4 h1 h2 hp hq hk
  go_enter Tryz.func54, Tryz.ntmps54
  go_wp2_with fail
  obtain ⟨W, hW⟩ : ∃ W, W = (w.alloc (Obj.cells #[Value.slice a (nlen 4294967296 x) ca] 53)).alloc (Obj.cells #[Value.slice b (nlen 4294967296 y) cb] 53) := ⟨_, rfl⟩
  have fW : Fr w W := by rw [hW]; exact (Fr.alloc _ _).trans (Fr.alloc _ _)
  have c2 : W.cell? ⟨w.heap.size, 0, none⟩ = some (.slice a (nlen 4294967296 x) ca) := by rw [hW]; simp [go_sem]
  have c3 : W.cell? ⟨w.heap.size + 1, 0, none⟩ = some (.slice b (nlen 4294967296 y) cb) := by rw [hW]; simp [go_sem]
  rw [← hW]
  clear hW
  have HA := hide (IsNat.fr HA.out fW)
  have HB := hide (IsNat.fr HB.out fW)
  have FW := hide fW
  clear fW
  have d2 : ∀ p : FrBox W, p.now.cell? ⟨w.heap.size, 0, none⟩ = some (.slice a (nlen 4294967296 x) ca) := fun p => fr_cell p.fr c2
  have d3 : ∀ p : FrBox W, p.now.cell? ⟨w.heap.size + 1, 0, none⟩ = some (.slice b (nlen 4294967296 y) cb) := fun p => fr_cell p.fr c3
  have j1 : Hid (∀ u : FrBox W, Calls Tryz.prog 53 #[.agg #[.slice a (nlen 4294967296 x) ca]] u.now fun e w'' => e = .returned (.int .i64 (p : Int)) ∧ ∃ p : FrBox W, w'' = p.now) := fun u => Calls.fr_of (by rw [← HP.out]; exact bits_any _ x _ (IsNat.fr HA.out u.fr) (by omega))
  have j2 : Hid (∀ u : FrBox W, Calls Tryz.prog 53 #[.agg #[.slice b (nlen 4294967296 y) cb]] u.now fun e w'' => e = .returned (.int .i64 (q : Int)) ∧ ∃ p : FrBox W, w'' = p.now) := fun u => Calls.fr_of (by rw [← HQ.out]; exact bits_any _ y _ (IsNat.fr HB.out u.fr) (by omega))
  have nb := FrBox.some W
  refine wp_region_fr (by kernel_rfl) (by kernel_rfl) ?_
  repeat (quiet_step (first | with_reducible exact j1.out _ | with_reducible exact j2.out _))
  refine wpQuiet_nil ?_
  intro wq hq
  obtain ⟨u, hu⟩ := hq
  have fq := u.fr
  rw [← hu] at fq
  have HA := hide (IsNat.fr HA.out fq)
  have HB := hide (IsNat.fr HB.out fq)
  have FW := hide (FW.out.trans fq)
  have c2 := fr_cell fq c2
  have c3 := fr_cell fq c3
  clear hu d2 d3 nb u j1 j2 fq
  go_wp2_with fail
  refine wp_region_held_drew (S := (fun w' => w'.cell? ⟨w.heap.size, 0, none⟩ = some (.slice a (nlen 4294967296 x) ca) ∧ w'.cell? ⟨w.heap.size + 1, 0, none⟩ = some (.slice b (nlen 4294967296 y) cb) ∧ Hid (Fr wq w'))) (by kernel_rfl) ?_ (fun hHeld => ?_)
  · exact ⟨c2, c3, Fr.drew _⟩
  refine wpAnyH_take (i := 0) (v := ?_) rfl (by kernel_rfl) (by kernel_rfl) (by kernel_rfl) (fun _ _ _ h => h) (Or.inl ⟨by rfl, ?_⟩) (by assumption) ?_
  rotate_left
  · (intro w hSw; (try dsimp only at hSw); go_simp; try with_reducible rfl)
  (try simp only [Act.put, List.getElem_toArray, List.getElem_cons_zero, List.getElem_cons_succ, List.setIfInBounds_toArray, List.set_cons_zero, List.set_cons_succ])
  refine wpAnyH_take (i := 1) (v := ?_) rfl (by kernel_rfl) (by kernel_rfl) (by kernel_rfl) (fun _ _ _ h => h) (Or.inl ⟨by rfl, ?_⟩) (by assumption) ?_
  rotate_left
  · (intro w hSw; (try dsimp only at hSw); go_simp; try with_reducible rfl)
  (try simp only [Act.put, List.getElem_toArray, List.getElem_cons_zero, List.getElem_cons_succ, List.setIfInBounds_toArray, List.set_cons_zero, List.set_cons_succ])
  refine wpAnyH_take (i := 2) (v := ?_) rfl (by kernel_rfl) (by kernel_rfl) (by kernel_rfl) (fun _ _ _ h => h) (Or.inl ⟨by rfl, ?_⟩) (by assumption) ?_
  rotate_left
  · (intro w hSw; (try dsimp only at hSw); go_simp; try with_reducible rfl)
  (try simp only [Act.put, List.getElem_toArray, List.getElem_cons_zero, List.getElem_cons_succ, List.setIfInBounds_toArray, List.set_cons_zero, List.set_cons_succ])
  refine wpAnyH_take (i := 4) (v := ?_) rfl (by kernel_rfl) (by kernel_rfl) (by kernel_rfl) (fun _ _ _ h => h) (Or.inl ⟨by rfl, ?_⟩) (by assumption) ?_
  rotate_left
  · (intro w hSw; (try dsimp only at hSw); go_simp; try with_reducible rfl)
  (try simp only [Act.put, List.getElem_toArray, List.getElem_cons_zero, List.getElem_cons_succ, List.setIfInBounds_toArray, List.set_cons_zero, List.set_cons_succ])
  refine wpAnyH_take (i := 5) (v := ?_) rfl (by kernel_rfl) (by kernel_rfl) (by kernel_rfl) (fun _ _ _ h => h) (Or.inl ⟨by rfl, ?_⟩) (by assumption) ?_
  rotate_left
  · (intro w hSw; (try dsimp only at hSw); go_simp; try with_reducible rfl)
  (try simp only [Act.put, List.getElem_toArray, List.getElem_cons_zero, List.getElem_cons_succ, List.setIfInBounds_toArray, List.set_cons_zero, List.set_cons_succ])
  refine wpAnyH_ready (rs := [3]) (by kernel_rfl) (by simp) ?_
  refine AllReadyH.cons rfl (fun K hK => ?_) AllReadyH.nil
  go_simp
  have hh := hHeld
  refine (upc_any _ x _ P1 _ (IsNat.fr HA.out hh.2.2.out) (by omega) (by omega) (by omega) H1.out).mono ?_
  rintro e wn ⟨a1, c1, rfl, i1, fy⟩
  have fz := hide (hh.2.2.out.trans fy)
  have I1 := hide i1; clear i1 fy
  clear hh
  (try go_wp2_with fail)
  refine hK.out _ _ ?_ (fun hHeld => ?_)
  · (try dsimp only)
    exact ⟨fr_cell fz.out c2, fr_cell fz.out c3, fz⟩
  clear hK K
  (try simp only [Act.put, List.getElem_toArray, List.getElem_cons_zero, List.getElem_cons_succ, List.setIfInBounds_toArray, List.set_cons_zero, List.set_cons_succ])
  refine wpAnyH_ready (rs := [6]) (by kernel_rfl) (by simp) ?_
  refine AllReadyH.cons rfl (fun K hK => ?_) AllReadyH.nil
  go_simp
  have hh := hHeld
  refine (upc_any _ y _ P2 _ (IsNat.fr HB.out hh.2.2.out) (by omega) (by omega) (by omega) H2.out).mono ?_
  rintro e wn ⟨a5, c5, rfl, i2, fy⟩
  have fz := hide (hh.2.2.out.trans fy)
  have I2 := hide i2; have I1 := hide (I1.out.fr fy); clear i2 fy
  clear hh
  (try go_wp2_with fail)
  refine hK.out _ _ ?_ (fun hHeld => ?_)
  · (try dsimp only)
    exact ⟨fr_cell fz.out c2, fr_cell fz.out c3, fz⟩
  clear hK K
  (try simp only [Act.put, List.getElem_toArray, List.getElem_cons_zero, List.getElem_cons_succ, List.setIfInBounds_toArray, List.set_cons_zero, List.set_cons_succ])
  refine wpAnyH_ready (rs := [7]) (by kernel_rfl) (by simp) ?_
  refine AllReadyH.cons rfl (fun K hK => ?_) AllReadyH.nil
  go_simp
  have hh := hHeld
  refine (cmp_any _ _ P1 P2 _ I1.out I2.out (by omega) (by omega)).mono ?_
  rintro e wn ⟨rfl, fy⟩
  have fz := hide (hh.2.2.out.trans fy)
  clear fy I1 I2
  clear hh
  (try go_wp2_with fail)
  refine hK.out _ _ ?_ (fun hHeld => ?_)
  · (try dsimp only)
    exact ⟨fr_cell fz.out c2, fr_cell fz.out c3, fz⟩
  clear hK K
  (try simp only [Act.put, List.getElem_toArray, List.getElem_cons_zero, List.getElem_cons_succ, List.setIfInBounds_toArray, List.set_cons_zero, List.set_cons_succ])
  refine wpAnyH_take (i := 8) (v := ?_) rfl (by kernel_rfl) (by kernel_rfl) (by kernel_rfl) (fun _ _ _ h => h) (Or.inl ⟨by rfl, ?_⟩) (by assumption) ?_
  rotate_left
  · (intro w hSw; (try dsimp only at hSw); go_simp; try with_reducible rfl)
  (try simp only [Act.put, List.getElem_toArray, List.getElem_cons_zero, List.getElem_cons_succ, List.setIfInBounds_toArray, List.set_cons_zero, List.set_cons_succ])
  refine wpAnyH_done (by kernel_rfl) ?_ _
  have FF := hide (FW.out.trans fz.out)
  by_cases c : P1 < P2
  · have g : decide (cmpZ P1 P2 < 0) = true := by unfold cmpZ; rw [if_pos c]; rfl
    rw [g]
    have E : Hid (k - 1 = R) := by have := HR.out; rwa [if_pos c] at this
    generalize cmpZ P1 P2 = Z at *
    clear g c
    go_wp2_with fail
    go_ret
    exact ⟨by rw [← E.out]; rfl, FF.out⟩
  · have g : decide (cmpZ P1 P2 < 0) = false := by unfold cmpZ; rw [if_neg c]; split <;> rfl
    rw [g]
    have E : Hid (k = R) := by have := HR.out; rwa [if_neg c] at this
    generalize cmpZ P1 P2 = Z at *
    clear g c
    go_wp2_with fail
    go_ret
    exact ⟨by rw [← E.out]; rfl, FF.out⟩

set_option maxHeartbeats 2000000 in
set_option maxRecDepth 4000 in
theorem wholeNear_any (va vb : Value) (x y : Nat) (w : World) (ha : IsNat w va x) (hb : IsNat w vb y) (hx : nlen 4294967296 x ≤ 10000000) (hy : nlen 4294967296 y ≤ 10000000) (hy0 : y ≠ 0) (hq : x / y < 9223372036854775808) :
    Calls Tryz.prog 55 #[va, vb] w fun e w' => e = .returned (.int .u64 (wholeN x y : Int)) ∧ Fr w w' := by
  have HA := hide ha
  have HB := hide hb
  unfold wholeN
  obtain ⟨q, hq1⟩ : ∃ q, x / y = q := ⟨_, rfl⟩
  obtain ⟨r, hr1⟩ : ∃ r, x % y = r := ⟨_, rfl⟩
  have lr : r < y := by rw [← hr1]; exact Nat.mod_lt _ (by omega)
  have nr : nlen 4294967296 r ≤ 10000000 := Nat.le_trans (nlen_mono b32 (Nat.le_of_lt lr)) hy
  rw [hq1] at hq
  rw [hq1, hr1]
  obtain ⟨n, hn⟩ : ∃ n, (if 2 * r < y then q else if 2 * r = y then q + q % 2 else q + 1) = n := ⟨_, rfl⟩
  rw [hn]
  have HN := hide hn
  have HQ := hide hq1
  have HR := hide hr1
  have n2 : nlen 4294967296 (r + r) ≤ 10000001 := nl_dbl nr
  obtain ⟨R, hR⟩ : ∃ R, r + r = R := ⟨_, rfl⟩
  rw [hR] at n2
  have HRR := hide hR
  obtain ⟨b, cb, rfl, b2, b3, b4⟩ := hb
  obtain ⟨a, ca, rfl, a2, a3, a4⟩ := ha
  have LR := hide lr
  clear a4 b4 hq1 hr1 hR hn lr
  go_enter Tryz.func55, Tryz.ntmps55
  go_wp2_with fail
  obtain ⟨W, hW⟩ : ∃ W, W = (w.alloc (Obj.cells #[Value.slice a (nlen 4294967296 x) ca] 53)).alloc (Obj.cells #[Value.slice b (nlen 4294967296 y) cb] 53) := ⟨_, rfl⟩
  have fW : Fr w W := by rw [hW]; exact (Fr.alloc _ _).trans (Fr.alloc _ _)
  have c3 : W.cell? ⟨w.heap.size + 1, 0, none⟩ = some (.slice b (nlen 4294967296 y) cb) := by rw [hW]; simp [go_sem]
  rw [← hW]
  clear hW
  refine (div_yes _ _ x y _ (IsNat.fr HA.out fW) (IsNat.fr HB.out fW) (by omega) (by omega) hy0).mono ?_
  rintro e w1 ⟨aq, cq, ar, cr, rfl, ⟨hq', _, f1⟩, ⟨hr', _, _⟩⟩
  rw [HQ.out] at hq' ⊢
  rw [HR.out] at hr' ⊢
  have F := fW.trans f1
  have c3 := fr_cell f1 c3
  clear fW f1 HA HQ HR
  go_wp2_with fail
  obtain ⟨W, hW⟩ : ∃ W, W = (w1.alloc (Obj.cells #[Value.slice aq (nlen 4294967296 q) cq] 53)).alloc (Obj.cells #[Value.slice ar (nlen 4294967296 r) cr] 53) := ⟨_, rfl⟩
  have fW : Fr w1 W := by rw [hW]; exact (Fr.alloc _ _).trans (Fr.alloc _ _)
  have c2 : W.cell? ⟨w1.heap.size + 1, 0, none⟩ = some (.slice ar (nlen 4294967296 r) cr) := by rw [hW]; simp [go_sem]
  rw [← hW]
  clear hW
  have F := F.trans fW
  have c3 := fr_cell fW c3
  have hr' := hr'.fr fW
  refine (small_any _ q _ (hq'.fr fW)).mono ?_
  rintro e w2 ⟨rfl, f2⟩
  rw [if_pos (by omega), decide_eq_true (by omega)]
  have FW := hide (F.trans f2)
  have HB := hide (IsNat.fr HB.out FW.out)
  have HR := hide (hr'.fr f2)
  have c3 := fr_cell f2 c3
  have c2 := fr_cell f2 c2
  clear hq' hr' F fW f2
  go_wp2_with fail
  refine wp_region_held_drew (S := (fun w' => w'.cell? ⟨w1.heap.size + 1, 0, none⟩ = some (.slice ar (nlen 4294967296 r) cr) ∧ w'.cell? ⟨w.heap.size + 1, 0, none⟩ = some (.slice b (nlen 4294967296 y) cb) ∧ Hid (Fr w2 w'))) (by kernel_rfl) ?_ (fun hHeld => ?_)
  · exact ⟨c2, c3, Fr.drew _⟩
  refine wpAnyH_take (i := 0) (v := ?_) rfl (by kernel_rfl) (by kernel_rfl) (by kernel_rfl) (fun _ _ _ h => h) (Or.inl ⟨by rfl, ?_⟩) (by assumption) ?_
  rotate_left
  · (intro w hSw; (try dsimp only at hSw); go_simp; try with_reducible rfl)
  (try simp only [Act.put, List.getElem_toArray, List.getElem_cons_zero, List.getElem_cons_succ, List.setIfInBounds_toArray, List.set_cons_zero, List.set_cons_succ])
  refine wpAnyH_take (i := 1) (v := ?_) rfl (by kernel_rfl) (by kernel_rfl) (by kernel_rfl) (fun _ _ _ h => h) (Or.inl ⟨by rfl, ?_⟩) (by assumption) ?_
  rotate_left
  · (intro w hSw; (try dsimp only at hSw); go_simp; try with_reducible rfl)
  (try simp only [Act.put, List.getElem_toArray, List.getElem_cons_zero, List.getElem_cons_succ, List.setIfInBounds_toArray, List.set_cons_zero, List.set_cons_succ])
  refine wpAnyH_take (i := 3) (v := ?_) rfl (by kernel_rfl) (by kernel_rfl) (by kernel_rfl) (fun _ _ _ h => h) (Or.inl ⟨by rfl, ?_⟩) (by assumption) ?_
  rotate_left
  · (intro w hSw; (try dsimp only at hSw); go_simp; try with_reducible rfl)
  (try simp only [Act.put, List.getElem_toArray, List.getElem_cons_zero, List.getElem_cons_succ, List.setIfInBounds_toArray, List.set_cons_zero, List.set_cons_succ])
  refine wpAnyH_ready (rs := [2]) (by kernel_rfl) (by simp) ?_
  refine AllReadyH.cons rfl (fun K hK => ?_) AllReadyH.nil
  go_simp
  have hh := hHeld
  refine (addc_any _ _ r r R _ (IsNat.fr HR.out hh.2.2.out) (IsNat.fr HR.out hh.2.2.out) (by omega) (by omega) HRR.out).mono ?_
  rintro e wn ⟨a1, c1, rfl, i1, fy⟩
  have fz := hide (hh.2.2.out.trans fy)
  have I1 := hide i1; clear i1 fy
  clear hh
  (try go_wp2_with fail)
  refine hK.out _ _ ?_ (fun hHeld => ?_)
  · (try dsimp only)
    exact ⟨fr_cell fz.out c2, fr_cell fz.out c3, fz⟩
  clear hK K
  (try simp only [Act.put, List.getElem_toArray, List.getElem_cons_zero, List.getElem_cons_succ, List.setIfInBounds_toArray, List.set_cons_zero, List.set_cons_succ])
  refine wpAnyH_ready (rs := [4]) (by kernel_rfl) (by simp) ?_
  refine AllReadyH.cons rfl (fun K hK => ?_) AllReadyH.nil
  go_simp
  have hh := hHeld
  refine (cmp_any _ _ R y _ I1.out (IsNat.fr HB.out hh.2.2.out) (by omega) (by omega)).mono ?_
  rintro e wn ⟨rfl, fy⟩
  have fz := hide (hh.2.2.out.trans fy)
  clear fy I1
  clear hh
  (try go_wp2_with fail)
  refine hK.out _ _ ?_ (fun hHeld => ?_)
  · (try dsimp only)
    exact ⟨fr_cell fz.out c2, fr_cell fz.out c3, fz⟩
  clear hK K
  (try simp only [Act.put, List.getElem_toArray, List.getElem_cons_zero, List.getElem_cons_succ, List.setIfInBounds_toArray, List.set_cons_zero, List.set_cons_succ])
  refine wpAnyH_done (by kernel_rfl) ?_ _
  have FF := hide (FW.out.trans fz.out)
  have hn := HN.out
  have hR := HRR.out
  clear HN HRR
  by_cases c1 : 2 * r < y
  · rw [if_pos c1] at hn
    rw [show cmpZ R y = -1 by unfold cmpZ; rw [if_pos (by omega)]]
    clear c1 hR
    have E := hide hn
    clear hn
    go_wp2_with fail
    go_ret
    exact ⟨by rw [← E.out]; rfl, FF.out⟩
  · rw [if_neg c1] at hn
    by_cases c2 : 2 * r = y
    · rw [if_pos c2] at hn
      rw [show cmpZ R y = 0 by unfold cmpZ; rw [if_neg (by omega), if_pos (by omega)]]
      have h1 : bits .and .u64 (q : Int) 1 = ((q % 2 : Nat) : Int) := by go_bits2
      obtain ⟨t, ht⟩ : ∃ t, q % 2 = t := ⟨_, rfl⟩
      have t1 : t ≤ 1 := by omega
      rw [ht] at hn h1
      have E := hide hn
      clear c1 c2 hR hn ht
      go_wp2_with fail
      go_ret
      exact ⟨by rw [← E.out]; rfl, FF.out⟩
    · rw [if_neg c2] at hn
      rw [show cmpZ R y = 1 by unfold cmpZ; rw [if_neg (by omega), if_neg (by omega)]]
      have E := hide hn
      clear c1 c2 hR hn
      go_wp2_with fail
      go_ret
      exact ⟨by rw [← E.out]; rfl, FF.out⟩
end Go.Proofs.YtammjgieocgelaaGreatDoor

/- Value of any value. -/
namespace Go.Proofs.YtammjgieocgelaaGreatDoor
set_option linter.unusedVariables false
set_option linter.unusedSimpArgs false
open Go.RowKit

attribute [local go_sem] World.cell?_alloc_some
theorem ok_range {c : Int} {g : Bool} {m : Nat} {x : Int} (h : okN c g m x = true) : -1074 ≤ x ∧ x ≤ 971 := by
  have := of_decide_eq_true h
  have h4 := this.2.2.2
  rw [← h4]
  have lE : bE (triedN c g m x) < 2048 := Nat.mod_lt _ (by omega)
  unfold bX
  split
  · omega
  · split
    · split <;> omega
    · omega

set_option maxHeartbeats 2000000 in
set_option maxRecDepth 4000 in
theorem valueR_other (c : Int) (g : Bool) (m : Nat) (x : Int) (w : World) (hm : m < 18446744073709551616) (x0 : -9223372036854775808 ≤ x) (x1 : x ≤ 9223372036854775807) (h0 : c ≠ 0) (h1 : c ≠ 1) :
    Calls Tryz.prog 22 #[.agg #[.int .i64 c, .bool g, .int .u64 (m : Int), .int .i64 x]] w fun e w' => e = .returned (.tuple #[.agg #[.slice none 0 0, .slice none 0 0], .bool false]) ∧ Fr w w' := by
  have z0 : (c != 0) = true := by simpa using h0
  have z1 : (c != 1) = true := by simpa using h1
  go_enter Tryz.func22, Tryz.ntmps22
  go_wp2_with fail
  have s2 : Slot2 w ((w.alloc (Obj.cells #[.int .i64 c, .bool g, .int .u64 (m : Int), .int .i64 x] 60)).alloc (Obj.cells #[Value.slice none 0 0, Value.slice none 0 0] 55)) (w.heap.size + 1) (.slice none 0 0) (.slice none 0 0) := by
    simpa using Slot2.new (Fr.alloc w (Obj.cells #[.int .i64 c, .bool g, .int .u64 (m : Int), .int .i64 x] 60)) none 0 0 none 0 0 55
  exact bodyPost_ret (results_rat_ok rfl _ _ (w.heap.size + 1) _ _ rfl s2.1 s2.2.1) rfl ⟨rfl, (Fr.alloc _ _).trans (Fr.alloc _ _)⟩

set_option maxHeartbeats 2000000 in
set_option maxRecDepth 4000 in
theorem valueR_not (c : Int) (g : Bool) (m : Nat) (x : Int) (w : World) (hm : m < 18446744073709551616) (x0 : -9223372036854775808 ≤ x) (x1 : x ≤ 9223372036854775807) (h0 : c = 0 ∨ c = 1) (hk : okN c g m x = false) :
    Calls Tryz.prog 22 #[.agg #[.int .i64 c, .bool g, .int .u64 (m : Int), .int .i64 x]] w fun e w' => e = .returned (.tuple #[.agg #[.slice none 0 0, .slice none 0 0], .bool false]) ∧ Fr w w' := by
  have VB := hide (fun wz => vbits_any c g m x wz hm x0 x1)
  rw [hk] at VB
  clear hk
  have fin : Hid (∀ W w1, W = (w.alloc (Obj.cells #[.int .i64 c, .bool g, .int .u64 (m : Int), .int .i64 x] 60)).alloc (Obj.cells #[Value.slice none 0 0, Value.slice none 0 0] 55) → Fr W w1 → Slot2 w w1 (w.heap.size + 1) (.slice none 0 0) (.slice none 0 0) ∧ Fr w w1) := by
    rintro W w1 rfl f1
    exact ⟨Slot2.fr (by simpa using Slot2.new (Fr.alloc w (Obj.cells #[.int .i64 c, .bool g, .int .u64 (m : Int), .int .i64 x] 60)) none 0 0 none 0 0 55) f1, ((Fr.alloc _ _).trans (Fr.alloc _ _)).trans f1⟩
  rcases h0 with rfl | rfl
  · go_enter Tryz.func22, Tryz.ntmps22
    go_wp2_with fail
    refine (VB.out _).mono ?_
    rintro e w1 ⟨rfl, f1⟩
    obtain ⟨s2, FW⟩ := fin.out _ _ rfl f1
    have S2 := hide s2
    have FW := hide FW
    clear s2 f1 fin VB
    have q_ := S2.out.1
    have q2_ := S2.out.2.1
    have z_ := S2.out.2.2.1 0
    have z2_ := S2.out.2.2.1 1
    have FW := hide (S2.out.set_fr FW.out (.slice none 0 0) (.slice none 0 0))
    have S2 := hide (S2.out.set none 0 0 none 0 0)
    go_wp2_with fail
    exact bodyPost_ret (results_rat_ok rfl _ _ (w.heap.size + 1) _ _ rfl S2.out.1 S2.out.2.1) rfl ⟨rfl, FW.out⟩
  · go_enter Tryz.func22, Tryz.ntmps22
    go_wp2_with fail
    refine (VB.out _).mono ?_
    rintro e w1 ⟨rfl, f1⟩
    obtain ⟨s2, FW⟩ := fin.out _ _ rfl f1
    have S2 := hide s2
    have FW := hide FW
    clear s2 f1 fin VB
    have q_ := S2.out.1
    have q2_ := S2.out.2.1
    have z_ := S2.out.2.2.1 0
    have z2_ := S2.out.2.2.1 1
    have FW := hide (S2.out.set_fr FW.out (.slice none 0 0) (.slice none 0 0))
    have S2 := hide (S2.out.set none 0 0 none 0 0)
    go_wp2_with fail
    exact bodyPost_ret (results_rat_ok rfl _ _ (w.heap.size + 1) _ _ rfl S2.out.1 S2.out.2.1) rfl ⟨rfl, FW.out⟩

set_option maxHeartbeats 2000000 in
set_option maxRecDepth 4000 in
theorem valueR_yes (c : Int) (g : Bool) (m : Nat) (x : Int) (w : World) (hm : m < 18446744073709551616) (x0 : -9223372036854775808 ≤ x) (x1 : x ≤ 9223372036854775807) (hT : Tab w) (h0 : c = 0 ∨ c = 1) (hk : okN c g m x = true) :
    Calls Tryz.prog 22 #[.agg #[.int .i64 c, .bool g, .int .u64 (m : Int), .int .i64 x]] w fun e w' => ∃ v, e = .returned (.tuple #[v, .bool true]) ∧ IsRat w' v (m * 2 ^ x.toNat) (2 ^ (-x).toNat) ∧ Fr w w' := by
  have HT := hide hT
  have VB := hide (fun wz => vbits_any c g m x wz hm x0 x1)
  obtain ⟨y0, y1⟩ := ok_range hk
  rw [hk] at VB
  have hw : IntKind.i64.wrap (-x) = -x := by rw [IntKind.wrap_i64]; omega
  have nm : nlen 4294967296 m ≤ 2 := wsm hm
  obtain ⟨A, hA⟩ : ∃ A, m * 2 ^ x.toNat = A := ⟨_, rfl⟩
  obtain ⟨B, hB⟩ : ∃ B, 1 * 2 ^ (-x).toNat = B := ⟨_, rfl⟩
  have nA : nlen 4294967296 A ≤ 974 := by
    have h1 : nlen 4294967296 (2 ^ x.toNat) ≤ 972 := by
      have := nlen_pow (x := 2) (n := 1) (by have := wsm (x := 2) (by omega); exact Nat.le_trans (nlen_le b32 (k := 1) (by decide)) (by omega)) x.toNat; omega
    rw [← hA]
    exact nlen_mul b32 nm h1
  have nB : nlen 4294967296 B ≤ 1075 := by
    rw [← hB, Nat.one_mul]
    have := nlen_pow (x := 2) (n := 1) (nlen_le b32 (k := 1) (by decide)) (-x).toNat; omega
  have hB0 : B ≠ 0 := by rw [← hB, Nat.one_mul]; exact Nat.ne_of_gt (Nat.pow_pos (by omega))
  have hB2 := hB
  rw [Nat.one_mul] at hB2
  rw [hA, hB2]
  have HA := hide hA
  have HB := hide hB
  clear hT hk hA hB hB2
  have fin : Hid (∀ W w1, W = (w.alloc (Obj.cells #[.int .i64 c, .bool g, .int .u64 (m : Int), .int .i64 x] 60)).alloc (Obj.cells #[Value.slice none 0 0, Value.slice none 0 0] 55) → Fr W w1 → Slot2 w w1 (w.heap.size + 1) (.slice none 0 0) (.slice none 0 0) ∧ Fr w w1 ∧ w1.cell? ⟨w.heap.size, 2, none⟩ = some (.int .u64 (m : Int)) ∧ w1.cell? ⟨w.heap.size, 3, none⟩ = some (.int .i64 x)) := by
    rintro W w1 rfl f1
    exact ⟨Slot2.fr (by simpa using Slot2.new (Fr.alloc w (Obj.cells #[.int .i64 c, .bool g, .int .u64 (m : Int), .int .i64 x] 60)) none 0 0 none 0 0 55) f1, ((Fr.alloc _ _).trans (Fr.alloc _ _)).trans f1, fr_cell f1 (by simp [go_sem]), fr_cell f1 (by simp [go_sem])⟩
  have RUN : Hid (∀ w1, Slot2 w w1 (w.heap.size + 1) (.slice none 0 0) (.slice none 0 0) → True) := fun _ _ => trivial
  rcases h0 with rfl | rfl
  · go_enter Tryz.func22, Tryz.ntmps22
    go_wp2_with fail
    refine (VB.out _).mono ?_
    rintro e w1 ⟨rfl, f1⟩
    obtain ⟨s2, FW, c2, c3⟩ := fin.out _ _ rfl f1
    have S2 := hide s2
    have FW := hide FW
    have HT := hide (Tab.fr HT.out FW.out)
    clear s2 f1 fin VB RUN
    have S2 := hide (S2.out.fr (Fr.drew _))
    have HT := hide (HT.out.fr (Fr.drew _))
    have FW := hide (FW.out.trans (Fr.drew _))
    have d2 := fr_cell (Fr.drew _) c2
    have d3 := fr_cell (Fr.drew _) c3
    go_wp2_with fail
    refine wp_region_held_drew (S := (fun w' => w'.cell? ⟨w.heap.size, 2, none⟩ = some (.int .u64 (m : Int)) ∧ w'.cell? ⟨w.heap.size, 3, none⟩ = some (.int .i64 x))) (by kernel_rfl) ?_ (fun hHeld => ?_)
    · exact ⟨d2, d3⟩
    obtain ⟨wd, hwd⟩ : ∃ wd, wd = w1.drew := ⟨_, rfl⟩
    rw [← hwd] at hHeld S2 FW HT d2 d3 ⊢
    clear hwd
    refine wpAnyH_take (i := 0) (v := ?_) rfl (by kernel_rfl) (by kernel_rfl) (by kernel_rfl) (fun _ _ _ h => h) (Or.inl ⟨by rfl, ?_⟩) (by assumption) ?_
    rotate_left
    · (intro w hSw; (try dsimp only at hSw); go_simp; try with_reducible rfl)
    (try simp only [Act.put, List.getElem_toArray, List.getElem_cons_zero, List.getElem_cons_succ, List.setIfInBounds_toArray, List.set_cons_zero, List.set_cons_succ])
    refine wpAnyH_take (i := 1) (v := ?_) rfl (by kernel_rfl) (by kernel_rfl) (by kernel_rfl) (fun _ _ _ h => h) (Or.inl ⟨by rfl, ?_⟩) (by assumption) ?_
    rotate_left
    · (intro w hSw; (try dsimp only at hSw); go_simp; try with_reducible rfl)
    (try simp only [Act.put, List.getElem_toArray, List.getElem_cons_zero, List.getElem_cons_succ, List.setIfInBounds_toArray, List.set_cons_zero, List.set_cons_succ])
    refine wpAnyH_take (i := 3) (v := ?_) rfl (by kernel_rfl) (by kernel_rfl) (by kernel_rfl) (fun _ _ _ h => h) (Or.inl ⟨by rfl, ?_⟩) (by assumption) ?_
    rotate_left
    · (intro w hSw; (try dsimp only at hSw); go_simp; try with_reducible rfl)
    (try simp only [Act.put, List.getElem_toArray, List.getElem_cons_zero, List.getElem_cons_succ, List.setIfInBounds_toArray, List.set_cons_zero, List.set_cons_succ])
    refine wpAnyH_take (i := 4) (v := ?_) rfl (by kernel_rfl) (by kernel_rfl) (by kernel_rfl) (fun _ _ _ h => h) (Or.inl ⟨by rfl, ?_⟩) (by assumption) ?_
    rotate_left
    · (intro w hSw; (try dsimp only at hSw); go_simp; try with_reducible rfl)
    (try simp only [Act.put, List.getElem_toArray, List.getElem_cons_zero, List.getElem_cons_succ, List.setIfInBounds_toArray, List.set_cons_zero, List.set_cons_succ])
    refine wpAnyH_take (i := 7) (v := ?_) rfl (by kernel_rfl) (by kernel_rfl) (by kernel_rfl) (fun _ _ _ h => h) (Or.inl ⟨by rfl, ?_⟩) (by assumption) ?_
    rotate_left
    · (intro w hSw; (try dsimp only at hSw); go_simp; try with_reducible rfl)
    (try simp only [Act.put, List.getElem_toArray, List.getElem_cons_zero, List.getElem_cons_succ, List.setIfInBounds_toArray, List.set_cons_zero, List.set_cons_succ])
    refine wpAnyH_take (i := 8) (v := ?_) rfl (by kernel_rfl) (by kernel_rfl) (by kernel_rfl) (fun _ _ _ h => h) (Or.inl ⟨by rfl, ?_⟩) (by assumption) ?_
    rotate_left
    · (intro w hSw; (try dsimp only at hSw); go_simp; try with_reducible rfl)
    (try simp only [Act.put, List.getElem_toArray, List.getElem_cons_zero, List.getElem_cons_succ, List.setIfInBounds_toArray, List.set_cons_zero, List.set_cons_succ])
    refine wpAnyH_take (i := 9) (v := ?_) rfl (by kernel_rfl) (by kernel_rfl) (by kernel_rfl) (fun _ _ _ h => h) (Or.inl ⟨by rfl, ?_⟩) (by assumption) ?_
    rotate_left
    · (intro w hSw; (try dsimp only at hSw); go_simp; try with_reducible rfl)
    (try simp only [Act.put, List.getElem_toArray, List.getElem_cons_zero, List.getElem_cons_succ, List.setIfInBounds_toArray, List.set_cons_zero, List.set_cons_succ])
    refine wpAnyH_ready (rs := [2]) (by kernel_rfl) (by simp) ?_
    refine AllReadyH.cons rfl (fun K hK => ?_) AllReadyH.nil
    go_simp
    refine (ofc_any (m : Int) m _ rfl hm).mono ?_
    rintro e wa ⟨a1, c1, rfl, iy, _, fy⟩
    have IA := hide iy
    have d2 := fr_cell fy d2
    have d3 := fr_cell fy d3
    have S2 := hide (S2.out.fr fy)
    have HT := hide (HT.out.fr fy)
    have FW := hide (FW.out.trans fy)
    clear iy fy 
    (try go_wp2_with fail)
    refine hK.out _ _ ?_ (fun hHeld => ?_)
    · (try dsimp only)
      exact ⟨d2, d3⟩
    clear hK K
    (try simp only [Act.put, List.getElem_toArray, List.getElem_cons_zero, List.getElem_cons_succ, List.setIfInBounds_toArray, List.set_cons_zero, List.set_cons_succ])
    refine wpAnyH_ready (rs := [5]) (by kernel_rfl) (by simp) ?_
    refine AllReadyH.cons rfl (fun K hK => ?_) AllReadyH.nil
    go_simp
    refine (upc_any _ m x A _ IA.out (by omega) (by omega) (by omega) HA.out).mono ?_
    rintro e wb ⟨a2, c2, rfl, iy, fy⟩
    have IB := hide iy
    have d2 := fr_cell fy d2
    have d3 := fr_cell fy d3
    have S2 := hide (S2.out.fr fy)
    have HT := hide (HT.out.fr fy)
    have FW := hide (FW.out.trans fy)
    clear iy fy IA
    (try go_wp2_with fail)
    refine hK.out _ _ ?_ (fun hHeld => ?_)
    · (try dsimp only)
      exact ⟨d2, d3⟩
    clear hK K
    (try simp only [Act.put, List.getElem_toArray, List.getElem_cons_zero, List.getElem_cons_succ, List.setIfInBounds_toArray, List.set_cons_zero, List.set_cons_succ])
    refine wpAnyH_ready (rs := [6]) (by kernel_rfl) (by simp) ?_
    refine AllReadyH.cons rfl (fun K hK => ?_) AllReadyH.nil
    go_simp
    refine (ofc_any 1 1 _ rfl (by omega)).mono ?_
    rintro e wc ⟨a3, c3, rfl, iy, _, fy⟩
    have IC := hide iy
    have d2 := fr_cell fy d2
    have d3 := fr_cell fy d3
    have S2 := hide (S2.out.fr fy)
    have HT := hide (HT.out.fr fy)
    have IB := hide (IB.out.fr fy)
    have FW := hide (FW.out.trans fy)
    clear iy fy 
    (try go_wp2_with fail)
    refine hK.out _ _ ?_ (fun hHeld => ?_)
    · (try dsimp only)
      exact ⟨d2, d3⟩
    clear hK K
    (try simp only [Act.put, List.getElem_toArray, List.getElem_cons_zero, List.getElem_cons_succ, List.setIfInBounds_toArray, List.set_cons_zero, List.set_cons_succ])
    refine wpAnyH_ready (rs := [10]) (by kernel_rfl) (by simp) ?_
    refine AllReadyH.cons rfl (fun K hK => ?_) AllReadyH.nil
    go_simp
    refine (upc_any _ 1 (-x) B _ IC.out (by have := wsm (x := 1) (by omega); omega) (by omega) (by omega) HB.out).mono ?_
    rintro e we ⟨a4, c4, rfl, iy, fy⟩
    have ID := hide iy
    have d2 := fr_cell fy d2
    have d3 := fr_cell fy d3
    have S2 := hide (S2.out.fr fy)
    have HT := hide (HT.out.fr fy)
    have IB := hide (IB.out.fr fy)
    have FW := hide (FW.out.trans fy)
    clear iy fy IC
    (try go_wp2_with fail)
    refine hK.out _ _ ?_ (fun hHeld => ?_)
    · (try dsimp only)
      exact ⟨d2, d3⟩
    clear hK K
    (try simp only [Act.put, List.getElem_toArray, List.getElem_cons_zero, List.getElem_cons_succ, List.setIfInBounds_toArray, List.set_cons_zero, List.set_cons_succ])
    refine wpAnyH_ready (rs := [11]) (by kernel_rfl) (by simp) ?_
    refine AllReadyH.cons rfl (fun K hK => ?_) AllReadyH.nil
    go_simp
    refine (lowest_any _ _ A B _ HT.out IB.out ID.out (by omega) (by omega) hB0).mono ?_
    rintro e wr ⟨v, rfl, ir, fy⟩
    have RV := hide ir
    have d2 := fr_cell fy d2
    have d3 := fr_cell fy d3
    have S2 := hide (S2.out.fr fy)
    have FW := hide (FW.out.trans fy)
    obtain ⟨u1, u2, u3, u4, u5, u6, rfl⟩ := ir.form
    clear ir fy
    (try go_wp2_with fail)
    refine hK.out _ _ ?_ (fun hHeld => ?_)
    · (try dsimp only)
      exact ⟨d2, d3⟩
    clear hK K
    (try simp only [Act.put, List.getElem_toArray, List.getElem_cons_zero, List.getElem_cons_succ, List.setIfInBounds_toArray, List.set_cons_zero, List.set_cons_succ])
    refine wpAnyH_ready (rs := [12]) (by kernel_rfl) (by simp) ?_
    refine AllReadyH.cons rfl (fun K hK => ?_) AllReadyH.nil
    have q_ := S2.out.1
    have q2_ := S2.out.2.1
    have z_ := S2.out.2.2.1 0
    have z2_ := S2.out.2.2.1 1
    have RV := hide (S2.out.rat RV.out u1 u2 u3 (.slice u4 u5 u6))
    have FW := hide (S2.out.set_fr FW.out (.slice u1 u2 u3) (.slice u4 u5 u6))
    have S2 := hide (S2.out.set u1 u2 u3 u4 u5 u6)
    go_simp
    (try go_wp2_with fail)
    refine hK.out _ _ ?_ (fun hHeld => ?_)
    · (try dsimp only)
      exact ⟨(World.cell?_setCell_other _ _ _ _ (fun e => by injection e; omega)).trans ((World.cell?_setCell_other _ _ _ _ (fun e => by injection e; omega)).trans d2), (World.cell?_setCell_other _ _ _ _ (fun e => by injection e; omega)).trans ((World.cell?_setCell_other _ _ _ _ (fun e => by injection e; omega)).trans d3)⟩
    clear hK K
    (try simp only [Act.put, List.getElem_toArray, List.getElem_cons_zero, List.getElem_cons_succ, List.setIfInBounds_toArray, List.set_cons_zero, List.set_cons_succ])
    refine wpAnyH_take (i := 13) (v := ?_) rfl (by kernel_rfl) (by kernel_rfl) (by kernel_rfl) (fun _ _ _ h => h) (Or.inl ⟨by rfl, ?_⟩) (by assumption) ?_
    rotate_left
    · (intro w hSw; (try dsimp only at hSw); go_simp; try with_reducible rfl)
    (try simp only [Act.put, List.getElem_toArray, List.getElem_cons_zero, List.getElem_cons_succ, List.setIfInBounds_toArray, List.set_cons_zero, List.set_cons_succ])
    refine wpAnyH_done (by kernel_rfl) ?_ _
    go_wp2_with fail
    exact bodyPost_ret (results_rat_ok rfl _ _ (w.heap.size + 1) _ _ rfl S2.out.1 S2.out.2.1) rfl ⟨_, rfl, RV.out, FW.out⟩
  · go_enter Tryz.func22, Tryz.ntmps22
    go_wp2_with fail
    refine (VB.out _).mono ?_
    rintro e w1 ⟨rfl, f1⟩
    obtain ⟨s2, FW, c2, c3⟩ := fin.out _ _ rfl f1
    have S2 := hide s2
    have FW := hide FW
    have HT := hide (Tab.fr HT.out FW.out)
    clear s2 f1 fin VB RUN
    have S2 := hide (S2.out.fr (Fr.drew _))
    have HT := hide (HT.out.fr (Fr.drew _))
    have FW := hide (FW.out.trans (Fr.drew _))
    have d2 := fr_cell (Fr.drew _) c2
    have d3 := fr_cell (Fr.drew _) c3
    go_wp2_with fail
    refine wp_region_held_drew (S := (fun w' => w'.cell? ⟨w.heap.size, 2, none⟩ = some (.int .u64 (m : Int)) ∧ w'.cell? ⟨w.heap.size, 3, none⟩ = some (.int .i64 x))) (by kernel_rfl) ?_ (fun hHeld => ?_)
    · exact ⟨d2, d3⟩
    obtain ⟨wd, hwd⟩ : ∃ wd, wd = w1.drew := ⟨_, rfl⟩
    rw [← hwd] at hHeld S2 FW HT d2 d3 ⊢
    clear hwd
    refine wpAnyH_take (i := 0) (v := ?_) rfl (by kernel_rfl) (by kernel_rfl) (by kernel_rfl) (fun _ _ _ h => h) (Or.inl ⟨by rfl, ?_⟩) (by assumption) ?_
    rotate_left
    · (intro w hSw; (try dsimp only at hSw); go_simp; try with_reducible rfl)
    (try simp only [Act.put, List.getElem_toArray, List.getElem_cons_zero, List.getElem_cons_succ, List.setIfInBounds_toArray, List.set_cons_zero, List.set_cons_succ])
    refine wpAnyH_take (i := 1) (v := ?_) rfl (by kernel_rfl) (by kernel_rfl) (by kernel_rfl) (fun _ _ _ h => h) (Or.inl ⟨by rfl, ?_⟩) (by assumption) ?_
    rotate_left
    · (intro w hSw; (try dsimp only at hSw); go_simp; try with_reducible rfl)
    (try simp only [Act.put, List.getElem_toArray, List.getElem_cons_zero, List.getElem_cons_succ, List.setIfInBounds_toArray, List.set_cons_zero, List.set_cons_succ])
    refine wpAnyH_take (i := 3) (v := ?_) rfl (by kernel_rfl) (by kernel_rfl) (by kernel_rfl) (fun _ _ _ h => h) (Or.inl ⟨by rfl, ?_⟩) (by assumption) ?_
    rotate_left
    · (intro w hSw; (try dsimp only at hSw); go_simp; try with_reducible rfl)
    (try simp only [Act.put, List.getElem_toArray, List.getElem_cons_zero, List.getElem_cons_succ, List.setIfInBounds_toArray, List.set_cons_zero, List.set_cons_succ])
    refine wpAnyH_take (i := 4) (v := ?_) rfl (by kernel_rfl) (by kernel_rfl) (by kernel_rfl) (fun _ _ _ h => h) (Or.inl ⟨by rfl, ?_⟩) (by assumption) ?_
    rotate_left
    · (intro w hSw; (try dsimp only at hSw); go_simp; try with_reducible rfl)
    (try simp only [Act.put, List.getElem_toArray, List.getElem_cons_zero, List.getElem_cons_succ, List.setIfInBounds_toArray, List.set_cons_zero, List.set_cons_succ])
    refine wpAnyH_take (i := 7) (v := ?_) rfl (by kernel_rfl) (by kernel_rfl) (by kernel_rfl) (fun _ _ _ h => h) (Or.inl ⟨by rfl, ?_⟩) (by assumption) ?_
    rotate_left
    · (intro w hSw; (try dsimp only at hSw); go_simp; try with_reducible rfl)
    (try simp only [Act.put, List.getElem_toArray, List.getElem_cons_zero, List.getElem_cons_succ, List.setIfInBounds_toArray, List.set_cons_zero, List.set_cons_succ])
    refine wpAnyH_take (i := 8) (v := ?_) rfl (by kernel_rfl) (by kernel_rfl) (by kernel_rfl) (fun _ _ _ h => h) (Or.inl ⟨by rfl, ?_⟩) (by assumption) ?_
    rotate_left
    · (intro w hSw; (try dsimp only at hSw); go_simp; try with_reducible rfl)
    (try simp only [Act.put, List.getElem_toArray, List.getElem_cons_zero, List.getElem_cons_succ, List.setIfInBounds_toArray, List.set_cons_zero, List.set_cons_succ])
    refine wpAnyH_take (i := 9) (v := ?_) rfl (by kernel_rfl) (by kernel_rfl) (by kernel_rfl) (fun _ _ _ h => h) (Or.inl ⟨by rfl, ?_⟩) (by assumption) ?_
    rotate_left
    · (intro w hSw; (try dsimp only at hSw); go_simp; try with_reducible rfl)
    (try simp only [Act.put, List.getElem_toArray, List.getElem_cons_zero, List.getElem_cons_succ, List.setIfInBounds_toArray, List.set_cons_zero, List.set_cons_succ])
    refine wpAnyH_ready (rs := [2]) (by kernel_rfl) (by simp) ?_
    refine AllReadyH.cons rfl (fun K hK => ?_) AllReadyH.nil
    go_simp
    refine (ofc_any (m : Int) m _ rfl hm).mono ?_
    rintro e wa ⟨a1, c1, rfl, iy, _, fy⟩
    have IA := hide iy
    have d2 := fr_cell fy d2
    have d3 := fr_cell fy d3
    have S2 := hide (S2.out.fr fy)
    have HT := hide (HT.out.fr fy)
    have FW := hide (FW.out.trans fy)
    clear iy fy 
    (try go_wp2_with fail)
    refine hK.out _ _ ?_ (fun hHeld => ?_)
    · (try dsimp only)
      exact ⟨d2, d3⟩
    clear hK K
    (try simp only [Act.put, List.getElem_toArray, List.getElem_cons_zero, List.getElem_cons_succ, List.setIfInBounds_toArray, List.set_cons_zero, List.set_cons_succ])
    refine wpAnyH_ready (rs := [5]) (by kernel_rfl) (by simp) ?_
    refine AllReadyH.cons rfl (fun K hK => ?_) AllReadyH.nil
    go_simp
    refine (upc_any _ m x A _ IA.out (by omega) (by omega) (by omega) HA.out).mono ?_
    rintro e wb ⟨a2, c2, rfl, iy, fy⟩
    have IB := hide iy
    have d2 := fr_cell fy d2
    have d3 := fr_cell fy d3
    have S2 := hide (S2.out.fr fy)
    have HT := hide (HT.out.fr fy)
    have FW := hide (FW.out.trans fy)
    clear iy fy IA
    (try go_wp2_with fail)
    refine hK.out _ _ ?_ (fun hHeld => ?_)
    · (try dsimp only)
      exact ⟨d2, d3⟩
    clear hK K
    (try simp only [Act.put, List.getElem_toArray, List.getElem_cons_zero, List.getElem_cons_succ, List.setIfInBounds_toArray, List.set_cons_zero, List.set_cons_succ])
    refine wpAnyH_ready (rs := [6]) (by kernel_rfl) (by simp) ?_
    refine AllReadyH.cons rfl (fun K hK => ?_) AllReadyH.nil
    go_simp
    refine (ofc_any 1 1 _ rfl (by omega)).mono ?_
    rintro e wc ⟨a3, c3, rfl, iy, _, fy⟩
    have IC := hide iy
    have d2 := fr_cell fy d2
    have d3 := fr_cell fy d3
    have S2 := hide (S2.out.fr fy)
    have HT := hide (HT.out.fr fy)
    have IB := hide (IB.out.fr fy)
    have FW := hide (FW.out.trans fy)
    clear iy fy 
    (try go_wp2_with fail)
    refine hK.out _ _ ?_ (fun hHeld => ?_)
    · (try dsimp only)
      exact ⟨d2, d3⟩
    clear hK K
    (try simp only [Act.put, List.getElem_toArray, List.getElem_cons_zero, List.getElem_cons_succ, List.setIfInBounds_toArray, List.set_cons_zero, List.set_cons_succ])
    refine wpAnyH_ready (rs := [10]) (by kernel_rfl) (by simp) ?_
    refine AllReadyH.cons rfl (fun K hK => ?_) AllReadyH.nil
    go_simp
    refine (upc_any _ 1 (-x) B _ IC.out (by have := wsm (x := 1) (by omega); omega) (by omega) (by omega) HB.out).mono ?_
    rintro e we ⟨a4, c4, rfl, iy, fy⟩
    have ID := hide iy
    have d2 := fr_cell fy d2
    have d3 := fr_cell fy d3
    have S2 := hide (S2.out.fr fy)
    have HT := hide (HT.out.fr fy)
    have IB := hide (IB.out.fr fy)
    have FW := hide (FW.out.trans fy)
    clear iy fy IC
    (try go_wp2_with fail)
    refine hK.out _ _ ?_ (fun hHeld => ?_)
    · (try dsimp only)
      exact ⟨d2, d3⟩
    clear hK K
    (try simp only [Act.put, List.getElem_toArray, List.getElem_cons_zero, List.getElem_cons_succ, List.setIfInBounds_toArray, List.set_cons_zero, List.set_cons_succ])
    refine wpAnyH_ready (rs := [11]) (by kernel_rfl) (by simp) ?_
    refine AllReadyH.cons rfl (fun K hK => ?_) AllReadyH.nil
    go_simp
    refine (lowest_any _ _ A B _ HT.out IB.out ID.out (by omega) (by omega) hB0).mono ?_
    rintro e wr ⟨v, rfl, ir, fy⟩
    have RV := hide ir
    have d2 := fr_cell fy d2
    have d3 := fr_cell fy d3
    have S2 := hide (S2.out.fr fy)
    have FW := hide (FW.out.trans fy)
    obtain ⟨u1, u2, u3, u4, u5, u6, rfl⟩ := ir.form
    clear ir fy
    (try go_wp2_with fail)
    refine hK.out _ _ ?_ (fun hHeld => ?_)
    · (try dsimp only)
      exact ⟨d2, d3⟩
    clear hK K
    (try simp only [Act.put, List.getElem_toArray, List.getElem_cons_zero, List.getElem_cons_succ, List.setIfInBounds_toArray, List.set_cons_zero, List.set_cons_succ])
    refine wpAnyH_ready (rs := [12]) (by kernel_rfl) (by simp) ?_
    refine AllReadyH.cons rfl (fun K hK => ?_) AllReadyH.nil
    have q_ := S2.out.1
    have q2_ := S2.out.2.1
    have z_ := S2.out.2.2.1 0
    have z2_ := S2.out.2.2.1 1
    have RV := hide (S2.out.rat RV.out u1 u2 u3 (.slice u4 u5 u6))
    have FW := hide (S2.out.set_fr FW.out (.slice u1 u2 u3) (.slice u4 u5 u6))
    have S2 := hide (S2.out.set u1 u2 u3 u4 u5 u6)
    go_simp
    (try go_wp2_with fail)
    refine hK.out _ _ ?_ (fun hHeld => ?_)
    · (try dsimp only)
      exact ⟨(World.cell?_setCell_other _ _ _ _ (fun e => by injection e; omega)).trans ((World.cell?_setCell_other _ _ _ _ (fun e => by injection e; omega)).trans d2), (World.cell?_setCell_other _ _ _ _ (fun e => by injection e; omega)).trans ((World.cell?_setCell_other _ _ _ _ (fun e => by injection e; omega)).trans d3)⟩
    clear hK K
    (try simp only [Act.put, List.getElem_toArray, List.getElem_cons_zero, List.getElem_cons_succ, List.setIfInBounds_toArray, List.set_cons_zero, List.set_cons_succ])
    refine wpAnyH_take (i := 13) (v := ?_) rfl (by kernel_rfl) (by kernel_rfl) (by kernel_rfl) (fun _ _ _ h => h) (Or.inl ⟨by rfl, ?_⟩) (by assumption) ?_
    rotate_left
    · (intro w hSw; (try dsimp only at hSw); go_simp; try with_reducible rfl)
    (try simp only [Act.put, List.getElem_toArray, List.getElem_cons_zero, List.getElem_cons_succ, List.setIfInBounds_toArray, List.set_cons_zero, List.set_cons_succ])
    refine wpAnyH_done (by kernel_rfl) ?_ _
    go_wp2_with fail
    exact bodyPost_ret (results_rat_ok rfl _ _ (w.heap.size + 1) _ _ rfl S2.out.1 S2.out.2.1) rfl ⟨_, rfl, RV.out, FW.out⟩
end Go.Proofs.YtammjgieocgelaaGreatDoor
