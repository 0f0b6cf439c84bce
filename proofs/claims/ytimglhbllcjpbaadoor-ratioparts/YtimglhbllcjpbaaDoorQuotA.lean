/- LeadingZeros32, raised, lowered. -/
import Derived.Test.YtimglhbllcjpbaaDoorTimesA
import Derived.Test.YtimglhbllcjpbaaDoorQuotP
import Derived.Laws.BitsAllLaws
namespace Go.Proofs.YtimglhbllcjpbaaDoor
set_option linter.unusedVariables false
set_option linter.unusedSimpArgs false
open Go.RowKit

set_option maxHeartbeats 400000 in
set_option maxRecDepth 4000 in
theorem lz32_any (x : Int) (w : World) (h0 : 0 ≤ x) (h1 : x ≤ 4294967295) :
    Calls Tryd.prog 59 #[.int .u32 x] w fun e w' => e = .returned (.int .i64 (32 - (nlen 2 x.toNat : Int))) ∧ w' = w := by
  have hb : nlen 2 x.toNat ≤ 32 := nlen_le (by omega) (by omega)
  have K := hide (len32_any x w h0 h1)
  go_enter Tryd.func59, Tryd.ntmps59
  go_wp2_with fail
  refine K.out.mono ?_
  rintro e w1 ⟨rfl, rfl⟩
  go_wp2_with fail
  go_ret
  exact ⟨rfl, rfl⟩

/-- The row behind i rounds of a raise: the first i digits of the product, then the carry, then noughts. -/
def rowT (x k i j : Nat) : Value := .int .u32 ((if j < i then dg 4294967296 (x * k) j else if j = i then tcarry 4294967296 x k i else 0 : Nat) : Int)

set_option maxHeartbeats 1000000 in
set_option maxRecDepth 4000 in
theorem raised_any (a : Option Addr) (n c x u : Nat) (w : World) (hn : n ≤ 100000000001) (hu : u ≤ 31) (hcs : Cs .u32 w a n (dg 4294967296 x)) (hx : x < 4294967296 ^ n) :
    Calls Tryd.prog 60 #[.slice a n c, .int .i64 u] w fun e w' => e = .returned (.slice (some ⟨w.heap.size, 0, none⟩) (n + 1) (n + 1)) ∧ w'.rowIs w.heap.size 41 (n + 1) (fun j => .int .u32 (dg 4294967296 (x * 2 ^ u) j : Int)) ∧ Fr w w' := by
  have HX := hide hx
  have HC := hide hcs
  clear hx hcs
  obtain ⟨M, hM⟩ : ∃ M : Nat, n + 1 = M := ⟨_, rfl⟩
  have hmk := run_make_row' (P := Tryd.prog) 22 41 (.int .u32 0) 4 Tryd.underlying22 info32 rfl .i64 .i64 M (by omega) (by omega)
  go_enter Tryd.func60, Tryd.ntmps60
  go_wp2_with fail
  have e : (n : Int) + 1 = (M : Int) := by omega
  rw [e]
  clear e
  rw [hmk]
  simp only [Result.andThen]
  rw [Oper.upon_value]
  clear hmk
  go_wp2_with fail
  go_loopw [15] (fun s15 wr => ∃ i : Nat, i ≤ n ∧ s15 = .int .i64 i ∧ wr.rowIs w.heap.size 41 M (rowT x (2 ^ u) i) ∧ Hid (Fr w wr)) (fun s15 _ => n - (intOf s15).toNat)
  case atStart =>
    refine ⟨0, by omega, rfl, ?_, Fr.alloc _ _⟩
    refine (World.rowIs_made w (.int .u32 0) M 41).congr (fun j hj => ?_)
    unfold rowT
    rw [if_neg (by omega), tcarry_zero]
    split <;> rfl
  case round =>
    obtain ⟨i, hi, rfl, hrw, hF⟩ := hrel
    by_cases hc : i < n
    · have hst := times_step b32 x (2 ^ u) i
      have hcl := tcarry_lt b32 x (2 ^ u) i (Nat.pow_pos (by omega))
      have hku := pow2_le hu
      have lx := dg_lt b32 x i
      have lq := dg_lt b32 (x * 2 ^ u) i
      have hcx := Cs.fr HC.out hF.out
      have hcp := hrw.cell (i := i) (by omega)
      have hcp1 := hrw.cell (i := i + 1) (by omega)
      have hfz := hrw.frozen i
      have hfz1 := hrw.frozen (i + 1)
      have HR := hide hrw
      rw [rowT, if_neg (by omega), if_pos rfl] at hcp
      rw [rowT, if_neg (by omega), if_neg (by omega)] at hcp1
      clear hrw
      obtain ⟨ho1, ho2⟩ := raise_or (d := dg 4294967296 x i) hu hcl
      have hdk : dg 4294967296 x i * 2 ^ u ≤ 4294967295 * 2147483648 := Nat.mul_le_mul (by omega) hku
      have v1 : Hid (bits BinOp.or IntKind.u32 (tcarry 4294967296 x (2 ^ u) i : Int) (IntKind.u64.wrap ((dg 4294967296 x i : Int) * 2 ^ u) % 4294967296) = (dg 4294967296 (x * 2 ^ u) i : Int)) := by
        unfold Hid
        have e : ((dg 4294967296 x i : Int) * 2 ^ u) = ((dg 4294967296 x i * 2 ^ u : Nat) : Int) := by simp
        rw [e, IntKind.wrap_u64]
        have e2 : ((dg 4294967296 x i * 2 ^ u : Nat) : Int) % 18446744073709551616 % 4294967296 = ((dg 4294967296 x i * 2 ^ u % 4294967296 : Nat) : Int) := by omega
        rw [e2, u32_or_nat _ _ (by omega) (by omega), ho1]
        omega
      have v2 : Hid (IntKind.u64.wrap ((dg 4294967296 x i : Int) * 2 ^ u) / 4294967296 % 4294967296 = (tcarry 4294967296 x (2 ^ u) (i + 1) : Int)) := by
        unfold Hid
        have e : ((dg 4294967296 x i : Int) * 2 ^ u) = ((dg 4294967296 x i * 2 ^ u : Nat) : Int) := by simp
        rw [e, IntKind.wrap_u64]
        omega
      clear ho1 ho2 hdk hst
      rcases hcx with h0 | ⟨b, off, rfl, hb, hcell⟩
      · omega
      · have hcx := hcell i hc
        clear hcell
        go_wp2_with fail
        go_roundw
        case rel =>
          rw [v1.out, v2.out]
          refine ⟨i + 1, by omega, by go_num, ?_, ?_⟩
          · refine ((HR.out.set i _).set (i + 1) _).congr ?_
            intro j hj
            unfold rowT
            by_cases h1 : j = i + 1
            · subst h1; rw [if_pos rfl, if_neg (by omega), if_pos rfl]
            · rw [if_neg h1]
              by_cases h2 : j = i
              · subst h2; rw [if_pos rfl, if_pos (by omega)]
              · rw [if_neg h2]
                by_cases h3 : j < i
                · rw [if_pos h3, if_pos (by omega)]
                · rw [if_neg h3, if_neg h2, if_neg (by omega), if_neg h1]
          · exact Below.setCell (Below.setCell hF.out (by simp) _) (by simp) _
        case measure => simp [intOf]; omega
    · have e : i = n := by omega
      subst e
      have ht := raise_top (k := 2 ^ u) HX.out (by have := pow2_le hu; omega)
      have HR := hide hrw
      clear hrw
      go_wp2_with fail
      go_ret
      refine ⟨by rw [hM]; rfl, ?_, hF.out⟩
      rw [hM]
      refine HR.out.congr ?_
      intro j hj
      unfold rowT
      by_cases h1 : j < i
      · rw [if_pos h1]
      · obtain rfl : j = i := by omega
        rw [if_neg h1, if_pos rfl, ht]

/-- The row behind a loop that goes down: noughts below k, digits from k on. -/
def rowU (f : Nat → Nat) (k j : Nat) : Value := .int .u32 ((if k ≤ j then f j else 0 : Nat) : Int)
theorem rowU_set {w : World} {g n i : Nat} {t : TypeId} {f : Nat → Nat} (h : w.rowIs g t n (rowU f (i + 1))) (d : Int) (hd : d = f i) : (w.setCell ⟨g, i, none⟩ (.int .u32 d)).rowIs g t n (rowU f i) := by
  refine (h.set i (.int .u32 d)).congr ?_
  intro j hj
  unfold rowU
  by_cases hji : j = i
  · subst hji; rw [if_pos rfl, if_pos (by omega), hd]
  · rw [if_neg hji]
    by_cases hlt2 : i + 1 ≤ j
    · rw [if_pos hlt2, if_pos (by omega)]
    · rw [if_neg hlt2, if_neg (by omega)]
theorem rowU_cs {w : World} {g n : Nat} {t : TypeId} {f : Nat → Nat} (h : w.rowIs g t n (rowU f 0)) : Cs .u32 w (some ⟨g, 0, none⟩) n f := by
  refine .inr ⟨g, 0, rfl, h.lt, fun j hj => ?_⟩
  rw [Nat.zero_add, h.cell hj, rowU, if_pos (by omega)]
theorem rowU_made (f : Nat → Nat) (n j : Nat) (hj : j < n) : Value.int .u32 0 = rowU f n j := by
  unfold rowU; rw [if_neg (by omega)]; rfl

set_option maxHeartbeats 1000000 in
set_option maxRecDepth 4000 in
theorem lowered_any (a : Option Addr) (n c x u : Nat) (w : World) (hn : n ≤ 100000000002) (hu : u ≤ 31) (hcs : Cs .u32 w a n (dg 4294967296 x)) (hx : x < 4294967296 ^ n) :
    Calls Tryd.prog 62 #[.slice a n c, .int .i64 u] w fun e w' => ∃ c', e = .returned (.slice (some ⟨w.heap.size, 0, none⟩) n c') ∧ Cs .u32 w' (some ⟨w.heap.size, 0, none⟩) n (dg 4294967296 (x / 2 ^ u)) ∧ Fr w w' := by
  have HX := hide hx
  have HC := hide hcs
  clear hx hcs
  have hmk := run_make_row' (P := Tryd.prog) 22 41 (.int .u32 0) 4 Tryd.underlying22 info32 rfl .i64 .i64 n (by omega) (by omega)
  go_enter Tryd.func62, Tryd.ntmps62
  go_wp2_with fail
  go_loopw [6, 7] (fun s6 s7 wr => ∃ k : Nat, k ≤ n ∧ s7 = .int .i64 ((k : Int) - 1) ∧ s6 = .int .u64 ((4294967296 * dg 4294967296 x (k + 1) + dg 4294967296 x k : Nat) : Int) ∧ wr.rowIs w.heap.size 41 n (rowU (dg 4294967296 (x / 2 ^ u)) k) ∧ Hid (Fr w wr)) (fun _ s7 _ => (intOf s7 + 1).toNat)
  case atStart =>
    refine ⟨n, by omega, by go_num, ?_, ?_, Fr.alloc _ _⟩
    · rw [dg_out HX.out, dg_out (Nat.lt_of_lt_of_le HX.out (Nat.pow_le_pow_right (by omega) (by omega)))]; rfl
    · exact (World.rowIs_made w (.int .u32 0) n 41).congr (fun j hj => rowU_made _ _ _ hj)
  case round =>
    obtain ⟨k, hk, rfl, rfl, hrw, hF⟩ := hrel
    by_cases c0 : k = 0
    · subst c0
      have HR := hide (rowU_cs hrw)
      clear hrw
      go_wp2_with fail
      go_ret
      exact ⟨_, rfl, HR.out, hF.out⟩
    · obtain ⟨k, rfl⟩ : ∃ j, k = j + 1 := ⟨k - 1, by omega⟩
      have e0 : ((k + 1 : Nat) : Int) - 1 = (k : Int) := by omega
      rw [e0]
      clear e0
      have hst := lower_step x u k hu
      have l2 := dg_lt b32 x (k + 1 + 1)
      have l1 := dg_lt b32 x (k + 1)
      have l0 := dg_lt b32 x k
      have lq := dg_lt b32 (x / 2 ^ u) k
      have hcx := Cs.fr HC.out hF.out
      have hcp := hrw.cell (i := k) (by omega)
      have hfz := hrw.frozen k
      have HR := hide hrw
      rw [rowU, if_neg (by omega)] at hcp
      clear hrw
      obtain ⟨Wd, hWd⟩ : ∃ Wd, 4294967296 * dg 4294967296 x (k + 1 + 1) + dg 4294967296 x (k + 1) = Wd := ⟨_, rfl⟩
      obtain ⟨We, hWe⟩ : ∃ We, 4294967296 * dg 4294967296 x (k + 1) + dg 4294967296 x k = We := ⟨_, rfl⟩
      have v0 : IntKind.u64.wrap (IntKind.u64.wrap ((Wd : Int) * 4294967296) + (dg 4294967296 x k : Int)) = (We : Int) := by
        rw [IntKind.wrap_u64, IntKind.wrap_u64]; omega
      have hWb : Wd < 18446744073709551616 := by omega
      have hWc : We < 18446744073709551616 := by omega
      rw [hWe] at hst
      rw [hWd]
      have HWe := hide hWe
      have HST := hide hst
      clear hWd hWe hst
      rcases hcx with h0 | ⟨b, off, rfl, hb, hcell⟩
      · omega
      · have hcx := hcell k (by omega)
        clear hcell
        go_wp2_with fail
        go_roundw
        case rel =>
          refine ⟨k, by omega, by go_num, ?_, ?_, ?_⟩
          · rw [HWe.out]
          · refine rowU_set HR.out _ ?_
            rw [HST.out]; simp
          · exact Below.setCell hF.out (by simp) _
        case measure => simp [intOf]
end Go.Proofs.YtimglhbllcjpbaaDoor
