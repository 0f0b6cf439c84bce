/- PackF: several texts in one. -/
import Derived.Test.YtmaapdmbkhoigaaDoorPackE
import Derived.Test.YtmaapdmbkhoigaaDoorPackD
import Derived.Test.YtmaapdmbkhoigaaDoorPackA
import Derived.ProofKit
import Derived.LaidMore
import Derived.Stop.Joined
import Derived.Stop.LaidErr
import Derived.Lib.LaidTab
import Derived.Test.YtmaapdmbkhoigaaDoorPackB
import Derived.BigQuiet
import Derived.Deep.DeepCutAuto
import Derived.Laws.StructEq
import Derived.Deep.RegionHeld3
import Derived.Test.YtmaapdmbkhoigaaDoorPackC
/- The document's Text of decimals. -/
namespace Go.Proofs.YtmaapdmbkhoigaaDoor
set_option linter.unusedVariables false
set_option linter.unusedSimpArgs false
open Go.RowKit

theorem conv_byte (c : UInt8) (z : Int) (h : (c.toNat : Int) = z) (w : World) : (convert 50 9 (.slice (some ⟨w.heap.size, 0, none⟩) 1 1)).run Tryd.prog (w.alloc (.cells #[.int .u8 z] 5)) = .ok (.string (bs [c])) (w.alloc (.cells #[.int .u8 z] 5)) := by
  subst h
  exact run_convert_bytes_back (P := Tryd.prog) (w.alloc (.cells #[.int .u8 (c.toNat : Int)] 5)) 50 9 5 ⟨w.heap.size, 0, none⟩ 1 [c] Tryd.underlying50 Tryd.underlying5 Tryd.underlying9 (fun j hj => by
    simp only [List.length_singleton] at hj
    obtain rfl : j = 0 := by omega
    rw [Lib.add_plain, World.cell?_alloc_new]
    rfl)

end Go.Proofs.YtmaapdmbkhoigaaDoor

/- The values of 64 bits: Of, and the document's Of. -/
namespace Go.Proofs.YtmaapdmbkhoigaaDoor
set_option linter.unusedVariables false
set_option linter.unusedSimpArgs false
open Go.RowKit

def bE (b : Nat) : Nat := b / 4503599627370496 % 2048
def bF (b : Nat) : Nat := b % 4503599627370496
def bS (b : Nat) : Bool := decide (9223372036854775808 ≤ b)
def bC (b : Nat) : Nat := if bE b = 2047 then (if bF b = 0 then 2 else 3) else if bE b = 0 ∧ bF b = 0 then 0 else 1
def bN (b : Nat) : Bool := if bE b = 2047 ∧ bF b ≠ 0 then false else bS b
def bM (b : Nat) : Nat := if bE b = 2047 then 0 else if bE b = 0 then bF b else bF b + 4503599627370496
def bX (b : Nat) : Int := if bE b = 2047 then 0 else if bE b = 0 then (if bF b = 0 then 0 else -1074) else (bE b : Int) - 1075
def bval (b : Nat) : Value := .agg #[.int .i64 (bC b : Int), .bool (bN b), .int .u64 (bM b : Int), .int .i64 (bX b)]

theorem results_four {fn : Func} {p : Tmp} {t : TypeId} (ht : t = 42) (h : fn.results = #[.cell p t]) (tmps : Array Value) (w : World) (b : Nat) (v0 v1 v2 v3 : Value) (hp : tmps.getD p undef = .pointer (some ⟨b, 0, none⟩)) (h0 : w.cell? ⟨b, 0, none⟩ = some v0) (h1 : w.cell? ⟨b, 1, none⟩ = some v1) (h2 : w.cell? ⟨b, 2, none⟩ = some v2) (h3 : w.cell? ⟨b, 3, none⟩ = some v3) :
    (results fn tmps).run Tryd.prog w = .ok (.agg #[v0, v1, v2, v3]) w := by
  have hp' : tmps[p]?.getD undef = .pointer (some ⟨b, 0, none⟩) := by simpa using hp
  subst ht
  simp [results, h, hp']
  go_simp

theorem and_sign (b : Nat) (hb : b < 18446744073709551616) : bits .and .u64 (b : Int) 9223372036854775808 = if 9223372036854775808 ≤ b then 9223372036854775808 else 0 := by
  by_cases c : 9223372036854775808 ≤ b
  · rw [if_pos c]
    go_bits2
  · rw [if_neg c]
    go_bits2
theorem and_exp (b : Nat) (hb : b < 4096) : bits .and .u64 (b : Int) 2047 = ((b % 2048 : Nat) : Int) := by
  go_bits2
theorem and_frac (b : Nat) (hb : b < 18446744073709551616) : bits .and .u64 (b : Int) 4503599627370495 = ((b % 4503599627370496 : Nat) : Int) := by
  go_bits2

theorem results_alloc4 {fn : Func} {p : Tmp} {t : TypeId} (ht : t = 42) (h : fn.results = #[.cell p t]) (tmps : Array Value) (w : World) (v0 v1 v2 v3 : Value) (hp : tmps.getD p undef = .pointer (some ⟨w.heap.size, 0, none⟩)) :
    (results fn tmps).run Tryd.prog (w.alloc (Obj.cells #[v0, v1, v2, v3] t)) = .ok (.agg #[v0, v1, v2, v3]) (w.alloc (Obj.cells #[v0, v1, v2, v3] t)) :=
  results_four ht h tmps _ w.heap.size v0 v1 v2 v3 hp (by go_simp) (by go_simp) (by go_simp) (by go_simp)

set_option maxHeartbeats 4000000 in
set_option maxRecDepth 4000 in
theorem of_any7 (b : Nat) (w : World) (hb : b < 18446744073709551616) :
    Calls Tryd.prog 15 #[.int .u64 (b : Int)] w fun e w' => e = .returned (bval b) ∧ Fr w w' := by
  have r1 := and_sign b hb
  have r2 : bits .and .u64 ((b : Int) / 4503599627370496) 2047 = ((bE b : Nat) : Int) := and_exp (b / 4503599627370496) (by omega)
  have r3 : bits .and .u64 (b : Int) 4503599627370495 = ((bF b : Nat) : Int) := and_frac b hb
  have lE : bE b < 2048 := Nat.mod_lt _ (by omega)
  have lF : bF b < 4503599627370496 := Nat.mod_lt _ (by omega)
  unfold bval bC bN bM bX bS
  generalize bE b = E at *
  generalize bF b = F at *
  by_cases s : 9223372036854775808 ≤ b
  · simp only [decide_eq_true s]
    rw [if_pos s] at r1
    by_cases e1 : E = 2047
    · by_cases f0 : F = 0
      · subst e1
        subst f0
        go_enter Tryd.func15, Tryd.ntmps15
        go_wp2_with fail
        (try simp only [Exit.inBlock, Exit.then])
        refine bodyPost_ret (results_alloc4 rfl rfl _ w _ _ _ _ rfl) rfl ⟨?_, Fr.alloc _ _⟩
        (try rfl)
      · subst e1
        have hF : ((F : Int) == 0) = false := by simp only [beq_eq_false_iff_ne]; omega
        simp only [if_true, f0, if_false, ne_eq, not_false_eq_true, and_self]
        go_enter Tryd.func15, Tryd.ntmps15
        go_wp2_with fail
        (try simp only [Exit.inBlock, Exit.then])
        refine bodyPost_ret (results_alloc4 rfl rfl _ w _ _ _ _ rfl) rfl ⟨?_, Fr.alloc _ _⟩
        (try rfl)
    · by_cases e0 : E = 0
      · by_cases f0 : F = 0
        · subst f0
          subst e0
          go_enter Tryd.func15, Tryd.ntmps15
          go_wp2_with fail
          (try simp only [Exit.inBlock, Exit.then])
          refine bodyPost_ret (results_alloc4 rfl rfl _ w _ _ _ _ rfl) rfl ⟨?_, Fr.alloc _ _⟩
          (try rfl)
        · subst e0
          have hF : ((F : Int) == 0) = false := by simp only [beq_eq_false_iff_ne]; omega
          simp only [if_true, f0, if_false, ne_eq, not_false_eq_true, and_self, and_false, Nat.reduceEqDiff, false_and]
          go_enter Tryd.func15, Tryd.ntmps15
          go_wp2_with fail
          (try simp only [Exit.inBlock, Exit.then])
          refine bodyPost_ret (results_alloc4 rfl rfl _ w _ _ _ _ rfl) rfl ⟨?_, Fr.alloc _ _⟩
          (try rfl)
      · have hE1 : ((E : Int) == 2047) = false := by simp only [beq_eq_false_iff_ne]; omega
        have hE0 : ((E : Int) == 0) = false := by simp only [beq_eq_false_iff_ne]; omega
        simp only [if_true, e1, e0, if_false, ne_eq, not_false_eq_true, and_self, false_and]
        go_enter Tryd.func15, Tryd.ntmps15
        go_wp2_with fail
        (try simp only [Exit.inBlock, Exit.then])
        refine bodyPost_ret (results_alloc4 rfl rfl _ w _ _ _ _ rfl) rfl ⟨?_, Fr.alloc _ _⟩
        rw [show (((F + 4503599627370496 : Nat) : Int)) = (F : Int) + 4503599627370496 by omega]
        first | rfl | (rw [show (E : Int) - 1075 = (E : Int) - 1 + -1074 by omega]; rfl)
  · simp only [decide_eq_false s]
    rw [if_neg s] at r1
    by_cases e1 : E = 2047
    · by_cases f0 : F = 0
      · subst e1
        subst f0
        go_enter Tryd.func15, Tryd.ntmps15
        go_wp2_with fail
        (try simp only [Exit.inBlock, Exit.then])
        refine bodyPost_ret (results_alloc4 rfl rfl _ w _ _ _ _ rfl) rfl ⟨?_, Fr.alloc _ _⟩
        (try rfl)
      · subst e1
        have hF : ((F : Int) == 0) = false := by simp only [beq_eq_false_iff_ne]; omega
        simp only [if_true, f0, if_false, ne_eq, not_false_eq_true, and_self]
        go_enter Tryd.func15, Tryd.ntmps15
        go_wp2_with fail
        (try simp only [Exit.inBlock, Exit.then])
        refine bodyPost_ret (results_alloc4 rfl rfl _ w _ _ _ _ rfl) rfl ⟨?_, Fr.alloc _ _⟩
        (try rfl)
    · by_cases e0 : E = 0
      · by_cases f0 : F = 0
        · subst f0
          subst e0
          go_enter Tryd.func15, Tryd.ntmps15
          go_wp2_with fail
          (try simp only [Exit.inBlock, Exit.then])
          refine bodyPost_ret (results_alloc4 rfl rfl _ w _ _ _ _ rfl) rfl ⟨?_, Fr.alloc _ _⟩
          (try rfl)
        · subst e0
          have hF : ((F : Int) == 0) = false := by simp only [beq_eq_false_iff_ne]; omega
          simp only [if_true, f0, if_false, ne_eq, not_false_eq_true, and_self, and_false, Nat.reduceEqDiff, false_and]
          go_enter Tryd.func15, Tryd.ntmps15
          go_wp2_with fail
          (try simp only [Exit.inBlock, Exit.then])
          refine bodyPost_ret (results_alloc4 rfl rfl _ w _ _ _ _ rfl) rfl ⟨?_, Fr.alloc _ _⟩
          (try rfl)
      · have hE1 : ((E : Int) == 2047) = false := by simp only [beq_eq_false_iff_ne]; omega
        have hE0 : ((E : Int) == 0) = false := by simp only [beq_eq_false_iff_ne]; omega
        simp only [if_true, e1, e0, if_false, ne_eq, not_false_eq_true, and_self, false_and]
        go_enter Tryd.func15, Tryd.ntmps15
        go_wp2_with fail
        (try simp only [Exit.inBlock, Exit.then])
        refine bodyPost_ret (results_alloc4 rfl rfl _ w _ _ _ _ rfl) rfl ⟨?_, Fr.alloc _ _⟩
        rw [show (((F + 4503599627370496 : Nat) : Int)) = (F : Int) + 4503599627370496 by omega]
        first | rfl | (rw [show (E : Int) - 1075 = (E : Int) - 1 + -1074 by omega]; rfl)
end Go.Proofs.YtmaapdmbkhoigaaDoor

/- Bits that are joined: joined, unsigned, Bits, Next. -/
namespace Go.Proofs.YtmaapdmbkhoigaaDoor
set_option linter.unusedVariables false
set_option linter.unusedSimpArgs false
open Go.RowKit

def joinN (m : Nat) (x : Int) : Nat := (((x + 1074) * 4503599627370496 + m) % 18446744073709551616).toNat
theorem join_eq (m : Nat) (x : Int) : IntKind.u64.wrap (IntKind.u64.wrap (IntKind.u64.wrap (wrap64 (x + 1074)) * 4503599627370496) + (m : Int)) = (joinN m x : Int) := by
  unfold joinN wrap64
  rw [IntKind.wrap_u64, IntKind.wrap_u64, IntKind.wrap_u64]
  omega
theorem joinN_lt (m : Nat) (x : Int) : joinN m x < 18446744073709551616 := by unfold joinN; omega

set_option maxHeartbeats 1000000 in
set_option maxRecDepth 4000 in
theorem joined_any (m : Nat) (x : Int) (w : World) (hm : m < 18446744073709551616) (x0 : -9223372036854775808 ≤ x) (x1 : x ≤ 9223372036854775807) :
    Calls Tryd.prog 87 #[.int .u64 (m : Int), .int .i64 x] w fun e w' => e = .returned (.int .u64 (joinN m x : Int)) ∧ Fr w w' := by
  go_enter Tryd.func87, Tryd.ntmps87
  go_wp2_with fail
  go_ret
  refine ⟨?_, Fr.refl _⟩
  rw [join_eq]
  rfl


def unsN (c : Int) (m : Nat) (x : Int) : Nat := if c = 1 then joinN m x else if c = 2 then 9218868437227405312 else if c = 3 then 9221120237041090560 else 0
theorem unsN_lt (c : Int) (m : Nat) (x : Int) : unsN c m x < 18446744073709551616 := by
  unfold unsN
  have := joinN_lt m x
  split
  · omega
  · split
    · omega
    · split <;> omega

set_option maxHeartbeats 1000000 in
set_option maxRecDepth 4000 in
theorem unsigned_any (c : Int) (n : Bool) (m : Nat) (x : Int) (w : World) (hm : m < 18446744073709551616) (x0 : -9223372036854775808 ≤ x) (x1 : x ≤ 9223372036854775807) :
    Calls Tryd.prog 67 #[.agg #[.int .i64 c, .bool n, .int .u64 (m : Int), .int .i64 x]] w fun e w' => e = .returned (.int .u64 (unsN c m x : Int)) ∧ Fr w w' := by
  unfold unsN
  by_cases c1 : c = 1
  · subst c1
    rw [if_pos rfl]
    go_enter Tryd.func67, Tryd.ntmps67
    go_wp2_with fail
    refine (joined_any m x _ hm x0 x1).mono ?_
    rintro e w1 ⟨rfl, f1⟩
    go_wp2_with fail
    go_ret
    exact ⟨rfl, (Fr.alloc _ _).trans f1⟩
  · rw [if_neg c1]
    have k1 : (c == 1) = false := by simpa using c1
    by_cases c2 : c = 2
    · subst c2
      rw [if_pos rfl]
      go_enter Tryd.func67, Tryd.ntmps67
      go_wp2_with fail
      go_ret
      exact ⟨rfl, Fr.alloc _ _⟩
    · rw [if_neg c2]
      have k2 : (c == 2) = false := by simpa using c2
      by_cases c3 : c = 3
      · subst c3
        rw [if_pos rfl]
        go_enter Tryd.func67, Tryd.ntmps67
        go_wp2_with fail
        go_ret
        exact ⟨rfl, Fr.alloc _ _⟩
      · rw [if_neg c3]
        have k3 : (c == 3) = false := by simpa using c3
        go_enter Tryd.func67, Tryd.ntmps67
        go_wp2_with fail
        go_ret
        exact ⟨rfl, Fr.alloc _ _⟩

/-- The bits that are tried for a value. -/
def triedN (c : Int) (n : Bool) (m : Nat) (x : Int) : Nat := if n = true then unsN c m x ||| 9223372036854775808 else unsN c m x
def okN (c : Int) (n : Bool) (m : Nat) (x : Int) : Bool := decide ((bC (triedN c n m x) : Int) = c ∧ bN (triedN c n m x) = n ∧ (bM (triedN c n m x) : Int) = m ∧ bX (triedN c n m x) = x)

theorem or_lt (b : Nat) (hb : b < 18446744073709551616) : b ||| 9223372036854775808 < 18446744073709551616 := Nat.or_lt_two_pow (n := 64) hb (by decide)
theorem or_sign (b : Nat) (hb : b < 18446744073709551616) : bits .or .u64 (b : Int) 9223372036854775808 = ((b ||| 9223372036854775808 : Nat) : Int) := by
  exact u64_or_nat b 9223372036854775808 hb (by omega)
theorem four_cells {w w1 : World} {v0 v1 v2 v3 : Value} {t : TypeId} (f : Fr (w.alloc (.cells #[v0, v1, v2, v3] t)) w1) : w1.cell? ⟨w.heap.size, 0, none⟩ = some v0 ∧ w1.cell? ⟨w.heap.size, 1, none⟩ = some v1 ∧ w1.cell? ⟨w.heap.size, 2, none⟩ = some v2 ∧ w1.cell? ⟨w.heap.size, 3, none⟩ = some v3 :=
  ⟨fr_cell f (by simp [go_sem]), fr_cell f (by simp [go_sem]), fr_cell f (by simp [go_sem]), fr_cell f (by simp [go_sem])⟩

set_option maxHeartbeats 1000000 in
set_option maxRecDepth 4000 in
theorem vbits_any (c : Int) (n : Bool) (m : Nat) (x : Int) (w : World) (hm : m < 18446744073709551616) (x0 : -9223372036854775808 ≤ x) (x1 : x ≤ 9223372036854775807) :
    Calls Tryd.prog 48 #[.agg #[.int .i64 c, .bool n, .int .u64 (m : Int), .int .i64 x]] w fun e w' => e = .returned (.tuple #[.int .u64 (if okN c n m x = true then (triedN c n m x : Int) else 0), .bool (okN c n m x)]) ∧ Fr w w' := by
  have lu := unsN_lt c m x
  obtain ⟨u, hu⟩ : ∃ u : Nat, unsN c m x = u := ⟨_, rfl⟩
  obtain ⟨T, hT⟩ : ∃ T : Nat, triedN c n m x = T := ⟨_, rfl⟩
  have lT : T < 18446744073709551616 := by
    rw [← hT]; unfold triedN
    split
    · exact or_lt _ lu
    · exact lu
  have HO : Hid (n = true → bits .or .u64 (u : Int) 9223372036854775808 = (T : Int)) := by
    refine hide ?_
    rintro rfl
    rw [← hu, or_sign _ lu, ← hT]
    rfl
  have HU : Hid (n = false → T = u) := by
    refine hide ?_
    rintro rfl
    rw [← hT, ← hu]
    rfl
  rw [hT]
  have ho : okN c n m x = decide ((bC T : Int) = c ∧ bN T = n ∧ (bM T : Int) = m ∧ bX T = x) := by unfold okN; rw [hT]
  rw [ho]
  have hof := fun w => of_any7 T w lT
  unfold bval at hof
  generalize bC T = C1 at *
  generalize bN T = N1 at *
  generalize bM T = M1 at *
  generalize bX T = X1 at *
  have HOF := hide hof
  obtain ⟨ok, hok⟩ : ∃ ok : Bool, decide ((C1 : Int) = c ∧ N1 = n ∧ (M1 : Int) = m ∧ X1 = x) = ok := ⟨_, rfl⟩
  rw [hok]
  have HK := hide hok
  clear hof ho hT hok
  go_enter Tryd.func48, Tryd.ntmps48
  go_wp2_with fail
  refine (unsigned_any c n m x _ hm x0 x1).mono ?_
  rintro e w1 ⟨rfl, f1⟩
  rw [hu]
  obtain ⟨d0, d1, d2, d3⟩ := four_cells f1
  have F := hide ((Fr.alloc _ _).trans f1)
  clear f1 hu lu
  cases n
  · obtain rfl := HU.out rfl
    clear HO HU
    go_wp2_with fail
    have e0 : ∀ p : FrBox w1, p.now.cell? ⟨w.heap.size, 0, none⟩ = some (.int .i64 c) := fun p => fr_cell p.fr d0
    have e1 : ∀ p : FrBox w1, p.now.cell? ⟨w.heap.size, 1, none⟩ = some (.bool false) := fun p => fr_cell p.fr d1
    have e2 : ∀ p : FrBox w1, p.now.cell? ⟨w.heap.size, 2, none⟩ = some (.int .u64 (m : Int)) := fun p => fr_cell p.fr d2
    have e3 : ∀ p : FrBox w1, p.now.cell? ⟨w.heap.size, 3, none⟩ = some (.int .i64 x) := fun p => fr_cell p.fr d3
    have k1 : Hid (∀ p : FrBox w1, Calls Tryd.prog 15 #[.int .u64 (T : Int)] p.now fun e w'' => e = .returned (.agg #[.int .i64 (C1 : Int), .bool N1, .int .u64 (M1 : Int), .int .i64 X1]) ∧ ∃ p : FrBox w1, w'' = p.now) := fun p => Calls.fr_of (HOF.out _)
    have nb := FrBox.some w1
    refine wp_region_fr (by kernel_rfl) (by kernel_rfl) ?_
    repeat (quiet_step (with_reducible exact k1.out _))
    refine wpQuiet_step (fun K hK => ?_)
    go_simp
    refine ⟨.bool (!ok), fun a => ?_, hK _ ?_⟩
    · rw [← HK.out]
      rcases Decidable.em ((C1 : Int) = c) with h1 | h1 <;> rcases Decidable.em ((M1 : Int) = m) with h2 | h2 <;> rcases Decidable.em (X1 = x) with h3 | h3 <;> cases N1 <;> simp [h1, h2, h3]
    clear hK K
    refine wpQuiet_nil ?_
    intro wq hq
    obtain ⟨p, hp⟩ := hq
    have fq := p.fr
    rw [← hp] at fq
    have FF := hide (F.out.trans fq)
    clear hp e0 e1 e2 e3 nb p k1 fq
    clear HK
    cases ok
    · simp only [Bool.not_false, Bool.false_eq_true, if_false]
      go_wp2_with fail
      go_ret2
      exact ⟨rfl, FF.out⟩
    · simp only [Bool.not_true, if_true]
      go_wp2_with fail
      go_ret2
      exact ⟨rfl, FF.out⟩
  · have ho := HO.out rfl
    clear HO HU
    go_wp2_with fail
    have e0 : ∀ p : FrBox w1, p.now.cell? ⟨w.heap.size, 0, none⟩ = some (.int .i64 c) := fun p => fr_cell p.fr d0
    have e1 : ∀ p : FrBox w1, p.now.cell? ⟨w.heap.size, 1, none⟩ = some (.bool true) := fun p => fr_cell p.fr d1
    have e2 : ∀ p : FrBox w1, p.now.cell? ⟨w.heap.size, 2, none⟩ = some (.int .u64 (m : Int)) := fun p => fr_cell p.fr d2
    have e3 : ∀ p : FrBox w1, p.now.cell? ⟨w.heap.size, 3, none⟩ = some (.int .i64 x) := fun p => fr_cell p.fr d3
    have k1 : Hid (∀ p : FrBox w1, Calls Tryd.prog 15 #[.int .u64 (T : Int)] p.now fun e w'' => e = .returned (.agg #[.int .i64 (C1 : Int), .bool N1, .int .u64 (M1 : Int), .int .i64 X1]) ∧ ∃ p : FrBox w1, w'' = p.now) := fun p => Calls.fr_of (HOF.out _)
    have nb := FrBox.some w1
    refine wp_region_fr (by kernel_rfl) (by kernel_rfl) ?_
    repeat (quiet_step (with_reducible exact k1.out _))
    refine wpQuiet_step (fun K hK => ?_)
    go_simp
    refine ⟨.bool (!ok), fun a => ?_, hK _ ?_⟩
    · rw [← HK.out]
      rcases Decidable.em ((C1 : Int) = c) with h1 | h1 <;> rcases Decidable.em ((M1 : Int) = m) with h2 | h2 <;> rcases Decidable.em (X1 = x) with h3 | h3 <;> cases N1 <;> simp [h1, h2, h3]
    clear hK K
    refine wpQuiet_nil ?_
    intro wq hq
    obtain ⟨p, hp⟩ := hq
    have fq := p.fr
    rw [← hp] at fq
    have FF := hide (F.out.trans fq)
    clear hp e0 e1 e2 e3 nb p k1 fq
    clear HK
    cases ok
    · simp only [Bool.not_false, Bool.false_eq_true, if_false]
      go_wp2_with fail
      go_ret2
      exact ⟨rfl, FF.out⟩
    · simp only [Bool.not_true, if_true]
      go_wp2_with fail
      go_ret2
      exact ⟨rfl, FF.out⟩
end Go.Proofs.YtmaapdmbkhoigaaDoor

/- The values of 64 bits: Of, and the document's Of. -/
namespace Go.Proofs.YtmaapdmbkhoigaaDoor
set_option linter.unusedVariables false
set_option linter.unusedSimpArgs false
open Go.RowKit

theorem results_fourr {fn : Func} {p : Tmp} (h : fn.results = #[.cell p 53]) (tmps : Array Value) (w : World) (b : Nat) (v0 v1 v2 v3 : Value) (hp : tmps.getD p undef = .pointer (some ⟨b, 0, none⟩)) (h0 : w.cell? ⟨b, 0, none⟩ = some v0) (h1 : w.cell? ⟨b, 1, none⟩ = some v1) (h2 : w.cell? ⟨b, 2, none⟩ = some v2) (h3 : w.cell? ⟨b, 3, none⟩ = some v3) :
    (results fn tmps).run Tryd.prog w = .ok (.agg #[v0, v1, v2, v3]) w := by
  have hp' : tmps[p]?.getD undef = .pointer (some ⟨b, 0, none⟩) := by simpa using hp
  simp [results, h, hp']
  go_simp

theorem results_alloc4r {fn : Func} {p : Tmp} (h : fn.results = #[.cell p 53]) (tmps : Array Value) (w : World) (v0 v1 v2 v3 : Value) (hp : tmps.getD p undef = .pointer (some ⟨w.heap.size, 0, none⟩)) :
    (results fn tmps).run Tryd.prog (w.alloc (Obj.cells #[v0, v1, v2, v3] 53)) = .ok (.agg #[v0, v1, v2, v3]) (w.alloc (Obj.cells #[v0, v1, v2, v3] 53)) :=
  results_fourr h tmps _ w.heap.size v0 v1 v2 v3 hp (by go_simp) (by go_simp) (by go_simp) (by go_simp)

set_option maxHeartbeats 4000000 in
set_option maxRecDepth 4000 in
theorem refOf_any7 (b : Nat) (w : World) (hb : b < 18446744073709551616) :
    Calls Tryd.prog 17 #[.int .u64 (b : Int)] w fun e w' => e = .returned (bval b) ∧ Fr w w' := by
  have r2 : Hid ((if 9223372036854775808 ≤ b then ((b : Int) - 9223372036854775808) / 4503599627370496 else (b : Int) / 4503599627370496) = ((bE b : Nat) : Int)) := by refine hide ?_; unfold bE; split <;> omega
  have r3 : Hid ((if 9223372036854775808 ≤ b then ((b : Int) - 9223372036854775808) % 4503599627370496 else (b : Int) % 4503599627370496) = ((bF b : Nat) : Int)) := by refine hide ?_; unfold bF; split <;> omega
  have lE : bE b < 2048 := Nat.mod_lt _ (by omega)
  have lF : bF b < 4503599627370496 := Nat.mod_lt _ (by omega)
  unfold bval bC bN bM bX bS
  generalize bE b = E at *
  generalize bF b = F at *
  by_cases s : 9223372036854775808 ≤ b
  · simp only [decide_eq_true s]
    rw [if_pos s] at r2 r3
    obtain ⟨B, hB⟩ : ∃ B : Int, (b : Int) = B := ⟨_, rfl⟩
    have B0 : 9223372036854775808 ≤ B := by omega
    have B1 : B < 18446744073709551616 := by omega
    rw [hB] at r2 r3 ⊢
    clear hB s hb
    by_cases e1 : E = 2047
    · by_cases f0 : F = 0
      · subst e1
        subst f0
        go_enter Tryd.func17, Tryd.ntmps17
        go_upto_region 6 with fail
        rw [r2.out, r3.out]
        clear r2 r3
        go_wp2_with fail
        (try simp only [Exit.inBlock, Exit.then])
        refine bodyPost_ret (results_alloc4r rfl _ w _ _ _ _ rfl) rfl ⟨?_, Fr.alloc _ _⟩
        (try rfl)
      · subst e1
        have hF : 0 < F := by omega
        simp only [if_true, f0, if_false, ne_eq, not_false_eq_true, and_self]
        go_enter Tryd.func17, Tryd.ntmps17
        go_upto_region 6 with fail
        rw [r2.out, r3.out]
        clear r2 r3
        go_wp2_with fail
        (try simp only [Exit.inBlock, Exit.then])
        refine bodyPost_ret (results_alloc4r rfl _ w _ _ _ _ rfl) rfl ⟨?_, Fr.alloc _ _⟩
        (try rfl)
    · by_cases e0 : E = 0
      · by_cases f0 : F = 0
        · subst f0
          subst e0
          go_enter Tryd.func17, Tryd.ntmps17
          go_upto_region 6 with fail
          rw [r2.out, r3.out]
          clear r2 r3
          go_wp2_with fail
          (try simp only [Exit.inBlock, Exit.then])
          refine bodyPost_ret (results_alloc4r rfl _ w _ _ _ _ rfl) rfl ⟨?_, Fr.alloc _ _⟩
          (try rfl)
        · subst e0
          have hF : 0 < F := by omega
          simp only [if_true, f0, if_false, ne_eq, not_false_eq_true, and_self, and_false, Nat.reduceEqDiff, false_and]
          go_enter Tryd.func17, Tryd.ntmps17
          go_upto_region 6 with fail
          rw [r2.out, r3.out]
          clear r2 r3
          go_wp2_with fail
          (try simp only [Exit.inBlock, Exit.then])
          refine bodyPost_ret (results_alloc4r rfl _ w _ _ _ _ rfl) rfl ⟨?_, Fr.alloc _ _⟩
          (try rfl)
      · have hE1 : ((E : Int) == 2047) = false := by simp only [beq_eq_false_iff_ne]; omega
        have hE0 : ((E : Int) == 0) = false := by simp only [beq_eq_false_iff_ne]; omega
        simp only [if_true, e1, e0, if_false, ne_eq, not_false_eq_true, and_self, false_and]
        go_enter Tryd.func17, Tryd.ntmps17
        go_upto_region 6 with fail
        rw [r2.out, r3.out]
        clear r2 r3
        go_wp2_with fail
        (try simp only [Exit.inBlock, Exit.then])
        refine bodyPost_ret (results_alloc4r rfl _ w _ _ _ _ rfl) rfl ⟨?_, Fr.alloc _ _⟩
        rw [show (((F + 4503599627370496 : Nat) : Int)) = (F : Int) + 4503599627370496 by omega]
        first | rfl | (rw [show (E : Int) - 1075 = (E : Int) - 1 + -1074 by omega]; rfl)
  · simp only [decide_eq_false s]
    rw [if_neg s] at r2 r3
    obtain ⟨B, hB⟩ : ∃ B : Int, (b : Int) = B := ⟨_, rfl⟩
    have B0 : 0 ≤ B := by omega
    have B1 : B < 9223372036854775808 := by omega
    rw [hB] at r2 r3 ⊢
    clear hB s hb
    by_cases e1 : E = 2047
    · by_cases f0 : F = 0
      · subst e1
        subst f0
        go_enter Tryd.func17, Tryd.ntmps17
        go_upto_region 6 with fail
        rw [r2.out, r3.out]
        clear r2 r3
        go_wp2_with fail
        (try simp only [Exit.inBlock, Exit.then])
        refine bodyPost_ret (results_alloc4r rfl _ w _ _ _ _ rfl) rfl ⟨?_, Fr.alloc _ _⟩
        rw [decide_eq_false (show ¬ (9223372036854775808 : Int) ≤ B by omega)]
        (try rfl)
      · subst e1
        have hF : 0 < F := by omega
        simp only [if_true, f0, if_false, ne_eq, not_false_eq_true, and_self]
        go_enter Tryd.func17, Tryd.ntmps17
        go_upto_region 6 with fail
        rw [r2.out, r3.out]
        clear r2 r3
        go_wp2_with fail
        (try simp only [Exit.inBlock, Exit.then])
        refine bodyPost_ret (results_alloc4r rfl _ w _ _ _ _ rfl) rfl ⟨?_, Fr.alloc _ _⟩
        (try rfl)
    · by_cases e0 : E = 0
      · by_cases f0 : F = 0
        · subst f0
          subst e0
          go_enter Tryd.func17, Tryd.ntmps17
          go_upto_region 6 with fail
          rw [r2.out, r3.out]
          clear r2 r3
          go_wp2_with fail
          (try simp only [Exit.inBlock, Exit.then])
          refine bodyPost_ret (results_alloc4r rfl _ w _ _ _ _ rfl) rfl ⟨?_, Fr.alloc _ _⟩
          rw [decide_eq_false (show ¬ (9223372036854775808 : Int) ≤ B by omega)]
          (try rfl)
        · subst e0
          have hF : 0 < F := by omega
          simp only [if_true, f0, if_false, ne_eq, not_false_eq_true, and_self, and_false, Nat.reduceEqDiff, false_and]
          go_enter Tryd.func17, Tryd.ntmps17
          go_upto_region 6 with fail
          rw [r2.out, r3.out]
          clear r2 r3
          go_wp2_with fail
          (try simp only [Exit.inBlock, Exit.then])
          refine bodyPost_ret (results_alloc4r rfl _ w _ _ _ _ rfl) rfl ⟨?_, Fr.alloc _ _⟩
          rw [decide_eq_false (show ¬ (9223372036854775808 : Int) ≤ B by omega)]
          (try rfl)
      · have hE1 : ((E : Int) == 2047) = false := by simp only [beq_eq_false_iff_ne]; omega
        have hE0 : ((E : Int) == 0) = false := by simp only [beq_eq_false_iff_ne]; omega
        simp only [if_true, e1, e0, if_false, ne_eq, not_false_eq_true, and_self, false_and]
        go_enter Tryd.func17, Tryd.ntmps17
        go_upto_region 6 with fail
        rw [r2.out, r3.out]
        clear r2 r3
        go_wp2_with fail
        (try simp only [Exit.inBlock, Exit.then])
        refine bodyPost_ret (results_alloc4r rfl _ w _ _ _ _ rfl) rfl ⟨?_, Fr.alloc _ _⟩
        rw [decide_eq_false (show ¬ (9223372036854775808 : Int) ≤ B by omega)]
        rw [show (((F + 4503599627370496 : Nat) : Int)) = (F : Int) + 4503599627370496 by omega]
        first | rfl | (rw [show (E : Int) - 1075 = (E : Int) - 1 + -1074 by omega]; rfl)
end Go.Proofs.YtmaapdmbkhoigaaDoor

/- Plain maths of layer 7: values of 64 bits as whole numbers of 2^-1074, and the bits nearest to a quotient. -/
namespace Go.Proofs.YtmaapdmbkhoigaaDoor
set_option linter.unusedVariables false

end Go.Proofs.YtmaapdmbkhoigaaDoor

/- The bits nearest to a quotient: topBit, wholeNear, Nearest. -/
namespace Go.Proofs.YtmaapdmbkhoigaaDoor
set_option linter.unusedVariables false
set_option linter.unusedSimpArgs false
open Go.RowKit

end Go.Proofs.YtmaapdmbkhoigaaDoor

/- Value of any value. -/
namespace Go.Proofs.YtmaapdmbkhoigaaDoor
set_option linter.unusedVariables false
set_option linter.unusedSimpArgs false
open Go.RowKit

attribute [local go_sem] World.cell?_alloc_some
theorem ok_range {c : Int} {g : Bool} {m : Nat} {x : Int} (h : okN c g m x = true) : -1074 ≤ x ∧ x ≤ 971 := by
  have := of_decide_eq_true h
  have h4 := this.2.2.2
  rw [← h4]
  have lE : bE (triedN c g m x) < 2048 := Nat.mod_lt _ (by omega)
  unfold bX
  split
  · omega
  · split
    · split <;> omega
    · omega

set_option maxHeartbeats 2000000 in
set_option maxRecDepth 4000 in
theorem valueR_other (c : Int) (g : Bool) (m : Nat) (x : Int) (w : World) (hm : m < 18446744073709551616) (x0 : -9223372036854775808 ≤ x) (x1 : x ≤ 9223372036854775807) (h0 : c ≠ 0) (h1 : c ≠ 1) :
    Calls Tryd.prog 32 #[.agg #[.int .i64 c, .bool g, .int .u64 (m : Int), .int .i64 x]] w fun e w' => e = .returned (.tuple #[.agg #[.slice none 0 0, .slice none 0 0], .bool false]) ∧ Fr w w' := by
  have z0 : (c != 0) = true := by simpa using h0
  have z1 : (c != 1) = true := by simpa using h1
  go_enter Tryd.func32, Tryd.ntmps32
  go_wp2_with fail
  have s2 : Slot2 w ((w.alloc (Obj.cells #[.int .i64 c, .bool g, .int .u64 (m : Int), .int .i64 x] 42)).alloc (Obj.cells #[Value.slice none 0 0, Value.slice none 0 0] 80)) (w.heap.size + 1) (.slice none 0 0) (.slice none 0 0) := by
    simpa using Slot2.new (Fr.alloc w (Obj.cells #[.int .i64 c, .bool g, .int .u64 (m : Int), .int .i64 x] 42)) none 0 0 none 0 0 80
  exact bodyPost_ret (results_rat_ok rfl _ _ (w.heap.size + 1) _ _ rfl s2.1 s2.2.1) rfl ⟨rfl, (Fr.alloc _ _).trans (Fr.alloc _ _)⟩

set_option maxHeartbeats 2000000 in
set_option maxRecDepth 4000 in
theorem valueR_yes (c : Int) (g : Bool) (m : Nat) (x : Int) (w : World) (hm : m < 18446744073709551616) (x0 : -9223372036854775808 ≤ x) (x1 : x ≤ 9223372036854775807) (hT : Tab w) (h0 : c = 0 ∨ c = 1) (hk : okN c g m x = true) :
    Calls Tryd.prog 32 #[.agg #[.int .i64 c, .bool g, .int .u64 (m : Int), .int .i64 x]] w fun e w' => ∃ v, e = .returned (.tuple #[v, .bool true]) ∧ IsRat w' v (m * 2 ^ x.toNat) (2 ^ (-x).toNat) ∧ Fr w w' := by
  have HT := hide hT
  have VB := hide (fun wz => vbits_any c g m x wz hm x0 x1)
  obtain ⟨y0, y1⟩ := ok_range hk
  rw [hk] at VB
  have hw : IntKind.i64.wrap (-x) = -x := by rw [IntKind.wrap_i64]; omega
  have nm : nlen 4294967296 m ≤ 2 := wsm hm
  obtain ⟨A, hA⟩ : ∃ A, m * 2 ^ x.toNat = A := ⟨_, rfl⟩
  obtain ⟨B, hB⟩ : ∃ B, 1 * 2 ^ (-x).toNat = B := ⟨_, rfl⟩
  have nA : nlen 4294967296 A ≤ 974 := by
    have h1 : nlen 4294967296 (2 ^ x.toNat) ≤ 972 := by
      have := nlen_pow (x := 2) (n := 1) (by have := wsm (x := 2) (by omega); exact Nat.le_trans (nlen_le b32 (k := 1) (by decide)) (by omega)) x.toNat; omega
    rw [← hA]
    exact nlen_mul b32 nm h1
  have nB : nlen 4294967296 B ≤ 1075 := by
    rw [← hB, Nat.one_mul]
    have := nlen_pow (x := 2) (n := 1) (nlen_le b32 (k := 1) (by decide)) (-x).toNat; omega
  have hB0 : B ≠ 0 := by rw [← hB, Nat.one_mul]; exact Nat.ne_of_gt (Nat.pow_pos (by omega))
  have hB2 := hB
  rw [Nat.one_mul] at hB2
  rw [hA, hB2]
  have HA := hide hA
  have HB := hide hB
  clear hT hk hA hB hB2
  have fin : Hid (∀ W w1, W = (w.alloc (Obj.cells #[.int .i64 c, .bool g, .int .u64 (m : Int), .int .i64 x] 42)).alloc (Obj.cells #[Value.slice none 0 0, Value.slice none 0 0] 80) → Fr W w1 → Slot2 w w1 (w.heap.size + 1) (.slice none 0 0) (.slice none 0 0) ∧ Fr w w1 ∧ w1.cell? ⟨w.heap.size, 2, none⟩ = some (.int .u64 (m : Int)) ∧ w1.cell? ⟨w.heap.size, 3, none⟩ = some (.int .i64 x)) := by
    rintro W w1 rfl f1
    exact ⟨Slot2.fr (by simpa using Slot2.new (Fr.alloc w (Obj.cells #[.int .i64 c, .bool g, .int .u64 (m : Int), .int .i64 x] 42)) none 0 0 none 0 0 80) f1, ((Fr.alloc _ _).trans (Fr.alloc _ _)).trans f1, fr_cell f1 (by simp [go_sem]), fr_cell f1 (by simp [go_sem])⟩
  have RUN : Hid (∀ w1, Slot2 w w1 (w.heap.size + 1) (.slice none 0 0) (.slice none 0 0) → True) := fun _ _ => trivial
  rcases h0 with rfl | rfl
  · go_enter Tryd.func32, Tryd.ntmps32
    go_wp2_with fail
    refine (VB.out _).mono ?_
    rintro e w1 ⟨rfl, f1⟩
    obtain ⟨s2, FW, c2, c3⟩ := fin.out _ _ rfl f1
    have S2 := hide s2
    have FW := hide FW
    have HT := hide (Tab.fr HT.out FW.out)
    clear s2 f1 fin VB RUN
    have S2 := hide (S2.out.fr (Fr.drew _))
    have HT := hide (HT.out.fr (Fr.drew _))
    have FW := hide (FW.out.trans (Fr.drew _))
    have d2 := fr_cell (Fr.drew _) c2
    have d3 := fr_cell (Fr.drew _) c3
    go_wp2_with fail
    refine wp_region_held_drew (S := (fun w' => w'.cell? ⟨w.heap.size, 2, none⟩ = some (.int .u64 (m : Int)) ∧ w'.cell? ⟨w.heap.size, 3, none⟩ = some (.int .i64 x))) (by kernel_rfl) ?_ (fun hHeld => ?_)
    · exact ⟨d2, d3⟩
    obtain ⟨wd, hwd⟩ : ∃ wd, wd = w1.drew := ⟨_, rfl⟩
    rw [← hwd] at hHeld S2 FW HT d2 d3 ⊢
    clear hwd
    refine wpAnyH_take (i := 0) (v := ?_) rfl (by kernel_rfl) (by kernel_rfl) (by kernel_rfl) (fun _ _ _ h => h) (Or.inl ⟨by rfl, ?_⟩) (by assumption) ?_
    rotate_left
    · (intro w hSw; (try dsimp only at hSw); go_simp; try with_reducible rfl)
    (try simp only [Act.put, List.getElem_toArray, List.getElem_cons_zero, List.getElem_cons_succ, List.setIfInBounds_toArray, List.set_cons_zero, List.set_cons_succ])
    refine wpAnyH_take (i := 1) (v := ?_) rfl (by kernel_rfl) (by kernel_rfl) (by kernel_rfl) (fun _ _ _ h => h) (Or.inl ⟨by rfl, ?_⟩) (by assumption) ?_
    rotate_left
    · (intro w hSw; (try dsimp only at hSw); go_simp; try with_reducible rfl)
    (try simp only [Act.put, List.getElem_toArray, List.getElem_cons_zero, List.getElem_cons_succ, List.setIfInBounds_toArray, List.set_cons_zero, List.set_cons_succ])
    refine wpAnyH_take (i := 3) (v := ?_) rfl (by kernel_rfl) (by kernel_rfl) (by kernel_rfl) (fun _ _ _ h => h) (Or.inl ⟨by rfl, ?_⟩) (by assumption) ?_
    rotate_left
    · (intro w hSw; (try dsimp only at hSw); go_simp; try with_reducible rfl)
    (try simp only [Act.put, List.getElem_toArray, List.getElem_cons_zero, List.getElem_cons_succ, List.setIfInBounds_toArray, List.set_cons_zero, List.set_cons_succ])
    refine wpAnyH_take (i := 4) (v := ?_) rfl (by kernel_rfl) (by kernel_rfl) (by kernel_rfl) (fun _ _ _ h => h) (Or.inl ⟨by rfl, ?_⟩) (by assumption) ?_
    rotate_left
    · (intro w hSw; (try dsimp only at hSw); go_simp; try with_reducible rfl)
    (try simp only [Act.put, List.getElem_toArray, List.getElem_cons_zero, List.getElem_cons_succ, List.setIfInBounds_toArray, List.set_cons_zero, List.set_cons_succ])
    refine wpAnyH_take (i := 7) (v := ?_) rfl (by kernel_rfl) (by kernel_rfl) (by kernel_rfl) (fun _ _ _ h => h) (Or.inl ⟨by rfl, ?_⟩) (by assumption) ?_
    rotate_left
    · (intro w hSw; (try dsimp only at hSw); go_simp; try with_reducible rfl)
    (try simp only [Act.put, List.getElem_toArray, List.getElem_cons_zero, List.getElem_cons_succ, List.setIfInBounds_toArray, List.set_cons_zero, List.set_cons_succ])
    refine wpAnyH_take (i := 8) (v := ?_) rfl (by kernel_rfl) (by kernel_rfl) (by kernel_rfl) (fun _ _ _ h => h) (Or.inl ⟨by rfl, ?_⟩) (by assumption) ?_
    rotate_left
    · (intro w hSw; (try dsimp only at hSw); go_simp; try with_reducible rfl)
    (try simp only [Act.put, List.getElem_toArray, List.getElem_cons_zero, List.getElem_cons_succ, List.setIfInBounds_toArray, List.set_cons_zero, List.set_cons_succ])
    refine wpAnyH_take (i := 9) (v := ?_) rfl (by kernel_rfl) (by kernel_rfl) (by kernel_rfl) (fun _ _ _ h => h) (Or.inl ⟨by rfl, ?_⟩) (by assumption) ?_
    rotate_left
    · (intro w hSw; (try dsimp only at hSw); go_simp; try with_reducible rfl)
    (try simp only [Act.put, List.getElem_toArray, List.getElem_cons_zero, List.getElem_cons_succ, List.setIfInBounds_toArray, List.set_cons_zero, List.set_cons_succ])
    refine wpAnyH_ready (rs := [2]) (by kernel_rfl) (by simp) ?_
    refine AllReadyH.cons rfl (fun K hK => ?_) AllReadyH.nil
    go_simp
    refine (ofc_any (m : Int) m _ rfl hm).mono ?_
    rintro e wa ⟨a1, c1, rfl, iy, _, fy⟩
    have IA := hide iy
    have d2 := fr_cell fy d2
    have d3 := fr_cell fy d3
    have S2 := hide (S2.out.fr fy)
    have HT := hide (HT.out.fr fy)
    have FW := hide (FW.out.trans fy)
    clear iy fy 
    (try go_wp2_with fail)
    refine hK.out _ _ ?_ (fun hHeld => ?_)
    · (try dsimp only)
      exact ⟨d2, d3⟩
    clear hK K
    (try simp only [Act.put, List.getElem_toArray, List.getElem_cons_zero, List.getElem_cons_succ, List.setIfInBounds_toArray, List.set_cons_zero, List.set_cons_succ])
    refine wpAnyH_ready (rs := [5]) (by kernel_rfl) (by simp) ?_
    refine AllReadyH.cons rfl (fun K hK => ?_) AllReadyH.nil
    go_simp
    refine (upc_any _ m x A _ IA.out (by omega) (by omega) (by omega) HA.out).mono ?_
    rintro e wb ⟨a2, c2, rfl, iy, fy⟩
    have IB := hide iy
    have d2 := fr_cell fy d2
    have d3 := fr_cell fy d3
    have S2 := hide (S2.out.fr fy)
    have HT := hide (HT.out.fr fy)
    have FW := hide (FW.out.trans fy)
    clear iy fy IA
    (try go_wp2_with fail)
    refine hK.out _ _ ?_ (fun hHeld => ?_)
    · (try dsimp only)
      exact ⟨d2, d3⟩
    clear hK K
    (try simp only [Act.put, List.getElem_toArray, List.getElem_cons_zero, List.getElem_cons_succ, List.setIfInBounds_toArray, List.set_cons_zero, List.set_cons_succ])
    refine wpAnyH_ready (rs := [6]) (by kernel_rfl) (by simp) ?_
    refine AllReadyH.cons rfl (fun K hK => ?_) AllReadyH.nil
    go_simp
    refine (ofc_any 1 1 _ rfl (by omega)).mono ?_
    rintro e wc ⟨a3, c3, rfl, iy, _, fy⟩
    have IC := hide iy
    have d2 := fr_cell fy d2
    have d3 := fr_cell fy d3
    have S2 := hide (S2.out.fr fy)
    have HT := hide (HT.out.fr fy)
    have IB := hide (IB.out.fr fy)
    have FW := hide (FW.out.trans fy)
    clear iy fy 
    (try go_wp2_with fail)
    refine hK.out _ _ ?_ (fun hHeld => ?_)
    · (try dsimp only)
      exact ⟨d2, d3⟩
    clear hK K
    (try simp only [Act.put, List.getElem_toArray, List.getElem_cons_zero, List.getElem_cons_succ, List.setIfInBounds_toArray, List.set_cons_zero, List.set_cons_succ])
    refine wpAnyH_ready (rs := [10]) (by kernel_rfl) (by simp) ?_
    refine AllReadyH.cons rfl (fun K hK => ?_) AllReadyH.nil
    go_simp
    refine (upc_any _ 1 (-x) B _ IC.out (by have := wsm (x := 1) (by omega); omega) (by omega) (by omega) HB.out).mono ?_
    rintro e we ⟨a4, c4, rfl, iy, fy⟩
    have ID := hide iy
    have d2 := fr_cell fy d2
    have d3 := fr_cell fy d3
    have S2 := hide (S2.out.fr fy)
    have HT := hide (HT.out.fr fy)
    have IB := hide (IB.out.fr fy)
    have FW := hide (FW.out.trans fy)
    clear iy fy IC
    (try go_wp2_with fail)
    refine hK.out _ _ ?_ (fun hHeld => ?_)
    · (try dsimp only)
      exact ⟨d2, d3⟩
    clear hK K
    (try simp only [Act.put, List.getElem_toArray, List.getElem_cons_zero, List.getElem_cons_succ, List.setIfInBounds_toArray, List.set_cons_zero, List.set_cons_succ])
    refine wpAnyH_ready (rs := [11]) (by kernel_rfl) (by simp) ?_
    refine AllReadyH.cons rfl (fun K hK => ?_) AllReadyH.nil
    go_simp
    refine (lowest_any _ _ A B _ HT.out IB.out ID.out (by omega) (by omega) hB0).mono ?_
    rintro e wr ⟨v, rfl, ir, fy⟩
    have RV := hide ir
    have d2 := fr_cell fy d2
    have d3 := fr_cell fy d3
    have S2 := hide (S2.out.fr fy)
    have FW := hide (FW.out.trans fy)
    obtain ⟨u1, u2, u3, u4, u5, u6, rfl⟩ := ir.form
    clear ir fy
    (try go_wp2_with fail)
    refine hK.out _ _ ?_ (fun hHeld => ?_)
    · (try dsimp only)
      exact ⟨d2, d3⟩
    clear hK K
    (try simp only [Act.put, List.getElem_toArray, List.getElem_cons_zero, List.getElem_cons_succ, List.setIfInBounds_toArray, List.set_cons_zero, List.set_cons_succ])
    refine wpAnyH_ready (rs := [12]) (by kernel_rfl) (by simp) ?_
    refine AllReadyH.cons rfl (fun K hK => ?_) AllReadyH.nil
    have q_ := S2.out.1
    have q2_ := S2.out.2.1
    have z_ := S2.out.2.2.1 0
    have z2_ := S2.out.2.2.1 1
    have RV := hide (S2.out.rat RV.out u1 u2 u3 (.slice u4 u5 u6))
    have FW := hide (S2.out.set_fr FW.out (.slice u1 u2 u3) (.slice u4 u5 u6))
    have S2 := hide (S2.out.set u1 u2 u3 u4 u5 u6)
    go_simp
    (try go_wp2_with fail)
    refine hK.out _ _ ?_ (fun hHeld => ?_)
    · (try dsimp only)
      exact ⟨(World.cell?_setCell_other _ _ _ _ (fun e => by injection e; omega)).trans ((World.cell?_setCell_other _ _ _ _ (fun e => by injection e; omega)).trans d2), (World.cell?_setCell_other _ _ _ _ (fun e => by injection e; omega)).trans ((World.cell?_setCell_other _ _ _ _ (fun e => by injection e; omega)).trans d3)⟩
    clear hK K
    (try simp only [Act.put, List.getElem_toArray, List.getElem_cons_zero, List.getElem_cons_succ, List.setIfInBounds_toArray, List.set_cons_zero, List.set_cons_succ])
    refine wpAnyH_take (i := 13) (v := ?_) rfl (by kernel_rfl) (by kernel_rfl) (by kernel_rfl) (fun _ _ _ h => h) (Or.inl ⟨by rfl, ?_⟩) (by assumption) ?_
    rotate_left
    · (intro w hSw; (try dsimp only at hSw); go_simp; try with_reducible rfl)
    (try simp only [Act.put, List.getElem_toArray, List.getElem_cons_zero, List.getElem_cons_succ, List.setIfInBounds_toArray, List.set_cons_zero, List.set_cons_succ])
    refine wpAnyH_done (by kernel_rfl) ?_ _
    go_wp2_with fail
    exact bodyPost_ret (results_rat_ok rfl _ _ (w.heap.size + 1) _ _ rfl S2.out.1 S2.out.2.1) rfl ⟨_, rfl, RV.out, FW.out⟩
  · go_enter Tryd.func32, Tryd.ntmps32
    go_wp2_with fail
    refine (VB.out _).mono ?_
    rintro e w1 ⟨rfl, f1⟩
    obtain ⟨s2, FW, c2, c3⟩ := fin.out _ _ rfl f1
    have S2 := hide s2
    have FW := hide FW
    have HT := hide (Tab.fr HT.out FW.out)
    clear s2 f1 fin VB RUN
    have S2 := hide (S2.out.fr (Fr.drew _))
    have HT := hide (HT.out.fr (Fr.drew _))
    have FW := hide (FW.out.trans (Fr.drew _))
    have d2 := fr_cell (Fr.drew _) c2
    have d3 := fr_cell (Fr.drew _) c3
    go_wp2_with fail
    refine wp_region_held_drew (S := (fun w' => w'.cell? ⟨w.heap.size, 2, none⟩ = some (.int .u64 (m : Int)) ∧ w'.cell? ⟨w.heap.size, 3, none⟩ = some (.int .i64 x))) (by kernel_rfl) ?_ (fun hHeld => ?_)
    · exact ⟨d2, d3⟩
    obtain ⟨wd, hwd⟩ : ∃ wd, wd = w1.drew := ⟨_, rfl⟩
    rw [← hwd] at hHeld S2 FW HT d2 d3 ⊢
    clear hwd
    refine wpAnyH_take (i := 0) (v := ?_) rfl (by kernel_rfl) (by kernel_rfl) (by kernel_rfl) (fun _ _ _ h => h) (Or.inl ⟨by rfl, ?_⟩) (by assumption) ?_
    rotate_left
    · (intro w hSw; (try dsimp only at hSw); go_simp; try with_reducible rfl)
    (try simp only [Act.put, List.getElem_toArray, List.getElem_cons_zero, List.getElem_cons_succ, List.setIfInBounds_toArray, List.set_cons_zero, List.set_cons_succ])
    refine wpAnyH_take (i := 1) (v := ?_) rfl (by kernel_rfl) (by kernel_rfl) (by kernel_rfl) (fun _ _ _ h => h) (Or.inl ⟨by rfl, ?_⟩) (by assumption) ?_
    rotate_left
    · (intro w hSw; (try dsimp only at hSw); go_simp; try with_reducible rfl)
    (try simp only [Act.put, List.getElem_toArray, List.getElem_cons_zero, List.getElem_cons_succ, List.setIfInBounds_toArray, List.set_cons_zero, List.set_cons_succ])
    refine wpAnyH_take (i := 3) (v := ?_) rfl (by kernel_rfl) (by kernel_rfl) (by kernel_rfl) (fun _ _ _ h => h) (Or.inl ⟨by rfl, ?_⟩) (by assumption) ?_
    rotate_left
    · (intro w hSw; (try dsimp only at hSw); go_simp; try with_reducible rfl)
    (try simp only [Act.put, List.getElem_toArray, List.getElem_cons_zero, List.getElem_cons_succ, List.setIfInBounds_toArray, List.set_cons_zero, List.set_cons_succ])
    refine wpAnyH_take (i := 4) (v := ?_) rfl (by kernel_rfl) (by kernel_rfl) (by kernel_rfl) (fun _ _ _ h => h) (Or.inl ⟨by rfl, ?_⟩) (by assumption) ?_
    rotate_left
    · (intro w hSw; (try dsimp only at hSw); go_simp; try with_reducible rfl)
    (try simp only [Act.put, List.getElem_toArray, List.getElem_cons_zero, List.getElem_cons_succ, List.setIfInBounds_toArray, List.set_cons_zero, List.set_cons_succ])
    refine wpAnyH_take (i := 7) (v := ?_) rfl (by kernel_rfl) (by kernel_rfl) (by kernel_rfl) (fun _ _ _ h => h) (Or.inl ⟨by rfl, ?_⟩) (by assumption) ?_
    rotate_left
    · (intro w hSw; (try dsimp only at hSw); go_simp; try with_reducible rfl)
    (try simp only [Act.put, List.getElem_toArray, List.getElem_cons_zero, List.getElem_cons_succ, List.setIfInBounds_toArray, List.set_cons_zero, List.set_cons_succ])
    refine wpAnyH_take (i := 8) (v := ?_) rfl (by kernel_rfl) (by kernel_rfl) (by kernel_rfl) (fun _ _ _ h => h) (Or.inl ⟨by rfl, ?_⟩) (by assumption) ?_
    rotate_left
    · (intro w hSw; (try dsimp only at hSw); go_simp; try with_reducible rfl)
    (try simp only [Act.put, List.getElem_toArray, List.getElem_cons_zero, List.getElem_cons_succ, List.setIfInBounds_toArray, List.set_cons_zero, List.set_cons_succ])
    refine wpAnyH_take (i := 9) (v := ?_) rfl (by kernel_rfl) (by kernel_rfl) (by kernel_rfl) (fun _ _ _ h => h) (Or.inl ⟨by rfl, ?_⟩) (by assumption) ?_
    rotate_left
    · (intro w hSw; (try dsimp only at hSw); go_simp; try with_reducible rfl)
    (try simp only [Act.put, List.getElem_toArray, List.getElem_cons_zero, List.getElem_cons_succ, List.setIfInBounds_toArray, List.set_cons_zero, List.set_cons_succ])
    refine wpAnyH_ready (rs := [2]) (by kernel_rfl) (by simp) ?_
    refine AllReadyH.cons rfl (fun K hK => ?_) AllReadyH.nil
    go_simp
    refine (ofc_any (m : Int) m _ rfl hm).mono ?_
    rintro e wa ⟨a1, c1, rfl, iy, _, fy⟩
    have IA := hide iy
    have d2 := fr_cell fy d2
    have d3 := fr_cell fy d3
    have S2 := hide (S2.out.fr fy)
    have HT := hide (HT.out.fr fy)
    have FW := hide (FW.out.trans fy)
    clear iy fy 
    (try go_wp2_with fail)
    refine hK.out _ _ ?_ (fun hHeld => ?_)
    · (try dsimp only)
      exact ⟨d2, d3⟩
    clear hK K
    (try simp only [Act.put, List.getElem_toArray, List.getElem_cons_zero, List.getElem_cons_succ, List.setIfInBounds_toArray, List.set_cons_zero, List.set_cons_succ])
    refine wpAnyH_ready (rs := [5]) (by kernel_rfl) (by simp) ?_
    refine AllReadyH.cons rfl (fun K hK => ?_) AllReadyH.nil
    go_simp
    refine (upc_any _ m x A _ IA.out (by omega) (by omega) (by omega) HA.out).mono ?_
    rintro e wb ⟨a2, c2, rfl, iy, fy⟩
    have IB := hide iy
    have d2 := fr_cell fy d2
    have d3 := fr_cell fy d3
    have S2 := hide (S2.out.fr fy)
    have HT := hide (HT.out.fr fy)
    have FW := hide (FW.out.trans fy)
    clear iy fy IA
    (try go_wp2_with fail)
    refine hK.out _ _ ?_ (fun hHeld => ?_)
    · (try dsimp only)
      exact ⟨d2, d3⟩
    clear hK K
    (try simp only [Act.put, List.getElem_toArray, List.getElem_cons_zero, List.getElem_cons_succ, List.setIfInBounds_toArray, List.set_cons_zero, List.set_cons_succ])
    refine wpAnyH_ready (rs := [6]) (by kernel_rfl) (by simp) ?_
    refine AllReadyH.cons rfl (fun K hK => ?_) AllReadyH.nil
    go_simp
    refine (ofc_any 1 1 _ rfl (by omega)).mono ?_
    rintro e wc ⟨a3, c3, rfl, iy, _, fy⟩
    have IC := hide iy
    have d2 := fr_cell fy d2
    have d3 := fr_cell fy d3
    have S2 := hide (S2.out.fr fy)
    have HT := hide (HT.out.fr fy)
    have IB := hide (IB.out.fr fy)
    have FW := hide (FW.out.trans fy)
    clear iy fy 
    (try go_wp2_with fail)
    refine hK.out _ _ ?_ (fun hHeld => ?_)
    · (try dsimp only)
      exact ⟨d2, d3⟩
    clear hK K
    (try simp only [Act.put, List.getElem_toArray, List.getElem_cons_zero, List.getElem_cons_succ, List.setIfInBounds_toArray, List.set_cons_zero, List.set_cons_succ])
    refine wpAnyH_ready (rs := [10]) (by kernel_rfl) (by simp) ?_
    refine AllReadyH.cons rfl (fun K hK => ?_) AllReadyH.nil
    go_simp
    refine (upc_any _ 1 (-x) B _ IC.out (by have := wsm (x := 1) (by omega); omega) (by omega) (by omega) HB.out).mono ?_
    rintro e we ⟨a4, c4, rfl, iy, fy⟩
    have ID := hide iy
    have d2 := fr_cell fy d2
    have d3 := fr_cell fy d3
    have S2 := hide (S2.out.fr fy)
    have HT := hide (HT.out.fr fy)
    have IB := hide (IB.out.fr fy)
    have FW := hide (FW.out.trans fy)
    clear iy fy IC
    (try go_wp2_with fail)
    refine hK.out _ _ ?_ (fun hHeld => ?_)
    · (try dsimp only)
      exact ⟨d2, d3⟩
    clear hK K
    (try simp only [Act.put, List.getElem_toArray, List.getElem_cons_zero, List.getElem_cons_succ, List.setIfInBounds_toArray, List.set_cons_zero, List.set_cons_succ])
    refine wpAnyH_ready (rs := [11]) (by kernel_rfl) (by simp) ?_
    refine AllReadyH.cons rfl (fun K hK => ?_) AllReadyH.nil
    go_simp
    refine (lowest_any _ _ A B _ HT.out IB.out ID.out (by omega) (by omega) hB0).mono ?_
    rintro e wr ⟨v, rfl, ir, fy⟩
    have RV := hide ir
    have d2 := fr_cell fy d2
    have d3 := fr_cell fy d3
    have S2 := hide (S2.out.fr fy)
    have FW := hide (FW.out.trans fy)
    obtain ⟨u1, u2, u3, u4, u5, u6, rfl⟩ := ir.form
    clear ir fy
    (try go_wp2_with fail)
    refine hK.out _ _ ?_ (fun hHeld => ?_)
    · (try dsimp only)
      exact ⟨d2, d3⟩
    clear hK K
    (try simp only [Act.put, List.getElem_toArray, List.getElem_cons_zero, List.getElem_cons_succ, List.setIfInBounds_toArray, List.set_cons_zero, List.set_cons_succ])
    refine wpAnyH_ready (rs := [12]) (by kernel_rfl) (by simp) ?_
    refine AllReadyH.cons rfl (fun K hK => ?_) AllReadyH.nil
    have q_ := S2.out.1
    have q2_ := S2.out.2.1
    have z_ := S2.out.2.2.1 0
    have z2_ := S2.out.2.2.1 1
    have RV := hide (S2.out.rat RV.out u1 u2 u3 (.slice u4 u5 u6))
    have FW := hide (S2.out.set_fr FW.out (.slice u1 u2 u3) (.slice u4 u5 u6))
    have S2 := hide (S2.out.set u1 u2 u3 u4 u5 u6)
    go_simp
    (try go_wp2_with fail)
    refine hK.out _ _ ?_ (fun hHeld => ?_)
    · (try dsimp only)
      exact ⟨(World.cell?_setCell_other _ _ _ _ (fun e => by injection e; omega)).trans ((World.cell?_setCell_other _ _ _ _ (fun e => by injection e; omega)).trans d2), (World.cell?_setCell_other _ _ _ _ (fun e => by injection e; omega)).trans ((World.cell?_setCell_other _ _ _ _ (fun e => by injection e; omega)).trans d3)⟩
    clear hK K
    (try simp only [Act.put, List.getElem_toArray, List.getElem_cons_zero, List.getElem_cons_succ, List.setIfInBounds_toArray, List.set_cons_zero, List.set_cons_succ])
    refine wpAnyH_take (i := 13) (v := ?_) rfl (by kernel_rfl) (by kernel_rfl) (by kernel_rfl) (fun _ _ _ h => h) (Or.inl ⟨by rfl, ?_⟩) (by assumption) ?_
    rotate_left
    · (intro w hSw; (try dsimp only at hSw); go_simp; try with_reducible rfl)
    (try simp only [Act.put, List.getElem_toArray, List.getElem_cons_zero, List.getElem_cons_succ, List.setIfInBounds_toArray, List.set_cons_zero, List.set_cons_succ])
    refine wpAnyH_done (by kernel_rfl) ?_ _
    go_wp2_with fail
    exact bodyPost_ret (results_rat_ok rfl _ _ (w.heap.size + 1) _ _ rfl S2.out.1 S2.out.2.1) rfl ⟨_, rfl, RV.out, FW.out⟩
end Go.Proofs.YtmaapdmbkhoigaaDoor
