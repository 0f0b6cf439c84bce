/- Bits that are joined: joined, unsigned, Bits, Next. -/
import Derived.Test.YthdgdomgcogpjaaDoorVBitsA
import Derived.Laws.StructEq
namespace Go.Proofs.YthdgdomgcogpjaaDoor
set_option linter.unusedVariables false
set_option linter.unusedSimpArgs false
open Go.RowKit

def joinN (m : Nat) (x : Int) : Nat := (((x + 1074) * 4503599627370496 + m) % 18446744073709551616).toNat
theorem join_eq (m : Nat) (x : Int) : IntKind.u64.wrap (IntKind.u64.wrap (IntKind.u64.wrap (wrap64 (x + 1074)) * 4503599627370496) + (m : Int)) = (joinN m x : Int) := by
  unfold joinN wrap64
  rw [IntKind.wrap_u64, IntKind.wrap_u64, IntKind.wrap_u64]
  omega
theorem joinN_lt (m : Nat) (x : Int) : joinN m x < 18446744073709551616 := by unfold joinN; omega

set_option maxHeartbeats 1000000 in
set_option maxRecDepth 4000 in
theorem joined_any (m : Nat) (x : Int) (w : World) (hm : m < 18446744073709551616) (x0 : -9223372036854775808 ≤ x) (x1 : x ≤ 9223372036854775807) :
    Calls Tryd.prog 86 #[.int .u64 (m : Int), .int .i64 x] w fun e w' => e = .returned (.int .u64 (joinN m x : Int)) ∧ Fr w w' := by
  go_enter Tryd.func86, Tryd.ntmps86
  go_wp2_with fail
  go_ret
  refine ⟨?_, Fr.refl _⟩
  rw [join_eq]
  rfl


def unsN (c : Int) (m : Nat) (x : Int) : Nat := if c = 1 then joinN m x else if c = 2 then 9218868437227405312 else if c = 3 then 9221120237041090560 else 0
theorem unsN_lt (c : Int) (m : Nat) (x : Int) : unsN c m x < 18446744073709551616 := by
  unfold unsN
  have := joinN_lt m x
  split
  · omega
  · split
    · omega
    · split <;> omega

set_option maxHeartbeats 1000000 in
set_option maxRecDepth 4000 in
theorem unsigned_any (c : Int) (n : Bool) (m : Nat) (x : Int) (w : World) (hm : m < 18446744073709551616) (x0 : -9223372036854775808 ≤ x) (x1 : x ≤ 9223372036854775807) :
    Calls Tryd.prog 75 #[.agg #[.int .i64 c, .bool n, .int .u64 (m : Int), .int .i64 x]] w fun e w' => e = .returned (.int .u64 (unsN c m x : Int)) ∧ Fr w w' := by
  unfold unsN
  by_cases c1 : c = 1
  · subst c1
    rw [if_pos rfl]
    go_enter Tryd.func75, Tryd.ntmps75
    go_wp2_with fail
    refine (joined_any m x _ hm x0 x1).mono ?_
    rintro e w1 ⟨rfl, f1⟩
    go_wp2_with fail
    go_ret
    exact ⟨rfl, (Fr.alloc _ _).trans f1⟩
  · rw [if_neg c1]
    have k1 : (c == 1) = false := by simpa using c1
    by_cases c2 : c = 2
    · subst c2
      rw [if_pos rfl]
      go_enter Tryd.func75, Tryd.ntmps75
      go_wp2_with fail
      go_ret
      exact ⟨rfl, Fr.alloc _ _⟩
    · rw [if_neg c2]
      have k2 : (c == 2) = false := by simpa using c2
      by_cases c3 : c = 3
      · subst c3
        rw [if_pos rfl]
        go_enter Tryd.func75, Tryd.ntmps75
        go_wp2_with fail
        go_ret
        exact ⟨rfl, Fr.alloc _ _⟩
      · rw [if_neg c3]
        have k3 : (c == 3) = false := by simpa using c3
        go_enter Tryd.func75, Tryd.ntmps75
        go_wp2_with fail
        go_ret
        exact ⟨rfl, Fr.alloc _ _⟩

/-- The bits that are tried for a value. -/
def triedN (c : Int) (n : Bool) (m : Nat) (x : Int) : Nat := if n = true then unsN c m x ||| 9223372036854775808 else unsN c m x
def okN (c : Int) (n : Bool) (m : Nat) (x : Int) : Bool := decide ((bC (triedN c n m x) : Int) = c ∧ bN (triedN c n m x) = n ∧ (bM (triedN c n m x) : Int) = m ∧ bX (triedN c n m x) = x)

theorem or_lt (b : Nat) (hb : b < 18446744073709551616) : b ||| 9223372036854775808 < 18446744073709551616 := Nat.or_lt_two_pow (n := 64) hb (by decide)
theorem or_sign (b : Nat) (hb : b < 18446744073709551616) : bits .or .u64 (b : Int) 9223372036854775808 = ((b ||| 9223372036854775808 : Nat) : Int) := by
  exact u64_or_nat b 9223372036854775808 hb (by omega)
theorem four_cells {w w1 : World} {v0 v1 v2 v3 : Value} {t : TypeId} (f : Fr (w.alloc (.cells #[v0, v1, v2, v3] t)) w1) : w1.cell? ⟨w.heap.size, 0, none⟩ = some v0 ∧ w1.cell? ⟨w.heap.size, 1, none⟩ = some v1 ∧ w1.cell? ⟨w.heap.size, 2, none⟩ = some v2 ∧ w1.cell? ⟨w.heap.size, 3, none⟩ = some v3 :=
  ⟨fr_cell f (by simp [go_sem]), fr_cell f (by simp [go_sem]), fr_cell f (by simp [go_sem]), fr_cell f (by simp [go_sem])⟩

/-- Values are the same just if their four parts are. -/
theorem eqIn_four (w : World) (c : Int) (n : Bool) (m x : Int) (c' : Int) (n' : Bool) (m' x' : Int) :
    (Op.equalIn 10000 69 (.agg #[.int .i64 c, .bool n, .int .u64 m, .int .i64 x]) (.agg #[.int .i64 c', .bool n', .int .u64 m', .int .i64 x'])).run Tryd.prog w = .ok (decide (c = c' ∧ n = n' ∧ m = m' ∧ x = x')) w := by
  rw [show (10000 : Nat) = 9999 + 1 by rfl, run_equalIn_agg w 9999 69 _ _ (by kernel_rfl) (by kernel_rfl)]
  have hfs : (Tryd.prog.fieldsOf 69).toList = [Field.mk "Class" 67 0 false "" "" 0, Field.mk "Negative" 4 1 false "" "" 8, Field.mk "Mant" 22 2 false "" "" 16, Field.mk "Exp" 3 3 false "" "" 24] := by kernel_rfl
  rw [hfs]
  unfold Op.eqFields Op.eqFields Op.eqFields Op.eqFields Op.eqFields
  have ec : (c == c') = decide (c = c') := rfl
  by_cases h1 : c = c'
  · by_cases h2 : n = n'
    · by_cases h3 : m = m'
      · by_cases h4 : x = x'
        · subst h1 h2 h3 h4
          go_simp
        · go_simp
      · go_simp
    · go_simp
  · go_simp
set_option maxHeartbeats 1000000 in
set_option maxRecDepth 4000 in
theorem vbits_any (c : Int) (n : Bool) (m : Nat) (x : Int) (w : World) (hm : m < 18446744073709551616) (x0 : -9223372036854775808 ≤ x) (x1 : x ≤ 9223372036854775807) :
    Calls Tryd.prog 57 #[.agg #[.int .i64 c, .bool n, .int .u64 (m : Int), .int .i64 x]] w fun e w' => e = .returned (.tuple #[.int .u64 (if okN c n m x = true then (triedN c n m x : Int) else 0), .bool (okN c n m x)]) ∧ Fr w w' := by
  have lu := unsN_lt c m x
  obtain ⟨u, hu⟩ : ∃ u : Nat, unsN c m x = u := ⟨_, rfl⟩
  obtain ⟨T, hT⟩ : ∃ T : Nat, triedN c n m x = T := ⟨_, rfl⟩
  have lT : T < 18446744073709551616 := by
    rw [← hT]; unfold triedN
    split
    · exact or_lt _ lu
    · exact lu
  have HO : Hid (n = true → bits .or .u64 (u : Int) 9223372036854775808 = (T : Int)) := by
    refine hide ?_
    rintro rfl
    rw [← hu, or_sign _ lu, ← hT]
    rfl
  have HU : Hid (n = false → T = u) := by
    refine hide ?_
    rintro rfl
    rw [← hT, ← hu]
    rfl
  rw [hT]
  have ho : okN c n m x = decide ((bC T : Int) = c ∧ bN T = n ∧ (bM T : Int) = m ∧ bX T = x) := by unfold okN; rw [hT]
  rw [ho]
  have hof := fun w => of_any7 T w lT
  unfold bval at hof
  generalize bC T = C1 at *
  generalize bN T = N1 at *
  generalize bM T = M1 at *
  generalize bX T = X1 at *
  have HOF := hide hof
  obtain ⟨ok, hok⟩ : ∃ ok : Bool, decide ((C1 : Int) = c ∧ N1 = n ∧ (M1 : Int) = m ∧ X1 = x) = ok := ⟨_, rfl⟩
  rw [hok]
  have HK := hide hok
  clear hof ho hT hok
  go_enter Tryd.func57, Tryd.ntmps57
  go_wp2_with fail
  refine (unsigned_any c n m x _ hm x0 x1).mono ?_
  rintro e w1 ⟨rfl, f1⟩
  rw [hu]
  obtain ⟨d0, d1, d2, d3⟩ := four_cells f1
  have F := hide ((Fr.alloc _ _).trans f1)
  clear f1 hu lu
  cases n
  · obtain rfl := HU.out rfl
    clear HO HU
    go_wp2_with fail
    have e0 : ∀ p : FrBox w1, p.now.cell? ⟨w.heap.size, 0, none⟩ = some (.int .i64 c) := fun p => fr_cell p.fr d0
    have e1 : ∀ p : FrBox w1, p.now.cell? ⟨w.heap.size, 1, none⟩ = some (.bool false) := fun p => fr_cell p.fr d1
    have e2 : ∀ p : FrBox w1, p.now.cell? ⟨w.heap.size, 2, none⟩ = some (.int .u64 (m : Int)) := fun p => fr_cell p.fr d2
    have e3 : ∀ p : FrBox w1, p.now.cell? ⟨w.heap.size, 3, none⟩ = some (.int .i64 x) := fun p => fr_cell p.fr d3
    have k1 : Hid (∀ p : FrBox w1, Calls Tryd.prog 30 #[.int .u64 (T : Int)] p.now fun e w'' => e = .returned (.agg #[.int .i64 (C1 : Int), .bool N1, .int .u64 (M1 : Int), .int .i64 X1]) ∧ ∃ p : FrBox w1, w'' = p.now) := fun p => Calls.fr_of (HOF.out _)
    have nb := FrBox.some w1
    refine wp_region_fr (by kernel_rfl) (by kernel_rfl) ?_
    repeat (quiet_step (with_reducible exact k1.out _))
    refine wpQuiet_step (fun K hK => ?_)
    go_simp
    refine ⟨.bool (!ok), fun a => ?_, hK _ ?_⟩
    · rw [← HK.out]
      rcases Decidable.em ((C1 : Int) = c) with h1 | h1 <;> rcases Decidable.em ((M1 : Int) = m) with h2 | h2 <;> rcases Decidable.em (X1 = x) with h3 | h3 <;> cases N1 <;> simp [h1, h2, h3]
    clear hK K
    refine wpQuiet_nil ?_
    intro wq hq
    obtain ⟨p, hp⟩ := hq
    have fq := p.fr
    rw [← hp] at fq
    have FF := hide (F.out.trans fq)
    clear hp e0 e1 e2 e3 nb p k1 fq
    clear HK
    cases ok
    · simp only [Bool.not_false, Bool.false_eq_true, if_false]
      go_wp2_with fail
      go_ret2
      exact ⟨rfl, FF.out⟩
    · simp only [Bool.not_true, if_true]
      go_wp2_with fail
      go_ret2
      exact ⟨rfl, FF.out⟩
  · have ho := HO.out rfl
    clear HO HU
    go_wp2_with fail
    have e0 : ∀ p : FrBox w1, p.now.cell? ⟨w.heap.size, 0, none⟩ = some (.int .i64 c) := fun p => fr_cell p.fr d0
    have e1 : ∀ p : FrBox w1, p.now.cell? ⟨w.heap.size, 1, none⟩ = some (.bool true) := fun p => fr_cell p.fr d1
    have e2 : ∀ p : FrBox w1, p.now.cell? ⟨w.heap.size, 2, none⟩ = some (.int .u64 (m : Int)) := fun p => fr_cell p.fr d2
    have e3 : ∀ p : FrBox w1, p.now.cell? ⟨w.heap.size, 3, none⟩ = some (.int .i64 x) := fun p => fr_cell p.fr d3
    have k1 : Hid (∀ p : FrBox w1, Calls Tryd.prog 30 #[.int .u64 (T : Int)] p.now fun e w'' => e = .returned (.agg #[.int .i64 (C1 : Int), .bool N1, .int .u64 (M1 : Int), .int .i64 X1]) ∧ ∃ p : FrBox w1, w'' = p.now) := fun p => Calls.fr_of (HOF.out _)
    have nb := FrBox.some w1
    refine wp_region_fr (by kernel_rfl) (by kernel_rfl) ?_
    repeat (quiet_step (with_reducible exact k1.out _))
    refine wpQuiet_step (fun K hK => ?_)
    go_simp
    refine ⟨.bool (!ok), fun a => ?_, hK _ ?_⟩
    · rw [← HK.out]
      rcases Decidable.em ((C1 : Int) = c) with h1 | h1 <;> rcases Decidable.em ((M1 : Int) = m) with h2 | h2 <;> rcases Decidable.em (X1 = x) with h3 | h3 <;> cases N1 <;> simp [h1, h2, h3]
    clear hK K
    refine wpQuiet_nil ?_
    intro wq hq
    obtain ⟨p, hp⟩ := hq
    have fq := p.fr
    rw [← hp] at fq
    have FF := hide (F.out.trans fq)
    clear hp e0 e1 e2 e3 nb p k1 fq
    clear HK
    cases ok
    · simp only [Bool.not_false, Bool.false_eq_true, if_false]
      go_wp2_with fail
      go_ret2
      exact ⟨rfl, FF.out⟩
    · simp only [Bool.not_true, if_true]
      go_wp2_with fail
      go_ret2
      exact ⟨rfl, FF.out⟩
end Go.Proofs.YthdgdomgcogpjaaDoor
