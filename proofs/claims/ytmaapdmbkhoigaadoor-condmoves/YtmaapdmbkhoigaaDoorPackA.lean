/- PackA: several texts in one. -/
import Derived.Test.YtmaapdmbkhoigaaDoorRows
import Derived.Handy
import Derived.WalkSpells
import Derived.WalkLawsBesides
import Derived.Deep.OwnRows
import Derived.Lib.SliceRun
import Derived.Laws.ResultCell
import Derived.Deep.QuietTactic
import Derived.BigQuiet
import Derived.WalkSmall
import Derived.RegionTactic
import Derived.Lib.BitFns
import Derived.Lib.ItoaNum
import Derived.Deep.RegionHeld3
/- Plain maths of layer 2: the digits of a natural number in a base, and how sums, differences and comparisons go digit by digit. -/
namespace Go.Proofs.YtmaapdmbkhoigaaDoor
set_option linter.unusedVariables false

/-- Digit number j of x in base B. -/
def dg (B x j : Nat) : Nat := x / B ^ j % B

/-- How many digits x has in base B, f steps at most. -/
def nlenF (B : Nat) : Nat → Nat → Nat
  | 0, _ => 0
  | f + 1, x => if x = 0 ∨ B < 2 then 0 else nlenF B f (x / B) + 1
/-- How many digits x has in base B. -/
def nlen (B x : Nat) : Nat := nlenF B x x

/-- The carry into place i of a sum. -/
def carry (B n m i : Nat) : Nat := (n % B ^ i + m % B ^ i) / B ^ i

theorem dg_lt {B : Nat} (hB : 2 ≤ B) (x j : Nat) : dg B x j < B := Nat.mod_lt _ (by omega)
theorem dg_out {B x j : Nat} (h : x < B ^ j) : dg B x j = 0 := by unfold dg; rw [Nat.div_eq_of_lt h, Nat.zero_mod]
theorem dg_zero (B j : Nat) : dg B 0 j = 0 := by unfold dg; simp
theorem nlen_zero (B : Nat) : nlen B 0 = 0 := rfl
theorem nlenF_any {B : Nat} (hB : 2 ≤ B) : ∀ (f g x : Nat), x ≤ f → x ≤ g → nlenF B f x = nlenF B g x := by
  intro f
  induction f with
  | zero =>
    intro g x h1 h2
    have : x = 0 := by omega
    subst this
    cases g with
    | zero => rfl
    | succ g => simp [nlenF]
  | succ f ih =>
    intro g x h1 h2
    by_cases hx : x = 0
    · subst hx
      cases g with
      | zero => simp [nlenF]
      | succ g => simp [nlenF]
    · have hd : x / B < x := Nat.div_lt_self (by omega) (by omega)
      cases g with
      | zero => omega
      | succ g =>
        unfold nlenF
        rw [if_neg (by omega), if_neg (by omega), ih g (x / B) (by omega) (by omega)]
theorem nlen_step {B x : Nat} (hB : 2 ≤ B) (hx : x ≠ 0) : nlen B x = nlen B (x / B) + 1 := by
  have hd : x / B < x := Nat.div_lt_self (by omega) (by omega)
  obtain ⟨f, hf⟩ : ∃ f, x = f + 1 := ⟨x - 1, by omega⟩
  have h : nlen B x = nlenF B (f + 1) x := by unfold nlen; rw [← hf]
  rw [h, nlenF, if_neg (by omega), nlenF_any hB f (x / B) (x / B) (by omega) (by omega)]
  rfl
theorem lt_nlen {B : Nat} (hB : 2 ≤ B) : ∀ x, x < B ^ nlen B x := by
  intro x
  induction x using Nat.strongRecOn with
  | _ x ih =>
    by_cases hx : x = 0
    · subst hx; rw [nlen_zero]; simp
    · rw [nlen_step hB hx, Nat.pow_succ]
      have := ih (x / B) (Nat.div_lt_self (by omega) (by omega))
      exact (Nat.div_lt_iff_lt_mul (by omega)).1 this
theorem nlen_low {B : Nat} (hB : 2 ≤ B) : ∀ x, x ≠ 0 → B ^ (nlen B x - 1) ≤ x := by
  intro x
  induction x using Nat.strongRecOn with
  | _ x ih =>
    intro hx
    rw [nlen_step hB hx, Nat.add_sub_cancel]
    by_cases hy : x / B = 0
    · rw [hy, nlen_zero]; simp; omega
    · have h1 := ih (x / B) (Nat.div_lt_self (by omega) (by omega)) hy
      have h2 := nlen_step hB hy
      have h3 : nlen B (x / B) = (nlen B (x / B) - 1) + 1 := by omega
      rw [h3, Nat.pow_succ]
      calc B ^ (nlen B (x / B) - 1) * B ≤ x / B * B := Nat.mul_le_mul_right _ h1
        _ ≤ x := Nat.div_mul_le_self _ _
theorem nlen_le {B x k : Nat} (hB : 2 ≤ B) (h : x < B ^ k) : nlen B x ≤ k := by
  by_cases hx : x = 0
  · subst hx; rw [nlen_zero]; omega
  · have h1 := nlen_low hB x hx
    have h2 : B ^ (nlen B x - 1) < B ^ k := by omega
    have := (Nat.pow_lt_pow_iff_right (by omega)).1 h2
    omega
theorem nlen_eq {B x k : Nat} (hB : 2 ≤ B) (h1 : x < B ^ k) (h2 : k = 0 ∨ B ^ (k - 1) ≤ x) : nlen B x = k := by
  have := nlen_le hB h1
  rcases h2 with h2 | h2
  · omega
  · by_cases hk : nlen B x < k
    · have h3 := lt_nlen hB x
      have h4 : B ^ nlen B x ≤ B ^ (k - 1) := Nat.pow_le_pow_right (by omega) (by omega)
      omega
    · omega
theorem lt_of_nlen {B x k : Nat} (hB : 2 ≤ B) (h : nlen B x ≤ k) : x < B ^ k :=
  Nat.lt_of_lt_of_le (lt_nlen hB x) (Nat.pow_le_pow_right (by omega) h)
theorem nlen_mono {B x k : Nat} (hB : 2 ≤ B) (h : x ≤ k) : nlen B x ≤ nlen B k := nlen_le hB (Nat.lt_of_le_of_lt h (lt_nlen hB k))
theorem nlen_pos {B x : Nat} (hB : 2 ≤ B) (hx : x ≠ 0) : 0 < nlen B x := by rw [nlen_step hB hx]; omega
theorem nlen_nil {B x : Nat} (hB : 2 ≤ B) (h : nlen B x = 0) : x = 0 := by
  by_cases hx : x = 0
  · exact hx
  · have := nlen_pos hB hx; omega

/-- The last digit that may be wanting. -/
theorem lt_of_dg {B x k : Nat} (h : x < B ^ (k + 1)) (h0 : dg B x k = 0) : x < B ^ k := by
  unfold dg at h0
  have hb : 0 < B ^ k := by
    rcases Nat.eq_zero_or_pos (B ^ k) with e | e
    · rw [Nat.pow_succ, e] at h; omega
    · exact e
  have h1 : x / B ^ k < B := (Nat.div_lt_iff_lt_mul hb).2 (by rw [Nat.pow_succ, Nat.mul_comm] at h; exact h)
  rw [Nat.mod_eq_of_lt h1] at h0
  rcases Nat.lt_or_ge x (B ^ k) with l | l
  · exact l
  · have := Nat.div_pos l hb; omega
theorem le_of_dg {B x k : Nat} (h0 : dg B x k ≠ 0) : B ^ k ≤ x := by
  rcases Nat.lt_or_ge x (B ^ k) with l | l
  · exact absurd (dg_out l) h0
  · exact l
theorem div_step {B : Nat} (hB : 2 ≤ B) (x i : Nat) : x / B ^ i = B * (x / B ^ (i + 1)) + dg B x i := by
  unfold dg
  rw [Nat.pow_succ, ← Nat.div_div_eq_div_mul]
  exact (Nat.div_add_mod _ _).symm
theorem mod_step {B : Nat} (x i : Nat) : x % B ^ (i + 1) = x % B ^ i + B ^ i * dg B x i := by
  unfold dg
  rw [Nat.pow_succ, Nat.mod_mul]
theorem dg_of_mod {B : Nat} (x i : Nat) : dg B (x % B ^ (i + 1)) i = dg B x i := by
  unfold dg
  rw [Nat.pow_succ, Nat.mod_mul_right_div_self, Nat.mod_mod]
theorem dg_congr {B : Nat} {x y i : Nat} (h : x % B ^ (i + 1) = y % B ^ (i + 1)) : dg B x i = dg B y i := by
  rw [← dg_of_mod x, ← dg_of_mod y, h]
theorem pow_pos' {B : Nat} (hB : 2 ≤ B) (i : Nat) : 0 < B ^ i := Nat.pow_pos (by omega)

/-- One place of a sum. -/
theorem sum_step {B : Nat} (hB : 2 ≤ B) (n m i : Nat) : dg B n i + dg B m i + carry B n m i = dg B (n + m) i + B * carry B n m (i + 1) := by
  have hp := pow_pos' hB i
  have e1 : dg B n i + dg B m i + carry B n m i = (n % B ^ (i + 1) + m % B ^ (i + 1)) / B ^ i := by
    rw [mod_step, mod_step]
    have : n % B ^ i + B ^ i * dg B n i + (m % B ^ i + B ^ i * dg B m i) = (n % B ^ i + m % B ^ i) + B ^ i * (dg B n i + dg B m i) := by
      rw [Nat.mul_add]; omega
    rw [this, Nat.add_mul_div_left _ _ hp]
    unfold carry
    omega
  have e2 : dg B (n + m) i = dg B (n % B ^ (i + 1) + m % B ^ (i + 1)) i := dg_congr (by rw [Nat.add_mod])
  have e3 : carry B n m (i + 1) = (n % B ^ (i + 1) + m % B ^ (i + 1)) / B ^ i / B := by
    unfold carry
    rw [Nat.div_div_eq_div_mul, ← Nat.pow_succ]
  rw [e1, e2, e3]
  unfold dg
  exact (Nat.mod_add_div _ _).symm
theorem carry_le {B : Nat} (hB : 2 ≤ B) (n m i : Nat) : carry B n m i ≤ 1 := by
  unfold carry
  have hp := pow_pos' hB i
  have h1 := Nat.mod_lt n hp
  have h2 := Nat.mod_lt m hp
  have : (n % B ^ i + m % B ^ i) / B ^ i < 2 := (Nat.div_lt_iff_lt_mul hp).2 (by omega)
  omega
theorem carry_zero (B n m : Nat) : carry B n m 0 = 0 := by unfold carry; simp [Nat.mod_one]
theorem carry_end {B : Nat} (n m i : Nat) (h1 : n < B ^ i) (h2 : m < B ^ i) : carry B n m i = (n + m) / B ^ i := by
  unfold carry; rw [Nat.mod_eq_of_lt h1, Nat.mod_eq_of_lt h2]
theorem sum_lt {B : Nat} {n m i : Nat} (hB : 2 ≤ B) (h1 : n < B ^ i) (h2 : m < B ^ i) : n + m < B ^ (i + 1) := by
  rw [Nat.pow_succ]
  have := Nat.mul_le_mul_left (B ^ i) hB
  omega

/-- The carry of a number times a small one. -/
def tcarry (B x k i : Nat) : Nat := (x % B ^ i * k) / B ^ i
theorem times_step {B : Nat} (hB : 2 ≤ B) (x k i : Nat) : tcarry B x k i + dg B x i * k = dg B (x * k) i + B * tcarry B x k (i + 1) := by
  have hp := pow_pos' hB i
  have e1 : tcarry B x k i + dg B x i * k = x % B ^ (i + 1) * k / B ^ i := by
    rw [mod_step, Nat.add_mul, Nat.mul_assoc, Nat.add_mul_div_left _ _ hp]
    rfl
  have e2 : dg B (x * k) i = dg B (x % B ^ (i + 1) * k) i := dg_congr (by rw [Nat.mul_mod x k, Nat.mul_mod (x % B ^ (i + 1)) k, Nat.mod_mod])
  have e3 : tcarry B x k (i + 1) = x % B ^ (i + 1) * k / B ^ i / B := by
    unfold tcarry
    rw [Nat.div_div_eq_div_mul, ← Nat.pow_succ]
  rw [e1, e2, e3]
  unfold dg
  exact (Nat.mod_add_div _ _).symm
theorem tcarry_lt {B : Nat} (hB : 2 ≤ B) (x k i : Nat) (hk : 0 < k) : tcarry B x k i < k := by
  unfold tcarry
  have hp := pow_pos' hB i
  have h1 := Nat.mod_lt x hp
  exact (Nat.div_lt_iff_lt_mul hp).2 (by rw [Nat.mul_comm k]; exact Nat.mul_lt_mul_of_pos_right h1 hk)
theorem tcarry_zero (B x k : Nat) : tcarry B x k 0 = 0 := by unfold tcarry; simp [Nat.mod_one]
theorem tcarry_end {B : Nat} (x k i : Nat) (h1 : x < B ^ i) : tcarry B x k i = x * k / B ^ i := by
  unfold tcarry; rw [Nat.mod_eq_of_lt h1]

/-- Comparing from the top. -/
theorem cmp_lt {B : Nat} (hB : 2 ≤ B) {n m i : Nat} (h : n / B ^ (i + 1) = m / B ^ (i + 1)) (hd : dg B n i < dg B m i) : n < m := by
  have h1 := div_step hB n i
  have h2 := div_step hB m i
  rw [h] at h1
  have h3 : n / B ^ i < m / B ^ i := by omega
  rcases Nat.lt_or_ge n m with l | l
  · exact l
  · have := Nat.div_le_div_right (c := B ^ i) l; omega
theorem cmp_eq {B : Nat} (hB : 2 ≤ B) {n m i : Nat} (h : n / B ^ (i + 1) = m / B ^ (i + 1)) (hd : dg B n i = dg B m i) : n / B ^ i = m / B ^ i := by
  rw [div_step hB n i, div_step hB m i, h, hd]

end Go.Proofs.YtmaapdmbkhoigaaDoor

/- How the walks of layer 2 tell worlds, rows of numbers and Nats; the smallest functions. -/
namespace Go.Proofs.YtmaapdmbkhoigaaDoor
set_option linter.unusedVariables false
set_option linter.unusedSimpArgs false
open Go.RowKit

theorem hide {p : Prop} (h : p) : Hid p := h
def Fr (w w' : World) : Prop := Below w.heap.size w w'
theorem Fr.refl (w : World) : Fr w w := Below.refl _ _
theorem Fr.trans {a b c : World} (h : Fr a b) (k : Fr b c) : Fr a c := Below.trans h (Below.mono k h.size)
theorem Fr.drew (w : World) : Fr w w.drew := (Below.refl _ _).drew
theorem Fr.alloc (w : World) (o : Obj) : Fr w (w.alloc o) := by unfold Fr; go_grown
theorem cell_lt {w : World} {a : Addr} {v : Value} (h : w.cell? a = some v) : a.block < w.heap.size := by
  rcases Nat.lt_or_ge a.block w.heap.size with k | k
  · exact k
  · simp [World.cell?, Array.getElem?_eq_none k] at h
theorem fr_cell {w w' : World} {a : Addr} {v : Value} (k : Fr w w') (h : w.cell? a = some v) : w'.cell? a = some v := (Below.cell k (cell_lt h)).trans h

/-- n cells of numbers of a kind, from an address on. -/
def Cs (k : IntKind) (w : World) (a : Option Addr) (n : Nat) (f : Nat → Nat) : Prop :=
  n = 0 ∨ ∃ b off, a = some ⟨b, off, none⟩ ∧ b < w.heap.size ∧ ∀ j, j < n → w.cell? ⟨b, off + j, none⟩ = some (.int k (f j : Int))
theorem Cs.fr {k : IntKind} {w w' : World} {a : Option Addr} {n : Nat} {f : Nat → Nat} (h : Cs k w a n f) (q : Fr w w') : Cs k w' a n f := by
  rcases h with h | ⟨b, off, h1, h2, h3⟩
  · exact .inl h
  · exact .inr ⟨b, off, h1, Nat.lt_of_lt_of_le h2 q.size, fun j hj => fr_cell q (h3 j hj)⟩
theorem Cs.less {k : IntKind} {w : World} {a : Option Addr} {n m : Nat} {f : Nat → Nat} (h : Cs k w a n f) (hm : m ≤ n) : Cs k w a m f := by
  rcases h with h | ⟨b, off, h1, h2, h3⟩
  · exact .inl (by omega)
  · exact .inr ⟨b, off, h1, h2, fun j hj => h3 j (by omega)⟩

/-- A Nat's value: its limbs are the number's digits in base 2^32, none behind the last that isn't 0. -/
def IsNat (w : World) (v : Value) (x : Nat) : Prop :=
  ∃ a cap, v = .agg #[.slice a (nlen 4294967296 x) cap] ∧ nlen 4294967296 x ≤ cap ∧ cap ≤ maxLen ∧ Cs .u32 w a (nlen 4294967296 x) (dg 4294967296 x)
theorem IsNat.fr {w w' : World} {v : Value} {x : Nat} (h : IsNat w v x) (q : Fr w w') : IsNat w' v x := by
  obtain ⟨a, cap, h1, h2, h3, h4⟩ := h
  exact ⟨a, cap, h1, h2, h3, h4.fr q⟩

/-- A Nat that is handed back through its cell. -/
theorem results_nat {fn : Func} {p : Tmp} (h : fn.results = #[.cell p 78]) (tmps : Array Value) (w : World) (b : Nat) (v : Value) (hp : tmps.getD p undef = .pointer (some ⟨b, 0, none⟩)) (hc : w.cell? ⟨b, 0, none⟩ = some v) :
    (results fn tmps).run Tryd.prog w = .ok (.agg #[v]) w := by
  have hp' : tmps[p]?.getD undef = .pointer (some ⟨b, 0, none⟩) := by simpa using hp
  simp [results, h, hp']
  go_simp
theorem results_nat_ok {fn : Func} {p u : Tmp} (h : fn.results = #[.cell p 78, .tmp u]) (tmps : Array Value) (w : World) (b : Nat) (v : Value) (hp : tmps.getD p undef = .pointer (some ⟨b, 0, none⟩)) (hc : w.cell? ⟨b, 0, none⟩ = some v) :
    (results fn tmps).run Tryd.prog w = .ok (.tuple #[.agg #[v], tmps.getD u undef]) w := by
  have hp' : tmps[p]?.getD undef = .pointer (some ⟨b, 0, none⟩) := by simpa using hp
  rw [results_cell_tmp h]
  rw [hp]
  go_simp

theorem b32 : 2 ≤ 4294967296 := by decide

set_option maxHeartbeats 400000 in
set_option maxRecDepth 4000 in
theorem at_any (v : Value) (x i : Nat) (w : World) (h : IsNat w v x) (hi : i ≤ maxLen) :
    Calls Tryd.prog 76 #[v, .int .i64 i] w fun e w' => e = .returned (.int .u64 (dg 4294967296 x i : Int)) ∧ Fr w w' := by
  obtain ⟨a, cap, rfl, h2, h3, h4⟩ := h
  have hlt := dg_lt b32 x i
  by_cases c : i < nlen 4294967296 x
  · rcases h4 with h4 | ⟨b, off, rfl, hb, hc⟩
    · omega
    · have hci := hc i c
      generalize dg 4294967296 x i = d at *
      generalize nlen 4294967296 x = N at *
      go_enter Tryd.func76, Tryd.ntmps76
      go_wp2
      go_ret
      exact ⟨rfl, by unfold Fr; go_grown⟩
  · have e : dg 4294967296 x i = 0 := dg_out (lt_of_nlen b32 (by omega))
    rw [e]
    clear e hlt h4
    generalize nlen 4294967296 x = N at *
    go_enter Tryd.func76, Tryd.ntmps76
    go_wp2
    go_ret
    exact ⟨rfl, by unfold Fr; go_grown⟩
end Go.Proofs.YtmaapdmbkhoigaaDoor

/- natOf, slices.Clone, Of, Made, Limbs. -/
namespace Go.Proofs.YtmaapdmbkhoigaaDoor
set_option linter.unusedVariables false
set_option linter.unusedSimpArgs false
open Go.RowKit

/-- The Nat that natOf makes of a row. -/
def natA (x : Nat) (a : Option Addr) : Option Addr := if x = 0 then none else a
def natC (x cap : Nat) : Nat := if x = 0 then 0 else cap
def natVal (x : Nat) (a : Option Addr) (cap : Nat) : Value := .agg #[.slice (natA x a) (nlen 4294967296 x) (natC x cap)]

theorem isNat_natVal {w : World} {x N cap : Nat} {a : Option Addr} (hx : x < 4294967296 ^ N) (h1 : N ≤ cap) (h2 : cap ≤ maxLen) (h : Cs .u32 w a N (dg 4294967296 x)) : IsNat w (natVal x a cap) x := by
  have hl := nlen_le b32 hx
  refine ⟨_, _, rfl, ?_, ?_, ?_⟩
  · unfold natC
    split
    · rename_i h0; subst h0; rw [nlen_zero]; omega
    · omega
  · unfold natC; split <;> omega
  · unfold natA
    split
    · rename_i h0; subst h0; exact .inl (nlen_zero _)
    · exact h.less hl
theorem natA_some {x : Nat} {a : Option Addr} {ad : Addr} (h : natA x a = some ad) : a = some ad := by
  unfold natA at h; split at h
  · cases h
  · exact h

/-- A Nat that a call from w to w' has made: nothing old is written, and its limbs, if it has any, lie in new memory. -/
def Res (w w' : World) (a : Option Addr) (c x : Nat) : Prop :=
  IsNat w' (.agg #[.slice a (nlen 4294967296 x) c]) x ∧ (∀ g off s, a = some ⟨g, off, s⟩ → w.heap.size ≤ g) ∧ Fr w w'

/-- What a store into another block leaves. -/
theorem Cs.set {k : IntKind} {w : World} {a : Option Addr} {n : Nat} {f : Nat → Nat} (h : Cs k w a n f) (p : Addr) (u : Value) (hne : ∀ g off s, a = some ⟨g, off, s⟩ → g ≠ p.block) : Cs k (w.setCell p u) a n f := by
  rcases h with h | ⟨b, off, h1, h2, h3⟩
  · exact .inl h
  · refine .inr ⟨b, off, h1, by simpa using h2, fun j hj => ?_⟩
    rw [World.cell?_setCell_other w p _ u (fun e => hne _ _ _ h1 (by rw [e]))]
    exact h3 j hj
theorem IsNat.put {w : World} {x c n : Nat} {a : Option Addr} (h : IsNat w (.agg #[.slice a n c]) x) (p : Addr) (u : Value) (hne : ∀ g off s, a = some ⟨g, off, s⟩ → g ≠ p.block) : IsNat (w.setCell p u) (.agg #[.slice a n c]) x := by
  obtain ⟨a', c', h1, h2, h3, h4⟩ := h
  simp only [Value.agg.injEq] at h1
  have h1' : a = a' := by injection h1 with h1; injection h1 with h1; injection h1
  exact ⟨a', c', by simp only [Value.agg.injEq]; exact h1, h2, h3, h4.set p u fun g off s e => hne g off s (h1'.trans e)⟩
theorem IsNat.set {w : World} {x cap : Nat} {a : Option Addr} (h : IsNat w (natVal x a cap) x) (p : Addr) (u : Value) (hne : ∀ g off s, a = some ⟨g, off, s⟩ → g ≠ p.block) : IsNat (w.setCell p u) (natVal x a cap) x := by
  obtain ⟨a', c', h1, h2, h3, h4⟩ := h
  refine ⟨a', c', h1, h2, h3, h4.set p u fun g off s e => ?_⟩
  unfold natVal at h1
  simp only [Value.agg.injEq] at h1
  have h1' : natA x a = a' := by injection h1 with h1; injection h1 with h1; injection h1
  exact hne g off s (natA_some (h1'.trans e))
/-- A variable's cell that is laid, whatever came behind it. -/
theorem var_cell {w w1 : World} {v : Value} {t : TypeId} (f : Fr (w.alloc (.cells #[v] t)) w1) : w1.cell? ⟨w.heap.size, 0, none⟩ = some v := fr_cell f (by simp [go_sem])
theorem var_free {w w1 : World} {v : Value} {t : TypeId} (f : Fr (w.alloc (.cells #[v] t)) w1) : w1.frozen? ⟨w.heap.size, 0, none⟩ = false := by
  have hb := f.block w.heap.size (by simp)
  have hn := heap_alloc_new w (.cells #[v] t)
  rw [hn] at hb
  simp [World.frozen?, hb]
theorem fr_store {w w1 : World} (f : Fr w w1) (u : Value) : Fr w (w1.setCell ⟨w.heap.size, 0, none⟩ u) := Below.setCell f (by simp) _

set_option maxHeartbeats 400000 in
set_option maxRecDepth 4000 in
theorem natOf_any (x N cap : Nat) (a : Option Addr) (w : World) (hx : x < 4294967296 ^ N) (h1 : N ≤ cap) (h2 : cap ≤ maxLen) (h : Cs .u32 w a N (dg 4294967296 x)) :
    Calls Tryd.prog 73 #[.slice a N cap] w fun e w' => e = .returned (natVal x a cap) ∧ Fr w w' := by
  unfold natVal natA natC
  have HX : Hid (x < 4294967296 ^ N) := hx
  clear hx
  unfold maxLen at h2
  go_enter Tryd.func73, Tryd.ntmps73
  go_wp2
  go_loop [3] (fun s => ∃ k : Nat, k ≤ N ∧ s = .int .i64 k ∧ Hid (x < 4294967296 ^ k)) (fun s => (intOf s).toNat)
  case atStart => exact ⟨N, by omega, rfl, HX⟩
  case round =>
    obtain ⟨k, hk, rfl, HK⟩ := hrel
    by_cases c : k = 0
    · subst c
      have e : x = 0 := by have := HK.out; rw [Nat.pow_zero] at this; omega
      subst e
      go_wp2
      (try simp only [Exit.inBlock, Exit.then])
      refine bodyPost_ret (results_nat rfl _ _ w.heap.size (.slice none 0 0) rfl ?_) rfl ?_
      · go_simp
      exact ⟨by simp [nlen_zero], by unfold Fr; go_grown⟩
    · obtain ⟨k, rfl⟩ : ∃ j, k = j + 1 := ⟨k - 1, by omega⟩
      rcases h with h | ⟨b, off, rfl, hb, hc⟩
      · omega
      · have hci := hc k (by omega)
        have hlt := dg_lt b32 x k
        by_cases c0 : dg 4294967296 x k = 0
        · have HK2 : Hid (x < 4294967296 ^ k) := lt_of_dg HK.out c0
          rw [c0] at hci
          clear c0 hlt hc
          go_wp2
          go_round
          case rel => exact ⟨k, by omega, by go_num, HK2⟩
          case measure => simp [intOf]
        · have hle := le_of_dg c0
          have hp := pow_pos' b32 k
          have hn : x ≠ 0 := by omega
          have hl : nlen 4294967296 x = k + 1 := nlen_eq b32 HK.out (.inr hle)
          have HL := hide hl
          clear hle hp hl hc
          generalize dg 4294967296 x k = d at *
          go_wp2
          (try simp only [Exit.inBlock, Exit.then])
          refine bodyPost_ret (results_nat rfl _ _ w.heap.size (.slice (some ⟨b, off, none⟩) (k + 1) cap) rfl ?_) rfl ?_
          · go_simp
          exact ⟨by simp [hn, HL.out], by unfold Fr; go_grown⟩

/-- n numbers of a kind, as a row of values. -/
def rowOf (k : IntKind) (n : Nat) (f : Nat → Nat) : List Value := (List.range n).map fun j => .int k (f j : Int)
theorem rowOf_len (k : IntKind) (n : Nat) (f : Nat → Nat) : (rowOf k n f).length = n := by simp [rowOf]
theorem rowOf_get {k : IntKind} {n : Nat} {f : Nat → Nat} {j : Nat} {u : Value} (h : (rowOf k n f)[j]? = some u) : j < n ∧ u = .int k (f j : Int) := by
  unfold rowOf at h
  rw [List.getElem?_map] at h
  by_cases c : j < n
  · rw [List.getElem?_range c] at h; simp at h; exact ⟨c, h.symm⟩
  · rw [List.getElem?_eq_none (by simp; omega)] at h; simp at h
theorem rowOf_at {k : IntKind} {n : Nat} {f : Nat → Nat} {j : Nat} (h : j < n) : (rowOf k n f)[j]? = some (.int k (f j : Int)) := by
  unfold rowOf
  rw [List.getElem?_map, List.getElem?_range h]; rfl
theorem rowOf_snoc (k : IntKind) (n : Nat) (f : Nat → Nat) : rowOf k n f ++ [.int k (f n : Int)] = rowOf k (n + 1) f := by
  simp [rowOf, List.range_succ]

theorem own_form {w : World} {base n : Nat} {e : TypeId} {v : Value} {xs : List Value} (h : w.ownsRow base e 1 v n xs) : ∃ a c, v = .slice a n c ∧ n ≤ c ∧ c ≤ maxLen ∧ ∀ g off s, a = some ⟨g, off, s⟩ → base ≤ g ∧ g < w.heap.size := by
  rcases h.2 with ⟨rfl, rfl⟩ | ⟨g, cap, cur, rfl, hb, hh, h1, h2, _⟩
  · exact ⟨_, _, rfl, by omega, by omega, fun _ _ _ h => by cases h⟩
  · refine ⟨_, _, rfl, h1, h2, fun g' off s h => ?_⟩
    simp only [Option.some.injEq, Addr.mk.injEq] at h
    obtain ⟨rfl, _, _⟩ := h
    refine ⟨hb, ?_⟩
    rcases Nat.lt_or_ge g w.heap.size with k | k
    · exact k
    · simp [Array.getElem?_eq_none k] at hh
theorem own_cs {w : World} {base n c : Nat} {e : TypeId} {a : Option Addr} {k : IntKind} {f : Nat → Nat} (h : w.ownsRow base e 1 (.slice a n c) n (rowOf k n f)) : Cs k w a n f := by
  rcases h.2 with ⟨hv, hn⟩ | ⟨g, cap, cur, hv, hb, hh, _⟩
  · exact .inl hn
  · simp only [Value.slice.injEq] at hv
    obtain ⟨rfl, _, rfl⟩ := hv
    refine .inr ⟨g, 0, rfl, ?_, fun j hj => ?_⟩
    · rcases Nat.lt_or_ge g w.heap.size with k | k
      · exact k
      · simp [Array.getElem?_eq_none k] at hh
    · rw [Nat.zero_add, h.cellAt j (by omega)]
      exact rowOf_at hj
theorem own_below {w w0 : World} {e : TypeId} {v : Value} {n : Nat} {xs : List Value} (h : w.ownsRow w0.heap.size e 1 v n xs) : ∀ k, v.ownBlock = some k → w0.heap.size ≤ k := fun k hk => (h.lt k hk).1
theorem info32 : (Tryd.prog.info? 47).map (fun i => (i.zero, i.size, i.bytes)) = some (some (.int .u32 0), 1, 4) := by kernel_rfl
theorem info64 : (Tryd.prog.info? 3).map (fun i => (i.zero, i.size, i.bytes)) = some (some (.int .i64 0), 1, 8) := by kernel_rfl

set_option maxHeartbeats 400000 in
set_option maxRecDepth 4000 in
theorem clone_any (n cap : Nat) (a : Option Addr) (f : Nat → Nat) (w : World) (hn : n ≤ 1000000000000) (h : Cs .u32 w a n f) :
    Calls Tryd.prog 96 #[.slice a n cap] w fun e w' => ∃ v, e = .returned v ∧ w'.ownsRow w.heap.size 47 1 v n (rowOf .u32 n f) ∧ Fr w w' := by
  have q22 : ∀ (w : World) (a : Option Addr) (n c n' c' : Nat), (binOp .eql 76 (.slice a n c) (.slice none n' c')).run Tryd.prog w = .ok (.bool a.isNone) w := fun w a n c n' c' => Lib.run_eql_slice_nil w _ _ a n c n' c' Tryd.underlying76
  obtain ⟨i0, hi, hz0, hz1, hz2⟩ := info_parts info32
  rcases a with _ | ad
  · have e : n = 0 := by
      rcases h with h | ⟨b, off, h, _⟩
      · exact h
      · cases h
    subst e
    go_enter Tryd.func96, Tryd.ntmps96
    go_wp2
    go_ret
    exact ⟨_, rfl, World.ownsRow_nil _ _ _ _, by unfold Fr; go_grown⟩
  · have hcell : ∀ j u, (rowOf .u32 n f)[j]? = some u → w.cell? (ad.add j) = some u := by
      intro j u hu
      obtain ⟨hj, rfl⟩ := rowOf_get hu
      rcases h with h | ⟨b, off, h, _, hc⟩
      · omega
      · simp only [Option.some.injEq] at h
        subst h
        have e : (⟨b, off, none⟩ : Addr).add j = ⟨b, off + j, none⟩ := by unfold Addr.add; split <;> simp_all
        rw [e]
        exact hc j hj
    have HC := hide hcell
    clear hcell h
    go_enter Tryd.func96, Tryd.ntmps96
    go_wp2_with (at_builtin; refine wpList_append_own _ rfl _ _ 76 rfl w.heap.size 47 i0 (.int .u32 0) 1 4 Tryd.underlying76 hi hz0 hz1 hz2 rfl (by decide) _ 0 [] rfl ?c0 ad n cap (rowOf .u32 n f) rfl ?c1 ?c2 ?c3 ?c4 ?c5 ?c6 ?_)
    case c0 => exact World.ownsRow_lit w #[] 0 (Nat.le_refl _) (by unfold maxLen; omega) rfl
    case c1 => rw [rowOf_len]; omega
    case c2 =>
      intro j u hu
      exact fr_cell (Fr.alloc _ _) (HC.out j u hu)
    case c3 =>
      intro u hu
      unfold rowOf at hu
      obtain ⟨j, _, rfl⟩ := List.mem_map.1 hu
      rfl
    case c4 => unfold maxLen; omega
    case c5 => omega
    case c6 => simp
    intro v' w2 hown' hgrow _
    have hF2 : Fr w w2 := Below.grown (Below.alloc (Fr.refl w) (Nat.le_refl _) _) hgrow (by simp) (by intro k hk; simp [Value.ownBlock] at hk; omega)
    clear hgrow
    have HO := hide hown'
    clear hown'
    go_wp2_with fail
    go_ret
    exact ⟨_, rfl, HO.out, hF2⟩
end Go.Proofs.YtmaapdmbkhoigaaDoor

/- Of, Made, Limbs, Small. -/
namespace Go.Proofs.YtmaapdmbkhoigaaDoor
set_option linter.unusedVariables false
set_option linter.unusedSimpArgs false
open Go.RowKit

/-- A region that draws its order, in which nothing old is changed and each operation yields the same value in whatever world has grown out of w. -/
def FrBox (w : World) : Type := { w' : World // Fr w w' }
def FrBox.now {w : World} (p : FrBox w) : World := p.1
theorem FrBox.fr {w : World} (p : FrBox w) : Fr w p.now := p.2
theorem FrBox.some (w : World) : Nonempty (FrBox w) := ⟨⟨w, Fr.refl w⟩⟩
theorem wp_region_fr {P : Program} {id : Nat} {Q : Exit → Act → World → Prop} {a : Act} {w : World} {l : List Oper} (hm : P.follows .mixedOrders = true) (hB : Region.lexB .any l.toArray = true)
    (h : wpQuiet P l.toArray (fun w' => ∃ p : FrBox w, w' = p.now) (fun a' => ∀ w', (∃ p : FrBox w, w' = p.now) → Q .normal a' w') l a) : (Code.region id l.toArray true).wp P Q a w :=
  wp_region_quiet (C := fun w' => ∃ p : FrBox w, w' = p.now) hm hB ⟨⟨w.drew, Fr.drew w⟩, rfl⟩ (by simpa using h)
theorem Calls.fr_of {P : Program} {f : FuncId} {args : Array Value} {w : World} {p : FrBox w} {v : Value}
    (h : Calls P f args p.now fun e w' => e = .returned v ∧ Fr p.now w') : Calls P f args p.now fun e w'' => e = .returned v ∧ ∃ p : FrBox w, w'' = p.now :=
  h.mono fun _ w' ⟨he, hf⟩ => ⟨he, ⟨w', p.fr.trans hf⟩, rfl⟩

set_option maxHeartbeats 400000 in
set_option maxRecDepth 4000 in
theorem of_any (x : Nat) (w : World) (hx : x < 18446744073709551616) :
    Calls Tryd.prog 51 #[.int .u64 x] w fun e w' => ∃ a c, e = .returned (.agg #[.slice a (nlen 4294967296 x) c]) ∧ Res w w' a c x := by
  have HP : Hid (x < 4294967296 ^ 2) := by unfold Hid; omega
  have d0 : dg 4294967296 x 0 = x % 4294967296 := by simp [dg]
  have d1 : dg 4294967296 x 1 = x / 4294967296 := by simp only [dg, Nat.pow_one]; omega
  have D0 := hide d0
  have D1 := hide d1
  clear d0 d1
  go_enter Tryd.func51, Tryd.ntmps51
  go_wp2_with fail
  have hcs : Cs .u32 ((w.alloc (Obj.cells #[Value.slice none 0 0] 78)).alloc (Obj.cells #[Value.int IntKind.u32 ((x : Int) % 4294967296), Value.int IntKind.u32 ((x : Int) / 4294967296)] 47)) (some ⟨w.heap.size + 1, 0, none⟩) 2 (dg 4294967296 x) := by
    refine .inr ⟨_, _, rfl, by simp, fun j hj => ?_⟩
    match j, hj with
    | 0, _ => rw [D0.out]; simp [go_sem]
    | 1, _ => rw [D1.out]; simp [go_sem]
  refine (natOf_any x 2 2 _ _ HP.out (by omega) (by unfold maxLen; omega) hcs).mono ?_
  rintro e w1 ⟨rfl, f1⟩
  have hN := isNat_natVal (N := 2) (cap := 2) HP.out (by omega) (by unfold maxLen; omega) (hcs.fr f1)
  have f2 := (Fr.alloc _ _).trans f1
  have hcell := var_cell f2
  have hfz := var_free f2
  have f3 := (Fr.alloc _ _).trans f2
  have HN := hide hN
  clear hcs hN
  unfold natVal
  go_wp2_with fail
  (try simp only [Exit.inBlock, Exit.then])
  refine bodyPost_ret (results_nat rfl _ _ w.heap.size (.slice (natA x (some ⟨w.heap.size + 1, 0, none⟩)) (nlen 4294967296 x) (natC x 2)) rfl ?_) rfl ?_
  · go_simp
  · refine ⟨_, _, rfl, ?_, fun g off s e => ?_, fr_store f3 _⟩
    · exact IsNat.set HN.out _ _ (fun g off s e => by simp at e; simp; omega)
    · have := natA_some e; simp at this; omega

set_option maxHeartbeats 400000 in
set_option maxRecDepth 4000 in
theorem made_any (n cap : Nat) (a : Option Addr) (f : Nat → Nat) (x : Nat) (w : World) (hn : n ≤ 1000000000000) (h : Cs .u32 w a n f) (hx : x < 4294967296 ^ n) (hf : ∀ j, j < n → f j = dg 4294967296 x j) :
    Calls Tryd.prog 72 #[.slice a n cap] w fun e w' => ∃ a' cap', e = .returned (natVal x a' cap') ∧ (∀ g off s, a' = some ⟨g, off, s⟩ → w.heap.size < g) ∧ IsNat w' (natVal x a' cap') x ∧ Fr w w' := by
  have HX := hide hx
  have HF := hide hf
  clear hx hf
  go_enter Tryd.func72, Tryd.ntmps72
  go_wp2_with fail
  refine (clone_any n cap a f _ hn (h.fr (Fr.alloc _ _))).mono ?_
  rintro e w1 ⟨v, rfl, hown, f1⟩
  obtain ⟨a1, c1, rfl, hc1, hc2, hb⟩ := own_form hown
  have hcs : Cs .u32 w1 a1 n (dg 4294967296 x) := by
    rcases own_cs hown with h | ⟨b, off, h1, h2, h3⟩
    · exact .inl h
    · exact .inr ⟨b, off, h1, h2, fun j hj => by rw [← HF.out j hj]; exact h3 j hj⟩
  have HB := hide hb
  clear hown hb h
  go_wp2_with fail
  refine (natOf_any x n c1 a1 _ HX.out hc1 hc2 hcs).mono ?_
  rintro e w2 ⟨rfl, f2⟩
  have hN := isNat_natVal HX.out hc1 hc2 (hcs.fr f2)
  have f3 := f1.trans f2
  have hcell := var_cell f3
  have hfz := var_free f3
  have f4 := (Fr.alloc _ _).trans f3
  have HN := hide hN
  clear hcs hN
  unfold natVal
  go_wp2_with fail
  (try simp only [Exit.inBlock, Exit.then])
  refine bodyPost_ret (results_nat rfl _ _ w.heap.size (.slice (natA x a1) (nlen 4294967296 x) (natC x c1)) rfl ?_) rfl ?_
  · go_simp
  · have hlt : ∀ g off s, a1 = some ⟨g, off, s⟩ → w.heap.size < g := fun g off s e => by have := (HB.out g off s e).1; simp at this; omega
    refine ⟨_, _, rfl, hlt, ?_, fr_store f4 _⟩
    exact IsNat.set HN.out _ _ (fun g off s e => by have := hlt g off s e; simp; omega)

set_option maxHeartbeats 400000 in
set_option maxRecDepth 4000 in
theorem limbs_any (v : Value) (x : Nat) (w : World) (h : IsNat w v x) (hn : nlen 4294967296 x ≤ 1000000000000) :
    Calls Tryd.prog 71 #[v] w fun e w' => ∃ v', e = .returned v' ∧ w'.ownsRow (w.heap.size + 1) 47 1 v' (nlen 4294967296 x) (rowOf .u32 (nlen 4294967296 x) (dg 4294967296 x)) ∧ Fr w w' := by
  obtain ⟨a, cap, rfl, h2, h3, h4⟩ := h
  go_enter Tryd.func71, Tryd.ntmps71
  go_wp2_with fail
  refine (clone_any _ cap a _ _ hn (h4.fr (Fr.alloc _ _))).mono ?_
  rintro e w1 ⟨v, rfl, hown, f1⟩
  have HO := hide hown
  clear hown h4
  go_wp2_with fail
  go_ret
  have e : ∀ o, (w.alloc o).heap.size = w.heap.size + 1 := fun o => by simp
  exact ⟨_, rfl, by have h := HO.out; rw [e] at h; exact h, (Fr.alloc _ _).trans f1⟩
end Go.Proofs.YtmaapdmbkhoigaaDoor

/- math/bits.Len32, Small, Bits. -/
namespace Go.Proofs.YtmaapdmbkhoigaaDoor
set_option linter.unusedVariables false
set_option linter.unusedSimpArgs false
open Go.RowKit

theorem bitLen_nlen (x : Nat) (hx : x < 18446744073709551616) : Lib.bitLen x = nlen 2 x := by
  by_cases h0 : x = 0
  · subst h0
    rw [nlen_zero]; exact Lib.bitLenAux_zero 64
  · obtain ⟨h1, h2, h3⟩ := Lib.bitLenAux_bounds 64 x hx h0
    exact (nlen_eq (by omega) h3 (.inr h2)).symm

set_option maxHeartbeats 4000000 in
set_option maxRecDepth 100000 in
theorem len32_any (x : Int) (w : World) (h0 : 0 ≤ x) (h1 : x ≤ 4294967295) :
    Calls Tryd.prog 104 #[.int .u32 x] w fun e w' => e = .returned (.int .i64 (nlen 2 x.toNat : Int)) ∧ w' = w := by
  have hb := bitLen_nlen x.toNat (by omega)
  have HB := hide hb
  clear hb
  have fin : ∀ (y c : Int), 0 ≤ y → y ≤ 255 → Hid (c + Lib.bitLen y.toNat = Lib.bitLen x.toNat) → c + Lib.len8 y = (nlen 2 x.toNat : Int) := fun y c g0 g1 h => by
    rw [Lib.len8_of y g0 g1, h.out, HB.out]
  have HF := hide fin
  clear fin
  have b8 : ∀ y : Int, 0 ≤ y → y ≤ 255 → 0 ≤ Lib.len8 y ∧ Lib.len8 y ≤ 8 := fun y g0 g1 => by
    rw [Lib.len8_of y g0 g1]
    have := Lib.bitLen_le8' y g0 g1
    omega
  have H8 := hide b8
  clear b8
  by_cases c1 : x ≤ 255
  · obtain ⟨p0, p1⟩ := H8.out x h0 c1
    go_enter Tryd.func104, Tryd.ntmps104
    go_wp2
    go_ret
    refine ⟨congrArg Ending.returned (congrArg (Value.int IntKind.i64) ?_), rfl⟩
    have := HF.out x 0 h0 c1 (by unfold Hid; omega)
    omega
  · by_cases c2 : x ≤ 65535
    · have g0 : 0 ≤ x / 256 := by omega
      have g1 : x / 256 ≤ 255 := by omega
      have s := Lib.bitLen_shift8 x.toNat (by omega) (by omega)
      have HS := hide s
      clear s
      obtain ⟨p0, p1⟩ := H8.out _ g0 g1
      go_enter Tryd.func104, Tryd.ntmps104
      go_wp2
      go_ret
      refine ⟨congrArg Ending.returned (congrArg (Value.int IntKind.i64) ?_), rfl⟩
      have e : (x / 256).toNat = x.toNat / 256 := by omega
      have := HF.out (x / 256) 8 g0 g1 (by unfold Hid; rw [e, HS.out]; omega)
      omega
    · by_cases c3 : x ≤ 16777215
      · have g0 : 0 ≤ x / 65536 := by omega
        have g1 : x / 65536 ≤ 255 := by omega
        have s := Lib.bitLen_shift16 x.toNat (by omega) (by omega)
        have HS := hide s
        clear s
        obtain ⟨p0, p1⟩ := H8.out _ g0 g1
        go_enter Tryd.func104, Tryd.ntmps104
        go_wp2
        go_ret
        refine ⟨congrArg Ending.returned (congrArg (Value.int IntKind.i64) ?_), rfl⟩
        have e : (x / 65536).toNat = x.toNat / 65536 := by omega
        have := HF.out (x / 65536) 16 g0 g1 (by unfold Hid; rw [e, HS.out]; omega)
        omega
      · have g0 : 0 ≤ x / 65536 / 256 := by omega
        have g1 : x / 65536 / 256 ≤ 255 := by omega
        have s := Lib.bitLen_shift24 x.toNat (by omega) (by omega)
        have HS := hide s
        clear s
        obtain ⟨p0, p1⟩ := H8.out _ g0 g1
        go_enter Tryd.func104, Tryd.ntmps104
        go_wp2
        go_ret
        refine ⟨congrArg Ending.returned (congrArg (Value.int IntKind.i64) ?_), rfl⟩
        have e : (x / 65536 / 256).toNat = x.toNat / 16777216 := by omega
        have := HF.out (x / 65536 / 256) 24 g0 g1 (by unfold Hid; rw [e, HS.out]; omega)
        omega

/-- Bits of a number by its last limb. -/
theorem bits_top (x k : Nat) (h1 : x < 4294967296 ^ (k + 1)) (h2 : 4294967296 ^ k ≤ x) : nlen 2 x = k * 32 + nlen 2 (dg 4294967296 x k) := by
  have hp := pow_pos' b32 k
  have e : dg 4294967296 x k = x / 4294967296 ^ k := by
    unfold dg
    exact Nat.mod_eq_of_lt ((Nat.div_lt_iff_lt_mul hp).2 (by rw [Nat.pow_succ, Nat.mul_comm] at h1; exact h1))
  rw [e]
  have hq : x / 4294967296 ^ k ≠ 0 := by have := Nat.div_pos h2 hp; omega
  generalize hqq : x / 4294967296 ^ k = q at *
  have hB : (4294967296 : Nat) ^ k = 2 ^ (k * 32) := by rw [Nat.mul_comm, Nat.pow_mul]
  have l1 := lt_nlen (B := 2) (by omega) q
  have l2 := nlen_low (B := 2) (by omega) q hq
  have l3 := nlen_pos (B := 2) (by omega) hq
  rw [hB] at hqq hp
  refine nlen_eq (by omega) ?_ (.inr ?_)
  · rw [Nat.pow_add, Nat.mul_comm]
    exact (Nat.div_lt_iff_lt_mul hp).1 (by rw [hqq]; exact l1)
  · have : k * 32 + nlen 2 q - 1 = (nlen 2 q - 1) + k * 32 := by omega
    rw [this, Nat.pow_add]
    exact (Nat.le_div_iff_mul_le hp).1 (by rw [hqq]; exact l2)

set_option maxHeartbeats 400000 in
set_option maxRecDepth 4000 in
theorem bits_any (v : Value) (x : Nat) (w : World) (h : IsNat w v x) (hn : nlen 4294967296 x ≤ 1000000000000) :
    Calls Tryd.prog 88 #[v] w fun e w' => e = .returned (.int .i64 (nlen 2 x : Int)) ∧ Fr w w' := by
  obtain ⟨a, cap, rfl, h2, h3, h4⟩ := h
  by_cases hx : x = 0
  · subst hx
    rw [nlen_zero] at *
    rw [nlen_zero]
    clear h4
    go_enter Tryd.func88, Tryd.ntmps88
    go_wp2
    go_ret
    exact ⟨rfl, by unfold Fr; go_grown⟩
  · have hp := nlen_pos b32 hx
    have hl := lt_nlen b32 x
    have hw := nlen_low b32 x hx
    obtain ⟨k, hk⟩ : ∃ k, nlen 4294967296 x = k + 1 := ⟨nlen 4294967296 x - 1, by omega⟩
    rw [hk] at hl hw h2 h4 hn hp ⊢
    have ht := bits_top x k hl (by simpa using hw)
    rcases h4 with h4 | ⟨b, off, rfl, hb, hc⟩
    · omega
    · have hci := hc k (by omega)
      have hlt := dg_lt b32 x k
      have hs : nlen 2 (dg 4294967296 x k) ≤ 32 := nlen_le (by omega) (by omega)
      have HT := hide ht
      clear ht hl hw hk hc hp
      generalize dg 4294967296 x k = d at *
      go_enter Tryd.func88, Tryd.ntmps88
      go_wp2_with fail
      refine (len32_any _ _ (by omega) (by omega)).mono ?_
      rintro e w1 ⟨rfl, rfl⟩
      rw [Int.toNat_natCast]
      go_wp2_with fail
      go_ret
      refine ⟨?_, by unfold Fr; go_grown⟩
      rw [HT.out]
      go_num

/-- -1, 0 or 1. -/
def cmpZ (n m : Nat) : Int := if n < m then -1 else if n = m then 0 else 1

set_option maxHeartbeats 800000 in
set_option maxRecDepth 4000 in
theorem cmp_any (va vb : Value) (x y : Nat) (w : World) (ha : IsNat w va x) (hb : IsNat w vb y) (hx : nlen 4294967296 x ≤ 1000000000000) (hy : nlen 4294967296 y ≤ 1000000000000) :
    Calls Tryd.prog 53 #[va, vb] w fun e w' => e = .returned (.int .i64 (cmpZ x y)) ∧ Fr w w' := by
  have HA : Hid (IsNat w va x) := ha
  have HB : Hid (IsNat w vb y) := hb
  obtain ⟨a, ca, rfl, a2, a3, a4⟩ := ha
  obtain ⟨b, cb, rfl, b2, b3, b4⟩ := hb
  clear a4 b4
  have HNx := lt_nlen b32 x
  have HNy := lt_nlen b32 y
  have hM : ∃ M : Nat, max (nlen 4294967296 x) (nlen 4294967296 y) = M ∧ M ≤ 1000000000000 ∧ Hid (x / 4294967296 ^ M = y / 4294967296 ^ M) := by
    refine ⟨_, rfl, by omega, ?_⟩
    unfold Hid
    rw [Nat.div_eq_of_lt (lt_of_nlen b32 (by omega)), Nat.div_eq_of_lt (lt_of_nlen b32 (by omega))]
  clear HNx HNy
  obtain ⟨M, hM1, hM2, hM3⟩ := hM
  go_enter Tryd.func53, Tryd.ntmps53
  generalize nlen 4294967296 x = N1 at *
  generalize nlen 4294967296 y = N2 at *
  go_wp2_with fail
  all_goals (
    go_loopw [5] (fun i wr => ∃ k : Nat, k ≤ M ∧ i = .int .i64 ((k : Int) - 1) ∧ Hid (x / 4294967296 ^ k = y / 4294967296 ^ k) ∧ Fr ((w.alloc (Obj.cells #[Value.slice a N1 ca] 78)).alloc (Obj.cells #[Value.slice b N2 cb] 78)) wr) (fun i _ => (intOf i + 1).toNat)
    case atStart => exact ⟨M, by omega, by go_num, hM3, Fr.refl _⟩
    case round =>
      obtain ⟨k, hk, rfl, hE, hF⟩ := hrel
      have f0 : Fr w wr := ((Fr.alloc _ _).trans (Fr.alloc _ _)).trans hF
      by_cases c : k = 0
      · subst c
        go_wp2_with fail
        go_ret
        refine ⟨?_, f0⟩
        have := hE.out
        simp at this
        simp [cmpZ, this]
      · obtain ⟨k, rfl⟩ : ∃ j, k = j + 1 := ⟨k - 1, by omega⟩
        have e0 : ((k + 1 : Nat) : Int) - 1 = (k : Int) := by omega
        rw [e0]
        have e1 : (((k : Nat) : Int)).toNat = k := by omega
        have lx := dg_lt b32 x k
        have ly := dg_lt b32 y k
        have hboxA : ∀ wz, Fr wr wz → ∀ p : FrBox wz, p.now.cell? ⟨w.heap.size, 0, none⟩ = some (.slice a N1 ca) := fun wz fz p => fr_cell ((hF.trans fz).trans p.fr) (by simp [go_sem])
        have hboxB : ∀ wz, Fr wr wz → ∀ p : FrBox wz, p.now.cell? ⟨w.heap.size + 1, 0, none⟩ = some (.slice b N2 cb) := fun wz fz p => fr_cell ((hF.trans fz).trans p.fr) (by simp [go_sem])
        have hcA : ∀ wz, Fr wr wz → ∀ p : FrBox wz, Calls Tryd.prog 76 #[.agg #[.slice a N1 ca], .int .i64 k] p.now fun e w'' => e = .returned (.int .u64 (dg 4294967296 x k : Int)) ∧ ∃ p : FrBox wz, w'' = p.now := fun wz fz p => Calls.fr_of (at_any _ x k _ (IsNat.fr HA.out ((f0.trans fz).trans p.fr)) (by unfold maxLen; omega))
        have hcB : ∀ wz, Fr wr wz → ∀ p : FrBox wz, Calls Tryd.prog 76 #[.agg #[.slice b N2 cb], .int .i64 k] p.now fun e w'' => e = .returned (.int .u64 (dg 4294967296 y k : Int)) ∧ ∃ p : FrBox wz, w'' = p.now := fun wz fz p => Calls.fr_of (at_any _ y k _ (IsNat.fr HB.out ((f0.trans fz).trans p.fr)) (by unfold maxLen; omega))
        have qA := hide hboxA
        have qB := hide hboxB
        have kA := hide hcA
        have kB := hide hcB
        have cl : Hid (dg 4294967296 x k < dg 4294967296 y k → x < y) := fun h => cmp_lt b32 hE.out h
        have cg : Hid (dg 4294967296 y k < dg 4294967296 x k → y < x) := fun h => cmp_lt b32 hE.out.symm h
        have ce : Hid (dg 4294967296 x k = dg 4294967296 y k → x / 4294967296 ^ k = y / 4294967296 ^ k) := fun h => cmp_eq b32 hE.out h
        generalize dg 4294967296 x k = dx at *
        generalize dg 4294967296 y k = dy at *
        have xA := qA.out wr (Fr.refl _)
        have xB := qB.out wr (Fr.refl _)
        have yA : Hid _ := kA.out wr (Fr.refl _)
        have yB : Hid _ := kB.out wr (Fr.refl _)
        clear hboxA hboxB hcA hcB
        have nb := FrBox.some wr
        go_wp2_with fail
        refine wp_region_fr (by kernel_rfl) (by kernel_rfl) ?_
        repeat (quiet_step (first | with_reducible exact yA.out _ | with_reducible exact yB.out _))
        refine wpQuiet_nil ?_
        intro wq hq
        obtain ⟨p, hp⟩ := hq
        have fq := p.fr
        rw [← hp] at fq
        clear hp xA xB yA yB nb p
        have xA := qA.out wq fq
        have xB := qB.out wq fq
        have yA : Hid _ := kA.out wq fq
        have yB : Hid _ := kB.out wq fq
        have nb := FrBox.some wq
        by_cases c1 : dx < dy
        · go_wp2_with fail
          go_ret
          exact ⟨by rw [cmpZ, if_pos (cl.out c1)]; rfl, f0.trans fq⟩
        · go_wp2_with fail
          refine wp_region_fr (by kernel_rfl) (by kernel_rfl) ?_
          repeat (quiet_step (first | with_reducible exact yA.out _ | with_reducible exact yB.out _))
          refine wpQuiet_nil ?_
          intro wt ht
          obtain ⟨p, hp⟩ := ht
          have ft := p.fr
          rw [← hp] at ft
          clear hp xA xB yA yB nb p
          by_cases c2 : dy < dx
          · go_wp2_with fail
            go_ret
            have := cg.out c2
            exact ⟨by rw [cmpZ, if_neg (by omega), if_neg (by omega)]; rfl, (f0.trans fq).trans ft⟩
          · have hE2 : Hid _ := ce.out (by omega)
            go_wp2_with fail
            go_roundw
            case rel => exact ⟨k, by omega, by go_num, hE2, (hF.trans fq).trans ft⟩
            case measure => simp [intOf])
end Go.Proofs.YtmaapdmbkhoigaaDoor

/- Add, Sub. -/
namespace Go.Proofs.YtmaapdmbkhoigaaDoor
set_option linter.unusedVariables false
set_option linter.unusedSimpArgs false
open Go.RowKit

/-- The row behind i rounds: the first i digits, then noughts. -/
def rowD (k : IntKind) (f : Nat → Nat) (i j : Nat) : Value := if j < i then .int k (f j : Int) else .int k 0

theorem rowD_cs {w : World} {g n : Nat} {t : TypeId} {k : IntKind} {f : Nat → Nat} (h : w.rowIs g t n (rowD k f n)) : Cs k w (some ⟨g, 0, none⟩) n f := by
  refine .inr ⟨g, 0, rfl, h.lt, fun j hj => ?_⟩
  rw [Nat.zero_add, h.cell hj, rowD, if_pos hj]
theorem rowD_set {w : World} {g n i : Nat} {t : TypeId} {k : IntKind} {f : Nat → Nat} (h : w.rowIs g t n (rowD k f i)) (d : Int) (hd : d = f i) : (w.setCell ⟨g, i, none⟩ (.int k d)).rowIs g t n (rowD k f (i + 1)) := by
  refine (h.set i (.int k d)).congr ?_
  intro j hj
  unfold rowD
  by_cases hji : j = i
  · subst hji; rw [if_pos rfl, if_pos (by omega), hd]
  · rw [if_neg hji]
    by_cases hlt2 : j < i
    · rw [if_pos hlt2, if_pos (by omega)]
    · rw [if_neg hlt2, if_neg (by omega)]

set_option maxHeartbeats 1000000 in
set_option maxRecDepth 4000 in
theorem add_any (va vb : Value) (x y : Nat) (w : World) (ha : IsNat w va x) (hb : IsNat w vb y) (hx : nlen 4294967296 x ≤ 100000000000) (hy : nlen 4294967296 y ≤ 100000000000) :
    Calls Tryd.prog 83 #[va, vb] w fun e w' => ∃ a c, e = .returned (.agg #[.slice a (nlen 4294967296 (x + y)) c]) ∧ Res w w' a c (x + y) := by
  have HA : Hid (IsNat w va x) := ha
  have HB : Hid (IsNat w vb y) := hb
  obtain ⟨a, ca, rfl, a2, a3, a4⟩ := ha
  obtain ⟨b, cb, rfl, b2, b3, b4⟩ := hb
  clear a4 b4
  have hM : ∃ M : Nat, max (nlen 4294967296 x) (nlen 4294967296 y) + 1 = M ∧ M ≤ 100000000001 ∧ Hid (x + y < 4294967296 ^ M) := by
    refine ⟨_, rfl, by omega, ?_⟩
    exact sum_lt b32 (lt_of_nlen b32 (by omega)) (lt_of_nlen b32 (by omega))
  obtain ⟨M, hM1, hM2, hM3⟩ := hM
  generalize nlen 4294967296 x = N1 at *
  generalize nlen 4294967296 y = N2 at *
  go_enter Tryd.func83, Tryd.ntmps83
  go_wp2_with fail
  all_goals (first
    | (have e : (N2 : Int) + 1 = (M : Int) := by omega
       rw [e]; clear e)
    | (have e : (N1 : Int) + 1 = (M : Int) := by omega
       rw [e]; clear e))
  all_goals (
    have hmk := run_make_row' (P := Tryd.prog) 76 47 (.int .u32 0) 4 Tryd.underlying76 info32 rfl .i64 .i64 M (by omega) (by omega)
    rw [hmk]
    simp only [Result.andThen]
    rw [Oper.upon_value]
    go_wp2_with fail
    go_loopw [6, 19] (fun c i wr => ∃ k : Nat, k ≤ M ∧ i = .int .i64 k ∧ c = .int .u64 (carry 4294967296 x y k : Int) ∧ wr.rowIs (w.heap.size + 1 + 1 + 1) 47 M (rowD .u32 (dg 4294967296 (x + y)) k) ∧ Fr (((w.alloc (Obj.cells #[Value.slice a N1 ca] 78)).alloc (Obj.cells #[Value.slice b N2 cb] 78)).alloc (Obj.cells #[Value.slice none 0 0] 78)) wr) (fun _ i _ => M - (intOf i).toNat)
    case atStart =>
      refine ⟨0, by omega, rfl, by rw [carry_zero]; rfl, ?_, Fr.alloc _ _⟩
      have := World.rowIs_made (((w.alloc (Obj.cells #[Value.slice a N1 ca] 78)).alloc (Obj.cells #[Value.slice b N2 cb] 78)).alloc (Obj.cells #[Value.slice none 0 0] 78)) (.int .u32 0) M 47
      simp at this
      exact this
    case round =>
      obtain ⟨k, hk, rfl, rfl, hrow, hF⟩ := hrel
      have f0 : Fr w wr := (((Fr.alloc _ _).trans (Fr.alloc _ _)).trans (Fr.alloc _ _)).trans hF
      by_cases c : k < M
      · have lx := dg_lt b32 x k
        have ly := dg_lt b32 y k
        have ls := dg_lt b32 (x + y) k
        have hst := sum_step b32 x y k
        have hcl := carry_le b32 x y k
        have xA : ∀ p : FrBox wr, p.now.cell? ⟨w.heap.size, 0, none⟩ = some (.slice a N1 ca) := fun p => fr_cell (hF.trans p.fr) (by simp [go_sem])
        have xB : ∀ p : FrBox wr, p.now.cell? ⟨w.heap.size + 1, 0, none⟩ = some (.slice b N2 cb) := fun p => fr_cell (hF.trans p.fr) (by simp [go_sem])
        have kA : ∀ p : FrBox wr, Calls Tryd.prog 76 #[.agg #[.slice a N1 ca], .int .i64 k] p.now fun e w'' => e = .returned (.int .u64 (dg 4294967296 x k : Int)) ∧ ∃ p : FrBox wr, w'' = p.now := fun p => Calls.fr_of (at_any _ x k _ (IsNat.fr HA.out (f0.trans p.fr)) (by unfold maxLen; omega))
        have kB : ∀ p : FrBox wr, Calls Tryd.prog 76 #[.agg #[.slice b N2 cb], .int .i64 k] p.now fun e w'' => e = .returned (.int .u64 (dg 4294967296 y k : Int)) ∧ ∃ p : FrBox wr, w'' = p.now := fun p => Calls.fr_of (at_any _ y k _ (IsNat.fr HB.out (f0.trans p.fr)) (by unfold maxLen; omega))
        have yA := hide kA
        have yB := hide kB
        have HR := hide hrow
        clear kA kB hrow
        have nb := FrBox.some wr
        generalize dg 4294967296 x k = dx at *
        generalize dg 4294967296 y k = dy at *
        generalize carry 4294967296 x y k = c0 at *
        have HC : ∃ c1, carry 4294967296 x y (k + 1) = c1 := ⟨_, rfl⟩
        obtain ⟨c1, HC⟩ := HC
        have HD : ∃ d1, dg 4294967296 (x + y) k = d1 := ⟨_, rfl⟩
        obtain ⟨d1, HD⟩ := HD
        rw [HC, HD] at hst
        rw [HD] at ls
        have HC' := hide HC
        have HD' := hide HD
        clear HC HD
        go_wp2_with fail
        refine wp_region_fr (by kernel_rfl) (by kernel_rfl) ?_
        repeat (quiet_step (first | with_reducible exact yA.out _ | with_reducible exact yB.out _))
        refine wpQuiet_nil ?_
        intro wq hq
        obtain ⟨p, hp⟩ := hq
        have fq := p.fr
        rw [← hp] at fq
        clear hp xA xB yA yB nb p
        obtain ⟨S, hS⟩ : ∃ S : Nat, S = c0 + dx + dy := ⟨_, rfl⟩
        have e1 : IntKind.u64.wrap ((c0 : Int) + IntKind.u64.wrap ((dx : Int) + dy)) = (S : Int) := by rw [IntKind.wrap_u64, IntKind.wrap_u64]; omega
        rw [e1]
        clear e1
        have hS2 : S < 17179869184 := by omega
        have hq1 : Hid ((S : Int) % 4294967296 = d1) := by unfold Hid; omega
        have hq2 : Hid ((S : Int) / 4294967296 = c1) := by unfold Hid; omega
        have hrow2 := HR.out.of_block (fq.block _ HR.out.lt)
        have hc2 := hrow2.cell c
        have hz2 := hrow2.frozen k
        simp only [rowD, Nat.lt_irrefl, if_false] at hc2
        have HR2 := hide hrow2
        clear hS hst HR hrow2
        go_wp2_with fail
        go_roundw
        case rel =>
          refine ⟨k + 1, by omega, by go_num, ?_, ?_, ?_⟩
          · rw [HC'.out, hq2.out]
          · exact rowD_set HR2.out _ (by rw [HD'.out, hq1.out])
          · exact Below.setCell (hF.trans fq) (by simp) _
        case measure => simp [intOf]; omega
      · have e : k = M := by omega
        subst e
        have hcs := rowD_cs hrow
        clear hrow
        go_wp2_with fail
        refine (natOf_any (x + y) k k _ _ hM3.out (by omega) (by unfold maxLen; omega) hcs).mono ?_
        rintro e w1 ⟨rfl, f1⟩
        have hN := isNat_natVal (N := k) (cap := k) hM3.out (by omega) (by unfold maxLen; omega) (hcs.fr f1)
        have f2 := hF.trans f1
        have hcell : w1.cell? ⟨w.heap.size + 1 + 1, 0, none⟩ = some (.slice none 0 0) := by have := var_cell f2; simpa using this
        have hfz : w1.frozen? ⟨w.heap.size + 1 + 1, 0, none⟩ = false := by have := var_free f2; simpa using this
        have HN := hide hN
        clear hcs hN
        unfold natVal
        go_wp2_with fail
        (try simp only [Exit.inBlock, Exit.then])
        refine bodyPost_ret (results_nat rfl _ _ (w.heap.size + 1 + 1) (.slice (natA (x + y) (some ⟨w.heap.size + 1 + 1 + 1, 0, none⟩)) (nlen 4294967296 (x + y)) (natC (x + y) k)) rfl ?_) rfl ?_
        · go_simp
        · refine ⟨_, _, rfl, ?_, fun g off s e => ?_, ?_⟩
          · exact IsNat.set HN.out _ _ (fun g off s e => by simp at e; simp; omega)
          · have := natA_some e; simp at this; omega
          · exact Below.setCell (f0.trans f1) (by simp; omega) _)
end Go.Proofs.YtmaapdmbkhoigaaDoor

/- Sub. -/
namespace Go.Proofs.YtmaapdmbkhoigaaDoor
set_option linter.unusedVariables false
set_option linter.unusedSimpArgs false
open Go.RowKit

theorem isNat_zero (w : World) : IsNat w (.agg #[.slice none 0 0]) 0 := ⟨none, 0, by rw [nlen_zero], by rw [nlen_zero]; omega, by omega, .inl (nlen_zero _)⟩

end Go.Proofs.YtmaapdmbkhoigaaDoor

/- What came in as limbs; Nats at hand (without Sub). -/
namespace Go.Proofs.YtmaapdmbkhoigaaDoor
set_option linter.unusedVariables false
set_option linter.unusedSimpArgs false
open Go.RowKit

/-- The Nats at hand in a world. -/
def Env (w : World) (L : List (Value × Nat)) : Prop := ∀ p ∈ L, IsNat w p.1 p.2 ∧ nlen 4294967296 p.2 ≤ 1000
theorem Env.fr {w w' : World} {L : List (Value × Nat)} (h : Env w L) (f : Fr w w') : Env w' L := fun p hp => ⟨(h p hp).1.fr f, (h p hp).2⟩
theorem Env.nil (w : World) : Env w [] := fun _ h => by cases h
theorem Env.cons {w : World} {L : List (Value × Nat)} {v : Value} {x : Nat} (h : Env w L) (hv : IsNat w v x) (hx : nlen 4294967296 x ≤ 1000) : Env w ((v, x) :: L) := fun p hp => by
  rcases List.mem_cons.1 hp with rfl | hp
  · exact ⟨hv, hx⟩
  · exact h p hp
end Go.Proofs.YtmaapdmbkhoigaaDoor

/- A row times a limb, added to a row from a place on: plain maths. -/
namespace Go.Proofs.YtmaapdmbkhoigaaDoor
set_option linter.unusedVariables false

/-- The carry behind t limbs of y, times k, added to p from place i on. -/
def mcarry (B p y k i t : Nat) : Nat := (p % B ^ (i + t) + k * B ^ i * (y % B ^ t)) / B ^ (i + t)

theorem mcarry_zero (B p y k i : Nat) (hB : 2 ≤ B) : mcarry B p y k i 0 = 0 := by
  unfold mcarry
  rw [Nat.pow_zero, Nat.mod_one, Nat.mul_zero, Nat.add_zero, Nat.add_zero]
  exact Nat.div_eq_of_lt (Nat.mod_lt _ (pow_pos' hB i))
theorem mcarry_lt {B p y k i t : Nat} (hB : 2 ≤ B) (hk : k < B) : mcarry B p y k i t < B := by
  unfold mcarry
  have h1 := Nat.mod_lt p (pow_pos' hB (i + t))
  have h2 := Nat.mod_lt y (pow_pos' hB t)
  rw [Nat.div_lt_iff_lt_mul (pow_pos' hB _)]
  have h3 : k * B ^ i * (y % B ^ t) ≤ (B - 1) * B ^ i * B ^ t := Nat.mul_le_mul (Nat.mul_le_mul_right _ (by omega)) (by omega)
  rw [Nat.mul_assoc (B - 1), ← Nat.pow_add] at h3
  have h4 : B * B ^ (i + t) = (B - 1) * B ^ (i + t) + B ^ (i + t) := by
    have : B = (B - 1) + 1 := by omega
    rw (config := {occs := .pos [1]}) [this]
    rw [Nat.succ_mul]
  omega
theorem mul_step {B : Nat} (hB : 2 ≤ B) (p y k i t : Nat) :
    mcarry B p y k i t + (k * dg B y t + dg B p (i + t)) = dg B (p + k * B ^ i * y) (i + t) + B * mcarry B p y k i (t + 1) := by
  have hD := pow_pos' hB (i + t)
  obtain ⟨D, hDe⟩ : ∃ D, B ^ (i + t) = D := ⟨_, rfl⟩
  obtain ⟨S, hS⟩ : ∃ S, mcarry B p y k i t + (k * dg B y t + dg B p (i + t)) = S := ⟨_, rfl⟩
  obtain ⟨A, hA⟩ : ∃ A, p % B ^ (i + t) + k * B ^ i * (y % B ^ t) = A := ⟨_, rfl⟩
  have hc : mcarry B p y k i t = A / D := by unfold mcarry; rw [hA, hDe]
  have hn : p % B ^ (i + (t + 1)) + k * B ^ i * (y % B ^ (t + 1)) = A % D + D * S := by
    rw [show i + (t + 1) = i + t + 1 by omega, mod_step p (i + t), mod_step y t, Nat.mul_add, ← hS, hc]
    have e1 : k * B ^ i * (B ^ t * dg B y t) = D * (k * dg B y t) := by rw [← hDe, Nat.pow_add]; ac_rfl
    rw [e1]
    have e2 := Nat.div_add_mod A D
    rw [Nat.mul_add, Nat.mul_add, hDe]
    rw [hDe] at hA
    omega
  have hr := Nat.mod_lt A (hDe ▸ hD : 0 < D)
  have hc1 : mcarry B p y k i (t + 1) = S / B := by
    unfold mcarry
    rw [hn, show i + (t + 1) = i + t + 1 by omega, Nat.pow_succ, hDe, ← Nat.div_div_eq_div_mul, Nat.add_mul_div_left _ _ (by omega), Nat.div_eq_of_lt hr, Nat.zero_add]
  have hq : ∃ z, p + k * B ^ i * y = A % D + D * (S + B * z) := by
    refine ⟨p / B ^ (i + t + 1) + k * (y / B ^ (t + 1)), ?_⟩
    have e1 := Nat.div_add_mod p (B ^ (i + t + 1))
    have e2 := Nat.div_add_mod y (B ^ (t + 1))
    have e3 : k * B ^ i * y = k * B ^ i * (B ^ (t + 1) * (y / B ^ (t + 1))) + k * B ^ i * (y % B ^ (t + 1)) := by rw [← Nat.mul_add, e2]
    have e4 : k * B ^ i * (B ^ (t + 1) * (y / B ^ (t + 1))) = D * (B * (k * (y / B ^ (t + 1)))) := by generalize y / B ^ (t + 1) = u; rw [← hDe, Nat.pow_add B i t, Nat.pow_succ]; ac_rfl
    have e5 : B ^ (i + t + 1) * (p / B ^ (i + t + 1)) = D * (B * (p / B ^ (i + t + 1))) := by rw [Nat.pow_succ, hDe]; ac_rfl
    rw [show i + (t + 1) = i + t + 1 by omega] at hn
    rw [Nat.mul_add B, Nat.mul_add, Nat.mul_add]
    omega
  obtain ⟨z, hz⟩ := hq
  have hd : dg B (p + k * B ^ i * y) (i + t) = S % B := by
    unfold dg
    rw [hz, hDe, Nat.add_mul_div_left _ _ (by omega), Nat.div_eq_of_lt hr, Nat.zero_add, Nat.add_mul_mod_self_left]
  rw [hS, hd, hc1]
  have := Nat.div_add_mod S B
  omega
theorem mul_lt {B p y k i N : Nat} (hB : 2 ≤ B) (hp : p < B ^ (i + N)) (hy : y < B ^ N) (hk : k < B) : p + k * B ^ i * y < B ^ (i + N + 1) := by
  have h3 : k * B ^ i * y ≤ (B - 1) * B ^ i * B ^ N := Nat.mul_le_mul (Nat.mul_le_mul_right _ (by omega)) (by omega)
  rw [Nat.mul_assoc (B - 1), ← Nat.pow_add] at h3
  have h4 : B ^ (i + N) * B = (B - 1) * B ^ (i + N) + B ^ (i + N) := by
    have : B = (B - 1) + 1 := by omega
    rw [Nat.mul_comm]
    rw (config := {occs := .pos [1]}) [this]
    rw [Nat.succ_mul]
  rw [Nat.pow_succ]
  omega
theorem mul_end {B p y k i N : Nat} (hB : 2 ≤ B) (hp : p < B ^ (i + N)) (hy : y < B ^ N) (hk : k < B) : mcarry B p y k i N = dg B (p + k * B ^ i * y) (i + N) := by
  unfold mcarry dg
  rw [Nat.mod_eq_of_lt hp, Nat.mod_eq_of_lt hy, Nat.mod_eq_of_lt]
  rw [Nat.div_lt_iff_lt_mul (pow_pos' hB _), Nat.mul_comm B, ← Nat.pow_succ]
  exact mul_lt hB hp hy hk
theorem mul_low {B p y k i j : Nat} (hj : j < i) : dg B (p + k * B ^ i * y) j = dg B p j := by
  refine dg_congr ?_
  obtain ⟨d, rfl⟩ : ∃ d, i = j + 1 + d := ⟨i - (j + 1), by omega⟩
  rw [Nat.pow_add, show p + k * (B ^ (j + 1) * B ^ d) * y = p + B ^ (j + 1) * (k * B ^ d * y) by ac_rfl, Nat.add_mul_mod_self_left]
theorem mul_high {B p y k i N j : Nat} (hB : 2 ≤ B) (hp : p < B ^ (i + N)) (hy : y < B ^ N) (hk : k < B) (hj : i + N < j) : dg B (p + k * B ^ i * y) j = dg B p j := by
  rw [dg_out (Nat.lt_of_lt_of_le (mul_lt hB hp hy hk) (Nat.pow_le_pow_right (by omega) (by omega))), dg_out (Nat.lt_of_lt_of_le hp (Nat.pow_le_pow_right (by omega) (by omega)))]
/-- A round of the whole product. -/
theorem mul_round {B : Nat} (x y i : Nat) : x % B ^ i * y + dg B x i * B ^ i * y = x % B ^ (i + 1) * y := by
  rw [mod_step, Nat.add_mul, Nat.mul_comm (dg B x i)]
theorem part_lt {B : Nat} (hB : 2 ≤ B) (x y i N : Nat) (hy : y < B ^ N) : x % B ^ i * y < B ^ (i + N) := by
  rw [Nat.pow_add]
  have h1 := Nat.mod_lt x (pow_pos' hB i)
  rcases Nat.eq_zero_or_pos (x % B ^ i) with h | h
  · rw [h, Nat.zero_mul]; exact Nat.mul_pos (pow_pos' hB i) (pow_pos' hB N)
  · exact Nat.mul_lt_mul_of_lt_of_lt h1 hy
theorem nlen_mul {B x y n m : Nat} (hB : 2 ≤ B) (hx : nlen B x ≤ n) (hy : nlen B y ≤ m) : nlen B (x * y) ≤ n + m := by
  refine nlen_le hB ?_
  have := part_lt hB x y n m (lt_of_nlen hB hy)
  rwa [Nat.mod_eq_of_lt (lt_of_nlen hB hx)] at this
end Go.Proofs.YtmaapdmbkhoigaaDoor

/- addRow. -/
namespace Go.Proofs.YtmaapdmbkhoigaaDoor
set_option linter.unusedVariables false
set_option linter.unusedSimpArgs false
open Go.RowKit

/-- A row of digits: those of q from place lo to place hi, else those of p. -/
def rowM (p q lo hi j : Nat) : Value := .int .u32 ((if lo ≤ j ∧ j < hi then dg 4294967296 q j else dg 4294967296 p j : Nat) : Int)
theorem rowM_none (p q lo hi : Nat) (h : hi ≤ lo) (j : Nat) : rowM p q lo hi j = .int .u32 (dg 4294967296 p j : Int) := by
  unfold rowM; rw [if_neg (by omega)]
theorem rowM_set {w : World} {g M p q lo hi : Nat} {t : TypeId} (h : w.rowIs g t M (rowM p q lo hi)) (hl : lo ≤ hi) (d : Int) (hd : d = dg 4294967296 q hi) : (w.setCell ⟨g, hi, none⟩ (.int .u32 d)).rowIs g t M (rowM p q lo (hi + 1)) := by
  refine (h.set hi (.int .u32 d)).congr ?_
  intro j hj
  unfold rowM
  by_cases hji : j = hi
  · subst hji; rw [if_pos rfl, if_pos (by omega), hd]
  · rw [if_neg hji]
    by_cases hlt2 : lo ≤ j ∧ j < hi
    · rw [if_pos hlt2, if_pos (by omega)]
    · rw [if_neg hlt2, if_neg (by omega)]
theorem Cs.below {k : IntKind} {w w' : World} {a : Option Addr} {n g : Nat} {f : Nat → Nat} (h : Cs k w a n f) (q : Below g w w') (hne : ∀ b off s, a = some ⟨b, off, s⟩ → b < g) : Cs k w' a n f := by
  rcases h with h | ⟨b, off, rfl, hb, hc⟩
  · exact .inl h
  · have := q.size
    exact .inr ⟨b, off, rfl, by omega, fun j hj => (Below.cell q (hne _ _ _ rfl)).trans (hc j hj)⟩

set_option maxHeartbeats 1000000 in
set_option maxRecDepth 4000 in
theorem addRow_any (g M i N L cp p y k c : Nat) (a : Option Addr) (w : World) (hrow : w.rowIs g 47 M (fun j => .int .u32 (dg 4294967296 p j : Int))) (hp : p < 4294967296 ^ (i + N)) (hL : N < L) (hLM : i + L = M) (hM : M ≤ 1000000000000)
    (hy : y < 4294967296 ^ N) (hk : k < 4294967296) (hcs : Cs .u32 w a N (dg 4294967296 y)) (hne : ∀ b off s, a = some ⟨b, off, s⟩ → b < g) :
    Calls Tryd.prog 97 #[.slice (some ⟨g, i, none⟩) L cp, .slice a N c, .int .u32 k] w fun e w' => e = .returned (.tuple #[]) ∧ w'.rowIs g 47 M (fun j => .int .u32 (dg 4294967296 (p + k * 4294967296 ^ i * y) j : Int)) ∧ Below g w w' := by
  have HP := hide hp
  have HY := hide hy
  have HC := hide hcs
  have HR := hide hrow
  have HN := hide hne
  clear hp hy hcs hrow hne
  go_enter Tryd.func97, Tryd.ntmps97
  go_wp2_with fail
  go_loopw [6, 11] (fun s6 s11 wr => ∃ t : Nat, t ≤ N ∧ s11 = .int .i64 t ∧ s6 = .int .u64 (mcarry 4294967296 p y k i t : Int) ∧ wr.rowIs g 47 M (rowM p (p + k * 4294967296 ^ i * y) i (i + t)) ∧ Hid (Below g w wr)) (fun _ s11 _ => N - (intOf s11).toNat)
  case atStart =>
    refine ⟨0, by omega, rfl, by rw [mcarry_zero _ _ _ _ _ b32]; rfl, ?_, Below.refl _ _⟩
    exact HR.out.congr (fun j hj => (rowM_none _ _ _ _ (by omega) j).symm)
  case round =>
    obtain ⟨t, ht, rfl, rfl, hrw, hF⟩ := hrel
    by_cases hc : t < N
    · have hst := mul_step b32 p y k i t
      have hcl := mcarry_lt (p := p) (y := y) (i := i) (t := t) b32 hk
      have ly := dg_lt b32 y t
      have lp := dg_lt b32 p (i + t)
      have lq := dg_lt b32 (p + k * 4294967296 ^ i * y) (i + t)
      have hcy := Cs.below HC.out hF.out HN.out
      have hcp := hrw.cell (i := i + t) (by omega)
      have hfz := hrw.frozen (i + t)
      have HR2 := hide hrw
      rw [rowM, if_neg (by omega)] at hcp
      clear hrw
      rcases hcy with h0 | ⟨b, off, rfl, hb, hcell⟩
      · omega
      · have hcy := hcell t hc
        clear hcell
        have hkd : k * dg 4294967296 y t ≤ 4294967295 * 4294967295 := Nat.mul_le_mul (by omega) (by omega)
        obtain ⟨d1, HD⟩ : ∃ d1, dg 4294967296 (p + k * 4294967296 ^ i * y) (i + t) = d1 := ⟨_, rfl⟩
        obtain ⟨c1, HC1⟩ : ∃ c1, mcarry 4294967296 p y k i (t + 1) = c1 := ⟨_, rfl⟩
        rw [HD] at lq
        rw [HD, HC1] at hst
        have HD := hide HD
        have HC1 := hide HC1
        generalize dg 4294967296 y t = dy at *
        generalize dg 4294967296 p (i + t) = dp at *
        generalize mcarry 4294967296 p y k i t = c0 at *
        obtain ⟨kd, hkde⟩ : ∃ kd, k * dy = kd := ⟨_, rfl⟩
        rw [hkde] at hkd hst
        have hkz : (k : Int) * (dy : Int) = (kd : Int) := by rw [← hkde]; simp
        obtain ⟨S, hS⟩ : ∃ S : Nat, S = c0 + (kd + dp) := ⟨_, rfl⟩
        have e1 : IntKind.u64.wrap ((c0 : Int) + IntKind.u64.wrap (IntKind.u64.wrap ((k : Int) * (dy : Int)) + dp)) = (S : Int) := by rw [hkz, IntKind.wrap_u64, IntKind.wrap_u64, IntKind.wrap_u64]; omega
        have hq1 : Hid ((S : Int) % 4294967296 = d1) := by unfold Hid; omega
        have hq2 : Hid ((S : Int) / 4294967296 = c1) := by unfold Hid; omega
        have hSl : S < 18446744073709551616 := by omega
        clear hst hkd hkde
        go_wp2_with fail
        go_roundw
        case rel =>
          refine ⟨t + 1, by omega, by go_num, ?_, ?_, ?_⟩
          · rw [HC1.out, ← hq2.out, hS]; simp
          · rw [show i + (t + 1) = i + t + 1 by omega]; exact rowM_set HR2.out (by omega) _ (by rw [HD.out, ← hq1.out, hS]; simp)
          · exact Below.setCell hF.out (Nat.le_refl _) _
        case measure => simp [intOf]; omega
    · have e : t = N := by omega
      subst e
      have hme := mul_end b32 HP.out HY.out hk
      have lq := dg_lt b32 (p + k * 4294967296 ^ i * y) (i + t)
      have hfz := hrw.frozen (i + t)
      have hcp := hrw.cell (i := i + t) (by omega)
      rw [rowM, if_neg (by omega)] at hcp
      rw [hme]
      have HR2 := hide hrw
      clear hrw
      generalize hd : dg 4294967296 (p + k * 4294967296 ^ i * y) (i + t) = d1 at *
      have HD := hide hd
      clear hd hme
      go_wp2_with fail
      refine bodyPost_end (results_none rfl _ _ _) rfl ?_
      refine ⟨rfl, (rowM_set HR2.out (by omega) _ (by rw [HD.out])).congr ?_, Below.setCell hF.out (Nat.le_refl _) _⟩
      intro j hj
      unfold rowM
      by_cases h1 : i ≤ j ∧ j < i + t + 1
      · rw [if_pos h1]
      · rw [if_neg h1]
        rcases Nat.lt_or_ge j i with h2 | h2
        · rw [mul_low h2]
        · rw [mul_high b32 HP.out HY.out hk (by omega)]

theorem fr_free {w w' : World} {a : Addr} {v : Value} (k : Fr w w') (h : w.cell? a = some v) (hf : w.frozen? a = false) : w'.frozen? a = false := by
  have hb := k.block a.block (cell_lt h)
  unfold World.frozen? at *
  rw [hb]; exact hf
/-- A list of limbs at hand. -/
def Lm (w : World) (a : Option Addr) (x : Nat) : Prop := Cs .u32 w a (nlen 4294967296 x) (dg 4294967296 x) ∧ ∀ b off s, a = some ⟨b, off, s⟩ → b < w.heap.size
theorem Lm.fr {w w' : World} {a : Option Addr} {x : Nat} (h : Lm w a x) (f : Fr w w') : Lm w' a x := ⟨h.1.fr f, fun b off s e => Nat.lt_of_lt_of_le (h.2 b off s e) f.size⟩
theorem limbs_lm (v : Value) (x : Nat) (w : World) (h : IsNat w v x) (hn : nlen 4294967296 x ≤ 1000000000000) :
    Calls Tryd.prog 71 #[v] w fun e w' => ∃ a c, e = .returned (.slice a (nlen 4294967296 x) c) ∧ nlen 4294967296 x ≤ c ∧ Lm w' a x ∧ Fr w w' := by
  refine (limbs_any v x w h hn).mono ?_
  rintro e w' ⟨v', rfl, ho, f⟩
  obtain ⟨a, c, rfl, h1, h2, h3⟩ := own_form ho
  exact ⟨a, c, rfl, h1, ⟨own_cs ho, fun b off s e => (h3 b off s e).2⟩, f⟩
end Go.Proofs.YtmaapdmbkhoigaaDoor

/- Mul. -/
namespace Go.Proofs.YtmaapdmbkhoigaaDoor
set_option linter.unusedVariables false
set_option linter.unusedSimpArgs false
open Go.RowKit

set_option maxHeartbeats 1000000 in
set_option maxRecDepth 4000 in
theorem mul_any (va vb : Value) (x y : Nat) (w : World) (ha : IsNat w va x) (hb : IsNat w vb y) (hx : nlen 4294967296 x ≤ 100000000000) (hy : nlen 4294967296 y ≤ 100000000000) :
    Calls Tryd.prog 75 #[va, vb] w fun e w' => ∃ a c, e = .returned (.agg #[.slice a (nlen 4294967296 (x * y)) c]) ∧ Res w w' a c (x * y) := by
  have HA := hide ha
  have HB := hide hb
  obtain ⟨a, ca, rfl, a2, a3, a4⟩ := ha
  obtain ⟨b, cb, rfl, b2, b3, b4⟩ := hb
  clear a4 b4
  have lx := hide (lt_nlen b32 x)
  have ly := hide (lt_nlen b32 y)
  go_enter Tryd.func75, Tryd.ntmps75
  go_wp2_with fail
  obtain ⟨W, hW⟩ : ∃ W, W = ((w.alloc (Obj.cells #[Value.slice a (nlen 4294967296 x) ca] 78)).alloc (Obj.cells #[Value.slice b (nlen 4294967296 y) cb] 78)).alloc (Obj.cells #[Value.slice none 0 0] 78) := ⟨_, rfl⟩
  have fW : Fr w W := by rw [hW]; exact ((Fr.alloc _ _).trans (Fr.alloc _ _)).trans (Fr.alloc _ _)
  have c2 : W.cell? ⟨w.heap.size, 0, none⟩ = some (.slice a (nlen 4294967296 x) ca) := by rw [hW]; simp [go_sem]
  have c3 : W.cell? ⟨w.heap.size + 1, 0, none⟩ = some (.slice b (nlen 4294967296 y) cb) := by rw [hW]; simp [go_sem]
  have c4 : W.cell? ⟨w.heap.size + 1 + 1, 0, none⟩ = some (.slice none 0 0) := by rw [hW]; simp [go_sem]
  have z4 : W.frozen? ⟨w.heap.size + 1 + 1, 0, none⟩ = false := by rw [hW]; simp [go_sem]
  have sW : w.heap.size + 1 + 1 < W.heap.size := cell_lt c4
  rw [← hW]
  clear hW
  have HA := hide (IsNat.fr HA.out fW)
  have HB := hide (IsNat.fr HB.out fW)
  have FW := hide fW
  clear fW
  go_region_held3 (fun w' => w'.cell? ⟨w.heap.size, 0, none⟩ = some (.slice a (nlen 4294967296 x) ca) ∧ w'.cell? ⟨w.heap.size + 1, 0, none⟩ = some (.slice b (nlen 4294967296 y) cb) ∧ Hid (Fr W w'))
    (first | exact ⟨fr_cell fz.out c2, fr_cell fz.out c3, fz⟩ | exact ⟨c2, c3, Fr.drew _⟩)
    (first
    | (go_at_call 71
       have hh := (by assumption : _ ∧ _ ∧ Hid (Fr W _))
       first
       | (refine (limbs_lm _ x _ (IsNat.fr HA.out hh.2.2.out) (by omega)).mono ?_
          rintro e wn ⟨a1, c1, rfl, n1, l1, fy⟩
          have L1 := hide l1
          try (have L2 := hide (L2.out.fr fy))
          have fz := hide (hh.2.2.out.trans fy)
          clear hh fy l1)
       | (refine (limbs_lm _ y _ (IsNat.fr HB.out hh.2.2.out) (by omega)).mono ?_
          rintro e wn ⟨a5, c5, rfl, n5, l2, fy⟩
          have L2 := hide l2
          try (have L1 := hide (L1.out.fr fy))
          have fz := hide (hh.2.2.out.trans fy)
          clear hh fy l2)))
  go_wp2_with fail
  obtain ⟨M, hM⟩ : ∃ M : Nat, nlen 4294967296 x + nlen 4294967296 y = M := ⟨_, rfl⟩
  have e : (nlen 4294967296 x : Int) + (nlen 4294967296 y : Int) = (M : Int) := by omega
  rw [e]
  clear e
  have hmk := run_make_row' (P := Tryd.prog) 76 47 (.int .u32 0) 4 Tryd.underlying76 info32 rfl .i64 .i64 M (by omega) (by omega)
  rw [hmk]
  simp only [Result.andThen]
  rw [Oper.upon_value]
  generalize hN1 : nlen 4294967296 x = N1 at *
  generalize hN2 : nlen 4294967296 y = N2 at *
  have HN1 := hide hN1
  have HN2 := hide hN2
  clear hmk hN1 hN2
  go_wp2_with fail
  go_loopw [22] (fun s22 wr => ∃ i : Nat, i ≤ N1 ∧ s22 = .int .i64 i ∧ wr.rowIs wn.heap.size 47 M (fun j => .int .u32 (dg 4294967296 (x % 4294967296 ^ i * y) j : Int)) ∧ Hid (Fr wn wr)) (fun s22 _ => N1 - (intOf s22).toNat)
  case atStart =>
    refine ⟨0, by omega, rfl, ?_, Fr.alloc _ _⟩
    rw [Nat.pow_zero, Nat.mod_one, Nat.zero_mul]
    simp only [dg_zero]
    exact World.rowIs_made wn (.int .u32 0) M 47
  case round =>
    obtain ⟨i, hi, rfl, hrw, hF⟩ := hrel
    by_cases hc : i < N1
    · have lk := dg_lt b32 x i
      have hcx := (L1.out.1).fr hF.out
      rw [HN1.out] at hcx
      rcases hcx with h0 | ⟨bx, off, rfl, hbx, hcell⟩
      · omega
      · have hcx := hcell i hc
        clear hcell
        have HR := hide hrw
        clear hrw
        go_wp2_with fail
        have hy' := ly.out
        refine (addRow_any wn.heap.size M i N2 (M - i) (M - i) (x % 4294967296 ^ i * y) y (dg 4294967296 x i) c5 a5 wr HR.out (part_lt b32 x y i N2 hy') (by omega) (by omega) (by omega) hy' lk ?_ L2.out.2).mono ?_
        · have := (L2.out.1).fr hF.out
          rw [HN2.out] at this
          exact this
        · rintro e w1 ⟨rfl, hr1, f1⟩
          rw [mul_round] at hr1
          have HR1 := hide hr1
          clear hr1
          go_wp2_with fail
          go_roundw
          case rel => exact ⟨i + 1, by omega, by go_num, HR1.out, Below.trans hF.out f1⟩
          case measure => simp [intOf]; omega
    · have e : i = N1 := by omega
      subst e
      have hcs : Cs .u32 wr (some ⟨wn.heap.size, 0, none⟩) M (dg 4294967296 (x % 4294967296 ^ i * y)) := .inr ⟨_, 0, rfl, hrw.lt, fun j hj => by rw [Nat.zero_add]; exact hrw.cell hj⟩
      have hxx : x % 4294967296 ^ i = x := Nat.mod_eq_of_lt lx.out
      rw [hxx] at hcs
      have hlt : x * y < 4294967296 ^ M := by have := part_lt b32 x y i N2 ly.out; rw [hxx] at this; rwa [hM] at this
      have HC := hide hcs
      have HL := hide hlt
      clear hcs hlt hrw hxx
      go_wp2_with fail
      refine (made_any M M (some ⟨wn.heap.size, 0, none⟩) _ (x * y) _ (by omega) HC.out HL.out (fun j _ => rfl)).mono ?_
      rintro e w1 ⟨a6, c6, rfl, hl6, h6, f6⟩
      have f7 := (fz.out.trans hF.out).trans f6
      have hcell := fr_cell f7 c4
      have hfz := fr_free f7 c4 z4
      have H6 := hide h6
      have s1 := (fz.out.trans hF.out).size
      have F8 := FW.out.trans f7
      have HL6 := hide hl6
      clear h6 hl6
      unfold natVal
      go_wp2_with fail
      (try simp only [Exit.inBlock, Exit.then])
      refine bodyPost_ret (results_nat rfl _ _ (w.heap.size + 1 + 1) (.slice (natA (x * y) a6) (nlen 4294967296 (x * y)) (natC (x * y) c6)) rfl ?_) rfl ?_
      · go_simp
      · have hg : ∀ g off s, natA (x * y) a6 = some ⟨g, off, s⟩ → wr.heap.size < g := fun g off s e => HL6.out g off s (natA_some e)
        refine ⟨_, _, rfl, ?_, fun g off s e => ?_, ?_⟩
        · exact IsNat.set H6.out _ _ (fun g off s e => by have := HL6.out g off s e; simp; omega)
        · have := hg g off s e; omega
        · exact Below.setCell F8 (by simp; omega) _
end Go.Proofs.YtmaapdmbkhoigaaDoor

/- All, Pow. -/
namespace Go.Proofs.YtmaapdmbkhoigaaDoor
set_option linter.unusedVariables false
set_option linter.unusedSimpArgs false
open Go.RowKit

theorem of_int (n : Int) (w : World) (h0 : 0 ≤ n) (hn : n < 18446744073709551616) :
    Calls Tryd.prog 51 #[.int .u64 n] w fun e w' => ∃ a c, e = .returned (.agg #[.slice a (nlen 4294967296 n.toNat) c]) ∧ Res w w' a c n.toNat := by
  have := of_any n.toNat w (by omega)
  rwa [Int.toNat_of_nonneg h0] at this
theorem nl1 : nlen 4294967296 1 = 1 := nlen_eq b32 (by decide) (.inr (by decide))
theorem of_one (w : World) : Calls Tryd.prog 51 #[.int .u64 1] w fun e w' => ∃ a c, e = .returned (.agg #[.slice a (nlen 4294967296 1) c]) ∧ Res w w' a c 1 := of_int 1 w (by omega) (by omega)

/-- The product of the first j. -/
def prodN (f : Nat → Nat) : Nat → Nat
  | 0 => 1
  | j + 1 => prodN f j * f j
/-- A list of Nats. -/
def Nats (w : World) (a : Option Addr) (n : Nat) (f : Nat → Nat) : Prop :=
  n = 0 ∨ ∃ g off, a = some ⟨g, off, none⟩ ∧ ∀ j, j < n → ∃ a c, w.cell? ⟨g, off + j, none⟩ = some (.slice a (nlen 4294967296 (f j)) c) ∧ IsNat w (.agg #[.slice a (nlen 4294967296 (f j)) c]) (f j)
theorem Nats.fr {w w' : World} {a : Option Addr} {n : Nat} {f : Nat → Nat} (h : Nats w a n f) (k : Fr w w') : Nats w' a n f := by
  rcases h with h | ⟨g, off, rfl, h⟩
  · exact .inl h
  · refine .inr ⟨g, off, rfl, fun j hj => ?_⟩
    obtain ⟨a, c, h1, h2⟩ := h j hj
    exact ⟨a, c, fr_cell k h1, h2.fr k⟩

attribute [local go_sem] World.cell?_alloc_some
set_option maxHeartbeats 1000000 in
set_option maxRecDepth 4000 in
theorem all_any (a : Option Addr) (n c : Nat) (f : Nat → Nat) (w : World) (h : Nats w a n f) (hn : n ≤ 1000000) (h1 : ∀ j, j < n → nlen 4294967296 (f j) ≤ 100000000000) (h2 : ∀ j, j ≤ n → nlen 4294967296 (prodN f j) ≤ 100000000000) :
    Calls Tryd.prog 98 #[.slice a n c] w fun e w' => ∃ a c, e = .returned (.agg #[.slice a (nlen 4294967296 (prodN f n)) c]) ∧ Res w w' a c (prodN f n) := by
  have H := hide h
  have H1 := hide h1
  have H2 := hide h2
  clear h h1 h2
  go_enter Tryd.func98, Tryd.ntmps98
  go_wp2_with fail
  obtain ⟨W, hW⟩ : ∃ W, W = w.alloc (Obj.cells #[Value.slice none 0 0] 78) := ⟨_, rfl⟩
  have fW : Fr w W := by rw [hW]; exact Fr.alloc _ _
  have c2 : W.cell? ⟨w.heap.size, 0, none⟩ = some (.slice none 0 0) := by rw [hW]; simp [go_sem]
  have z2 : W.frozen? ⟨w.heap.size, 0, none⟩ = false := by rw [hW]; simp [go_sem]
  have sW : w.heap.size < W.heap.size := cell_lt c2
  rw [← hW]
  clear hW
  refine (of_one _).mono ?_
  rintro e w1 ⟨a1, c1, rfl, i1, l1, f1⟩
  have FW := hide (fW.trans f1)
  have c2 := fr_cell f1 c2
  have z2 := fr_free f1 (by assumption) z2
  have s1 := f1.size
  have I1 := hide i1
  have O1 : Hid (∀ g off s, a1 = some ⟨g, off, s⟩ → w.heap.size < g) := fun g off s e => Nat.lt_of_lt_of_le sW (l1 g off s e)
  clear i1 l1 f1 fW
  go_wp2_with fail
  go_loopw [9] (fun s9 wr => ∃ i : Nat, i ≤ n ∧ s9 = .int .i64 i ∧ (∃ a2 c2, wr.cell? ⟨w1.heap.size, 0, none⟩ = some (.slice a2 (nlen 4294967296 (prodN f i)) c2) ∧ Hid (IsNat wr (.agg #[.slice a2 (nlen 4294967296 (prodN f i)) c2]) (prodN f i)) ∧ Hid (∀ g off s, a2 = some ⟨g, off, s⟩ → w.heap.size < g)) ∧ wr.frozen? ⟨w1.heap.size, 0, none⟩ = false ∧ Hid (Fr w1 wr)) (fun s9 _ => n - (intOf s9).toNat)
  case atStart =>
    refine ⟨0, by omega, rfl, ⟨a1, c1, by simp [go_sem, prodN], ?_, O1⟩, by simp [go_sem], Fr.alloc _ _⟩
    exact IsNat.fr I1.out (Fr.alloc _ _)
  case round =>
    obtain ⟨i, hi, rfl, ⟨a2, ca2, c3, I3, O3⟩, z3, hF⟩ := hrel
    by_cases hc : i < n
    · have hN := H.out.fr (FW.out.trans hF.out)
      have b1 := H1.out i hc
      have b2 := H2.out i hi
      rcases hN with h0 | ⟨g, off, rfl, hN⟩
      · omega
      · obtain ⟨ax, cx, hcx, hIx⟩ := hN i hc
        have IX := hide hIx
        have hF' := hide (hF.out.trans (Fr.alloc wr (Obj.cells #[Value.slice ax (nlen 4294967296 (f i)) cx] 78)))
        have IX' := hide (IX.out.fr (Fr.alloc wr (Obj.cells #[Value.slice ax (nlen 4294967296 (f i)) cx] 78)))
        have I3' := hide (IsNat.fr I3.out (Fr.alloc wr (Obj.cells #[Value.slice ax (nlen 4294967296 (f i)) cx] 78)))
        have c3' := fr_cell (Fr.alloc wr (Obj.cells #[Value.slice ax (nlen 4294967296 (f i)) cx] 78)) c3
        have z3' := fr_free (Fr.alloc wr (Obj.cells #[Value.slice ax (nlen 4294967296 (f i)) cx] 78)) c3 z3
        clear hN hIx
        go_wp2_with fail
        refine (mul_any _ _ _ _ _ I3'.out IX'.out b2 b1).mono ?_
        rintro e w2 ⟨a4, c4, rfl, i4, l4, f4⟩
        have hl := cell_lt c3'
        have c5 := fr_cell f4 c3'
        have z5 := fr_free f4 c3' z3'
        have I4 := hide i4
        have F5 := hide (hF'.out.trans f4)
        have L4 := hide l4
        clear i4 l4 f4 c3' z3' I3' IX' hF'
        go_wp2_with fail
        go_roundw
        case rel =>
          refine ⟨i + 1, by omega, by go_num, ⟨a4, c4, by rw [show prodN f (i + 1) = prodN f i * f i from rfl]; go_simp, ?_, ?_⟩, by go_simp, ?_⟩
          · rw [show prodN f (i + 1) = prodN f i * f i from rfl]
            exact IsNat.put I4.out _ _ (fun g off s e => by have := L4.out g off s e; simp at this hl; simp; omega)
          · exact fun g off s e => by have h7 := L4.out g off s e; have h8 := cell_lt c2; simp at h7 h8 hl; omega
          · exact Below.setCell F5.out (Nat.le_refl _) _
        case measure => simp [intOf]; omega
    · have e : i = n := by omega
      subst e
      have c6 := fr_cell hF.out c2
      have z6 := fr_free hF.out c2 z2
      have F6 := FW.out.trans hF.out
      go_wp2_with fail
      (try simp only [Exit.inBlock, Exit.then])
      refine bodyPost_ret (results_nat rfl _ _ w.heap.size (.slice a2 (nlen 4294967296 (prodN f i)) ca2) rfl ?_) rfl ?_
      · go_simp
      · refine ⟨_, _, rfl, ?_, fun g off s e => ?_, ?_⟩
        · exact IsNat.put I3.out _ _ (fun g off s e => by have := O3.out g off s e; simp; omega)
        · have := O3.out g off s e; omega
        · exact Below.setCell F6 (Nat.le_refl _) _

/-- A power's parts. -/
theorem pow_even (x k : Nat) (h : k % 2 = 0) : prodN (fun _ => x ^ (k / 2)) 2 = x ^ k := by
  show 1 * x ^ (k / 2) * x ^ (k / 2) = x ^ k
  rw [Nat.one_mul, ← Nat.pow_add]; congr 1; omega
def oddF (x h : Nat) (j : Nat) : Nat := if j = 2 then x else h
theorem pow_odd (x k : Nat) (h : k % 2 = 1) : prodN (oddF x (x ^ (k / 2))) 3 = x ^ k := by
  show 1 * x ^ (k / 2) * x ^ (k / 2) * x = x ^ k
  rw [Nat.one_mul, ← Nat.pow_add, ← Nat.pow_succ]; congr 1; omega

theorem nats2 {w : World} (b : Nat) (hb : b = w.heap.size) {a0 a1 : Option Addr} {c0 c1 : Nat} {f : Nat → Nat} (h0 : IsNat w (.agg #[.slice a0 (nlen 4294967296 (f 0)) c0]) (f 0)) (h1 : IsNat w (.agg #[.slice a1 (nlen 4294967296 (f 1)) c1]) (f 1)) :
    Nats (w.alloc (Obj.cells #[.slice a0 (nlen 4294967296 (f 0)) c0, .slice a1 (nlen 4294967296 (f 1)) c1] 78)) (some ⟨b, 0, none⟩) 2 f := by
  subst hb
  refine .inr ⟨_, 0, rfl, fun j hj => ?_⟩
  rcases j with _ | _ | j
  · exact ⟨a0, c0, by simp [go_sem], h0.fr (Fr.alloc _ _)⟩
  · exact ⟨a1, c1, by simp [go_sem], h1.fr (Fr.alloc _ _)⟩
  · omega
theorem nats3 {w : World} (b : Nat) (hb : b = w.heap.size) {a0 a1 a2 : Option Addr} {c0 c1 c2 : Nat} {f : Nat → Nat} (h0 : IsNat w (.agg #[.slice a0 (nlen 4294967296 (f 0)) c0]) (f 0)) (h1 : IsNat w (.agg #[.slice a1 (nlen 4294967296 (f 1)) c1]) (f 1)) (h2 : IsNat w (.agg #[.slice a2 (nlen 4294967296 (f 2)) c2]) (f 2)) :
    Nats (w.alloc (Obj.cells #[.slice a0 (nlen 4294967296 (f 0)) c0, .slice a1 (nlen 4294967296 (f 1)) c1, .slice a2 (nlen 4294967296 (f 2)) c2] 78)) (some ⟨b, 0, none⟩) 3 f := by
  subst hb
  refine .inr ⟨_, 0, rfl, fun j hj => ?_⟩
  rcases j with _ | _ | _ | j
  · exact ⟨a0, c0, by simp [go_sem], h0.fr (Fr.alloc _ _)⟩
  · exact ⟨a1, c1, by simp [go_sem], h1.fr (Fr.alloc _ _)⟩
  · exact ⟨a2, c2, by simp [go_sem], h2.fr (Fr.alloc _ _)⟩
  · omega
theorem pow_bd2 (x K : Nat) (hK : 0 < K) (hB : ∀ j, j ≤ max 1 K → nlen 4294967296 (x ^ j) ≤ 100000000000) (r : K % 2 = 0) : ∀ j, j ≤ 2 → nlen 4294967296 (prodN (fun _ => x ^ (K / 2)) j) ≤ 100000000000 := by
  intro j hj
  rcases j with _ | _ | _ | j
  · exact hB 0 (by omega)
  · show nlen 4294967296 (1 * x ^ (K / 2)) ≤ _
    rw [Nat.one_mul]; exact hB _ (by omega)
  · rw [Nat.zero_add, pow_even x K r]; exact hB _ (by omega)
  · omega
theorem pow_bd3 (x K : Nat) (hK : 0 < K) (hB : ∀ j, j ≤ max 1 K → nlen 4294967296 (x ^ j) ≤ 100000000000) (r : K % 2 = 1) : ∀ j, j ≤ 3 → nlen 4294967296 (prodN (oddF x (x ^ (K / 2))) j) ≤ 100000000000 := by
  intro j hj
  rcases j with _ | _ | _ | _ | j
  · exact hB 0 (by omega)
  · show nlen 4294967296 (1 * x ^ (K / 2)) ≤ _
    rw [Nat.one_mul]; exact hB _ (by omega)
  · show nlen 4294967296 (1 * x ^ (K / 2) * x ^ (K / 2)) ≤ _
    rw [Nat.one_mul, ← Nat.pow_add]; exact hB _ (by omega)
  · rw [Nat.zero_add, pow_odd x K r]; exact hB _ (by omega)
  · omega

set_option maxHeartbeats 1000000 in
set_option maxRecDepth 4000 in
theorem pow_none (k : Int) (va : Value) (x : Nat) (w : World) (k0 : -9223372036854775808 ≤ k) (hk : k ≤ 0) (h : IsNat w va x) :
    Calls Tryd.prog 77 #[va, .int .i64 k] w fun e w' => ∃ a c, e = .returned (.agg #[.slice a (nlen 4294967296 1) c]) ∧ Res w w' a c 1 := by
  obtain ⟨a, ca, rfl, _, _, _⟩ := h
  go_enter Tryd.func77, Tryd.ntmps77
  go_wp2_with fail
  refine (of_one _).mono ?_
  rintro e w1 ⟨a1, c1, rfl, i1, l1, f1⟩
  have c4 : w1.cell? ⟨w.heap.size + 1, 0, none⟩ = some (.slice none 0 0) := by have := var_cell f1; simpa using this
  have z4 : w1.frozen? ⟨w.heap.size + 1, 0, none⟩ = false := by have := var_free f1; simpa using this
  have I1 := hide i1
  have F1 := hide (((Fr.alloc w _).trans (Fr.alloc _ _)).trans f1)
  have L1 := hide l1
  clear i1 l1 f1
  go_wp2_with fail
  (try simp only [Exit.inBlock, Exit.then])
  refine bodyPost_ret (results_nat rfl _ _ (w.heap.size + 1) (.slice a1 (nlen 4294967296 1) c1) rfl ?_) rfl ?_
  · go_simp
  · refine ⟨_, _, rfl, ?_, fun g off s e => ?_, ?_⟩
    · exact IsNat.put I1.out _ _ (fun g off s e => by have := L1.out g off s e; simp at this; simp; omega)
    · have := L1.out g off s e; simp at this; omega
    · exact Below.setCell F1.out (by simp) _

set_option maxHeartbeats 1000000 in
set_option maxRecDepth 4000 in
theorem pow_any (m : Nat) : ∀ (k : Int) (va : Value) (x : Nat) (w : World), k.toNat ≤ m → -9223372036854775808 ≤ k → k ≤ 9223372036854775807 → IsNat w va x → (∀ j, j ≤ max 1 k.toNat → nlen 4294967296 (x ^ j) ≤ 100000000000) →
    Calls Tryd.prog 77 #[va, .int .i64 k] w fun e w' => ∃ a c, e = .returned (.agg #[.slice a (nlen 4294967296 (x ^ k.toNat)) c]) ∧ Res w w' a c (x ^ k.toNat) := by
  induction m with
  | zero =>
    intro k va x w hm k0 k1 h hb
    have e0 : k.toNat = 0 := by omega
    rw [e0, Nat.pow_zero]
    exact pow_none k va x w k0 (by omega) h
  | succ m ih =>
    intro k va x w hm k0 k1 h hb
    by_cases hk : k ≤ 0
    · have e0 : k.toNat = 0 := by omega
      rw [e0, Nat.pow_zero]
      exact pow_none k va x w k0 hk h
    · obtain ⟨K, rfl⟩ : ∃ K : Nat, k = K := ⟨k.toNat, by omega⟩
      rw [Int.toNat_natCast] at *
      have HB := hide hb
      have hI := h
      obtain ⟨a, ca, rfl, _, _, _⟩ := h
      have HI := hide hI
      have IH := hide (ih ((K / 2 : Nat) : Int) (.agg #[.slice a (nlen 4294967296 x) ca]) x)
      clear ih hb hI
      have r0 : K % 2 = 0 ∨ K % 2 = 1 := by omega
      go_enter Tryd.func77, Tryd.ntmps77
      go_wp2_with fail
      have e2 : (K : Int) / 2 = ((K / 2 : Nat) : Int) := by omega
      rw [e2]
      clear e2
      obtain ⟨W, hW⟩ : ∃ W, W = (w.alloc (Obj.cells #[Value.slice a (nlen 4294967296 x) ca] 78)).alloc (Obj.cells #[Value.slice none 0 0] 78) := ⟨_, rfl⟩
      have fW : Fr w W := by rw [hW]; exact (Fr.alloc _ _).trans (Fr.alloc _ _)
      have c2 : W.cell? ⟨w.heap.size, 0, none⟩ = some (.slice a (nlen 4294967296 x) ca) := by rw [hW]; simp [go_sem]
      have c4 : W.cell? ⟨w.heap.size + 1, 0, none⟩ = some (.slice none 0 0) := by rw [hW]; simp [go_sem]
      have z4 : W.frozen? ⟨w.heap.size + 1, 0, none⟩ = false := by rw [hW]; simp [go_sem]
      have sW : w.heap.size + 1 < W.heap.size := cell_lt c4
      rw [← hW]
      clear hW
      have h := IH.out W (by omega) (by omega) (by omega) (IsNat.fr HI.out fW) (fun j hj => HB.out j (by omega))
      rw [Int.toNat_natCast] at h
      refine h.mono ?_
      rintro e w1 ⟨a1, c1, rfl, i1, l1, f1⟩
      have c2 := fr_cell f1 c2
      have z4 := fr_free f1 c4 z4
      have c4 := fr_cell f1 c4
      have F1 := hide (fW.trans f1)
      have HX := hide (IsNat.fr HI.out F1.out)
      have HH := hide i1
      have s1 := f1.size
      clear h i1 l1 f1 fW HI IH
      rcases r0 with r0 | r0
      · go_wp2_with fail
        have hN := nats2 (w := w1.alloc (Obj.cells #[Value.slice a1 (nlen 4294967296 (x ^ (K / 2))) c1] 78)) (w1.heap.size + 1) (by simp) (f := fun _ => x ^ (K / 2)) (a0 := a1) (c0 := c1) (a1 := a1) (c1 := c1) (IsNat.fr HH.out (Fr.alloc _ _)) (IsNat.fr HH.out (Fr.alloc _ _))
        obtain ⟨WW, hWW⟩ : ∃ WW, WW = (w1.alloc (Obj.cells #[Value.slice a1 (nlen 4294967296 (x ^ (K / 2))) c1] 78)).alloc (Obj.cells #[Value.slice a1 (nlen 4294967296 (x ^ (K / 2))) c1, Value.slice a1 (nlen 4294967296 (x ^ (K / 2))) c1] 78) := ⟨_, rfl⟩
        have h := all_any _ 2 2 (fun _ => x ^ (K / 2)) _ hN (by omega) (fun j _ => HB.out _ (by omega)) (pow_bd2 x K (by omega) HB.out r0)
        rw [pow_even x K r0, ← hWW] at h
        have f3 : Fr w1 WW := by rw [hWW]; exact (Fr.alloc _ _).trans (Fr.alloc _ _)
        rw [← hWW] at hN
        rw [← hWW]
        clear hWW
        refine h.mono ?_
        rintro e w2 ⟨a5, c5, rfl, i5, l5, f5⟩
        have f6 := f3.trans f5
        have c6 := fr_cell f6 c4
        have z6 := fr_free f6 c4 z4
        have I5 := hide i5
        have L5 := hide l5
        have F6 := hide (F1.out.trans f6)
        have s3 := f3.size
        clear h i5 l5 f5 f3 f6 hN HX HH
        go_wp2_with fail
        (try simp only [Exit.inBlock, Exit.then])
        refine bodyPost_ret (results_nat rfl _ _ (w.heap.size + 1) (.slice a5 (nlen 4294967296 (x ^ K)) c5) rfl ?_) rfl ?_
        · go_simp
        · refine ⟨_, _, rfl, ?_, fun g off s e => ?_, ?_⟩
          · exact IsNat.put I5.out _ _ (fun g off s e => by have := L5.out g off s e; simp; omega)
          · have := L5.out g off s e; omega
          · exact Below.setCell F6.out (by simp) _
      · go_wp2_with fail
        have hN := nats3 (w := w1.alloc (Obj.cells #[Value.slice a1 (nlen 4294967296 (x ^ (K / 2))) c1] 78)) (w1.heap.size + 1) (by simp) (f := oddF x (x ^ (K / 2))) (a0 := a1) (c0 := c1) (a1 := a1) (c1 := c1) (a2 := a) (c2 := ca) (IsNat.fr HH.out (Fr.alloc _ _)) (IsNat.fr HH.out (Fr.alloc _ _)) (IsNat.fr HX.out (Fr.alloc _ _))
        rw [show oddF x (x ^ (K / 2)) 0 = x ^ (K / 2) from rfl, show oddF x (x ^ (K / 2)) 1 = x ^ (K / 2) from rfl, show oddF x (x ^ (K / 2)) 2 = x from rfl] at hN
        obtain ⟨WW, hWW⟩ : ∃ WW, WW = (w1.alloc (Obj.cells #[Value.slice a1 (nlen 4294967296 (x ^ (K / 2))) c1] 78)).alloc (Obj.cells #[Value.slice a1 (nlen 4294967296 (x ^ (K / 2))) c1, Value.slice a1 (nlen 4294967296 (x ^ (K / 2))) c1, Value.slice a (nlen 4294967296 x) ca] 78) := ⟨_, rfl⟩
        have hodd : ∀ j, j < 3 → nlen 4294967296 (oddF x (x ^ (K / 2)) j) ≤ 100000000000 := fun j _ => by
          unfold oddF
          split
          · have := HB.out 1 (by omega)
            rwa [Nat.pow_one] at this
          · exact HB.out _ (by omega)
        have h := all_any _ 3 3 (oddF x (x ^ (K / 2))) _ hN (by omega) hodd (pow_bd3 x K (by omega) HB.out r0)
        rw [pow_odd x K r0, ← hWW] at h
        have f3 : Fr w1 WW := by rw [hWW]; exact (Fr.alloc _ _).trans (Fr.alloc _ _)
        rw [← hWW] at hN
        rw [← hWW]
        clear hWW
        refine h.mono ?_
        rintro e w2 ⟨a5, c5, rfl, i5, l5, f5⟩
        have f6 := f3.trans f5
        have c6 := fr_cell f6 c4
        have z6 := fr_free f6 c4 z4
        have I5 := hide i5
        have L5 := hide l5
        have F6 := hide (F1.out.trans f6)
        have s3 := f3.size
        clear h i5 l5 f5 f3 f6 hN HX HH
        go_wp2_with fail
        (try simp only [Exit.inBlock, Exit.then])
        refine bodyPost_ret (results_nat rfl _ _ (w.heap.size + 1) (.slice a5 (nlen 4294967296 (x ^ K)) c5) rfl ?_) rfl ?_
        · go_simp
        · refine ⟨_, _, rfl, ?_, fun g off s e => ?_, ?_⟩
          · exact IsNat.put I5.out _ _ (fun g off s e => by have := L5.out g off s e; simp; omega)
          · have := L5.out g off s e; omega
          · exact Below.setCell F6.out (by simp) _
end Go.Proofs.YtmaapdmbkhoigaaDoor
