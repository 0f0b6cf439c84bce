/- addRow. -/
import Derived.Test.YtimglhbllcjpbaaDoorNatE
import Derived.Test.YtimglhbllcjpbaaDoorTimesP
namespace Go.Proofs.YtimglhbllcjpbaaDoor
set_option linter.unusedVariables false
set_option linter.unusedSimpArgs false
open Go.RowKit

/-- A row of digits: those of q from place lo to place hi, else those of p. -/
def rowM (p q lo hi j : Nat) : Value := .int .u32 ((if lo ≤ j ∧ j < hi then dg 4294967296 q j else dg 4294967296 p j : Nat) : Int)
theorem rowM_none (p q lo hi : Nat) (h : hi ≤ lo) (j : Nat) : rowM p q lo hi j = .int .u32 (dg 4294967296 p j : Int) := by
  unfold rowM; rw [if_neg (by omega)]
theorem rowM_set {w : World} {g M p q lo hi : Nat} {t : TypeId} (h : w.rowIs g t M (rowM p q lo hi)) (hl : lo ≤ hi) (d : Int) (hd : d = dg 4294967296 q hi) : (w.setCell ⟨g, hi, none⟩ (.int .u32 d)).rowIs g t M (rowM p q lo (hi + 1)) := by
  refine (h.set hi (.int .u32 d)).congr ?_
  intro j hj
  unfold rowM
  by_cases hji : j = hi
  · subst hji; rw [if_pos rfl, if_pos (by omega), hd]
  · rw [if_neg hji]
    by_cases hlt2 : lo ≤ j ∧ j < hi
    · rw [if_pos hlt2, if_pos (by omega)]
    · rw [if_neg hlt2, if_neg (by omega)]
theorem Cs.below {k : IntKind} {w w' : World} {a : Option Addr} {n g : Nat} {f : Nat → Nat} (h : Cs k w a n f) (q : Below g w w') (hne : ∀ b off s, a = some ⟨b, off, s⟩ → b < g) : Cs k w' a n f := by
  rcases h with h | ⟨b, off, rfl, hb, hc⟩
  · exact .inl h
  · have := q.size
    exact .inr ⟨b, off, rfl, by omega, fun j hj => (Below.cell q (hne _ _ _ rfl)).trans (hc j hj)⟩

set_option maxHeartbeats 1000000 in
set_option maxRecDepth 4000 in
theorem addRow_any (g M i N L cp p y k c : Nat) (a : Option Addr) (w : World) (hrow : w.rowIs g 41 M (fun j => .int .u32 (dg 4294967296 p j : Int))) (hp : p < 4294967296 ^ (i + N)) (hL : N < L) (hLM : i + L = M) (hM : M ≤ 1000000000000)
    (hy : y < 4294967296 ^ N) (hk : k < 4294967296) (hcs : Cs .u32 w a N (dg 4294967296 y)) (hne : ∀ b off s, a = some ⟨b, off, s⟩ → b < g) :
    Calls Tryd.prog 58 #[.slice (some ⟨g, i, none⟩) L cp, .slice a N c, .int .u32 k] w fun e w' => e = .returned (.tuple #[]) ∧ w'.rowIs g 41 M (fun j => .int .u32 (dg 4294967296 (p + k * 4294967296 ^ i * y) j : Int)) ∧ Below g w w' := by
  have HP := hide hp
  have HY := hide hy
  have HC := hide hcs
  have HR := hide hrow
  have HN := hide hne
  clear hp hy hcs hrow hne
  go_enter Tryd.func58, Tryd.ntmps58
  go_wp2_with fail
  go_loopw [6, 11] (fun s6 s11 wr => ∃ t : Nat, t ≤ N ∧ s11 = .int .i64 t ∧ s6 = .int .u64 (mcarry 4294967296 p y k i t : Int) ∧ wr.rowIs g 41 M (rowM p (p + k * 4294967296 ^ i * y) i (i + t)) ∧ Hid (Below g w wr)) (fun _ s11 _ => N - (intOf s11).toNat)
  case atStart =>
    refine ⟨0, by omega, rfl, by rw [mcarry_zero _ _ _ _ _ b32]; rfl, ?_, Below.refl _ _⟩
    exact HR.out.congr (fun j hj => (rowM_none _ _ _ _ (by omega) j).symm)
  case round =>
    obtain ⟨t, ht, rfl, rfl, hrw, hF⟩ := hrel
    by_cases hc : t < N
    · have hst := mul_step b32 p y k i t
      have hcl := mcarry_lt (p := p) (y := y) (i := i) (t := t) b32 hk
      have ly := dg_lt b32 y t
      have lp := dg_lt b32 p (i + t)
      have lq := dg_lt b32 (p + k * 4294967296 ^ i * y) (i + t)
      have hcy := Cs.below HC.out hF.out HN.out
      have hcp := hrw.cell (i := i + t) (by omega)
      have hfz := hrw.frozen (i + t)
      have HR2 := hide hrw
      rw [rowM, if_neg (by omega)] at hcp
      clear hrw
      rcases hcy with h0 | ⟨b, off, rfl, hb, hcell⟩
      · omega
      · have hcy := hcell t hc
        clear hcell
        have hkd : k * dg 4294967296 y t ≤ 4294967295 * 4294967295 := Nat.mul_le_mul (by omega) (by omega)
        obtain ⟨d1, HD⟩ : ∃ d1, dg 4294967296 (p + k * 4294967296 ^ i * y) (i + t) = d1 := ⟨_, rfl⟩
        obtain ⟨c1, HC1⟩ : ∃ c1, mcarry 4294967296 p y k i (t + 1) = c1 := ⟨_, rfl⟩
        rw [HD] at lq
        rw [HD, HC1] at hst
        have HD := hide HD
        have HC1 := hide HC1
        generalize dg 4294967296 y t = dy at *
        generalize dg 4294967296 p (i + t) = dp at *
        generalize mcarry 4294967296 p y k i t = c0 at *
        obtain ⟨kd, hkde⟩ : ∃ kd, k * dy = kd := ⟨_, rfl⟩
        rw [hkde] at hkd hst
        have hkz : (k : Int) * (dy : Int) = (kd : Int) := by rw [← hkde]; simp
        obtain ⟨S, hS⟩ : ∃ S : Nat, S = c0 + (kd + dp) := ⟨_, rfl⟩
        have e1 : IntKind.u64.wrap ((c0 : Int) + IntKind.u64.wrap (IntKind.u64.wrap ((k : Int) * (dy : Int)) + dp)) = (S : Int) := by rw [hkz, IntKind.wrap_u64, IntKind.wrap_u64, IntKind.wrap_u64]; omega
        have hq1 : Hid ((S : Int) % 4294967296 = d1) := by unfold Hid; omega
        have hq2 : Hid ((S : Int) / 4294967296 = c1) := by unfold Hid; omega
        have hSl : S < 18446744073709551616 := by omega
        clear hst hkd hkde
        go_wp2_with fail
        go_roundw
        case rel =>
          refine ⟨t + 1, by omega, by go_num, ?_, ?_, ?_⟩
          · rw [HC1.out, ← hq2.out, hS]; simp
          · rw [show i + (t + 1) = i + t + 1 by omega]; exact rowM_set HR2.out (by omega) _ (by rw [HD.out, ← hq1.out, hS]; simp)
          · exact Below.setCell hF.out (Nat.le_refl _) _
        case measure => simp [intOf]; omega
    · have e : t = N := by omega
      subst e
      have hme := mul_end b32 HP.out HY.out hk
      have lq := dg_lt b32 (p + k * 4294967296 ^ i * y) (i + t)
      have hfz := hrw.frozen (i + t)
      have hcp := hrw.cell (i := i + t) (by omega)
      rw [rowM, if_neg (by omega)] at hcp
      rw [hme]
      have HR2 := hide hrw
      clear hrw
      generalize hd : dg 4294967296 (p + k * 4294967296 ^ i * y) (i + t) = d1 at *
      have HD := hide hd
      clear hd hme
      go_wp2_with fail
      refine bodyPost_end (results_none rfl _ _ _) rfl ?_
      refine ⟨rfl, (rowM_set HR2.out (by omega) _ (by rw [HD.out])).congr ?_, Below.setCell hF.out (Nat.le_refl _) _⟩
      intro j hj
      unfold rowM
      by_cases h1 : i ≤ j ∧ j < i + t + 1
      · rw [if_pos h1]
      · rw [if_neg h1]
        rcases Nat.lt_or_ge j i with h2 | h2
        · rw [mul_low h2]
        · rw [mul_high b32 HP.out HY.out hk (by omega)]

theorem fr_free {w w' : World} {a : Addr} {v : Value} (k : Fr w w') (h : w.cell? a = some v) (hf : w.frozen? a = false) : w'.frozen? a = false := by
  have hb := k.block a.block (cell_lt h)
  unfold World.frozen? at *
  rw [hb]; exact hf
/-- A list of limbs at hand. -/
def Lm (w : World) (a : Option Addr) (x : Nat) : Prop := Cs .u32 w a (nlen 4294967296 x) (dg 4294967296 x) ∧ ∀ b off s, a = some ⟨b, off, s⟩ → b < w.heap.size
theorem Lm.fr {w w' : World} {a : Option Addr} {x : Nat} (h : Lm w a x) (f : Fr w w') : Lm w' a x := ⟨h.1.fr f, fun b off s e => Nat.lt_of_lt_of_le (h.2 b off s e) f.size⟩
theorem limbs_lm (v : Value) (x : Nat) (w : World) (h : IsNat w v x) (hn : nlen 4294967296 x ≤ 1000000000000) :
    Calls Tryd.prog 51 #[v] w fun e w' => ∃ a c, e = .returned (.slice a (nlen 4294967296 x) c) ∧ nlen 4294967296 x ≤ c ∧ Lm w' a x ∧ Fr w w' := by
  refine (limbs_any v x w h hn).mono ?_
  rintro e w' ⟨v', rfl, ho, f⟩
  obtain ⟨a, c, rfl, h1, h2, h3⟩ := own_form ho
  exact ⟨a, c, rfl, h1, ⟨own_cs ho, fun b off s e => (h3 b off s e).2⟩, f⟩
end Go.Proofs.YtimglhbllcjpbaaDoor
