/- natOf, slices.Clone, Of, Made, Limbs. -/
import Derived.Test.YtimglhbllcjpbaaDoorNatA
namespace Go.Proofs.YtimglhbllcjpbaaDoor
set_option linter.unusedVariables false
set_option linter.unusedSimpArgs false
open Go.RowKit

/-- The Nat that natOf makes of a row. -/
def natA (x : Nat) (a : Option Addr) : Option Addr := if x = 0 then none else a
def natC (x cap : Nat) : Nat := if x = 0 then 0 else cap
def natVal (x : Nat) (a : Option Addr) (cap : Nat) : Value := .agg #[.slice (natA x a) (nlen 4294967296 x) (natC x cap)]

theorem isNat_natVal {w : World} {x N cap : Nat} {a : Option Addr} (hx : x < 4294967296 ^ N) (h1 : N ≤ cap) (h2 : cap ≤ maxLen) (h : Cs .u32 w a N (dg 4294967296 x)) : IsNat w (natVal x a cap) x := by
  have hl := nlen_le b32 hx
  refine ⟨_, _, rfl, ?_, ?_, ?_⟩
  · unfold natC
    split
    · rename_i h0; subst h0; rw [nlen_zero]; omega
    · omega
  · unfold natC; split <;> omega
  · unfold natA
    split
    · rename_i h0; subst h0; exact .inl (nlen_zero _)
    · exact h.less hl
theorem natA_some {x : Nat} {a : Option Addr} {ad : Addr} (h : natA x a = some ad) : a = some ad := by
  unfold natA at h; split at h
  · cases h
  · exact h

/-- A Nat that a call from w to w' has made: nothing old is written, and its limbs, if it has any, lie in new memory. -/
def Res (w w' : World) (a : Option Addr) (c x : Nat) : Prop :=
  IsNat w' (.agg #[.slice a (nlen 4294967296 x) c]) x ∧ (∀ g off s, a = some ⟨g, off, s⟩ → w.heap.size ≤ g) ∧ Fr w w'

/-- What a store into another block leaves. -/
theorem Cs.set {k : IntKind} {w : World} {a : Option Addr} {n : Nat} {f : Nat → Nat} (h : Cs k w a n f) (p : Addr) (u : Value) (hne : ∀ g off s, a = some ⟨g, off, s⟩ → g ≠ p.block) : Cs k (w.setCell p u) a n f := by
  rcases h with h | ⟨b, off, h1, h2, h3⟩
  · exact .inl h
  · refine .inr ⟨b, off, h1, by simpa using h2, fun j hj => ?_⟩
    rw [World.cell?_setCell_other w p _ u (fun e => hne _ _ _ h1 (by rw [e]))]
    exact h3 j hj
theorem IsNat.put {w : World} {x c n : Nat} {a : Option Addr} (h : IsNat w (.agg #[.slice a n c]) x) (p : Addr) (u : Value) (hne : ∀ g off s, a = some ⟨g, off, s⟩ → g ≠ p.block) : IsNat (w.setCell p u) (.agg #[.slice a n c]) x := by
  obtain ⟨a', c', h1, h2, h3, h4⟩ := h
  simp only [Value.agg.injEq] at h1
  have h1' : a = a' := by injection h1 with h1; injection h1 with h1; injection h1
  exact ⟨a', c', by simp only [Value.agg.injEq]; exact h1, h2, h3, h4.set p u fun g off s e => hne g off s (h1'.trans e)⟩
theorem IsNat.set {w : World} {x cap : Nat} {a : Option Addr} (h : IsNat w (natVal x a cap) x) (p : Addr) (u : Value) (hne : ∀ g off s, a = some ⟨g, off, s⟩ → g ≠ p.block) : IsNat (w.setCell p u) (natVal x a cap) x := by
  obtain ⟨a', c', h1, h2, h3, h4⟩ := h
  refine ⟨a', c', h1, h2, h3, h4.set p u fun g off s e => ?_⟩
  unfold natVal at h1
  simp only [Value.agg.injEq] at h1
  have h1' : natA x a = a' := by injection h1 with h1; injection h1 with h1; injection h1
  exact hne g off s (natA_some (h1'.trans e))
/-- A variable's cell that is laid, whatever came behind it. -/
theorem var_cell {w w1 : World} {v : Value} {t : TypeId} (f : Fr (w.alloc (.cells #[v] t)) w1) : w1.cell? ⟨w.heap.size, 0, none⟩ = some v := fr_cell f (by simp [go_sem])
theorem var_free {w w1 : World} {v : Value} {t : TypeId} (f : Fr (w.alloc (.cells #[v] t)) w1) : w1.frozen? ⟨w.heap.size, 0, none⟩ = false := by
  have hb := f.block w.heap.size (by simp)
  have hn := heap_alloc_new w (.cells #[v] t)
  rw [hn] at hb
  simp [World.frozen?, hb]
theorem fr_store {w w1 : World} (f : Fr w w1) (u : Value) : Fr w (w1.setCell ⟨w.heap.size, 0, none⟩ u) := Below.setCell f (by simp) _

set_option maxHeartbeats 400000 in
set_option maxRecDepth 4000 in
theorem natOf_any (x N cap : Nat) (a : Option Addr) (w : World) (hx : x < 4294967296 ^ N) (h1 : N ≤ cap) (h2 : cap ≤ maxLen) (h : Cs .u32 w a N (dg 4294967296 x)) :
    Calls Tryd.prog 50 #[.slice a N cap] w fun e w' => e = .returned (natVal x a cap) ∧ Fr w w' := by
  unfold natVal natA natC
  have HX : Hid (x < 4294967296 ^ N) := hx
  clear hx
  unfold maxLen at h2
  go_enter Tryd.func50, Tryd.ntmps50
  go_wp2
  go_loop [3] (fun s => ∃ k : Nat, k ≤ N ∧ s = .int .i64 k ∧ Hid (x < 4294967296 ^ k)) (fun s => (intOf s).toNat)
  case atStart => exact ⟨N, by omega, rfl, HX⟩
  case round =>
    obtain ⟨k, hk, rfl, HK⟩ := hrel
    by_cases c : k = 0
    · subst c
      have e : x = 0 := by have := HK.out; rw [Nat.pow_zero] at this; omega
      subst e
      go_wp2
      (try simp only [Exit.inBlock, Exit.then])
      refine bodyPost_ret (results_nat rfl _ _ w.heap.size (.slice none 0 0) rfl ?_) rfl ?_
      · go_simp
      exact ⟨by simp [nlen_zero], by unfold Fr; go_grown⟩
    · obtain ⟨k, rfl⟩ : ∃ j, k = j + 1 := ⟨k - 1, by omega⟩
      rcases h with h | ⟨b, off, rfl, hb, hc⟩
      · omega
      · have hci := hc k (by omega)
        have hlt := dg_lt b32 x k
        by_cases c0 : dg 4294967296 x k = 0
        · have HK2 : Hid (x < 4294967296 ^ k) := lt_of_dg HK.out c0
          rw [c0] at hci
          clear c0 hlt hc
          go_wp2
          go_round
          case rel => exact ⟨k, by omega, by go_num, HK2⟩
          case measure => simp [intOf]
        · have hle := le_of_dg c0
          have hp := pow_pos' b32 k
          have hn : x ≠ 0 := by omega
          have hl : nlen 4294967296 x = k + 1 := nlen_eq b32 HK.out (.inr hle)
          have HL := hide hl
          clear hle hp hl hc
          generalize dg 4294967296 x k = d at *
          go_wp2
          (try simp only [Exit.inBlock, Exit.then])
          refine bodyPost_ret (results_nat rfl _ _ w.heap.size (.slice (some ⟨b, off, none⟩) (k + 1) cap) rfl ?_) rfl ?_
          · go_simp
          exact ⟨by simp [hn, HL.out], by unfold Fr; go_grown⟩

/-- n numbers of a kind, as a row of values. -/
def rowOf (k : IntKind) (n : Nat) (f : Nat → Nat) : List Value := (List.range n).map fun j => .int k (f j : Int)
theorem rowOf_len (k : IntKind) (n : Nat) (f : Nat → Nat) : (rowOf k n f).length = n := by simp [rowOf]
theorem rowOf_get {k : IntKind} {n : Nat} {f : Nat → Nat} {j : Nat} {u : Value} (h : (rowOf k n f)[j]? = some u) : j < n ∧ u = .int k (f j : Int) := by
  unfold rowOf at h
  rw [List.getElem?_map] at h
  by_cases c : j < n
  · rw [List.getElem?_range c] at h; simp at h; exact ⟨c, h.symm⟩
  · rw [List.getElem?_eq_none (by simp; omega)] at h; simp at h
theorem rowOf_at {k : IntKind} {n : Nat} {f : Nat → Nat} {j : Nat} (h : j < n) : (rowOf k n f)[j]? = some (.int k (f j : Int)) := by
  unfold rowOf
  rw [List.getElem?_map, List.getElem?_range h]; rfl
theorem rowOf_snoc (k : IntKind) (n : Nat) (f : Nat → Nat) : rowOf k n f ++ [.int k (f n : Int)] = rowOf k (n + 1) f := by
  simp [rowOf, List.range_succ]

theorem own_form {w : World} {base n : Nat} {e : TypeId} {v : Value} {xs : List Value} (h : w.ownsRow base e 1 v n xs) : ∃ a c, v = .slice a n c ∧ n ≤ c ∧ c ≤ maxLen ∧ ∀ g off s, a = some ⟨g, off, s⟩ → base ≤ g ∧ g < w.heap.size := by
  rcases h.2 with ⟨rfl, rfl⟩ | ⟨g, cap, cur, rfl, hb, hh, h1, h2, _⟩
  · exact ⟨_, _, rfl, by omega, by omega, fun _ _ _ h => by cases h⟩
  · refine ⟨_, _, rfl, h1, h2, fun g' off s h => ?_⟩
    simp only [Option.some.injEq, Addr.mk.injEq] at h
    obtain ⟨rfl, _, _⟩ := h
    refine ⟨hb, ?_⟩
    rcases Nat.lt_or_ge g w.heap.size with k | k
    · exact k
    · simp [Array.getElem?_eq_none k] at hh
theorem own_cs {w : World} {base n c : Nat} {e : TypeId} {a : Option Addr} {k : IntKind} {f : Nat → Nat} (h : w.ownsRow base e 1 (.slice a n c) n (rowOf k n f)) : Cs k w a n f := by
  rcases h.2 with ⟨hv, hn⟩ | ⟨g, cap, cur, hv, hb, hh, _⟩
  · exact .inl hn
  · simp only [Value.slice.injEq] at hv
    obtain ⟨rfl, _, rfl⟩ := hv
    refine .inr ⟨g, 0, rfl, ?_, fun j hj => ?_⟩
    · rcases Nat.lt_or_ge g w.heap.size with k | k
      · exact k
      · simp [Array.getElem?_eq_none k] at hh
    · rw [Nat.zero_add, h.cellAt j (by omega)]
      exact rowOf_at hj
theorem own_below {w w0 : World} {e : TypeId} {v : Value} {n : Nat} {xs : List Value} (h : w.ownsRow w0.heap.size e 1 v n xs) : ∀ k, v.ownBlock = some k → w0.heap.size ≤ k := fun k hk => (h.lt k hk).1
theorem own_fr {w w' : World} {base : Nat} {e : TypeId} {v : Value} {n : Nat} {xs : List Value} (h : w.ownsRow base e 1 v n xs) (k : Fr w w') : w'.ownsRow base e 1 v n xs := by
  refine ⟨h.1, ?_⟩
  rcases h.2 with h' | ⟨g, cap, cur, hv, hb, hh, rest⟩
  · exact .inl h'
  · have hg : g < w.heap.size := by
      rcases Nat.lt_or_ge g w.heap.size with k | k
      · exact k
      · simp [Array.getElem?_eq_none k] at hh
    exact .inr ⟨g, cap, cur, hv, hb, (k.block g hg).trans hh, rest⟩

theorem info32 : (Tryd.prog.info? 41).map (fun i => (i.zero, i.size, i.bytes)) = some (some (.int .u32 0), 1, 4) := by kernel_rfl
theorem info64 : (Tryd.prog.info? 3).map (fun i => (i.zero, i.size, i.bytes)) = some (some (.int .i64 0), 1, 8) := by kernel_rfl

set_option maxHeartbeats 400000 in
set_option maxRecDepth 4000 in
theorem clone_any (n cap : Nat) (a : Option Addr) (f : Nat → Nat) (w : World) (hn : n ≤ 1000000000000) (h : Cs .u32 w a n f) :
    Calls Tryd.prog 53 #[.slice a n cap] w fun e w' => ∃ v, e = .returned v ∧ w'.ownsRow w.heap.size 41 1 v n (rowOf .u32 n f) ∧ Fr w w' := by
  have q22 : ∀ (w : World) (a : Option Addr) (n c n' c' : Nat), (binOp .eql 22 (.slice a n c) (.slice none n' c')).run Tryd.prog w = .ok (.bool a.isNone) w := fun w a n c n' c' => Lib.run_eql_slice_nil w _ _ a n c n' c' Tryd.underlying22
  obtain ⟨i0, hi, hz0, hz1, hz2⟩ := info_parts info32
  rcases a with _ | ad
  · have e : n = 0 := by
      rcases h with h | ⟨b, off, h, _⟩
      · exact h
      · cases h
    subst e
    go_enter Tryd.func53, Tryd.ntmps53
    go_wp2
    go_ret
    exact ⟨_, rfl, World.ownsRow_nil _ _ _ _, by unfold Fr; go_grown⟩
  · have hcell : ∀ j u, (rowOf .u32 n f)[j]? = some u → w.cell? (ad.add j) = some u := by
      intro j u hu
      obtain ⟨hj, rfl⟩ := rowOf_get hu
      rcases h with h | ⟨b, off, h, _, hc⟩
      · omega
      · simp only [Option.some.injEq] at h
        subst h
        have e : (⟨b, off, none⟩ : Addr).add j = ⟨b, off + j, none⟩ := by unfold Addr.add; split <;> simp_all
        rw [e]
        exact hc j hj
    have HC := hide hcell
    clear hcell h
    go_enter Tryd.func53, Tryd.ntmps53
    go_wp2_with (at_builtin; refine wpList_append_own _ rfl _ _ 22 rfl w.heap.size 41 i0 (.int .u32 0) 1 4 Tryd.underlying22 hi hz0 hz1 hz2 rfl (by decide) _ 0 [] rfl ?c0 ad n cap (rowOf .u32 n f) rfl ?c1 ?c2 ?c3 ?c4 ?c5 ?c6 ?_)
    case c0 => exact World.ownsRow_lit w #[] 0 (Nat.le_refl _) (by unfold maxLen; omega) rfl
    case c1 => rw [rowOf_len]; omega
    case c2 =>
      intro j u hu
      exact fr_cell (Fr.alloc _ _) (HC.out j u hu)
    case c3 =>
      intro u hu
      unfold rowOf at hu
      obtain ⟨j, _, rfl⟩ := List.mem_map.1 hu
      rfl
    case c4 => unfold maxLen; omega
    case c5 => omega
    case c6 => simp
    intro v' w2 hown' hgrow _
    have hF2 : Fr w w2 := Below.grown (Below.alloc (Fr.refl w) (Nat.le_refl _) _) hgrow (by simp) (by intro k hk; simp [Value.ownBlock] at hk; omega)
    clear hgrow
    have HO := hide hown'
    clear hown'
    go_wp2_with fail
    go_ret
    exact ⟨_, rfl, HO.out, hF2⟩
end Go.Proofs.YtimglhbllcjpbaaDoor
