/- Down, at a seat that holds quot, too; contracts with the answer's number told. -/
import Derived.Test.YtimglhbllcjpbaaDoorTensB
import Derived.Test.YtimglhbllcjpbaaDoorQuotD
namespace Go.Proofs.YtimglhbllcjpbaaDoor
set_option linter.unusedVariables false
set_option linter.unusedSimpArgs false
open Go.RowKit

theorem Ex.free {g : Nat} {w w' : World} (h : Ex g w w') {a : Addr} {v : Value} (hc : w.cell? a = some v) (hf : w.frozen? a = false) (hne : a.block ≠ g) : w'.frozen? a = false := by
  have := h.2.2.2.2 a.block (cell_lt hc) hne
  unfold World.frozen? at *
  rw [this]; exact hf
/-- A row of one's own, to be written: its numbers. -/
def Mine (w : World) (g n : Nat) (f : Nat → Nat) : Prop := ∀ q, q < n → w.cell? ⟨g, q, none⟩ = some (.int .u32 (f q : Int)) ∧ w.frozen? ⟨g, q, none⟩ = false
theorem own_mine {w : World} {base n c : Nat} {a : Option Addr} {f : Nat → Nat} (h : w.ownsRow base 41 1 (.slice a n c) n (rowOf .u32 n f)) (hn : 0 < n) :
    ∃ g, a = some ⟨g, 0, none⟩ ∧ base ≤ g ∧ g < w.heap.size ∧ n ≤ c ∧ c ≤ maxLen ∧ Mine w g n f := by
  rcases h.2 with ⟨hv, hn⟩ | ⟨g, cap, cur, hv, hb, hh, h1, h2, _⟩
  · omega
  · simp only [Value.slice.injEq] at hv
    obtain ⟨rfl, _, rfl⟩ := hv
    refine ⟨g, rfl, hb, ?_, h1, h2, fun q hq => ⟨?_, h.frozenAt q⟩⟩
    · rcases Nat.lt_or_ge g w.heap.size with k | k
      · exact k
      · simp [Array.getElem?_eq_none k] at hh
    · rw [h.cellAt q (by omega)]
      exact rowOf_at hq
theorem Mine.set {w : World} {g n : Nat} {f f' : Nat → Nat} (h : Mine w g n f) (j : Nat) (hj : j < n) (z : Int) (hz : z = f' j) (he : ∀ q, q < n → q ≠ j → f q = f' q) : Mine (w.setCell ⟨g, j, none⟩ (.int .u32 z)) g n f' := by
  intro q hq
  obtain ⟨hy, hf⟩ := h q hq
  refine ⟨?_, ?_⟩
  · by_cases e : q = j
    · subst e; rw [← hz]; exact World.cell?_setCell_same _ _ _ hy
    · rw [← he q hq e]; exact (World.cell?_setCell_other w _ _ _ (fun h => e (by injection h with _ h; exact h.symm))).trans hy
  · simpa using hf
theorem Mine.fr {w w' : World} {g n : Nat} {f : Nat → Nat} (h : Mine w g n f) (k : Fr w w') : Mine w' g n f := fun q hq => by
  obtain ⟨hy, hf⟩ := h q hq
  exact ⟨fr_cell k hy, fr_free k hy hf⟩

set_option maxHeartbeats 1000000 in
set_option maxRecDepth 4000 in
theorem down_none (v : Value) (x : Nat) (k : Int) (w : World) (h : IsNat w v x) (k0 : -9223372036854775808 ≤ k) (hk : k ≤ 0) :
    Calls Tryd.prog 67 #[v, .int .i64 k] w fun e w' => e = .returned (.tuple #[v, .bool false]) ∧ Fr w w' := by
  obtain ⟨a, cap, rfl, h2, h3, h4⟩ := h
  clear h4
  generalize nlen 4294967296 x = n at *
  go_enter Tryd.func67, Tryd.ntmps67
  go_wp2_with fail
  (try simp only [Exit.inBlock, Exit.then])
  refine bodyPost_ret (results_nat_ok rfl _ _ (w.heap.size + 1) (.slice a n cap) rfl ?_) rfl ?_
  · go_simp
  · exact ⟨rfl, (Fr.alloc _ _).trans (Fr.alloc _ _)⟩

/-- The row behind a loop that goes down: the new digits from place t + j on, below it the old ones. -/
def rowW (x y t u j q : Nat) : Nat := if t + j ≤ q then dg 4294967296 (y / 2 ^ u) (q - t) else dg 4294967296 x q

set_option maxHeartbeats 2000000 in
set_option maxRecDepth 4000 in
theorem down_some (v : Value) (x k : Nat) (w : World) (hT : Tab w) (h : IsNat w v x) (hx0 : x ≠ 0) (hn : nlen 4294967296 x ≤ 100000000000) (k0 : 1 ≤ k) (k1 : k ≤ 9223372036854775807) :
    Calls Tryd.prog 67 #[v, .int .i64 k] w fun e w' => ∃ a c, e = .returned (.tuple #[.agg #[.slice a (nlen 4294967296 (x / 2 ^ k)) c], .bool (decide (x % 2 ^ k ≠ 0))]) ∧ IsNat w' (.agg #[.slice a (nlen 4294967296 (x / 2 ^ k)) c]) (x / 2 ^ k) ∧ Fr w w' := by
  have H := hide h
  have HT := hide hT
  obtain ⟨a, cap, rfl, h2, h3, h4⟩ := h
  clear h4 hT
  have hx := hide (lt_nlen b32 x)
  have hp := nlen_pos b32 hx0
  have HV := hide (down_val k hx.out)
  have HM := hide (mod_pow hx0 k)
  have HD := hide (drop_lt (s := min (k / 32) (nlen 4294967296 x)) hx.out (by omega))
  have hmin : min (k / 32) (nlen 4294967296 x) ≤ nlen 4294967296 x := by omega
  obtain ⟨t, ht⟩ : ∃ t, min (k / 32) (nlen 4294967296 x) = t := ⟨_, rfl⟩
  obtain ⟨s, hs⟩ : ∃ s, k / 32 = s := ⟨_, rfl⟩
  obtain ⟨u, hu⟩ : ∃ u, k % 32 = u := ⟨_, rfl⟩
  rw [ht, hu] at HV
  rw [ht] at HD hmin
  rw [hs] at ht
  have hu31 : u ≤ 31 := by omega
  have ek : (k : Int) / 32 = (s : Int) := by omega
  have eu : (k : Int) % 32 = (u : Int) := by omega
  clear hs hu
  go_enter Tryd.func67, Tryd.ntmps67
  go_wp2_with fail
  obtain ⟨W, hW⟩ : ∃ W, W = (w.alloc (Obj.cells #[Value.slice a (nlen 4294967296 x) cap] 24)).alloc (Obj.cells #[Value.slice none 0 0] 24) := ⟨_, rfl⟩
  have fW : Fr w W := by rw [hW]; exact (Fr.alloc _ _).trans (Fr.alloc _ _)
  have sW : W.heap.size = w.heap.size + 2 := by rw [hW]; simp
  have c2 : W.cell? ⟨w.heap.size, 0, none⟩ = some (.slice a (nlen 4294967296 x) cap) := by rw [hW]; simp [go_sem]
  have c4 : W.cell? ⟨w.heap.size + 1, 0, none⟩ = some (.slice none 0 0) := by rw [hW]; simp [go_sem]
  have z4 : W.frozen? ⟨w.heap.size + 1, 0, none⟩ = false := by rw [hW]; simp [go_sem]
  rw [← hW]
  clear hW
  refine (limbs_any _ x _ (IsNat.fr H.out fW) (by omega)).mono ?_
  rintro e w1 ⟨v1, rfl, o1, f1⟩
  obtain ⟨a1, c1, rfl, _, _, _⟩ := own_form o1
  obtain ⟨g, rfl, hg1, hg2, hc1, hc2, m1⟩ := own_mine o1 hp
  have z4 := fr_free f1 c4 z4
  have c4 := fr_cell f1 c4
  have c2 := fr_cell f1 c2
  have F := hide (fW.trans f1)
  have M1 := hide m1
  have hn0 : (0 : Int) < (nlen 4294967296 x : Int) := by omega
  clear fW f1 o1 m1
  go_wp2_with fail
  refine (noughts_any _ x _ (Tab.fr HT.out F.out) (IsNat.fr H.out F.out) hn).mono ?_
  rintro e w2 ⟨rfl, f2⟩
  have z4 := fr_free f2 c4 z4
  have c4 := fr_cell f2 c4
  have F := hide (F.out.trans f2)
  have M2 := hide (M1.out.fr f2)
  have hg2 := Nat.lt_of_lt_of_le hg2 f2.size
  clear f2 M1 H HT c2
  generalize nlen 4294967296 x = n at *
  generalize tz x = Z at *
  have hg0 : w.heap.size + 1 < g := by omega
  have HB : Hid (decide (Z < k) = decide (x % 2 ^ k ≠ 0)) := by
    unfold Hid
    exact decide_eq_decide.2 HM.out.symm
  by_cases hA : n ≤ s
  · have hq0 : x / 2 ^ k = 0 := by
      rw [HV.out, show t = n by omega, Nat.div_eq_of_lt hx.out, Nat.zero_div]
    have HQ := hide hq0
    clear hq0
    go_wp2_with fail
    all_goals (try (exfalso; omega))
    all_goals (
      refine wp_loop_rounds 1 ?_
      rw [rounds_succ]
      go_wp2_with fail
      refine (made_any 0 _ _ (dg 4294967296 0) 0 _ (by omega) (.inl rfl) (by decide) (fun j hj => rfl)).mono ?_
      rintro e w3 ⟨a3, c3, rfl, hl3, i3, f3⟩
      have z4 := fr_free f3 c4 z4
      have c4 := fr_cell f3 c4
      have I3 := hide i3
      have HL3 := hide hl3
      have FF := hide (F.out.trans f3)
      have s2 := F.out.size
      clear i3 hl3 f3
      unfold natVal
      go_wp2_with fail
      (try simp only [Exit.inBlock, Exit.then])
      refine bodyPost_ret (results_nat_ok rfl _ _ (w.heap.size + 1) (.slice (natA 0 a3) (nlen 4294967296 0) (natC 0 c3)) rfl ?_) rfl ?_
      · go_simp
      · rw [HQ.out, ← HB.out]
        refine ⟨_, _, rfl, ?_, Below.setCell FF.out (by simp) _⟩
        exact IsNat.put I3.out _ _ (fun g off s e => by have := HL3.out g off s (natA_some e); simp; omega))
  · obtain rfl : t = s := by omega
    obtain ⟨L, rfl⟩ : ∃ L, n = t + L := ⟨n - t, by omega⟩
    rw [Nat.add_sub_cancel_left] at HD
    obtain ⟨y, hy⟩ : ∃ y, x / 4294967296 ^ t = y := ⟨_, rfl⟩
    have HY : Hid (∀ j, dg 4294967296 y j = dg 4294967296 x (t + j)) := by
      unfold Hid; intro j; rw [← hy, dg_drop]
    rw [hy] at HV HD
    clear hy ht
    have hLp : 0 < L := by omega
    have hc1n : ¬ c1 = t := by omega
    have eL : ((t + L : Nat) : Int) = (t : Int) + L := by omega
    have hsub : (t + L - t) = L := by omega
    go_wp2_with fail
    all_goals (try (exfalso; omega))
    go_loopw [11, 12] (fun s11 s12 wr => ∃ j : Nat, j ≤ L ∧ s12 = .int .i64 ((j : Int) - 1) ∧ s11 = .int .u64 ((4294967296 * dg 4294967296 y (j + 1) + dg 4294967296 y j : Nat) : Int) ∧ Hid (Mine wr g (t + L) (rowW x y t u j)) ∧ Hid (Ex g w2 wr)) (fun _ s12 _ => (intOf s12 + 1).toNat)
    case atStart =>
      refine ⟨L, by omega, by go_num, ?_, ?_, Ex.refl _ _⟩
      · rw [dg_out HD.out, dg_out (Nat.lt_of_lt_of_le HD.out (Nat.pow_le_pow_right (by omega) (by omega)))]; rfl
      · intro q hq
        have := M2.out q hq
        rwa [rowW, if_neg (by omega)]
    case round =>
      obtain ⟨j, hj, rfl, rfl, hrw, hE⟩ := hrel
      by_cases c0 : j = 0
      · subst c0
        have CR : Hid (Cs .u32 wr (some ⟨g, t, none⟩) L (dg 4294967296 (x / 2 ^ k))) := by
          refine .inr ⟨g, t, rfl, Nat.lt_of_lt_of_le hg2 hE.out.2.2.2.1, fun q hq => ?_⟩
          have := (hrw.out (t + q) (by omega)).1
          rwa [rowW, if_pos (by omega), Nat.add_sub_cancel_left, ← HV.out] at this
        have HL : Hid (x / 2 ^ k < 4294967296 ^ L) := by
          unfold Hid; rw [HV.out]; exact Nat.lt_of_le_of_lt (Nat.div_le_self _ _) HD.out
        have z4 := hE.out.free c4 z4 (by simp; omega)
        have c4 := hE.out.cell c4 (by simp; omega)
        have FR := hide (hE.out.fr F.out (by omega))
        clear hrw
        go_wp2_with fail
        refine (made_any L (c1 - t) (some ⟨g, t, none⟩) _ (x / 2 ^ k) _ (by omega) CR.out HL.out (fun j _ => rfl)).mono ?_
        rintro e w3 ⟨a3, c3, rfl, hl3, i3, f3⟩
        have z4 := fr_free f3 c4 z4
        have c4 := fr_cell f3 c4
        have I3 := hide i3
        have HL3 := hide hl3
        have FF := hide (FR.out.trans f3)
        have s2 := hE.out.2.2.2.1
        clear i3 hl3 f3
        unfold natVal
        go_wp2_with fail
        (try simp only [Exit.inBlock, Exit.then])
        refine bodyPost_ret (results_nat_ok rfl _ _ (w.heap.size + 1) (.slice (natA (x / 2 ^ k) a3) (nlen 4294967296 (x / 2 ^ k)) (natC (x / 2 ^ k) c3)) rfl ?_) rfl ?_
        · go_simp
        · rw [← HB.out]
          refine ⟨_, _, rfl, ?_, Below.setCell FF.out (by simp) _⟩
          exact IsNat.put I3.out _ _ (fun g off s e => by have := HL3.out g off s (natA_some e); simp; omega)
      · obtain ⟨j, rfl⟩ : ∃ i, j = i + 1 := ⟨j - 1, by omega⟩
        have e0 : ((j + 1 : Nat) : Int) - 1 = (j : Int) := by omega
        rw [e0]
        clear e0
        have hst := lower_step y u j hu31
        have l2 := dg_lt b32 y (j + 1 + 1)
        have l1 := dg_lt b32 y (j + 1)
        have l0 := dg_lt b32 y j
        have lq := dg_lt b32 (y / 2 ^ u) j
        obtain ⟨hcx, hfz⟩ := hrw.out (t + j) (by omega)
        rw [rowW, if_neg (by omega), ← HY.out j] at hcx
        obtain ⟨Wd, hWd⟩ : ∃ Wd, 4294967296 * dg 4294967296 y (j + 1 + 1) + dg 4294967296 y (j + 1) = Wd := ⟨_, rfl⟩
        obtain ⟨We, hWe⟩ : ∃ We, 4294967296 * dg 4294967296 y (j + 1) + dg 4294967296 y j = We := ⟨_, rfl⟩
        have v0 : IntKind.u64.wrap (IntKind.u64.wrap ((Wd : Int) * 4294967296) + (dg 4294967296 y j : Int)) = (We : Int) := by
          rw [IntKind.wrap_u64, IntKind.wrap_u64]; omega
        have hWb : Wd < 18446744073709551616 := by omega
        have hWc : We < 18446744073709551616 := by omega
        rw [hWe] at hst
        rw [hWd]
        have HWe := hide hWe
        have HST := hide hst
        clear hWd hWe hst
        go_wp2_with fail
        go_roundw
        case rel =>
          refine ⟨j, by omega, by go_num, ?_, ?_, ?_⟩
          · rw [HWe.out]
          · refine hrw.out.set (t + j) (by omega) _ ?_ ?_
            · rw [rowW, if_pos (by omega), Nat.add_sub_cancel_left, HST.out]; simp
            · intro q hq hne
              unfold rowW
              by_cases h1 : t + (j + 1) ≤ q
              · rw [if_pos h1, if_pos (by omega)]
              · rw [if_neg h1, if_neg (by omega)]
          · exact hE.out.set _ _
        case measure => simp [intOf]

set_option maxHeartbeats 1000000 in
set_option maxRecDepth 4000 in
theorem down_zero (v : Value) (k : Nat) (w : World) (h : IsNat w v 0) (k0 : 1 ≤ k) (k1 : k ≤ 9223372036854775807) :
    Calls Tryd.prog 67 #[v, .int .i64 k] w fun e w' => ∃ a c, e = .returned (.tuple #[.agg #[.slice a (nlen 4294967296 0) c], .bool false]) ∧ IsNat w' (.agg #[.slice a (nlen 4294967296 0) c]) 0 ∧ Fr w w' := by
  have H := hide h
  obtain ⟨a, cap, rfl, h2, h3, h4⟩ := h
  clear h4
  rw [nlen_zero] at h2 H ⊢
  obtain ⟨s, hs⟩ : ∃ s, k / 32 = s := ⟨_, rfl⟩
  obtain ⟨u, hu⟩ : ∃ u, k % 32 = u := ⟨_, rfl⟩
  have ek : (k : Int) / 32 = (s : Int) := by omega
  have eu : (k : Int) % 32 = (u : Int) := by omega
  clear hs hu
  go_enter Tryd.func67, Tryd.ntmps67
  go_wp2_with fail
  obtain ⟨W, hW⟩ : ∃ W, W = (w.alloc (Obj.cells #[Value.slice a 0 cap] 24)).alloc (Obj.cells #[Value.slice none 0 0] 24) := ⟨_, rfl⟩
  have fW : Fr w W := by rw [hW]; exact (Fr.alloc _ _).trans (Fr.alloc _ _)
  have c4 : W.cell? ⟨w.heap.size + 1, 0, none⟩ = some (.slice none 0 0) := by rw [hW]; simp [go_sem]
  have z4 : W.frozen? ⟨w.heap.size + 1, 0, none⟩ = false := by rw [hW]; simp [go_sem]
  rw [← hW]
  clear hW
  refine (limbs_any _ 0 _ (IsNat.fr H.out fW) (by rw [nlen_zero]; omega)).mono ?_
  rintro e w1 ⟨v1, rfl, o1, f1⟩
  rw [nlen_zero] at o1
  have hv : ∃ a1 c1, v1 = .slice a1 0 c1 ∧ c1 ≤ maxLen ∧ (a1 = none → c1 = 0) := by
    rcases o1.2 with ⟨rfl, _⟩ | ⟨g, cap, cur, rfl, hb, hh, h1, h2, _⟩
    · exact ⟨_, _, rfl, by omega, fun _ => rfl⟩
    · exact ⟨_, _, rfl, h2, fun e => by cases e⟩
  obtain ⟨a1, c1, rfl, hc1, hc0⟩ := hv
  have z4 := fr_free f1 c4 z4
  have c4 := fr_cell f1 c4
  have F := hide (fW.trans f1)
  clear fW f1 o1 H
  unfold maxLen at hc1
  have hmk : ∀ (wv : World) (p : Option Addr) (c : Nat), Hid (Calls Tryd.prog 30 #[.slice p 0 c] wv fun e w' => ∃ a' cap', e = .returned (natVal 0 a' cap') ∧ (∀ g off s, a' = some ⟨g, off, s⟩ → wv.heap.size < g) ∧ IsNat w' (natVal 0 a' cap') 0 ∧ Fr wv w') :=
    fun wv p c => made_any 0 c p (dg 4294967296 0) 0 wv (by omega) (.inl rfl) (by decide) (fun j hj => rfl)
  have HMK := hide hmk
  clear hmk
  rcases a1 with _ | ad
  · obtain rfl := hc0 rfl
    clear hc0
    go_wp2_with fail
    all_goals (try (exfalso; omega))
    all_goals (
      refine wp_loop_rounds 1 ?_
      rw [rounds_succ]
      go_wp2_with fail
      refine (HMK.out _ _ _).out.mono ?_
      rintro e w3 ⟨a3, c3, rfl, hl3, i3, f3⟩
      have z4 := fr_free f3 c4 z4
      have c4 := fr_cell f3 c4
      have I3 := hide i3
      have HL3 := hide hl3
      have FF := hide (F.out.trans f3)
      have s2 := cell_lt (by assumption : w1.cell? ⟨w.heap.size + 1, 0, none⟩ = _)
      simp only [] at s2
      clear i3 hl3 f3
      unfold natVal
      rw [nlen_zero]
      go_wp2_with fail
      (try simp only [Exit.inBlock, Exit.then])
      refine bodyPost_ret (results_nat_ok rfl _ _ (w.heap.size + 1) (.slice (natA 0 a3) 0 (natC 0 c3)) rfl ?_) rfl ?_
      · go_simp
      · refine ⟨_, _, rfl, ?_, Below.setCell FF.out (by simp) _⟩
        have := I3.out
        unfold natVal at this
        rw [nlen_zero] at this
        exact IsNat.put this _ _ (fun g off s e => by have := HL3.out g off s (natA_some e); simp; omega))
  · clear hc0
    obtain ⟨g, off, sp⟩ := ad
    go_wp2_with fail
    all_goals (try (exfalso; omega))
    all_goals (
      refine wp_loop_rounds 1 ?_
      rw [rounds_succ]
      go_wp2_with fail
      refine (HMK.out _ _ _).out.mono ?_
      rintro e w3 ⟨a3, c3, rfl, hl3, i3, f3⟩
      have z4 := fr_free f3 c4 z4
      have c4 := fr_cell f3 c4
      have I3 := hide i3
      have HL3 := hide hl3
      have FF := hide (F.out.trans f3)
      have s2 := cell_lt (by assumption : w1.cell? ⟨w.heap.size + 1, 0, none⟩ = _)
      simp only [] at s2
      clear i3 hl3 f3
      unfold natVal
      rw [nlen_zero]
      go_wp2_with fail
      (try simp only [Exit.inBlock, Exit.then])
      refine bodyPost_ret (results_nat_ok rfl _ _ (w.heap.size + 1) (.slice (natA 0 a3) 0 (natC 0 c3)) rfl ?_) rfl ?_
      · go_simp
      · refine ⟨_, _, rfl, ?_, Below.setCell FF.out (by simp) _⟩
        have := I3.out
        unfold natVal at this
        rw [nlen_zero] at this
        exact IsNat.put this _ _ (fun g off s e => by have := HL3.out g off s (natA_some e); simp; omega))

theorem down_any (v : Value) (x : Nat) (k : Int) (w : World) (hT : Tab w) (h : IsNat w v x) (hn : nlen 4294967296 x ≤ 100000000000) (k0 : -9223372036854775808 ≤ k) (k1 : k ≤ 9223372036854775807) :
    Calls Tryd.prog 67 #[v, .int .i64 k] w fun e w' => ∃ a c, e = .returned (.tuple #[.agg #[.slice a (nlen 4294967296 (x / 2 ^ k.toNat)) c], .bool (decide (x % 2 ^ k.toNat ≠ 0))]) ∧ IsNat w' (.agg #[.slice a (nlen 4294967296 (x / 2 ^ k.toNat)) c]) (x / 2 ^ k.toNat) ∧ Fr w w' := by
  by_cases c : k ≤ 0
  · refine (down_none v x k w h k0 c).mono ?_
    rintro e w' ⟨rfl, f⟩
    have e0 : x / 2 ^ k.toNat = x := by rw [show k.toNat = 0 by omega, Nat.pow_zero, Nat.div_one]
    have e1 : decide (x % 2 ^ k.toNat ≠ 0) = false := by rw [show k.toNat = 0 by omega, Nat.pow_zero, Nat.mod_one]; rfl
    rw [e0, e1]
    have h' := h.fr f
    obtain ⟨a, cap, rfl, _⟩ := h
    exact ⟨a, cap, rfl, h', f⟩
  · by_cases hx : x = 0
    · subst hx
      have := down_zero v k.toNat w h (by omega) (by omega)
      rw [Int.toNat_of_nonneg (by omega)] at this
      have e1 : decide (0 % 2 ^ k.toNat ≠ 0) = false := by rw [Nat.zero_mod]; rfl
      rw [Nat.zero_div, e1]
      exact this
    · have := down_some v x k.toNat w hT h hx hn (by omega) (by omega)
      rwa [Int.toNat_of_nonneg (by omega)] at this

theorem nlen_pow {x n : Nat} (h : nlen 4294967296 x ≤ n) : ∀ j, nlen 4294967296 (x ^ j) ≤ n * j + 1 := by
  intro j
  induction j with
  | zero => rw [Nat.pow_zero, nl1]; omega
  | succ j ih =>
    rw [Nat.pow_succ]
    have := nlen_mul b32 ih h
    rw [Nat.mul_succ]
    omega
theorem nlten : nlen 4294967296 10 = 1 := nlen_eq b32 (by decide) (.inr (by decide))

set_option maxHeartbeats 1000000 in
set_option maxRecDepth 4000 in
theorem ten_any (k : Int) (w : World) (k0 : -9223372036854775808 ≤ k) (k1 : k ≤ 100000) :
    Calls Tryd.prog 52 #[.int .i64 k] w fun e w' => ∃ a c, e = .returned (.agg #[.slice a (nlen 4294967296 (10 ^ k.toNat)) c]) ∧ IsNat w' (.agg #[.slice a (nlen 4294967296 (10 ^ k.toNat)) c]) (10 ^ k.toNat) ∧ Fr w w' := by
  have HB : Hid (∀ j, j ≤ max 1 k.toNat → nlen 4294967296 (10 ^ j) ≤ 100000000000) := by
    unfold Hid
    intro j hj
    have := nlen_pow (x := 10) (n := 1) (by rw [nlten]; omega) j
    omega
  go_enter Tryd.func52, Tryd.ntmps52
  go_wp2_with fail
  refine (of_int 10 _ (by omega) (by omega)).mono ?_
  rintro e w1 ⟨a1, c1, rfl, h1, _, f1⟩
  have H1 := hide h1
  have z4 := var_free f1
  have c4 := var_cell f1
  have F := hide ((Fr.alloc _ _).trans f1)
  clear f1 h1
  go_wp2_with fail
  refine (pow_any k.toNat k _ _ _ (Nat.le_refl _) k0 (by omega) H1.out (by simpa using HB.out)).mono ?_
  rintro e w2 ⟨a2, c2, rfl, h2, l2, f2⟩
  have z4 := fr_free f2 c4 z4
  have c4 := fr_cell f2 c4
  have FF := hide (F.out.trans f2)
  have H2 := hide h2
  have L2 := hide l2
  have s1 := cell_lt (by assumption : w1.cell? ⟨w.heap.size, 0, none⟩ = _)
  simp only [] at s1
  clear h2 l2 f2
  rw [show (10 : Int).toNat = 10 by rfl] at *
  go_wp2_with fail
  (try simp only [Exit.inBlock, Exit.then])
  refine bodyPost_ret (results_nat rfl _ _ w.heap.size (.slice a2 (nlen 4294967296 (10 ^ k.toNat)) c2) rfl ?_) rfl ?_
  · go_simp
  · refine ⟨_, _, rfl, ?_, Below.setCell FF.out (by simp) _⟩
    exact IsNat.put H2.out _ _ (fun g off s e => by have := L2.out g off s e; simp; omega)
theorem wsm {x : Nat} (h : x < 18446744073709551616) : nlen 4294967296 x ≤ 2 := nlen_le b32 h
theorem ofc_any (n : Int) (x : Nat) (w : World) (e : n = x) (h : x < 18446744073709551616) : Calls Tryd.prog 25 #[.int .u64 n] w fun e w' => ∃ a c, e = .returned (.agg #[.slice a (nlen 4294967296 x) c]) ∧ Res w w' a c x := by
  subst e
  have := of_int (x : Int) w (by omega) (by omega)
  rwa [Int.toNat_natCast] at this
/-- The same with the numbers told. -/
theorem tenc_any (k : Int) (P : Nat) (w : World) (h0 : 0 ≤ k) (h1 : k ≤ 100000) (e : 10 ^ k.toNat = P) :
    Calls Tryd.prog 52 #[.int .i64 k] w fun e w' => ∃ a c, e = .returned (.agg #[.slice a (nlen 4294967296 P) c]) ∧ IsNat w' (.agg #[.slice a (nlen 4294967296 P) c]) P ∧ Fr w w' := by
  subst e
  exact ten_any k w (by omega) h1
theorem upc_any (v : Value) (x : Nat) (k : Int) (P : Nat) (w : World) (h : IsNat w v x) (hn : nlen 4294967296 x ≤ 100000000000) (k0 : -9223372036854775808 ≤ k) (k1 : k ≤ 100000000000) (e : x * 2 ^ k.toNat = P) :
    Calls Tryd.prog 55 #[v, .int .i64 k] w fun e w' => ∃ a c, e = .returned (.agg #[.slice a (nlen 4294967296 P) c]) ∧ IsNat w' (.agg #[.slice a (nlen 4294967296 P) c]) P ∧ Fr w w' := by
  subst e
  exact up_any v x k w h hn k0 k1
theorem downc_any (v : Value) (x : Nat) (k : Int) (P : Nat) (b : Bool) (w : World) (hT : Tab w) (h : IsNat w v x) (hn : nlen 4294967296 x ≤ 100000000000) (k0 : -9223372036854775808 ≤ k) (k1 : k ≤ 9223372036854775807) (e : x / 2 ^ k.toNat = P) (eb : decide (x % 2 ^ k.toNat ≠ 0) = b) :
    Calls Tryd.prog 67 #[v, .int .i64 k] w fun e w' => ∃ a c, e = .returned (.tuple #[.agg #[.slice a (nlen 4294967296 P) c], .bool b]) ∧ IsNat w' (.agg #[.slice a (nlen 4294967296 P) c]) P ∧ Fr w w' := by
  subst e
  subst eb
  exact down_any v x k w hT h hn k0 k1
theorem noughtsc_any (v : Value) (x : Nat) (Z : Int) (w : World) (hT : Tab w) (h : IsNat w v x) (hn : nlen 4294967296 x ≤ 100000000000) (e : (tz x : Int) = Z) :
    Calls Tryd.prog 66 #[v] w fun e w' => e = .returned (.int .i64 Z) ∧ Fr w w' := by
  subst e
  exact noughts_any v x w hT h hn

end Go.Proofs.YtimglhbllcjpbaaDoor
