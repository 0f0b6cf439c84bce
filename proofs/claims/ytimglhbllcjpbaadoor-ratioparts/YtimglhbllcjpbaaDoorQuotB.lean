/- takeRow, giveRow, guess, takeDigit. -/
import Derived.Test.YtimglhbllcjpbaaDoorQuotA
namespace Go.Proofs.YtimglhbllcjpbaaDoor
set_option linter.unusedVariables false
set_option linter.unusedSimpArgs false
open Go.RowKit

/-- Nothing but block g has changed. -/
def Ex (g : Nat) (w w' : World) : Prop := w'.os = w.os ∧ w'.tape = w.tape ∧ w'.output = w.output ∧ w.heap.size ≤ w'.heap.size ∧ ∀ k, k < w.heap.size → k ≠ g → w'.heap[k]? = w.heap[k]?
theorem Ex.refl (g : Nat) (w : World) : Ex g w w := ⟨rfl, rfl, rfl, Nat.le_refl _, fun _ _ _ => rfl⟩
theorem Ex.of_fr {w w' : World} (g : Nat) (f : Fr w w') : Ex g w w' := ⟨f.os, f.tape, f.output, f.size, fun k hk _ => f.block k hk⟩
theorem Ex.trans {g : Nat} {w w' w2 : World} (h : Ex g w w') (k : Ex g w' w2) : Ex g w w2 :=
  ⟨k.1.trans h.1, k.2.1.trans h.2.1, k.2.2.1.trans h.2.2.1, Nat.le_trans h.2.2.2.1 k.2.2.2.1, fun j hj hg => (k.2.2.2.2 j (Nat.lt_of_lt_of_le hj h.2.2.2.1) hg).trans (h.2.2.2.2 j hj hg)⟩
theorem Ex.set {g : Nat} {w w' : World} (h : Ex g w w') (j : Nat) (v : Value) : Ex g w (w'.setCell ⟨g, j, none⟩ v) := by
  obtain ⟨h1, h2, h3, h4, h5⟩ := h
  refine ⟨h1, h2, h3, by simpa using h4, fun k hk hg => ?_⟩
  rw [Below.heap_setCell w' _ v k hg]
  exact h5 k hk hg
theorem Ex.cell {g : Nat} {w w' : World} (h : Ex g w w') {a : Addr} {v : Value} (hc : w.cell? a = some v) (hne : a.block ≠ g) : w'.cell? a = some v := by
  have := h.2.2.2.2 a.block (cell_lt hc) hne
  unfold World.cell? at *
  rw [this]; exact hc
theorem Ex.fr {g : Nat} {w0 w w' : World} (h : Ex g w w') (f : Fr w0 w) (hg : w0.heap.size ≤ g) : Fr w0 w' :=
  ⟨h.1.trans f.os, h.2.1.trans f.tape, h.2.2.1.trans f.output, Nat.le_trans f.size h.2.2.2.1, fun k hk => (h.2.2.2.2 k (Nat.lt_of_lt_of_le hk f.size) (by omega)).trans (f.block k hk)⟩
theorem Cs.ex {g : Nat} {k : IntKind} {w w' : World} {a : Option Addr} {n : Nat} {f : Nat → Nat} (h : Cs k w a n f) (e : Ex g w w') (hne : ∀ b off s, a = some ⟨b, off, s⟩ → b ≠ g) : Cs k w' a n f := by
  rcases h with h | ⟨b, off, h1, h2, h3⟩
  · exact .inl h
  · exact .inr ⟨b, off, h1, Nat.lt_of_lt_of_le h2 e.2.2.2.1, fun j hj => e.cell (h3 j hj) (hne _ _ _ h1)⟩
theorem drewN_fr (w : World) (n : Nat) : Fr w (w.drewN n) := ⟨rfl, rfl, rfl, Nat.le_refl _, fun _ _ => rfl⟩
theorem rowM_done {w : World} {g M p q i N : Nat} {t : TypeId} (h : w.rowIs g t M (rowM p q i (i + N + 1))) (lo : ∀ j, j < i → dg 4294967296 q j = dg 4294967296 p j) (hi : ∀ j, i + N < j → dg 4294967296 q j = dg 4294967296 p j) : w.rowIs g t M (fun j => .int .u32 (dg 4294967296 q j : Int)) := by
  refine h.congr ?_
  intro j hj
  unfold rowM
  by_cases h1 : i ≤ j ∧ j < i + N + 1
  · rw [if_pos h1]
  · rw [if_neg h1]
    rcases Nat.lt_or_ge j i with h2 | h2
    · rw [lo j h2]
    · rw [hi j (by omega)]

set_option maxHeartbeats 1000000 in
set_option maxRecDepth 4000 in
theorem takeRow_any (g M i N cp p q y k b c : Nat) (a : Option Addr) (w : World) (hrow : w.rowIs g 41 M (fun j => .int .u32 (dg 4294967296 p j : Int))) (hp : p < 4294967296 ^ (i + N + 1)) (hq : q < 4294967296 ^ (i + N + 1)) (hLM : i + N + 1 ≤ M) (hM : M ≤ 1000000000000)
    (hy : y < 4294967296 ^ N) (hk : k < 4294967296) (hb : b ≤ 1) (he : q + k * 4294967296 ^ i * y = p + b * 4294967296 ^ (i + N + 1)) (hcs : Cs .u32 w a N (dg 4294967296 y)) (hne : ∀ b off s, a = some ⟨b, off, s⟩ → b ≠ g) :
    Calls Tryd.prog 69 #[.slice (some ⟨g, i, none⟩) (N + 1) cp, .slice a N c, .int .u32 k] w fun e w' => e = .returned (.bool (decide (b = 1))) ∧ w'.rowIs g 41 M (fun j => .int .u32 (dg 4294967296 q j : Int)) ∧ Ex g w w' := by
  have HP := hide hp
  have HQ := hide hq
  have HY := hide hy
  have HC := hide hcs
  have HR := hide hrow
  have HN := hide hne
  have HE := hide he
  clear hp hq hy hcs hrow hne he
  go_enter Tryd.func69, Tryd.ntmps69
  go_wp2_with fail
  go_loopw [7, 14] (fun s7 s14 wr => ∃ t : Nat, t ≤ N ∧ s14 = .int .i64 t ∧ s7 = .int .u64 (mcarry 4294967296 q y k i t : Int) ∧ wr.rowIs g 41 M (rowM p q i (i + t)) ∧ Hid (Ex g w wr)) (fun _ s14 _ => N - (intOf s14).toNat)
  case atStart =>
    refine ⟨0, by omega, rfl, by rw [mcarry_zero _ _ _ _ _ b32]; rfl, ?_, Ex.refl _ _⟩
    exact HR.out.congr (fun j hj => (rowM_none _ _ _ _ (by omega) j).symm)
  case round =>
    obtain ⟨t, ht, rfl, rfl, hrw, hF⟩ := hrel
    have hst := take_step b32 HE.out ht
    have hcl := mcarry_lt (p := q) (y := y) (i := i) (t := t) b32 hk
    have lp := dg_lt b32 p (i + t)
    have lq := dg_lt b32 q (i + t)
    have hcp := hrw.cell (i := i + t) (by omega)
    have hfz := hrw.frozen (i + t)
    have HR2 := hide hrw
    rw [rowM, if_neg (by omega)] at hcp
    clear hrw
    by_cases hc : t < N
    · have ly := dg_lt b32 y t
      have hcy := Cs.ex HC.out hF.out HN.out
      rcases hcy with h0 | ⟨b', off, rfl, hb', hcell⟩
      · omega
      · have hcy := hcell t hc
        clear hcell
        have hkd : k * dg 4294967296 y t ≤ 4294967295 * 4294967295 := Nat.mul_le_mul (by omega) (by omega)
        obtain ⟨d1, HD⟩ : ∃ d1, dg 4294967296 q (i + t) = d1 := ⟨_, rfl⟩
        obtain ⟨c1, HC1⟩ : ∃ c1, mcarry 4294967296 q y k i (t + 1) = c1 := ⟨_, rfl⟩
        rw [HD] at lq
        rw [HD, HC1] at hst
        have HD := hide HD
        have HC1 := hide HC1
        generalize dg 4294967296 y t = dy at *
        generalize dg 4294967296 p (i + t) = dp at *
        generalize mcarry 4294967296 q y k i t = c0 at *
        obtain ⟨kd, hkde⟩ : ∃ kd, k * dy = kd := ⟨_, rfl⟩
        rw [hkde] at hkd hst
        have hkz : (k : Int) * (dy : Int) = (kd : Int) := by rw [← hkde]; simp
        obtain ⟨S, hS⟩ : ∃ S : Nat, S = c0 + kd := ⟨_, rfl⟩
        have e1 : IntKind.u64.wrap ((c0 : Int) + IntKind.u64.wrap (kd : Int)) = (S : Int) := by rw [IntKind.wrap_u64, IntKind.wrap_u64]; omega
        have hSl : S < 18446744073709551616 := by omega
        have v : ((dp : Int) < (S : Int) % 4294967296 ∧ Hid ((c1 : Int) = (S : Int) / 4294967296 + 1 ∧ (dp : Int) + 4294967296 = d1 + (S : Int) % 4294967296)) ∨ ((S : Int) % 4294967296 ≤ (dp : Int) ∧ Hid ((c1 : Int) = (S : Int) / 4294967296 ∧ (dp : Int) = d1 + (S : Int) % 4294967296)) := by unfold Hid; omega
        have HS := hide hS
        clear hst hkd hkde hS
        rcases v with ⟨v1, v2⟩ | ⟨v1, v2⟩
        · go_wp2_with fail
          go_roundw
          case rel =>
            have := v2.out
            refine ⟨t + 1, by omega, by go_num, ?_, ?_, ?_⟩
            · rw [HC1.out]; congr 1; simp only [IntKind.wrap_u64] at *; omega
            · rw [show i + (t + 1) = i + t + 1 by omega]; exact rowM_set HR2.out (by omega) _ (by rw [HD.out]; simp only [IntKind.wrap_u64] at *; omega)
            · exact hF.out.set _ _
          case measure => simp [intOf]; omega
        · go_wp2_with fail
          go_roundw
          case rel =>
            have := v2.out
            refine ⟨t + 1, by omega, by go_num, ?_, ?_, ?_⟩
            · rw [HC1.out]; congr 1; simp only [IntKind.wrap_u64] at *; omega
            · rw [show i + (t + 1) = i + t + 1 by omega]; exact rowM_set HR2.out (by omega) _ (by rw [HD.out]; simp only [IntKind.wrap_u64] at *; omega)
            · exact hF.out.set _ _
          case measure => simp [intOf]; omega
    · have e : t = N := by omega
      subst e
      have hend := take_end b32 HE.out HP.out HQ.out HY.out
      rw [hend, dg_out HY.out, Nat.mul_zero, Nat.zero_add] at hst
      have LO := hide (fun j (hj : j < i) => take_low HE.out hj)
      have HI := hide (fun j (hj : i + t < j) => take_high b32 HP.out HQ.out hj)
      obtain ⟨d1, HD⟩ : ∃ d1, dg 4294967296 q (i + t) = d1 := ⟨_, rfl⟩
      rw [HD] at lq hst
      have HD := hide HD
      generalize dg 4294967296 p (i + t) = dp at *
      generalize mcarry 4294967296 q y k i t = c0 at *
      clear hend
      rcases (by omega : b = 0 ∨ b = 1) with rfl | rfl
      · have v1 : (c0 : Int) ≤ dp := by omega
        have v2 : Hid ((dp : Int) = d1 + c0) := by unfold Hid; omega
        clear hst
        go_wp2_with fail
        go_ret
        refine ⟨by have v4 : ¬ dp < c0 := by omega
                   simp [v4], rowM_done (rowM_set HR2.out (by omega) _ ?_) LO.out HI.out, hF.out.set _ _⟩
        have := v2.out
        rw [HD.out]; omega
      · have v1 : (dp : Int) < c0 := by omega
        have v2 : Hid ((dp : Int) + 4294967296 = d1 + c0) := by unfold Hid; omega
        clear hst
        go_wp2_with fail
        go_ret
        refine ⟨by have v4 : dp < c0 := by omega
                   simp [v4], rowM_done (rowM_set HR2.out (by omega) _ ?_) LO.out HI.out, hF.out.set _ _⟩
        have := v2.out
        rw [HD.out]; simp only [IntKind.wrap_u64]; omega

set_option maxHeartbeats 1000000 in
set_option maxRecDepth 4000 in
theorem giveRow_any (g M i N cp p q y b c : Nat) (a : Option Addr) (w : World) (hrow : w.rowIs g 41 M (fun j => .int .u32 (dg 4294967296 p j : Int))) (hp : p < 4294967296 ^ (i + N + 1)) (hq : q < 4294967296 ^ (i + N + 1)) (hLM : i + N + 1 ≤ M) (hM : M ≤ 1000000000000)
    (hy : y < 4294967296 ^ N) (hb : b ≤ 1) (he : p + 1 * 4294967296 ^ i * y = q + b * 4294967296 ^ (i + N + 1)) (hcs : Cs .u32 w a N (dg 4294967296 y)) (hne : ∀ b off s, a = some ⟨b, off, s⟩ → b ≠ g) :
    Calls Tryd.prog 70 #[.slice (some ⟨g, i, none⟩) (N + 1) cp, .slice a N c] w fun e w' => e = .returned (.bool (decide (b = 1))) ∧ w'.rowIs g 41 M (fun j => .int .u32 (dg 4294967296 q j : Int)) ∧ Ex g w w' := by
  have HP := hide hp
  have HQ := hide hq
  have HY := hide hy
  have HC := hide hcs
  have HR := hide hrow
  have HN := hide hne
  have HE := hide he
  clear hp hq hy hcs hrow hne he
  go_enter Tryd.func70, Tryd.ntmps70
  go_wp2_with fail
  go_loopw [5, 10] (fun s5 s10 wr => ∃ t : Nat, t ≤ N ∧ s10 = .int .i64 t ∧ s5 = .int .u64 (mcarry 4294967296 p y 1 i t : Int) ∧ wr.rowIs g 41 M (rowM p q i (i + t)) ∧ Hid (Ex g w wr)) (fun _ s10 _ => N - (intOf s10).toNat)
  case atStart =>
    refine ⟨0, by omega, rfl, by rw [mcarry_zero _ _ _ _ _ b32]; rfl, ?_, Ex.refl _ _⟩
    exact HR.out.congr (fun j hj => (rowM_none _ _ _ _ (by omega) j).symm)
  case round =>
    obtain ⟨t, ht, rfl, rfl, hrw, hF⟩ := hrel
    have hst := take_step b32 HE.out ht
    have hcl := mcarry_lt (k := 1) (p := p) (y := y) (i := i) (t := t) b32 (by omega)
    have lp := dg_lt b32 p (i + t)
    have lq := dg_lt b32 q (i + t)
    have hcp := hrw.cell (i := i + t) (by omega)
    have hfz := hrw.frozen (i + t)
    have HR2 := hide hrw
    rw [rowM, if_neg (by omega)] at hcp
    clear hrw
    by_cases hc : t < N
    · have ly := dg_lt b32 y t
      have hcy := Cs.ex HC.out hF.out HN.out
      rcases hcy with h0 | ⟨b', off, rfl, hb', hcell⟩
      · omega
      · have hcy := hcell t hc
        clear hcell
        obtain ⟨d1, HD⟩ : ∃ d1, dg 4294967296 q (i + t) = d1 := ⟨_, rfl⟩
        obtain ⟨c1, HC1⟩ : ∃ c1, mcarry 4294967296 p y 1 i (t + 1) = c1 := ⟨_, rfl⟩
        rw [HD] at lq
        rw [HD, HC1] at hst
        have HD := hide HD
        have HC1 := hide HC1
        generalize dg 4294967296 y t = dy at *
        generalize dg 4294967296 p (i + t) = dp at *
        generalize mcarry 4294967296 p y 1 i t = c0 at *
        have HS := hide hst
        have hS1 : (c0 : Int) + (dp + dy) < 18446744073709551616 := by omega
        clear hst
        go_wp2_with fail
        go_roundw
        case rel =>
          have := HS.out
          refine ⟨t + 1, by omega, by go_num, ?_, ?_, ?_⟩
          · rw [HC1.out]; congr 1; omega
          · rw [show i + (t + 1) = i + t + 1 by omega]; exact rowM_set HR2.out (by omega) _ (by rw [HD.out]; omega)
          · exact hF.out.set _ _
        case measure => simp [intOf]; omega
    · have e : t = N := by omega
      subst e
      have hend := take_end b32 HE.out HQ.out HP.out HY.out
      rw [hend, dg_out HY.out, Nat.mul_zero, Nat.zero_add] at hst
      have LO := hide (fun j (hj : j < i) => (take_low HE.out hj).symm)
      have HI := hide (fun j (hj : i + t < j) => take_high b32 HP.out HQ.out hj)
      obtain ⟨d1, HD⟩ : ∃ d1, dg 4294967296 q (i + t) = d1 := ⟨_, rfl⟩
      rw [HD] at lq hst
      have HD := hide HD
      generalize dg 4294967296 p (i + t) = dp at *
      generalize mcarry 4294967296 p y 1 i t = c0 at *
      clear hend
      rcases (by omega : b = 0 ∨ b = 1) with rfl | rfl
      · have v1 : ((c0 : Int) + dp) / 4294967296 = 0 := by omega
        have v2 : Hid ((c0 : Int) + dp = d1) := by unfold Hid; omega
        have v3 : (c0 : Int) + dp < 18446744073709551616 := by omega
        clear hst
        go_wp2_with fail
        go_ret
        refine ⟨by simp, rowM_done (rowM_set HR2.out (by omega) _ ?_) LO.out HI.out, hF.out.set _ _⟩
        have := v2.out
        rw [HD.out]; omega
      · have v1 : ((c0 : Int) + dp) / 4294967296 = 1 := by omega
        have v2 : Hid ((c0 : Int) + dp = d1 + 4294967296) := by unfold Hid; omega
        have v3 : (c0 : Int) + dp < 18446744073709551616 := by omega
        clear hst
        go_wp2_with fail
        go_ret
        refine ⟨by simp, rowM_done (rowM_set HR2.out (by omega) _ ?_) LO.out HI.out, hF.out.set _ _⟩
        have := v2.out
        rw [HD.out]; omega

set_option maxHeartbeats 1000000 in
set_option maxRecDepth 4000 in
theorem guess_any (g M i n cp p y c : Nat) (a : Option Addr) (w : World) (hrow : w.rowIs g 41 M (fun j => .int .u32 (dg 4294967296 p j : Int))) (hLM : i + n + 1 + 1 ≤ M) (hM : M ≤ 1000000000000)
    (ht : 0 < dg 4294967296 y n) (hcs : Cs .u32 w a (n + 1) (dg 4294967296 y)) :
    Calls Tryd.prog 68 #[.slice (some ⟨g, i, none⟩) (n + 1 + 1) cp, .slice a (n + 1) c] w fun e w' => e = .returned (.int .u32 ((min ((dg 4294967296 p (i + n + 1) * 4294967296 + dg 4294967296 p (i + n)) / dg 4294967296 y n) 4294967295 : Nat) : Int)) ∧ Fr w w' := by
  have l1 := dg_lt b32 p (i + n + 1)
  have l0 := dg_lt b32 p (i + n)
  have ly := dg_lt b32 y n
  have hc1 := hrow.cell (i := i + n + 1) (by omega)
  have hc0 := hrow.cell (i := i + n) (by omega)
  rcases hcs with h0 | ⟨b', off, rfl, hb', hcell⟩
  · omega
  have hcy := hcell n (by omega)
  clear hcell hrow
  generalize dg 4294967296 p (i + n + 1) = d1 at *
  generalize dg 4294967296 p (i + n) = d0 at *
  generalize dg 4294967296 y n = dy at *
  rw [show i + n + 1 = i + (n + 1) by omega] at hc1
  go_enter Tryd.func68, Tryd.ntmps68
  go_wp2_with fail
  go_quiet (fail)
  obtain ⟨Wd, hWd⟩ : ∃ Wd : Nat, d1 * 4294967296 + d0 = Wd := ⟨_, rfl⟩
  have e1 : (d1 : Int) * 4294967296 + (d0 : Int) = (Wd : Int) := by omega
  rw [e1]
  have hWb : Wd < 18446744073709551616 := by omega
  have HW := hide hWd
  clear e1 hWd hc0 hc1
  have hcy : (w.drewN nq).cell? ⟨b', off + n, none⟩ = some (.int .u32 dy) := hcy
  obtain ⟨Q, hQ⟩ : ∃ Q : Nat, Wd / dy = Q := ⟨_, rfl⟩
  have hQz : (Wd : Int) / (dy : Int) = (Q : Int) := by rw [← hQ]; simp
  have hQb : Q ≤ Wd := by rw [← hQ]; exact Nat.div_le_self _ _
  have HQ := hide hQ
  clear hQ
  by_cases hm : (Q : Int) ≤ 4294967295
  · go_wp2_with fail
    go_ret
    refine ⟨?_, drewN_fr _ _⟩
    rw [HW.out, HQ.out, show min Q 4294967295 = Q by omega]
    rfl
  · go_wp2_with fail
    go_ret
    refine ⟨?_, drewN_fr _ _⟩
    rw [HW.out, HQ.out, show min Q 4294967295 = 4294967295 by omega]
    rfl
end Go.Proofs.YtimglhbllcjpbaaDoor
