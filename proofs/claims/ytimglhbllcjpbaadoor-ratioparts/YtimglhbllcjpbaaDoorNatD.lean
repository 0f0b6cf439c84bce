/- math/bits.Len32, Small, Bits. -/
import Derived.Test.YtimglhbllcjpbaaDoorNatC
import Derived.Lib.BitFns
import Derived.Lib.ItoaNum
namespace Go.Proofs.YtimglhbllcjpbaaDoor
set_option linter.unusedVariables false
set_option linter.unusedSimpArgs false
open Go.RowKit

theorem bitLen_nlen (x : Nat) (hx : x < 18446744073709551616) : Lib.bitLen x = nlen 2 x := by
  by_cases h0 : x = 0
  · subst h0
    rw [nlen_zero]; exact Lib.bitLenAux_zero 64
  · obtain ⟨h1, h2, h3⟩ := Lib.bitLenAux_bounds 64 x hx h0
    exact (nlen_eq (by omega) h3 (.inr h2)).symm

set_option maxHeartbeats 4000000 in
set_option maxRecDepth 100000 in
theorem len32_any (x : Int) (w : World) (h0 : 0 ≤ x) (h1 : x ≤ 4294967295) :
    Calls Tryd.prog 36 #[.int .u32 x] w fun e w' => e = .returned (.int .i64 (nlen 2 x.toNat : Int)) ∧ w' = w := by
  have hb := bitLen_nlen x.toNat (by omega)
  have HB := hide hb
  clear hb
  have fin : ∀ (y c : Int), 0 ≤ y → y ≤ 255 → Hid (c + Lib.bitLen y.toNat = Lib.bitLen x.toNat) → c + Lib.len8 y = (nlen 2 x.toNat : Int) := fun y c g0 g1 h => by
    rw [Lib.len8_of y g0 g1, h.out, HB.out]
  have HF := hide fin
  clear fin
  have b8 : ∀ y : Int, 0 ≤ y → y ≤ 255 → 0 ≤ Lib.len8 y ∧ Lib.len8 y ≤ 8 := fun y g0 g1 => by
    rw [Lib.len8_of y g0 g1]
    have := Lib.bitLen_le8' y g0 g1
    omega
  have H8 := hide b8
  clear b8
  by_cases c1 : x ≤ 255
  · obtain ⟨p0, p1⟩ := H8.out x h0 c1
    go_enter Tryd.func36, Tryd.ntmps36
    go_wp2
    go_ret
    refine ⟨congrArg Ending.returned (congrArg (Value.int IntKind.i64) ?_), rfl⟩
    have := HF.out x 0 h0 c1 (by unfold Hid; omega)
    omega
  · by_cases c2 : x ≤ 65535
    · have g0 : 0 ≤ x / 256 := by omega
      have g1 : x / 256 ≤ 255 := by omega
      have s := Lib.bitLen_shift8 x.toNat (by omega) (by omega)
      have HS := hide s
      clear s
      obtain ⟨p0, p1⟩ := H8.out _ g0 g1
      go_enter Tryd.func36, Tryd.ntmps36
      go_wp2
      go_ret
      refine ⟨congrArg Ending.returned (congrArg (Value.int IntKind.i64) ?_), rfl⟩
      have e : (x / 256).toNat = x.toNat / 256 := by omega
      have := HF.out (x / 256) 8 g0 g1 (by unfold Hid; rw [e, HS.out]; omega)
      omega
    · by_cases c3 : x ≤ 16777215
      · have g0 : 0 ≤ x / 65536 := by omega
        have g1 : x / 65536 ≤ 255 := by omega
        have s := Lib.bitLen_shift16 x.toNat (by omega) (by omega)
        have HS := hide s
        clear s
        obtain ⟨p0, p1⟩ := H8.out _ g0 g1
        go_enter Tryd.func36, Tryd.ntmps36
        go_wp2
        go_ret
        refine ⟨congrArg Ending.returned (congrArg (Value.int IntKind.i64) ?_), rfl⟩
        have e : (x / 65536).toNat = x.toNat / 65536 := by omega
        have := HF.out (x / 65536) 16 g0 g1 (by unfold Hid; rw [e, HS.out]; omega)
        omega
      · have g0 : 0 ≤ x / 65536 / 256 := by omega
        have g1 : x / 65536 / 256 ≤ 255 := by omega
        have s := Lib.bitLen_shift24 x.toNat (by omega) (by omega)
        have HS := hide s
        clear s
        obtain ⟨p0, p1⟩ := H8.out _ g0 g1
        go_enter Tryd.func36, Tryd.ntmps36
        go_wp2
        go_ret
        refine ⟨congrArg Ending.returned (congrArg (Value.int IntKind.i64) ?_), rfl⟩
        have e : (x / 65536 / 256).toNat = x.toNat / 16777216 := by omega
        have := HF.out (x / 65536 / 256) 24 g0 g1 (by unfold Hid; rw [e, HS.out]; omega)
        omega

/-- Bits of a number by its last limb. -/
theorem bits_top (x k : Nat) (h1 : x < 4294967296 ^ (k + 1)) (h2 : 4294967296 ^ k ≤ x) : nlen 2 x = k * 32 + nlen 2 (dg 4294967296 x k) := by
  have hp := pow_pos' b32 k
  have e : dg 4294967296 x k = x / 4294967296 ^ k := by
    unfold dg
    exact Nat.mod_eq_of_lt ((Nat.div_lt_iff_lt_mul hp).2 (by rw [Nat.pow_succ, Nat.mul_comm] at h1; exact h1))
  rw [e]
  have hq : x / 4294967296 ^ k ≠ 0 := by have := Nat.div_pos h2 hp; omega
  generalize hqq : x / 4294967296 ^ k = q at *
  have hB : (4294967296 : Nat) ^ k = 2 ^ (k * 32) := by rw [Nat.mul_comm, Nat.pow_mul]
  have l1 := lt_nlen (B := 2) (by omega) q
  have l2 := nlen_low (B := 2) (by omega) q hq
  have l3 := nlen_pos (B := 2) (by omega) hq
  rw [hB] at hqq hp
  refine nlen_eq (by omega) ?_ (.inr ?_)
  · rw [Nat.pow_add, Nat.mul_comm]
    exact (Nat.div_lt_iff_lt_mul hp).1 (by rw [hqq]; exact l1)
  · have : k * 32 + nlen 2 q - 1 = (nlen 2 q - 1) + k * 32 := by omega
    rw [this, Nat.pow_add]
    exact (Nat.le_div_iff_mul_le hp).1 (by rw [hqq]; exact l2)

set_option maxHeartbeats 400000 in
set_option maxRecDepth 4000 in
theorem bits_any (v : Value) (x : Nat) (w : World) (h : IsNat w v x) (hn : nlen 4294967296 x ≤ 1000000000000) :
    Calls Tryd.prog 12 #[v] w fun e w' => e = .returned (.int .i64 (nlen 2 x : Int)) ∧ Fr w w' := by
  obtain ⟨a, cap, rfl, h2, h3, h4⟩ := h
  by_cases hx : x = 0
  · subst hx
    rw [nlen_zero] at *
    rw [nlen_zero]
    clear h4
    go_enter Tryd.func12, Tryd.ntmps12
    go_wp2
    go_ret
    exact ⟨rfl, by unfold Fr; go_grown⟩
  · have hp := nlen_pos b32 hx
    have hl := lt_nlen b32 x
    have hw := nlen_low b32 x hx
    obtain ⟨k, hk⟩ : ∃ k, nlen 4294967296 x = k + 1 := ⟨nlen 4294967296 x - 1, by omega⟩
    rw [hk] at hl hw h2 h4 hn hp ⊢
    have ht := bits_top x k hl (by simpa using hw)
    rcases h4 with h4 | ⟨b, off, rfl, hb, hc⟩
    · omega
    · have hci := hc k (by omega)
      have hlt := dg_lt b32 x k
      have hs : nlen 2 (dg 4294967296 x k) ≤ 32 := nlen_le (by omega) (by omega)
      have HT := hide ht
      clear ht hl hw hk hc hp
      generalize dg 4294967296 x k = d at *
      go_enter Tryd.func12, Tryd.ntmps12
      go_wp2_with fail
      refine (len32_any _ _ (by omega) (by omega)).mono ?_
      rintro e w1 ⟨rfl, rfl⟩
      rw [Int.toNat_natCast]
      go_wp2_with fail
      go_ret
      refine ⟨?_, by unfold Fr; go_grown⟩
      rw [HT.out]
      go_num

theorem small_dg (x : Nat) (hx : x < 4294967296 ^ 2) : (dg 4294967296 x 1 : Int) * 4294967296 + dg 4294967296 x 0 = x := by
  simp only [dg, Nat.pow_one, Nat.pow_zero, Nat.div_one]
  omega

set_option maxHeartbeats 400000 in
set_option maxRecDepth 4000 in
theorem small_any (v : Value) (x : Nat) (w : World) (h : IsNat w v x) :
    Calls Tryd.prog 9 #[v] w fun e w' => e = .returned (.tuple #[.int .u64 (if x < 18446744073709551616 then (x : Int) else 0), .bool (decide (x < 18446744073709551616))]) ∧ Fr w w' := by
  have h' := h
  obtain ⟨a, cap, rfl, h2, h3, h4⟩ := h
  by_cases c : nlen 4294967296 x ≤ 2
  · have hx : x < 4294967296 ^ 2 := lt_of_nlen b32 c
    have hx2 : x < 18446744073709551616 := by omega
    rw [if_pos hx2, decide_eq_true hx2]
    have hsm := small_dg x hx
    have l0 := dg_lt b32 x 0
    have l1 := dg_lt b32 x 1
    have HN : Hid (IsNat w (.agg #[.slice a (nlen 4294967296 x) cap]) x) := h'
    clear h' hx h4
    generalize nlen 4294967296 x = N at *
    go_enter Tryd.func9, Tryd.ntmps9
    go_wp2_with fail
    have hbox : ∀ p : FrBox (w.alloc (Obj.cells #[Value.slice a N cap] 24)), p.now.cell? ⟨w.heap.size, 0, none⟩ = some (.slice a N cap) := fun p => fr_cell p.fr (by simp [go_sem])
    have nb := FrBox.some (w.alloc (Obj.cells #[Value.slice a N cap] 24))
    refine wp_region_fr (by kernel_rfl) (by kernel_rfl) ?_
    repeat (quiet_step (refine Calls.fr_of (at_int _ x _ _ (IsNat.fr HN.out ((Fr.alloc _ _).trans (FrBox.fr _))) (by omega) (by omega))))
    refine wpQuiet_nil ?_
    intro wq hq
    obtain ⟨p, hp⟩ := hq
    have fq := p.fr
    rw [← hp] at fq
    clear hp hbox nb
    have e1 : IntKind.u64.wrap ((dg 4294967296 x 1 : Int) * 4294967296) = (dg 4294967296 x 1 : Int) * 4294967296 := by rw [IntKind.wrap_u64]; omega
    have e2 : IntKind.u64.wrap ((dg 4294967296 x 1 : Int) * 4294967296 + (dg 4294967296 x 0 : Int)) = x := by rw [hsm, IntKind.wrap_u64]; omega
    rw [e1, e2]
    go_wp2_with fail
    go_ret2
    exact ⟨rfl, (Fr.alloc _ _).trans fq⟩
  · have hx2 : ¬ x < 18446744073709551616 := fun h => c (nlen_le b32 (by omega))
    rw [if_neg hx2, decide_eq_false hx2]
    clear h' h4 hx2
    generalize nlen 4294967296 x = N at *
    go_enter Tryd.func9, Tryd.ntmps9
    go_wp2
    go_ret2
    exact ⟨rfl, by unfold Fr; go_grown⟩

/-- -1, 0 or 1. -/
def cmpZ (n m : Nat) : Int := if n < m then -1 else if n = m then 0 else 1

set_option maxHeartbeats 800000 in
set_option maxRecDepth 4000 in
theorem cmp_any (va vb : Value) (x y : Nat) (w : World) (ha : IsNat w va x) (hb : IsNat w vb y) (hx : nlen 4294967296 x ≤ 1000000000000) (hy : nlen 4294967296 y ≤ 1000000000000) :
    Calls Tryd.prog 38 #[va, vb] w fun e w' => e = .returned (.int .i64 (cmpZ x y)) ∧ Fr w w' := by
  have HA : Hid (IsNat w va x) := ha
  have HB : Hid (IsNat w vb y) := hb
  obtain ⟨a, ca, rfl, a2, a3, a4⟩ := ha
  obtain ⟨b, cb, rfl, b2, b3, b4⟩ := hb
  clear a4 b4
  have HNx := lt_nlen b32 x
  have HNy := lt_nlen b32 y
  have hM : ∃ M : Nat, max (nlen 4294967296 x) (nlen 4294967296 y) = M ∧ M ≤ 1000000000000 ∧ Hid (x / 4294967296 ^ M = y / 4294967296 ^ M) := by
    refine ⟨_, rfl, by omega, ?_⟩
    unfold Hid
    rw [Nat.div_eq_of_lt (lt_of_nlen b32 (by omega)), Nat.div_eq_of_lt (lt_of_nlen b32 (by omega))]
  clear HNx HNy
  obtain ⟨M, hM1, hM2, hM3⟩ := hM
  go_enter Tryd.func38, Tryd.ntmps38
  generalize nlen 4294967296 x = N1 at *
  generalize nlen 4294967296 y = N2 at *
  go_wp2_with fail
  all_goals (
    go_loopw [5] (fun i wr => ∃ k : Nat, k ≤ M ∧ i = .int .i64 ((k : Int) - 1) ∧ Hid (x / 4294967296 ^ k = y / 4294967296 ^ k) ∧ Fr ((w.alloc (Obj.cells #[Value.slice a N1 ca] 24)).alloc (Obj.cells #[Value.slice b N2 cb] 24)) wr) (fun i _ => (intOf i + 1).toNat)
    case atStart => exact ⟨M, by omega, by go_num, hM3, Fr.refl _⟩
    case round =>
      obtain ⟨k, hk, rfl, hE, hF⟩ := hrel
      have f0 : Fr w wr := ((Fr.alloc _ _).trans (Fr.alloc _ _)).trans hF
      by_cases c : k = 0
      · subst c
        go_wp2_with fail
        go_ret
        refine ⟨?_, f0⟩
        have := hE.out
        simp at this
        simp [cmpZ, this]
      · obtain ⟨k, rfl⟩ : ∃ j, k = j + 1 := ⟨k - 1, by omega⟩
        have e0 : ((k + 1 : Nat) : Int) - 1 = (k : Int) := by omega
        rw [e0]
        have e1 : (((k : Nat) : Int)).toNat = k := by omega
        have lx := dg_lt b32 x k
        have ly := dg_lt b32 y k
        have hboxA : ∀ wz, Fr wr wz → ∀ p : FrBox wz, p.now.cell? ⟨w.heap.size, 0, none⟩ = some (.slice a N1 ca) := fun wz fz p => fr_cell ((hF.trans fz).trans p.fr) (by simp [go_sem])
        have hboxB : ∀ wz, Fr wr wz → ∀ p : FrBox wz, p.now.cell? ⟨w.heap.size + 1, 0, none⟩ = some (.slice b N2 cb) := fun wz fz p => fr_cell ((hF.trans fz).trans p.fr) (by simp [go_sem])
        have hcA : ∀ wz, Fr wr wz → ∀ p : FrBox wz, Calls Tryd.prog 33 #[.agg #[.slice a N1 ca], .int .i64 k] p.now fun e w'' => e = .returned (.int .u64 (dg 4294967296 x k : Int)) ∧ ∃ p : FrBox wz, w'' = p.now := fun wz fz p => Calls.fr_of (at_any _ x k _ (IsNat.fr HA.out ((f0.trans fz).trans p.fr)) (by unfold maxLen; omega))
        have hcB : ∀ wz, Fr wr wz → ∀ p : FrBox wz, Calls Tryd.prog 33 #[.agg #[.slice b N2 cb], .int .i64 k] p.now fun e w'' => e = .returned (.int .u64 (dg 4294967296 y k : Int)) ∧ ∃ p : FrBox wz, w'' = p.now := fun wz fz p => Calls.fr_of (at_any _ y k _ (IsNat.fr HB.out ((f0.trans fz).trans p.fr)) (by unfold maxLen; omega))
        have qA := hide hboxA
        have qB := hide hboxB
        have kA := hide hcA
        have kB := hide hcB
        have cl : Hid (dg 4294967296 x k < dg 4294967296 y k → x < y) := fun h => cmp_lt b32 hE.out h
        have cg : Hid (dg 4294967296 y k < dg 4294967296 x k → y < x) := fun h => cmp_lt b32 hE.out.symm h
        have ce : Hid (dg 4294967296 x k = dg 4294967296 y k → x / 4294967296 ^ k = y / 4294967296 ^ k) := fun h => cmp_eq b32 hE.out h
        generalize dg 4294967296 x k = dx at *
        generalize dg 4294967296 y k = dy at *
        have xA := qA.out wr (Fr.refl _)
        have xB := qB.out wr (Fr.refl _)
        have yA : Hid _ := kA.out wr (Fr.refl _)
        have yB : Hid _ := kB.out wr (Fr.refl _)
        clear hboxA hboxB hcA hcB
        have nb := FrBox.some wr
        go_wp2_with fail
        refine wp_region_fr (by kernel_rfl) (by kernel_rfl) ?_
        repeat (quiet_step (first | with_reducible exact yA.out _ | with_reducible exact yB.out _))
        refine wpQuiet_nil ?_
        intro wq hq
        obtain ⟨p, hp⟩ := hq
        have fq := p.fr
        rw [← hp] at fq
        clear hp xA xB yA yB nb p
        have xA := qA.out wq fq
        have xB := qB.out wq fq
        have yA : Hid _ := kA.out wq fq
        have yB : Hid _ := kB.out wq fq
        have nb := FrBox.some wq
        by_cases c1 : dx < dy
        · go_wp2_with fail
          go_ret
          exact ⟨by rw [cmpZ, if_pos (cl.out c1)]; rfl, f0.trans fq⟩
        · go_wp2_with fail
          refine wp_region_fr (by kernel_rfl) (by kernel_rfl) ?_
          repeat (quiet_step (first | with_reducible exact yA.out _ | with_reducible exact yB.out _))
          refine wpQuiet_nil ?_
          intro wt ht
          obtain ⟨p, hp⟩ := ht
          have ft := p.fr
          rw [← hp] at ft
          clear hp xA xB yA yB nb p
          by_cases c2 : dy < dx
          · go_wp2_with fail
            go_ret
            have := cg.out c2
            exact ⟨by rw [cmpZ, if_neg (by omega), if_neg (by omega)]; rfl, (f0.trans fq).trans ft⟩
          · have hE2 : Hid _ := ce.out (by omega)
            go_wp2_with fail
            go_roundw
            case rel => exact ⟨k, by omega, by go_num, hE2, (hF.trans fq).trans ft⟩
            case measure => simp [intOf])
end Go.Proofs.YtimglhbllcjpbaaDoor
