/- The law RoundTwice. -/
import Derived.Test.YthdgdomgcogpjaaDoorRoundJ
import Derived.Test.YthdgdomgcogpjaaDoorRoundO
import Derived.Test.YthdgdomgcogpjaaDoorRoundY
namespace Go.Proofs.YthdgdomgcogpjaaDoor
set_option linter.unusedVariables false
set_option linter.unusedSimpArgs false
open Go.RowKit

attribute [local go_sem] World.cell?_alloc_some
theorem u64_nat9 {b : Int} (h : (Lit.int .u64 b).wf = true) : ∃ n : Nat, b = n ∧ n < 18446744073709551616 := by
  simp [Lit.wf, IntKind.min, IntKind.max, IntKind.signed, IntKind.bits] at h
  exact ⟨b.toNat, by omega, by omega⟩
theorem cmpZ_same9 (a : Nat) : cmpZ a a = 0 := by unfold cmpZ; rw [if_neg (by omega), if_pos rfl]
theorem cmpZ_pos9 {a b : Nat} (h : b < a) : cmpZ a b = 1 := by unfold cmpZ; rw [if_neg (by omega), if_neg (by omega)]
/-- The quotient of 64 bits: n over d; 0 where there is none. -/
theorem twice_value (b : Nat) (hb : b < 18446744073709551616) : ∃ (n d : Nat) (ok : Bool), d ≠ 0 ∧ (ok = false → n = 0) ∧ nlen 2 n ≤ 1100 ∧ nlen 2 d ≤ 1100 ∧ nlen 4294967296 n ≤ 1000 ∧ nlen 4294967296 d ≤ 1000 ∧ (n ≠ 0 → ∃ E : Int, IsExp n d E ∧ -1200 ≤ E ∧ E ≤ 1200) ∧ ∃ v0, Hid (∀ wz, Calls Tryd.prog 30 #[.int .u64 (b : Int)] wz fun e w' => e = .returned v0 ∧ Fr wz w') ∧ Hid (∀ wz, Tab wz → Calls Tryd.prog 29 #[v0] wz fun e w' => ∃ r1 r2 r3 r4 r5 r6, e = .returned (.tuple #[.agg #[.slice r1 r2 r3, .slice r4 r5 r6], .bool ok]) ∧ IsRat w' (.agg #[.slice r1 r2 r3, .slice r4 r5 r6]) n d ∧ Fr wz w') := by
  obtain ⟨m, hm⟩ : ∃ m, bM b = m := ⟨_, rfl⟩
  obtain ⟨x, hx⟩ : ∃ x, bX b = x := ⟨_, rfl⟩
  have hx2 : -1074 ≤ x ∧ x ≤ 971 := by rw [← hx]; exact bX_low b
  have hm2 : m < 9007199254740992 := by rw [← hm]; exact bM_lt b
  have ev : bval b = .agg #[.int .i64 (bC b : Int), .bool (bN b), .int .u64 (m : Int), .int .i64 x] := by unfold bval; rw [hm, hx]
  by_cases hc : bC b ≤ 1
  · obtain ⟨n, hn⟩ : ∃ n, m * 2 ^ x.toNat = n := ⟨_, rfl⟩
    obtain ⟨d, hd⟩ : ∃ d, 2 ^ (-x).toNat = d := ⟨_, rfl⟩
    obtain ⟨D, hD⟩ : ∃ D, m * 2 ^ x.toNat * 5 ^ (-x).toNat = D := ⟨_, rfl⟩
    obtain ⟨sm, l1, l2, l3, l4, l5⟩ := value_facts m x hm2 hx2.1 hx2.2 n d D hn hd hD
    have OK := ok_of hb (by omega)
    rw [hm, hx] at OK
    refine ⟨n, d, true, sm.1, (fun h => by cases h), l1, l2, l3, l4, ?_, bval b, fun wz => of_any7 b wz hb, ?_⟩
    · intro h0
      have hD0 : D ≠ 0 := fun e => h0 ((zero_same sm).2 e)
      have np := nlen_pos ten2 hD0
      exact ⟨_, exp_same sm hD0 rfl, by omega, by omega⟩
    · intro wz hT
      rw [ev]
      refine (valueR_yes (bC b : Int) (bN b) m x wz (by omega) (by omega) (by omega) hT (by omega) OK).mono ?_
      rintro e w' ⟨v, rfl, h, f⟩
      rw [hn, hd] at h
      have h' := h
      obtain ⟨r1, r2, r3, r4, r5, r6, rfl⟩ := h.form
      exact ⟨r1, r2, r3, r4, r5, r6, rfl, h', f⟩
  · refine ⟨0, 1, false, by omega, fun _ => rfl, by rw [nlen_zero]; omega, Nat.le_trans (n2_small (by omega)) (by omega), by rw [nlen_zero]; omega, Nat.le_trans (n32_small (by omega)) (by omega), fun h => absurd rfl h, bval b, fun wz => of_any7 b wz hb, ?_⟩
    intro wz hT
    rw [ev]
    refine (valueR_other (bC b : Int) (bN b) m x wz (by omega) (by omega) (by omega) (by omega) (by omega)).mono ?_
    rintro e w' ⟨rfl, f⟩
    exact ⟨_, _, _, _, _, _, rfl, rat_zero _ (by omega) rfl, f⟩
/-- What To tells, for RoundTwice: just c digits, and their number. -/
theorem twice_to {n d c : Nat} {E : Int} (hc : 1 ≤ c) (hc1 : c ≤ 40) (hd : d ≠ 0) (hE : IsExp n d E) : ∃ (R : Nat) (L : List UInt8) (SE : Int), rndN (n * 10 ^ (-E).toNat * 10 ^ (c - 1)) (d * 10 ^ E.toNat) = R ∧ rndN (n * 10 ^ (-(E - c + 1)).toNat) (d * 10 ^ (E - c + 1).toNat) = R ∧ sciD c R = L ∧ sciE c R E = SE ∧ L.length = c ∧ AllD L ∧ L.head? ≠ some 48 ∧ (E ≤ SE ∧ SE ≤ E + 1) ∧ nlen 4294967296 R ≤ 41 ∧ nlen 4294967296 (valD L) ≤ 41 ∧ valD L * 10 ^ (SE - c + 1).toNat * 10 ^ (-(E - c + 1)).toNat = R * 10 ^ (E - c + 1).toNat * 10 ^ (-(SE - c + 1)).toNat := by
  obtain ⟨r1, r2⟩ := to_range (c := c) hc hd hE
  obtain ⟨f1, f2, f3, f4, f5⟩ := sci_facts (E := E) hc r1 r2
  refine ⟨_, _, _, to_j hc hd, rfl, rfl, rfl, f1, f2, f3, f4, ?_, ?_, f5⟩
  · refine Nat.le_trans (nlen_mono b32 r2) ?_
    exact nl_ten_m rfl (by omega) (by omega)
  · have := valD_lt _ f2
    rw [f1] at this
    refine Nat.le_trans (nlen_mono b32 (Nat.le_of_lt this)) ?_
    exact nl_ten_m rfl (by omega) (by omega)

set_option maxHeartbeats 4000000 in
set_option maxRecDepth 4000 in
theorem law_RoundTwice (b pl : Int) (w : World) (hbw : (Lit.int .u64 b).wf = true) (hpw : (Lit.int .u8 pl).wf = true) (hL : Led w) :
    Calls Tryd.prog 7 #[.int .u64 b, .int .u8 pl] w fun e w' => e = .returned (.bool true) ∧ Fr w w' := by
  obtain ⟨b, rfl, hb⟩ := u64_nat9 hbw
  have HL := hide hL
  obtain ⟨pl0, pl1⟩ : 0 ≤ pl ∧ pl ≤ 255 := by
    simp [Lit.wf, IntKind.min, IntKind.max, IntKind.signed, IntKind.bits] at hpw
    omega
  obtain ⟨p, hp⟩ : ∃ p : Nat, pl % 30 = p := ⟨(pl % 30).toNat, by omega⟩
  have hp29 : p ≤ 29 := by omega
  obtain ⟨n, d, ok, hd0, hok0, l1, l2, l3, l4, hEx, v0, OB, RVAL⟩ := twice_value b hb
  have b1 : nlen 2 n ≤ 3000 := by omega
  have b2 : nlen 2 d ≤ 3000 := by omega
  have n1 := n32_small (x := 1) (by omega)
  have HOK0 := hide hok0
  have HEX := hide hEx
  clear hL hpw hbw hok0 hEx
  obtain ⟨c, hc⟩ : ∃ c : Nat, 1 + (p : Int) = c := ⟨p + 1, by omega⟩
  obtain ⟨c2, hc2⟩ : ∃ c2 : Nat, (c : Int) + 1 = c2 := ⟨c + 1, by omega⟩
  have hcA : 1 ≤ c := by omega
  have hcB : c ≤ 30 := by omega
  have hcC : c2 = c + 1 := by omega
  have HCC := hide hcC
  have hcD : 2 ≤ c2 := by omega
  have hcE : c2 ≤ 31 := by omega
  clear hcC
  go_enter Tryd.func7, Tryd.ntmps7
  go_wp2_with fail
  refine (OB.out _).mono ?_
  rintro e w1 ⟨rfl, fy⟩
  have FW := hide fy
  clear fy OB
  go_wp2_with fail
  refine (RVAL.out _ (HL.out.fr FW.out).1).mono ?_
  rintro e w2 ⟨r1, r2, r3, r4, r5, r6, rfl, ir, fy⟩
  have RR := hide ir
  have FW := hide (FW.out.trans fy)
  clear ir fy RVAL
  go_upto_region 3 with fail
  obtain ⟨W2, hW2⟩ : ∃ W, W = (w2.alloc (Obj.cells #[Value.slice r1 r2 r3, Value.slice r4 r5 r6] 27)) := ⟨_, rfl⟩
  have fy : Fr w2 W2 := by rw [hW2]; exact (Fr.alloc w2 (Obj.cells #[Value.slice r1 r2 r3, Value.slice r4 r5 r6] 27))
  have s5 : Slot2 w2 W2 (w2.heap.size) (.slice r1 r2 r3) (.slice r4 r5 r6) := by
    rw [hW2]; simpa using Slot2.new (Fr.refl w2) r1 r2 r3 r4 r5 r6 27
  rw [← hW2]
  clear hW2
  have S5 := hide s5
  have RR := hide (RR.out.fr fy)
  have FW := hide (FW.out.trans fy)
  clear s5 fy
  have q5 := S5.out.1
  have q5' := S5.out.2.1
  go_wp2_with fail
  by_cases h0 : n = 0
  · refine (toR_zero _ n d _ RR.out l3 l4 b1 b2 c (by omega) (by omega) h0).mono ?_
    rintro e w3 ⟨rfl, fy⟩
    have S5 := hide (S5.out.fr fy)
    have RR := hide (RR.out.fr fy)
    have FW := hide (FW.out.trans fy)
    clear fy q5 q5'
    have q5 := S5.out.1
    have q5' := S5.out.2.1
    go_wp2_with fail
    obtain ⟨W3, hW3⟩ : ∃ W, W = w3.alloc (Obj.cells #[.string ⟨#[]⟩, .int .i64 0] 43) := ⟨_, rfl⟩
    have fy : Fr w3 W3 := by rw [hW3]; exact Fr.alloc _ _
    rw [← hW3]
    clear hW3
    have S5 := hide (S5.out.fr fy)
    have RR := hide (RR.out.fr fy)
    have FW := hide (FW.out.trans fy)
    clear fy q5 q5'
    refine (toR_zero _ n d _ RR.out l3 l4 b1 b2 c2 (by omega) (by omega) h0).mono ?_
    rintro e w4 ⟨rfl, fy⟩
    have S5 := hide (S5.out.fr fy)
    have RR := hide (RR.out.fr fy)
    have FW := hide (FW.out.trans fy)
    clear fy
    have q5 := S5.out.1
    have q5' := S5.out.2.1
    cases ok with
    | false =>
      go_wp2_with fail
      have FW := hide (FW.out.trans ((Fr.alloc w4 (Obj.cells #[.string ⟨#[]⟩, .int .i64 0] 43)).trans (Fr.alloc _ (Obj.cells #[.slice none 0 0, .slice none 0 0] 27))))
      refine (wakes_any _ (HL.out.fr FW.out)).mono ?_
      rintro e w5 ⟨rfl, fy⟩
      have FW := hide (FW.out.trans fy)
      clear fy
      go_wp2_with fail
      go_ret
      exact ⟨rfl, FW.out⟩
    | true =>
      go_wp2_with fail
      have fa := (Fr.alloc w4 (Obj.cells #[.string ⟨#[]⟩, .int .i64 0] 43)).trans (Fr.alloc _ (Obj.cells #[.slice none 0 0, .slice none 0 0] 27))
      have FW := hide (FW.out.trans fa)
      have RR := hide (RR.out.fr fa)
      subst h0
      refine (cmpR_any _ _ 0 d 0 1 _ (HL.out.fr FW.out).1 RR.out (rat_zero _ (by omega) rfl) (by omega) (by omega) (by omega) (by omega) 0 (by rw [Nat.zero_mul, Nat.zero_mul]; exact cmpZ_same9 0)).mono ?_
      rintro e w5 ⟨rfl, fy⟩
      have FW := hide (FW.out.trans fy)
      clear fy fa
      go_wp2_with fail
      refine (wakes_any _ (HL.out.fr FW.out)).mono ?_
      rintro e w6 ⟨rfl, fy⟩
      have FW := hide (FW.out.trans fy)
      clear fy
      go_wp2_with fail
      go_ret
      exact ⟨rfl, FW.out⟩
  · obtain rfl : ok = true := by
      cases ok with
      | false => exact absurd (HOK0.out rfl) h0
      | true => rfl
    obtain ⟨E, hE, hE0, hE1⟩ := HEX.out h0
    obtain ⟨R1, L1, SE1, g1, g2, g3, g4, g5, g6, g7, g8, g9, g10, g11⟩ := twice_to (c := c) (E := E) hcA (by omega) hd0 hE
    obtain ⟨R2, L2, SE2, k1, k2, k3, k4, k5, k6, k7, k8, k9, k10, k11⟩ := twice_to (c := c2) (E := E) (by omega) (by omega) hd0 hE
    have XE := hide hE
    have G1 := hide g1
    have K1 := hide k1
    obtain ⟨SD1, hSD1⟩ : ∃ S, bs L1 = S := ⟨_, rfl⟩
    obtain ⟨SD2, hSD2⟩ : ∃ S, bs L2 = S := ⟨_, rfl⟩
    have D1 : Hid (bs (sciD c R1) = SD1) := by rw [g3]; exact hSD1
    have D2 : Hid (bs (sciD c2 R2) = SD2) := by rw [k3]; exact hSD2
    have G4 := hide g4
    have K4 := hide k4
    have z1 : SD1.size = c := by rw [← hSD1, bs_size]; exact g5
    have z2 : SD2.size = c2 := by rw [← hSD2, bs_size]; exact k5
    have e1 : SD1.data.toList = L1 := by rw [← hSD1, bs_data]
    have e2 : SD2.data.toList = L2 := by rw [← hSD2, bs_data]
    -- the quotients that number makes, and how far they are
    obtain ⟨U1, hU1⟩ : ∃ U, 10 ^ (E - c + 1).toNat = U := ⟨_, rfl⟩
    obtain ⟨V1, hV1⟩ : ∃ V, 10 ^ (-(E - c + 1)).toNat = V := ⟨_, rfl⟩
    obtain ⟨U2, hU2⟩ : ∃ U, 10 ^ (E - c2 + 1).toNat = U := ⟨_, rfl⟩
    obtain ⟨V2, hV2⟩ : ∃ V, 10 ^ (-(E - c2 + 1)).toNat = V := ⟨_, rfl⟩
    have nU1 := nl_ten_m (m := 1500) hU1 (by omega) (by omega)
    have nV1 := nl_ten_m (m := 1500) hV1 (by omega) (by omega)
    have nU2 := nl_ten_m (m := 1500) hU2 (by omega) (by omega)
    have nV2 := nl_ten_m (m := 1500) hV2 (by omega) (by omega)
    have hV10 : V1 ≠ 0 := by rw [← hV1]; exact ten_ne _
    have hV20 : V2 ≠ 0 := by rw [← hV2]; exact ten_ne _
    have tw : awayN (n * V2) (R2 * U2 * d) * (d * V1) ≤ awayN (n * V1) (R1 * U1 * d) * (d * V2) := by
      have := twice_le (n := n) (d := d) (C1 := R1) (C2 := R2) (j := E - c + 1) hd0 (by rw [show E - (c : Int) + 1 - 1 = E - c2 + 1 by omega]; exact k2)
      rw [show E - (c : Int) + 1 - 1 = E - c2 + 1 by omega, hU1, hV1, hU2, hV2] at this
      exact this
    obtain ⟨Z, hZ, hZ0⟩ : ∃ Z : Int, cmpZ (awayN (n * V2) (R2 * U2 * d) * (d * V1)) (awayN (n * V1) (R1 * U1 * d) * (d * V2)) = Z ∧ Z ≤ 0 := by
      refine ⟨_, rfl, ?_⟩
      unfold cmpZ
      split
      · omega
      · split <;> omega
    have EZ := hide hZ
    have hZd : decide (Z ≤ 0) = true := decide_eq_true hZ0
    have NUM1 : Hid (∀ wz, Led wz → Calls Tryd.prog 31 #[.agg #[.string SD1, .int .i64 SE1]] wz fun e w' => ∃ v, e = .returned v ∧ IsRat w' v (R1 * U1) V1 ∧ Fr wz w') := by
      intro wz hl
      refine (number9_any SD1 SE1 L1 wz hl e1 g6 (by omega) (by omega) (by omega) _ _ _ rfl rfl rfl).mono ?_
      rintro e w' ⟨v, rfl, h, f⟩
      refine ⟨v, rfl, h.same hV10 ?_, f⟩
      rw [g5, Nat.one_mul, ← hU1, ← hV1]
      exact g11
    have NUM2 : Hid (∀ wz, Led wz → Calls Tryd.prog 31 #[.agg #[.string SD2, .int .i64 SE2]] wz fun e w' => ∃ v, e = .returned v ∧ IsRat w' v (R2 * U2) V2 ∧ Fr wz w') := by
      intro wz hl
      refine (number9_any SD2 SE2 L2 wz hl e2 k6 (by omega) (by omega) (by omega) _ _ _ rfl rfl rfl).mono ?_
      rintro e w' ⟨v, rfl, h, f⟩
      refine ⟨v, rfl, h.same hV20 ?_, f⟩
      rw [k5, Nat.one_mul, ← hU2, ← hV2]
      exact k11
    have hs0 : 0 < SD1.size := by omega
    have hcp : 0 < c := by omega
    have hwc : IntKind.i64.wrap (c2 : Int) = c2 := by simp only [IntKind.wrap_i64]; omega
    obtain ⟨bt, hbt, hbt2⟩ := data_at SD1 0 hs0
    have hne : bt ≠ 48 := by
      rintro rfl
      apply g7
      rw [e1] at hbt2
      rw [List.head?_eq_getElem?]
      exact hbt2
    obtain ⟨b0, hb0⟩ : ∃ b0 : Int, ((SD1[0]'hs0).toNat : Int) = b0 := ⟨_, rfl⟩
    have hb48 : b0 ≠ 48 := by
      rw [← hb0, hbt]
      intro e
      apply hne
      have e2 : bt.toNat = (48 : UInt8).toNat := by have : (48 : UInt8).toNat = 48 := rfl; omega
      exact UInt8.toNat_inj.1 e2
    have hb48' : (b0 != 48) = true := by simpa using hb48
    have hbb : 0 ≤ b0 ∧ b0 ≤ 255 := by rw [← hb0]; exact byte_bd _
    have nRU1 : nlen 4294967296 (R1 * U1) ≤ 1541 := Nat.le_trans (nlen_mul b32 g9 nU1) (by omega)
    have nRU2 : nlen 4294967296 (R2 * U2) ≤ 1541 := Nat.le_trans (nlen_mul b32 k9 nU2) (by omega)
    have nAw : ∀ {p q : Nat}, nlen 4294967296 p ≤ 3000 → nlen 4294967296 q ≤ 3000 → nlen 4294967296 (awayN p q) ≤ 3001 := by
      intro p q h1 h2
      refine Nat.le_trans (nlen_mono b32 (show awayN p q ≤ p + q by rw [away_eq]; omega)) ?_
      exact nl_sum h1 h2
    have nA2 : nlen 4294967296 (awayN (n * V2) (R2 * U2 * d)) ≤ 3001 := nAw (Nat.le_trans (nlen_mul b32 l3 nV2) (by omega)) (Nat.le_trans (nlen_mul b32 nRU2 l4) (by omega))
    have nA1 : nlen 4294967296 (awayN (n * V1) (R1 * U1 * d)) ≤ 3001 := nAw (Nat.le_trans (nlen_mul b32 l3 nV1) (by omega)) (Nat.le_trans (nlen_mul b32 nRU1 l4) (by omega))
    have nDV1 : nlen 4294967296 (d * V1) ≤ 2500 := Nat.le_trans (nlen_mul b32 l4 nV1) (by omega)
    have nDV2 : nlen 4294967296 (d * V2) ≤ 2500 := Nat.le_trans (nlen_mul b32 l4 nV2) (by omega)
    clear g1 g2 g3 g4 g5 g6 g7 g11 k1 k2 k3 k4 k5 k6 k7 k11 hE hSD1 hSD2 e1 e2 hU1 hV1 hU2 hV2 tw hZ hbt hbt2 hne hb48 nAw hZ0
    refine (toR_yes _ n d _ RR.out l3 l4 b1 b2 (HL.out.fr FW.out).1 (HL.out.fr FW.out).2 E XE.out (by omega) (by omega) c hcA (by omega) R1 G1.out SD1 SE1 D1.out G4.out).mono ?_
    rintro e w3 ⟨rfl, fy⟩
    have S5 := hide (S5.out.fr fy)
    have RR := hide (RR.out.fr fy)
    have FW := hide (FW.out.trans fy)
    clear fy q5 q5'
    have q5 := S5.out.1
    have q5' := S5.out.2.1
    go_wp2_with fail
    obtain ⟨W3, hW3⟩ : ∃ W, W = w3.alloc (Obj.cells #[.string SD1, .int .i64 SE1] 43) := ⟨_, rfl⟩
    have fy : Fr w3 W3 := by rw [hW3]; exact Fr.alloc _ _
    have X8 : Hid (Two w3 W3 w3.heap.size (.string SD1) (.int .i64 SE1)) := by rw [hW3]; exact hide (Two.new (Fr.refl _) _ _ _)
    rw [← hW3]
    clear hW3
    have S5 := hide (S5.out.fr fy)
    have RR := hide (RR.out.fr fy)
    have FW := hide (FW.out.trans fy)
    clear fy q5 q5'
    refine (toR_yes _ n d _ RR.out l3 l4 b1 b2 (HL.out.fr FW.out).1 (HL.out.fr FW.out).2 E XE.out (by omega) (by omega) c2 (by omega) (by omega) R2 K1.out SD2 SE2 D2.out K4.out).mono ?_
    rintro e w4 ⟨rfl, fy⟩
    have S5 := hide (S5.out.fr fy)
    have RR := hide (RR.out.fr fy)
    have X8 := hide (X8.out.fr fy)
    have FW := hide (FW.out.trans fy)
    clear fy
    have q5 := S5.out.1
    have q5' := S5.out.2.1
    go_wp2_with fail
    obtain ⟨W4, hW4⟩ : ∃ W, W = (w4.alloc (Obj.cells #[.string SD2, .int .i64 SE2] 43)).alloc (Obj.cells #[.slice none 0 0, .slice none 0 0] 27) := ⟨_, rfl⟩
    have fy : Fr w4 W4 := by rw [hW4]; exact (Fr.alloc _ _).trans (Fr.alloc _ _)
    have X10 : Hid (Two w4 W4 w4.heap.size (.string SD2) (.int .i64 SE2)) := by rw [hW4]; exact hide ((Two.new (Fr.refl _) _ _ _).fr (Fr.alloc _ _))
    rw [← hW4]
    clear hW4
    have S5 := hide (S5.out.fr fy)
    have RR := hide (RR.out.fr fy)
    have X8 := hide (X8.out.fr fy)
    have FW := hide (FW.out.trans fy)
    clear fy q5 q5'
    refine (cmpR_any _ _ n d 0 1 _ (HL.out.fr FW.out).1 RR.out (rat_zero _ (by omega) rfl) (by omega) (by omega) (by rw [nlen_zero]; omega) (by omega) 1 (cmpZ_pos9 (by omega))).mono ?_
    rintro e w5 ⟨rfl, fy⟩
    have S5 := hide (S5.out.fr fy)
    have RR := hide (RR.out.fr fy)
    have X8 := hide (X8.out.fr fy)
    have X10 := hide (X10.out.fr fy)
    have FW := hide (FW.out.trans fy)
    clear fy
    have q5 := S5.out.1
    have q5' := S5.out.2.1
    have x8 := X8.out.1
    have x8' := X8.out.2.1
    have x10 := X10.out.1
    have x10' := X10.out.2.1
    have S5 := hide (S5.out.fr (Fr.drew _))
    have RR := hide (RR.out.fr (Fr.drew _))
    have X8 := hide (X8.out.fr (Fr.drew _))
    have X10 := hide (X10.out.fr (Fr.drew _))
    have FW := hide (FW.out.trans (Fr.drew _))
    go_wp2_with fail
    refine wp_region_held_drew (S := (fun w' => w'.cell? ⟨w2.heap.size, 0, none⟩ = some (.slice r1 r2 r3) ∧ w'.cell? ⟨w2.heap.size, 1, none⟩ = some (.slice r4 r5 r6) ∧ w'.cell? ⟨w3.heap.size, 0, none⟩ = some (.string SD1) ∧ w'.cell? ⟨w3.heap.size, 1, none⟩ = some (.int .i64 SE1) ∧ w'.cell? ⟨w4.heap.size, 0, none⟩ = some (.string SD2) ∧ w'.cell? ⟨w4.heap.size, 1, none⟩ = some (.int .i64 SE2))) (by kernel_rfl) ?_ (fun hHeld => ?_)
    · exact ⟨S5.out.1, S5.out.2.1, X8.out.1, X8.out.2.1, X10.out.1, X10.out.2.1⟩
    obtain ⟨wd, hwd⟩ : ∃ wd, wd = w5.drew := ⟨_, rfl⟩
    rw [← hwd] at hHeld S5 RR X8 X10 FW ⊢
    clear hwd
    refine wpAnyH_ready (rs := [0]) (by kernel_rfl) (by simp) ?_
    refine AllReadyH.cons rfl (fun K hK => ?_) AllReadyH.nil
    go_simp
    refine (wakes_any _ (HL.out.fr FW.out)).mono ?_
    rintro e wn ⟨rfl, fy⟩
    have S5 := hide (S5.out.fr fy)
    have RR := hide (RR.out.fr fy)
    have X8 := hide (X8.out.fr fy)
    have X10 := hide (X10.out.fr fy)
    have FW := hide (FW.out.trans fy)
    clear fy
    (try go_wp2_with fail)
    refine hK.out _ _ ?_ (fun hHeld => ?_)
    · (try dsimp only)
      exact ⟨S5.out.1, S5.out.2.1, X8.out.1, X8.out.2.1, X10.out.1, X10.out.2.1⟩
    clear hK K
    (try simp only [Act.put, List.getElem_toArray, List.getElem_cons_zero, List.getElem_cons_succ, List.setIfInBounds_toArray, List.set_cons_zero, List.set_cons_succ])
    refine wpAnyH_take (i := 1) (v := ?_) rfl (by kernel_rfl) (by kernel_rfl) (by kernel_rfl) (fun _ _ _ h => h) (Or.inl ⟨by rfl, ?_⟩) (by assumption) ?_
    rotate_left
    · (intro w hSw; (try dsimp only at hSw); go_simp; try with_reducible rfl)
    (try simp only [Act.put, List.getElem_toArray, List.getElem_cons_zero, List.getElem_cons_succ, List.setIfInBounds_toArray, List.set_cons_zero, List.set_cons_succ])
    refine wpAnyH_take (i := 2) (v := ?_) rfl (by kernel_rfl) (by kernel_rfl) (by kernel_rfl) (fun _ _ _ h => h) (Or.inl ⟨by rfl, ?_⟩) (by assumption) ?_
    rotate_left
    · (intro w hSw; (try dsimp only at hSw); go_simp; try with_reducible rfl)
    (try simp only [Act.put, List.getElem_toArray, List.getElem_cons_zero, List.getElem_cons_succ, List.setIfInBounds_toArray, List.set_cons_zero, List.set_cons_succ])
    refine wpAnyH_take (i := 3) (v := ?_) rfl (by kernel_rfl) (by kernel_rfl) (by kernel_rfl) (fun _ _ _ h => h) (Or.inl ⟨by rfl, ?_⟩) (by assumption) ?_
    rotate_left
    · (intro w hSw; (try dsimp only at hSw); go_simp; try with_reducible rfl)
    (try simp only [Act.put, List.getElem_toArray, List.getElem_cons_zero, List.getElem_cons_succ, List.setIfInBounds_toArray, List.set_cons_zero, List.set_cons_succ])
    refine wpAnyH_take (i := 4) (v := ?_) rfl (by kernel_rfl) (by kernel_rfl) (by kernel_rfl) (fun _ _ _ h => h) (Or.inl ⟨by rfl, ?_⟩) (by assumption) ?_
    rotate_left
    · (intro w hSw; (try dsimp only at hSw); go_simp; try with_reducible rfl)
    (try simp only [Act.put, List.getElem_toArray, List.getElem_cons_zero, List.getElem_cons_succ, List.setIfInBounds_toArray, List.set_cons_zero, List.set_cons_succ])
    refine wpAnyH_take (i := 5) (v := ?_) rfl (by kernel_rfl) (by kernel_rfl) (by kernel_rfl) (fun _ _ _ h => h) (Or.inl ⟨by rfl, ?_⟩) (by assumption) ?_
    rotate_left
    · (intro w hSw; (try dsimp only at hSw); go_simp; try with_reducible rfl)
    (try simp only [Act.put, List.getElem_toArray, List.getElem_cons_zero, List.getElem_cons_succ, List.setIfInBounds_toArray, List.set_cons_zero, List.set_cons_succ])
    refine wpAnyH_take (i := 6) (v := ?_) rfl (by kernel_rfl) (by kernel_rfl) (by kernel_rfl) (fun _ _ _ h => h) (Or.inl ⟨by rfl, ?_⟩) (by assumption) ?_
    rotate_left
    · (intro w hSw; (try dsimp only at hSw); go_simp; try with_reducible rfl)
    (try simp only [Act.put, List.getElem_toArray, List.getElem_cons_zero, List.getElem_cons_succ, List.setIfInBounds_toArray, List.set_cons_zero, List.set_cons_succ])
    refine wpAnyH_take (i := 7) (v := ?_) rfl (by kernel_rfl) (by kernel_rfl) (by kernel_rfl) (fun _ _ _ h => h) (Or.inl ⟨by rfl, ?_⟩) (by assumption) ?_
    rotate_left
    · (intro w hSw; (try dsimp only at hSw); go_simp; try with_reducible rfl)
    (try simp only [Act.put, List.getElem_toArray, List.getElem_cons_zero, List.getElem_cons_succ, List.setIfInBounds_toArray, List.set_cons_zero, List.set_cons_succ])
    refine wpAnyH_take (i := 8) (v := ?_) rfl (by kernel_rfl) (by kernel_rfl) (by kernel_rfl) (fun _ _ _ h => h) (Or.inl ⟨by rfl, ?_⟩) (by assumption) ?_
    rotate_left
    · (intro w hSw; (try dsimp only at hSw); go_simp; try with_reducible rfl)
    (try simp only [Act.put, List.getElem_toArray, List.getElem_cons_zero, List.getElem_cons_succ, List.setIfInBounds_toArray, List.set_cons_zero, List.set_cons_succ])
    refine wpAnyH_take (i := 9) (v := ?_) rfl (by kernel_rfl) (by kernel_rfl) (by kernel_rfl) (fun _ _ _ h => h) (Or.inl ⟨by rfl, ?_⟩) (by assumption) ?_
    rotate_left
    · (intro w hSw; (try dsimp only at hSw); go_simp; try with_reducible rfl)
    (try simp only [Act.put, List.getElem_toArray, List.getElem_cons_zero, List.getElem_cons_succ, List.setIfInBounds_toArray, List.set_cons_zero, List.set_cons_succ])
    refine wpAnyH_take (i := 10) (v := ?_) rfl (by kernel_rfl) (by kernel_rfl) (by kernel_rfl) (fun _ _ _ h => h) (Or.inl ⟨by rfl, ?_⟩) (by assumption) ?_
    rotate_left
    · (intro w hSw; (try dsimp only at hSw); go_simp; try with_reducible rfl)
    (try simp only [Act.put, List.getElem_toArray, List.getElem_cons_zero, List.getElem_cons_succ, List.setIfInBounds_toArray, List.set_cons_zero, List.set_cons_succ])
    refine wpAnyH_take (i := 11) (v := ?_) rfl (by kernel_rfl) (by kernel_rfl) (by kernel_rfl) (fun _ _ _ h => h) (Or.inl ⟨by rfl, ?_⟩) (by assumption) ?_
    rotate_left
    · (intro w hSw; (try dsimp only at hSw); go_simp; try with_reducible rfl)
    (try simp only [Act.put, List.getElem_toArray, List.getElem_cons_zero, List.getElem_cons_succ, List.setIfInBounds_toArray, List.set_cons_zero, List.set_cons_succ])
    refine wpAnyH_take (i := 12) (v := ?_) rfl (by kernel_rfl) (by kernel_rfl) (by kernel_rfl) (fun _ _ _ h => h) (Or.inl ⟨by rfl, ?_⟩) (by assumption) ?_
    rotate_left
    · (intro w hSw; (try dsimp only at hSw); go_simp; try with_reducible rfl)
    (try simp only [Act.put, List.getElem_toArray, List.getElem_cons_zero, List.getElem_cons_succ, List.setIfInBounds_toArray, List.set_cons_zero, List.set_cons_succ])
    refine wpAnyH_take (i := 13) (v := ?_) rfl (by kernel_rfl) (by kernel_rfl) (by kernel_rfl) (fun _ _ _ h => h) (Or.inl ⟨by rfl, ?_⟩) (by assumption) ?_
    rotate_left
    · (intro w hSw; (try dsimp only at hSw); go_simp; try with_reducible rfl)
    (try simp only [Act.put, List.getElem_toArray, List.getElem_cons_zero, List.getElem_cons_succ, List.setIfInBounds_toArray, List.set_cons_zero, List.set_cons_succ])
    refine wpAnyH_take (i := 14) (v := ?_) rfl (by kernel_rfl) (by kernel_rfl) (by kernel_rfl) (fun _ _ _ h => h) (Or.inl ⟨by rfl, ?_⟩) (by assumption) ?_
    rotate_left
    · (intro w hSw; (try dsimp only at hSw); go_simp; try with_reducible rfl)
    (try simp only [Act.put, List.getElem_toArray, List.getElem_cons_zero, List.getElem_cons_succ, List.setIfInBounds_toArray, List.set_cons_zero, List.set_cons_succ])
    refine wpAnyH_take (i := 15) (v := ?_) rfl (by kernel_rfl) (by kernel_rfl) (by kernel_rfl) (fun _ _ _ h => h) (Or.inl ⟨by rfl, ?_⟩) (by assumption) ?_
    rotate_left
    · (intro w hSw; (try dsimp only at hSw); go_simp; try with_reducible rfl)
    (try simp only [Act.put, List.getElem_toArray, List.getElem_cons_zero, List.getElem_cons_succ, List.setIfInBounds_toArray, List.set_cons_zero, List.set_cons_succ])
    refine wpAnyH_take (i := 16) (v := ?_) rfl (by kernel_rfl) (by kernel_rfl) (by kernel_rfl) (fun _ _ _ h => h) (Or.inl ⟨by rfl, ?_⟩) (by assumption) ?_
    rotate_left
    · (intro w hSw; (try dsimp only at hSw); go_simp; try with_reducible rfl)
    (try simp only [Act.put, List.getElem_toArray, List.getElem_cons_zero, List.getElem_cons_succ, List.setIfInBounds_toArray, List.set_cons_zero, List.set_cons_succ])
    refine wpAnyH_take (i := 17) (v := ?_) rfl (by kernel_rfl) (by kernel_rfl) (by kernel_rfl) (fun _ _ _ h => h) (Or.inl ⟨by rfl, ?_⟩) (by assumption) ?_
    rotate_left
    · (intro w hSw; (try dsimp only at hSw); go_simp; try with_reducible rfl)
    (try simp only [Act.put, List.getElem_toArray, List.getElem_cons_zero, List.getElem_cons_succ, List.setIfInBounds_toArray, List.set_cons_zero, List.set_cons_succ])
    refine wpAnyH_take (i := 18) (v := ?_) rfl (by kernel_rfl) (by kernel_rfl) (by kernel_rfl) (fun _ _ _ h => h) (Or.inl ⟨by rfl, ?_⟩) (by assumption) ?_
    rotate_left
    · (intro w hSw; (try dsimp only at hSw); go_simp; try with_reducible rfl)
    (try simp only [Act.put, List.getElem_toArray, List.getElem_cons_zero, List.getElem_cons_succ, List.setIfInBounds_toArray, List.set_cons_zero, List.set_cons_succ])
    refine wpAnyH_take (i := 19) (v := ?_) rfl (by kernel_rfl) (by kernel_rfl) (by kernel_rfl) (fun _ _ _ h => h) (Or.inl ⟨by rfl, ?_⟩) (by assumption) ?_
    rotate_left
    · (intro w hSw; (try dsimp only at hSw); go_simp; try with_reducible rfl)
    (try simp only [Act.put, List.getElem_toArray, List.getElem_cons_zero, List.getElem_cons_succ, List.setIfInBounds_toArray, List.set_cons_zero, List.set_cons_succ])
    refine wpAnyH_take (i := 20) (v := ?_) rfl (by kernel_rfl) (by kernel_rfl) (by kernel_rfl) (fun _ _ _ h => h) (Or.inl ⟨by rfl, ?_⟩) (by assumption) ?_
    rotate_left
    · (intro w hSw; (try dsimp only at hSw); go_simp; try with_reducible rfl)
    (try simp only [Act.put, List.getElem_toArray, List.getElem_cons_zero, List.getElem_cons_succ, List.setIfInBounds_toArray, List.set_cons_zero, List.set_cons_succ])
    refine wpAnyH_take (i := 21) (v := ?_) rfl (by kernel_rfl) (by kernel_rfl) (by kernel_rfl) (fun _ _ _ h => h) (Or.inl ⟨by rfl, ?_⟩) (by assumption) ?_
    rotate_left
    · (intro w hSw; (try dsimp only at hSw); go_simp; try with_reducible rfl)
    (try simp only [Act.put, List.getElem_toArray, List.getElem_cons_zero, List.getElem_cons_succ, List.setIfInBounds_toArray, List.set_cons_zero, List.set_cons_succ])
    refine wpAnyH_take (i := 22) (v := ?_) rfl (by kernel_rfl) (by kernel_rfl) (by kernel_rfl) (fun _ _ _ h => h) (Or.inl ⟨by rfl, ?_⟩) (by assumption) ?_
    rotate_left
    · (intro w hSw; (try dsimp only at hSw); go_simp; try with_reducible rfl)
    (try simp only [Act.put, List.getElem_toArray, List.getElem_cons_zero, List.getElem_cons_succ, List.setIfInBounds_toArray, List.set_cons_zero, List.set_cons_succ])
    refine wpAnyH_take (i := 23) (v := ?_) rfl (by kernel_rfl) (by kernel_rfl) (by kernel_rfl) (fun _ _ _ h => h) (Or.inl ⟨by rfl, ?_⟩) (by assumption) ?_
    rotate_left
    · (intro w hSw; (try dsimp only at hSw); go_simp; try with_reducible rfl)
    (try simp only [Act.put, List.getElem_toArray, List.getElem_cons_zero, List.getElem_cons_succ, List.setIfInBounds_toArray, List.set_cons_zero, List.set_cons_succ])
    refine wpAnyH_take (i := 24) (v := ?_) rfl (by kernel_rfl) (by kernel_rfl) (by kernel_rfl) (fun _ _ _ h => h) (Or.inl ⟨by rfl, ?_⟩) (by assumption) ?_
    rotate_left
    · (intro w hSw; (try dsimp only at hSw); go_simp; try with_reducible rfl)
    (try simp only [Act.put, List.getElem_toArray, List.getElem_cons_zero, List.getElem_cons_succ, List.setIfInBounds_toArray, List.set_cons_zero, List.set_cons_succ])
    refine wpAnyH_take (i := 25) (v := ?_) rfl (by kernel_rfl) (by kernel_rfl) (by kernel_rfl) (fun _ _ _ h => h) (Or.inl ⟨by rfl, ?_⟩) (by assumption) ?_
    rotate_left
    · (intro w hSw; (try dsimp only at hSw); go_simp; try with_reducible rfl)
    (try simp only [Act.put, List.getElem_toArray, List.getElem_cons_zero, List.getElem_cons_succ, List.setIfInBounds_toArray, List.set_cons_zero, List.set_cons_succ])
    refine wpAnyH_take (i := 26) (v := ?_) rfl (by kernel_rfl) (by kernel_rfl) (by kernel_rfl) (fun _ _ _ h => h) (Or.inl ⟨by rfl, ?_⟩) (by assumption) ?_
    rotate_left
    · (intro w hSw; (try dsimp only at hSw); go_simp; try with_reducible rfl)
    (try simp only [Act.put, List.getElem_toArray, List.getElem_cons_zero, List.getElem_cons_succ, List.setIfInBounds_toArray, List.set_cons_zero, List.set_cons_succ])
    refine wpAnyH_take (i := 27) (v := ?_) rfl (by kernel_rfl) (by kernel_rfl) (by kernel_rfl) (fun _ _ _ h => h) (Or.inl ⟨by rfl, ?_⟩) (by assumption) ?_
    rotate_left
    · (intro w hSw; (try dsimp only at hSw); go_simp; try with_reducible rfl)
    (try simp only [Act.put, List.getElem_toArray, List.getElem_cons_zero, List.getElem_cons_succ, List.setIfInBounds_toArray, List.set_cons_zero, List.set_cons_succ])
    refine wpAnyH_take (i := 28) (v := ?_) rfl (by kernel_rfl) (by kernel_rfl) (by kernel_rfl) (fun _ _ _ h => h) (Or.inl ⟨by rfl, ?_⟩) (by assumption) ?_
    rotate_left
    · (intro w hSw; (try dsimp only at hSw); go_simp; try with_reducible rfl)
    (try simp only [Act.put, List.getElem_toArray, List.getElem_cons_zero, List.getElem_cons_succ, List.setIfInBounds_toArray, List.set_cons_zero, List.set_cons_succ])
    refine wpAnyH_take (i := 29) (v := ?_) rfl (by kernel_rfl) (by kernel_rfl) (by kernel_rfl) (fun _ _ _ h => h) (Or.inl ⟨by rfl, ?_⟩) (by assumption) ?_
    rotate_left
    · (intro w hSw; (try dsimp only at hSw); go_simp; try with_reducible rfl)
    (try simp only [Act.put, List.getElem_toArray, List.getElem_cons_zero, List.getElem_cons_succ, List.setIfInBounds_toArray, List.set_cons_zero, List.set_cons_succ])
    refine wpAnyH_take (i := 30) (v := ?_) rfl (by kernel_rfl) (by kernel_rfl) (by kernel_rfl) (fun _ _ _ h => h) (Or.inl ⟨by rfl, ?_⟩) (by assumption) ?_
    rotate_left
    · (intro w hSw; (try dsimp only at hSw); go_simp; try with_reducible rfl)
    (try simp only [Act.put, List.getElem_toArray, List.getElem_cons_zero, List.getElem_cons_succ, List.setIfInBounds_toArray, List.set_cons_zero, List.set_cons_succ])
    refine wpAnyH_take (i := 31) (v := ?_) rfl (by kernel_rfl) (by kernel_rfl) (by kernel_rfl) (fun _ _ _ h => h) (Or.inl ⟨by rfl, ?_⟩) (by assumption) ?_
    rotate_left
    · (intro w hSw; (try dsimp only at hSw); go_simp; try with_reducible rfl)
    (try simp only [Act.put, List.getElem_toArray, List.getElem_cons_zero, List.getElem_cons_succ, List.setIfInBounds_toArray, List.set_cons_zero, List.set_cons_succ])
    refine wpAnyH_take (i := 34) (v := ?_) rfl (by kernel_rfl) (by kernel_rfl) (by kernel_rfl) (fun _ _ _ h => h) (Or.inl ⟨by rfl, ?_⟩) (by assumption) ?_
    rotate_left
    · (intro w hSw; (try dsimp only at hSw); go_simp; try with_reducible rfl)
    (try simp only [Act.put, List.getElem_toArray, List.getElem_cons_zero, List.getElem_cons_succ, List.setIfInBounds_toArray, List.set_cons_zero, List.set_cons_succ])
    refine wpAnyH_take (i := 35) (v := ?_) rfl (by kernel_rfl) (by kernel_rfl) (by kernel_rfl) (fun _ _ _ h => h) (Or.inl ⟨by rfl, ?_⟩) (by assumption) ?_
    rotate_left
    · (intro w hSw; (try dsimp only at hSw); go_simp; try with_reducible rfl)
    (try simp only [Act.put, List.getElem_toArray, List.getElem_cons_zero, List.getElem_cons_succ, List.setIfInBounds_toArray, List.set_cons_zero, List.set_cons_succ])
    refine wpAnyH_take (i := 36) (v := ?_) rfl (by kernel_rfl) (by kernel_rfl) (by kernel_rfl) (fun _ _ _ h => h) (Or.inl ⟨by rfl, ?_⟩) (by assumption) ?_
    rotate_left
    · (intro w hSw; (try dsimp only at hSw); go_simp; try with_reducible rfl)
    (try simp only [Act.put, List.getElem_toArray, List.getElem_cons_zero, List.getElem_cons_succ, List.setIfInBounds_toArray, List.set_cons_zero, List.set_cons_succ])
    refine wpAnyH_ready (rs := [32]) (by kernel_rfl) (by simp) ?_
    refine AllReadyH.cons rfl (fun K hK => ?_) AllReadyH.nil
    go_simp
    refine (NUM2.out _ (HL.out.fr FW.out)).mono ?_
    rintro e wn ⟨v, rfl, ir, fy⟩
    have RN := hide ir
    have S5 := hide (S5.out.fr fy)
    have RR := hide (RR.out.fr fy)
    have X8 := hide (X8.out.fr fy)
    have X10 := hide (X10.out.fr fy)
    have FW := hide (FW.out.trans fy)
    obtain ⟨g1, g2, g3, g4, g5, g6, rfl⟩ := ir.form
    clear ir fy
    (try go_wp2_with fail)
    refine hK.out _ _ ?_ (fun hHeld => ?_)
    · (try dsimp only)
      exact ⟨S5.out.1, S5.out.2.1, X8.out.1, X8.out.2.1, X10.out.1, X10.out.2.1⟩
    clear hK K
    (try simp only [Act.put, List.getElem_toArray, List.getElem_cons_zero, List.getElem_cons_succ, List.setIfInBounds_toArray, List.set_cons_zero, List.set_cons_succ])
    refine wpAnyH_ready (rs := [33]) (by kernel_rfl) (by simp) ?_
    refine AllReadyH.cons rfl (fun K hK => ?_) AllReadyH.nil
    go_simp
    refine (awayR_any _ _ n d (R2 * U2) V2 _ (HL.out.fr FW.out).1 RR.out RN.out (by omega) (by omega) (by omega) (by omega)).mono ?_
    rintro e wn ⟨v, rfl, ir, fy⟩
    have RA2 := hide ir
    have S5 := hide (S5.out.fr fy)
    have RR := hide (RR.out.fr fy)
    have X8 := hide (X8.out.fr fy)
    have X10 := hide (X10.out.fr fy)
    have FW := hide (FW.out.trans fy)
    obtain ⟨h1, h2, h3, h4, h5, h6, rfl⟩ := ir.form
    clear ir fy RN
    (try go_wp2_with fail)
    refine hK.out _ _ ?_ (fun hHeld => ?_)
    · (try dsimp only)
      exact ⟨S5.out.1, S5.out.2.1, X8.out.1, X8.out.2.1, X10.out.1, X10.out.2.1⟩
    clear hK K
    (try simp only [Act.put, List.getElem_toArray, List.getElem_cons_zero, List.getElem_cons_succ, List.setIfInBounds_toArray, List.set_cons_zero, List.set_cons_succ])
    refine wpAnyH_ready (rs := [37]) (by kernel_rfl) (by simp) ?_
    refine AllReadyH.cons rfl (fun K hK => ?_) AllReadyH.nil
    go_simp
    refine (NUM1.out _ (HL.out.fr FW.out)).mono ?_
    rintro e wn ⟨v, rfl, ir, fy⟩
    have RN := hide ir
    have S5 := hide (S5.out.fr fy)
    have RR := hide (RR.out.fr fy)
    have X8 := hide (X8.out.fr fy)
    have X10 := hide (X10.out.fr fy)
    have RA2 := hide (RA2.out.fr fy)
    have FW := hide (FW.out.trans fy)
    obtain ⟨m1, m2, m3, m4, m5, m6, rfl⟩ := ir.form
    clear ir fy
    (try go_wp2_with fail)
    refine hK.out _ _ ?_ (fun hHeld => ?_)
    · (try dsimp only)
      exact ⟨S5.out.1, S5.out.2.1, X8.out.1, X8.out.2.1, X10.out.1, X10.out.2.1⟩
    clear hK K
    (try simp only [Act.put, List.getElem_toArray, List.getElem_cons_zero, List.getElem_cons_succ, List.setIfInBounds_toArray, List.set_cons_zero, List.set_cons_succ])
    refine wpAnyH_ready (rs := [38]) (by kernel_rfl) (by simp) ?_
    refine AllReadyH.cons rfl (fun K hK => ?_) AllReadyH.nil
    go_simp
    refine (awayR_any _ _ n d (R1 * U1) V1 _ (HL.out.fr FW.out).1 RR.out RN.out (by omega) (by omega) (by omega) (by omega)).mono ?_
    rintro e wn ⟨v, rfl, ir, fy⟩
    have RA1 := hide ir
    have S5 := hide (S5.out.fr fy)
    have RR := hide (RR.out.fr fy)
    have X8 := hide (X8.out.fr fy)
    have X10 := hide (X10.out.fr fy)
    have RA2 := hide (RA2.out.fr fy)
    have FW := hide (FW.out.trans fy)
    obtain ⟨o1, o2, o3, o4, o5, o6, rfl⟩ := ir.form
    clear ir fy RN
    (try go_wp2_with fail)
    refine hK.out _ _ ?_ (fun hHeld => ?_)
    · (try dsimp only)
      exact ⟨S5.out.1, S5.out.2.1, X8.out.1, X8.out.2.1, X10.out.1, X10.out.2.1⟩
    clear hK K
    (try simp only [Act.put, List.getElem_toArray, List.getElem_cons_zero, List.getElem_cons_succ, List.setIfInBounds_toArray, List.set_cons_zero, List.set_cons_succ])
    refine wpAnyH_ready (rs := [39]) (by kernel_rfl) (by simp) ?_
    refine AllReadyH.cons rfl (fun K hK => ?_) AllReadyH.nil
    go_simp
    refine (cmpR_any _ _ (awayN (n * V2) (R2 * U2 * d)) (d * V2) (awayN (n * V1) (R1 * U1 * d)) (d * V1) _ (HL.out.fr FW.out).1 RA2.out RA1.out (by omega) (by omega) (by omega) (by omega) Z EZ.out).mono ?_
    rintro e wn ⟨rfl, fy⟩
    have S5 := hide (S5.out.fr fy)
    have RR := hide (RR.out.fr fy)
    have X8 := hide (X8.out.fr fy)
    have X10 := hide (X10.out.fr fy)
    have FW := hide (FW.out.trans fy)
    clear fy
    (try go_wp2_with fail)
    refine hK.out _ _ ?_ (fun hHeld => ?_)
    · (try dsimp only)
      exact ⟨S5.out.1, S5.out.2.1, X8.out.1, X8.out.2.1, X10.out.1, X10.out.2.1⟩
    clear hK K
    (try simp only [Act.put, List.getElem_toArray, List.getElem_cons_zero, List.getElem_cons_succ, List.setIfInBounds_toArray, List.set_cons_zero, List.set_cons_succ])
    refine wpAnyH_take (i := 40) (v := ?_) rfl (by kernel_rfl) (by kernel_rfl) (by kernel_rfl) (fun _ _ _ h => h) (Or.inl ⟨by rfl, ?_⟩) (by assumption) ?_
    rotate_left
    · (intro w hSw; (try dsimp only at hSw); go_simp; try with_reducible rfl)
    (try simp only [Act.put, List.getElem_toArray, List.getElem_cons_zero, List.getElem_cons_succ, List.setIfInBounds_toArray, List.set_cons_zero, List.set_cons_succ])
    refine wpAnyH_take (i := 41) (v := ?_) rfl (by kernel_rfl) (by kernel_rfl) (by kernel_rfl) (fun _ _ _ h => h) (Or.inl ⟨by rfl, ?_⟩) (by assumption) ?_
    rotate_left
    · (intro w hSw; (try dsimp only at hSw); go_simp; try with_reducible rfl)
    (try simp only [Act.put, List.getElem_toArray, List.getElem_cons_zero, List.getElem_cons_succ, List.setIfInBounds_toArray, List.set_cons_zero, List.set_cons_succ])
    refine wpAnyH_take (i := 42) (v := ?_) rfl (by kernel_rfl) (by kernel_rfl) (by kernel_rfl) (fun _ _ _ h => h) (Or.inl ⟨by rfl, ?_⟩) (by assumption) ?_
    rotate_left
    · (intro w hSw; (try dsimp only at hSw); go_simp; try with_reducible rfl)
    (try simp only [Act.put, List.getElem_toArray, List.getElem_cons_zero, List.getElem_cons_succ, List.setIfInBounds_toArray, List.set_cons_zero, List.set_cons_succ])
    refine wpAnyH_done (by kernel_rfl) ?_ _
    go_wp2_with fail
    go_ret
    exact ⟨rfl, FW.out⟩
end Go.Proofs.YthdgdomgcogpjaaDoor
