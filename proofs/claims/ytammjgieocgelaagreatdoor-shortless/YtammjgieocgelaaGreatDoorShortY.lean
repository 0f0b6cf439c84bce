/- The law ShortLess. -/
import Derived.Test.YtammjgieocgelaaGreatDoorShortD
namespace Go.Proofs.YtammjgieocgelaaGreatDoor
set_option linter.unusedVariables false
set_option linter.unusedSimpArgs false
open Go.RowKit
open Go.Lib (decDigits trimRightB)

attribute [local go_sem] World.cell?_alloc_some
set_option maxHeartbeats 2000000 in
set_option maxRecDepth 4000 in
theorem law_ShortLess (b : Int) (w : World) (hbw : (Lit.int .u64 b).wf = true) (hL : Led w) :
    Calls Tryz.prog 7 #[.int .u64 b] w fun e w' => e = .returned (.bool true) ∧ Fr w w' := by
  obtain ⟨b, rfl, hb⟩ := u64_nat hbw
  have HL := hide hL
  clear hL hbw
  obtain ⟨m, hm⟩ : ∃ m, bM b = m := ⟨_, rfl⟩
  obtain ⟨x, hx⟩ : ∃ x, bX b = x := ⟨_, rfl⟩
  have hm64 : m < 18446744073709551616 := by rw [← hm]; have := bM_lt b; omega
  have x0 : -1074 ≤ x := by rw [← hx]; exact (bX_low b).1
  have x1 : x ≤ 971 := by rw [← hx]; exact (bX_low b).2
  obtain ⟨g, hg⟩ : ∃ g, bN b = g := ⟨_, rfl⟩
  obtain ⟨q, hqq⟩ : ∃ q, bC b = q := ⟨_, rfl⟩
  have eb : bval b = .agg #[.int .i64 (q : Int), .bool g, .int .u64 (m : Int), .int .i64 x] := by unfold bval; rw [hm, hx, hg, hqq]
  have BO : Hid (∀ wz, Calls Tryz.prog 23 #[.int .u64 (b : Int)] wz fun e w' => e = .returned (.agg #[.int .i64 (q : Int), .bool g, .int .u64 (m : Int), .int .i64 x]) ∧ Fr wz w') := by
    intro wz
    have := of_any7 b wz hb
    rwa [eb] at this
  have VA : Hid (∀ wz, Tab wz → ∃ ok : Bool, (q = 1 → ok = true) ∧ Calls Tryz.prog 22 #[.agg #[.int .i64 (q : Int), .bool g, .int .u64 (m : Int), .int .i64 x]] wz fun e w' => ∃ u1 u2 u3 u4 u5 u6, e = .returned (.tuple #[.agg #[.slice u1 u2 u3, .slice u4 u5 u6], .bool ok]) ∧ (q = 1 → IsRat w' (.agg #[.slice u1 u2 u3, .slice u4 u5 u6]) (vNum b) (vDen b)) ∧ Fr wz w') := by
    intro wz hT
    by_cases h2 : q ≤ 1
    · have OK := ok_of hb (by omega)
      rw [hm, hx, hg, hqq] at OK
      refine ⟨true, fun _ => rfl, ?_⟩
      refine (valueR_yes (q : Int) g m x wz hm64 (by omega) (by omega) hT (by omega) OK).mono ?_
      rintro e w' ⟨v, rfl, i, f⟩
      have i' := i
      obtain ⟨u1, u2, u3, u4, u5, u6, rfl⟩ := i.form
      refine ⟨u1, u2, u3, u4, u5, u6, rfl, fun _ => ?_, f⟩
      unfold vNum vDen
      rw [hm, hx]
      exact i'
    · refine ⟨false, fun h => by omega, ?_⟩
      refine (valueR_other (q : Int) g m x wz hm64 (by omega) (by omega) (by omega) (by omega)).mono ?_
      rintro e w' ⟨rfl, f⟩
      exact ⟨none, 0, 0, none, 0, 0, rfl, fun h => by omega, f⟩
  clear hm hx hg eb
  by_cases hc : bC b = 1
  · have hand : bits .and .u64 (b : Int) 9223372036854775807 = ((b % 9223372036854775808 : Nat) : Int) := and_rest b hb
    have hq1 : q = 1 := by rw [← hqq]; exact hc
    subst hq1
    clear hqq
    obtain ⟨c, c1, c2, hno, hyes⟩ := least_ex (told b)
    obtain ⟨SD, hSD⟩ : ∃ SD, bs (sD b c) = SD := ⟨_, rfl⟩
    obtain ⟨SE, hSE⟩ : ∃ SE, sE b c = SE := ⟨_, rfl⟩
    obtain ⟨a1, a2, a3, a4, _⟩ := s_facts hb hc c1
    obtain ⟨_, e0, e1⟩ := vE_facts hb hc
    have htold : told b c = true := by
      rcases Nat.lt_or_ge c 17 with h | h
      · exact hyes h
      · rw [show c = 17 by omega]; exact told_at17 hb hc
    have DY : Hid (∀ wz, Led wz → Calls Tryz.prog 9 #[.int .u64 (b : Int)] wz fun e w' => e = .returned (.tuple #[.agg #[.string SD, .int .i64 SE], .bool true]) ∧ Fr wz w') := fun wz h => digits_yes b c wz hb h hc c1 c2 hno hyes SD SE hSD hSE
    have hsz : SD.size = c := by rw [← hSD, bs_size, a1]
    have hdl : SD.data.toList = sD b c := by rw [← hSD, bs_data]
    by_cases hlen : c < 2
    · have hl2 : (SD.size : Int) < 2 := by omega
      clear hno hyes hSD hSE a1 a2 a3 a4 e0 e1 htold hsz hdl c1 c2 hc hand
      go_enter Tryz.func7, Tryz.ntmps7
      go_wp2_with fail
      refine (DY.out _ HL.out).mono ?_
      rintro e w1 ⟨rfl, f1⟩
      have FW := hide f1
      clear f1 DY
      go_wp2_with fail
      obtain ⟨W1, hW1⟩ : ∃ W, W = w1.alloc (Obj.cells #[.string SD, .int .i64 SE] 27) := ⟨_, rfl⟩
      have fy : Fr w1 W1 := by rw [hW1]; exact Fr.alloc _ _
      have X1 : Hid (W1.cell? ⟨w1.heap.size, 0, none⟩ = some (.string SD) ∧ W1.cell? ⟨w1.heap.size, 1, none⟩ = some (.int .i64 SE)) := by rw [hW1]; exact hide ⟨by simp [go_sem], by simp [go_sem]⟩
      rw [← hW1]
      clear hW1
      have FW := hide (FW.out.trans fy)
      clear fy
      refine (BO.out _).mono ?_
      rintro e w2 ⟨rfl, fy⟩
      have X1 := hide (And.intro (fr_cell fy X1.out.1) (fr_cell fy X1.out.2))
      have FW := hide (FW.out.trans fy)
      clear fy
      clear BO
      go_wp2_with fail
      obtain ⟨ok, _, VB⟩ := VA.out w2 (HL.out.fr FW.out).1
      refine VB.mono ?_
      rintro e w3 ⟨u1, u2, u3, u4, u5, u6, rfl, -, fy⟩
      have X1 := hide (And.intro (fr_cell fy X1.out.1) (fr_cell fy X1.out.2))
      have FW := hide (FW.out.trans fy)
      clear fy
      clear VA VB
      have fy := Fr.alloc w3 (Obj.cells #[Value.slice u1 u2 u3, Value.slice u4 u5 u6] 55)
      have X1 := hide (And.intro (fr_cell fy X1.out.1) (fr_cell fy X1.out.2))
      have FW := hide (FW.out.trans fy)
      clear fy
      have x1 := X1.out.1
      have x1' := X1.out.2
      go_wp2_with fail
      refine (wakes_any _ (HL.out.fr FW.out)).mono ?_
      rintro e w9 ⟨rfl, fy⟩
      have FW := hide (FW.out.trans fy)
      clear fy
      go_wp2_with fail
      go_ret
      exact ⟨rfl, FW.out⟩
    · obtain ⟨k, rfl⟩ : ∃ k, c = k + 1 := ⟨c - 1, by omega⟩
      have k1 : 1 ≤ k := by omega
      have htk : told b k = false := hno k k1 (by omega)
      obtain ⟨g1, g2, g3, g4, _⟩ := s_facts hb hc k1
      obtain ⟨h1, h2, h3, h4, h5, _⟩ := v_facts b
      obtain ⟨hE, _, _⟩ := vE_facts hb hc
      obtain ⟨S0, hS0⟩ : ∃ S0, bs (sD b k) = S0 := ⟨_, rfl⟩
      obtain ⟨E0, hE0⟩ : ∃ E0, sE b k = E0 := ⟨_, rfl⟩
      have TO : Hid (∀ (wz : World) (v : Value), Led wz → IsRat wz v (vNum b) (vDen b) → Calls Tryz.prog 24 #[v, .int .i64 (k : Int)] wz fun e w' => e = .returned (.tuple #[.agg #[.string S0, .int .i64 E0], .bool true]) ∧ Fr wz w') := by
        intro wz v hL h
        exact toR_yes v (vNum b) (vDen b) wz h h4 h5 (by omega) (by omega) hL.1 hL.2 (vE b) hE (by omega) (by omega) k k1 (by omega) (sR b k) (s_rnd k1) S0 E0 hS0 hE0
      obtain ⟨N, hN⟩ : ∃ N, backN (sD b k) (sE b k) = N := ⟨_, rfl⟩
      have BK : Hid (∀ wz, Calls Tryz.prog 17 #[.agg #[.string S0, .int .i64 E0]] wz fun r w' => r = .returned (.tuple #[.int .u64 (N : Int), .bool true]) ∧ Fr wz w') := by
        intro wz
        have hs0 : S0.data.toList = sD b k := by rw [← hS0, bs_data]
        refine back_yes S0 E0 N wz ?_ ?_
        · rw [hs0, ← hE0]; exact ⟨by omega, by omega, g2, g3, by omega, by omega⟩
        · rw [hs0, ← hE0, hN]
      have hNB : N ≠ b % 9223372036854775808 := by
        rw [told_dec, hN] at htk
        exact of_decide_eq_false htk
      obtain ⟨B, hB⟩ : ∃ B, b % 9223372036854775808 = B := ⟨_, rfl⟩
      rw [hB] at hand hNB
      have hNB2 : ((N : Int) != (B : Int)) = true := by simp only [bne_iff_ne, ne_eq]; omega
      have hNB3 : ¬ (N : Int) = (B : Int) := by omega
      have hk : (SD.size : Int) - 1 = k := by omega
      have hlt : k < SD.size := by omega
      obtain ⟨d, hd0, hd⟩ := data_at SD k hlt
      obtain ⟨z, hz⟩ : ∃ z : Int, (d.toNat : Int) = z := ⟨_, rfl⟩
      have hcz : ((SD[k]'hlt).toNat : Int) = z := by rw [hd0, hz]
      have hz48 : z ≠ 48 := by
        intro e
        have e48 : d = 48 := UInt8.toNat_inj.1 (by show d.toNat = 48; omega)
        rw [e48, hdl] at hd
        have hsn := take_snoc hd
        rw [List.take_of_length_le (by omega)] at hsn
        rw [told_shorter hb hc k1 htold _ hsn] at htk
        cases htk
      have hzb := byte_bd d
      rw [hz] at hzb
      have hz2 : (z != 48) = true := by simpa using hz48
      have s1 : ¬ (SD.size : Int) < 2 := by omega
      have s2 : (SD.size : Int) ≤ 17 := by omega
      have hks : (k : Int) < SD.size := by omega
      have hkt : (k : Int).toNat = k := by omega
      clear hno hyes hSD hSE a1 a2 a3 a4 e0 e1 htold hsz hdl c1 c2 hc hB hd0 hd hz htk g1 g2 g3 g4 h1 h2 h3 h4 h5 hE hS0 hE0 hN hlen hNB
      go_enter Tryz.func7, Tryz.ntmps7
      go_wp2_with fail
      refine (DY.out _ HL.out).mono ?_
      rintro e w1 ⟨rfl, f1⟩
      have FW := hide f1
      clear f1 DY
      go_wp2_with fail
      obtain ⟨W1, hW1⟩ : ∃ W, W = w1.alloc (Obj.cells #[.string SD, .int .i64 SE] 27) := ⟨_, rfl⟩
      have fy : Fr w1 W1 := by rw [hW1]; exact Fr.alloc _ _
      have X1 : Hid (W1.cell? ⟨w1.heap.size, 0, none⟩ = some (.string SD) ∧ W1.cell? ⟨w1.heap.size, 1, none⟩ = some (.int .i64 SE)) := by rw [hW1]; exact hide ⟨by simp [go_sem], by simp [go_sem]⟩
      rw [← hW1]
      clear hW1
      have FW := hide (FW.out.trans fy)
      clear fy
      refine (BO.out _).mono ?_
      rintro e w2 ⟨rfl, fy⟩
      have X1 := hide (And.intro (fr_cell fy X1.out.1) (fr_cell fy X1.out.2))
      have FW := hide (FW.out.trans fy)
      clear fy
      clear BO
      go_wp2_with fail
      obtain ⟨ok, hok, VB⟩ := VA.out w2 (HL.out.fr FW.out).1
      obtain rfl := hok (by first | rfl | trivial)
      refine VB.mono ?_
      rintro e w3 ⟨u1, u2, u3, u4, u5, u6, rfl, ir, fy⟩
      have RV := hide (ir (by first | rfl | trivial))
      have X1 := hide (And.intro (fr_cell fy X1.out.1) (fr_cell fy X1.out.2))
      have FW := hide (FW.out.trans fy)
      clear fy
      clear VA VB ir hok
      have l1 := cell_lt X1.out.1
      simp only [] at l1
      have fz := Fr.alloc w3 (Obj.cells #[Value.slice u1 u2 u3, Value.slice u4 u5 u6] 55)
      have x1 := fr_cell fz X1.out.1
      have x1' := fr_cell fz X1.out.2
      clear fz
      go_wp2_with fail
      obtain ⟨W3, hW3⟩ : ∃ W, W = (w3.alloc (Obj.cells #[Value.slice u1 u2 u3, Value.slice u4 u5 u6] 55)) := ⟨_, rfl⟩
      have fy : Fr w3 W3 := by rw [hW3]; exact (Fr.alloc w3 (Obj.cells #[Value.slice u1 u2 u3, Value.slice u4 u5 u6] 55))
      have s4 : Slot2 w3 W3 (w3.heap.size) (.slice u1 u2 u3) (.slice u4 u5 u6) := by
        rw [hW3]; simpa using Slot2.new (Fr.refl w3) u1 u2 u3 u4 u5 u6 55
      rw [← hW3]
      clear hW3
      have S4 := hide s4
      have X1 := hide (And.intro (fr_cell fy X1.out.1) (fr_cell fy X1.out.2))
      have RV := hide (RV.out.fr fy)
      have FW := hide (FW.out.trans fy)
      clear fy
      clear s4 x1 x1'
      refine (TO.out _ _ (HL.out.fr FW.out) RV.out).mono ?_
      rintro e w4 ⟨rfl, fy⟩
      have X1 := hide (And.intro (fr_cell fy X1.out.1) (fr_cell fy X1.out.2))
      have FW := hide (FW.out.trans fy)
      clear fy
      clear TO S4 RV
      go_wp2_with fail
      obtain ⟨W4, hW4⟩ : ∃ W, W = w4.alloc (Obj.cells #[.string S0, .int .i64 E0] 27) := ⟨_, rfl⟩
      have fy : Fr w4 W4 := by rw [hW4]; exact Fr.alloc _ _
      have X2 : Hid (W4.cell? ⟨w4.heap.size, 0, none⟩ = some (.string S0) ∧ W4.cell? ⟨w4.heap.size, 1, none⟩ = some (.int .i64 E0)) := by rw [hW4]; exact hide ⟨by simp [go_sem], by simp [go_sem]⟩
      rw [← hW4]
      clear hW4
      have X1 := hide (And.intro (fr_cell fy X1.out.1) (fr_cell fy X1.out.2))
      have FW := hide (FW.out.trans fy)
      clear fy
      refine (BK.out _).mono ?_
      rintro e w5 ⟨rfl, fy⟩
      have X1 := hide (And.intro (fr_cell fy X1.out.1) (fr_cell fy X1.out.2))
      have X2 := hide (And.intro (fr_cell fy X2.out.1) (fr_cell fy X2.out.2))
      have FW := hide (FW.out.trans fy)
      clear fy
      clear BK
      go_wp2_with fail
      refine (wakes_any _ (HL.out.fr FW.out)).mono ?_
      rintro e w9 ⟨rfl, fy⟩
      have X1 := hide (And.intro (fr_cell fy X1.out.1) (fr_cell fy X1.out.2))
      have X2 := hide (And.intro (fr_cell fy X2.out.1) (fr_cell fy X2.out.2))
      have FW := hide (FW.out.trans fy)
      clear fy
      have x1 := X1.out.1
      have x1' := X1.out.2
      go_wp2_with fail
      go_ret
      exact ⟨rfl, FW.out⟩
  · have DN := hide (fun wz => digits_no b wz hb hc)
    clear hc hqq
    go_enter Tryz.func7, Tryz.ntmps7
    go_wp2_with fail
    refine (DN.out _).mono ?_
    rintro e w1 ⟨rfl, f1⟩
    have FW := hide f1
    clear f1 DN
    go_wp2_with fail
    obtain ⟨W1, hW1⟩ : ∃ W, W = w1.alloc (Obj.cells #[.string ⟨#[]⟩, .int .i64 0] 27) := ⟨_, rfl⟩
    have fy : Fr w1 W1 := by rw [hW1]; exact Fr.alloc _ _
    have X1 : Hid (W1.cell? ⟨w1.heap.size, 0, none⟩ = some (.string ⟨#[]⟩) ∧ W1.cell? ⟨w1.heap.size, 1, none⟩ = some (.int .i64 0)) := by rw [hW1]; exact hide ⟨by simp [go_sem], by simp [go_sem]⟩
    rw [← hW1]
    clear hW1
    have FW := hide (FW.out.trans fy)
    clear fy
    refine (BO.out _).mono ?_
    rintro e w2 ⟨rfl, fy⟩
    have X1 := hide (And.intro (fr_cell fy X1.out.1) (fr_cell fy X1.out.2))
    have FW := hide (FW.out.trans fy)
    clear fy
    clear BO
    go_wp2_with fail
    obtain ⟨ok, _, VB⟩ := VA.out w2 (HL.out.fr FW.out).1
    refine VB.mono ?_
    rintro e w3 ⟨u1, u2, u3, u4, u5, u6, rfl, -, fy⟩
    have X1 := hide (And.intro (fr_cell fy X1.out.1) (fr_cell fy X1.out.2))
    have FW := hide (FW.out.trans fy)
    clear fy
    clear VA VB
    have fy := Fr.alloc w3 (Obj.cells #[Value.slice u1 u2 u3, Value.slice u4 u5 u6] 55)
    have X1 := hide (And.intro (fr_cell fy X1.out.1) (fr_cell fy X1.out.2))
    have FW := hide (FW.out.trans fy)
    clear fy
    have x1 := X1.out.1
    have x1' := X1.out.2
    go_wp2_with fail
    refine (wakes_any _ (HL.out.fr FW.out)).mono ?_
    rintro e w9 ⟨rfl, fy⟩
    have FW := hide (FW.out.trans fy)
    clear fy
    go_wp2_with fail
    go_ret
    exact ⟨rfl, FW.out⟩
end Go.Proofs.YtammjgieocgelaaGreatDoor
