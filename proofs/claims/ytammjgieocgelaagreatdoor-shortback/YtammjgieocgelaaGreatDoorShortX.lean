/- The law ShortBack. -/
import Derived.Test.YtammjgieocgelaaGreatDoorShortD
namespace Go.Proofs.YtammjgieocgelaaGreatDoor
set_option linter.unusedVariables false
set_option linter.unusedSimpArgs false
open Go.RowKit
open Go.Lib (decDigits trimRightB)

attribute [local go_sem] World.cell?_alloc_some
set_option maxHeartbeats 2000000 in
set_option maxRecDepth 4000 in
theorem law_ShortBack (b : Int) (w : World) (hbw : (Lit.int .u64 b).wf = true) (hL : Led w) :
    Calls Tryz.prog 5 #[.int .u64 b] w fun e w' => e = .returned (.bool true) ∧ Fr w w' := by
  obtain ⟨b, rfl, hb⟩ := u64_nat hbw
  have HL := hide hL
  clear hL hbw
  by_cases hc : bC b = 1
  · have hand : bits .and .u64 (b : Int) 9223372036854775807 = ((b % 9223372036854775808 : Nat) : Int) := and_rest b hb
    obtain ⟨c, c1, c2, hno, hyes⟩ := least_ex (told b)
    obtain ⟨SD, hSD⟩ : ∃ SD, bs (sD b c) = SD := ⟨_, rfl⟩
    obtain ⟨SE, hSE⟩ : ∃ SE, sE b c = SE := ⟨_, rfl⟩
    obtain ⟨a1, a2, a3, a4, _⟩ := s_facts hb hc c1
    obtain ⟨_, e0, e1⟩ := vE_facts hb hc
    have htold : told b c = true := by
      rcases Nat.lt_or_ge c 17 with h | h
      · exact hyes h
      · rw [show c = 17 by omega]; exact told_at17 hb hc
    have DY : Hid (∀ wz, Led wz → Calls Tryz.prog 9 #[.int .u64 (b : Int)] wz fun e w' => e = .returned (.tuple #[.agg #[.string SD, .int .i64 SE], .bool true]) ∧ Fr wz w') := fun wz h => digits_yes b c wz hb h hc c1 c2 hno hyes SD SE hSD hSE
    have hsz : SD.size = c := by rw [← hSD, bs_size, a1]
    have hdl : SD.data.toList = sD b c := by rw [← hSD, bs_data]
    have hb1 : backN (sD b c) (sE b c) = b % 9223372036854775808 := by
      rw [told_dec] at htold
      exact of_decide_eq_true htold
    obtain ⟨B, hB⟩ : ∃ B, b % 9223372036854775808 = B := ⟨_, rfl⟩
    rw [hB] at hand hb1
    have BK : Hid (∀ wz, Calls Tryz.prog 17 #[.agg #[.string SD, .int .i64 SE]] wz fun r w' => r = .returned (.tuple #[.int .u64 (B : Int), .bool true]) ∧ Fr wz w') := by
      intro wz
      refine back_yes SD SE B wz ?_ ?_
      · rw [hdl, ← hSE]; exact ⟨by omega, by omega, a2, a3, by omega, by omega⟩
      · rw [hdl, ← hSE, hb1]
    have hp : 0 < SD.size := by omega
    obtain ⟨d, hd0, hd⟩ := data_at SD 0 hp
    obtain ⟨z, hz⟩ : ∃ z : Int, (d.toNat : Int) = z := ⟨_, rfl⟩
    have hcz : ((SD[0]'hp).toNat : Int) = z := by rw [hd0, hz]
    have hz48 : z ≠ 48 := by
      intro e
      apply a3
      rw [List.head?_eq_getElem?, ← hdl, hd]
      congr 1
      exact UInt8.toNat_inj.1 (by show d.toNat = 48; omega)
    have hzb := byte_bd d
    rw [hz] at hzb
    have hz2 : (z != 48) = true := by simpa using hz48
    have s1 : 1 ≤ (SD.size : Int) := by omega
    have s2 : (SD.size : Int) ≤ 17 := by omega
    clear hno hyes hSD hSE a1 a2 a3 a4 e0 e1 htold hsz hdl hb1 hB hd0 hd hz c1 c2 hc
    go_enter Tryz.func5, Tryz.ntmps5
    go_wp2_with fail
    refine (DY.out _ HL.out).mono ?_
    rintro e w1 ⟨rfl, f1⟩
    have FW := hide f1
    clear f1 DY
    go_wp2_with fail
    obtain ⟨W1, hW1⟩ : ∃ W, W = w1.alloc (Obj.cells #[.string SD, .int .i64 SE] 27) := ⟨_, rfl⟩
    have fy : Fr w1 W1 := by rw [hW1]; exact Fr.alloc _ _
    have X1 : Hid (W1.cell? ⟨w1.heap.size, 0, none⟩ = some (.string SD) ∧ W1.cell? ⟨w1.heap.size, 1, none⟩ = some (.int .i64 SE)) := by rw [hW1]; exact hide ⟨by simp [go_sem], by simp [go_sem]⟩
    rw [← hW1]
    clear hW1
    have FW := hide (FW.out.trans fy)
    clear fy
    refine (BK.out _).mono ?_
    rintro e w2 ⟨rfl, fy⟩
    have X1 := hide (And.intro (fr_cell fy X1.out.1) (fr_cell fy X1.out.2))
    have FW := hide (FW.out.trans fy)
    clear fy
    clear BK
    go_wp2_with fail
    refine (wakes_any _ (HL.out.fr FW.out)).mono ?_
    rintro e w9 ⟨rfl, fy⟩
    have X1 := hide (And.intro (fr_cell fy X1.out.1) (fr_cell fy X1.out.2))
    have FW := hide (FW.out.trans fy)
    clear fy
    have x1 := X1.out.1
    have x1' := X1.out.2
    go_wp2_with fail
    go_ret
    exact ⟨rfl, FW.out⟩
  · have DN := hide (fun wz => digits_no b wz hb hc)
    clear hc
    go_enter Tryz.func5, Tryz.ntmps5
    go_wp2_with fail
    refine (DN.out _).mono ?_
    rintro e w1 ⟨rfl, f1⟩
    have FW := hide f1
    clear f1 DN
    have FW := hide (FW.out.trans (Fr.alloc _ (Obj.cells #[.string ⟨#[]⟩, .int .i64 0] 27)))
    go_wp2_with fail
    refine (wakes_any _ (HL.out.fr FW.out)).mono ?_
    rintro e w9 ⟨rfl, fy⟩
    have FW := hide (FW.out.trans fy)
    clear fy
    go_wp2_with fail
    go_ret
    exact ⟨rfl, FW.out⟩
end Go.Proofs.YtammjgieocgelaaGreatDoor
