/- Layer 10, the document's: Digits. -/
import Derived.Test.YtammjgieocgelaaGreatDoorShortN
namespace Go.Proofs.YtammjgieocgelaaGreatDoor
set_option linter.unusedVariables false
set_option linter.unusedSimpArgs false
open Go.RowKit
open Go.Lib (decDigits trimRightB)

attribute [local go_sem] World.cell?_alloc_some
set_option maxHeartbeats 2000000 in
set_option maxRecDepth 4000 in
theorem refDigits10_any (b c : Nat) (w : World) (hb : b < 18446744073709551616) (hc : bC b = 1) (c1 : 1 ≤ c) (c2 : c ≤ 17) (hno : ∀ j, 1 ≤ j → j < c → told b j = false) (hyes : c < 17 → told b c = true) (SD : ByteArray) (SE : Int) (hSD : bs (sD b c) = SD) (hSE : sE b c = SE) :
    Calls Tryz.prog 12 #[.int .u64 (b : Int)] w fun e w' => e = .returned (.tuple #[.string SD, .int .i64 SE]) ∧ Fr w w' := by
  obtain ⟨_, _, _, u, hu, hu2⟩ := class_one hb hc
  have hbm : b % 9223372036854775808 = u + 1 := hu
  obtain ⟨cc, g, m, x, -, -, -, OB, DB⟩ := refOf_dec (b % 9223372036854775808) (by omega)
  rw [(vDec_mod hb).1, (vDec_mod hb).2] at DB
  obtain ⟨_, _, _, _, _, k6, k7, k8⟩ := v_facts b
  obtain ⟨_, e0, e1⟩ := vE_facts hb hc
  obtain ⟨D, hD⟩ : ∃ D, vDec b = D := ⟨_, rfl⟩
  obtain ⟨K, hK⟩ : ∃ K, vK b = K := ⟨_, rfl⟩
  have TO : Hid (∀ (k : Nat) (wz : World) (v : Value), 1 ≤ k → k ≤ 17 → IsDec wz v D → Calls Tryz.prog 14 #[v, .int .i64 (K : Int), .int .i64 (k : Int)] wz fun e w' => e = .returned (.tuple #[.string (bs (sD b k)), .int .i64 (sE b k)]) ∧ Fr wz w') := by
    intro k wz v k1 k2 h
    rw [← hD] at h
    rw [← hK]
    have := (s_facts hb hc k1).2.2.2.2
    exact refTo_round v (vDec b) (vK b) k wz h (by omega) (by omega) k1 (by omega) (vE b) rfl (sR b k) (s_cut k1) (by omega) _ _ rfl rfl
  obtain ⟨B, hB⟩ : ∃ B, b % 9223372036854775808 = B := ⟨_, rfl⟩
  have NU : Hid (∀ (k : Nat), 1 ≤ k → k ≤ 17 → ∃ X xk : Nat, xk ≤ 3000 ∧ nlen 10 X ≤ 3000 ∧ told b k = decide (nearN X (10 ^ xk) = B) ∧ ∀ wz, Calls Tryz.prog 20 #[.string (bs (sD b k)), .int .i64 (sE b k)] wz fun r w' => ∃ v, r = .returned (.tuple #[v, .int .i64 (xk : Int)]) ∧ IsDec w' v X ∧ Fr wz w') := by
    intro k k1 k2
    obtain ⟨a1, a2, a3, a4, _⟩ := s_facts hb hc k1
    have hne : sD b k ≠ [] := by intro h; rw [h] at a1; simp at a1; omega
    refine ⟨_, _, ?_, ?_, ?_, fun wz => refNumber_any (bs (sD b k)) (sE b k) _ _ wz (by rw [bs_size]; omega) (by rw [bs_data]; exact hne) (by rw [bs_data]; exact a2) (by rw [bs_data]; exact a3) (by omega) (by omega) rfl rfl⟩
    · rw [bs_data]
      omega
    · rw [bs_data]
      have h1 : nlen 10 (valD (sD b k)) ≤ k := by
        have := nlen_le ten2 (valD_lt _ a2)
        omega
      have := nl10_ten (j := (sE b k - (((sD b k).length : Int) - 1)).toNat) h1
      omega
    · rw [bs_data, ← hB]
      exact told_dec b k
  have END := hide (fun (k : Nat) (k1 : 1 ≤ k) (k2 : k < 17) hF ht => told_end c1 c2 hno hyes k1 k2 hF ht)
  have ALL := hide (fun hF => told_all c1 c2 hyes hF)
  have HSD := hide hSD
  have HSE := hide hSE
  have T17 : Hid (∀ (wz : World) (v : Value), IsDec wz v D → Calls Tryz.prog 14 #[v, .int .i64 (K : Int), .int .i64 17] wz fun e w' => e = .returned (.tuple #[.string (bs (sD b 17)), .int .i64 (sE b 17)]) ∧ Fr wz w') := fun wz v h => TO.out 17 wz v (by omega) (by omega) h
  have B1 : 0 < B := by omega
  have B2 : B < 9218868437227405312 := by omega
  have NEAR := hide (fun (va : Value) (X xk : Nat) (wz : World) (h : IsDec wz va X) (hX : nlen 10 X ≤ 3000) (hk : xk ≤ 3000) (ob : Bool) hob => refNear_any va X xk B wz h hX hk B1 B2 ob hob)
  rw [hD, hK] at DB
  rw [hB] at OB
  have OB := hide OB
  have DB := hide DB
  obtain ⟨bi, hbi⟩ : ∃ bi : Int, (b : Int) = bi := ⟨_, rfl⟩
  have hB1 : 9223372036854775808 ≤ bi → bi - 9223372036854775808 = B := by omega
  have hB2 : ¬ 9223372036854775808 ≤ bi → bi = B := by omega
  have bi0 : 0 ≤ bi := by omega
  have bi1 : bi ≤ 18446744073709551615 := by omega
  rw [hbi]
  clear hSD hSE hc hno hyes c1 c2 hB hu hu2 hbm hD hK k6 k7 k8 e0 e1 hbi hb
  go_enter Tryz.func12, Tryz.ntmps12
  go_upto_if 14 with fail
  go_cut [0] (fun s0 wx => s0 = .int .u64 (B : Int) ∧ wx = w)
  case first =>
    by_cases c : 9223372036854775808 ≤ bi
    · have e := hB1 c
      clear hB1 hB2
      go_wp2_with fail
      go_meet
      exact ⟨by congr 1, rfl⟩
    · have e := hB2 c
      clear hB1 hB2
      go_wp2_with fail
      go_meet
      exact ⟨by congr 1, rfl⟩
  case rest =>
  obtain ⟨rfl, rfl⟩ := hcut
  clear hB1 hB2 bi0 bi1
  go_wp2_with fail
  refine (OB.out _).mono ?_
  rintro e w1 ⟨rfl, f1⟩
  have FW := hide f1
  clear f1 OB
  go_wp2_with fail
  obtain ⟨W1, hW1⟩ : ∃ W, W = w1.alloc (Obj.cells #[.int .i64 (cc : Int), .bool g, .int .u64 (m : Int), .int .i64 x] 24) := ⟨_, rfl⟩
  have fy : Fr w1 W1 := by rw [hW1]; exact Fr.alloc _ _
  rw [← hW1]
  clear hW1
  have FW := hide (FW.out.trans fy)
  clear fy
  refine (DB.out _).mono ?_
  rintro e w2 ⟨vd, rfl, id, fy⟩
  have ID := hide id
  have FW := hide (FW.out.trans fy)
  clear fy id DB
  go_wp2_with fail
  go_loopw [7] (fun s7 wr => ∃ k : Nat, 1 ≤ k ∧ k ≤ 17 ∧ s7 = .int .i64 k ∧ Hid (∀ j, 1 ≤ j → j < k → told b j = false) ∧ Hid (Fr w2 wr)) (fun s7 _ => 17 - (intOf s7).toNat)
  case atStart => exact ⟨1, by omega, by omega, rfl, hide (fun j h1 h2 => by omega), hide (Fr.refl _)⟩
  case round =>
    obtain ⟨k, k1, k2, rfl, hF, FR⟩ := hrel
    obtain ⟨V, rfl⟩ : ∃ V, V = wr := ⟨_, rfl⟩
    have ID := hide (ID.out.fr FR.out)
    have FW := hide (FW.out.trans FR.out)
    by_cases hk : k < 17
    · have hk' : (k : Int) < 17 := by omega
      obtain ⟨X, xk, x1, x2, hX, NUk⟩ := NU.out k k1 (by omega)
      have TOk := TO.out k V _ k1 (by omega) ID.out
      obtain ⟨S0, hS0⟩ : ∃ S0, bs (sD b k) = S0 := ⟨_, rfl⟩
      obtain ⟨E0, hE0⟩ : ∃ E0, sE b k = E0 := ⟨_, rfl⟩
      obtain ⟨ob, hob⟩ : ∃ ob, told b k = ob := ⟨_, rfl⟩
      rw [hob] at hX
      rw [hS0, hE0] at TOk NUk
      have HS0 := hide hS0
      have HE0 := hide hE0
      have HOB := hide hob
      have HX := hide hX
      have TOk := hide TOk
      have NUk := hide NUk
      clear hS0 hE0 hob hX
      go_wp2_with fail
      refine TOk.out.mono ?_
      rintro e w4 ⟨rfl, fy⟩
      clear TOk
      have FR := hide (FR.out.trans fy)
      have FW := hide (FW.out.trans fy)
      clear fy
      go_wp2_with fail
      refine (NUk.out _).mono ?_
      rintro e w5 ⟨vx, rfl, ix, fy⟩
      have IX := hide ix
      have FR := hide (FR.out.trans fy)
      have FW := hide (FW.out.trans fy)
      clear fy ix NUk
      go_wp2_with fail
      refine (NEAR.out _ X xk _ IX.out x2 x1 ob HX.out).mono ?_
      rintro e w6 ⟨rfl, fy⟩
      have FR := hide (FR.out.trans fy)
      have FW := hide (FW.out.trans fy)
      clear fy
      cases ob with
      | true =>
        have hkc := END.out k k1 hk hF.out HOB.out
        subst hkc
        have e1 : S0 = SD := by rw [← HS0.out, HSD.out]
        have e2 : E0 = SE := by rw [← HE0.out, HSE.out]
        subst e1
        subst e2
        go_wp2_with fail
        go_ret2
        exact ⟨rfl, FW.out⟩
      | false =>
        go_wp2_with fail
        go_roundw
        case rel =>
          refine ⟨k + 1, by omega, by omega, by go_num, hide (fun j h1 h2 => ?_), FR⟩
          rcases Nat.lt_or_ge j k with h | h
          · exact hF.out j h1 h
          · rw [show j = k by omega, HOB.out]
        case measure => simp [intOf]; omega
    · obtain rfl : k = 17 := by omega
      have hkc := ALL.out hF.out
      subst hkc
      have T17k := T17.out V _ ID.out
      rw [HSD.out, HSE.out] at T17k
      have T17k := hide T17k
      go_wp2_with fail
      refine T17k.out.mono ?_
      rintro e w4 ⟨rfl, fy⟩
      have FW := hide (FW.out.trans fy)
      clear fy
      go_wp2_with fail
      go_ret2
      exact ⟨rfl, FW.out⟩
end Go.Proofs.YtammjgieocgelaaGreatDoor
