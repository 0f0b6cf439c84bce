/- The document's rounding: At, Exp, To. -/
import Derived.Test.YthdgdomgcogpjaaDoorRoundR
namespace Go.Proofs.YthdgdomgcogpjaaDoor
set_option linter.unusedVariables false
set_option linter.unusedSimpArgs false
open Go.RowKit
open Go.Lib (decDigits)

attribute [local go_sem] World.cell?_alloc_some
def strLen (v : Value) : Nat := match v with | .string t => t.size | _ => 0
theorem fix_loop {t : ByteArray} {j p C : Nat} (h : t = bs (List.replicate j 48 ++ textD C)) (hj : j = 0 ∨ t.size ≤ p) (hp : p ≤ t.size) : t = bs (fixD p C) := by
  have hs : t.size = j + (textD C).length := by rw [h, bs_size, List.length_append, List.length_replicate]
  rw [h]
  unfold fixD padD
  rw [show j = p - (textD C).length by omega]

set_option maxHeartbeats 1000000 in
set_option maxRecDepth 4000 in
theorem refAt_round (va : Value) (D k p : Nat) (w : World) (h : IsDec w va D) (hD : nlen 10 D ≤ 10000) (k1 : k ≤ 10000) (p1 : p ≤ 400) (C : Nat) (eC : cutN D k p = C) (nC : nlen 10 C ≤ 20000) (SW SF : ByteArray) (hSW : bs (wD p C) = SW) (hSF : bs (fD p C) = SF) :
    Calls Tryd.prog 11 #[va, .int .i64 k, .int .i64 p] w fun e w' => e = .returned (.tuple #[.string SW, .string SF]) ∧ Fr w w' := by
  have HA := hide h
  have EC := hide eC
  have FIN : Hid (∀ t : ByteArray, t = bs (fixD p C) → ∃ q : Nat, t.size = q + p ∧ t.extract 0 q = SW ∧ t.extract q t.size = SF) := by
    intro t ht
    have hl := fixD_len p C
    have hs : t.size = (fixD p C).length := by rw [ht, bs_size]
    refine ⟨(fixD p C).length - p, by omega, ?_, ?_⟩
    · have := (cut_data t ((fixD p C).length - p) (by omega)).1
      rw [bs_eta (t.extract 0 _), this, ← hSW, ht, bs_data]; rfl
    · have := (cut_data t ((fixD p C).length - p) (by omega)).2.1
      rw [bs_eta (t.extract _ _), this, ← hSF, ht, bs_data]; rfl
  have TXT : Hid (∃ t0 : ByteArray, t0 = bs (textD C) ∧ t0.size ≤ 100000 ∧ (C ≠ 0 → t0 = bs (decDigits C)) ∧ (C = 0 → t0 = ⟨#[]⟩)) := by
    refine ⟨_, rfl, ?_, fun h => by unfold textD; rw [if_neg h], fun h => by unfold textD; rw [if_pos h]⟩
    rw [bs_size]
    unfold textD
    split
    · simp
    · have := ndig_le (k := nlen 10 C) (x := C) (lt_nlen ten2 C)
      rw [Lib.decDigits_length]
      omega
  obtain ⟨t0, h0, zt, hne, heq⟩ := TXT.out
  have H0 := hide h0
  have HNE := hide hne
  have HEQ := hide heq
  obtain ⟨a, ca, rfl, a2, a3, a4⟩ := h
  clear a4 eC h0 hne heq TXT hSW hSF
  go_enter Tryd.func11, Tryd.ntmps11
  go_wp2_with fail
  refine (refCut_any _ D k p _ HA.out (by omega) (by omega) (by omega) (by omega) C EC.out).mono ?_
  rintro e w1 ⟨v1, rfl, i1, f1⟩
  have I1 := hide i1
  have F1 := hide f1
  obtain ⟨x1, x2, rfl, y2, y3, y4⟩ := i1
  clear f1 y4
  go_upto_if 17 with fail
  go_cut [9] (fun s9 wx => s9 = .string t0 ∧ Hid (Fr w wx))
  case first =>
    by_cases c : C = 0
    · obtain rfl := HEQ.out c
      subst c
      rw [nlen_zero] at *
      go_wp2_with fail
      go_meet
      exact ⟨rfl, F1⟩
    · obtain rfl := HNE.out c
      have np := nlen_pos ten2 c
      have z : (0 : Int) < nlen 10 C := by omega
      go_wp2_with fail
      refine (refText_any _ C _ I1.out (by omega)).mono ?_
      rintro e w2 ⟨rfl, f2⟩
      have F1 := hide (F1.out.trans f2)
      clear f2 I1
      go_wp2_with fail
      go_meet
      exact ⟨rfl, F1⟩
  case rest =>
    obtain ⟨rfl, FW⟩ := hcut
    obtain ⟨w2, hw2⟩ : ∃ V, V = wc := ⟨_, rfl⟩
    rw [← hw2] at FW ⊢
    clear hw2 I1 F1 HA HNE HEQ
    go_wp2_with fail
    go_loopw [9] (fun s9 wr => ∃ (j : Nat) (t : ByteArray), s9 = .string t ∧ t.size ≤ 100000 ∧ Hid (t = bs (List.replicate j 48 ++ textD C)) ∧ Hid (j = 0 ∨ t.size ≤ p) ∧ wr = w2) (fun s9 _ => p - strLen s9)
    case atStart => exact ⟨0, t0, rfl, zt, by rw [H0.out]; rfl, hide (.inl rfl), rfl⟩
    case round =>
      obtain ⟨j, t, rfl, zt', hT, hj, rfl⟩ := hrel
      by_cases c : t.size < p
      · have c' : (t.size : Int) < p := by omega
        have e1 : (⟨#[48]⟩ : ByteArray) ++ t = bs (List.replicate (j + 1) 48 ++ textD C) := by
          rw [hT.out, show (⟨#[48]⟩ : ByteArray) = bs [48] from rfl, bs_append]
          rfl
        have e2 : ((⟨#[48]⟩ : ByteArray) ++ t).size = t.size + 1 := by
          have hs : t.size = j + (textD C).length := by rw [hT.out, bs_size, List.length_append, List.length_replicate]
          rw [e1, bs_size, List.length_append, List.length_replicate, hs]
          omega
        have E1 := hide e1
        have E2 := hide e2
        have e48 : (⟨#[48]⟩ : ByteArray).size = 1 := rfl
        clear e1 e2
        go_wp2_with fail
        go_roundw
        case rel => exact ⟨j + 1, _, rfl, by rw [E2.out]; omega, E1, hide (.inr (by rw [E2.out]; omega)), by first | rfl | trivial⟩
        case measure => simp only [strLen]; rw [E2.out]; omega
      · have c' : ¬ (t.size : Int) < p := by omega
        obtain ⟨q, hq, hw, hf⟩ := FIN.out t (fix_loop hT.out hj.out (by omega))
        have hq1 : (t.size : Int) - p = q := by omega
        have hq3 : (q : Int) ≤ t.size := by omega
        have hq4 : (q : Int).toNat = q := by omega
        clear hT hj hq FIN
        go_wp2_with fail
        go_quiet (fail)
        go_wp2_with fail
        go_ret2
        exact ⟨by first | rfl | (rw [hw, hf]), below_drewN FW.out _⟩

set_option maxHeartbeats 400000 in
theorem refExp_any (va : Value) (D k : Nat) (w : World) (h : IsDec w va D) (hD : nlen 10 D ≤ 100000) (k1 : k ≤ 100000) (E : Int) (hE : (nlen 10 D : Int) - 1 - k = E) :
    Calls Tryd.prog 13 #[va, .int .i64 k] w fun e w' => e = .returned (.int .i64 E) ∧ w' = w := by
  obtain ⟨a, ca, rfl, a2, a3, a4⟩ := h
  clear a4
  generalize nlen 10 D = N at *
  subst hE
  go_enter Tryd.func13, Tryd.ntmps13
  go_wp2_with fail
  go_ret
  exact ⟨rfl, rfl⟩

set_option maxHeartbeats 1000000 in
set_option maxRecDepth 4000 in
theorem refTo_round (va : Value) (D k c : Nat) (w : World) (h : IsDec w va D) (hD : nlen 10 D ≤ 10000) (k1 : k ≤ 10000) (c0 : 1 ≤ c) (c1 : c ≤ 400) (E : Int) (hE : (nlen 10 D : Int) - 1 - k = E) (R : Nat) (eR : cutN D k ((c : Int) - 1 - E) = R) (nR : nlen 10 R ≤ 20000) (SD : ByteArray) (SE : Int) (hSD : bs (sciD c R) = SD) (hSE : sciE c R E = SE) :
    Calls Tryd.prog 15 #[va, .int .i64 k, .int .i64 c] w fun e w' => e = .returned (.tuple #[.string SD, .int .i64 SE]) ∧ Fr w w' := by
  have HA := hide h
  have ER := hide eR
  have ER2 : Hid (c < nlen 10 D → cutN D (nlen 10 D - c) 0 = R) := by
    intro hl
    rw [← eR]
    unfold cutN
    rw [if_neg (by omega), if_neg (by omega)]
    congr 2
    omega
  obtain ⟨T, hTx⟩ : ∃ T, bs (decDigits R) = T := ⟨_, rfl⟩
  have TX : Hid (∀ w v, IsDec w v R → Calls Tryd.prog 39 #[v] w fun e w' => e = .returned (.string T) ∧ Fr w w') := by
    rw [← hTx]
    exact fun w v h => refText_any v R w h (by omega)
  have zT : T.size ≤ 100000 := by
    have := ndig_le (k := nlen 10 R) (x := R) (lt_nlen ten2 R)
    rw [← hTx, bs_size, Lib.decDigits_length]
    omega
  have FIN : Hid ((T.size : Int) ≤ c → T = SD ∧ E = SE) := by
    intro hl
    rw [← hSD, ← hSE]
    have hl' : (decDigits R).length ≤ c := by rw [← bs_size, hTx]; omega
    unfold sciD sciE
    rw [List.take_of_length_le hl', if_neg (by omega), hTx]
    exact ⟨rfl, rfl⟩
  have FIN2 : Hid ((c : Int) < T.size → SD = T.extract 0 c ∧ SE = E + 1) := by
    intro hl
    rw [← hSD, ← hSE]
    have hl' : c < (decDigits R).length := by rw [← bs_size, hTx]; omega
    unfold sciD sciE
    rw [if_pos hl']
    refine ⟨?_, rfl⟩
    have := (cut_data T c (by omega)).1
    rw [bs_eta (T.extract 0 c), this, ← hTx, bs_data]
  obtain ⟨a, ca, rfl, a2, a3, a4⟩ := h
  clear a4 eR hTx hSD hSE
  have HE := hide hE
  have nE0 : -10001 ≤ E := by omega
  have nE1 : E ≤ 10000 := by omega
  go_enter Tryd.func15, Tryd.ntmps15
  go_wp2_with fail
  refine (refExp_any _ D k _ HA.out (by omega) (by omega) E HE.out).mono ?_
  rintro e w1 ⟨rfl, rfl⟩
  go_wp2_with fail
  refine (refCut_any _ D k ((c : Int) - 1 - E) _ HA.out (by omega) (by omega) (by omega) (by omega) R ER.out).mono ?_
  rintro e w2 ⟨v2, rfl, i2, f2⟩
  have I2 := hide i2
  have F2 := hide f2
  have HA := hide (HA.out.fr f2)
  clear i2 f2
  by_cases hA : c < nlen 10 D
  · have hA' : (c : Int) < nlen 10 D := by omega
    have ER2 := hide (ER2.out hA)
    obtain ⟨j, hj⟩ : ∃ j : Nat, nlen 10 D - c = j := ⟨_, rfl⟩
    have hj' : (nlen 10 D : Int) - c = j := by omega
    rw [hj] at ER2
    by_cases hB : (c : Int) - 1 - E < 0
    · go_wp2_with fail
      refine (refCut_any _ D j 0 _ HA.out (by omega) (by omega) (by omega) (by omega) R ER2.out).mono ?_
      rintro e w4 ⟨v4, rfl, i4, f4⟩
      have I2 := hide i4
      have F2 := hide (F2.out.trans f4)
      clear i4 f4
      go_wp2_with fail
      refine (TX.out _ _ I2.out).mono ?_
      rintro e w3 ⟨rfl, f3⟩
      have F2 := hide (F2.out.trans f3)
      clear f3 TX I2
      by_cases hl : (T.size : Int) ≤ c
      · obtain ⟨e1, e2⟩ := FIN.out hl
        subst e2
        subst e1
        go_wp2_with fail
        go_ret2
        exact ⟨rfl, F2.out⟩
      · obtain ⟨e1, e2⟩ := FIN2.out (by omega)
        subst e2
        subst e1
        have hcT : (c : Int) ≤ T.size := by omega
        go_wp2_with fail
        go_ret2
        exact ⟨rfl, F2.out⟩
    · go_wp2_with fail
      refine (TX.out _ _ I2.out).mono ?_
      rintro e w3 ⟨rfl, f3⟩
      have F2 := hide (F2.out.trans f3)
      clear f3 TX I2
      by_cases hl : (T.size : Int) ≤ c
      · obtain ⟨e1, e2⟩ := FIN.out hl
        subst e2
        subst e1
        go_wp2_with fail
        go_ret2
        exact ⟨rfl, F2.out⟩
      · obtain ⟨e1, e2⟩ := FIN2.out (by omega)
        subst e2
        subst e1
        have hcT : (c : Int) ≤ T.size := by omega
        go_wp2_with fail
        go_ret2
        exact ⟨rfl, F2.out⟩
  · have hA' : ¬ (c : Int) < nlen 10 D := by omega
    by_cases hB : (c : Int) - 1 - E < 0
    · exfalso; omega
    · go_wp2_with fail
      refine (TX.out _ _ I2.out).mono ?_
      rintro e w3 ⟨rfl, f3⟩
      have F2 := hide (F2.out.trans f3)
      clear f3 TX I2
      by_cases hl : (T.size : Int) ≤ c
      · obtain ⟨e1, e2⟩ := FIN.out hl
        subst e2
        subst e1
        go_wp2_with fail
        go_ret2
        exact ⟨rfl, F2.out⟩
      · obtain ⟨e1, e2⟩ := FIN2.out (by omega)
        subst e2
        subst e1
        have hcT : (c : Int) ≤ T.size := by omega
        go_wp2_with fail
        go_ret2
        exact ⟨rfl, F2.out⟩

end Go.Proofs.YthdgdomgcogpjaaDoor
