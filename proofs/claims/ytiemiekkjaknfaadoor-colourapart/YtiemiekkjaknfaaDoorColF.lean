/- strings.EqualFold of any text and one of bytes up to 7F: it ends with an answer. -/
import Derived.Test.YtiemiekkjaknfaaDoorTokBf
import Derived.Test.YtiemiekkjaknfaaDoorColS
namespace Go.Proofs.YtiemiekkjaknfaaDoor
set_option linter.unusedVariables false
set_option linter.unusedSimpArgs false
open Go.RowKit

/-- A text of bytes up to 7F. -/
def Asc (t : ByteArray) : Prop := ∀ k (h : k < t.size), (t[k]'h).toNat < 128
theorem asc_from (t : ByteArray) (a : Nat) (h : Asc t) : Asc (t.extract a t.size) := by
  intro k hk
  have hz := ext_size t a
  have e1 := bt_at (t.extract a t.size) k hk
  have e2 := bt_at t (a + k) (by omega)
  have e3 : bt (t.extract a t.size) k = bt t (a + k) := by
    unfold bt
    rw [ints_from, List.getElem?_drop]
  have := h (a + k) (by omega)
  omega
theorem asc_dec (t : ByteArray) (h : Asc t) (h0 : 0 < t.size) : Lib.decodeGo t = ((t[0]'h0).toNat, 1) := by
  unfold Lib.decodeGo
  rw [if_neg (by omega), Lib.decode_at, get_nat t 0 h0]
  exact dec_0 _ _ _ _ _ (h 0 h0)

set_option maxHeartbeats 8000000 in
set_option maxRecDepth 4000 in
theorem fold_some (s t : ByteArray) (w : World) (hU : U8 w) (hF : Folds w) (hs : s.size ≤ 200) (ht : t.size ≤ 200) (hT : Asc t) :
    Calls Tryd.prog 36 #[.string s, .string t] w fun e w' => (∃ b, e = .returned (.bool b)) ∧ Fr w w' := by
  have HD := hide (fun t w hU => Tryd.utf8_DecodeRuneInString t w hU)
  have HSL := hide (fun j w hF hj => sf_low j w hF hj)
  have H8490 := hide (fun w hF => sf_kelvin w hF)
  have H383 := hide (fun w hF => sf_long w hF)
  have HFO := hide (fun w' (f : Fr w w') => hF.fr f)
  have HT := hide hT
  obtain ⟨n, hn⟩ : ∃ n, n = min s.size t.size := ⟨_, rfl⟩
  have hm : min (s.size : Int) (t.size : Int) = (n : Int) := by omega
  have hns : n ≤ s.size := by omega
  have hnt : n ≤ t.size := by omega
  have h200 : n ≤ 200 := by omega
  clear hn hT hF
  go_enter Tryd.func36, Tryd.ntmps36
  go_wp2_with fail
  refine wp_scope_forward 0 rfl ?_
  go_wp2_with fail
  go_loopw [5] (fun i wr => ∃ k : Nat, k ≤ n ∧ i = .int .i64 k ∧ wr = w) (fun i _ => n - (intOf i).toNat)
  case atStart => exact ⟨0, by omega, rfl, rfl⟩
  case round =>
    obtain ⟨k, hk, rfl, rfl⟩ := hrel
    by_cases hlt : k < n
    · have ks : k < s.size := by omega
      have kt : k < t.size := by omega
      have bx := (s[k]'ks).toNat_lt
      have hby := HT.out k kt
      obtain ⟨x, hx⟩ : ∃ x : Nat, (s[k]'ks).toNat = x := ⟨_, rfl⟩
      obtain ⟨y, hy⟩ : ∃ y : Nat, (t[k]'kt).toNat = y := ⟨_, rfl⟩
      rw [hx] at bx
      rw [hy] at hby
      have hor := u8_or_nat x y (by omega) (by omega)
      by_cases hb : x < 128
      · have h7 : x ||| y < 128 := Nat.or_lt_two_pow (n := 7) hb hby
        have h8 : ¬ (128 : Int) ≤ ((x ||| y : Nat) : Int) := by omega
        generalize x ||| y = v at *
        clear h7
        by_cases hxy : x = y
        · subst hxy
          go_wp2_with fail
          go_roundw
          case rel => exact ⟨k + 1, by omega, by go_num, by first | rfl | trivial⟩
          case measure => simp [intOf]; omega
        · have hne : ((y : Int) == (x : Int)) = false := by rw [beq_eq_false_iff_ne]; omega
          by_cases hlt2 : x < y
          ·
            by_cases g1 : 65 ≤ x
            · by_cases g2 : x ≤ 90
              · by_cases g3 : y = x + 32
                · subst g3
                  have hor2 : bits .or .u8 (x : Int) ((x : Int) + 32) = (v : Int) := by have h := hor; rw [Int.natCast_add] at h; exact h
                  clear hor
                  go_wp2_with fail
                  go_roundw
                  case rel => exact ⟨k + 1, by omega, by go_num, by first | rfl | trivial⟩
                  case measure => simp [intOf]; omega
                · have hq : ((y : Int) == (x : Int) + 32) = false := by rw [beq_eq_false_iff_ne]; omega
                  go_wp2_with fail
                  simp only [Exit.jump]
                  go_ret
                  exact ⟨⟨_, rfl⟩, Fr.refl _⟩
              ·
                go_wp2_with fail
                simp only [Exit.jump]
                go_ret
                exact ⟨⟨_, rfl⟩, Fr.refl _⟩
            ·
              go_wp2_with fail
              simp only [Exit.jump]
              go_ret
              exact ⟨⟨_, rfl⟩, Fr.refl _⟩
          · have hgt : y < x := by omega
            by_cases g1 : 65 ≤ y
            · by_cases g2 : y ≤ 90
              · by_cases g3 : x = y + 32
                · subst g3
                  have hor2 : bits .or .u8 ((y : Int) + 32) (y : Int) = (v : Int) := by have h := hor; rw [Int.natCast_add] at h; exact h
                  clear hor
                  go_wp2_with fail
                  go_roundw
                  case rel => exact ⟨k + 1, by omega, by go_num, by first | rfl | trivial⟩
                  case measure => simp [intOf]; omega
                · have hq : ((x : Int) == (y : Int) + 32) = false := by rw [beq_eq_false_iff_ne]; omega
                  go_wp2_with fail
                  simp only [Exit.jump]
                  go_ret
                  exact ⟨⟨_, rfl⟩, Fr.refl _⟩
              ·
                go_wp2_with fail
                simp only [Exit.jump]
                go_ret
                exact ⟨⟨_, rfl⟩, Fr.refl _⟩
            ·
              go_wp2_with fail
              simp only [Exit.jump]
              go_ret
              exact ⟨⟨_, rfl⟩, Fr.refl _⟩
      · have h7 : 128 ≤ x ||| y := Nat.le_trans (by omega) Nat.left_le_or
        have h8 : (128 : Int) ≤ ((x ||| y : Nat) : Int) := by omega
        generalize x ||| y = v at *
        clear h7
        go_wp2_with fail
        go_step3
        refine And.intro rfl ?_
        go_wp2_with fail
        obtain ⟨V, rfl⟩ : ∃ V, V = wr := ⟨_, rfl⟩
        have hzs := ext_size s k
        have hzt := ext_size t k
        have HTA := hide (asc_from t k HT.out)
        have hzt2 : (t.extract k t.size).size ≤ 200 := by omega
        clear hor hx hy h8 hm bx hby hzt
        generalize t.extract k t.size = tp0 at *
        generalize s.extract k s.size = sp at *
        obtain ⟨r, hr⟩ : ∃ r, r = sp.size := ⟨_, rfl⟩
        have HR := hide hr
        have hr2 : r ≤ 200 := by omega
        clear hzs hr
        go_loopw [1] (fun tv wx => ∃ (p : Nat) (tp : ByteArray), p ≤ r ∧ tv = .string tp ∧ tp.size ≤ 200 ∧ Hid (Asc tp) ∧ Hid (wx.heap[V.heap.size]? = some (.stringIter sp p)) ∧ Hid (Fr V wx)) (fun tv _ => strLen tv)
        case atStart => exact ⟨0, tp0, by omega, rfl, hzt2, HTA, hide (World.iter_heap _ _ _), hide (Fr.alloc _ _)⟩
        case round =>
          obtain ⟨p, tp, hp, rfl, hpz, HTP, HIT, HFr⟩ := hrel
          by_cases hlt2 : p < r
          · have hst : p < sp.size := by rw [← HR.out]; exact hlt2
            obtain ⟨e1, e2, e3⟩ := dec_bds sp p hst
            have hnx : ∀ ty, (Instr.next (.pointer (some ⟨V.heap.size, 0, none⟩)) true ty).run Tryd.prog wr = _ := fun ty => Lib.run_next_any_at wr V.heap.size sp p ty HIT.out hst
            obtain ⟨R, K, hRK⟩ : ∃ R K, Utf8.decode sp p = (R, K) := ⟨_, _, rfl⟩
            rw [hRK] at hnx e1 e2 e3
            rw [← HR.out] at e2
            have hit2 := hide (Lib.iterAt_heap wr V.heap.size sp p (p + K) HIT.out)
            have F2 : Hid (Fr V (wr.iterAt V.heap.size sp (p + K))) := hide (Lib.below_iterAt HFr.out (Nat.le_refl _) sp (p + K))
            have hzV : Hid (V.heap.size < (wr.iterAt V.heap.size sp (p + K)).heap.size) := hide (by rw [Lib.iterAt_size]; exact (Array.getElem?_eq_some_iff.1 HIT.out).1)
            have HC := hide (HD.out tp (wr.iterAt V.heap.size sp (p + K)) (hU.fr F2.out))
            simp only at hnx e1 e2 e3
            generalize wr.iterAt V.heap.size sp (p + K) = W at *
            clear hst hRK HIT HFr
            by_cases hz0 : tp.size = 0
            · go_wp2_with fail
              try rw [Exit.noGoto_ret]
              go_ret
              exact ⟨⟨_, rfl⟩, F2.out⟩
            · have hdt := asc_dec tp HTP.out (by omega)
              have hy7 := HTP.out 0 (by omega)
              rw [hdt] at HC
              clear hdt
              generalize (tp[0]'_).toNat = y at *
              have hze := ext_size tp 1
              have HTA2 := hide (asc_from tp 1 HTP.out)
              have step : ∀ (w2 : World), Fr W w2 → ∃ (p' : Nat) (tp' : ByteArray), p' ≤ r ∧ Value.string (tp.extract 1 tp.size) = .string tp' ∧ tp'.size ≤ 200 ∧ Hid (Asc tp') ∧ Hid (w2.heap[V.heap.size]? = some (.stringIter sp p')) ∧ Hid (Fr V w2) := by
                intro w2 f2
                exact ⟨p + K, _, by omega, rfl, by omega, HTA2, hide ((f2.block _ hzV.out).trans hit2.out), hide (F2.out.trans f2)⟩
              have STEP := hide step
              have meas : strLen (Value.string (tp.extract 1 tp.size)) < strLen (Value.string tp) := by
                show (tp.extract 1 tp.size).size < tp.size
                omega
              have MEAS := hide meas
              have HFW := hide (fun w2 (f2 : Fr W w2) => HFO.out w2 (F2.out.trans f2))
              clear step meas hze HTA2 hzV hit2
              by_cases hRy : R = y
              · subst hRy
                go_wp2_with fail
                refine HC.out.mono ?_
                rintro e w2 ⟨rfl, f2⟩
                go_wp2_with fail
                go_roundw
                case rel => first | exact STEP.out w2 f2 | exact STEP.out w2 trivial
                case measure => exact MEAS.out
              · have hne : ((y : Int) == (R : Int)) = false := by rw [beq_eq_false_iff_ne]; omega
                by_cases hR7 : R < 128
                · by_cases hlt3 : y < R
                  ·
                    by_cases g1 : 65 ≤ y
                    · by_cases g2 : y ≤ 90
                      · by_cases g3 : R = y + 32
                        · subst g3
                          go_wp2_with fail
                          refine HC.out.mono ?_
                          rintro e w2 ⟨rfl, f2⟩
                          go_wp2_with fail
                          go_roundw
                          case rel => exact STEP.out w2 f2
                          case measure => exact MEAS.out
                        · have hq : ((R : Int) == (y : Int) + 32) = false := by rw [beq_eq_false_iff_ne]; omega
                          go_wp2_with fail
                          refine HC.out.mono ?_
                          rintro e w2 ⟨rfl, f2⟩
                          go_wp2_with fail
                          try rw [Exit.noGoto_ret]
                          go_ret
                          exact ⟨⟨_, rfl⟩, F2.out.trans f2⟩
                      ·
                        go_wp2_with fail
                        refine HC.out.mono ?_
                        rintro e w2 ⟨rfl, f2⟩
                        go_wp2_with fail
                        try rw [Exit.noGoto_ret]
                        go_ret
                        exact ⟨⟨_, rfl⟩, F2.out.trans f2⟩
                    ·
                      go_wp2_with fail
                      refine HC.out.mono ?_
                      rintro e w2 ⟨rfl, f2⟩
                      go_wp2_with fail
                      try rw [Exit.noGoto_ret]
                      go_ret
                      exact ⟨⟨_, rfl⟩, F2.out.trans f2⟩
                  · have hgt : R < y := by omega
                    by_cases g1 : 65 ≤ R
                    · by_cases g2 : R ≤ 90
                      · by_cases g3 : y = R + 32
                        · subst g3
                          go_wp2_with fail
                          refine HC.out.mono ?_
                          rintro e w2 ⟨rfl, f2⟩
                          go_wp2_with fail
                          go_roundw
                          case rel => exact STEP.out w2 f2
                          case measure => exact MEAS.out
                        · have hq : ((y : Int) == (R : Int) + 32) = false := by rw [beq_eq_false_iff_ne]; omega
                          go_wp2_with fail
                          refine HC.out.mono ?_
                          rintro e w2 ⟨rfl, f2⟩
                          go_wp2_with fail
                          try rw [Exit.noGoto_ret]
                          go_ret
                          exact ⟨⟨_, rfl⟩, F2.out.trans f2⟩
                      ·
                        go_wp2_with fail
                        refine HC.out.mono ?_
                        rintro e w2 ⟨rfl, f2⟩
                        go_wp2_with fail
                        try rw [Exit.noGoto_ret]
                        go_ret
                        exact ⟨⟨_, rfl⟩, F2.out.trans f2⟩
                    ·
                      go_wp2_with fail
                      refine HC.out.mono ?_
                      rintro e w2 ⟨rfl, f2⟩
                      go_wp2_with fail
                      try rw [Exit.noGoto_ret]
                      go_ret
                      exact ⟨⟨_, rfl⟩, F2.out.trans f2⟩
                · have hyR : y < R := by omega
                  have hRbig : ¬ (R : Int) < 128 := by omega
                  have hRI : (y : Int) < (R : Int) := by omega
                  by_cases hy75 : y = 75
                  · subst hy75
                    rcases Nat.lt_trichotomy 8490 R with hbig | hbig | hbig
                    ·
                      have hq : ((8490 : Int) == (R : Int)) = false := by rw [beq_eq_false_iff_ne]; omega
                      go_wp2_with fail
                      refine HC.out.mono ?_
                      rintro e w2 ⟨rfl, f2⟩
                      have hFw := HFW.out w2 f2
                      go_wp2_with fail
                      refine (HSL.out 75 _ hFw (by decide)).mono ?_
                      rintro e w3 ⟨rfl, rfl⟩
                      have haf : af 75 = 107 := by decide
                      try rw [haf]
                      go_wp2_with fail
                      refine wp_loop_rounds 5 ?_
                      rw [rounds_succ]
                      go_wp2_with fail
                      refine (HSL.out 107 _ hFw (by decide)).mono ?_
                      rintro e w3 ⟨rfl, rfl⟩
                      have haf0 : af 107 = 8490 := by decide
                      try rw [haf0]
                      go_wp2_with fail
                      rw [rounds_succ]
                      go_wp2_with fail
                      refine (H8490.out _ hFw).mono ?_
                      rintro e w3 ⟨rfl, rfl⟩
                      go_wp2_with fail
                      rw [rounds_succ]
                      go_wp2_with fail
                      try rw [Exit.noGoto_ret]
                      go_ret
                      exact ⟨⟨_, rfl⟩, F2.out.trans f2⟩
                    ·
                      subst hbig
                      go_wp2_with fail
                      refine HC.out.mono ?_
                      rintro e w2 ⟨rfl, f2⟩
                      have hFw := HFW.out w2 f2
                      go_wp2_with fail
                      refine (HSL.out 75 _ hFw (by decide)).mono ?_
                      rintro e w3 ⟨rfl, rfl⟩
                      have haf : af 75 = 107 := by decide
                      try rw [haf]
                      go_wp2_with fail
                      refine wp_loop_rounds 5 ?_
                      rw [rounds_succ]
                      go_wp2_with fail
                      refine (HSL.out 107 _ hFw (by decide)).mono ?_
                      rintro e w3 ⟨rfl, rfl⟩
                      have haf0 : af 107 = 8490 := by decide
                      try rw [haf0]
                      go_wp2_with fail
                      rw [rounds_succ]
                      go_wp2_with fail
                      go_roundw
                      case rel => exact STEP.out _ f2
                      case measure => exact MEAS.out
                    ·
                      have hq : ((8490 : Int) == (R : Int)) = false := by rw [beq_eq_false_iff_ne]; omega
                      go_wp2_with fail
                      refine HC.out.mono ?_
                      rintro e w2 ⟨rfl, f2⟩
                      have hFw := HFW.out w2 f2
                      go_wp2_with fail
                      refine (HSL.out 75 _ hFw (by decide)).mono ?_
                      rintro e w3 ⟨rfl, rfl⟩
                      have haf : af 75 = 107 := by decide
                      try rw [haf]
                      go_wp2_with fail
                      refine wp_loop_rounds 5 ?_
                      rw [rounds_succ]
                      go_wp2_with fail
                      refine (HSL.out 107 _ hFw (by decide)).mono ?_
                      rintro e w3 ⟨rfl, rfl⟩
                      have haf0 : af 107 = 8490 := by decide
                      try rw [haf0]
                      go_wp2_with fail
                      rw [rounds_succ]
                      go_wp2_with fail
                      try rw [Exit.noGoto_ret]
                      go_ret
                      exact ⟨⟨_, rfl⟩, F2.out.trans f2⟩
                  ·
                    by_cases hy107 : y = 107
                    · subst hy107
                      rcases Nat.lt_trichotomy 8490 R with hbig | hbig | hbig
                      ·
                        have hq : ((8490 : Int) == (R : Int)) = false := by rw [beq_eq_false_iff_ne]; omega
                        go_wp2_with fail
                        refine HC.out.mono ?_
                        rintro e w2 ⟨rfl, f2⟩
                        have hFw := HFW.out w2 f2
                        go_wp2_with fail
                        refine (HSL.out 107 _ hFw (by decide)).mono ?_
                        rintro e w3 ⟨rfl, rfl⟩
                        have haf : af 107 = 8490 := by decide
                        try rw [haf]
                        go_wp2_with fail
                        refine wp_loop_rounds 5 ?_
                        rw [rounds_succ]
                        go_wp2_with fail
                        refine (H8490.out _ hFw).mono ?_
                        rintro e w3 ⟨rfl, rfl⟩
                        go_wp2_with fail
                        rw [rounds_succ]
                        go_wp2_with fail
                        refine (HSL.out 75 _ hFw (by decide)).mono ?_
                        rintro e w3 ⟨rfl, rfl⟩
                        have haf1 : af 75 = 107 := by decide
                        try rw [haf1]
                        go_wp2_with fail
                        rw [rounds_succ]
                        go_wp2_with fail
                        try rw [Exit.noGoto_ret]
                        go_ret
                        exact ⟨⟨_, rfl⟩, F2.out.trans f2⟩
                      ·
                        subst hbig
                        go_wp2_with fail
                        refine HC.out.mono ?_
                        rintro e w2 ⟨rfl, f2⟩
                        have hFw := HFW.out w2 f2
                        go_wp2_with fail
                        refine (HSL.out 107 _ hFw (by decide)).mono ?_
                        rintro e w3 ⟨rfl, rfl⟩
                        have haf : af 107 = 8490 := by decide
                        try rw [haf]
                        go_wp2_with fail
                        refine wp_loop_rounds 5 ?_
                        rw [rounds_succ]
                        go_wp2_with fail
                        go_roundw
                        case rel => exact STEP.out _ f2
                        case measure => exact MEAS.out
                      ·
                        have hq : ((8490 : Int) == (R : Int)) = false := by rw [beq_eq_false_iff_ne]; omega
                        go_wp2_with fail
                        refine HC.out.mono ?_
                        rintro e w2 ⟨rfl, f2⟩
                        have hFw := HFW.out w2 f2
                        go_wp2_with fail
                        refine (HSL.out 107 _ hFw (by decide)).mono ?_
                        rintro e w3 ⟨rfl, rfl⟩
                        have haf : af 107 = 8490 := by decide
                        try rw [haf]
                        go_wp2_with fail
                        refine wp_loop_rounds 5 ?_
                        rw [rounds_succ]
                        go_wp2_with fail
                        try rw [Exit.noGoto_ret]
                        go_ret
                        exact ⟨⟨_, rfl⟩, F2.out.trans f2⟩
                    ·
                      by_cases hy83 : y = 83
                      · subst hy83
                        rcases Nat.lt_trichotomy 383 R with hbig | hbig | hbig
                        ·
                          have hq : ((383 : Int) == (R : Int)) = false := by rw [beq_eq_false_iff_ne]; omega
                          go_wp2_with fail
                          refine HC.out.mono ?_
                          rintro e w2 ⟨rfl, f2⟩
                          have hFw := HFW.out w2 f2
                          go_wp2_with fail
                          refine (HSL.out 83 _ hFw (by decide)).mono ?_
                          rintro e w3 ⟨rfl, rfl⟩
                          have haf : af 83 = 115 := by decide
                          try rw [haf]
                          go_wp2_with fail
                          refine wp_loop_rounds 5 ?_
                          rw [rounds_succ]
                          go_wp2_with fail
                          refine (HSL.out 115 _ hFw (by decide)).mono ?_
                          rintro e w3 ⟨rfl, rfl⟩
                          have haf0 : af 115 = 383 := by decide
                          try rw [haf0]
                          go_wp2_with fail
                          rw [rounds_succ]
                          go_wp2_with fail
                          refine (H383.out _ hFw).mono ?_
                          rintro e w3 ⟨rfl, rfl⟩
                          go_wp2_with fail
                          rw [rounds_succ]
                          go_wp2_with fail
                          try rw [Exit.noGoto_ret]
                          go_ret
                          exact ⟨⟨_, rfl⟩, F2.out.trans f2⟩
                        ·
                          subst hbig
                          go_wp2_with fail
                          refine HC.out.mono ?_
                          rintro e w2 ⟨rfl, f2⟩
                          have hFw := HFW.out w2 f2
                          go_wp2_with fail
                          refine (HSL.out 83 _ hFw (by decide)).mono ?_
                          rintro e w3 ⟨rfl, rfl⟩
                          have haf : af 83 = 115 := by decide
                          try rw [haf]
                          go_wp2_with fail
                          refine wp_loop_rounds 5 ?_
                          rw [rounds_succ]
                          go_wp2_with fail
                          refine (HSL.out 115 _ hFw (by decide)).mono ?_
                          rintro e w3 ⟨rfl, rfl⟩
                          have haf0 : af 115 = 383 := by decide
                          try rw [haf0]
                          go_wp2_with fail
                          rw [rounds_succ]
                          go_wp2_with fail
                          go_roundw
                          case rel => exact STEP.out _ f2
                          case measure => exact MEAS.out
                        ·
                          have hq : ((383 : Int) == (R : Int)) = false := by rw [beq_eq_false_iff_ne]; omega
                          go_wp2_with fail
                          refine HC.out.mono ?_
                          rintro e w2 ⟨rfl, f2⟩
                          have hFw := HFW.out w2 f2
                          go_wp2_with fail
                          refine (HSL.out 83 _ hFw (by decide)).mono ?_
                          rintro e w3 ⟨rfl, rfl⟩
                          have haf : af 83 = 115 := by decide
                          try rw [haf]
                          go_wp2_with fail
                          refine wp_loop_rounds 5 ?_
                          rw [rounds_succ]
                          go_wp2_with fail
                          refine (HSL.out 115 _ hFw (by decide)).mono ?_
                          rintro e w3 ⟨rfl, rfl⟩
                          have haf0 : af 115 = 383 := by decide
                          try rw [haf0]
                          go_wp2_with fail
                          rw [rounds_succ]
                          go_wp2_with fail
                          try rw [Exit.noGoto_ret]
                          go_ret
                          exact ⟨⟨_, rfl⟩, F2.out.trans f2⟩
                      ·
                        by_cases hy115 : y = 115
                        · subst hy115
                          rcases Nat.lt_trichotomy 383 R with hbig | hbig | hbig
                          ·
                            have hq : ((383 : Int) == (R : Int)) = false := by rw [beq_eq_false_iff_ne]; omega
                            go_wp2_with fail
                            refine HC.out.mono ?_
                            rintro e w2 ⟨rfl, f2⟩
                            have hFw := HFW.out w2 f2
                            go_wp2_with fail
                            refine (HSL.out 115 _ hFw (by decide)).mono ?_
                            rintro e w3 ⟨rfl, rfl⟩
                            have haf : af 115 = 383 := by decide
                            try rw [haf]
                            go_wp2_with fail
                            refine wp_loop_rounds 5 ?_
                            rw [rounds_succ]
                            go_wp2_with fail
                            refine (H383.out _ hFw).mono ?_
                            rintro e w3 ⟨rfl, rfl⟩
                            go_wp2_with fail
                            rw [rounds_succ]
                            go_wp2_with fail
                            refine (HSL.out 83 _ hFw (by decide)).mono ?_
                            rintro e w3 ⟨rfl, rfl⟩
                            have haf1 : af 83 = 115 := by decide
                            try rw [haf1]
                            go_wp2_with fail
                            rw [rounds_succ]
                            go_wp2_with fail
                            try rw [Exit.noGoto_ret]
                            go_ret
                            exact ⟨⟨_, rfl⟩, F2.out.trans f2⟩
                          ·
                            subst hbig
                            go_wp2_with fail
                            refine HC.out.mono ?_
                            rintro e w2 ⟨rfl, f2⟩
                            have hFw := HFW.out w2 f2
                            go_wp2_with fail
                            refine (HSL.out 115 _ hFw (by decide)).mono ?_
                            rintro e w3 ⟨rfl, rfl⟩
                            have haf : af 115 = 383 := by decide
                            try rw [haf]
                            go_wp2_with fail
                            refine wp_loop_rounds 5 ?_
                            rw [rounds_succ]
                            go_wp2_with fail
                            go_roundw
                            case rel => exact STEP.out _ f2
                            case measure => exact MEAS.out
                          ·
                            have hq : ((383 : Int) == (R : Int)) = false := by rw [beq_eq_false_iff_ne]; omega
                            go_wp2_with fail
                            refine HC.out.mono ?_
                            rintro e w2 ⟨rfl, f2⟩
                            have hFw := HFW.out w2 f2
                            go_wp2_with fail
                            refine (HSL.out 115 _ hFw (by decide)).mono ?_
                            rintro e w3 ⟨rfl, rfl⟩
                            have haf : af 115 = 383 := by decide
                            try rw [haf]
                            go_wp2_with fail
                            refine wp_loop_rounds 5 ?_
                            rw [rounds_succ]
                            go_wp2_with fail
                            try rw [Exit.noGoto_ret]
                            go_ret
                            exact ⟨⟨_, rfl⟩, F2.out.trans f2⟩
                        ·
                          obtain ⟨b0, b1, b2, b3⟩ := af_facts ⟨y, hy7⟩
                          simp only at b0 b1 b2 b3
                          have b4 := b3 hy107 hy115 hy75 hy83
                          have b5 : af y < 128 := by omega
                          clear b2 b3
                          obtain ⟨c, hc⟩ : ∃ c : Nat, af y = c := ⟨(af y).toNat, by omega⟩
                          have hcc : (af y).toNat = c := by omega
                          rw [hcc] at b4
                          have HA := hide hc
                          have HB := hide b4
                          have hc7 : c < 128 := by omega
                          have hcR : (c : Int) < (R : Int) := by omega
                          have hyq : ((y : Int) == (R : Int)) = false := by rw [beq_eq_false_iff_ne]; omega
                          clear hc b4 b0 b1 b5 hcc
                          by_cases hcy : c = y
                          · subst hcy
                            go_wp2_with fail
                            refine HC.out.mono ?_
                            rintro e w2 ⟨rfl, f2⟩
                            have hFw := HFW.out w2 f2
                            go_wp2_with fail
                            refine (HSL.out c _ hFw (by omega)).mono ?_
                            rintro e w3 ⟨rfl, rfl⟩
                            rw [HA.out]
                            go_wp2_with fail
                            refine wp_loop_rounds 1 ?_
                            rw [rounds_succ]
                            go_wp2_with fail
                            try rw [Exit.noGoto_ret]
                            go_ret
                            exact ⟨⟨_, rfl⟩, F2.out.trans f2⟩
                          · have hne2 : ((c : Int) != (y : Int)) = true := by rw [bne_iff_ne]; omega
                            go_wp2_with fail
                            refine HC.out.mono ?_
                            rintro e w2 ⟨rfl, f2⟩
                            have hFw := HFW.out w2 f2
                            go_wp2_with fail
                            refine (HSL.out y _ hFw (by omega)).mono ?_
                            rintro e w3 ⟨rfl, rfl⟩
                            rw [HA.out]
                            go_wp2_with fail
                            refine wp_loop_rounds 2 ?_
                            rw [rounds_succ]
                            go_wp2_with fail
                            refine (HSL.out c _ hFw (by omega)).mono ?_
                            rintro e w3 ⟨rfl, rfl⟩
                            rw [HB.out]
                            go_wp2_with fail
                            rw [rounds_succ]
                            go_wp2_with fail
                            try rw [Exit.noGoto_ret]
                            go_ret
                            exact ⟨⟨_, rfl⟩, F2.out.trans f2⟩
          · have hst : ¬ p < sp.size := by rw [← HR.out]; exact hlt2
            have hnx : ∀ ty, (Instr.next (.pointer (some ⟨V.heap.size, 0, none⟩)) true ty).run Tryd.prog wr = _ := fun ty => Lib.run_next_end_at wr V.heap.size sp p ty HIT.out hst
            go_wp2_with fail
            try rw [Exit.noGoto_ret]
            go_ret
            exact ⟨⟨_, rfl⟩, HFr.out⟩
    · go_wp2_with fail
      simp only [Exit.jump]
      go_ret
      exact ⟨⟨_, rfl⟩, Fr.refl _⟩
end Go.Proofs.YtiemiekkjaknfaaDoor
