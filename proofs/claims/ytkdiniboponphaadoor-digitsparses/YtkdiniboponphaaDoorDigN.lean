/- The law DigitsParses. -/
import Derived.Test.YtkdiniboponphaaDoorDigK
import Derived.Deep.CutBlock
import Derived.Deep.DeepCutAuto
namespace Go.Proofs.YtkdiniboponphaaDoor
set_option linter.unusedVariables false
set_option linter.unusedSimpArgs false
open Go.RowKit

attribute [local go_sem] World.cell?_alloc_some
theorem okF_end {l : List UInt8} {n : Nat} (h : l.length = n) : okF l n = !l.isEmpty := by
  unfold okF
  rw [List.drop_eq_nil_of_le (by omega)]
  simp
theorem valD_dec (l : List UInt8) (h : AllD l) : valD l < 10 ^ l.length := valD_lt l h

set_option maxHeartbeats 8000000 in
set_option maxRecDepth 4000 in
theorem law_DigitsParses (s0 : ByteArray) (a1 : Option Addr) (len1 cap1 : Nat) (z1 : List Int) (w : World) (hs0 : s0.size ≤ maxLen) (h1 : IsRow .u8 w a1 len1 cap1 z1) (hP : PT w) :
    Calls Tryd.prog 4 #[.string s0, .slice a1 len1 cap1] w fun e w' => e = .returned (.bool true) ∧ Fr w w' := by
  obtain ⟨f, cs1, f0, p1, p2, p3⟩ := row_u8 h1
  unfold maxLen at hs0 p2
  obtain ⟨ms, hms, ms1, ms2⟩ : ∃ m : Nat, min (s0.size : Int) 50 = (m : Int) ∧ m ≤ s0.size ∧ m ≤ 50 := ⟨min s0.size 50, by omega, by omega, by omega⟩
  obtain ⟨s, hs⟩ : ∃ s, s0.extract 0 ms = s := ⟨_, rfl⟩
  have hsz : s.size = ms := by rw [← hs]; exact (cut_data s0 ms ms1).2.2.1
  obtain ⟨m, hm⟩ : ∃ m, min len1 200 = m := ⟨_, rfl⟩
  have hmi : min (len1 : Int) 200 = (m : Int) := by omega
  have m1 : m ≤ len1 := by omega
  have m2 : m ≤ 200 := by omega
  obtain ⟨i0, hi, hz0, hz1, hz2⟩ := info_parts info64
  have HP := hide hP
  clear hP h1
  go_enter Tryd.func4, Tryd.ntmps4
  go_upto_region 2 with fail
  go_cut [19, 20, 21] (fun t19 t20 t21 wx => t19 = .slice a1 m cap1 ∧ t20 = .int .i64 m ∧ t21 = .int .i64 0 ∧ Hid (Fr w wx))
  case first =>
    clear cs1 f0
    rcases a1 with _ | ad
    · obtain rfl := p3 rfl
      obtain rfl : len1 = 0 := by omega
      obtain rfl : m = 0 := by omega
      clear p3 hm hmi m1 m2
      go_wp2_with fail
      go_meet
      exact ⟨rfl, rfl, rfl, hide (Fr.refl _)⟩
    · clear p3 hm
      go_wp2_with fail
      go_meet
      exact ⟨rfl, by congr 1, rfl, hide (Fr.refl _)⟩
  case rest =>
    obtain ⟨rfl, rfl, rfl, hF0⟩ := hcut
    have HC := hide cs1
    have HF := hide f0
    clear cs1 f0 p3 hm
    go_wp2_with fail
    go_loopw [5, 21] (fun s i wr => ∃ (k : Nat) (t : ByteArray), k ≤ m ∧ s = .string t ∧ i = .int .i64 k ∧ t.size = k ∧ Hid (Fr w wr)) (fun _ i _ => m - (intOf i).toNat)
    case atStart =>
      exact ⟨0, ⟨#[]⟩, by omega, rfl, rfl, rfl, hF0⟩
    obtain ⟨k, T, hk, rfl, rfl, hts, hF⟩ := hrel
    by_cases hlt : k < m
    · rcases HC.out with q | ⟨b, off, rfl, hb, hcs⟩
      · omega
      obtain ⟨d, hd⟩ : ∃ d : Nat, f k = d := ⟨_, rfl⟩
      have hdb : d ≤ 255 := by rw [← hd]; exact HF.out k
      have hcell := fr_cell hF.out (hcs k (by omega))
      rw [hd] at hcell
      obtain ⟨c, hc⟩ : ∃ c, UInt8.ofNat (48 + d % 10) = c := ⟨_, rfl⟩
      have hcv := conv_byte c (48 + (d : Int) % 10) (by rw [← hc, byte_of (Nat.mod_lt _ (by decide))]; omega)
      have hsz : (bs [c]).size = 1 := bs_size [c]
      clear hd hc hcs
      go_wp2_with fail
      go_roundw
      case rel =>
        refine ⟨k + 1, _, by omega, rfl, by go_num, ?_, hide (hF.out.trans (Fr.alloc _ _))⟩
        rw [ByteArray.size_append, hts, hsz]
      case measure => simp [intOf]; omega
    obtain rfl : k = m := by omega
    have hTs : T.size ≤ 200 := by omega
    clear HC HF p1 p2 m1 hmi hts hlt hk m2
    go_wp2_with fail
    obtain ⟨b, hb⟩ : ∃ b, wr.heap.size = b := ⟨_, rfl⟩
    obtain ⟨W, hW⟩ : ∃ W, W = wr.alloc (Obj.cells #[Value.string s, Value.string T] 9) := ⟨_, rfl⟩
    have fW : Fr wr W := by rw [hW]; exact Fr.alloc _ _
    have k0 : W.cell? ⟨b, 0, none⟩ = some (.string s) := by rw [hW, ← hb]; simp [go_sem]
    have k1 : W.cell? ⟨b, 1, none⟩ = some (.string T) := by rw [hW, ← hb]; simp [go_sem]
    rw [← hW, hb]
    have F0 := hide (hF.out.trans fW)
    clear hW fW hF hb
    go_loopw [41] (fun i wr => ∃ k : Nat, k ≤ 2 ∧ i = .int .i64 k ∧ wr.cell? ⟨b, 0, none⟩ = some (.string s) ∧ wr.cell? ⟨b, 1, none⟩ = some (.string T) ∧ Hid (Fr w wr)) (fun i _ => 2 - (intOf i).toNat)
    case atStart => exact ⟨0, by omega, rfl, k0, k1, F0⟩
    case round =>
      obtain ⟨k, hk, rfl, c0, c1, hF⟩ := hrel
      obtain ⟨V, rfl⟩ : ∃ V, V = wr := ⟨_, rfl⟩
      clear k0 k1 F0
      by_cases hk2 : k < 2
      · obtain ⟨X, hX, hcell⟩ : ∃ X : ByteArray, X.size ≤ 200 ∧ V.cell? ⟨b, k, none⟩ = some (.string X) := by
          rcases k with _ | _ | k
          · exact ⟨s, by omega, c0⟩
          · exact ⟨T, hTs, c1⟩
          · omega
        have C0 := hide c0
        have C1 := hide c1
        clear c0 c1
        obtain ⟨l, hl⟩ : ∃ l, X.data.toList = l := ⟨_, rfl⟩
        obtain ⟨n, hn⟩ : ∃ n, X.size = n := ⟨_, rfl⟩
        have hln : l.length = n := by rw [← hl, len_data, hn]
        obtain ⟨e0, he0⟩ : ∃ e0, X.toList.isEmpty = e0 := ⟨_, rfl⟩
        have HE : Hid (okF l n = !e0) := hide (by rw [okF_end hln, ← he0, empty_of, hl])
        have hn2 : n ≤ 200 := by omega
        have HLN := hide hln
        have HL := hide hl
        have HX := hide hX
        clear hln hl hX
        go_wp2_with fail
        have hkd : decide ((k : Int) < 2) = true := decide_eq_true (by omega)
        simp only [hkd]
        have HK2 := hide hk2
        clear hk2 hkd
        go_loopw [10, 11, 12] (fun d o i wx => ∃ (r q : Nat) (ao : Option Addr) (co : Nat) (ob : Bool), r + q = n ∧ ((r = 0 ∧ i = .int .i64 (-1)) ∨ ∃ j : Nat, r = j + 1 ∧ i = .int .i64 j) ∧ d = .slice ao q co ∧ o = .bool ob ∧ Hid (okF l r = ob) ∧ Hid (wx.ownsRow V.heap.size 3 1 (.slice ao q co) q (rowZ l q)) ∧ Hid (Fr V wx)) (fun _ _ i _ => (intOf i + 1).toNat)
        case atStart =>
          refine ⟨n, 0, none, 0, !e0, by omega, ?_, rfl, rfl, HE, hide (World.ownsRow_nil _ _ _ _), hide (Fr.refl _)⟩
          rcases n with _ | n
          · exact .inl ⟨rfl, by go_num⟩
          · exact .inr ⟨n, rfl, by go_num⟩
        case round =>
          obtain ⟨r, q, ao, co, ob, hrq, hri, rfl, rfl, hOK, hO, hF2⟩ := hrel
          clear he0 HE
          rcases hri with ⟨rfl, rfl⟩ | ⟨j, rfl, rfl⟩
          · obtain rfl : q = n := by omega
            have c0 := fr_cell hF2.out C0.out
            have c1 := fr_cell hF2.out C1.out
            have F := hide (hF.out.trans hF2.out)
            have hk2 : k ≤ 1 := by have := HK2.out; omega
            clear hF hF2 C0 C1 HK2 hrq hcell hk
            cases ob
            · have hno : X.data.toList = [] ∨ ¬ AllD X.data.toList := by
                rw [HL.out]
                by_cases e : l = []
                · exact .inl e
                · refine .inr (fun h => ?_)
                  have := (okF_zero l).2 ⟨e, h⟩
                  rw [hOK.out] at this
                  cases this
              have PN := hide (fun w => parse_no X w (by unfold maxLen; omega) hno)
              have BN := hide (fun w => bits_any (.agg #[.slice none 0 0]) 0 w (isNat_zero w) (by rw [nlen_zero]; omega))
              rw [nlen_zero] at BN
              clear hno hO hOK
              go_wp2_with fail
              refine (PN.out _).mono ?_
              rintro e w2 ⟨rfl, f2⟩
              have c0 := fr_cell f2 c0
              have c1 := fr_cell f2 c1
              have F := hide (F.out.trans f2)
              clear f2 PN
              go_wp2_with fail
              refine (BN.out _).mono ?_
              rintro e w3 ⟨rfl, f3⟩
              have c0 := fr_cell ((Fr.alloc _ _).trans f3) c0
              have c1 := fr_cell ((Fr.alloc _ _).trans f3) c1
              have F := hide ((F.out.trans (Fr.alloc _ _)).trans f3)
              clear f3 BN
              go_wp2_with fail
              go_roundw
              case rel => exact ⟨k + 1, by omega, by go_num, c0, c1, F⟩
              case measure => simp [intOf]; omega
            · obtain ⟨hne, hall⟩ := (okF_zero l).1 hOK.out
              obtain ⟨x, hx⟩ : ∃ x, valD l = x := ⟨_, rfl⟩
              have PY := hide (fun w => parse_yes X x w (by omega) (by rw [HL.out]; exact hne) (by rw [HL.out]; exact hall) (by rw [HL.out]; exact hx))
              have HN : Hid (IsDecN wr (.slice ao q co) q x) := by
                obtain ⟨_, _, he, hc1, hc2, _⟩ := own_form hO.out
                simp only [Value.slice.injEq] at he
                obtain ⟨rfl, _, rfl⟩ := he
                have ho := hO.out
                have hr := rowZ_dec hall
                rw [HLN.out, hx] at hr
                rw [hr] at ho
                exact ⟨ao, co, rfl, hc1, hc2, by rw [← hx, ← HLN.out]; exact valD_lt l hall, own_cs ho⟩
              have nx : nlen 4294967296 x ≤ 200 := by have := nl_valD hall; rw [hx, HLN.out] at this; omega
              have LX := hide (lt_nlen (B := 4294967296) (by decide) x)
              have nx10 : nlen 10 x ≤ 2000 := by have := nl10 LX.out; omega
              have hcm : cmpZ x x = 0 := by unfold cmpZ; simp
              clear hne hall hx hO hOK
              go_wp2_with fail
              refine (PY.out _).mono ?_
              rintro e w2 ⟨ax, cx, rfl, ix, _, f2⟩
              go_wp2_with fail
              obtain ⟨W2, hW2⟩ : ∃ W2, W2 = w2.alloc (Obj.cells #[Value.slice ax (nlen 4294967296 x) cx] 24) := ⟨_, rfl⟩
              have fW : Fr w2 W2 := by rw [hW2]; exact Fr.alloc _ _
              have ca : W2.cell? ⟨w2.heap.size, 0, none⟩ = some (.slice ax (nlen 4294967296 x) cx) := by rw [hW2]; simp [go_sem]
              rw [← hW2]
              have IX := hide (IsNat.fr ix fW)
              have c0 := fr_cell (f2.trans fW) c0
              have c1 := fr_cell (f2.trans fW) c1
              have F := hide (F.out.trans (f2.trans fW))
              have HN := hide (IsDecN.fr HN.out (f2.trans fW))
              clear hW2 fW ix f2 PY
              have fz := hide (Fr.refl W2)
              refine (limbs_lm _ x _ IX.out (by omega)).mono ?_
              rintro e w3 ⟨al, cl, rfl, hcl, ML, f3⟩
              have ML := hide ML
              have fz := hide (fz.out.trans f3)
              clear f3
              go_wp2_with fail
              refine (refMade_any x (nlen 4294967296 x) cl al _ LX.out (by omega) ML.out.1).mono ?_
              rintro e w4 ⟨vm, rfl, DM, f4⟩
              have fz := hide (fz.out.trans f4)
              have DM := hide DM
              clear f4 ML
              go_wp2_with fail
              refine (refAdd_gen _ _ x 0 q 0 _ (IsDecN.fr HN.out fz.out) (isDecN_nil _) (by omega) (by omega)).mono ?_
              rintro e w5 ⟨vs, rfl, DS, f5⟩
              rw [Nat.add_zero] at DS
              have DS := hide DS
              have DM := hide (IsDec.fr DM.out f5)
              have fz := hide (fz.out.trans f5)
              clear f5
              go_wp2_with fail
              refine (refCmp_any _ _ x x _ DM.out DS.out (by omega) (by omega)).mono ?_
              rintro e w6 ⟨rfl, f6⟩
              have fz := hide (fz.out.trans f6)
              clear f6 DM DS
              rw [hcm]
              go_wp2_with fail
              go_roundw
              case rel => exact ⟨k + 1, by omega, by go_num, fr_cell fz.out c0, fr_cell fz.out c1, hide (F.out.trans fz.out)⟩
              case measure => simp [intOf]; omega
          · have hjx : j < X.size := by omega
            obtain ⟨c, hc, hd⟩ := data_at X j hjx
            obtain ⟨z, hz⟩ : ∃ z : Int, (c.toNat : Int) = z := ⟨_, rfl⟩
            have hzb := byte_bd c
            rw [hz] at hzb
            have hcz : ((X[j]'hjx).toNat : Int) = z := by rw [hc, hz]
            rw [HL.out] at hd
            have hst := okF_step hd
            rw [hOK.out] at hst
            have hfe : Hid (fromEnd l q = z - 48) := by
              unfold Hid fromEnd
              rw [HLN.out, show n - 1 - q = j by omega, List.getD_eq_getElem?_getD, hd, ← hz]
              rfl
            have HST : Hid (okF l j = (ob && (decide (48 ≤ z) && decide (z ≤ 57)))) := by
              unfold Hid
              rw [hst, ← hz]
              congr 2
              · exact decide_eq_decide.2 (by omega)
              · exact decide_eq_decide.2 (by omega)
            obtain ⟨z0, z9⟩ := hzb
            clear hd hz hc hst
            have hq2 : q ≤ 200 := by omega
            go_wp2_with (at_builtin; refine wpList_append_own _ rfl _ _ 28 rfl V.heap.size 3 i0 (.int .i64 0) 1 8 Tryd.underlying28 hi hz0 hz1 hz2 rfl (by decide) _ _ _ rfl (hO.out.alloc _) ⟨wr.heap.size, 0, none⟩ 1 1 [.int .i64 (z - 48)] rfl rfl ?c1 ?c2 ?c3 ?c4 ?c5 ?_)
            case c1 => exact cell_one_new _ _ _
            case c2 => intro u hu; simp at hu; subst hu; rfl
            case c3 => unfold maxLen; omega
            case c4 => omega
            case c5 => have := hF2.out.size; simp; omega
            intro v' w2 hown' hgrow _
            obtain ⟨a2, c2, hv2, _, _, _⟩ := own_form hown'
            rw [hv2] at hown'
            rw [hv2]
            have hF3 : Fr V w2 := Below.grown (Below.alloc hF2.out hF2.out.size _) hgrow (by have := hF2.out.size; simp; omega) (own_below hO.out)
            have hown2 : w2.ownsRow V.heap.size 3 1 (.slice a2 (q + 1) c2) (q + 1) (rowZ l (q + 1)) := by
              rw [← rowZ_snoc, hfe.out]; exact hown'
            have HO2 := hide hown2
            have HF3 := hide hF3
            clear hgrow hown' hv2 hown2 hF3 hO hF2
            have hri : ∀ v : Value, v = .int .i64 ((j : Int) - 1) → ((j = 0 ∧ v = .int .i64 (-1)) ∨ ∃ j' : Nat, j = j' + 1 ∧ v = .int .i64 j') := by
              rintro v rfl
              rcases j with _ | j
              · exact .inl ⟨rfl, by go_num⟩
              · exact .inr ⟨j, rfl, by go_num⟩
            have HRI := hide hri
            clear hri
            cases ob
            · go_wp2_with fail
              go_roundw
              case rel => exact ⟨j, q + 1, a2, c2, false, by omega, HRI.out _ (by go_num), rfl, rfl, hide (by rw [HST.out]; rfl), HO2, HF3⟩
              case measure => simp [intOf]
            · by_cases g1 : 48 ≤ z
              · by_cases g2 : z ≤ 57
                · go_wp2_with fail
                  go_roundw
                  case rel => exact ⟨j, q + 1, a2, c2, true, by omega, HRI.out _ (by go_num), rfl, rfl, hide (by rw [HST.out, decide_eq_true g1, decide_eq_true g2]; rfl), HO2, HF3⟩
                  case measure => simp [intOf]
                · have g3 : 57 < z := by omega
                  go_wp2_with fail
                  go_roundw
                  case rel => exact ⟨j, q + 1, a2, c2, false, by omega, HRI.out _ (by go_num), rfl, rfl, hide (by rw [HST.out, decide_eq_true g1, decide_eq_false g2]; rfl), HO2, HF3⟩
                  case measure => simp [intOf]
              · have g3 : z < 48 := by omega
                go_wp2_with fail
                go_roundw
                case rel => exact ⟨j, q + 1, a2, c2, false, by omega, HRI.out _ (by go_num), rfl, rfl, hide (by rw [HST.out, decide_eq_false g1]; rfl), HO2, HF3⟩
                case measure => simp [intOf]
      · obtain rfl : k = 2 := by omega
        clear c0 c1 hTs
        go_wp2_with fail
        refine (wakes_any _ (PT.fr HP.out hF.out)).mono ?_
        rintro e w3 ⟨rfl, f3⟩
        have F := hide (hF.out.trans f3)
        clear f3
        go_wp2_with fail
        go_ret
        exact ⟨rfl, F.out⟩
end Go.Proofs.YtkdiniboponphaaDoor
