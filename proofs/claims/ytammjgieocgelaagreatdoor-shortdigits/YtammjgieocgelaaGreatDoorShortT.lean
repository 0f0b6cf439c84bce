/- Layer 10, the document's: Trim, Plain. -/
import Derived.Test.YtammjgieocgelaaGreatDoorShortP
import Derived.Test.YtammjgieocgelaaGreatDoorPackG
import Derived.Deep.DeepCutAuto
namespace Go.Proofs.YtammjgieocgelaaGreatDoor
set_option linter.unusedVariables false
set_option linter.unusedSimpArgs false
open Go.RowKit
open Go.Lib (decDigits trimRightB)

attribute [local go_sem] World.cell?_alloc_some
theorem ext_take (s : ByteArray) (q : Nat) (h : q ≤ s.size) : s.extract 0 q = bs (s.data.toList.take q) := by
  rw [bs_eta (s.extract 0 q), (cut_data s q h).1]
theorem ext_drop (s : ByteArray) (q : Nat) (h : q ≤ s.size) : s.extract q s.size = bs (s.data.toList.drop q) := by
  rw [bs_eta (s.extract q s.size), (cut_data s q h).2.1]
theorem byte48 {c : UInt8} {z : Int} (h : (c.toNat : Int) = z) : c = 48 ↔ z = 48 := by
  constructor
  · intro e; rw [← h, e]; rfl
  · intro e; exact UInt8.toNat_inj.1 (by show c.toNat = 48; omega)

set_option maxHeartbeats 2000000 in
set_option maxRecDepth 4000 in
theorem refTrim10_any (s T : ByteArray) (w : World) (hs : s.size ≤ 1000000) (h0 : s.data.toList ≠ []) (hh : s.data.toList.head? ≠ some 48) (hT : bs (trimRightB s.data.toList 48) = T) :
    Calls Tryz.prog 15 #[.string s] w fun e w' => e = .returned (.string T) ∧ w' = w := by
  have hl := len_data s
  have hp : 0 < s.size := by rw [← hl]; exact List.length_pos_iff.2 h0
  have FIN : Hid (∀ q, q ≤ s.size → trimRightB (s.data.toList.take q) 48 = trimRightB s.data.toList 48 → trimRightB (s.data.toList.take q) 48 = s.data.toList.take q → s.extract 0 q = T) := by
    intro q hq e1 e2
    rw [ext_take s q hq, ← e2, e1, hT]
  have HH := hide hh
  have HL := hide hl
  clear hl hh h0 hT
  go_enter Tryz.func15, Tryz.ntmps15
  go_wp2_with fail
  go_loopw [3] (fun s3 wr => ∃ q : Nat, 1 ≤ q ∧ q ≤ s.size ∧ s3 = .int .i64 q ∧ Hid (trimRightB (s.data.toList.take q) 48 = trimRightB s.data.toList 48) ∧ wr = w) (fun s3 _ => (intOf s3).toNat)
  case atStart => exact ⟨s.size, by omega, by omega, rfl, hide (by rw [← HL.out, List.take_length]), rfl⟩
  case round =>
    obtain ⟨q, q1, q2, rfl, hR, rfl⟩ := hrel
    obtain ⟨j, hj⟩ : ∃ j : Nat, (q : Int) - 1 = j := ⟨q - 1, by omega⟩
    have hlt : j < s.size := by omega
    have hjq : q = j + 1 := by omega
    obtain ⟨c, hc, hd⟩ := data_at s j hlt
    obtain ⟨z, hz⟩ : ∃ z : Int, (c.toNat : Int) = z := ⟨_, rfl⟩
    have hzb := byte_bd c
    rw [hz] at hzb
    have hcz : ((s[j]'hlt).toNat : Int) = z := by rw [hc, hz]
    have HD := hide hd
    have HZ := hide (byte48 hz)
    have q0 : (0 : Int) ≤ q := by omega
    have qs : (q : Int) ≤ s.size := by omega
    have qt : (q : Int).toNat = q := by omega
    have qj := hide hjq
    clear hd hz hc hjq
    by_cases c1 : 1 < (q : Int)
    · by_cases c2 : z = 48
      · have e1 : trimRightB (s.data.toList.take q) 48 = trimRightB (s.data.toList.take j) 48 := by
          rw [qj.out]
          exact trim_down (by rw [HD.out, HZ.out.2 c2])
        have HR := hide (e1.symm.trans hR.out)
        clear e1
        subst c2
        go_wp2_with fail
        go_roundw
        case rel => exact ⟨j, by omega, by omega, by first | rfl | (congr 1), HR, by first | rfl | trivial⟩
        case measure => simp [intOf]; omega
      · have e1 : trimRightB (s.data.toList.take q) 48 = s.data.toList.take q := by
          rw [qj.out]
          exact trim_stop HD.out (fun e => c2 (HZ.out.1 e))
        have HT := hide (FIN.out q q2 hR.out e1)
        have hz2 : (z == 48) = false := by simp only [beq_eq_false_iff_ne, ne_eq]; omega
        clear e1 FIN
        go_wp2_with fail
        go_ret
        exact ⟨by rw [← HT.out]; rfl, rfl⟩
    · obtain rfl : q = 1 := by omega
      obtain rfl : j = 0 := by omega
      have c2 : z ≠ 48 := by
        intro e
        apply HH.out
        rw [List.head?_eq_getElem?, HD.out, HZ.out.2 e]
      have e1 : trimRightB (s.data.toList.take (0 + 1)) 48 = s.data.toList.take (0 + 1) := trim_stop HD.out (fun e => c2 (HZ.out.1 e))
      have HT := hide (FIN.out 1 q2 hR.out e1)
      clear e1 FIN c1
      go_wp2_with fail
      go_ret
      exact ⟨by rw [← HT.out]; rfl, rfl⟩

set_option maxHeartbeats 2000000 in
set_option maxRecDepth 4000 in
theorem refPlain_neg (s T : ByteArray) (e : Int) (w : World) (hs : s.size ≤ 400) (e0 : -5000 ≤ e) (e1 : e ≤ 5000) (hneg : e < 0) (hT : bs (plainP s.data.toList e) = T) :
    Calls Tryz.prog 19 #[.string s, .int .i64 e] w fun r w' => r = .returned (.string T) ∧ w' = w := by
  obtain ⟨l, hl⟩ : ∃ l, s.data.toList = l := ⟨_, rfl⟩
  have hln : l.length = s.size := by rw [← hl, len_data]
  rw [hl] at hT
  obtain ⟨O, hO⟩ : ∃ O, bs (wholeP l e) = O := ⟨_, rfl⟩
  obtain ⟨X, hX⟩ : ∃ X, bs (partP l e) = X := ⟨_, rfl⟩
  have zO : O.size ≤ 20000 := by rw [← hO, bs_size]; have := whole_size l e e1; omega
  have zX : X.size ≤ 20000 := by rw [← hX, bs_size]; have := part_size l e e0; omega
  have xl : X.data.toList = partP l e := by rw [← hX, bs_data]
  have FIN0 : Hid (trimRightB X.data.toList 48 = [] → O = T) := by
    intro h
    rw [xl] at h
    rw [← hT, ← hO]
    unfold plainP
    rw [if_pos h]
  have FIN1 : Hid (∀ q, 0 < q → q ≤ X.size → trimRightB (X.data.toList.take q) 48 = trimRightB X.data.toList 48 → trimRightB (X.data.toList.take q) 48 = X.data.toList.take q → O ++ ⟨#[46]⟩ ++ X.extract 0 q = T) := by
    intro q hq1 hq2 k1 k2
    have k3 : trimRightB (partP l e) 48 = X.data.toList.take q := by rw [← xl, ← k1, k2]
    have k4 : X.data.toList.take q ≠ [] := by
      intro k
      have := congrArg List.length k
      rw [List.length_take, len_data, List.length_nil] at this
      omega
    rw [ext_take X q hq2, ← hT, ← hO]
    unfold plainP
    rw [k3, if_neg k4, show (⟨#[46]⟩ : ByteArray) = bs [46] from rfl, bs_append, bs_append]
    simp
  have eO : O = ⟨#[48]⟩ := by
    rw [← hO]
    unfold wholeP
    rw [if_pos hneg]
  have eX : bs (List.replicate (-1 - e).toNat 48) ++ s = X := by
    rw [← hX]
    conv => lhs; rw [bs_eta s, hl]
    rw [bs_append]
    unfold partP
    rw [if_pos hneg]
  obtain ⟨n, hn⟩ : ∃ n, (-1 - e).toNat = n := ⟨_, rfl⟩
  rw [hn] at eX
  subst eO
  have EX := hide eX
  have hn2 : (n : Int) = -1 - e := by omega
  have hneg' : ¬ 0 ≤ e := by omega
  clear hT hO hX xl hn hl hln eX
  go_enter Tryz.func19, Tryz.ntmps19
  go_wp2_with fail
  refine wp_loop_rounds 1 ?_
  rw [rounds_succ]
  go_wp2_with fail
  go_loopw [7, 8] (fun s7 s8 wr => ∃ (j : Nat) (i : Int) (t : ByteArray), j ≤ n ∧ s7 = .string t ∧ s8 = .int .i64 i ∧ i = -1 - (j : Int) ∧ Hid (t = bs (List.replicate j 48)) ∧ t.size = j ∧ wr = w) (fun _ s8 _ => (intOf s8 - e).toNat)
  case atStart => exact ⟨0, -1, ⟨#[]⟩, by omega, rfl, rfl, by omega, hide rfl, rfl, rfl⟩
  case round =>
    obtain ⟨j, i, t, hj, rfl, rfl, hi, hT, hts, rfl⟩ := hrel
    have HI := hide hi
    by_cases c : j < n
    · have c' : e < i := by omega
      have i0 : -6000 ≤ i := by omega
      have i1 : i ≤ 0 := by omega
      have HE : Hid (t ++ ⟨#[48]⟩ = bs (List.replicate (j + 1) 48)) := by
        refine hide ?_
        rw [hT.out, show (⟨#[48]⟩ : ByteArray) = bs [48] from rfl, bs_append, List.replicate_succ']
      have hz : (⟨#[48]⟩ : ByteArray).size = 1 := rfl
      clear hi
      go_wp2_with fail
      go_roundw
      case rel =>
        refine ⟨j + 1, _, _, by omega, rfl, rfl, by have := HI.out; omega, HE, ?_, by first | rfl | trivial⟩
        rw [HE.out, bs_size, List.length_replicate]
      case measure => simp [intOf]; omega
    · have c' : ¬ e < i := by omega
      obtain rfl : j = n := by omega
      have ex : t ++ s = X := by rw [hT.out, EX.out]
      clear hi HI
      obtain ⟨V, rfl⟩ : ∃ V, V = wr := ⟨_, rfl⟩
      go_wp2_with fail
      go_loopw [9] (fun s9 wr => ∃ q : Nat, q ≤ X.size ∧ s9 = .int .i64 q ∧ Hid (trimRightB (X.data.toList.take q) 48 = trimRightB X.data.toList 48) ∧ wr = V) (fun s9 _ => (intOf s9).toNat)
      case atStart => exact ⟨X.size, Nat.le_refl _, rfl, hide (by rw [← len_data X, List.take_length]), rfl⟩
      case round =>
        obtain ⟨q, q2, rfl, hR, rfl⟩ := hrel
        by_cases c0 : q = 0
        · subst c0
          have HT := hide (FIN0.out (by rw [← hR.out]; rfl))
          clear FIN0 FIN1 hR
          go_wp2_with fail
          go_ret
          exact ⟨by rw [← HT.out]; rfl, rfl⟩
        · obtain ⟨j, hj⟩ : ∃ j : Nat, (q : Int) - 1 = j := ⟨q - 1, by omega⟩
          have hlt : j < X.size := by omega
          have hjq : q = j + 1 := by omega
          obtain ⟨c, hc, hd⟩ := data_at X j hlt
          obtain ⟨z, hz⟩ : ∃ z : Int, (c.toNat : Int) = z := ⟨_, rfl⟩
          have hzb := byte_bd c
          rw [hz] at hzb
          have hcz : ((X[j]'hlt).toNat : Int) = z := by rw [hc, hz]
          have HD := hide hd
          have HZ := hide (byte48 hz)
          have q0 : (0 : Int) < q := by omega
          have qs : (q : Int) ≤ X.size := by omega
          have qt : (q : Int).toNat = q := by omega
          have qz : ((q : Int) == 0) = false := by simp only [beq_eq_false_iff_ne, ne_eq]; omega
          have qj := hide hjq
          clear hd hz hc hjq
          by_cases c2 : z = 48
          · have e1 : trimRightB (X.data.toList.take q) 48 = trimRightB (X.data.toList.take j) 48 := by
              rw [qj.out]
              exact trim_down (by rw [HD.out, HZ.out.2 c2])
            have HR := hide (e1.symm.trans hR.out)
            clear e1
            subst c2
            go_wp2_with fail
            go_roundw
            case rel => exact ⟨j, by omega, by first | rfl | (congr 1), HR, by first | rfl | trivial⟩
            case measure => simp [intOf]; omega
          · have e1 : trimRightB (X.data.toList.take q) 48 = X.data.toList.take q := by
              rw [qj.out]
              exact trim_stop HD.out (fun e => c2 (HZ.out.1 e))
            have HT := hide (FIN1.out q (by omega) q2 hR.out e1)
            have hz2 : (z == 48) = false := by simp only [beq_eq_false_iff_ne, ne_eq]; omega
            obtain ⟨P, hP⟩ : ∃ P, X.extract 0 q = P := ⟨_, rfl⟩
            have zP : P.size ≤ 20000 := by rw [← hP, (cut_data X q q2).2.2.1]; omega
            rw [hP] at HT
            clear e1 FIN0 FIN1
            go_wp2_with fail
            go_ret
            exact ⟨by rw [← HT.out]; rfl, rfl⟩

set_option maxHeartbeats 2000000 in
set_option maxRecDepth 4000 in
theorem refPlain_pos (s T : ByteArray) (e : Int) (w : World) (hs : s.size ≤ 400) (e0 : -5000 ≤ e) (e1 : e ≤ 5000) (hpos : 0 ≤ e) (hT : bs (plainP s.data.toList e) = T) :
    Calls Tryz.prog 19 #[.string s, .int .i64 e] w fun r w' => r = .returned (.string T) ∧ w' = w := by
  obtain ⟨l, hl⟩ : ∃ l, s.data.toList = l := ⟨_, rfl⟩
  have hln : l.length = s.size := by rw [← hl, len_data]
  rw [hl] at hT
  obtain ⟨O, hO⟩ : ∃ O, bs (wholeP l e) = O := ⟨_, rfl⟩
  obtain ⟨X, hX⟩ : ∃ X, bs (partP l e) = X := ⟨_, rfl⟩
  have zO : O.size ≤ 20000 := by rw [← hO, bs_size]; have := whole_size l e e1; omega
  have zX : X.size ≤ 20000 := by rw [← hX, bs_size]; have := part_size l e e0; omega
  have xl : X.data.toList = partP l e := by rw [← hX, bs_data]
  have FIN0 : Hid (trimRightB X.data.toList 48 = [] → O = T) := by
    intro h
    rw [xl] at h
    rw [← hT, ← hO]
    unfold plainP
    rw [if_pos h]
  have FIN1 : Hid (∀ q, 0 < q → q ≤ X.size → trimRightB (X.data.toList.take q) 48 = trimRightB X.data.toList 48 → trimRightB (X.data.toList.take q) 48 = X.data.toList.take q → O ++ ⟨#[46]⟩ ++ X.extract 0 q = T) := by
    intro q hq1 hq2 k1 k2
    have k3 : trimRightB (partP l e) 48 = X.data.toList.take q := by rw [← xl, ← k1, k2]
    have k4 : X.data.toList.take q ≠ [] := by
      intro k
      have := congrArg List.length k
      rw [List.length_take, len_data, List.length_nil] at this
      omega
    rw [ext_take X q hq2, ← hT, ← hO]
    unfold plainP
    rw [k3, if_neg k4, show (⟨#[46]⟩ : ByteArray) = bs [46] from rfl, bs_append, bs_append]
    simp
  obtain ⟨n, rfl⟩ : ∃ n : Nat, e = n := ⟨e.toNat, by omega⟩
  have eO : O = bs (l.take (n + 1) ++ List.replicate (n + 1 - l.length) 48) := by
    rw [← hO]
    unfold wholeP
    rw [if_neg (by omega), Int.toNat_natCast]
  have eX1 : Hid (n + 1 < s.size → s.extract (n + 1) s.size = X) := by
    intro h
    rw [ext_drop s (n + 1) (by omega), ← hX, hl]
    unfold partP
    rw [if_neg (by omega), Int.toNat_natCast]
  have eX2 : Hid (¬ n + 1 < s.size → X = ⟨#[]⟩) := by
    intro h
    rw [← hX]
    unfold partP
    rw [if_neg (by omega), Int.toNat_natCast, List.drop_eq_nil_of_le (by omega)]
  have EO := hide eO
  have HL := hide hl
  have HLN := hide hln
  have hneg : ¬ (n : Int) < 0 := by omega
  clear hT hO hX xl hl hln eO
  go_enter Tryz.func19, Tryz.ntmps19
  go_wp2_with fail
  go_loopw [5, 6] (fun s5 s6 wr => ∃ (i : Nat) (t : ByteArray), i ≤ n + 1 ∧ s5 = .string t ∧ s6 = .int .i64 i ∧ Hid (t = bs (l.take i ++ List.replicate (i - l.length) 48)) ∧ t.size = i ∧ wr = w) (fun _ s6 _ => n + 1 - (intOf s6).toNat)
  case atStart => exact ⟨0, ⟨#[]⟩, by omega, rfl, rfl, hide (by rw [Nat.zero_sub]; rfl), rfl, rfl⟩
  case round =>
    obtain ⟨i, t, hi, rfl, rfl, hT, hts, rfl⟩ := hrel
    by_cases c : i ≤ n
    · have c' : (i : Int) ≤ n := by omega
      by_cases c2 : i < s.size
      · have c2' : (i : Int) < s.size := by omega
        obtain ⟨b, hb, hd⟩ := data_at s i c2
        rw [HL.out] at hd
        have hx : s.extract i (i + 1) = bs [b] := by
          apply ByteArray.ext
          apply Array.ext'
          rw [ByteArray.data_extract, Array.toList_extract, HL.out, List.extract_eq_take_drop, show i + 1 - i = 1 by omega]
          have hlt : i < l.length := by rw [HLN.out]; exact c2
          rw [List.drop_eq_getElem_cons hlt, List.take_succ_cons, List.take_zero]
          rw [List.getElem?_eq_getElem hlt] at hd
          injection hd with hd
          rw [hd]
        obtain ⟨Y, hY⟩ : ∃ Y, s.extract i (i + 1) = Y := ⟨_, rfl⟩
        have hYb : Y = bs [b] := by rw [← hY, hx]
        have zY : Y.size = 1 := by rw [hYb, bs_size]; rfl
        have HE : Hid (t ++ Y = bs (l.take (i + 1) ++ List.replicate (i + 1 - l.length) 48)) := by
          have := HLN.out
          refine hide ?_
          rw [hT.out, hYb, bs_append, take_snoc hd, show i - l.length = 0 by omega, show i + 1 - l.length = 0 by omega]
          simp
        have i3 : (i : Int) + 1 ≤ s.size := by omega
        have it : ((i : Int) + 1).toNat = i + 1 := by omega
        have it0 : ((i : Int)).toNat = i := by omega
        clear hb hd hx hYb
        go_wp2_with fail
        go_roundw
        case rel =>
          refine ⟨i + 1, _, by omega, rfl, by go_num, HE, ?_, by first | rfl | trivial⟩
          rw [ByteArray.size_append, hts, zY]
        case measure => simp [intOf]; omega
      · have c2' : ¬ (i : Int) < s.size := by omega
        have HE : Hid (t ++ ⟨#[48]⟩ = bs (l.take (i + 1) ++ List.replicate (i + 1 - l.length) 48)) := by
          have := HLN.out
          refine hide ?_
          rw [hT.out, show (⟨#[48]⟩ : ByteArray) = bs [48] from rfl, bs_append, List.take_of_length_le (by omega), List.take_of_length_le (by omega), show i + 1 - l.length = (i - l.length) + 1 by omega, List.replicate_succ', List.append_assoc]
        have hz : (⟨#[48]⟩ : ByteArray).size = 1 := rfl
        go_wp2_with fail
        go_roundw
        case rel =>
          refine ⟨i + 1, _, by omega, rfl, by go_num, HE, ?_, by first | rfl | trivial⟩
          rw [ByteArray.size_append, hts, hz]
        case measure => simp [intOf]; omega
    · have c' : ¬ (i : Int) ≤ n := by omega
      obtain rfl : i = n + 1 := by omega
      obtain rfl : t = O := by rw [hT.out, EO.out]
      obtain ⟨V, rfl⟩ : ∃ V, V = wr := ⟨_, rfl⟩
      have hm : ¬ (n : Int) < -1 := by omega
      have hp' : 0 ≤ (n : Int) := by omega
      clear EO hT hts
      go_wp2_with fail
      refine wp_loop_rounds 1 ?_
      rw [rounds_succ]
      go_upto_if 50 with fail
      go_cut [7] (fun s7 wx => s7 = .string X ∧ wx = V)
      case first =>
        by_cases c3 : n + 1 < s.size
        · have hx := eX1.out c3
          have c3' : (n : Int) + 1 < s.size := by omega
          have nt : ((n : Int) + 1).toNat = n + 1 := by omega
          have c4 : (n : Int) + 1 ≤ s.size := by omega
          go_wp2_with fail
          go_meet
          exact ⟨by first | rfl | (congr 1), rfl⟩
        · obtain rfl := eX2.out c3
          have c3' : ¬ (n : Int) + 1 < s.size := by omega
          go_wp2_with fail
          go_meet
          exact ⟨rfl, rfl⟩
      case rest =>
      obtain ⟨rfl, hw⟩ := hcut
      obtain ⟨U, hU⟩ : ∃ V, V = wc := ⟨_, rfl⟩
      rw [← hU] at hw ⊢
      clear hU
      subst hw
      go_wp2_with fail
      go_loopw [9] (fun s9 wr => ∃ q : Nat, q ≤ X.size ∧ s9 = .int .i64 q ∧ Hid (trimRightB (X.data.toList.take q) 48 = trimRightB X.data.toList 48) ∧ wr = U) (fun s9 _ => (intOf s9).toNat)
      case atStart => exact ⟨X.size, Nat.le_refl _, rfl, hide (by rw [← len_data X, List.take_length]), rfl⟩
      case round =>
        obtain ⟨q, q2, rfl, hR, rfl⟩ := hrel
        by_cases c0 : q = 0
        · subst c0
          have HT := hide (FIN0.out (by rw [← hR.out]; rfl))
          clear FIN0 FIN1 hR
          go_wp2_with fail
          go_ret
          exact ⟨by rw [← HT.out]; rfl, rfl⟩
        · obtain ⟨j, hj⟩ : ∃ j : Nat, (q : Int) - 1 = j := ⟨q - 1, by omega⟩
          have hlt : j < X.size := by omega
          have hjq : q = j + 1 := by omega
          obtain ⟨c, hc, hd⟩ := data_at X j hlt
          obtain ⟨z, hz⟩ : ∃ z : Int, (c.toNat : Int) = z := ⟨_, rfl⟩
          have hzb := byte_bd c
          rw [hz] at hzb
          have hcz : ((X[j]'hlt).toNat : Int) = z := by rw [hc, hz]
          have HD := hide hd
          have HZ := hide (byte48 hz)
          have q0 : (0 : Int) < q := by omega
          have qs : (q : Int) ≤ X.size := by omega
          have qt : (q : Int).toNat = q := by omega
          have qz : ((q : Int) == 0) = false := by simp only [beq_eq_false_iff_ne, ne_eq]; omega
          have qj := hide hjq
          clear hd hz hc hjq
          by_cases c2 : z = 48
          · have e1 : trimRightB (X.data.toList.take q) 48 = trimRightB (X.data.toList.take j) 48 := by
              rw [qj.out]
              exact trim_down (by rw [HD.out, HZ.out.2 c2])
            have HR := hide (e1.symm.trans hR.out)
            clear e1
            subst c2
            go_wp2_with fail
            go_roundw
            case rel => exact ⟨j, by omega, by first | rfl | (congr 1), HR, by first | rfl | trivial⟩
            case measure => simp [intOf]; omega
          · have e1 : trimRightB (X.data.toList.take q) 48 = X.data.toList.take q := by
              rw [qj.out]
              exact trim_stop HD.out (fun e => c2 (HZ.out.1 e))
            have HT := hide (FIN1.out q (by omega) q2 hR.out e1)
            have hz2 : (z == 48) = false := by simp only [beq_eq_false_iff_ne, ne_eq]; omega
            obtain ⟨P, hP⟩ : ∃ P, X.extract 0 q = P := ⟨_, rfl⟩
            have zP : P.size ≤ 20000 := by rw [← hP, (cut_data X q q2).2.2.1]; omega
            rw [hP] at HT
            clear e1 FIN0 FIN1
            go_wp2_with fail
            go_ret
            exact ⟨by rw [← HT.out]; rfl, rfl⟩
end Go.Proofs.YtammjgieocgelaaGreatDoor
