/- The number of digits of base 16: strconv.ParseUint, language; Money. -/
import Derived.Test.YtiemiekkjaknfaaDoorColE
import Derived.Test.YtiemiekkjaknfaaDoorShelf2
namespace Go.Proofs.YtiemiekkjaknfaaDoor
set_option linter.unusedVariables false
set_option linter.unusedSimpArgs false
open Go.RowKit

theorem lower_tab : ∀ c : Fin 256, ((c : Nat) ||| 32) ≤ 255 ∧ (65 ≤ (c : Nat) → (c : Nat) ≤ 90 → ((c : Nat) ||| 32) = c + 32) ∧ (97 ≤ (c : Nat) → (c : Nat) ≤ 122 → ((c : Nat) ||| 32) = c) ∧ (((c : Nat) < 65 ∨ (90 < (c : Nat) ∧ (c : Nat) < 97) ∨ 122 < (c : Nat)) → ((c : Nat) ||| 32) < 97 ∨ 122 < ((c : Nat) ||| 32)) := by decide +kernel
theorem lower_any (c : Int) (w : World) (h0 : 0 ≤ c) (h1 : c ≤ 255) : Calls Tryd.prog 79 #[.int .u8 c] w fun e w' => e = .returned (.int .u8 ((c.toNat ||| 32 : Nat) : Int)) ∧ w' = w := by
  refine (Tryd.internal_strconv_lower c w).mono ?_
  rintro e w' ⟨rfl, rfl⟩
  refine ⟨?_, rfl⟩
  have h := u8_or_nat c.toNat 32 (by omega) (by decide)
  rw [show ((c.toNat : Nat) : Int) = c by omega] at h
  rw [← h]
  rfl

def ipV (q : List Int) : Value := if langB q = true then .tuple #[.int .u64 (hexN q), .nilIface] else .tuple #[.int .u64 0, .iface 113 (.int .i64 2)]
theorem ip_yes (q : List Int) (h : langB q = true) : ipV q = .tuple #[.int .u64 (hexN q), .nilIface] := by unfold ipV; rw [if_pos h]
theorem ip_no (q : List Int) (h : langB q = false) : ipV q = .tuple #[.int .u64 0, .iface 113 (.int .i64 2)] := by unfold ipV; rw [if_neg (by rw [h]; decide)]
theorem lang_bad (q : List Int) (c : Int) (hc : c ∈ q) (h : hexV c < 0) : langB q = false := by
  unfold langB
  refine decide_eq_false ?_
  rintro ⟨_, _, ha⟩
  have := ha c hc
  omega

set_option maxHeartbeats 4000000 in
set_option maxRecDepth 4000 in
theorem iparse_any (s : ByteArray) (w : World) (hs : s.size ≤ 8) :
    Calls Tryd.prog 65 #[.string s, .int .i64 16, .int .i64 32] w fun e w' => e = .returned (ipV (ints s)) ∧ Fr w w' := by
  by_cases h0 : s.size = 0
  · have hl : langB (ints s) = false := by unfold langB; refine decide_eq_false ?_; rw [ints_length]; omega
    rw [ip_no _ hl]
    have he : (s.toList == (⟨#[]⟩ : ByteArray).toList) = true := by
      rw [str_eq]
      have := ints_length s
      rw [h0] at this
      rw [List.length_eq_zero_iff.1 this]; rfl
    obtain rfl : s = ⟨#[]⟩ := ints_inj (by
      have := ints_length s
      rw [h0] at this
      rw [List.length_eq_zero_iff.1 this]; rfl)
    clear h0 hs hl he
    go_enter Tryd.func65, Tryd.ntmps65
    go_wp2_with fail
    go_ret2
    exact ⟨rfl, Fr.refl _⟩
  · have hne : s.toList.isEmpty = false := by
      rw [Bool.eq_false_iff]
      intro h
      have := List.isEmpty_iff.1 h
      have h2 := congrArg List.length this
      rw [ByteArray.toList_eq] at h2
      rw [← Lib.size_eq] at h2
      exact h0 h2
    obtain ⟨cap, W, hconv, fW, hB⟩ := conv_bs w s
    have HB := hide hB
    have FW := hide fW
    have HY := hide (ip_yes (ints s))
    have HNo := hide (ip_no (ints s))
    have HBad := hide (lang_bad (ints s))
    have HLen := hide (ints_length s)
    have HQ := hide (fun k hk => bt_range s k hk)
    have HG := hide (fun k hk => List.mem_of_getElem? (bt_get s k hk))
    have HT := hide (fun k hk => take_bt s k hk)
    have HLow := hide (fun c w h0 h1 => lower_any c w h0 h1)
    have HTab := hide lower_tab
    clear hB fW
    go_enter Tryd.func65, Tryd.ntmps65
    go_wp2_with fail
    generalize hg : w.heap.size = B at *
    have HGB := hide hg
    clear hg
    go_loopw [12, 13, 101] (fun us n j wr => ∃ k : Nat, k ≤ s.size ∧ us = .bool false ∧ j = .int .i64 k ∧ n = .int .u64 (hexN ((ints s).take k)) ∧ Hid (hexAll ((ints s).take k)) ∧ Hid (Bs wr B s.size (bt s)) ∧ Hid (Fr w wr)) (fun _ _ j _ => s.size - (intOf j).toNat)
    case atStart => exact ⟨0, by omega, rfl, rfl, rfl, hide (by intro c hc; simp at hc), HB, FW⟩
    case round =>
      obtain ⟨k, hk, rfl, rfl, rfl, HA, HR, HF⟩ := hrel
      have hlen : ((ints s).take k).length ≤ k := List.length_take_le _ _
      obtain ⟨n0, n1, n2⟩ := hexN_le _ k hlen (by omega) HA.out
      by_cases hlt : k < s.size
      · obtain ⟨hc, _⟩ := HR.out.2 k hlt
        have n3 := n2 (by omega)
        have rs := HQ.out k hlt
        have HM := hide (HG.out k hlt)
        have HTk := hide (HT.out k hlt)
        have tab := HTab.out ⟨(bt s k).toNat, by omega⟩
        simp only at tab
        have HLk := hide (fun w => HLow.out (bt s k) w rs.1 rs.2)
        clear n2 hlen
        generalize bt s k = c at *
        obtain ⟨c0, c1⟩ := rs
        obtain ⟨n, hn⟩ : ∃ n, hexN ((ints s).take k) = n := ⟨_, rfl⟩
        have step : ∀ X : Int, X = 16 * n + hexV c → 0 ≤ hexV c → ∃ k' : Nat, k' ≤ s.size ∧ Value.int .i64 ((k : Int) + 1) = .int .i64 k' ∧ Value.int .u64 X = .int .u64 (hexN ((ints s).take k')) ∧ Hid (hexAll ((ints s).take k')) := by
          intro X hX hv
          refine ⟨k + 1, by omega, by go_num, by rw [HTk.out, hexN_snoc, hX, hn], hide ?_⟩
          rw [HTk.out]
          exact (hexAll_snoc _ _).2 ⟨HA.out, hv⟩
        have STEP := hide step
        clear step
        obtain ⟨L, hL⟩ : ∃ L : Nat, c.toNat ||| 32 = L := ⟨_, rfl⟩
        rw [hL] at tab HLk
        obtain ⟨L255, tU, tl, tO⟩ := tab
        clear hL
        rw [hn] at n0 n1 n3 ⊢
        clear hn
        by_cases A1 : 48 ≤ c ∧ c ≤ 57
        · have hv : hexV c = c - 48 := by unfold hexV; rw [if_pos A1]
          have hq : (c == 95) = false := by rw [beq_eq_false_iff_ne]; omega
          have ST := hide (fun X hX => STEP.out X hX (by omega))
          rw [hv] at ST
          obtain ⟨a1, a2⟩ := A1
          clear hv tU tl tO
          have e1 : n * 16 = 16 * n := Int.mul_comm _ _
          go_wp2_with fail
          go_roundw
          case rel =>
            obtain ⟨k', r1, r2, r3, r4⟩ := ST.out _ (by first | rfl | omega)
            exact ⟨k', r1, rfl, r2, r3, r4, HR, HF⟩
          case measure => simp [intOf]; omega
        · by_cases A2 : 65 ≤ c ∧ c ≤ 90
          · have hL : (L : Int) = c + 32 := by have := tU (by omega) (by omega); omega
            have hq : (c == 95) = false := by rw [beq_eq_false_iff_ne]; omega
            obtain ⟨a1, a2⟩ := A2
            have a0 : ¬ c ≤ 57 := by omega
            rw [hL] at HLk
            clear tU tl tO
            by_cases A3 : c ≤ 70
            · have hv : hexV c = c - 55 := by unfold hexV; rw [if_neg A1, if_neg (by omega), if_pos ⟨a1, A3⟩]
              have ST := hide (fun X hX => STEP.out X hX (by omega))
              rw [hv] at ST
              clear hv A1
              go_wp2_with fail
              refine (HLk.out _).mono ?_
              rintro e w1 ⟨rfl, rfl⟩
              go_wp2_with fail
              refine (HLk.out _).mono ?_
              rintro e w1 ⟨rfl, rfl⟩
              go_wp2_with fail
              refine (HLk.out _).mono ?_
              rintro e w1 ⟨rfl, rfl⟩
              go_wp2_with fail
              go_roundw
              case rel =>
                obtain ⟨k', r1, r2, r3, r4⟩ := ST.out (n * 16 + (c + 32 - 97 + 10)) (by omega)
                exact ⟨k', r1, rfl, r2, r3, r4, HR, HF⟩
              case measure => simp [intOf]; omega
            · have E := hide (HNo.out (HBad.out c HM.out (by unfold hexV; rw [if_neg A1, if_neg (by omega), if_neg (by omega)]; decide)))
              clear A1
              go_wp2_with fail
              refine (HLk.out _).mono ?_
              rintro e w1 ⟨rfl, rfl⟩
              go_wp2_with fail
              refine (HLk.out _).mono ?_
              rintro e w1 ⟨rfl, rfl⟩
              go_wp2_with fail
              refine (HLk.out _).mono ?_
              rintro e w1 ⟨rfl, rfl⟩
              go_wp2_with fail
              go_ret2
              exact ⟨by rw [E.out]; rfl, HF.out⟩
          · by_cases A3 : 97 ≤ c ∧ c ≤ 122
            · have hL : (L : Int) = c := by have := tl (by omega) (by omega); omega
              have hq : (c == 95) = false := by rw [beq_eq_false_iff_ne]; omega
              obtain ⟨a1, a2⟩ := A3
              have a0 : ¬ c ≤ 57 := by omega
              rw [hL] at HLk
              clear tU tl tO
              by_cases A4 : c ≤ 102
              · have hv : hexV c = c - 87 := by unfold hexV; rw [if_neg A1, if_pos ⟨a1, A4⟩]
                have ST := hide (fun X hX => STEP.out X hX (by omega))
                rw [hv] at ST
                clear hv A1 A2
                go_wp2_with fail
                refine (HLk.out _).mono ?_
                rintro e w1 ⟨rfl, rfl⟩
                go_wp2_with fail
                refine (HLk.out _).mono ?_
                rintro e w1 ⟨rfl, rfl⟩
                go_wp2_with fail
                refine (HLk.out _).mono ?_
                rintro e w1 ⟨rfl, rfl⟩
                go_wp2_with fail
                go_roundw
                case rel =>
                  obtain ⟨k', r1, r2, r3, r4⟩ := ST.out (n * 16 + (c - 97 + 10)) (by omega)
                  exact ⟨k', r1, rfl, r2, r3, r4, HR, HF⟩
                case measure => simp [intOf]; omega
              · have E := hide (HNo.out (HBad.out c HM.out (by unfold hexV; rw [if_neg A1, if_neg (by omega), if_neg (by omega)]; decide)))
                clear A1 A2
                go_wp2_with fail
                refine (HLk.out _).mono ?_
                rintro e w1 ⟨rfl, rfl⟩
                go_wp2_with fail
                refine (HLk.out _).mono ?_
                rintro e w1 ⟨rfl, rfl⟩
                go_wp2_with fail
                refine (HLk.out _).mono ?_
                rintro e w1 ⟨rfl, rfl⟩
                go_wp2_with fail
                go_ret2
                exact ⟨by rw [E.out]; rfl, HF.out⟩
            · have E := hide (HNo.out (HBad.out c HM.out (by unfold hexV; rw [if_neg A1, if_neg (by omega), if_neg (by omega)]; decide)))
              have hO := tO (by omega)
              clear tU tl tO
              rcases hO with hO | hO
              · have hL3 : (L : Int) < 97 := by omega
                by_cases h95 : c = 95
                · have hq : (c == 95) = true := by rw [beq_iff_eq]; exact h95
                  have h48 : 48 ≤ c := by omega
                  have h57 : ¬ c ≤ 57 := by omega
                  clear h95 A1 A2 A3 hO
                  go_wp2_with fail
                  refine (HLk.out _).mono ?_
                  rintro e w1 ⟨rfl, rfl⟩
                  go_wp2_with fail
                  go_ret2
                  exact ⟨by rw [E.out]; rfl, HF.out⟩
                · have hq : (c == 95) = false := by rw [beq_eq_false_iff_ne]; exact h95
                  by_cases h48 : 48 ≤ c
                  · have h57 : ¬ c ≤ 57 := by omega
                    clear h95 A1 A2 A3 hO
                    go_wp2_with fail
                    refine (HLk.out _).mono ?_
                    rintro e w1 ⟨rfl, rfl⟩
                    go_wp2_with fail
                    go_ret2
                    exact ⟨by rw [E.out]; rfl, HF.out⟩
                  · clear h95 A1 A2 A3 hO
                    go_wp2_with fail
                    refine (HLk.out _).mono ?_
                    rintro e w1 ⟨rfl, rfl⟩
                    go_wp2_with fail
                    go_ret2
                    exact ⟨by rw [E.out]; rfl, HF.out⟩
              · have hL3 : (122 : Int) < (L : Int) := by omega
                have hL4 : (97 : Int) ≤ (L : Int) := by omega
                by_cases h95 : c = 95
                · have hq : (c == 95) = true := by rw [beq_iff_eq]; exact h95
                  have h48 : 48 ≤ c := by omega
                  have h57 : ¬ c ≤ 57 := by omega
                  clear h95 A1 A2 A3 hO
                  go_wp2_with fail
                  refine (HLk.out _).mono ?_
                  rintro e w1 ⟨rfl, rfl⟩
                  go_wp2_with fail
                  refine (HLk.out _).mono ?_
                  rintro e w1 ⟨rfl, rfl⟩
                  go_wp2_with fail
                  go_ret2
                  exact ⟨by rw [E.out]; rfl, HF.out⟩
                · have hq : (c == 95) = false := by rw [beq_eq_false_iff_ne]; exact h95
                  by_cases h48 : 48 ≤ c
                  · have h57 : ¬ c ≤ 57 := by omega
                    clear h95 A1 A2 A3 hO
                    go_wp2_with fail
                    refine (HLk.out _).mono ?_
                    rintro e w1 ⟨rfl, rfl⟩
                    go_wp2_with fail
                    refine (HLk.out _).mono ?_
                    rintro e w1 ⟨rfl, rfl⟩
                    go_wp2_with fail
                    go_ret2
                    exact ⟨by rw [E.out]; rfl, HF.out⟩
                  · clear h95 A1 A2 A3 hO
                    go_wp2_with fail
                    refine (HLk.out _).mono ?_
                    rintro e w1 ⟨rfl, rfl⟩
                    go_wp2_with fail
                    refine (HLk.out _).mono ?_
                    rintro e w1 ⟨rfl, rfl⟩
                    go_wp2_with fail
                    go_ret2
                    exact ⟨by rw [E.out]; rfl, HF.out⟩
      · have hke : k = s.size := by omega
        subst hke
        have hta : (ints s).take s.size = ints s := by rw [← HLen.out, List.take_length]
        rw [hta] at n0 n1 HA ⊢
        have E := hide (HY.out (decide_eq_true ⟨by rw [HLen.out]; omega, by rw [HLen.out]; omega, HA.out⟩))
        clear hta n2 hlen
        generalize hexN (ints s) = n at *
        go_wp2_with fail
        go_ret2
        exact ⟨by rw [E.out]; rfl, HF.out⟩
end Go.Proofs.YtiemiekkjaknfaaDoor
