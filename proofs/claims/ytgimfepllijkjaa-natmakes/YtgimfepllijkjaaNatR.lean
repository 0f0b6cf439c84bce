/- The law NatMakes. -/
import Derived.Test.YtgimfepllijkjaaNatO
namespace Go.Proofs.Ytgimfepllijkjaa
set_option linter.unusedVariables false
set_option linter.unusedSimpArgs false
open Go.RowKit
attribute [local go_sem] World.cell?_alloc_some

theorem u64_bd {x : Int} (h : (Lit.int .u64 x).wf = true) : 0 ≤ x ∧ x ≤ 18446744073709551615 := by
  simp [Lit.wf, IntKind.min, IntKind.max, IntKind.signed, IntKind.bits] at h
  omega

/-- The number of the limbs ahead of place i, and of the lowest b bits of the limb there. -/
def part (x i b : Nat) : Nat := x % 4294967296 ^ i + 4294967296 ^ i * (dg 4294967296 x i % 2 ^ b)
theorem pow32 (i : Nat) : 4294967296 ^ i = 2 ^ (32 * i) := by rw [Nat.pow_mul]
theorem part_lt (x i b : Nat) : part x i b < 2 ^ (32 * i + b) := by
  unfold part
  rw [pow32, Nat.pow_add]
  have h1 := Nat.mod_lt x (pow_pos' (B := 2) (by omega) (32 * i))
  have h2 := Nat.mod_lt (dg 4294967296 x i) (pow_pos' (B := 2) (by omega) b)
  have h3 := Nat.mul_le_mul_left (2 ^ (32 * i)) h2
  rw [Nat.succ_eq_add_one, Nat.mul_add, Nat.mul_one] at h3
  omega
theorem part_zero (x i : Nat) : part x i 0 = x % 4294967296 ^ i := by simp [part, Nat.mod_one]
theorem part_end (x i : Nat) : part x i 32 = x % 4294967296 ^ (i + 1) := by
  have h := dg_lt b32 x i
  rw [mod_step]
  unfold part
  have e : dg 4294967296 x i % 2 ^ 32 = dg 4294967296 x i := Nat.mod_eq_of_lt (by omega)
  rw [e]
theorem part_step (x i b : Nat) : part x i (b + 1) = part x i b + 2 ^ (32 * i + b) * (dg 4294967296 x i / 2 ^ b % 2) := by
  unfold part
  have h := mod_step (B := 2) (dg 4294967296 x i) b
  rw [h, Nat.mul_add, pow32, Nat.pow_add, Nat.add_assoc, Nat.mul_assoc]
  rfl
theorem bits_set (x i b : Nat) (h : dg 4294967296 x i / 2 ^ b % 2 = 1) : nlen 2 (part x i (b + 1)) = 32 * i + b + 1 := by
  have h1 := part_lt x i b
  have h2 := part_lt x i (b + 1)
  have h3 := part_step x i b
  rw [h, Nat.mul_one] at h3
  exact nlen_eq (by omega) h2 (.inr (by rw [Nat.add_sub_cancel]; omega))
theorem bits_unset (x i b : Nat) (h : dg 4294967296 x i / 2 ^ b % 2 = 0) : part x i (b + 1) = part x i b := by
  rw [part_step, h, Nat.mul_zero, Nat.add_zero]

theorem and_one (z : Int) (h0 : 0 ≤ z) (h1 : z < 4294967296) : bits .and .u32 z 1 = z % 2 := by go_bits2
theorem bit_of (d c : Nat) (hd : d < 4294967296) : bits .and .u32 ((d : Int) / 2 ^ c) 1 = ((d / 2 ^ c % 2 : Nat) : Int) := by
  have e : (d : Int) / 2 ^ c = ((d / 2 ^ c : Nat) : Int) := by simp
  have h : d / 2 ^ c ≤ d := Nat.div_le_self _ _
  rw [e]
  clear e
  generalize d / 2 ^ c = q at *
  rw [and_one _ (by omega) (by omega)]
  omega

theorem or_zero (d : Nat) (h : d < 4294967296) : bits .or .u64 0 (d : Int) = d := by
  go_bits2
theorem or_high (s d : Nat) (hs : s < 4294967296) (h : d < 4294967296) : bits .or .u64 (s : Int) ((d : Int) * 4294967296) = s + d * 4294967296 := by
  go_bits2

set_option maxHeartbeats 4000000 in
theorem law_NatMakes (a0 : Option Addr) (len0 cap0 : Nat) (z0 : List Int) (n : Int) (w : World) (h0 : IsRow .u32 w a0 len0 cap0 z0) (h1 : (Lit.int .u64 n).wf = true) :
    Calls Try.prog 3 #[.slice a0 len0 cap0, .int .u64 n] w fun e w' => e = .returned (.bool true) ∧ Fr w w' := by
  obtain ⟨n0, n1⟩ := u64_bd h1
  obtain ⟨m, rfl⟩ : ∃ m : Nat, n = m := ⟨n.toNat, by omega⟩
  obtain ⟨k0, x, kx, kc, lx, csx, fewx, madex⟩ := came h0
  have FX := hide fewx
  have MX := hide madex
  have CSX := hide csx
  have LX := hide lx
  have nx : nlen 4294967296 x ≤ 30 := Nat.le_trans (nlen_le b32 lx) kx
  clear fewx madex h0 h1 lx csx
  go_enter Try.func3, Try.ntmps3
  go_wp2_with fail
  refine (FX.out _).mono ?_
  rintro e w' ⟨rfl, rfl⟩
  go_wp2_with fail
  refine (MX.out _ (Fr.refl _)).mono ?_
  rintro e w1 ⟨ax, cx, rfl, hx, _, f1⟩
  go_wp2_with fail
  obtain ⟨W, hW⟩ : ∃ W, W = w1.alloc (Obj.cells #[Value.slice ax (nlen 4294967296 x) cx] 26) := ⟨_, rfl⟩
  have fW : Fr w1 W := by rw [hW]; exact Fr.alloc _ _
  have c5 : W.cell? ⟨w1.heap.size, 0, none⟩ = some (.slice ax (nlen 4294967296 x) cx) := by rw [hW]; simp [go_sem]
  rw [← hW]
  clear hW
  have F1 := f1.trans fW
  have NX := hide (hx.fr fW)
  have CX := hide (CSX.out.fr F1)
  clear fW f1 hx FX MX
  go_loop [6] (fun s => ∃ k : Nat, k ≤ k0 ∧ s = .int .i64 k ∧ Hid (x < 4294967296 ^ k)) (fun s => (intOf s).toNat)
  case atStart => exact ⟨k0, by omega, rfl, LX⟩
  case round =>
    obtain ⟨k, hk, rfl, HK⟩ := hrel
    have hexit : nlen 4294967296 x = k ∨ (k ≠ 0 ∧ dg 4294967296 x (k - 1) = 0) := by
      by_cases c : k = 0
      · subst c
        have e : x = 0 := by have := HK.out; rw [Nat.pow_zero] at this; omega
        subst e; exact .inl (nlen_zero _)
      · by_cases c0 : dg 4294967296 x (k - 1) = 0
        · exact .inr ⟨c, c0⟩
        · obtain ⟨k, rfl⟩ : ∃ j, k = j + 1 := ⟨k - 1, by omega⟩
          exact .inl (nlen_eq b32 HK.out (.inr (le_of_dg c0)))
    rcases hexit with hexit | ⟨hk0, hd0⟩
    · have NN := hide hexit
      have hz : ¬ 0 < k ∨ (0 < k ∧ ∃ b off d, a0 = some ⟨b, off, none⟩ ∧ W.cell? ⟨b, off + (k - 1), none⟩ = some (.int .u32 ((d : Nat) : Int)) ∧ d < 4294967296 ∧ ¬ d = 0) := by
        rcases Nat.eq_zero_or_pos k with h | h
        · exact .inl (by omega)
        · refine .inr ⟨h, ?_⟩
          rcases CX.out with h' | ⟨b, off, rfl, hb, hc⟩
          · omega
          refine ⟨b, off, _, rfl, hc (k - 1) (by omega), dg_lt b32 x (k - 1), fun e => ?_⟩
          have h5 := HK.out
          rw [show k = k - 1 + 1 by omega] at h5
          have h6 := nlen_le b32 (lt_of_dg h5 e)
          omega
      have e1 : ((k : Int) - 1).toNat = k - 1 := by omega
      clear hexit
      rcases hz with hz | ⟨hz, b, off, d, rfl, hci, hd1, hd2⟩
      all_goals (
        go_wp2_with fail
        clear e1
        refine (limbs_any _ x _ NX.out (by omega)).mono ?_
        rintro e w2 ⟨v2, rfl, hown, f2⟩
        rw [NN.out] at hown
        obtain ⟨ag, cg, rfl, _, _, _⟩ := own_form hown
        have GX := hide (own_cs hown)
        have CX2 := hide ((CX.out.less hk).fr f2)
        have NX2 := hide (NX.out.fr f2)
        have c5' := fr_cell f2 c5
        have F2 := F1.trans f2
        clear hown f2 F1 NX CX c5 CSX LX
        try clear hci hd1 hd2
        go_wp2_with fail
        go_loopw [8, 9, 42] (fun bt sm i wr => ∃ j q : Nat, j ≤ k ∧ i = .int .i64 j ∧ bt = .int .i64 (nlen 2 (x % 4294967296 ^ j) : Int) ∧ sm = .int .u64 ((x % 4294967296 ^ (min j 2) : Nat) : Int) ∧ wr = w2.drewN q) (fun _ _ i _ => k - (intOf i).toNat)
        case atStart => exact ⟨0, 0, by omega, rfl, by simp [Nat.mod_one, nlen_zero], by simp [Nat.mod_one], rfl⟩
        case round =>
          obtain ⟨j, q, hj, rfl, rfl, rfl, rfl⟩ := hrel
          by_cases cj : j < k
          · try (exfalso; omega)
            all_goals (
              rcases GX.out with h | ⟨g1, o1, rfl, _, hc1⟩
              · omega
              rcases CX2.out with h | ⟨g2, o2, hae, _, hc2⟩
              · omega
              try obtain rfl := hae
              have x1 := hc1 j cj
              have x2 := hc2 j cj
              have hd := dg_lt b32 x j
              have P0 := hide (part_zero x j)
              have PE := hide (part_end x j)
              have PS := hide (bits_set x j)
              have PU := hide (bits_unset x j)
              have PL := hide (part_lt x j)
              have MS := hide (mod_step (B := 4294967296) x j)
              clear hc1 hc2
              generalize dg 4294967296 x j = d at *
              go_wp2_with fail
              go_quiet (fail)
              go_wp2_with fail
              go_loop [8, 54] (fun bt b => ∃ c : Nat, c ≤ 32 ∧ b = .int .i64 c ∧ bt = .int .i64 (nlen 2 (part x j c) : Int)) (fun _ b => 32 - (intOf b).toNat)
              case atStart => exact ⟨0, by omega, rfl, by rw [P0.out]⟩
              case round =>
                obtain ⟨c, hc, rfl, rfl⟩ := hrel
                by_cases cc : c < 32
                · have hb1 : nlen 2 (part x j c) ≤ 100000 := Nat.le_trans (nlen_le (by omega) (PL.out c)) (by omega)
                  have hbt := bit_of d c hd
                  by_cases cb : d / 2 ^ c % 2 = 1
                  · rw [cb] at hbt
                    have hn := hide (PS.out c cb)
                    clear cb
                    go_wp2_with fail
                    go_round
                    case rel => exact ⟨_, _, _, ⟨c + 1, by omega, by go_num, by rw [hn.out]; go_num⟩, rfl, rfl, rfl⟩
                    case measure => simp [intOf]; omega
                  · have cb0 : d / 2 ^ c % 2 = 0 := by omega
                    rw [cb0] at hbt
                    have hn := hide (PU.out c cb0)
                    clear cb cb0
                    go_wp2_with fail
                    go_round
                    case rel => exact ⟨_, _, _, ⟨c + 1, by omega, by go_num, by rw [hn.out]⟩, rfl, rfl, rfl⟩
                    case measure => simp [intOf]; omega
                · obtain rfl : c = 32 := by omega
                  rw [PE.out]
                  have hb2 : nlen 2 (x % 4294967296 ^ (j + 1)) ≤ 100000 := Nat.le_trans (nlen_le (by omega) (by have := PL.out 32; rw [PE.out] at this; exact this)) (by omega)
                  rcases Nat.lt_trichotomy j 1 with cj1 | rfl | cj1
                  · obtain rfl : j = 0 := by omega
                    have ms := MS.out
                    rw [Nat.pow_zero, Nat.mod_one, Nat.zero_add, Nat.one_mul] at ms
                    have e0 : x % 4294967296 ^ min 0 2 = 0 := by simp [Nat.mod_one]
                    rw [e0]
                    rw [Nat.add_zero] at x1 x2
                    generalize hnb : nlen 2 (x % 4294967296 ^ (0 + 1)) = nb at *
                    have HNB := hide hnb
                    have MS2 := hide ms
                    clear hnb ms e0
                    go_wp2_with fail
                    go_roundw
                    case rel => exact ⟨1, _, by omega, rfl, by rw [← HNB.out], by rw [or_zero d hd]; refine congrArg _ ?_; have h := MS2.out; rw [show min 1 2 = 1 from rfl]; omega, rfl⟩
                    case measure => simp [intOf]; omega
                  · have ms := MS.out
                    have e0 : x % 4294967296 ^ min 1 2 = x % 4294967296 := by simp
                    rw [e0]
                    rw [Nat.pow_one] at ms
                    have hs0 := Nat.mod_lt x (show 0 < 4294967296 by decide)
                    generalize x % 4294967296 = s0 at *
                    generalize hnb : nlen 2 (x % 4294967296 ^ (1 + 1)) = nb at *
                    have HNB := hide hnb
                    have MS2 := hide ms
                    clear hnb ms e0
                    go_wp2_with fail
                    go_roundw
                    case rel => exact ⟨2, _, by omega, rfl, by rw [← HNB.out], by rw [or_high s0 d hs0 hd]; refine congrArg _ ?_; have := MS2.out; simp only [Nat.reduceAdd] at this; simp only [Nat.min_self]; rw [this]; omega, rfl⟩
                    case measure => simp [intOf]; omega
                  · have e0 : x % 4294967296 ^ min j 2 = x % 4294967296 ^ min (j + 1) 2 := by rw [show min j 2 = 2 by omega, show min (j + 1) 2 = 2 by omega]
                    have hn2 : ¬ j < 2 := by omega
                    have E0 := hide e0
                    clear e0
                    generalize hnb : nlen 2 (x % 4294967296 ^ (j + 1)) = nb at *
                    have HNB := hide hnb
                    clear hnb
                    go_wp2_with fail
                    go_roundw
                    case rel => exact ⟨j + 1, _, by omega, by go_num, by rw [HNB.out], by rw [E0.out], rfl⟩
                    case measure => simp [intOf]; omega)
          · obtain rfl : j = k := by omega
            generalize hwq : w2.drewN q = wq at *
            have fq : Fr w2 wq := by rw [← hwq]; exact ⟨rfl, rfl, rfl, Nat.le_refl _, fun _ _ => rfl⟩
            have c5 := fr_cell fq c5'
            have NX := hide (NX2.out.fr fq)
            have F3 := F2.trans fq
            have hxk : x % 4294967296 ^ j = x := Nat.mod_eq_of_lt HK.out
            rw [hxk]
            have hsm : Hid ((j ≤ 2 ∧ x < 18446744073709551616 ∧ x % 4294967296 ^ min j 2 = x) ∨ (¬ j ≤ 2 ∧ ¬ x < 18446744073709551616)) := by
              by_cases cj2 : j ≤ 2
              · refine .inl ⟨cj2, ?_, by rw [show min j 2 = j by omega, hxk]⟩
                have := Nat.lt_of_lt_of_le HK.out (Nat.pow_le_pow_right (show 0 < 4294967296 by decide) cj2)
                omega
              · refine .inr ⟨cj2, fun h => cj2 ?_⟩
                rw [← NN.out]
                exact nlen_le b32 (by omega)
            have hb2 : nlen 2 x ≤ 100000 := by
              have h := HK.out
              rw [pow32] at h
              exact Nat.le_trans (nlen_le (by omega) h) (by omega)
            clear hwq hxk fq c5' NX2 F2 GX CX2
            rcases hsm.out with ⟨cj2, cx2, hmod⟩ | ⟨cj2, cx2⟩
            all_goals (try (exfalso; omega))
            all_goals (
              try rw [hmod]
              generalize hsv : x % 4294967296 ^ min j 2 = sv at *
              clear hsv hsm
              try clear hmod
              go_wp2_with fail
              (first | have cj3 : (j : Int) ≤ 2 := by omega | have cj3 : ¬ ((j : Int) ≤ 2) := by omega)
              refine (small_any _ x _ NX.out).mono ?_
              rintro e w4 ⟨rfl, f4⟩
              first | rw [if_pos cx2, decide_eq_true cx2] | rw [if_neg cx2, decide_eq_false cx2]
              go_wp2_with fail
              refine (of_any m _ (by omega)).mono ?_
              rintro e w5 ⟨a5, c5', rfl, h5, _, f5⟩
              go_wp2_with fail
              refine (small_any _ m _ h5).mono ?_
              rintro e w6 ⟨rfl, f6⟩
              rw [if_pos (by omega), decide_eq_true (by omega)]
              have fA := (f4.trans f5).trans f6
              have c5 := fr_cell fA c5
              have NX := hide (NX.out.fr fA)
              have F6 := F3.trans fA
              clear fA f4 f5 f6 h5 F3
              go_wp2_with fail
              refine (wakes_any _).mono ?_
              rintro e w7 ⟨rfl, f7⟩
              have c5 := fr_cell f7 c5
              have NX := hide (NX.out.fr f7)
              have F7 := F6.trans f7
              clear f7 F6
              go_wp2_with fail
              refine (bits_any _ x _ NX.out (by omega)).mono ?_
              rintro e w8 ⟨rfl, f8⟩
              have F8 := F7.trans f8
              clear f8 F7 c5 NX
              go_wp2_with fail
              refine (of_any m _ (by omega)).mono ?_
              rintro e w9 ⟨a9, c9, rfl, h9, _, f9⟩
              have hm32 : nlen 4294967296 m ≤ 2 := nlen_le b32 (by omega)
              have hm10 : nlen 10 m ≤ 20 := nlen_le ten2 (by omega)
              go_wp2_with fail
              refine (ofLaw_any _ m _ h9 (by omega)).mono ?_
              rintro e w10 ⟨v10, rfl, h10, f10⟩
              go_wp2_with fail
              refine (refOf_any m _ (by omega)).mono ?_
              rintro e w11 ⟨v11, rfl, h11, f11⟩
              go_wp2_with fail
              refine (same_any _ _ m m _ (h10.fr f11) h11 (by omega) (by omega)).mono ?_
              rintro e w12 ⟨rfl, f12⟩
              rw [decide_eq_true rfl]
              go_wp2_with fail
              go_ret
              have FF := ((F8.trans f9).trans f10).trans (f11.trans f12)
              first | exact ⟨rfl, FF⟩ | exact ⟨by show Ending.returned (Value.bool !decide ((j : Int) ≤ 2)) = _; rw [decide_eq_false (by omega)]; rfl, FF⟩))
    · obtain ⟨k, rfl⟩ : ∃ j, k = j + 1 := ⟨k - 1, by omega⟩
      rw [Nat.add_sub_cancel] at hd0
      rcases CX.out with h | ⟨b, off, rfl, hb, hc⟩
      · omega
      have hci := hc k (by omega)
      have HK2 : Hid (x < 4294967296 ^ k) := lt_of_dg HK.out hd0
      rw [hd0] at hci
      clear hd0 hc
      go_wp2_with fail
      go_round
      case rel => exact ⟨k, by omega, by go_num, HK2⟩
      case measure => simp [intOf]
end Go.Proofs.Ytgimfepllijkjaa
