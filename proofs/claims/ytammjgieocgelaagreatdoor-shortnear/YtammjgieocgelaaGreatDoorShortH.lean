/- The law ShortNear. -/
import Derived.Test.YtammjgieocgelaaGreatDoorShortD
import Derived.Test.YtammjgieocgelaaGreatDoorShortN
import Derived.Test.YtammjgieocgelaaGreatDoorShortG
namespace Go.Proofs.YtammjgieocgelaaGreatDoor
set_option linter.unusedVariables false
set_option linter.unusedSimpArgs false
open Go.RowKit
open Go.Lib (decDigits trimRightB)

attribute [local go_sem] World.cell?_alloc_some
theorem nearN_le (x y : Nat) (hy : 0 < y) : nearN x y ≤ 9218868437227405312 := by
  rcases Nat.eq_zero_or_pos x with c | c
  · unfold nearN
    rw [if_pos c]
    omega
  · have h1 := near_fits c hy
    have h2 := wholeN_le (x * 2 ^ (-expN x y).toNat) (y * 2 ^ (expN x y).toNat)
    have h4 : -1074 ≤ expN x y := by unfold expN; omega
    unfold nearN
    rw [if_neg (by omega)]
    generalize wholeN (x * 2 ^ (-expN x y).toNat) (y * 2 ^ (expN x y).toNat) = mm at *
    generalize x * 2 ^ (-expN x y).toNat / (y * 2 ^ (expN x y).toNat) = qq at *
    generalize expN x y = E at *
    split
    · omega
    · omega
theorem class_low {b : Nat} (h : b ≤ 9218868437227405312) : bN b = false ∧ bC b ≤ 2 ∧ (bC b = 1 → 0 < b ∧ b < 9218868437227405312) := by
  have e0 : bE b = b / 4503599627370496 % 2048 := rfl
  have f0 : bF b = b % 4503599627370496 := rfl
  have hs : bS b = false := by unfold bS; exact decide_eq_false (by omega)
  refine ⟨?_, ?_, ?_⟩
  · unfold bN
    split
    · rfl
    · exact hs
  · unfold bC
    split
    · rw [if_pos (by omega)]; omega
    · split <;> omega
  · intro h1
    unfold bC at h1
    split at h1
    · split at h1 <;> omega
    · split at h1
      · omega
      · omega
theorem lead5 (l : List UInt8) (h : AllD l) : AllD (53 :: l) := fun c hc => by
  rcases List.mem_cons.1 hc with rfl | q
  · decide
  · exact h c q
theorem near_of_class {b : Nat} (hb : b ≤ 9218868437227405312) (c : Nat) (hc : bC b = c) : ∃ (m : Nat) (x : Int), ∀ wz, Calls Tryz.prog 8 #[.int .u64 (b : Int)] wz fun e w' => e = .returned (.agg #[.int .i64 (c : Int), .bool false, .int .u64 (m : Int), .int .i64 x]) ∧ Fr wz w' := by
  refine ⟨bM b, bX b, fun wz => ?_⟩
  have := refOf_any7 b wz (by omega)
  unfold bval at this
  rw [(class_low hb).1, hc] at this
  exact this

set_option maxHeartbeats 2000000 in
set_option maxRecDepth 4000 in
theorem law_ShortNear (a0 : Option Addr) (len0 cap0 : Nat) (z0 : List Int) (e : Int) (w : World) (h0 : IsRow .u8 w a0 len0 cap0 z0) (he : (Lit.int .i64 e).wf = true) (hL : Led w) :
    Calls Tryz.prog 6 #[.slice a0 len0 cap0, .int .i64 e] w fun r w' => r = .returned (.bool true) ∧ Fr w w' := by
  obtain ⟨f, cs0, f0, p1, p2, p3⟩ := row_u8 h0
  unfold maxLen at p2
  obtain ⟨m, hm⟩ : ∃ m, min len0 20 = m := ⟨_, rfl⟩
  have hmi : min (len0 : Int) 20 = (m : Int) := by omega
  have m1 : m ≤ len0 := by omega
  have m2 : m ≤ 20 := by omega
  have HL := hide hL
  obtain ⟨e0, e1⟩ := i64_bds he
  have NK : Hid (∀ K : Int, -330 ≤ K → K ≤ 300 → ∃ N X xk c mm : Nat, ∃ x : Int, xk ≤ 3000 ∧ nlen 10 X ≤ 3000 ∧ nearN X (10 ^ xk) = N ∧ bC N = c ∧ c ≤ 2 ∧ (c = 1 → 0 < N ∧ N < 9218868437227405312) ∧
      (∀ wz, Calls Tryz.prog 17 #[.agg #[.string (bs (53 :: digs f m)), .int .i64 K]] wz fun r w' => r = .returned (.tuple #[.int .u64 (N : Int), .bool true]) ∧ Fr wz w') ∧
      (∀ wz, Calls Tryz.prog 20 #[.string (bs (53 :: digs f m)), .int .i64 K] wz fun r w' => ∃ v, r = .returned (.tuple #[v, .int .i64 (xk : Int)]) ∧ IsDec w' v X ∧ Fr wz w') ∧
      (∀ wz, Calls Tryz.prog 8 #[.int .u64 (N : Int)] wz fun e w' => e = .returned (.agg #[.int .i64 (c : Int), .bool false, .int .u64 (mm : Int), .int .i64 x]) ∧ Fr wz w')) := by
    intro K k0 k1
    have hA := lead5 _ (digs_all f m)
    have hlen : (53 :: digs f m).length = m + 1 := by rw [List.length_cons, digs_len]
    have hle : nearN (valD (53 :: digs f m) * 10 ^ (K - (((53 :: digs f m).length : Int) - 1)).toNat) (10 ^ (-(K - (((53 :: digs f m).length : Int) - 1))).toNat) ≤ 9218868437227405312 := nearN_le _ _ (Nat.pow_pos (by omega))
    obtain ⟨mm, x, hof⟩ := near_of_class hle _ rfl
    obtain ⟨_, q2, q3⟩ := class_low hle
    refine ⟨_, _, _, _, mm, x, ?_, ?_, rfl, rfl, q2, q3, fun wz => ?_, fun wz => ?_, hof⟩
    · omega
    · have h1 : nlen 10 (valD (53 :: digs f m)) ≤ m + 1 := by
        rw [← hlen]
        exact nlen_le ten2 (valD_lt _ hA)
      have := nl10_ten (j := (K - (((53 :: digs f m).length : Int) - 1)).toNat) h1
      omega
    · refine back_yes _ K _ wz ?_ ?_
      · rw [bs_data]
        exact ⟨by omega, by omega, hA, by simp, by omega, by omega⟩
      · rw [bs_data]
        rfl
    · refine refNumber_any _ K _ _ wz ?_ ?_ ?_ ?_ (by omega) (by omega) ?_ ?_
      · rw [bs_size]; omega
      · rw [bs_data]; simp
      · rw [bs_data]; exact hA
      · rw [bs_data]; simp
      · rw [bs_data]
      · rw [bs_data]
  clear h0 hL he
  go_enter Tryz.func6, Tryz.ntmps6
  go_upto_region 2 with fail
  go_cut [18, 19, 20] (fun t1 t2 t3 wx => t1 = .slice a0 m cap0 ∧ t2 = .int .i64 m ∧ t3 = .int .i64 0 ∧ Hid (Fr w wx))
  case first =>
    clear cs0 f0
    rcases a0 with _ | ad
    · obtain rfl := p3 rfl
      obtain rfl : len0 = 0 := by omega
      obtain rfl : m = 0 := by omega
      clear p3 hm hmi m1 m2
      go_wp2_with fail
      go_meet
      exact ⟨rfl, rfl, rfl, hide (Fr.refl _)⟩
    · clear p3 hm
      go_wp2_with fail
      go_meet
      exact ⟨rfl, by congr 1, rfl, hide (Fr.refl _)⟩
  case rest =>
  obtain ⟨rfl, rfl, rfl, hF0⟩ := hcut
  have HC := hide cs0
  have HF := hide f0
  clear cs0 f0 p3 hm
  go_wp2_with fail
  go_loopw [5, 20] (fun s i wr => ∃ (k : Nat) (t : ByteArray), k ≤ m ∧ s = .string t ∧ i = .int .i64 k ∧ Hid (t = bs (53 :: digs f k)) ∧ t.size = k + 1 ∧ Hid (Fr w wr)) (fun _ i _ => m - (intOf i).toNat)
  case atStart =>
    exact ⟨0, ⟨#[53]⟩, by omega, rfl, rfl, hide rfl, rfl, hF0⟩
  obtain ⟨k, T, hk, rfl, rfl, hT, hts, hF⟩ := hrel
  obtain ⟨V, rfl⟩ : ∃ V, V = wr := ⟨_, rfl⟩
  by_cases hlt : k < m
  · rcases HC.out with q | ⟨b, off, rfl, hb, hcs⟩
    · omega
    obtain ⟨d, hd⟩ : ∃ d : Nat, f k = d := ⟨_, rfl⟩
    have hdb : d ≤ 255 := by rw [← hd]; exact HF.out k
    have hcell := fr_cell hF.out (hcs k (by omega))
    rw [hd] at hcell
    obtain ⟨c, hc⟩ : ∃ c, UInt8.ofNat (48 + d % 10) = c := ⟨_, rfl⟩
    have hcv := conv_byte c (48 + (d : Int) % 10) (by rw [← hc, byte_of (Nat.mod_lt _ (by decide))]; omega)
    have hsz : (bs [c]).size = 1 := bs_size [c]
    have HE : Hid (T ++ bs [c] = bs (53 :: digs f (k + 1))) := by
      refine hide ?_
      rw [hT.out, bs_append, digs_succ, hd, hc]
      rfl
    clear hd hc hcs
    go_wp2_with fail
    go_roundw
    case rel =>
      refine ⟨k + 1, _, by omega, rfl, by go_num, HE, ?_, hide (hF.out.trans (Fr.alloc _ _))⟩
      rw [ByteArray.size_append, hts, hsz]
    case measure => simp [intOf]; omega
  obtain rfl : k = m := by omega
  have HTT := hT.out
  clear HC HF p1 p2 m1 hmi hlt hk
  go_upto_region 7 with fail
  go_cut [8] (fun s8 wx => ∃ K : Int, -330 ≤ K ∧ K ≤ 300 ∧ s8 = .int .i64 K ∧ wx = V)
  case first =>
    clear HTT
    by_cases c1 : e ≤ 300
    · by_cases c2 : -330 ≤ e
      · go_wp2_with fail
        all_goals (go_meet; exact ⟨_, by omega, by omega, rfl, rfl⟩)
      · have c3 : e ≤ -330 := by omega
        go_wp2_with fail
        all_goals (go_meet; exact ⟨_, by omega, by omega, rfl, rfl⟩)
    · go_wp2_with fail
      all_goals (go_meet; exact ⟨_, by omega, by omega, rfl, rfl⟩)
  case rest =>
  obtain ⟨K, k0, k1, rfl, hw⟩ := hcut
  obtain ⟨U, hU⟩ : ∃ V, V = wc := ⟨_, rfl⟩
  rw [← hU] at hw ⊢
  clear hU
  subst hw
  obtain ⟨N, X, xk, c, mm, x, x1, x2, hX, hbc, c2, c3, BK, NU, OF⟩ := NK.out K k0 k1
  rw [← HTT] at BK NU
  have BK := hide BK
  have NU := hide NU
  have OF := hide OF
  have HX := hide hX
  have C3 := hide c3
  clear HTT hT NK hX hbc c3
  have FW := hF
  go_wp2_with fail
  refine (BK.out _).mono ?_
  rintro r w2 ⟨rfl, fy⟩
  have FW := hide (FW.out.trans fy)
  clear fy BK hF
  go_wp2_with fail
  refine (NU.out _).mono ?_
  rintro r w3 ⟨vx, rfl, ix, fy⟩
  have IX := hide ix
  have FW := hide (FW.out.trans fy)
  clear fy ix NU
  go_wp2_with fail
  refine (OF.out _).mono ?_
  rintro r w4 ⟨rfl, fy⟩
  have IX := hide (IX.out.fr fy)
  have FW := hide (FW.out.trans fy)
  clear fy OF
  go_wp2_with fail
  obtain ⟨W4, hW4⟩ : ∃ W, W = w4.alloc (Obj.cells #[.int .i64 (c : Int), .bool false, .int .u64 (mm : Int), .int .i64 x] 24) := ⟨_, rfl⟩
  have fy : Fr w4 W4 := by rw [hW4]; exact Fr.alloc _ _
  obtain ⟨v0, v1, -, -⟩ : W4.cell? ⟨w4.heap.size, 0, none⟩ = some (.int .i64 (c : Int)) ∧ W4.cell? ⟨w4.heap.size, 1, none⟩ = some (.bool false) ∧ W4.cell? ⟨w4.heap.size, 2, none⟩ = some (.int .u64 (mm : Int)) ∧ W4.cell? ⟨w4.heap.size, 3, none⟩ = some (.int .i64 x) := by rw [hW4]; exact four_cells (Fr.refl _)
  rw [← hW4]
  clear hW4
  have IX := hide (IX.out.fr fy)
  have FW := hide (FW.out.trans fy)
  clear fy
  refine (wakes_any _ (HL.out.fr FW.out)).mono ?_
  rintro e w9 ⟨rfl, fy⟩

  have IX := hide (IX.out.fr fy)
  have FW := hide (FW.out.trans fy)
  have v0 := fr_cell fy v0
  have v1 := fr_cell fy v1
  clear fy
  have c4 : ¬ (c : Int) = 3 := by omega
  have c5 : ((c : Int) == 3) = false := by simp only [beq_eq_false_iff_ne, ne_eq]; omega
  by_cases h1 : c = 1
  · subst h1
    obtain ⟨n0, n1⟩ := C3.out rfl
    have NE := hide (fun wz h => refNear_any vx X xk N wz h x2 x1 n0 n1 true (by rw [HX.out]; exact (decide_eq_true rfl).symm))
    clear n0 n1
    go_wp2_with fail
    refine (NE.out _ IX.out).mono ?_
    rintro r w5 ⟨rfl, fy⟩
    have FW := hide (FW.out.trans fy)
    clear fy
    go_wp2_with fail
    go_ret
    exact ⟨rfl, FW.out⟩
  · have h2 : ¬ (c : Int) = 1 := by omega
    have h3 : ((c : Int) != 1) = true := by simp only [bne_iff_ne, ne_eq]; omega
    go_wp2_with fail
    go_ret
    exact ⟨rfl, FW.out⟩
end Go.Proofs.YtammjgieocgelaaGreatDoor
