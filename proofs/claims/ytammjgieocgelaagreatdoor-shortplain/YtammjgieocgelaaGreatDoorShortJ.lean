/- The law ShortPlain. -/
import Derived.Test.YtammjgieocgelaaGreatDoorShortI
import Derived.Test.YtammjgieocgelaaGreatDoorShortT
namespace Go.Proofs.YtammjgieocgelaaGreatDoor
set_option linter.unusedVariables false
set_option linter.unusedSimpArgs false
open Go.RowKit
open Go.Lib (decDigits trimRightB)

attribute [local go_sem] World.cell?_alloc_some
/-- What is asked of one Sci. -/
def Asked (s : ByteArray) (e : Int) : Prop := (∃ (T : ByteArray) (N : Nat), T.size ≤ 100000 ∧
    (∀ wz, Calls Tryz.prog 16 #[.agg #[.string s, .int .i64 e]] wz fun r w' => r = .returned (.tuple #[.string T, .bool true]) ∧ Fr wz w') ∧
    (∀ wz, Calls Tryz.prog 17 #[.agg #[.string s, .int .i64 e]] wz fun r w' => r = .returned (.tuple #[.int .u64 (N : Int), .bool true]) ∧ Fr wz w') ∧
    (∀ wz, Calls Tryz.prog 18 #[.agg #[.string s, .int .i64 e]] wz fun r w' => r = .returned (.bool true) ∧ Fr wz w') ∧
    (∀ wz, Calls Tryz.prog 19 #[.string s, .int .i64 e] wz fun r w' => r = .returned (.string T) ∧ w' = wz)) ∨
  ((∀ wz, Calls Tryz.prog 16 #[.agg #[.string s, .int .i64 e]] wz fun r w' => r = .returned (.tuple #[.string ⟨#[]⟩, .bool false]) ∧ Fr wz w') ∧
    (∀ wz, Calls Tryz.prog 17 #[.agg #[.string s, .int .i64 e]] wz fun r w' => r = .returned (.tuple #[.int .u64 0, .bool false]) ∧ Fr wz w') ∧
    (∀ wz, Calls Tryz.prog 18 #[.agg #[.string s, .int .i64 e]] wz fun r w' => r = .returned (.bool false) ∧ Fr wz w'))
theorem asked (s : ByteArray) (e : Int) (hs : s.size ≤ 1000) (e0 : -9223372036854775808 ≤ e) (e1 : e ≤ 9223372036854775807) : Asked s e := by
  have hm : s.size ≤ maxLen := by unfold maxLen; omega
  by_cases h : MayBe s.data.toList e
  · obtain ⟨b1, b2, b3, b4⟩ := maybe_facts h
    refine .inl ⟨bs (plainP s.data.toList e), backN s.data.toList e, ?_, fun wz => plain_yes s e _ wz h rfl, fun wz => back_yes s e _ wz h rfl, fun wz => may_any s e true wz hm e0 e1 ⟨fun _ => h, fun _ => rfl⟩, fun wz => ?_⟩
    · rw [bs_size]
      unfold plainP
      have w1 := whole_size s.data.toList e b4
      have w2 := part_size s.data.toList e b3
      have w3 := trim_size (partP s.data.toList e)
      have w4 := len_data s
      split
      · omega
      · rw [List.length_append, List.length_cons]
        omega
    · by_cases hn : e < 0
      · exact refPlain_neg s _ e wz b2 b3 b4 hn rfl
      · exact refPlain_pos s _ e wz b2 b3 b4 (by omega) rfl
  · exact .inr ⟨fun wz => plain_no s e wz hm e0 e1 h, fun wz => back_no s e wz hm e0 e1 h, fun wz => may_any s e false wz hm e0 e1 ⟨fun k => (by cases k), fun k => absurd k h⟩⟩

set_option maxHeartbeats 2000000 in
set_option maxRecDepth 4000 in
theorem law_ShortPlain (a0 : Option Addr) (len0 cap0 : Nat) (z0 : List Int) (raw : ByteArray) (e : Int) (w : World) (h0 : IsRow .u8 w a0 len0 cap0 z0) (hr : raw.size ≤ maxLen) (he : (Lit.int .i64 e).wf = true) (hL : Led w) :
    Calls Tryz.prog 4 #[.slice a0 len0 cap0, .string raw, .int .i64 e] w fun r w' => r = .returned (.bool true) ∧ Fr w w' := by
  obtain ⟨f, cs0, f0, p1, p2, p3⟩ := row_u8 h0
  unfold maxLen at p2
  obtain ⟨m, hm⟩ : ∃ m, min len0 40 = m := ⟨_, rfl⟩
  have hmi : min (len0 : Int) 40 = (m : Int) := by omega
  have m1 : m ≤ len0 := by omega
  have m2 : m ≤ 40 := by omega
  have HL := hide hL
  obtain ⟨e0, e1⟩ := i64_bds he
  unfold maxLen at hr
  obtain ⟨ms, hms, ms1, ms2⟩ : ∃ m : Nat, min (raw.size : Int) 20 = (m : Int) ∧ m ≤ raw.size ∧ m ≤ 20 := ⟨min raw.size 20, by omega, by omega, by omega⟩
  obtain ⟨R, hR⟩ : ∃ s, raw.extract 0 ms = s := ⟨_, rfl⟩
  have hRz : R.size = ms := by rw [← hR]; exact (cut_data raw ms ms1).2.2.1
  clear h0 hL he
  go_enter Tryz.func4, Tryz.ntmps4
  go_upto_region 2 with fail
  go_cut [20, 21, 22] (fun t1 t2 t3 wx => t1 = .slice a0 m cap0 ∧ t2 = .int .i64 m ∧ t3 = .int .i64 0 ∧ Hid (Fr w wx))
  case first =>
    clear cs0 f0
    rcases a0 with _ | ad
    · obtain rfl := p3 rfl
      obtain rfl : len0 = 0 := by omega
      obtain rfl : m = 0 := by omega
      clear p3 hm hmi m1 m2
      go_wp2_with fail
      go_meet
      exact ⟨rfl, rfl, rfl, hide (Fr.refl _)⟩
    · clear p3 hm
      go_wp2_with fail
      go_meet
      exact ⟨rfl, by congr 1, rfl, hide (Fr.refl _)⟩
  case rest =>
  obtain ⟨rfl, rfl, rfl, hF0⟩ := hcut
  have HC := hide cs0
  have HF := hide f0
  clear cs0 f0 p3 hm
  go_wp2_with fail
  go_loopw [7, 22] (fun s i wr => ∃ (k : Nat) (t : ByteArray), k ≤ m ∧ s = .string t ∧ i = .int .i64 k ∧ Hid (t = bs (digs f k)) ∧ t.size = k ∧ Hid (Fr w wr)) (fun _ i _ => m - (intOf i).toNat)
  case atStart =>
    exact ⟨0, ⟨#[]⟩, by omega, rfl, rfl, hide rfl, rfl, hF0⟩
  obtain ⟨k, T, hk, rfl, rfl, hT, hts, hF⟩ := hrel
  obtain ⟨V, rfl⟩ : ∃ V, V = wr := ⟨_, rfl⟩
  by_cases hlt : k < m
  · rcases HC.out with q | ⟨b, off, rfl, hb, hcs⟩
    · omega
    obtain ⟨d, hd⟩ : ∃ d : Nat, f k = d := ⟨_, rfl⟩
    have hdb : d ≤ 255 := by rw [← hd]; exact HF.out k
    have hcell := fr_cell hF.out (hcs k (by omega))
    rw [hd] at hcell
    obtain ⟨c, hc⟩ : ∃ c, UInt8.ofNat (48 + d % 10) = c := ⟨_, rfl⟩
    have hcv := conv_byte c (48 + (d : Int) % 10) (by rw [← hc, byte_of (Nat.mod_lt _ (by decide))]; omega)
    have hsz : (bs [c]).size = 1 := bs_size [c]
    have HE : Hid (T ++ bs [c] = bs (digs f (k + 1))) := by
      refine hide ?_
      rw [hT.out, bs_append, digs_succ, hd, hc]
      skip
    clear hd hc hcs
    go_wp2_with fail
    go_roundw
    case rel =>
      refine ⟨k + 1, _, by omega, rfl, by go_num, HE, ?_, hide (hF.out.trans (Fr.alloc _ _))⟩
      rw [ByteArray.size_append, hts, hsz]
    case measure => simp [intOf]; omega
  obtain rfl : k = m := by omega
  have hTz : T.size ≤ 40 := by omega
  clear HC HF p1 p2 m1 hmi hlt hk hT
  have h7 : (⟨#[55]⟩ : ByteArray).size = 1 := rfl
  obtain ⟨T7, hT7⟩ : ∃ t, (⟨#[55]⟩ : ByteArray) ++ T = t := ⟨_, rfl⟩
  have hT7z : T7.size ≤ 41 := by rw [← hT7, ByteArray.size_append]; omega
  have HT7 := hide hT7
  clear hT7
  go_upto_region 7 with fail
  go_cut [54, 55, 56] (fun s54 s55 s56 wx => ∃ (b : Nat) (K : Int), -60 ≤ K ∧ K ≤ 60 ∧ s54 = .slice (some ⟨b, 0, none⟩) 4 4 ∧ s55 = .int .i64 4 ∧ s56 = .int .i64 0 ∧ Hid (Fr V wx) ∧
    Hid (wx.cell? ⟨b, 0, none⟩ = some (.string T) ∧ wx.cell? ⟨b, 1, none⟩ = some (.int .i64 e) ∧ wx.cell? ⟨b, 2, none⟩ = some (.string T) ∧ wx.cell? ⟨b, 3, none⟩ = some (.int .i64 K) ∧ wx.cell? ⟨b, 4, none⟩ = some (.string R) ∧ wx.cell? ⟨b, 5, none⟩ = some (.int .i64 1) ∧ wx.cell? ⟨b, 6, none⟩ = some (.string T7) ∧ wx.cell? ⟨b, 7, none⟩ = some (.int .i64 K)))
  case first =>
    have ht7 := HT7.out
    have hr1 : (ms : Int) ≤ raw.size := by omega
    have hr2 : (ms : Int).toNat = ms := by omega
    go_wp2_with fail
    all_goals (go_meet; exact ⟨_, max (-60) (min e 60), by omega, by omega, rfl, rfl, rfl, hide (Fr.alloc _ _), hide ⟨by simp [go_sem], by simp [go_sem], by simp [go_sem], by simp [go_sem], by simp [go_sem, hR], by simp [go_sem], by simp [go_sem, ht7], by simp [go_sem]⟩⟩)
  case rest =>
  obtain ⟨b, K, k0, k1, rfl, rfl, rfl, FV, CV⟩ := hcut
  obtain ⟨U, hU⟩ : ∃ V, V = wc := ⟨_, rfl⟩
  rw [← hU] at FV CV ⊢
  clear hU hms hr
  have ASK : Hid (∀ k : Nat, k < 4 → ∃ (s : ByteArray) (x : Int), s.size ≤ 1000 ∧ U.cell? ⟨b, k * 2, none⟩ = some (.string s) ∧ U.cell? ⟨b, k * 2 + 1, none⟩ = some (.int .i64 x) ∧ Asked s x) := by
    intro k hk4
    obtain ⟨d0, d1, d2, d3, d4, d5, d6, d7⟩ := CV.out
    rcases k with _ | _ | _ | _ | k
    · exact ⟨T, e, by omega, d0, d1, asked T e (by omega) e0 e1⟩
    · exact ⟨T, K, by omega, d2, d3, asked T K (by omega) (by omega) (by omega)⟩
    · exact ⟨R, 1, by omega, d4, d5, asked R 1 (by omega) (by omega) (by omega)⟩
    · exact ⟨T7, K, by omega, d6, d7, asked T7 K (by omega) (by omega) (by omega)⟩
    · omega
  have FU := hide (hF.out.trans FV.out)
  clear CV FV hF hR hRz hTz hT7z HT7 h7 e0 e1 k0 k1
  go_wp2_with fail
  go_loopw [56] (fun i wr => ∃ k : Nat, k ≤ 4 ∧ i = .int .i64 k ∧ Hid (Fr U wr)) (fun i _ => 4 - (intOf i).toNat)
  case atStart => exact ⟨0, by omega, rfl, hide (Fr.refl _)⟩
  case round =>
    obtain ⟨k, hk, rfl, FR⟩ := hrel
    obtain ⟨Y, rfl⟩ : ∃ V, V = wr := ⟨_, rfl⟩
    by_cases hk4 : k < 4
    · have hk4' : (k : Int) < 4 := by omega
      obtain ⟨s, x, sz, d0, d1, hask⟩ := ASK.out k hk4
      have d0 := fr_cell FR.out d0
      have d1 := fr_cell FR.out d1
      have hask := hide hask
      go_wp2_with fail
      obtain ⟨W1, hW1⟩ : ∃ W, W = Y.alloc (Obj.cells #[.string s, .int .i64 x] 27) := ⟨_, rfl⟩
      have fy : Fr Y W1 := by rw [hW1]; exact Fr.alloc _ _
      have X1 : Hid (W1.cell? ⟨Y.heap.size, 0, none⟩ = some (.string s) ∧ W1.cell? ⟨Y.heap.size, 1, none⟩ = some (.int .i64 x)) := by rw [hW1]; exact hide ⟨by simp [go_sem], by simp [go_sem]⟩
      rw [← hW1]
      clear hW1
      have FR := hide (FR.out.trans fy)
      clear fy d0 d1
      rcases hask.out with ⟨P, N, zP, aP, aB, aM, aR⟩ | ⟨aP, aB, aM⟩
      · have aP := hide aP
        have aB := hide aB
        have aM := hide aM
        have aR := hide aR
        have bP : (P.toList != P.toList) = false := bne_self_eq_false _
        refine (aP.out _).mono ?_
        rintro r w2 ⟨rfl, fy⟩
        have X1 := hide (And.intro (fr_cell fy X1.out.1) (fr_cell fy X1.out.2))
        have FR := hide (FR.out.trans fy)
        clear fy
        have x1 := X1.out.1
        have x1' := X1.out.2
        go_wp2_with fail
        refine (aB.out _).mono ?_
        rintro r w3 ⟨rfl, fy⟩
        clear x1 x1'
        have X1 := hide (And.intro (fr_cell fy X1.out.1) (fr_cell fy X1.out.2))
        have FR := hide (FR.out.trans fy)
        clear fy
        have x1 := X1.out.1
        have x1' := X1.out.2
        go_wp2_with fail
        refine (aM.out _).mono ?_
        rintro r w4 ⟨rfl, fy⟩
        clear x1 x1'
        have X1 := hide (And.intro (fr_cell fy X1.out.1) (fr_cell fy X1.out.2))
        have FR := hide (FR.out.trans fy)
        clear fy
        have x1 := X1.out.1
        have x1' := X1.out.2
        go_wp2_with fail
        refine (aR.out _).mono ?_
        rintro r w5 ⟨rfl, rfl⟩
        go_wp2_with fail
        go_roundw
        case rel => exact ⟨k + 1, by omega, by go_num, FR⟩
        case measure => simp [intOf]; omega
      · have aP := hide aP
        have aB := hide aB
        have aM := hide aM
        refine (aP.out _).mono ?_
        rintro r w2 ⟨rfl, fy⟩
        have X1 := hide (And.intro (fr_cell fy X1.out.1) (fr_cell fy X1.out.2))
        have FR := hide (FR.out.trans fy)
        clear fy
        have x1 := X1.out.1
        have x1' := X1.out.2
        go_wp2_with fail
        refine (aB.out _).mono ?_
        rintro r w3 ⟨rfl, fy⟩
        clear x1 x1'
        have X1 := hide (And.intro (fr_cell fy X1.out.1) (fr_cell fy X1.out.2))
        have FR := hide (FR.out.trans fy)
        clear fy
        have x1 := X1.out.1
        have x1' := X1.out.2
        go_wp2_with fail
        refine (aM.out _).mono ?_
        rintro r w4 ⟨rfl, fy⟩
        clear x1 x1'
        have X1 := hide (And.intro (fr_cell fy X1.out.1) (fr_cell fy X1.out.2))
        have FR := hide (FR.out.trans fy)
        clear fy
        have x1 := X1.out.1
        have x1' := X1.out.2
        go_wp2_with fail
        go_roundw
        case rel => exact ⟨k + 1, by omega, by go_num, FR⟩
        case measure => simp [intOf]; omega
    · obtain rfl : k = 4 := by omega
      have FW := hide (FU.out.trans FR.out)
      go_wp2_with fail
      refine (wakes_any _ (HL.out.fr FW.out)).mono ?_
      rintro e w9 ⟨rfl, fy⟩
      have FW := hide (FW.out.trans fy)
      clear fy
      go_wp2_with fail
      go_ret
      exact ⟨rfl, FW.out⟩
end Go.Proofs.YtammjgieocgelaaGreatDoor
