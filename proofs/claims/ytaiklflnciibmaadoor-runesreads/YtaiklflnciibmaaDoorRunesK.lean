/- The walk of the law RunesBack. -/
import Derived.Test.YtaiklflnciibmaaDoorRunesJ
import Derived.Test.YtaiklflnciibmaaDoorRunesF
import Derived.Test.YtaiklflnciibmaaDoorRunesL
namespace Go.Proofs.YtaiklflnciibmaaDoor
set_option linter.unusedVariables false
set_option linter.unusedSimpArgs false
open Go.RowKit
theorem conv1d (w : World) (q : Nat) (a : Int) : (convert 33 9 (.slice (some ⟨w.heap.size, 0, none⟩) 1 1)).run Tryd.prog ((w.drewN q).alloc (.cells #[.int .u8 a] 5)) = .ok (.string (strOfNums [a])) ((w.drewN q).alloc (.cells #[.int .u8 a] 5)) := conv1 (w.drewN q) a
attribute [local go_sem] conv1 conv1d

theorem own_form {w : World} {base : Nat} {v : Value} {n : Nat} {xs : List Value} (h : w.ownsRow base 3 1 v n xs) : ∃ a c, v = .slice a n c := by
  rcases h.2 with ⟨rfl, rfl⟩ | ⟨g, cap, cur, rfl, _⟩
  · exact ⟨_, _, rfl⟩
  · exact ⟨_, _, rfl⟩

/-- The cells of the slice that was gathered. -/
theorem own_cells {w : World} {base : Nat} {a : Option Addr} {c : Nat} {L : List Int} (h : w.ownsRow base 3 1 (.slice a L.length c) L.length (L.map (Value.int .i64))) (hL : L ≠ []) :
    ∃ g, a = some ⟨g, 0, none⟩ ∧ Sl w g L := by
  rcases h.2 with ⟨hv, hn⟩ | ⟨g, cap, cur, hv, hb, hh, _⟩
  · exact absurd (List.length_eq_zero_iff.1 hn) hL
  · simp only [Value.slice.injEq] at hv
    obtain ⟨rfl, _, rfl⟩ := hv
    refine ⟨g, rfl, ?_, fun j hj => ?_⟩
    · rcases Nat.lt_or_ge g w.heap.size with k | k
      · exact k
      · simp [Array.getElem?_eq_none k] at hh
    · rw [h.cellAt j (by omega)]
      simp [List.getElem?_map, List.getElem?_eq_getElem hj, List.getD_eq_getElem?_getD]

theorem own_below {w w0 : World} {v : Value} {n : Nat} {xs : List Value} (h : w.ownsRow w0.heap.size 3 1 v n xs) : ∀ k, v.ownBlock = some k → w0.heap.size ≤ k := fun k hk => (h.lt k hk).1

theorem own_fr {w w' : World} {base : Nat} {v : Value} {n : Nat} {xs : List Value} (h : w.ownsRow base 3 1 v n xs) (k : Fr w w') : w'.ownsRow base 3 1 v n xs := by
  refine ⟨h.1, ?_⟩
  rcases h.2 with h' | ⟨g, cap, cur, hv, hb, hh, rest⟩
  · exact .inl h'
  · have hg : g < w.heap.size := by
      rcases Nat.lt_or_ge g w.heap.size with k | k
      · exact k
      · simp [Array.getElem?_eq_none k] at hh
    exact .inr ⟨g, cap, cur, hv, hb, (k.block g hg).trans hh, rest⟩

theorem cat_snoc : ∀ (L : List Int) (y : Int), cat (L ++ [y]) = cat L ++ nums y
  | [], y => by simp [cat]
  | n :: r, y => by simp [cat, cat_snoc r y]

theorem cat_len : ∀ (L : List Int), (∀ m ∈ L, rsize m ≠ 0) → (cat L).length ≤ 4 * L.length
  | [], _ => by simp [cat]
  | n :: r, h => by
    have h1 := nums_length n (h n (by simp))
    have h2 := rsize_cases n
    have := cat_len r (fun m hm => h m (by simp [hm]))
    simp only [cat, List.length_append, List.length_cons]
    omega

theorem zero_ok : isB 0 = true := by decide +kernel

/-- Whole texts of signs. -/
theorem rall_of_cat (str : ByteArray) (L : List Int) (h : ints str = cat L) (hv : ∀ m ∈ L, rsize m ≠ 0) : rall (ints str) = (L, str.size) := by
  have := rall_cat L hv [] (by simp)
  rw [List.append_nil, rall_nil] at this
  rw [h, this, ← ints_length, h]
  simp

theorem rall_wrong (str : ByteArray) (L : List Int) (h : ints str = cat L) (hv : ∀ m ∈ L, rsize m ≠ 0) (x : Int) (h1 : 128 ≤ x) (h2 : x < 192) : rall (ints (str ++ strOfNums [x] ++ ⟨#[97]⟩)) = (L, str.size) := by
  have hr : ∀ y ∈ [x, 97], 0 ≤ y ∧ y ≤ 255 := by intro y hy; simp at hy; omega
  have e : ints (str ++ strOfNums [x] ++ ⟨#[97]⟩) = cat L ++ [x, 97] := by
    rw [ints_append, ints_append, h, ints_nums [x] (fun y hy => hr y (by simp at hy; simp [hy])), List.append_assoc]
    rfl
  have hf : rfirst [x, 97] = (0, 0, false) := by
    simp only [rfirst]
    rw [if_pos h2, if_neg]
    have := rsize_cases x
    omega
  rw [e, rall_cat L hv _ hr, rall_no _ hf, ← ints_length, h]
  simp


set_option maxHeartbeats 2000000 in
theorem back_nil (a : Option Addr) (cap : Nat) (wr0 : Int) (w : World) (hL : Lead w) (g0 : 0 ≤ wr0) (g1 : wr0 ≤ 255) : Calls Tryd.prog 5 #[.slice a 0 cap, .int .u8 wr0] w fun e w' => e = .returned (.bool true) ∧ Fr w w' := by
  obtain ⟨i0, hi, hz0, hz1, hz2⟩ := info_parts info3
  go_enter Tryd.func5, Tryd.ntmps5
  go_wp2_with fail
  go_loopw [5, 6, 21] (fun sv v i wr => ∃ (k : Nat) (L : List Int) (str : ByteArray) (a1 : Option Addr) (c1 : Nat), k ≤ 0 ∧ i = .int .i64 k ∧ sv = .string str ∧ v = .slice a1 L.length c1 ∧ wr.ownsRow w.heap.size 3 1 (.slice a1 L.length c1) L.length (L.map (Value.int .i64)) ∧ ints str = cat L ∧ (∀ m ∈ L, rsize m ≠ 0) ∧ L.length ≤ k ∧ str.size ≤ 4 * k ∧ Fr w wr) (fun _ _ i _ => 0 - (intOf i).toNat)
  case atStart => exact ⟨0, [], ⟨#[]⟩, none, 0, by omega, rfl, rfl, rfl, World.ownsRow_nil _ _ _ _, rfl, by simp, by simp, by decide, Fr.refl _⟩
  case round =>
    obtain ⟨k, L, str, a1, c1, hk, rfl, rfl, rfl, hown, hcat, hval, hlk, hsk, hF⟩ := hrel
    by_cases hlt : k < 0
    · omega
    · have hLr := hL.fr hF
      have hra := rall_of_cat str L hcat hval
      have hL60 : L.length ≤ 60 := by omega
      have hS240 : str.size ≤ 240 := by omega
      have hwh := all_whole str
      have hrw := rall_wrong str L hcat hval
      rw [hra] at hwh
      have hri := right_yes str
      rw [hra] at hri
      have HW : Hid _ := hwh
      have HI : Hid _ := hri
      have HRW : Hid _ := hrw
      have HO : Hid _ := hown
      clear hwh hri hcat hown hrw hra hval
      go_wp2_with fail
      refine (HW.out wr hLr (by omega) (by trivial)).mono ?_
      rintro e w1 ⟨Bg, rfl, f1, sg⟩
      go_wp2_with fail
      refine (wakes_any _ (hLr.fr f1)).mono ?_
      rintro e w2 ⟨rfl, f2⟩
      go_wp2_with fail
      refine (HI.out w2 ((hLr.fr f1).fr f2) (by unfold maxLen; omega) (by trivial)).mono ?_
      rintro e w3 ⟨rfl, f3⟩
      have fin3 : Fr w w3 := ((hF.trans f1).trans f2).trans f3
      have sg3 := (sg.fr f2).fr f3
      have hL3 := hL.fr fin3
      have ho3 := own_fr (own_fr (own_fr HO.out f1) f2) f3
      have hwant : Hid (L ≠ [] → ∃ g, a1 = some ⟨g, 0, none⟩ ∧ Sl w3 g L) := fun h => own_cells ho3 h
      clear sg ho3 hLr
      go_wp2_with fail
      go_loopw [75] (fun i wr => ∃ (j q : Nat), j ≤ L.length ∧ i = .int .i64 j ∧ wr = w3.drewN q) (fun i _ => L.length - (intOf i).toNat)
      case atStart => exact ⟨0, 0, by omega, rfl, rfl⟩
      case round =>
        obtain ⟨j, q, hj, rfl, rfl⟩ := hrel
        by_cases hjl : j < L.length
        · obtain ⟨g, rfl, sw⟩ := hwant.out (by rintro rfl; simp at hjl)
          have x1 := sg3.2 j hjl
          have x2 := sw.2 j hjl
          generalize L.getD j 0 = x at *
          go_wp2_with fail
          go_quiet (fail)
          go_wp2_with fail
          go_roundw
          case rel => exact ⟨j + 1, _, by omega, by go_num, rfl⟩
          case measure => simp [intOf]; omega
        · have hno := all_no (str ++ strOfNums [128 + wr0 % 64] ++ ⟨#[97]⟩)
          have hz3 : (str ++ strOfNums [128 + wr0 % 64] ++ ⟨#[97]⟩).size = str.size + 2 := by
            rw [size_append, size_append, strOfNums_size]; rfl
          rw [HRW.out (128 + wr0 % 64) (by omega) (by omega), hz3] at hno
          have HNO : Hid _ := hno
          have hq1 : (strOfNums [128 + wr0 % 64]).size ≤ 1 := by rw [strOfNums_size]; simp
          have hq2 : (str ++ strOfNums [128 + wr0 % 64]).size ≤ 241 := by rw [size_append]; omega
          clear hno hz3
          go_wp2_with fail
          refine (HNO.out _ ?_ (by unfold maxLen; omega) (by omega)).mono ?_
          · exact hL3.fr (by unfold Fr; exact Below.alloc (below_drewN (Below.refl _ _) _) (by simp) _)
          rintro e w4 ⟨rfl, f4⟩
          go_wp2_with fail
          go_ret
          refine ⟨by simp, fin3.trans (Fr.trans ?_ f4)⟩
          unfold Fr
          exact Below.alloc (below_drewN (Below.refl _ _) _) (by simp) _

set_option maxHeartbeats 2000000 in
theorem back_le (b off len cap : Nat) (zs : List Int) (hlc : len ≤ cap) (hcap : cap ≤ maxLen) (hlen : len ≤ 60) (wr0 : Int) (w : World) (hL : Lead w) (hbw : b < w.heap.size) (hcell : ∀ i, i < cap → w.cell? ⟨b, off + i, none⟩ = some (.int .i64 (zs.getD i 0))) (g0 : 0 ≤ wr0) (g1 : wr0 ≤ 255) : Calls Tryd.prog 5 #[.slice (some ⟨b, off, none⟩) len cap, .int .u8 wr0] w fun e w' => e = .returned (.bool true) ∧ Fr w w' := by
  obtain ⟨i0, hi, hz0, hz1, hz2⟩ := info_parts info3
  unfold maxLen at hcap
  have HC : Hid _ := hcell
  clear hcell
  go_enter Tryd.func5, Tryd.ntmps5
  go_wp2_with fail
  go_loopw [5, 6, 21] (fun sv v i wr => ∃ (k : Nat) (L : List Int) (str : ByteArray) (a1 : Option Addr) (c1 : Nat), k ≤ len ∧ i = .int .i64 k ∧ sv = .string str ∧ v = .slice a1 L.length c1 ∧ wr.ownsRow w.heap.size 3 1 (.slice a1 L.length c1) L.length (L.map (Value.int .i64)) ∧ ints str = cat L ∧ (∀ m ∈ L, rsize m ≠ 0) ∧ L.length ≤ k ∧ str.size ≤ 4 * k ∧ Fr w wr) (fun _ _ i _ => len - (intOf i).toNat)
  case atStart => exact ⟨0, [], ⟨#[]⟩, none, 0, by omega, rfl, rfl, rfl, World.ownsRow_nil _ _ _ _, rfl, by simp, by simp, by decide, Fr.refl _⟩
  case round =>
    obtain ⟨k, L, str, a1, c1, hk, rfl, rfl, rfl, hown, hcat, hval, hlk, hsk, hF⟩ := hrel
    by_cases hlt : k < len
    · have hLr := hL.fr hF
      have hcx := (Below.cell (p := ⟨b, off + k, none⟩) hF hbw).trans (HC.out k (by omega))
      generalize zs.getD k 0 = z at *
      by_cases hz : z ≤ 0
      · have HB : Hid (isB 0 = true) := zero_ok
        focus
          have hbd := isB_bd _ HB.out
          have hv := (isB_iff _).1 HB.out
          have hsz : (strOfNums (nums 0)).size ≤ 4 := by
            rw [strOfNums_size]; have := nums_length _ hv; have := rsize_cases 0; omega
          have happ := size_append str (strOfNums (nums 0))
          have HV : Hid _ := hv
          have HAP : Hid _ := happ
          clear hv happ
          go_wp2_with fail
          refine (text_yes 0 _ hLr HB.out).mono ?_
          rintro e w1 ⟨rfl, hF1⟩
          have hown1 := own_fr hown hF1
          go_wp2_with (at_builtin; refine wpList_append_own _ rfl _ _ 22 rfl w.heap.size 3 i0 (.int .i64 0) 1 8 Tryd.underlying22 hi hz0 hz1 hz2 rfl (by decide) _ _ _ rfl (hown1.alloc _) ⟨w1.heap.size, 0, none⟩ 1 1 [.int .i64 0] rfl rfl ?c1 ?c2 ?c3 ?c4 ?c5 ?_)
          case c1 => exact cell_one_new _ _ _
          case c2 => intro u hu; simp at hu; subst hu; rfl
          case c3 => unfold maxLen; omega
          case c4 => omega
          case c5 => have := (hF.trans hF1).size; simp; omega
          intro v' w2 hown' hgrow _
          obtain ⟨a2, c2, hv2⟩ := own_form hown'
          rw [hv2] at hown'
          rw [hv2]
          have hF2 : Fr w w2 := Below.grown (Below.alloc (hF.trans hF1) (hF.trans hF1).size _) hgrow (by have := (hF.trans hF1).size; simp; omega) (own_below hown)
          clear hgrow hown1
          have HO : Hid _ := hown'
          clear hown' hown hv2
          go_wp2_with fail
          go_roundw
          case rel =>
            have hl : (L ++ [0]).length = L.length + 1 := by simp
            refine ⟨k + 1, L ++ [0], str ++ strOfNums (nums 0), a2, c2, by omega, by go_num, rfl, ?_, ?_, ?_, ?_, by omega, ?_, hF2⟩
            · rw [hl]
            · rw [hl, List.map_append]; exact HO.out
            · rw [ints_append, hcat, cat_snoc, ints_nums _ (nums_range _ HV.out)]
            · intro m hm
              rw [List.mem_append] at hm
              rcases hm with hm | hm
              · exact hval m hm
              · simp at hm; subst hm; exact HV.out
            · rw [HAP.out]; omega
          case measure => simp [intOf]; omega

      · cases hb : isB (z % 1114112)
        · have HB : Hid (isB (z % 1114112) = false) := hb
          clear hb
          go_wp2_with fail
          refine (text_no (z % 1114112) _ hLr HB.out).mono ?_
          rintro e w1 ⟨rfl, hF1⟩
          go_wp2_with fail
          go_roundw
          case rel => exact ⟨k + 1, L, str, a1, c1, by omega, by go_num, rfl, rfl, own_fr hown hF1, hcat, hval, by omega, by omega, hF.trans hF1⟩
          case measure => simp [intOf]; omega

        · have HB : Hid (isB (z % 1114112) = true) := hb
          clear hb
          have hbd := isB_bd _ HB.out
          have hv := (isB_iff _).1 HB.out
          have hsz : (strOfNums (nums (z % 1114112))).size ≤ 4 := by
            rw [strOfNums_size]; have := nums_length _ hv; have := rsize_cases (z % 1114112); omega
          have happ := size_append str (strOfNums (nums (z % 1114112)))
          have HV : Hid _ := hv
          have HAP : Hid _ := happ
          clear hv happ
          go_wp2_with fail
          refine (text_yes (z % 1114112) _ hLr HB.out).mono ?_
          rintro e w1 ⟨rfl, hF1⟩
          have hown1 := own_fr hown hF1
          go_wp2_with (at_builtin; refine wpList_append_own _ rfl _ _ 22 rfl w.heap.size 3 i0 (.int .i64 0) 1 8 Tryd.underlying22 hi hz0 hz1 hz2 rfl (by decide) _ _ _ rfl (hown1.alloc _) ⟨w1.heap.size, 0, none⟩ 1 1 [.int .i64 (z % 1114112)] rfl rfl ?c1 ?c2 ?c3 ?c4 ?c5 ?_)
          case c1 => exact cell_one_new _ _ _
          case c2 => intro u hu; simp at hu; subst hu; rfl
          case c3 => unfold maxLen; omega
          case c4 => omega
          case c5 => have := (hF.trans hF1).size; simp; omega
          intro v' w2 hown' hgrow _
          obtain ⟨a2, c2, hv2⟩ := own_form hown'
          rw [hv2] at hown'
          rw [hv2]
          have hF2 : Fr w w2 := Below.grown (Below.alloc (hF.trans hF1) (hF.trans hF1).size _) hgrow (by have := (hF.trans hF1).size; simp; omega) (own_below hown)
          clear hgrow hown1
          have HO : Hid _ := hown'
          clear hown' hown hv2
          go_wp2_with fail
          go_roundw
          case rel =>
            have hl : (L ++ [(z % 1114112)]).length = L.length + 1 := by simp
            refine ⟨k + 1, L ++ [(z % 1114112)], str ++ strOfNums (nums (z % 1114112)), a2, c2, by omega, by go_num, rfl, ?_, ?_, ?_, ?_, by omega, ?_, hF2⟩
            · rw [hl]
            · rw [hl, List.map_append]; exact HO.out
            · rw [ints_append, hcat, cat_snoc, ints_nums _ (nums_range _ HV.out)]
            · intro m hm
              rw [List.mem_append] at hm
              rcases hm with hm | hm
              · exact hval m hm
              · simp at hm; subst hm; exact HV.out
            · rw [HAP.out]; omega
          case measure => simp [intOf]; omega
    · have hLr := hL.fr hF
      have hra := rall_of_cat str L hcat hval
      have hL60 : L.length ≤ 60 := by omega
      have hS240 : str.size ≤ 240 := by omega
      have hwh := all_whole str
      have hrw := rall_wrong str L hcat hval
      rw [hra] at hwh
      have hri := right_yes str
      rw [hra] at hri
      have HW : Hid _ := hwh
      have HI : Hid _ := hri
      have HRW : Hid _ := hrw
      have HO : Hid _ := hown
      clear hwh hri hcat hown hrw hra hval
      go_wp2_with fail
      refine (HW.out wr hLr (by omega) (by trivial)).mono ?_
      rintro e w1 ⟨Bg, rfl, f1, sg⟩
      go_wp2_with fail
      refine (wakes_any _ (hLr.fr f1)).mono ?_
      rintro e w2 ⟨rfl, f2⟩
      go_wp2_with fail
      refine (HI.out w2 ((hLr.fr f1).fr f2) (by unfold maxLen; omega) (by trivial)).mono ?_
      rintro e w3 ⟨rfl, f3⟩
      have fin3 : Fr w w3 := ((hF.trans f1).trans f2).trans f3
      have sg3 := (sg.fr f2).fr f3
      have hL3 := hL.fr fin3
      have ho3 := own_fr (own_fr (own_fr HO.out f1) f2) f3
      have hwant : Hid (L ≠ [] → ∃ g, a1 = some ⟨g, 0, none⟩ ∧ Sl w3 g L) := fun h => own_cells ho3 h
      clear sg ho3 hLr
      go_wp2_with fail
      go_loopw [75] (fun i wr => ∃ (j q : Nat), j ≤ L.length ∧ i = .int .i64 j ∧ wr = w3.drewN q) (fun i _ => L.length - (intOf i).toNat)
      case atStart => exact ⟨0, 0, by omega, rfl, rfl⟩
      case round =>
        obtain ⟨j, q, hj, rfl, rfl⟩ := hrel
        by_cases hjl : j < L.length
        · obtain ⟨g, rfl, sw⟩ := hwant.out (by rintro rfl; simp at hjl)
          have x1 := sg3.2 j hjl
          have x2 := sw.2 j hjl
          generalize L.getD j 0 = x at *
          go_wp2_with fail
          go_quiet (fail)
          go_wp2_with fail
          go_roundw
          case rel => exact ⟨j + 1, _, by omega, by go_num, rfl⟩
          case measure => simp [intOf]; omega
        · have hno := all_no (str ++ strOfNums [128 + wr0 % 64] ++ ⟨#[97]⟩)
          have hz3 : (str ++ strOfNums [128 + wr0 % 64] ++ ⟨#[97]⟩).size = str.size + 2 := by
            rw [size_append, size_append, strOfNums_size]; rfl
          rw [HRW.out (128 + wr0 % 64) (by omega) (by omega), hz3] at hno
          have HNO : Hid _ := hno
          have hq1 : (strOfNums [128 + wr0 % 64]).size ≤ 1 := by rw [strOfNums_size]; simp
          have hq2 : (str ++ strOfNums [128 + wr0 % 64]).size ≤ 241 := by rw [size_append]; omega
          clear hno hz3
          go_wp2_with fail
          refine (HNO.out _ ?_ (by unfold maxLen; omega) (by omega)).mono ?_
          · exact hL3.fr (by unfold Fr; exact Below.alloc (below_drewN (Below.refl _ _) _) (by simp) _)
          rintro e w4 ⟨rfl, f4⟩
          go_wp2_with fail
          go_ret
          refine ⟨by simp, fin3.trans (Fr.trans ?_ f4)⟩
          unfold Fr
          exact Below.alloc (below_drewN (Below.refl _ _) _) (by simp) _

set_option maxHeartbeats 2000000 in
theorem back_gt (b off len cap : Nat) (zs : List Int) (hlc : len ≤ cap) (hcap : cap ≤ maxLen) (hlen : 60 < len) (wr0 : Int) (w : World) (hL : Lead w) (hbw : b < w.heap.size) (hcell : ∀ i, i < cap → w.cell? ⟨b, off + i, none⟩ = some (.int .i64 (zs.getD i 0))) (g0 : 0 ≤ wr0) (g1 : wr0 ≤ 255) : Calls Tryd.prog 5 #[.slice (some ⟨b, off, none⟩) len cap, .int .u8 wr0] w fun e w' => e = .returned (.bool true) ∧ Fr w w' := by
  obtain ⟨i0, hi, hz0, hz1, hz2⟩ := info_parts info3
  unfold maxLen at hcap
  have HC : Hid _ := hcell
  clear hcell
  go_enter Tryd.func5, Tryd.ntmps5
  go_wp2_with fail
  go_loopw [5, 6, 21] (fun sv v i wr => ∃ (k : Nat) (L : List Int) (str : ByteArray) (a1 : Option Addr) (c1 : Nat), k ≤ 60 ∧ i = .int .i64 k ∧ sv = .string str ∧ v = .slice a1 L.length c1 ∧ wr.ownsRow w.heap.size 3 1 (.slice a1 L.length c1) L.length (L.map (Value.int .i64)) ∧ ints str = cat L ∧ (∀ m ∈ L, rsize m ≠ 0) ∧ L.length ≤ k ∧ str.size ≤ 4 * k ∧ Fr w wr) (fun _ _ i _ => 60 - (intOf i).toNat)
  case atStart => exact ⟨0, [], ⟨#[]⟩, none, 0, by omega, rfl, rfl, rfl, World.ownsRow_nil _ _ _ _, rfl, by simp, by simp, by decide, Fr.refl _⟩
  case round =>
    obtain ⟨k, L, str, a1, c1, hk, rfl, rfl, rfl, hown, hcat, hval, hlk, hsk, hF⟩ := hrel
    by_cases hlt : k < 60
    · have hLr := hL.fr hF
      have hcx := (Below.cell (p := ⟨b, off + k, none⟩) hF hbw).trans (HC.out k (by omega))
      generalize zs.getD k 0 = z at *
      by_cases hz : z ≤ 0
      · have HB : Hid (isB 0 = true) := zero_ok
        focus
          have hbd := isB_bd _ HB.out
          have hv := (isB_iff _).1 HB.out
          have hsz : (strOfNums (nums 0)).size ≤ 4 := by
            rw [strOfNums_size]; have := nums_length _ hv; have := rsize_cases 0; omega
          have happ := size_append str (strOfNums (nums 0))
          have HV : Hid _ := hv
          have HAP : Hid _ := happ
          clear hv happ
          go_wp2_with fail
          refine (text_yes 0 _ hLr HB.out).mono ?_
          rintro e w1 ⟨rfl, hF1⟩
          have hown1 := own_fr hown hF1
          go_wp2_with (at_builtin; refine wpList_append_own _ rfl _ _ 22 rfl w.heap.size 3 i0 (.int .i64 0) 1 8 Tryd.underlying22 hi hz0 hz1 hz2 rfl (by decide) _ _ _ rfl (hown1.alloc _) ⟨w1.heap.size, 0, none⟩ 1 1 [.int .i64 0] rfl rfl ?c1 ?c2 ?c3 ?c4 ?c5 ?_)
          case c1 => exact cell_one_new _ _ _
          case c2 => intro u hu; simp at hu; subst hu; rfl
          case c3 => unfold maxLen; omega
          case c4 => omega
          case c5 => have := (hF.trans hF1).size; simp; omega
          intro v' w2 hown' hgrow _
          obtain ⟨a2, c2, hv2⟩ := own_form hown'
          rw [hv2] at hown'
          rw [hv2]
          have hF2 : Fr w w2 := Below.grown (Below.alloc (hF.trans hF1) (hF.trans hF1).size _) hgrow (by have := (hF.trans hF1).size; simp; omega) (own_below hown)
          clear hgrow hown1
          have HO : Hid _ := hown'
          clear hown' hown hv2
          go_wp2_with fail
          go_roundw
          case rel =>
            have hl : (L ++ [0]).length = L.length + 1 := by simp
            refine ⟨k + 1, L ++ [0], str ++ strOfNums (nums 0), a2, c2, by omega, by go_num, rfl, ?_, ?_, ?_, ?_, by omega, ?_, hF2⟩
            · rw [hl]
            · rw [hl, List.map_append]; exact HO.out
            · rw [ints_append, hcat, cat_snoc, ints_nums _ (nums_range _ HV.out)]
            · intro m hm
              rw [List.mem_append] at hm
              rcases hm with hm | hm
              · exact hval m hm
              · simp at hm; subst hm; exact HV.out
            · rw [HAP.out]; omega
          case measure => simp [intOf]; omega

      · cases hb : isB (z % 1114112)
        · have HB : Hid (isB (z % 1114112) = false) := hb
          clear hb
          go_wp2_with fail
          refine (text_no (z % 1114112) _ hLr HB.out).mono ?_
          rintro e w1 ⟨rfl, hF1⟩
          go_wp2_with fail
          go_roundw
          case rel => exact ⟨k + 1, L, str, a1, c1, by omega, by go_num, rfl, rfl, own_fr hown hF1, hcat, hval, by omega, by omega, hF.trans hF1⟩
          case measure => simp [intOf]; omega

        · have HB : Hid (isB (z % 1114112) = true) := hb
          clear hb
          have hbd := isB_bd _ HB.out
          have hv := (isB_iff _).1 HB.out
          have hsz : (strOfNums (nums (z % 1114112))).size ≤ 4 := by
            rw [strOfNums_size]; have := nums_length _ hv; have := rsize_cases (z % 1114112); omega
          have happ := size_append str (strOfNums (nums (z % 1114112)))
          have HV : Hid _ := hv
          have HAP : Hid _ := happ
          clear hv happ
          go_wp2_with fail
          refine (text_yes (z % 1114112) _ hLr HB.out).mono ?_
          rintro e w1 ⟨rfl, hF1⟩
          have hown1 := own_fr hown hF1
          go_wp2_with (at_builtin; refine wpList_append_own _ rfl _ _ 22 rfl w.heap.size 3 i0 (.int .i64 0) 1 8 Tryd.underlying22 hi hz0 hz1 hz2 rfl (by decide) _ _ _ rfl (hown1.alloc _) ⟨w1.heap.size, 0, none⟩ 1 1 [.int .i64 (z % 1114112)] rfl rfl ?c1 ?c2 ?c3 ?c4 ?c5 ?_)
          case c1 => exact cell_one_new _ _ _
          case c2 => intro u hu; simp at hu; subst hu; rfl
          case c3 => unfold maxLen; omega
          case c4 => omega
          case c5 => have := (hF.trans hF1).size; simp; omega
          intro v' w2 hown' hgrow _
          obtain ⟨a2, c2, hv2⟩ := own_form hown'
          rw [hv2] at hown'
          rw [hv2]
          have hF2 : Fr w w2 := Below.grown (Below.alloc (hF.trans hF1) (hF.trans hF1).size _) hgrow (by have := (hF.trans hF1).size; simp; omega) (own_below hown)
          clear hgrow hown1
          have HO : Hid _ := hown'
          clear hown' hown hv2
          go_wp2_with fail
          go_roundw
          case rel =>
            have hl : (L ++ [(z % 1114112)]).length = L.length + 1 := by simp
            refine ⟨k + 1, L ++ [(z % 1114112)], str ++ strOfNums (nums (z % 1114112)), a2, c2, by omega, by go_num, rfl, ?_, ?_, ?_, ?_, by omega, ?_, hF2⟩
            · rw [hl]
            · rw [hl, List.map_append]; exact HO.out
            · rw [ints_append, hcat, cat_snoc, ints_nums _ (nums_range _ HV.out)]
            · intro m hm
              rw [List.mem_append] at hm
              rcases hm with hm | hm
              · exact hval m hm
              · simp at hm; subst hm; exact HV.out
            · rw [HAP.out]; omega
          case measure => simp [intOf]; omega
    · have hLr := hL.fr hF
      have hra := rall_of_cat str L hcat hval
      have hL60 : L.length ≤ 60 := by omega
      have hS240 : str.size ≤ 240 := by omega
      have hwh := all_whole str
      have hrw := rall_wrong str L hcat hval
      rw [hra] at hwh
      have hri := right_yes str
      rw [hra] at hri
      have HW : Hid _ := hwh
      have HI : Hid _ := hri
      have HRW : Hid _ := hrw
      have HO : Hid _ := hown
      clear hwh hri hcat hown hrw hra hval
      go_wp2_with fail
      refine (HW.out wr hLr (by omega) (by trivial)).mono ?_
      rintro e w1 ⟨Bg, rfl, f1, sg⟩
      go_wp2_with fail
      refine (wakes_any _ (hLr.fr f1)).mono ?_
      rintro e w2 ⟨rfl, f2⟩
      go_wp2_with fail
      refine (HI.out w2 ((hLr.fr f1).fr f2) (by unfold maxLen; omega) (by trivial)).mono ?_
      rintro e w3 ⟨rfl, f3⟩
      have fin3 : Fr w w3 := ((hF.trans f1).trans f2).trans f3
      have sg3 := (sg.fr f2).fr f3
      have hL3 := hL.fr fin3
      have ho3 := own_fr (own_fr (own_fr HO.out f1) f2) f3
      have hwant : Hid (L ≠ [] → ∃ g, a1 = some ⟨g, 0, none⟩ ∧ Sl w3 g L) := fun h => own_cells ho3 h
      clear sg ho3 hLr
      go_wp2_with fail
      go_loopw [75] (fun i wr => ∃ (j q : Nat), j ≤ L.length ∧ i = .int .i64 j ∧ wr = w3.drewN q) (fun i _ => L.length - (intOf i).toNat)
      case atStart => exact ⟨0, 0, by omega, rfl, rfl⟩
      case round =>
        obtain ⟨j, q, hj, rfl, rfl⟩ := hrel
        by_cases hjl : j < L.length
        · obtain ⟨g, rfl, sw⟩ := hwant.out (by rintro rfl; simp at hjl)
          have x1 := sg3.2 j hjl
          have x2 := sw.2 j hjl
          generalize L.getD j 0 = x at *
          go_wp2_with fail
          go_quiet (fail)
          go_wp2_with fail
          go_roundw
          case rel => exact ⟨j + 1, _, by omega, by go_num, rfl⟩
          case measure => simp [intOf]; omega
        · have hno := all_no (str ++ strOfNums [128 + wr0 % 64] ++ ⟨#[97]⟩)
          have hz3 : (str ++ strOfNums [128 + wr0 % 64] ++ ⟨#[97]⟩).size = str.size + 2 := by
            rw [size_append, size_append, strOfNums_size]; rfl
          rw [HRW.out (128 + wr0 % 64) (by omega) (by omega), hz3] at hno
          have HNO : Hid _ := hno
          have hq1 : (strOfNums [128 + wr0 % 64]).size ≤ 1 := by rw [strOfNums_size]; simp
          have hq2 : (str ++ strOfNums [128 + wr0 % 64]).size ≤ 241 := by rw [size_append]; omega
          clear hno hz3
          go_wp2_with fail
          refine (HNO.out _ ?_ (by unfold maxLen; omega) (by omega)).mono ?_
          · exact hL3.fr (by unfold Fr; exact Below.alloc (below_drewN (Below.refl _ _) _) (by simp) _)
          rintro e w4 ⟨rfl, f4⟩
          go_wp2_with fail
          go_ret
          refine ⟨by simp, fin3.trans (Fr.trans ?_ f4)⟩
          unfold Fr
          exact Below.alloc (below_drewN (Below.refl _ _) _) (by simp) _
end Go.Proofs.YtaiklflnciibmaaDoor
