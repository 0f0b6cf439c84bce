/- word, between. -/
import Derived.Test.YtaokmegoheofjaaDoorTokE
namespace Go.Proofs.YtaokmegoheofjaaDoor
set_option linter.unusedVariables false
set_option linter.unusedSimpArgs false
open Go.RowKit
open Go (Lib.index Lib.cut)

/-- The library's variable that strings.Cut reads holds some number. -/
def MaxOk (w : World) : Prop := ∃ m, w.cell? ⟨6, 0, none⟩ = some (.int .i64 m)
theorem MaxOk.fr {w w' : World} (h : MaxOk w) (k : Fr w w') : MaxOk w' := by
  obtain ⟨m, hm⟩ := h
  exact ⟨m, fr_cell k hm⟩

theorem index_one (b : UInt8) : ∀ l : List UInt8, (Lib.index l [b] = -1 ∧ l.takeWhile (fun x => decide (x ≠ b)) = l) ∨ ∃ i : Nat, Lib.index l [b] = i ∧ l.takeWhile (fun x => decide (x ≠ b)) = l.take i ∧ i < l.length
  | [] => .inl ⟨rfl, rfl⟩
  | a :: l => by
    by_cases h : a = b
    · subst h
      exact .inr ⟨0, by simp [Lib.index, List.isPrefixOf], by simp, by simp⟩
    · have hp : [b].isPrefixOf (a :: l) = false := by simp [List.isPrefixOf]; exact fun e => h e.symm
      have hw : (a :: l).takeWhile (fun x => decide (x ≠ b)) = a :: l.takeWhile (fun x => decide (x ≠ b)) := by rw [List.takeWhile_cons, if_pos (by simpa using h)]
      rcases index_one b l with ⟨h1, h2⟩ | ⟨i, h1, h2, h3⟩
      · left
        rw [hw, h2]
        exact ⟨by simp [Lib.index, hp, h1], rfl⟩
      · right
        refine ⟨i + 1, ?_, by rw [hw, h2]; rfl, by simpa using h3⟩
        have : ((i : Int) == -1) = false := by rw [beq_eq_false_iff_ne]; omega
        simp [Lib.index, hp, h1, this]

theorem takeWhile_ints (b : UInt8) : ∀ l : List UInt8, (l.takeWhile (fun x => decide (x ≠ b))).map (fun c => (c.toNat : Int)) = (l.map (fun c => (c.toNat : Int))).takeWhile (fun x => decide (x ≠ (b.toNat : Int)))
  | [] => rfl
  | a :: l => by
    by_cases h : a = b
    · subst h; simp
    · have h' : (a.toNat : Int) ≠ (b.toNat : Int) := fun e => h (UInt8.toNat_inj.1 (by omega))
      rw [List.map_cons, List.takeWhile_cons, if_pos (by simpa using h), List.takeWhile_cons, if_pos (by simpa using h'), List.map_cons, takeWhile_ints b l]

theorem cut_told (t : ByteArray) (b : UInt8) : (⟨(Lib.cut t.data.toList [b]).1.toArray⟩ : ByteArray) = strOfNums (upto (b.toNat : Int) (ints t)) ∧ (Lib.cut t.data.toList [b]).2.2 = decide ((upto (b.toNat : Int) (ints t)).length < t.size) := by
  have e : upto (b.toNat : Int) (ints t) = (t.data.toList.takeWhile (fun x => decide (x ≠ b))).map (fun c => (c.toNat : Int)) := (takeWhile_ints b _).symm
  have hz : t.size = t.data.toList.length := Lib.size_eq t
  rcases index_one b t.data.toList with ⟨h1, h2⟩ | ⟨i, h1, h2, h3⟩
  · have hc : Lib.cut t.data.toList [b] = (t.data.toList, [], false) := by unfold Lib.cut; rw [h1, if_neg (by omega)]
    rw [hc, e, h2]
    refine ⟨str_of ?_, ?_⟩
    · simp [ints]
    · rw [List.length_map, hz]; simp
  · have hc : (Lib.cut t.data.toList [b]).1 = t.data.toList.take i ∧ (Lib.cut t.data.toList [b]).2.2 = true := by
      unfold Lib.cut; rw [h1, if_pos (by omega)]; exact ⟨by simp, rfl⟩
    rw [hc.1, hc.2, e, h2]
    refine ⟨str_of ?_, ?_⟩
    · simp [ints]
    · rw [List.length_map, List.length_take, hz]; symm; exact decide_eq_true (by omega)

theorem cut_any (t : ByteArray) (b : UInt8) (w : World) (hE : MaxOk w) (ht : t.size ≤ 4096) :
    Calls Tryd.prog 51 #[.string t, .string ⟨#[b]⟩] w fun e w' => (∃ x, e = .returned (.tuple #[.string (strOfNums (upto (b.toNat : Int) (ints t))), .string x, .bool (decide ((upto (b.toNat : Int) (ints t)).length < t.size))])) ∧ Fr w w' := by
  obtain ⟨m, hm⟩ := hE
  obtain ⟨e1, e2⟩ := cut_told t b
  refine (Tryd.strings_Cut t ⟨#[b]⟩ m w (by omega) hm).mono ?_
  rintro e w' ⟨rfl, n, rfl⟩
  refine ⟨⟨⟨(Lib.cut t.data.toList [b]).2.1.toArray⟩, ?_⟩, Fr.drewN _ _⟩
  rw [← e1, ← e2]

theorem upto_range (last : Int) (s : ByteArray) (k : Nat) : Rg (upto last ((ints s).drop k)) := fun x hx => drop_range s k x ((List.takeWhile_sublist _).subset hx)

set_option maxHeartbeats 1000000 in
set_option maxRecDepth 4000 in
theorem between_any (s : ByteArray) (b : UInt8) (k e : Int) (w : World) (hL : Lead w) (hE : MaxOk w) (hs : s.size ≤ 4096) (h0 : 0 < s.size) :
    Calls Tryd.prog 30 #[.string s, .int .i64 k, .string ⟨#[b]⟩, .int .i64 e] w fun r w' => r = .returned (nxV (quoteN k (b.toNat : Int) e ((ints s).drop 1))) ∧ Fr w w' := by
  have hz : (ints s).length = s.size := ints_length s
  have hu := upto_range (b.toNat : Int) s 1
  have hlen : (upto (b.toNat : Int) ((ints s).drop 1)).length ≤ s.size - 1 := by
    have := (List.takeWhile_sublist (l := (ints s).drop 1) (fun x => decide (x ≠ (b.toNat : Int)))).length_le
    rw [List.length_drop, hz] at this
    exact this
  have hd : ((ints s).drop 1).length = s.size - 1 := by rw [List.length_drop, hz]
  have ht : (s.extract 1 s.size).size = s.size - 1 := by
    have := ints_length (s.extract 1 s.size)
    rw [ints_from, hd] at this
    omega
  have HCut := hide (fun w hE => cut_any (s.extract 1 s.size) b w hE (by omega))
  rw [ints_from, ht] at HCut
  have hsz := ints_length (strOfNums (upto (b.toNat : Int) ((ints s).drop 1)))
  rw [ints_nums _ hu] at hsz
  have hle := rall_le _ _ (Nat.le_refl _) hu
  have HR : Hid (quoteN k (b.toNat : Int) e ((ints s).drop 1) = if (rall (upto (b.toNat : Int) ((ints s).drop 1))).2 < (upto (b.toNat : Int) ((ints s).drop 1)).length then .no (1 + (rall (upto (b.toNat : Int) ((ints s).drop 1))).2) 4
      else if (upto (b.toNat : Int) ((ints s).drop 1)).length = s.size - 1 then .no (1 + (s.size - 1)) e
      else .ok k (upto (b.toNat : Int) ((ints s).drop 1)) 0 ((upto (b.toNat : Int) ((ints s).drop 1)).length + 2)) := by
    unfold quoteN
    rw [hd]
    rfl
  have HNo := hide (fun w hL => all_no (strOfNums (upto (b.toNat : Int) ((ints s).drop 1))) w hL)
  have HYes := hide (fun w hL => all_yes (strOfNums (upto (b.toNat : Int) ((ints s).drop 1))) w hL)
  rw [ints_nums _ hu] at HNo HYes
  generalize upto (b.toNat : Int) ((ints s).drop 1) = u at *
  generalize hST : strOfNums u = st at *
  generalize (rall u).2 = R at *
  generalize (rall u).1 = L at *
  generalize hU : u.length = U at *
  have HST := hide hST
  rw [HR.out]
  clear HR hu hd ht hST hz hU
  by_cases h1 : R < U
  · rw [if_pos h1]
    go_enter Tryd.func30, Tryd.ntmps30
    go_wp2_with fail
    refine (HCut.out _ (hE.fr (Fr.alloc _ _))).mono ?_
    rintro r w1 ⟨⟨x, rfl⟩, hF1⟩
    go_wp2_with fail
    refine (HNo.out _ (hL.fr ((Fr.alloc _ _).trans hF1)) (by unfold maxLen; omega) (by omega)).mono ?_
    rintro r w2 ⟨rfl, hF2⟩
    have c4 := four_cells (hF1.trans hF2)
    have f4 := var_free (hF1.trans hF2)
    go_wp2_with fail
    exact bodyPost_ret (results_put rfl _ (hF1.trans hF2) _ _ _ _ rfl) rfl ⟨by simp only [nxV, tkV, str_nil]; rw [show ((1 + R : Nat) : Int) = 1 + (R : Int) by omega]; rfl, fr_put4 (hF1.trans hF2) _ _ _ _⟩
  · rw [if_neg h1]
    have hRU : R = st.size := by omega
    by_cases h2 : U = s.size - 1
    · rw [if_pos h2]
      have hdec : decide (U < s.size - 1) = false := decide_eq_false (by omega)
      go_enter Tryd.func30, Tryd.ntmps30
      go_wp2_with fail
      refine (HCut.out _ (hE.fr (Fr.alloc _ _))).mono ?_
      rintro r w1 ⟨⟨x, rfl⟩, hF1⟩
      rw [hdec]
      go_wp2_with fail
      refine (HYes.out _ (hL.fr ((Fr.alloc _ _).trans hF1)) (by omega) hRU).mono ?_
      rintro r w2 ⟨hF2, B, hB, rfl, _⟩
      have c4 := four_cells (hF1.trans hF2)
      have f4 := var_free (hF1.trans hF2)
      go_wp2_with fail
      exact bodyPost_ret (results_put rfl _ (hF1.trans hF2) _ _ _ _ rfl) rfl ⟨by simp only [nxV, tkV, str_nil]; rw [show ((1 + (s.size - 1) : Nat) : Int) = (s.size : Int) by omega]; rfl, fr_put4 (hF1.trans hF2) _ _ _ _⟩
    · rw [if_neg h2]
      have hdec : decide (U < s.size - 1) = true := decide_eq_true (by omega)
      go_enter Tryd.func30, Tryd.ntmps30
      go_wp2_with fail
      refine (HCut.out _ (hE.fr (Fr.alloc _ _))).mono ?_
      rintro r w1 ⟨⟨x, rfl⟩, hF1⟩
      rw [hdec]
      go_wp2_with fail
      refine (HYes.out _ (hL.fr ((Fr.alloc _ _).trans hF1)) (by omega) hRU).mono ?_
      rintro r w2 ⟨hF2, B, hB, rfl, _⟩
      have c4 := four_cells (hF1.trans hF2)
      have f4 := var_free (hF1.trans hF2)
      go_wp2_with fail
      exact bodyPost_ret (results_put rfl _ (hF1.trans hF2) _ _ _ _ rfl) rfl ⟨by simp only [nxV, tkV]; rw [HST.out, show ((U + 2 : Nat) : Int) = 1 + (st.size : Int) + 1 by omega]; rfl, fr_put4 (hF1.trans hF2) _ _ _ _⟩

def wordN (k : Int) (ws : List ByteArray) (l : List Int) : Nx :=
  match ws with
  | [] => .no 0 9
  | a :: r => if preL ((ints a).map lowB) l then .ok k (ints a) 1 a.size else wordN k r l

theorem str_ints (a : ByteArray) : strOfNums (ints a) = a := (str_of rfl).symm

set_option maxHeartbeats 1000000 in
set_option maxRecDepth 4000 in
theorem word2_any (s a b : ByteArray) (k : Int) (B : Nat) (w : World) (hs : s.size ≤ 4096) (ha : a.size ≤ 100) (hb : b.size ≤ 100) (h0 : w.cell? ⟨B, 0, none⟩ = some (.string a)) (h1 : w.cell? ⟨B, 1, none⟩ = some (.string b)) :
    Calls Tryd.prog 33 #[.string s, .int .i64 k, .slice (some ⟨B, 0, none⟩) 2 2] w fun e w' => e = .returned (nxV (wordN k [a, b] (ints s))) ∧ Fr w w' := by
  have HBeg := hide (fun d (hd : d.size ≤ 100) w => begins_any s d w (by unfold maxLen; omega) (by unfold maxLen; omega))
  have HA := hide (str_ints a)
  have HB := hide (str_ints b)
  have k0 := fr_cell (Fr.alloc w (Obj.cells #[Value.int IntKind.i64 0, Value.string ⟨#[]⟩, Value.int IntKind.i64 0, Value.int IntKind.i64 0] 39)) h0
  have k1 := fr_cell (Fr.alloc w (Obj.cells #[Value.int IntKind.i64 0, Value.string ⟨#[]⟩, Value.int IntKind.i64 0, Value.int IntKind.i64 0] 39)) h1
  unfold wordN wordN wordN
  by_cases p1 : preL ((ints a).map lowB) (ints s)
  · have d1 := decide_eq_true p1
    rw [if_pos p1]
    go_enter Tryd.func33, Tryd.ntmps33
    go_wp2_with fail
    refine wp_loop_rounds 1 ?_
    rw [rounds_succ]
    go_wp2_with fail
    refine (HBeg.out a ha _).mono ?_
    rintro r w1 ⟨rfl, hF1⟩
    rw [d1]
    have c4 := four_cells hF1
    have f4 := var_free hF1
    go_wp2_with fail
    exact bodyPost_ret (results_put rfl _ hF1 _ _ _ _ rfl) rfl ⟨by simp only [nxV, tkV]; rw [HA.out]; rfl, fr_put4 hF1 _ _ _ _⟩
  · have d1 := decide_eq_false p1
    rw [if_neg p1]
    by_cases p2 : preL ((ints b).map lowB) (ints s)
    · have d2 := decide_eq_true p2
      rw [if_pos p2]
      go_enter Tryd.func33, Tryd.ntmps33
      go_wp2_with fail
      refine wp_loop_rounds 2 ?_
      rw [rounds_succ]
      go_wp2_with fail
      refine (HBeg.out a ha _).mono ?_
      rintro r w1 ⟨rfl, hF1⟩
      rw [d1]
      have j1 := fr_cell hF1 k1
      go_wp2_with fail
      rw [rounds_succ]
      go_wp2_with fail
      refine (HBeg.out b hb _).mono ?_
      rintro r w2 ⟨rfl, hF2⟩
      rw [d2]
      have c4 := four_cells (hF1.trans hF2)
      have f4 := var_free (hF1.trans hF2)
      go_wp2_with fail
      exact bodyPost_ret (results_put rfl _ (hF1.trans hF2) _ _ _ _ rfl) rfl ⟨by simp only [nxV, tkV]; rw [HB.out]; rfl, fr_put4 (hF1.trans hF2) _ _ _ _⟩
    · have d2 := decide_eq_false p2
      rw [if_neg p2]
      go_enter Tryd.func33, Tryd.ntmps33
      go_wp2_with fail
      refine wp_loop_rounds 3 ?_
      rw [rounds_succ]
      go_wp2_with fail
      refine (HBeg.out a ha _).mono ?_
      rintro r w1 ⟨rfl, hF1⟩
      rw [d1]
      have j1 := fr_cell hF1 k1
      go_wp2_with fail
      rw [rounds_succ]
      go_wp2_with fail
      refine (HBeg.out b hb _).mono ?_
      rintro r w2 ⟨rfl, hF2⟩
      rw [d2]
      have c4 := four_cells (hF1.trans hF2)
      have f4 := var_free (hF1.trans hF2)
      go_wp2_with fail
      rw [rounds_succ]
      go_wp2_with fail
      exact bodyPost_ret (results_put rfl _ (hF1.trans hF2) _ _ _ _ rfl) rfl ⟨by simp only [nxV, tkV, str_nil]; rfl, fr_put4 (hF1.trans hF2) _ _ _ _⟩

set_option maxHeartbeats 1000000 in
set_option maxRecDepth 4000 in
theorem word1_any (s a : ByteArray) (k : Int) (B : Nat) (w : World) (hs : s.size ≤ 4096) (ha : a.size ≤ 100) (h0 : w.cell? ⟨B, 0, none⟩ = some (.string a)) :
    Calls Tryd.prog 33 #[.string s, .int .i64 k, .slice (some ⟨B, 0, none⟩) 1 1] w fun e w' => e = .returned (nxV (wordN k [a] (ints s))) ∧ Fr w w' := by
  have HBeg := hide (fun d (hd : d.size ≤ 100) w => begins_any s d w (by unfold maxLen; omega) (by unfold maxLen; omega))
  have HA := hide (str_ints a)
  have k0 := fr_cell (Fr.alloc w (Obj.cells #[Value.int IntKind.i64 0, Value.string ⟨#[]⟩, Value.int IntKind.i64 0, Value.int IntKind.i64 0] 39)) h0
  unfold wordN wordN
  by_cases p1 : preL ((ints a).map lowB) (ints s)
  · have d1 := decide_eq_true p1
    rw [if_pos p1]
    go_enter Tryd.func33, Tryd.ntmps33
    go_wp2_with fail
    refine wp_loop_rounds 1 ?_
    rw [rounds_succ]
    go_wp2_with fail
    refine (HBeg.out a ha _).mono ?_
    rintro r w1 ⟨rfl, hF1⟩
    rw [d1]
    have c4 := four_cells hF1
    have f4 := var_free hF1
    go_wp2_with fail
    exact bodyPost_ret (results_put rfl _ hF1 _ _ _ _ rfl) rfl ⟨by simp only [nxV, tkV]; rw [HA.out]; rfl, fr_put4 hF1 _ _ _ _⟩
  · have d1 := decide_eq_false p1
    rw [if_neg p1]
    go_enter Tryd.func33, Tryd.ntmps33
    go_wp2_with fail
    refine wp_loop_rounds 2 ?_
    rw [rounds_succ]
    go_wp2_with fail
    refine (HBeg.out a ha _).mono ?_
    rintro r w1 ⟨rfl, hF1⟩
    rw [d1]
    have c4 := four_cells hF1
    have f4 := var_free hF1
    go_wp2_with fail
    rw [rounds_succ]
    go_wp2_with fail
    exact bodyPost_ret (results_put rfl _ hF1 _ _ _ _ rfl) rfl ⟨by simp only [nxV, tkV, str_nil]; rfl, fr_put4 hF1 _ _ _ _⟩
end Go.Proofs.YtaokmegoheofjaaDoor
