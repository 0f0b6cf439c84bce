/- The document's All; the law's same. -/
import Derived.Test.YtaokmegoheofjaaDoorTok6
import Derived.Test.YtaokmegoheofjaaDoorTokY
namespace Go.Proofs.YtaokmegoheofjaaDoor
set_option linter.unusedVariables false
set_option linter.unusedSimpArgs false
open Go.RowKit

theorem infoRef : (Tryd.prog.info? 42).map (fun i => (i.zero, i.size, i.bytes)) = some (some (.agg #[.int .i64 0, .string ⟨#[]⟩, .int .i64 0, .int .i64 0]), 4, 40) := by kernel_rfl
theorem refV_ok (k : Int) (t : List Int) (c : Int) (n : Nat) : refV (.ok k t c n) = .tuple #[.agg #[.int .i64 k, .string (strOfNums t), .int .i64 c, .int .i64 0], .int .i64 n, .int .i64 0, .int .i64 0] := rfl
theorem refV_no (o : Nat) (e : Int) : refV (.no o e) = .tuple #[.agg #[.int .i64 0, .string ⟨#[]⟩, .int .i64 0, .int .i64 0], .int .i64 0, .int .i64 o, .int .i64 e] := by
  simp only [refV, tkV, str_nil]

set_option maxHeartbeats 2000000 in
set_option maxRecDepth 4000 in
theorem refAll11_any (s : ByteArray) (w : World) (hs : s.size ≤ maxLen) :
    Calls Tryd.prog 10 #[.string s] w fun e w' => Fr w w' ∧ ∃ v, e = .returned (.tuple #[v, .int .i64 ((answer (ints s)).2.1 : Int), .int .i64 (answer (ints s)).2.2]) ∧ w'.ownsRow w.heap.size 42 4 v (answer (ints s)).1.length (rowT (answer (ints s)).1) := by
  have hs' := hs
  unfold maxLen at hs
  have hz := ints_length s
  by_cases hbig : 4096 < s.size
  · have ha : answer (ints s) = ([], 0, 14) := by unfold answer; rw [if_pos (by omega)]
    rw [ha]
    clear ha
    go_enter Tryd.func10, Tryd.ntmps10
    go_wp2_with fail
    go_ret3
    exact ⟨Fr.refl _, _, rfl, World.ownsRow_nil _ _ _ _⟩
  · have ha : answer (ints s) = tall (ints s) := by unfold answer; rw [if_neg (by omega)]
    rw [ha]
    clear ha
    have HZ := hide hz
    clear hz
    obtain ⟨i0, hi, hz0, hz1, hz2⟩ := info_parts infoRef
    go_enter Tryd.func10, Tryd.ntmps10
    obtain ⟨w1, hw1⟩ : ∃ w1, w1 = w := ⟨_, rfl⟩
    have f1 : Fr w w1 := by rw [hw1]; exact Fr.refl _
    have hw1' := hw1
    go_wp2_with fail
    rw [← hw1]
    clear hw1 hw1'
    go_loopw [5, 6] (fun v a wr => ∃ (T : List Tk) (k : Nat), Hid (Reach (ints s) T k) ∧ k ≤ s.size ∧ T.length ≤ k ∧ a = .int .i64 k ∧ Hid (wr.ownsRow w1.heap.size 42 4 v T.length (rowT T)) ∧ Hid (Fr w1 wr)) (fun _ a _ => s.size - (intOf a).toNat)
    case atStart => exact ⟨[], 0, hide .nil, by omega, by simp, rfl, World.ownsRow_nil _ _ _ _, Fr.refl _⟩
    case round =>
      obtain ⟨T, k, HR, hk, hTk, rfl, HO, HF⟩ := hrel
      obtain ⟨ar, cr, rfl⟩ := own_form HO.out
      have HRG := hide (ints_range s)
      by_cases hlt : k < s.size
      · have hxs : (s.extract k s.size).size = s.size - k := by
          have := ints_length (s.extract k s.size)
          rw [ints_from, List.length_drop, HZ.out] at this
          omega
        have HN := hide (refNext_any (s.extract k s.size) wr (by omega) (by omega))
        rw [ints_from] at HN
        cases hn : nextN ((ints s).drop k) with
        | no o e =>
          have HNO := hide (reach_no HRG.out HR.out (by rw [HZ.out]; exact hlt) hn)
          have hob : o ≤ 4096 := by
            rcases nextN_no _ (fun x hx => HRG.out x (List.mem_of_mem_drop hx)) (by intro h; have := congrArg List.length h; rw [List.length_drop, HZ.out] at this; simp at this; omega) hn with ⟨_, h⟩ | ⟨_, h⟩ | ⟨h, _⟩
            · rw [List.length_drop, HZ.out] at h; omega
            · omega
            · rw [List.length_drop, HZ.out] at h; omega
          have he : (e == 0) = false := by
            rcases nextN_no _ (fun x hx => HRG.out x (List.mem_of_mem_drop hx)) (by intro h; have := congrArg List.length h; rw [List.length_drop, HZ.out] at this; simp at this; omega) hn with ⟨h, _⟩ | ⟨h, _⟩ | ⟨_, h⟩
            all_goals (simp only [beq_eq_false_iff_ne]; omega)
          rw [hn] at HN
          clear hn hxs
          go_wp2_with fail
          refine HN.out.mono ?_
          rintro r w2 ⟨rfl, f2⟩
          rw [refV_no]
          go_wp2_with fail
          go_ret3
          rw [HNO.out]
          exact ⟨f1.trans (HF.out.trans (f2.trans (Fr.alloc _ _))), _, rfl, World.ownsRow_nil _ _ _ _⟩
        | ok kd tx ct n =>
          have HS := hide (HR.out.snoc (by rw [HZ.out]; exact hlt) hn)
          have hle := (Reach.le HRG.out HS.out).1
          have hT1 := (Reach.le HRG.out HS.out).2
          rw [HZ.out] at hle
          rw [List.length_append, List.length_singleton] at hT1
          obtain ⟨u, q, _, _, _, _, hn1, _⟩ := next_at HRG.out hn
          rw [hn] at HN
          clear hn hxs
          generalize hST : strOfNums tx = st at *
          have HST := hide hST
          go_wp2_with fail
          refine HN.out.mono ?_
          rintro r w2 ⟨rfl, f2⟩
          rw [refV_ok, HST.out]
          clear hST
          have f3 := hide (HF.out.trans f2)
          have hO2 := hide (own_fr HO.out f2)
          go_wp2_with (at_builtin; refine wpList_append_own _ rfl _ _ 26 rfl w1.heap.size 42 i0 (.agg #[.int .i64 0, .string ⟨#[]⟩, .int .i64 0, .int .i64 0]) 4 40 Tryd.underlying26 hi hz0 hz1 hz2 rfl (by decide) _ _ _ rfl ((hO2.out.alloc _).alloc _) ⟨w2.heap.size + 1, 0, none⟩ 1 1 [.int .i64 kd, .string st, .int .i64 ct, .int .i64 (k : Int)] ?c0 rfl ?c1 ?c2 ?c3 ?c4 ?c5 ?_)
          case c0 => first | rfl | simp
          case c1 => exact cell_four_new _ _ _ _ _ _ _ (by simp)
          case c2 => intro u hu; simp at hu; rcases hu with rfl | rfl | rfl | rfl <;> rfl
          case c3 => unfold maxLen; omega
          case c4 => omega
          case c5 => have := f3.out.size; simp; omega
          intro v' w3 hown' hgrow _
          have HO3 := hide hown'
          have HF3 : Hid (Fr w1 w3) := hide (Below.grown (Below.alloc (Below.alloc f3.out f3.out.size _) (by have := f3.out.size; simp; omega) _) hgrow (by have := f3.out.size; simp; omega) (own_below HO.out))
          go_wp2_with fail
          go_roundw
          case rel =>
            refine ⟨_, k + n, HS, by omega, by simp; omega, by go_num, hide ?_, HF3⟩
            rw [rowT_snoc, List.length_append]
            simp only [tkCells]
            rw [HST.out]
            exact HO3.out
          case measure => simp [intOf]; omega
      · have hke : k = s.size := by omega
        subst hke
        have HE := hide (reach_end HRG.out HR.out (by rw [HZ.out]; exact Nat.le_refl _))
        go_wp2_with fail
        go_ret3
        rw [HE.out]
        exact ⟨f1.trans HF.out, _, rfl, own_base HO.out f1.size⟩

attribute [local go_sem] World.cell?_alloc_some
set_option maxHeartbeats 2000000 in
set_option maxRecDepth 4000 in
theorem same_any (T : List Tk) (a1 a2 : Option Addr) (c1 c2 b1 b2 : Nat) (w : World) (hT : T.length ≤ 1000000) (o1 : w.ownsRow b1 39 4 (.slice a1 T.length c1) T.length (rowT T)) (o2 : w.ownsRow b2 42 4 (.slice a2 T.length c2) T.length (rowT T)) :
    Calls Tryd.prog 12 #[.slice a1 T.length c1, .slice a2 T.length c2] w fun e w' => e = .returned (.bool true) ∧ Fr w w' := by
  have O1 := hide o1
  have O2 := hide o2
  clear o1 o2
  generalize hP : T.length = P at *
  have HP := hide hP
  clear hP
  go_enter Tryd.func12, Tryd.ntmps12
  go_wp2_with fail
  go_loopw [14] (fun i wr => ∃ k : Nat, k ≤ P ∧ i = .int .i64 k ∧ Hid (Fr w wr)) (fun i _ => P - (intOf i).toNat)
  case atStart => exact ⟨0, by omega, rfl, Fr.refl _⟩
  case round =>
    obtain ⟨k, hk, rfl, HF⟩ := hrel
    by_cases hlt : k < P
    · obtain ⟨x, hx⟩ : ∃ x, T[k]? = some x := ⟨_, List.getElem?_eq_getElem (by rw [HP.out]; exact hlt)⟩
      obtain ⟨g1, rfl, _, _, q1⟩ := own_cellsM O1.out (by omega)
      obtain ⟨g2, rfl, _, _, q2⟩ := own_cellsM O2.out (by omega)
      obtain ⟨u0, u1, u2, u3⟩ := q1 k x hx
      obtain ⟨y0, y1, y2, y3⟩ := q2 k x hx
      have u0 := fr_cell HF.out u0
      have u1 := fr_cell HF.out u1
      have u2 := fr_cell HF.out u2
      have u3 := fr_cell HF.out u3
      have y0 := fr_cell HF.out y0
      have y1 := fr_cell HF.out y1
      have y2 := fr_cell HF.out y2
      have y3 := fr_cell HF.out y3
      obtain ⟨xk, xt, xc, xp⟩ := x
      simp only at u0 u1 u2 u3 y0 y1 y2 y3
      generalize strOfNums xt = xs at *
      have HEQ := fun w => eqIn_ref w xk xc xp xk xc xp xs xs
      simp only [and_self, decide_true] at HEQ
      clear q1 q2 hx
      go_wp2_with fail
      go_quiet (fail)
      go_wp2_with fail
      go_roundw
      case rel => exact ⟨k + 1, by omega, by go_num, hide (HF.out.trans ((Fr.alloc _ _).trans (Fr.drewN _ _)))⟩
      case measure => simp [intOf]; omega
    · go_wp2_with fail
      go_ret
      exact ⟨rfl, HF.out⟩
end Go.Proofs.YtaokmegoheofjaaDoor
