/- The document's closed. -/
import Derived.Test.YtaokmegoheofjaaDoorTokN
namespace Go.Proofs.YtaokmegoheofjaaDoor
set_option linter.unusedVariables false
set_option linter.unusedSimpArgs false
open Go.RowKit

theorem nums_big (m : Int) (h : 2 ≤ rsize m) : ∀ x ∈ nums m, 128 ≤ x := by
  intro x hx
  rcases rsize_cases m with ⟨a, _⟩ | ⟨a, b, c⟩ | ⟨a, b, c⟩ | ⟨a, b, c, _⟩ | ⟨a, b, c⟩
  · omega
  · omega
  · rw [nums, if_neg (by omega), if_pos c] at hx; simp at hx; omega
  · rw [nums, if_neg (by omega), if_neg (by omega), if_pos c] at hx; simp at hx; omega
  · rw [nums, if_neg (by omega), if_neg (by omega), if_neg (by omega)] at hx; simp at hx; omega

theorem upto_drop (last : Int) (r : List Int) (j : Nat) (hj : j ≤ (upto last r).length) : upto last (r.drop j) = (upto last r).drop j := by
  obtain ⟨q, h1, h2⟩ := takeWhile_cut (fun b => decide (b ≠ last)) r
  have hm := mem_takeWhile (fun b => decide (b ≠ last)) r
  have h1' : r = upto last r ++ q := h1
  have hm' : ∀ b ∈ upto last r, decide (b ≠ last) = true := hm
  generalize upto last r = u at *
  subst h1'
  rw [List.drop_append_of_le_length hj]
  exact takeWhile_app _ _ q (fun b hb => hm' b (List.mem_of_mem_drop hb)) h2

theorem rfirst_upto (l : List Int) (hl : Rg l) (last : Int) (h1 : last < 128) (hh : ∀ b, l.head? = some b → b ≠ last) :
    (rfirst l = (0, 0, false) ∧ rfirst (upto last l) = (0, 0, false)) ∨ ∃ m t t', rsize m ≠ 0 ∧ l = nums m ++ t ∧ upto last l = nums m ++ t' ∧ rfirst l = (m, rsize m, true) := by
  rcases rfirst_cases l hl with h | ⟨m, t, hm, e, h⟩
  · left
    refine ⟨h, ?_⟩
    obtain ⟨q, g1, _⟩ := takeWhile_cut (fun b => decide (b ≠ last)) l
    have g1' : l = upto last l ++ q := g1
    have hu : Rg (upto last l) := fun x hx => hl x (by rw [g1']; exact List.mem_append_left _ hx)
    rcases rfirst_cases (upto last l) hu with h' | ⟨m, t, hm, e, _⟩
    · exact h'
    · exfalso
      have := rfirst_nums m hm (t ++ q)
      rw [← List.append_assoc, ← e, ← g1', h] at this
      simp at this
  · right
    have hall : ∀ x ∈ nums m, x ≠ last := by
      intro x hx
      have hc := rsize_cases m
      by_cases h2 : 2 ≤ rsize m
      · have := nums_big m h2 x hx; omega
      · have : nums m = [m] := by rw [nums, if_pos (by omega)]
        rw [this] at hx e
        simp at hx
        subst hx
        exact hh x (by rw [e]; rfl)
    refine ⟨m, t, upto last t, hm, e, ?_, h⟩
    rw [e]
    unfold upto
    rw [List.takeWhile_append_of_pos (fun x hx => by simpa using hall x hx)]

set_option maxHeartbeats 2000000 in
set_option maxRecDepth 4000 in
theorem closed_any (s : ByteArray) (k last e : Int) (w : World) (hs : s.size ≤ 10000) (h0 : 0 < s.size) (l0 : 0 ≤ last) (l1 : last < 128) :
    Calls Tryd.prog 35 #[.string s, .int .i64 k, .int .u8 last, .int .i64 e] w fun r w' => r = .returned (refV (quoteN k last e ((ints s).drop 1))) ∧ Fr w w' := by
  have hmx : s.size ≤ maxLen := by unfold maxLen; omega
  have hV := Vars.new w 42
  have HZ := hide (ints_length s)
  have HRG : Hid (Rg ((ints s).drop 1)) := hide (drop_range s 1)
  have hdl : ((ints s).drop 1).length = s.size - 1 := by rw [List.length_drop, ints_length]
  have HDL := hide hdl
  obtain ⟨u1, u2⟩ := upto_cut last ((ints s).drop 1)
  have HU1 := hide u1
  have HU2 := hide u2
  have hul : (upto last ((ints s).drop 1)).length ≤ s.size - 1 := by
    have := (List.takeWhile_sublist (l := (ints s).drop 1) (fun x => decide (x ≠ last))).length_le
    rw [hdl] at this
    exact this
  have HUR : Hid (Rg (upto last ((ints s).drop 1))) := hide (upto_range last s 1)
  have HUD := hide (upto_drop last ((ints s).drop 1))
  have HD1 : Hid (∀ j, ((ints s).drop 1).drop j = (ints s).drop (j + 1)) := hide (fun j => by rw [List.drop_drop, Nat.add_comm])
  have HDEF : Hid (∀ R : Nat, (rall (upto last ((ints s).drop 1))).2 = R → quoteN k last e ((ints s).drop 1) = if R < (upto last ((ints s).drop 1)).length then .no (1 + R) 4
      else if (upto last ((ints s).drop 1)).length = s.size - 1 then .no (1 + (s.size - 1)) e
      else .ok k (upto last ((ints s).drop 1)) 0 ((upto last ((ints s).drop 1)).length + 2)) := by
    refine hide fun R hR => ?_
    unfold quoteN
    rw [hR, hdl]
  generalize quoteN k last e ((ints s).drop 1) = ANS at *
  generalize hu : upto last ((ints s).drop 1) = u at *
  have HU := hide hu
  clear u1 u2 hdl hu
  generalize hUL : u.length = U at *
  have HUL := hide hUL
  clear hUL
  go_enter Tryd.func35, Tryd.ntmps35
  go_upto_region 2 with fail
  generalize (w.alloc _).alloc _ = V at *
  have HV := hide hV
  clear hV
  go_wp2_with fail
  go_loopw [13] (fun i wr => ∃ j : Nat, j ≤ U ∧ i = .int .i64 ((j + 1 : Nat) : Int) ∧ Hid ((rall u).2 = j + (rall (u.drop j)).2) ∧ Hid (Fr V wr)) (fun i _ => s.size - (intOf i).toNat)
  case atStart => exact ⟨0, by omega, rfl, hide (by simp), Fr.refl _⟩
  case round =>
    obtain ⟨j, hj, rfl, HR, HF⟩ := hrel
    obtain ⟨J, hJ⟩ : ∃ J : Nat, J = j + 1 := ⟨_, rfl⟩
    have HD1J : Hid (((ints s).drop 1).drop j = (ints s).drop J) := hide (by rw [HD1.out, hJ])
    rw [← hJ]
    have HJ : Hid ((J : Int) = (j : Int) + 1) := hide (by omega)
    have h1J : (1 : Int) ≤ (J : Int) := by omega
    have hW := HV.out.go HF.out
    by_cases hlt : J < s.size
    · have qs := bt_at s J hlt
      have rs := bt_range s J hlt
      have hdr := drop_bt s J hlt
      have hlt' : (J : Int) < (s.size : Int) := by omega
      by_cases hb : bt s J = last
      · -- the end stands here
        have hjU : j = U := by
          rcases Nat.lt_or_ge j U with h | h
          · exfalso
            have h2 := HUD.out j (by omega)
            rw [HD1J.out, hdr] at h2
            have h3 : (u.drop j).head? = none := by
              rw [← h2]
              unfold upto
              rw [List.takeWhile_cons, if_neg (by simp [hb])]
              rfl
            rw [List.head?_eq_none_iff] at h3
            have := congrArg List.length h3
            rw [List.length_drop, HUL.out] at this
            simp at this
            omega
          · omega
        have hR0 : (rall u).2 = U := by
          have := HR.out
          rw [List.drop_eq_nil_of_le (by rw [HUL.out]; omega), rall_nil] at this
          simp only at this
          omega
        have hans := HDEF.out U hR0
        rw [if_neg (by omega), if_neg (by omega)] at hans
        have HANS := hide hans
        have HX : Hid (s.extract 1 J = strOfNums u) := by
          refine hide ?_
          rw [str_ext]
          congr 1
          rcases HU2.out with ⟨h, _⟩ | ⟨q, h⟩
          · rw [HDL.out] at h; omega
          · rw [h, show J - 1 = u.length by rw [HUL.out]; omega, List.take_left]
        have hbb : (bt s J == last) = true := by simp [hb]
        generalize bt s J = x at *
        obtain ⟨x0, x1, x2, x3, c0, c1, c2, c3⟩ := hW.c
        have ff := hW.f
        clear hans hJ
        go_wp2_with fail
        exact bodyPost_ret (results_vars rfl _ hW _ _ _ _ rfl) rfl ⟨by rw [HANS.out]; simp only [refV, tkV]; rw [← HX.out, show ((U + 2 : Nat) : Int) = (J : Int) + 1 by have := HJ.out; omega]; rfl, fr_vars hW _ _ _ _⟩
      · have hbb : (bt s J == last) = false := by simp [hb]
        have hjU : j < U := by
          rcases Nat.lt_or_ge j U with h | h
          · exact h
          · exfalso
            have hjU' : j = U := by omega
            rcases HU2.out with ⟨h', _⟩ | ⟨q, h'⟩
            · rw [HDL.out] at h'; omega
            · have h2 : ((ints s).drop 1).drop j = (u ++ last :: q).drop j := by rw [← h']
              rw [HD1J.out, hdr, show j = u.length by rw [HUL.out]; exact hjU', List.drop_left] at h2
              simp only [List.cons.injEq] at h2
              exact hb h2.1
        have hrf := rfirst_upto (((ints s).drop 1).drop j) ((fun x hx => HRG.out x (List.mem_of_mem_drop hx))) last l1 (by
          rw [HD1J.out, hdr]
          intro b hb'
          simp at hb'
          subst hb'
          exact hb)
        have hud := HUD.out j (by omega)
        rw [hud, HD1J.out] at hrf
        rcases hrf with ⟨g1, g2⟩ | ⟨m, t, t', hm, g1, g2, g3⟩
        · have hR0 : (rall u).2 = j := by
            have := HR.out
            rw [rall_no _ g2] at this
            simpa using this
          have hans := HDEF.out j hR0
          rw [if_pos hjU] at hans
          have HANS := hide hans
          have HG1 := hide g1
          clear hans g1 g2 hud hdr hR0 hJ
          generalize bt s J = x at *
          clear hW
          go_wp2_with fail
          refine (refFirst_any (s.extract J s.size) _ (size_from s J hmx)).mono ?_
          rintro r w1 ⟨rfl, f1⟩
          rw [ints_from, HG1.out]
          have hW := HV.out.go (HF.out.trans f1)
          obtain ⟨x0, x1, x2, x3, c0, c1, c2, c3⟩ := hW.c
          have ff := hW.f
          obtain ⟨n0, n1, n2, n3⟩ := hW.n
          go_wp2_with fail
          exact bodyPost_ret (results_vars rfl _ hW _ _ _ _ rfl) rfl ⟨by rw [HANS.out]; simp only [refV, tkV, str_nil]; rw [show ((1 + j : Nat) : Int) = (J : Int) by have := HJ.out; omega]; rfl, fr_vars hW _ _ _ _⟩
        · have hnl := nums_length m hm
          have hnp := nums_pos m
          have hlen : (u.drop j).length = (nums m).length + t'.length := by rw [g2, List.length_append]
          rw [List.length_drop, HUL.out] at hlen
          have hrg' : Rg t' := fun x hx => HUR.out x (List.mem_of_mem_drop (i := j) (by rw [g2]; exact List.mem_append_right _ hx))
          have HNEW : Hid ((rall u).2 = (j + (nums m).length) + (rall (u.drop (j + (nums m).length))).2) := by
            refine hide ?_
            have h1 := HR.out
            rw [g2, rall_nums m hm t' hrg'] at h1
            rw [← List.drop_drop, g2, List.drop_left]
            simp only at h1
            omega
          have HG3 := hide g3
          have HNL := hide hnl
          have hn4 : (nums m).length ≤ 4 := by have := rsize_cases m; omega
          generalize nums m = v at *
          generalize hvl : v.length = N at *
          clear g1 g2 g3 hud hdr hrg' hnl hW hJ
          generalize bt s J = x at *
          go_wp2_with fail
          refine (refFirst_any (s.extract J s.size) _ (size_from s J hmx)).mono ?_
          rintro r w1 ⟨rfl, f1⟩
          rw [ints_from, HG3.out, ← HNL.out]
          go_wp2_with fail
          go_roundw
          case rel => exact ⟨j + N, by omega, by rw [show ((j + N + 1 : Nat) : Int) = (J : Int) + (N : Int) by have := HJ.out; omega], HNEW, hide (HF.out.trans f1)⟩
          case measure => simp [intOf]; omega
    · have hjU : j = U := by omega
      have hge : ¬ ((J : Int) < (s.size : Int)) := by omega
      have hR0 : (rall u).2 = U := by
        have := HR.out
        rw [List.drop_eq_nil_of_le (by rw [HUL.out]; omega), rall_nil] at this
        simp only at this
        omega
      have hans := HDEF.out U hR0
      rw [if_neg (by omega), if_pos (by omega)] at hans
      have HANS := hide hans
      obtain ⟨x0, x1, x2, x3, c0, c1, c2, c3⟩ := hW.c
      have ff := hW.f
      obtain ⟨n0, n1, n2, n3⟩ := hW.n
      clear hans hJ
      go_wp2_with fail
      exact bodyPost_ret (results_vars rfl _ hW _ _ _ _ rfl) rfl ⟨by rw [HANS.out]; simp only [refV, tkV, str_nil]; rw [show ((1 + (s.size - 1) : Nat) : Int) = (J : Int) by have := HJ.out; omega]; rfl, fr_vars hW _ _ _ _⟩
end Go.Proofs.YtaokmegoheofjaaDoor
