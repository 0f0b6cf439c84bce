/- strconv.ParseUint at base 16, language, Money. -/
import Derived.Test.YtiemiekkjaknfaaDoorColL
namespace Go.Proofs.YtiemiekkjaknfaaDoor
set_option linter.unusedVariables false
set_option linter.unusedSimpArgs false
open Go.RowKit

set_option maxHeartbeats 1000000 in
set_option maxRecDepth 4000 in
theorem parse_yes16 (s : ByteArray) (w : World) (hs : s.size ≤ 8) (hl : langB (ints s) = true) :
    Calls Tryd.prog 51 #[.string s, .int .i64 16, .int .i64 32] w fun e w' => e = .returned (.tuple #[.int .u64 (hexN (ints s)), .nilIface]) ∧ Fr w w' := by
  have HI := hide (iparse_any s w hs)
  rw [ip_yes _ hl] at HI
  clear hl
  generalize hexN (ints s) = n at *
  go_enter Tryd.func51, Tryd.ntmps51
  go_wp2_with fail
  refine HI.out.mono ?_
  rintro e w1 ⟨rfl, f1⟩
  go_wp2_with fail
  go_ret2
  exact ⟨rfl, f1⟩

set_option maxHeartbeats 1000000 in
set_option maxRecDepth 4000 in
theorem parse_no16 (s : ByteArray) (w : World) (hL : Led12 w) (hs : s.size ≤ 8) (hl : langB (ints s) = false) :
    Calls Tryd.prog 51 #[.string s, .int .i64 16, .int .i64 32] w fun e w' => (∃ t p, e = .returned (.tuple #[.int .u64 0, .iface t p])) ∧ Fr w w' := by
  have HI := hide (iparse_any s w hs)
  rw [ip_no _ hl] at HI
  have HE := hide (fun w (hL : Led12 w) => hL.e)
  have HT := hide (fun ev w hv hev => Tryd.strconv_toError_syntax ⟨#[80, 97, 114, 115, 101, 85, 105, 110, 116]⟩ s 16 32 ev w (by omega) hv hev)
  have HL := hide (fun w' (k : Fr w w') => hL.fr k)
  clear hL hl
  go_enter Tryd.func51, Tryd.ntmps51
  go_wp2_with fail
  refine HI.out.mono ?_
  rintro e w1 ⟨rfl, f1⟩
  obtain ⟨ev, hv, hev⟩ := HE.out _ (HL.out _ f1)
  have HTT := hide (HT.out ev w1 hv hev)
  clear hv hev HE HT HL HI
  go_wp2_with fail
  refine HTT.out.mono ?_
  rintro e w2 ⟨N, rfl, _, _, f2⟩
  go_wp2_with fail
  go_ret2
  exact ⟨⟨_, _, rfl⟩, f1.trans f2⟩

set_option maxHeartbeats 1000000 in
set_option maxRecDepth 4000 in
theorem language_any (s : ByteArray) (w : World) (hL : Led12 w) (hs : s.size ≤ 200) :
    Calls Tryd.prog 31 #[.string s] w fun e w' => (∃ n, e = .returned (.tuple #[.int .u32 n, .bool (langB (ints s))]) ∧ (langB (ints s) = true → n = hexN (ints s))) ∧ Fr w w' := by
  by_cases h8 : 8 < s.size
  · have hl : langB (ints s) = false := by unfold langB; refine decide_eq_false ?_; rw [ints_length]; omega
    rw [hl]
    clear hl hL
    go_enter Tryd.func31, Tryd.ntmps31
    go_wp2_with fail
    go_ret2
    exact ⟨⟨_, rfl, fun h => by cases h⟩, Fr.refl _⟩
  · by_cases hl : langB (ints s) = true
    · have hx : hexAll (ints s) := (of_decide_eq_true hl).2.2
      obtain ⟨n0, n1, _⟩ := hexN_le (ints s) 8 (by rw [ints_length]; omega) (by decide) hx
      have HP := hide (parse_yes16 s w (by omega) hl)
      rw [hl]
      clear hL
      have hw : IntKind.u32.wrap (hexN (ints s)) = hexN (ints s) := by rw [IntKind.wrap_u32]; omega
      clear hx hl
      generalize hexN (ints s) = n at *
      go_enter Tryd.func31, Tryd.ntmps31
      go_wp2_with fail
      refine HP.out.mono ?_
      rintro e w1 ⟨rfl, f1⟩
      go_wp2_with fail
      go_quiet (fail)
      go_wp2_with fail
      go_ret2
      exact ⟨⟨_, rfl, fun _ => by first | rfl | exact hw⟩, f1.trans (Fr.drewN _ _)⟩
    · have hl' : langB (ints s) = false := by simpa using hl
      have HP := hide (parse_no16 s w hL (by omega) hl')
      rw [hl']
      clear hl hl' hL
      go_enter Tryd.func31, Tryd.ntmps31
      go_wp2_with fail
      refine HP.out.mono ?_
      rintro e w1 ⟨⟨t, p, rfl⟩, f1⟩
      go_wp2_with fail
      go_quiet (fail)
      go_wp2_with fail
      go_ret2
      exact ⟨⟨_, rfl, fun h => by cases h⟩, f1.trans (Fr.drewN _ _)⟩

/-! ### Money -/
theorem index_take (b : UInt8) : ∀ l : List UInt8, ∀ i : Nat, Lib.index l [b] = i → (l.takeWhile (fun x => decide (x ≠ b))).length = i
  | [], i, h => by simp [Lib.index] at h
  | a :: l, i, h => by
    by_cases e : a = b
    · subst e
      have h1 : Lib.index (a :: l) [a] = 0 := by simp [Lib.index, List.isPrefixOf]
      rw [h1] at h
      simp
      omega
    · have hp : [b].isPrefixOf (a :: l) = false := by simp [List.isPrefixOf]; exact fun e' => e e'.symm
      rw [List.takeWhile_cons, if_pos (by simpa using e), List.length_cons]
      rcases index_one b l with ⟨h1, _⟩ | ⟨j, h1, _, _⟩
      · simp [Lib.index, hp, h1] at h
      · have hj : ((j : Int) == -1) = false := by rw [beq_eq_false_iff_ne]; omega
        simp [Lib.index, hp, h1, hj] at h
        rw [index_take b l j h1]
        omega
theorem cut_rest (t : ByteArray) (b : UInt8) (h : (upto (b.toNat : Int) (ints t)).length < t.size) : ints ⟨(Lib.cut t.data.toList [b]).2.1.toArray⟩ = (ints t).drop ((upto (b.toNat : Int) (ints t)).length + 1) := by
  have e : upto (b.toNat : Int) (ints t) = (t.data.toList.takeWhile (fun x => decide (x ≠ b))).map (fun c => (c.toNat : Int)) := (takeWhile_ints b _).symm
  have hz : t.size = t.data.toList.length := Lib.size_eq t
  rw [e, List.length_map] at h ⊢
  rcases index_one b t.data.toList with ⟨h1, h2⟩ | ⟨i, h1, h2, h3⟩
  · rw [h2] at h; omega
  · have hc : (Lib.cut t.data.toList [b]).2.1 = t.data.toList.drop (i + 1) := by
      unfold Lib.cut; rw [h1, if_pos (by omega)]; simp
    rw [hc, index_take b _ i h1, ints_mk]
    simp [ints, List.map_drop]
theorem cut45_any (t : ByteArray) (w : World) (hE : MaxOk w) (ht : t.size ≤ 4096) :
    Calls Tryd.prog 30 #[.string t, .string ⟨#[45]⟩] w fun e w' => (∃ x, e = .returned (.tuple #[.string (strOfNums (upto 45 (ints t))), .string x, .bool (decide ((upto 45 (ints t)).length < t.size))]) ∧ ((upto 45 (ints t)).length < t.size → ints x = (ints t).drop ((upto 45 (ints t)).length + 1))) ∧ Fr w w' := by
  obtain ⟨m, hm⟩ := hE
  obtain ⟨e1, e2⟩ := cut_told t 45
  have e3 := cut_rest t 45
  change (⟨(Lib.cut t.data.toList [45]).1.toArray⟩ : ByteArray) = strOfNums (upto 45 (ints t)) at e1
  change (Lib.cut t.data.toList [45]).2.2 = decide ((upto 45 (ints t)).length < t.size) at e2
  refine (Tryd.strings_Cut t ⟨#[45]⟩ m w (by omega) hm).mono ?_
  rintro e w' ⟨rfl, n, rfl⟩
  refine ⟨⟨⟨(Lib.cut t.data.toList [45]).2.1.toArray⟩, ?_, e3⟩, Fr.drewN _ _⟩
  rw [← e1, ← e2]

theorem pre36 (s : ByteArray) : (Lib.hasPrefix s.data.toList [36] = true ∧ ∃ r, ints s = 36 :: r ∧ ints ⟨(Lib.trimPrefix s.data.toList [36]).toArray⟩ = r) ∨ (Lib.hasPrefix s.data.toList [36] = false ∧ moN (ints s) = ([], 0, false)) := by
  unfold Lib.trimPrefix ints
  cases hd : s.data.toList with
  | nil => right; exact ⟨by simp [Lib.hasPrefix, List.isPrefixOf], rfl⟩
  | cons a l =>
    by_cases h : a = 36
    · subst h
      left
      have hp : Lib.hasPrefix (36 :: l) [36] = true := by simp [Lib.hasPrefix, List.isPrefixOf]
      refine ⟨hp, _, rfl, ?_⟩
      rw [hp]
      simp
    · right
      have h' : (a.toNat : Int) ≠ 36 := fun e => h (UInt8.toNat_inj.1 (by have h36 : (36 : UInt8).toNat = 36 := (by decide); omega))
      exact ⟨by simp [Lib.hasPrefix, List.isPrefixOf]; exact fun e => h e.symm, by rw [List.map_cons]; exact mo_out _ _ h'⟩

set_option maxHeartbeats 1000000 in
set_option maxRecDepth 4000 in
theorem money_any (s : ByteArray) (w : World) (hL : Led12 w) (hs : s.size ≤ 200) :
    Calls Tryd.prog 15 #[.string s] w fun e w' => e = .returned (moV (moN (ints s))) ∧ Fr w w' := by
  have HP := hide (fun w => Tryd.strings_CutPrefix s ⟨#[36]⟩ w)
  change Hid (∀ w, Calls Tryd.prog 29 #[.string s, .string ⟨#[36]⟩] w fun e w' => e = .returned (.tuple #[.string ⟨(Lib.trimPrefix s.data.toList [36]).toArray⟩, .bool (Lib.hasPrefix s.data.toList [36])]) ∧ w' = w) at HP
  have HL := hide (fun w' (k : Fr w w') => hL.fr k)
  clear hL
  rcases pre36 s with ⟨h1, r, h2, h3⟩ | ⟨h1, h2⟩
  · rw [h1] at HP
    rw [h2]
    have hz := ints_length ⟨(Lib.trimPrefix s.data.toList [36]).toArray⟩
    have hz2 := ints_length s
    rw [h3] at hz
    rw [h2, List.length_cons] at hz2
    generalize (⟨(Lib.trimPrefix s.data.toList [36]).toArray⟩ : ByteArray) = T at *
    have HC := hide (fun w hE => cut45_any T w hE (by omega))
    rw [h3, ← hz] at HC
    have hlast := upto_le r
    have HX := hide (fun x w hL hs => language_any x w hL hs)
    have hup := hide (fun hq : ¬ (upto 45 r).length < r.length => (show upto 45 r = r by
      obtain ⟨_, h⟩ := upto_cut 45 r
      rcases h with ⟨_, h⟩ | ⟨q, h⟩
      · exact h
      · have := congrArg List.length h; rw [List.length_append, List.length_cons] at this; omega))
    clear h1 h2 h3
    by_cases hq : (upto 45 r).length < r.length
    · rw [decide_eq_true hq] at HC
      have HMY := hide (mo_yes r hq)
      have HMN := hide (mo_no r hq)
      have hdl : (r.drop ((upto 45 r).length + 1)).length ≤ 200 := by rw [List.length_drop]; omega
      have HQ := hide hq
      clear hq hup hlast
      generalize upto 45 r = u at *
      go_enter Tryd.func15, Tryd.ntmps15
      go_wp2_with fail
      refine (HP.out _).mono ?_
      rintro e w1 ⟨rfl, rfl⟩
      go_wp2_with fail
      refine (HC.out _ (HL.out _ (Fr.refl _)).m).mono ?_
      rintro e w2 ⟨⟨x, rfl, hx⟩, f2⟩
      have hxx := hx HQ.out
      have hxz := ints_length x
      rw [hxx] at hxz
      have HXX := hide (HX.out x w2 (HL.out _ f2) (by omega))
      rw [hxx] at HXX
      clear hx hxx hdl hxz
      generalize r.drop (u.length + 1) = q at *
      go_wp2_with fail
      refine HXX.out.mono ?_
      rintro e w3 ⟨⟨n, rfl, hn⟩, f3⟩
      have HN := hide hn
      clear hn
      cases hl : langB q
      · have E := hide (HMN.out hl)
        clear hl HN
        go_wp2_with fail
        go_ret3
        exact ⟨by rw [E.out]; simp only [moV, str_nil]; rfl, f2.trans f3⟩
      · have E := hide (HMY.out hl)
        have HNN := hide (HN.out hl)
        clear hl HN
        go_wp2_with fail
        go_ret3
        exact ⟨by rw [E.out, ← HNN.out]; rfl, f2.trans f3⟩
    · rw [decide_eq_false hq] at HC
      have E := hide (mo_bare r hq)
      have HU := hide (hup.out hq)
      rw [HU.out] at HC
      clear hq hup hlast
      go_enter Tryd.func15, Tryd.ntmps15
      go_wp2_with fail
      refine (HP.out _).mono ?_
      rintro e w1 ⟨rfl, rfl⟩
      go_wp2_with fail
      refine (HC.out _ (HL.out _ (Fr.refl _)).m).mono ?_
      rintro e w2 ⟨⟨x, rfl, hx⟩, f2⟩
      clear hx
      go_wp2_with fail
      go_ret3
      exact ⟨by rw [E.out]; rfl, f2⟩
  · rw [h1] at HP
    rw [h2]
    generalize (⟨(Lib.trimPrefix s.data.toList [36]).toArray⟩ : ByteArray) = T at *
    clear h1 h2
    go_enter Tryd.func15, Tryd.ntmps15
    go_wp2_with fail
    refine (HP.out _).mono ?_
    rintro e w1 ⟨rfl, rfl⟩
    go_wp2_with fail
    go_ret3
    exact ⟨by simp only [moV, str_nil]; rfl, Fr.refl _⟩
end Go.Proofs.YtiemiekkjaknfaaDoor
