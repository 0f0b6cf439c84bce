/- Layer 13: onNumber. -/
import Derived.Test.YtmaapdmbkhoigaaDoorCondA
namespace Go.Proofs.YtmaapdmbkhoigaaDoor
set_option linter.unusedVariables false
set_option linter.unusedSimpArgs false
open Go.RowKit
open Go.Lib (hasPrefix trimPrefix trimLeftB trimRightB)

theorem cutp_any (l : List UInt8) (w : World) :
    Calls Tryd.prog 18 #[.string (bs l), .string ⟨#[45]⟩] w fun e w' => e = .returned (.tuple #[.string (bs (szD l)), .bool (neD l)]) ∧ w' = w := by
  have h := Tryd.strings_CutPrefix (bs l) ⟨#[45]⟩ w
  obtain ⟨h1, h2⟩ := pre45 l
  rw [bs_data] at h
  change Calls Tryd.prog 18 #[.string (bs l), .string ⟨#[45]⟩] w fun e w' => e = .returned (.tuple #[.string ⟨(trimPrefix l [45]).toArray⟩, .bool (hasPrefix l [45])]) ∧ w' = w at h
  rw [h1, h2] at h
  exact h
theorem cutd_any (l : List UInt8) (w : World) (hM : MaxOk w) (hl : l.length ≤ 100000) :
    Calls Tryd.prog 27 #[.string (bs (szD l)), .string ⟨#[46]⟩] w fun e w' => e = .returned (.tuple #[.string (bs (whD l)), .string (bs (paD l)), .bool (poD l)]) ∧ Fr w w' := by
  obtain ⟨m, hm⟩ := hM
  have h := Tryd.strings_Cut (bs (szD l)) ⟨#[46]⟩ m w (by rw [bs_size]; have := szD_le l; omega) hm
  rw [bs_data] at h
  change Calls Tryd.prog 27 #[.string (bs (szD l)), .string ⟨#[46]⟩] w fun e w' => e = .returned (.tuple #[.string ⟨(Lib.cut (szD l) [46]).1.toArray⟩, .string ⟨(Lib.cut (szD l) [46]).2.1.toArray⟩, .bool (Lib.cut (szD l) [46]).2.2]) ∧ ∃ n, w' = w.drewN n at h
  rw [cut_dot] at h
  refine h.mono ?_
  rintro e w' ⟨rfl, n, rfl⟩
  exact ⟨rfl, below_drewN (Below.refl _ _) _⟩
theorem triml_any (l : List UInt8) (w : World) :
    Calls Tryd.prog 29 #[.string (bs l), .string ⟨#[48]⟩] w fun e w' => e = .returned (.string (bs (trimLeftB l 48))) ∧ w' = w := by
  have h := Tryd.strings_TrimLeft_one (bs l) 48 (by decide) w
  rw [bs_data] at h
  exact h
theorem trimr_any (l : List UInt8) (w : World) (hl : l.length ≤ 100000) :
    Calls Tryd.prog 30 #[.string (bs l)] w fun e w' => e = .returned (.string (bs (trimRightB l 48))) ∧ w' = w := by
  have h := trim_any6 (bs l) w (bs_maxLen hl (by omega))
  rw [bs_data] at h
  exact h

theorem bs_empty (l : List UInt8) : (bs l).toList.isEmpty = l.isEmpty := by rw [Go.Lib.toList_data, bs_data]
theorem bs_add_empty (l m : List UInt8) : (bs l ++ bs m).toList.isEmpty = (l ++ m).isEmpty := by rw [bs_append, bs_empty]

set_option maxHeartbeats 2000000 in
set_option maxRecDepth 4000 in
theorem onNumber_no (op : Int) (l : List UInt8) (w : World) (hM : MaxOk w) (hl : l.length ≤ 100000) (h : numOk l = false) :
    Calls Tryd.prog 19 #[.int .i64 op, .string (bs l)] w fun e w' => e = .returned (.tuple #[.agg #[.int .i64 0, .bool false, .string ⟨#[]⟩, .string ⟨#[]⟩], .bool false]) ∧ Fr w w' := by
  have HM := hide (fun w' (k : Fr w w') => hM.fr k)
  have HP := hide (fun w => cutp_any l w)
  have HC := hide (fun w hM => cutd_any l w hM hl)
  have HU := hide (fun w => mayStand_any (whD l) w (Nat.le_trans (whD_le l) hl))
  have HV := hide (fun w => mayStand_any (paD l) w (Nat.le_trans (paD_le l) hl))
  unfold numOk at h
  have HH := hide h
  clear h hM hl
  generalize szD l = S at *
  generalize whD l = U at *
  generalize paD l = V at *
  generalize neD l = n at *
  generalize poD l = p at *
  generalize runD U = a at *
  generalize runD V = b at *
  go_enter Tryd.func19, Tryd.ntmps19
  go_wp2_with fail
  refine (HP.out _).mono ?_
  rintro e w1 ⟨rfl, rfl⟩
  go_wp2_with fail
  refine (HC.out _ (HM.out _ (Fr.alloc _ _))).mono ?_
  rintro e w1 ⟨rfl, f1⟩
  have Q := hide ((Quad.new (Fr.refl w) (.int .i64 0) (.bool false) (.string ⟨#[]⟩) (.string ⟨#[]⟩) 24).fr f1)
  have F := hide ((Fr.alloc w (.cells #[.int .i64 0, .bool false, .string ⟨#[]⟩, .string ⟨#[]⟩] 24)).trans f1)
  clear f1
  go_wp2_with fail
  refine (HU.out _).mono ?_
  rintro e w2 ⟨rfl, f2⟩
  have Q := hide (Q.out.fr f2)
  have F := hide (F.out.trans f2)
  clear f2
  cases a
  · obtain ⟨q0, q1, q2, q3, z, _⟩ := Q.out
    have z0 := z 0
    have z1 := z 1
    have z2 := z 2
    have z3 := z 3
    have R := hide (Q.out.set (.int .i64 0) (.bool false) (.string ⟨#[]⟩) (.string ⟨#[]⟩))
    have FR := hide (Q.out.set_fr F.out (.int .i64 0) (.bool false) (.string ⟨#[]⟩) (.string ⟨#[]⟩))
    clear z
    go_wp2_with fail
    exact bodyPost_ret (results_cond (.inl rfl) rfl _ R.out rfl) rfl ⟨rfl, FR.out⟩
  · cases p
    · exact absurd HH.out (by simp)
    · go_wp2_with fail
      refine (HV.out _).mono ?_
      rintro e w3 ⟨rfl, f3⟩
      have Q := hide (Q.out.fr f3)
      have F := hide (F.out.trans f3)
      clear f3
      cases b
      · obtain ⟨q0, q1, q2, q3, z, _⟩ := Q.out
        have z0 := z 0
        have z1 := z 1
        have z2 := z 2
        have z3 := z 3
        have R := hide (Q.out.set (.int .i64 0) (.bool false) (.string ⟨#[]⟩) (.string ⟨#[]⟩))
        have FR := hide (Q.out.set_fr F.out (.int .i64 0) (.bool false) (.string ⟨#[]⟩) (.string ⟨#[]⟩))
        clear z
        go_wp2_with fail
        exact bodyPost_ret (results_cond (.inl rfl) rfl _ R.out rfl) rfl ⟨rfl, FR.out⟩
      · exact absurd HH.out (by decide)

set_option maxHeartbeats 2000000 in
set_option maxRecDepth 4000 in
theorem onNumber_yes (op : Int) (l : List UInt8) (w : World) (hM : MaxOk w) (hl : l.length ≤ 100000) (h : numOk l = true) :
    Calls Tryd.prog 19 #[.int .i64 op, .string (bs l)] w fun e w' => e = .returned (.tuple #[.agg #[.int .i64 op, .bool (nD l), .string (bs (wD l)), .string (bs (pD l))], .bool true]) ∧ Fr w w' := by
  have HM := hide (fun w' (k : Fr w w') => hM.fr k)
  have HP := hide (fun w => cutp_any l w)
  have HC := hide (fun w hM => cutd_any l w hM hl)
  have HU := hide (fun w => mayStand_any (whD l) w (Nat.le_trans (whD_le l) hl))
  have HV := hide (fun w => mayStand_any (paD l) w (Nat.le_trans (paD_le l) hl))
  have HL := hide (fun w => triml_any (whD l) w)
  have HR := hide (fun w => trimr_any (paD l) w (Nat.le_trans (paD_le l) hl))
  have hWz : (bs (wD l)).size ≤ 100000 := by rw [bs_size]; exact Nat.le_trans (trimLeft_len _) (Nat.le_trans (whD_le l) hl)
  have hPz : (bs (pD l)).size ≤ 100000 := by rw [bs_size]; exact Nat.le_trans (trimRight_le _) (Nat.le_trans (paD_le l) hl)
  have hE := bs_add_empty (wD l) (pD l)
  change Hid (∀ w, Calls Tryd.prog 29 #[.string (bs (whD l)), .string ⟨#[48]⟩] w fun e w' => e = .returned (.string (bs (wD l))) ∧ w' = w) at HL
  change Hid (∀ w, Calls Tryd.prog 30 #[.string (bs (paD l))] w fun e w' => e = .returned (.string (bs (pD l))) ∧ w' = w) at HR
  unfold nD
  unfold numOk at h
  have HH := hide h
  clear h hM hl
  generalize szD l = S at *
  generalize whD l = U at *
  generalize paD l = V at *
  generalize neD l = n at *
  generalize poD l = p at *
  generalize runD U = a at *
  generalize runD V = b at *
  generalize wD l = W at *
  generalize pD l = P at *
  generalize (W ++ P).isEmpty = q at *
  generalize bs W = W at *
  generalize bs P = P at *
  cases a
  · exact absurd HH.out (by simp)
  go_enter Tryd.func19, Tryd.ntmps19
  go_wp2_with fail
  refine (HP.out _).mono ?_
  rintro e w1 ⟨rfl, rfl⟩
  go_wp2_with fail
  refine (HC.out _ (HM.out _ (Fr.alloc _ _))).mono ?_
  rintro e w1 ⟨rfl, f1⟩
  have Q := hide ((Quad.new (Fr.refl w) (.int .i64 0) (.bool false) (.string ⟨#[]⟩) (.string ⟨#[]⟩) 24).fr f1)
  have F := hide ((Fr.alloc w (.cells #[.int .i64 0, .bool false, .string ⟨#[]⟩, .string ⟨#[]⟩] 24)).trans f1)
  clear f1
  go_wp2_with fail
  refine (HU.out _).mono ?_
  rintro e w2 ⟨rfl, f2⟩
  have Q := hide (Q.out.fr f2)
  have F := hide (F.out.trans f2)
  clear f2
  cases p
  · clear HV
    go_wp2_with fail
    refine (HL.out _).mono ?_
    rintro e w3 ⟨rfl, rfl⟩
    go_wp2_with fail
    refine (HR.out _).mono ?_
    rintro e w3 ⟨rfl, rfl⟩
    have AQ := fun o => Q.out.fr (Fr.alloc w3 o)
    have q0 := fun o => (AQ o).1
    have q1 := fun o => (AQ o).2.1
    have q2 := fun o => (AQ o).2.2.1
    have q3 := fun o => (AQ o).2.2.2.1
    have z0 := fun o => (AQ o).2.2.2.2.1 0
    have z1 := fun o => (AQ o).2.2.2.2.1 1
    have z2 := fun o => (AQ o).2.2.2.2.1 2
    have z3 := fun o => (AQ o).2.2.2.2.1 3
    have R := hide (fun o v => (AQ o).set (.int .i64 op) v (.string W) (.string P))
    have FR := hide (fun o v => (AQ o).set_fr (F.out.trans (Fr.alloc _ _)) (.int .i64 op) v (.string W) (.string P))
    clear AQ
    cases n
    · go_wp2_with fail
      exact bodyPost_ret (results_cond (.inl rfl) rfl _ (R.out _ _) rfl) rfl ⟨rfl, FR.out _ _⟩
    · cases q
      · go_wp2_with fail
        exact bodyPost_ret (results_cond (.inl rfl) rfl _ (R.out _ _) rfl) rfl ⟨rfl, FR.out _ _⟩
      · go_wp2_with fail
        exact bodyPost_ret (results_cond (.inl rfl) rfl _ (R.out _ _) rfl) rfl ⟨rfl, FR.out _ _⟩
  · go_wp2_with fail
    refine (HV.out _).mono ?_
    rintro e w2 ⟨rfl, f3⟩
    have Q := hide (Q.out.fr f3)
    have F := hide (F.out.trans f3)
    clear f3
    cases b
    · exact absurd HH.out (by simp)
    go_wp2_with fail
    refine (HL.out _).mono ?_
    rintro e w3 ⟨rfl, rfl⟩
    go_wp2_with fail
    refine (HR.out _).mono ?_
    rintro e w3 ⟨rfl, rfl⟩
    have AQ := fun o => Q.out.fr (Fr.alloc w3 o)
    have q0 := fun o => (AQ o).1
    have q1 := fun o => (AQ o).2.1
    have q2 := fun o => (AQ o).2.2.1
    have q3 := fun o => (AQ o).2.2.2.1
    have z0 := fun o => (AQ o).2.2.2.2.1 0
    have z1 := fun o => (AQ o).2.2.2.2.1 1
    have z2 := fun o => (AQ o).2.2.2.2.1 2
    have z3 := fun o => (AQ o).2.2.2.2.1 3
    have R := hide (fun o v => (AQ o).set (.int .i64 op) v (.string W) (.string P))
    have FR := hide (fun o v => (AQ o).set_fr (F.out.trans (Fr.alloc _ _)) (.int .i64 op) v (.string W) (.string P))
    clear AQ
    cases n
    · go_wp2_with fail
      exact bodyPost_ret (results_cond (.inl rfl) rfl _ (R.out _ _) rfl) rfl ⟨rfl, FR.out _ _⟩
    · cases q
      · go_wp2_with fail
        exact bodyPost_ret (results_cond (.inl rfl) rfl _ (R.out _ _) rfl) rfl ⟨rfl, FR.out _ _⟩
      · go_wp2_with fail
        exact bodyPost_ret (results_cond (.inl rfl) rfl _ (R.out _ _) rfl) rfl ⟨rfl, FR.out _ _⟩
end Go.Proofs.YtmaapdmbkhoigaaDoor
