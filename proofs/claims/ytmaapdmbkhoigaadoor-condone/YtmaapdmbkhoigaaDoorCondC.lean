/- Layer 13: Parse. -/
import Derived.Test.YtmaapdmbkhoigaaDoorCondB
namespace Go.Proofs.YtmaapdmbkhoigaaDoor
set_option linter.unusedVariables false
set_option linter.unusedSimpArgs false
open Go.RowKit
open Go.Lib (hasPrefix trimPrefix trimLeftB trimRightB)

/-- The ways' signs lie as they were laid. -/
def Sgn (w : World) : Prop := w.cell? ⟨0, 0, none⟩ = some (.string ⟨#[60]⟩) ∧ w.cell? ⟨0, 1, none⟩ = some (.string ⟨#[60, 61]⟩) ∧ w.cell? ⟨0, 2, none⟩ = some (.string ⟨#[62]⟩) ∧ w.cell? ⟨0, 3, none⟩ = some (.string ⟨#[62, 61]⟩) ∧ w.cell? ⟨0, 4, none⟩ = some (.string ⟨#[61]⟩) ∧ w.cell? ⟨0, 5, none⟩ = some (.string ⟨#[60, 62]⟩)
theorem Sgn.fr {w w' : World} (h : Sgn w) (f : Fr w w') : Sgn w' := ⟨fr_cell f h.1, fr_cell f h.2.1, fr_cell f h.2.2.1, fr_cell f h.2.2.2.1, fr_cell f h.2.2.2.2.1, fr_cell f h.2.2.2.2.2⟩

/-- The condition of a text, or the zero one. -/
def cA (l : List UInt8) : Value := if okD l = true then .agg #[.int .i64 (opD l : Int), .bool (nD (reD l)), .string (bs (wD (reD l))), .string (bs (pD (reD l)))] else .agg #[.int .i64 0, .bool false, .string ⟨#[]⟩, .string ⟨#[]⟩]
theorem cA_yes {l : List UInt8} (h : okD l = true) : cA l = .agg #[.int .i64 (opD l : Int), .bool (nD (reD l)), .string (bs (wD (reD l))), .string (bs (pD (reD l)))] := by unfold cA; rw [if_pos h]
theorem cA_no {l : List UInt8} (h : okD l = false) : cA l = .agg #[.int .i64 0, .bool false, .string ⟨#[]⟩, .string ⟨#[]⟩] := by unfold cA; rw [h]; rfl

theorem cutp_sg (l : List UInt8) (k : Nat) (w : World) :
    Calls Tryd.prog 18 #[.string (bs l), .string (bs (sg k))] w fun e w' => e = .returned (.tuple #[.string (bs (trimPrefix l (sg k))), .bool (hasPrefix l (sg k))]) ∧ w' = w := by
  have h := Tryd.strings_CutPrefix (bs l) (bs (sg k)) w
  rw [bs_data, bs_data] at h
  exact h
theorem trimP_le (l p : List UInt8) : (trimPrefix l p).length ≤ l.length := by
  unfold trimPrefix; split
  · rw [List.length_drop]; omega
  · exact Nat.le_refl _
theorem sga0 (w : World) : (Instr.index 59 (.agg #[.string ⟨#[60]⟩, .string ⟨#[60, 61]⟩, .string ⟨#[62]⟩, .string ⟨#[62, 61]⟩, .string ⟨#[61]⟩, .string ⟨#[60, 62]⟩]) (.int .i64 0)).run Tryd.prog w = .ok (.string ⟨#[60]⟩) w := by kernel_rfl
theorem sga1 (w : World) : (Instr.index 59 (.agg #[.string ⟨#[60]⟩, .string ⟨#[60, 61]⟩, .string ⟨#[62]⟩, .string ⟨#[62, 61]⟩, .string ⟨#[61]⟩, .string ⟨#[60, 62]⟩]) (.int .i64 1)).run Tryd.prog w = .ok (.string ⟨#[60, 61]⟩) w := by kernel_rfl
theorem sga2 (w : World) : (Instr.index 59 (.agg #[.string ⟨#[60]⟩, .string ⟨#[60, 61]⟩, .string ⟨#[62]⟩, .string ⟨#[62, 61]⟩, .string ⟨#[61]⟩, .string ⟨#[60, 62]⟩]) (.int .i64 2)).run Tryd.prog w = .ok (.string ⟨#[62]⟩) w := by kernel_rfl
theorem sga3 (w : World) : (Instr.index 59 (.agg #[.string ⟨#[60]⟩, .string ⟨#[60, 61]⟩, .string ⟨#[62]⟩, .string ⟨#[62, 61]⟩, .string ⟨#[61]⟩, .string ⟨#[60, 62]⟩]) (.int .i64 3)).run Tryd.prog w = .ok (.string ⟨#[62, 61]⟩) w := by kernel_rfl
theorem sga4 (w : World) : (Instr.index 59 (.agg #[.string ⟨#[60]⟩, .string ⟨#[60, 61]⟩, .string ⟨#[62]⟩, .string ⟨#[62, 61]⟩, .string ⟨#[61]⟩, .string ⟨#[60, 62]⟩]) (.int .i64 4)).run Tryd.prog w = .ok (.string ⟨#[61]⟩) w := by kernel_rfl
theorem sga5 (w : World) : (Instr.index 59 (.agg #[.string ⟨#[60]⟩, .string ⟨#[60, 61]⟩, .string ⟨#[62]⟩, .string ⟨#[62, 61]⟩, .string ⟨#[61]⟩, .string ⟨#[60, 62]⟩]) (.int .i64 5)).run Tryd.prog w = .ok (.string ⟨#[60, 62]⟩) w := by kernel_rfl
attribute [local go_sem] sga0 sga1 sga2 sga3 sga4 sga5

theorem tryF {l : List UInt8} (h : ∀ j, j < 6 → ¬ (hasPrefix l (sg j) = true ∧ numOk (l.drop (sg j).length) = true)) : okD l = false := by
  cases hk : okD l with
  | false => rfl
  | true =>
    obtain ⟨k, h1, h2, h3⟩ := okD_iff.1 hk
    exact absurd ((try_iff l k h1).2 ⟨h2, h3⟩) (h k h1)
theorem tryT {l : List UInt8} {k : Nat} (hk : k < 6) (h1 : hasPrefix l (sg k) = true) (h2 : numOk (trimPrefix l (sg k)) = true) : cA l = .agg #[.int .i64 ((k + 1 : Nat) : Int), .bool (nD (trimPrefix l (sg k))), .string (bs (wD (trimPrefix l (sg k)))), .string (bs (pD (trimPrefix l (sg k))))] ∧ okD l = true := by
  have e : trimPrefix l (sg k) = l.drop (sg k).length := by unfold trimPrefix; rw [if_pos h1]
  rw [e] at h2 ⊢
  have h3 := (try_iff l k hk).1 ⟨h1, h2⟩
  have hr := reD_of hk h3.1
  have ho := okD_iff.2 ⟨k, hk, h3⟩
  exact ⟨by rw [cA_yes ho, h3.1, hr], ho⟩

set_option maxHeartbeats 4000000 in
set_option maxRecDepth 4000 in
theorem parse_any13 (l : List UInt8) (w : World) (hS : Sgn w) (hM : MaxOk w) (hl : l.length ≤ 1000) :
    Calls Tryd.prog 8 #[.string (bs l)] w fun e w' => e = .returned (.tuple #[cA l, .bool (okD l)]) ∧ Fr w w' := by
  have HM := hide (fun w' (k : Fr w w') => hM.fr k)
  have HS := hide (fun w' (k : Fr w w') => hS.fr k)
  have HL := hide hl
  clear hS hM hl
  go_enter Tryd.func8, Tryd.ntmps8
  have AS := fun o => HS.out _ (Fr.alloc w o)
  have s0 := fun o => (AS o).1
  have s1 := fun o => (AS o).2.1
  have s2 := fun o => (AS o).2.2.1
  have s3 := fun o => (AS o).2.2.2.1
  have s4 := fun o => (AS o).2.2.2.2.1
  have s5 := fun o => (AS o).2.2.2.2.2
  clear AS
  go_wp2_with fail
  go_loopw [11] (fun i wr => ∃ k : Nat, k ≤ 6 ∧ i = .int .i64 k ∧ Hid (∀ j, j < k → ¬ (hasPrefix l (sg j) = true ∧ numOk (l.drop (sg j).length) = true)) ∧ Hid (Quad w wr w.heap.size (.int .i64 0) (.bool false) (.string ⟨#[]⟩) (.string ⟨#[]⟩)) ∧ Hid (Fr w wr)) (fun i _ => 6 - (intOf i).toNat)
  case atStart => exact ⟨0, by omega, rfl, hide (by intro j hj; omega), hide (Quad.new (Fr.refl w) _ _ _ _ _), hide (Fr.alloc _ _)⟩
  case round =>
    obtain ⟨k, hk, rfl, HB, Q, F⟩ := hrel
    by_cases hlt : k < 6
    · have HP := hide (fun w => cutp_sg l k w)
      have hX : (trimPrefix l (sg k)).length ≤ 100000 := by have := trimP_le l (sg k); have := HL.out; omega
      have HNo := hide (fun w hM => onNumber_no ((k + 1 : Nat) : Int) (trimPrefix l (sg k)) w hM hX)
      have HNy := hide (fun w hM => onNumber_yes ((k + 1 : Nat) : Int) (trimPrefix l (sg k)) w hM hX)
      have hk6 : k = 0 ∨ k = 1 ∨ k = 2 ∨ k = 3 ∨ k = 4 ∨ k = 5 := by omega
      clear hX s0 s1 s2 s3 s4 s5
      cases hp : hasPrefix l (sg k)
      · have HB := hide (show ∀ j, j < k + 1 → ¬ (hasPrefix l (sg j) = true ∧ numOk (l.drop (sg j).length) = true) from fun j hj => by
          by_cases e : j = k
          · subst e; rintro ⟨h1, _⟩; rw [hp] at h1; cases h1
          · exact HB.out j (by omega))
        rw [hp] at HP
        clear hp HNo HNy
        generalize trimPrefix l (sg k) = X at *
        rcases hk6 with rfl | rfl | rfl | rfl | rfl | rfl
        all_goals
          go_wp2_with fail
          refine (HP.out _).mono ?_
          rintro e w1 ⟨rfl, rfl⟩
          go_wp2_with fail
          go_roundw
          case rel => exact ⟨_, by omega, by go_num, HB, Q, F⟩
          case measure => simp [intOf]
      · cases hn : numOk (trimPrefix l (sg k))
        · have HB := hide (show ∀ j, j < k + 1 → ¬ (hasPrefix l (sg j) = true ∧ numOk (l.drop (sg j).length) = true) from fun j hj => by
            by_cases e : j = k
            · subst e
              rintro ⟨h1, h2⟩
              unfold trimPrefix at hn
              rw [if_pos h1, h2] at hn
              cases hn
            · exact HB.out j (by omega))
          rw [hp] at HP
          have HN := hide (fun w hM => HNo.out w hM hn)
          clear hp HNo HNy hn
          generalize trimPrefix l (sg k) = X at *
          rcases hk6 with rfl | rfl | rfl | rfl | rfl | rfl
          all_goals
            go_wp2_with fail
            refine (HP.out _).mono ?_
            rintro e w1 ⟨rfl, rfl⟩
            go_wp2_with fail
            refine (HN.out _ (HM.out _ F.out)).mono ?_
            rintro e w2 ⟨rfl, f2⟩
            go_wp2_with fail
            go_roundw
            case rel => exact ⟨_, by omega, by go_num, HB, hide ((Q.out.fr f2).fr (Fr.alloc _ _)), hide ((F.out.trans f2).trans (Fr.alloc _ _))⟩
            case measure => simp [intOf]
        · obtain ⟨e1, e2⟩ := tryT hlt hp hn
          rw [hp] at HP
          have HN := hide (fun w hM => HNy.out w hM hn)
          have E1 := hide e1
          have E2 := hide e2
          clear hp HNo HNy hn e1 e2
          generalize trimPrefix l (sg k) = X at *
          rcases hk6 with rfl | rfl | rfl | rfl | rfl | rfl
          all_goals
            go_wp2_with fail
            refine (HP.out _).mono ?_
            rintro e w1 ⟨rfl, rfl⟩
            go_wp2_with fail
            refine (HN.out _ (HM.out _ F.out)).mono ?_
            rintro e w2 ⟨rfl, f2⟩
            have AQ := fun o => (Q.out.fr f2).fr (Fr.alloc w2 o)
            have q0 := fun o => (AQ o).1
            have q1 := fun o => (AQ o).2.1
            have q2 := fun o => (AQ o).2.2.1
            have q3 := fun o => (AQ o).2.2.2.1
            have z0 := fun o => (AQ o).2.2.2.2.1 0
            have z1 := fun o => (AQ o).2.2.2.2.1 1
            have z2 := fun o => (AQ o).2.2.2.2.1 2
            have z3 := fun o => (AQ o).2.2.2.2.1 3
            have R := hide (fun o a b c d => (AQ o).set a b c d)
            have FR := hide (fun o a b c d => (AQ o).set_fr ((F.out.trans f2).trans (Fr.alloc _ _)) a b c d)
            clear AQ f2
            go_wp2_with fail
            exact bodyPost_ret (results_cond (.inl rfl) rfl _ (R.out _ _ _ _ _) rfl) rfl ⟨by rw [E1.out, E2.out]; rfl, FR.out _ _ _ _ _⟩
    · have : k = 6 := by omega
      subst this
      have hno := tryF HB.out
      have E1 := hide (cA_no hno)
      have E2 := hide hno
      clear hno s0 s1 s2 s3 s4 s5
      obtain ⟨q0, q1, q2, q3, z, _⟩ := Q.out
      have z0 := z 0
      have z1 := z 1
      have z2 := z 2
      have z3 := z 3
      have R := hide (Q.out.set (.int .i64 0) (.bool false) (.string ⟨#[]⟩) (.string ⟨#[]⟩))
      have FR := hide (Q.out.set_fr F.out (.int .i64 0) (.bool false) (.string ⟨#[]⟩) (.string ⟨#[]⟩))
      clear z
      go_wp2_with fail
      exact bodyPost_ret (results_cond (.inl rfl) rfl _ R.out rfl) rfl ⟨by rw [E1.out, E2.out]; rfl, FR.out⟩
end Go.Proofs.YtmaapdmbkhoigaaDoor
