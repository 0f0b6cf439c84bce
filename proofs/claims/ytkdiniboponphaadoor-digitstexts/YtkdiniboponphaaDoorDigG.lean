/- The law DigitsTexts. -/
import Derived.Test.YtkdiniboponphaaDoorDigF
namespace Go.Proofs.YtkdiniboponphaaDoor
set_option linter.unusedVariables false
set_option linter.unusedSimpArgs false
open Go.RowKit

attribute [local go_sem] World.cell?_alloc_some
set_option maxHeartbeats 4000000 in
set_option maxRecDepth 4000 in
theorem law_DigitsTexts (a0 : Option Addr) (len0 cap0 : Nat) (z0 : List Int) (w : World) (h0 : IsRow .u32 w a0 len0 cap0 z0) (hP : PT w) :
    Calls Tryd.prog 3 #[.slice a0 len0 cap0] w fun e w' => e = .returned (.bool true) ∧ Fr w w' := by
  obtain ⟨k0, x, kx, kc, lx, cs, fewx, madex⟩ := came h0
  have nx : nlen 4294967296 x ≤ 60 := Nat.le_trans (nlen_le b32 lx) kx
  have n10 : nlen 10 x ≤ 600 := Nat.le_trans (nl10 lx) (by omega)
  have FX := hide fewx
  have MX := hide madex
  have HR := hide (fun wz (f : Fr w wz) => refMade_any x k0 cap0 a0 wz lx (by omega) (cs.fr f))
  obtain ⟨SA, hSA⟩ : ∃ SA, bs (Lib.decDigits x) = SA := ⟨_, rfl⟩
  obtain ⟨D, hD⟩ : ∃ D : Nat, (Lib.decDigits x).length = D := ⟨_, rfl⟩
  have hz : SA.size = D := by rw [← hSA, bs_size, hD]
  have hDb : D ≤ 1000000 := by rw [← hz, ← hSA]; exact Nat.le_trans (dec_size nx) (by omega)
  have HT := hide (fun w v h hP => text_any v x w h (by omega) hP)
  have HC := hide (fun w v h hP => count_any v x w h (by omega) hP)
  have HX := hide (fun w v h => refText_any v x w h (by omega))
  rw [hSA] at HT HX
  rw [hD] at HC
  have HP := hide hP
  clear fewx madex h0 lx cs hP hSA hD
  go_enter Tryd.func3, Tryd.ntmps3
  go_wp2_with fail
  refine (FX.out _).mono ?_
  rintro e w' ⟨rfl, rfl⟩
  go_wp2_with fail
  refine (MX.out _ (Fr.refl _)).mono ?_
  rintro e w1 ⟨ax, cx, rfl, hx, _, f1⟩
  go_wp2_with fail
  obtain ⟨W, hW⟩ : ∃ W, W = w1.alloc (Obj.cells #[Value.slice ax (nlen 4294967296 x) cx] 24) := ⟨_, rfl⟩
  have fW : Fr w1 W := by rw [hW]; exact Fr.alloc _ _
  have c3 : W.cell? ⟨w1.heap.size, 0, none⟩ = some (.slice ax (nlen 4294967296 x) cx) := by rw [hW]; simp [go_sem]
  rw [← hW]
  clear hW
  have HN := hide (IsNat.fr hx fW)
  have F := hide (f1.trans fW)
  clear hx f1 fW
  refine (FX.out _).mono ?_
  rintro e w' ⟨rfl, rfl⟩
  go_wp2_with fail
  refine (HR.out _ F.out).mono ?_
  rintro e w2 ⟨v2, rfl, d2, f2⟩
  have c3 := fr_cell f2 c3
  have HN := hide (IsNat.fr HN.out f2)
  have F := hide (F.out.trans f2)
  clear f2
  go_wp2_with fail
  refine (HX.out _ _ d2).mono ?_
  rintro e w3 ⟨rfl, f3⟩
  have c3 := fr_cell f3 c3
  have HN := hide (IsNat.fr HN.out f3)
  have F := hide (F.out.trans f3)
  clear f3 d2
  go_wp2_with fail
  refine (wakes_any _ (PT.fr HP.out F.out)).mono ?_
  rintro e w4 ⟨rfl, f4⟩
  have c3 := fr_cell f4 c3
  have HN := hide (IsNat.fr HN.out f4)
  have F := hide (F.out.trans f4)
  clear f4
  go_wp2_with fail
  refine (HT.out _ _ HN.out (PT.fr HP.out F.out)).mono ?_
  rintro e w5 ⟨rfl, f5⟩
  have c3 := fr_cell f5 c3
  have HN := hide (IsNat.fr HN.out f5)
  have F := hide (F.out.trans f5)
  clear f5
  go_wp2_with fail
  refine (HC.out _ _ HN.out (PT.fr HP.out F.out)).mono ?_
  rintro e w6 ⟨rfl, f6⟩
  have F := hide (F.out.trans f6)
  clear f6
  go_wp2_with fail
  go_ret
  exact ⟨rfl, F.out⟩
end Go.Proofs.YtkdiniboponphaaDoor
