/- Layer 13: a condition's number as a text. -/
import Derived.Test.YtmaapdmbkhoigaaDoorCondC
namespace Go.Proofs.YtmaapdmbkhoigaaDoor
set_option linter.unusedVariables false
set_option linter.unusedSimpArgs false
open Go.RowKit
open Go.Lib (hasPrefix trimPrefix trimLeftB trimRightB)

attribute [local go_sem] World.cell?_alloc_some
set_option maxHeartbeats 1000000 in
set_option maxRecDepth 4000 in
theorem or_yes (W : ByteArray) (g off c : Nat) (w : World) (hW : W.toList.isEmpty = false) (h0 : w.cell? ⟨g, off, none⟩ = some (.string W)) (hc : 2 ≤ c) (hc2 : c ≤ maxLen) :
    Calls Tryd.prog 31 #[.slice (some ⟨g, off, none⟩) 2 c] w fun e w' => e = .returned (.string W) ∧ w' = w := by
  go_enter Tryd.func31, Tryd.ntmps31
  go_wp2_with fail
  refine wp_loop_rounds 1 ?_
  rw [rounds_succ]
  go_wp2_with fail
  go_ret
  exact ⟨rfl, rfl⟩
set_option maxHeartbeats 1000000 in
set_option maxRecDepth 4000 in
theorem or_no (W V : ByteArray) (g off c : Nat) (w : World) (hW : W.toList.isEmpty = true) (hV : V.toList.isEmpty = false) (h0 : w.cell? ⟨g, off, none⟩ = some (.string W)) (h1 : w.cell? ⟨g, off + 1, none⟩ = some (.string V)) (hc : 2 ≤ c) (hc2 : c ≤ maxLen) :
    Calls Tryd.prog 31 #[.slice (some ⟨g, off, none⟩) 2 c] w fun e w' => e = .returned (.string V) ∧ w' = w := by
  go_enter Tryd.func31, Tryd.ntmps31
  go_wp2_with fail
  refine wp_loop_rounds 2 ?_
  rw [rounds_succ]
  go_wp2_with fail
  rw [rounds_succ]
  go_wp2_with fail
  go_ret
  exact ⟨rfl, rfl⟩

def nuB (n a b : Bool) (W P : ByteArray) : ByteArray :=
  match n, a, b with
  | false, true, true => ⟨#[48]⟩
  | false, false, true => W
  | true, true, true => ⟨#[45]⟩ ++ ⟨#[48]⟩
  | true, false, true => ⟨#[45]⟩ ++ W
  | false, true, false => ⟨#[48]⟩ ++ (⟨#[46]⟩ ++ P)
  | false, false, false => W ++ (⟨#[46]⟩ ++ P)
  | true, true, false => ⟨#[45]⟩ ++ ⟨#[48]⟩ ++ (⟨#[46]⟩ ++ P)
  | true, false, false => ⟨#[45]⟩ ++ W ++ (⟨#[46]⟩ ++ P)
theorem nu_bs (n : Bool) (W P : List UInt8) : bs (nuD n W P) = nuB n W.isEmpty P.isEmpty (bs W) (bs P) := by
  have e48 : (⟨#[48]⟩ : ByteArray) = bs [48] := rfl
  have e45 : (⟨#[45]⟩ : ByteArray) = bs [45] := rfl
  have e46 : (⟨#[46]⟩ : ByteArray) = bs [46] := rfl
  unfold nuD nuB
  cases n <;> cases W <;> cases P <;> simp [e48, e45, e46, bs_append]

set_option maxHeartbeats 2000000 in
set_option maxRecDepth 4000 in
theorem number_any13 (op : Int) (n : Bool) (W P : List UInt8) (w : World) (hW : W.length ≤ 1000) (hP : P.length ≤ 1000) :
    Calls Tryd.prog 21 #[.agg #[.int .i64 op, .bool n, .string (bs W), .string (bs P)]] w fun e w' => e = .returned (.string (bs (nuD n W P))) ∧ Fr w w' := by
  rw [nu_bs]
  have zW : (bs W).size ≤ 1000 := by rw [bs_size]; exact hW
  have zP : (bs P).size ≤ 1000 := by rw [bs_size]; exact hP
  have eW := bs_empty W
  have eP := bs_empty P
  have fin : Hid (∀ o o', Fr w ((w.alloc o).alloc o')) := fun o o' => (Fr.alloc _ _).trans (Fr.alloc _ _)
  have ne48 : (⟨#[48]⟩ : ByteArray).toList.isEmpty = false := by decide +kernel
  have HOy := hide (fun g w h h0 => or_yes (bs W) g 0 2 w h h0 (by omega) (by unfold maxLen; omega))
  have HOn := hide (fun g w h h0 h1 => or_no (bs W) ⟨#[48]⟩ g 0 2 w h ne48 h0 h1 (by omega) (by unfold maxLen; omega))
  generalize W.isEmpty = a at *
  generalize P.isEmpty = b at *
  generalize bs W = W at *
  generalize bs P = P at *
  clear hW hP
  cases a
  · cases n <;> cases b
    all_goals
      go_enter Tryd.func21, Tryd.ntmps21
      go_wp2_with fail
      refine (HOy.out _ _ eW (by go_simp)).mono ?_
      rintro e w1 ⟨rfl, rfl⟩
      go_wp2_with fail
      go_ret
      exact ⟨rfl, fin.out _ _⟩
  · cases n <;> cases b
    all_goals
      go_enter Tryd.func21, Tryd.ntmps21
      go_wp2_with fail
      refine (HOn.out _ _ eW (by go_simp) (by go_simp)).mono ?_
      rintro e w1 ⟨rfl, rfl⟩
      go_wp2_with fail
      go_ret
      exact ⟨rfl, fin.out _ _⟩
end Go.Proofs.YtmaapdmbkhoigaaDoor
