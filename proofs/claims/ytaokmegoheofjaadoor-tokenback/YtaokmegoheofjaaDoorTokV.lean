/- Code. -/
import Derived.Test.YtaokmegoheofjaaDoorTokU
namespace Go.Proofs.YtaokmegoheofjaaDoor
set_option linter.unusedVariables false
set_option linter.unusedSimpArgs false
open Go.RowKit

theorem signs_rg (k : Int) (t : List Int) (c : Int) (h : Rg t) : Rg (signsL k t c) := by
  unfold signsL
  intro x hx
  repeat' split at hx
  all_goals first
    | exact h x hx
    | (simp only [List.mem_flatten, List.mem_replicate] at hx; obtain ⟨l, ⟨_, rfl⟩, hl⟩ := hx; exact h x hl)
    | (simp only [List.mem_cons, List.mem_append, List.not_mem_nil, or_false] at hx; rcases hx with rfl | hx | rfl <;> first | omega | exact h x hx)
    | (simp only [List.mem_cons] at hx; rcases hx with rfl | hx; exact ⟨by omega, by omega⟩; exact h x hx)
theorem signs_len (k : Int) (t : List Int) (c : Int) (h : t.length ≤ 4096) (hc : c ≤ 4096) : (signsL k t c).length ≤ 100000000 := by
  have hm : c.toNat * t.length ≤ 4096 * 4096 := Nat.mul_le_mul (by omega) h
  unfold signsL
  repeat' split
  all_goals first
    | (simp only [List.length_cons, List.length_append, List.length_nil]; omega)
    | (rw [List.length_flatten, List.map_replicate, List.sum_replicate_nat]; omega)
    | omega

/-- The document's signs of a token, or none. -/
def codeL (k : Int) (t : List Int) (c : Int) : List Int :=
  if 4096 < t.length ∨ c < 0 ∨ 4096 < c then [] else
  match (answer (signsL k t c)).1 with
  | [x] => if x.kind = k ∧ strOfNums x.text = strOfNums t ∧ x.count = c ∧ (x.place : Int) = 0 then signsL k t c else []
  | _ => []

set_option maxHeartbeats 2000000 in
set_option maxRecDepth 4000 in
theorem code_any (k : Int) (t : ByteArray) (c a : Int) (w : World) (hL : Lead w) (hE : MaxOk w) (ht : t.size ≤ maxLen) :
    Calls Tryd.prog 14 #[.agg #[.int .i64 k, .string t, .int .i64 c, .int .i64 a]] w fun e w' => e = .returned (.string (strOfNums (codeL k (ints t) c))) ∧ Fr w w' := by
  unfold maxLen at ht
  have hz := ints_length t
  by_cases h1 : 4096 < t.size
  · have e : codeL k (ints t) c = [] := by unfold codeL; rw [if_pos (by omega)]
    rw [e, str_nil]
    clear e hz
    go_enter Tryd.func14, Tryd.ntmps14
    go_wp2_with fail
    go_ret
    exact ⟨rfl, Fr.alloc _ _⟩
  by_cases h2 : c < 0
  · have e : codeL k (ints t) c = [] := by unfold codeL; rw [if_pos (by omega)]
    rw [e, str_nil]
    clear e hz
    go_enter Tryd.func14, Tryd.ntmps14
    go_wp2_with fail
    go_ret
    exact ⟨rfl, Fr.alloc _ _⟩
  by_cases h3 : 4096 < c
  · have e : codeL k (ints t) c = [] := by unfold codeL; rw [if_pos (by omega)]
    rw [e, str_nil]
    clear e hz
    go_enter Tryd.func14, Tryd.ntmps14
    go_wp2_with fail
    go_ret
    exact ⟨rfl, Fr.alloc _ _⟩
  have HD : Hid (codeL k (ints t) c = match (answer (signsL k (ints t) c)).1 with
    | [x] => if x.kind = k ∧ strOfNums x.text = strOfNums (ints t) ∧ x.count = c ∧ (x.place : Int) = 0 then signsL k (ints t) c else []
    | _ => []) := by
    refine hide ?_
    unfold codeL
    rw [if_neg (by omega)]
  rw [str_ints] at HD
  have HS := hide (fun w => signs_any k t c a w (by omega) (by omega) (by omega))
  have hrg := signs_rg k (ints t) c (ints_range t)
  have hlen := signs_len k (ints t) c (by omega) (by omega)
  have hst := ints_nums _ hrg
  generalize signsL k (ints t) c = L at *
  have hsz := ints_length (strOfNums L)
  rw [hst] at hsz
  have HA := hide (fun w hL hE => tokAll_any (strOfNums L) w hL hE (by unfold maxLen; omega))
  rw [hst] at HA
  generalize hSL : strOfNums L = st at *
  have HSL := hide hSL
  obtain ⟨T, q, r, hT⟩ : ∃ T q r, answer L = (T, q, r) := ⟨_, _, _, rfl⟩
  rw [hT] at HD HA
  clear hrg hst hSL hT hlen hsz hz
  go_enter Tryd.func14, Tryd.ntmps14
  go_wp2_with fail
  refine (HS.out _).mono ?_
  rintro e w1 ⟨rfl, f1⟩
  have c4 := four_cells f1
  have f4 := var_free f1
  go_wp2_with fail
  obtain ⟨W1, hW1⟩ : ∃ W1, W1 = w1.setCell ⟨w.heap.size, 3, none⟩ (.int .i64 0) := ⟨_, rfl⟩
  have fW : Hid (Fr w W1) := hide (by rw [hW1]; exact Below.setCell ((Fr.alloc w _).trans f1) (by simp) _)
  have d0 : Hid (W1.cell? ⟨w.heap.size, 0, none⟩ = some (.int .i64 k)) := hide (by rw [hW1]; exact set_other (by decide) c4.1)
  have d1 : Hid (W1.cell? ⟨w.heap.size, 1, none⟩ = some (.string t)) := hide (by rw [hW1]; exact set_other (by decide) c4.2.1)
  have d2 : Hid (W1.cell? ⟨w.heap.size, 2, none⟩ = some (.int .i64 c)) := hide (by rw [hW1]; exact set_other (by decide) c4.2.2.1)
  have d3 : Hid (W1.cell? ⟨w.heap.size, 3, none⟩ = some (.int .i64 0)) := hide (by rw [hW1]; exact set_same c4.2.2.2)
  rw [← hW1]
  clear hW1 c4 f4 f1
  refine (HA.out _ (hL.fr fW.out) (hE.fr fW.out)).mono ?_
  rintro e w2 ⟨f2, v, rfl, hown⟩
  obtain ⟨ar, cr, rfl⟩ := own_form hown
  have e0 := fr_cell f2 d0.out
  have e1 := fr_cell f2 d1.out
  have e2 := fr_cell f2 d2.out
  have e3 := fr_cell f2 d3.out
  have F2 := hide (fW.out.trans f2)
  have HO := hide hown
  clear d0 d1 d2 d3 f2 fW hown
  go_wp2_with fail
  by_cases hn : T.length = 1
  · match T, hn with
    | [x], _ =>
      obtain ⟨g, hag, _, hgl, hcells⟩ := own_cells HO.out (by simp)
      obtain ⟨g0, g1, g2, g3⟩ := hcells 0 x rfl
      subst hag
      simp only [Nat.mul_zero, Nat.zero_add, List.length_singleton] at *
      have HEQ := fun w => eqIn_tok w x.kind x.count x.place k c 0 (strOfNums x.text) t
      obtain ⟨xk, xt, xc, xp⟩ := x
      simp only at *
      generalize strOfNums xt = xs at *
      by_cases hq : xk = k ∧ xs = t ∧ xc = c ∧ (xp : Int) = 0
      · rw [if_pos hq] at HD
        rw [decide_eq_true hq] at HEQ
        clear hq
        go_quiet (fail)
        go_wp2_with fail
        go_ret
        exact ⟨by rw [HD.out, HSL.out]; rfl, F2.out.trans (Fr.drewN _ _)⟩
      · rw [if_neg hq] at HD
        rw [decide_eq_false hq] at HEQ
        clear hq
        go_quiet (fail)
        go_wp2_with fail
        go_ret
        exact ⟨by rw [HD.out, str_nil]; rfl, F2.out.trans (Fr.drewN _ _)⟩
  · have hd : codeL k (ints t) c = [] := by
      rw [HD.out]
      match T, hn with
      | [], _ => rfl
      | [x], hn => exact absurd rfl hn
      | _ :: _ :: _, _ => rfl
    have HD2 := hide hd
    clear hd HD
    have hb : ((T.length : Int) != 1) = true := by
      have : ¬ (T.length : Int) = 1 := by omega
      simpa using this
    go_quiet (fail)
    go_wp2_with fail
    go_ret
    exact ⟨by rw [HD2.out, str_nil]; rfl, F2.out.trans (Fr.drewN _ _)⟩
end Go.Proofs.YtaokmegoheofjaaDoor
