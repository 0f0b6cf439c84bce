/- word, between. -/
import Derived.Test.YtiemiekkjaknfaaDoorTokE
namespace Go.Proofs.YtiemiekkjaknfaaDoor
set_option linter.unusedVariables false
set_option linter.unusedSimpArgs false
open Go.RowKit
open Go (Lib.index Lib.cut)

/-- The library's variable that strings.Cut reads holds some number. -/
def MaxOk (w : World) : Prop := ∃ m, w.cell? ⟨2, 0, none⟩ = some (.int .i64 m)
theorem MaxOk.fr {w w' : World} (h : MaxOk w) (k : Fr w w') : MaxOk w' := by
  obtain ⟨m, hm⟩ := h
  exact ⟨m, fr_cell k hm⟩

theorem index_one (b : UInt8) : ∀ l : List UInt8, (Lib.index l [b] = -1 ∧ l.takeWhile (fun x => decide (x ≠ b)) = l) ∨ ∃ i : Nat, Lib.index l [b] = i ∧ l.takeWhile (fun x => decide (x ≠ b)) = l.take i ∧ i < l.length
  | [] => .inl ⟨rfl, rfl⟩
  | a :: l => by
    by_cases h : a = b
    · subst h
      exact .inr ⟨0, by simp [Lib.index, List.isPrefixOf], by simp, by simp⟩
    · have hp : [b].isPrefixOf (a :: l) = false := by simp [List.isPrefixOf]; exact fun e => h e.symm
      have hw : (a :: l).takeWhile (fun x => decide (x ≠ b)) = a :: l.takeWhile (fun x => decide (x ≠ b)) := by rw [List.takeWhile_cons, if_pos (by simpa using h)]
      rcases index_one b l with ⟨h1, h2⟩ | ⟨i, h1, h2, h3⟩
      · left
        rw [hw, h2]
        exact ⟨by simp [Lib.index, hp, h1], rfl⟩
      · right
        refine ⟨i + 1, ?_, by rw [hw, h2]; rfl, by simpa using h3⟩
        have : ((i : Int) == -1) = false := by rw [beq_eq_false_iff_ne]; omega
        simp [Lib.index, hp, h1, this]

theorem takeWhile_ints (b : UInt8) : ∀ l : List UInt8, (l.takeWhile (fun x => decide (x ≠ b))).map (fun c => (c.toNat : Int)) = (l.map (fun c => (c.toNat : Int))).takeWhile (fun x => decide (x ≠ (b.toNat : Int)))
  | [] => rfl
  | a :: l => by
    by_cases h : a = b
    · subst h; simp
    · have h' : (a.toNat : Int) ≠ (b.toNat : Int) := fun e => h (UInt8.toNat_inj.1 (by omega))
      rw [List.map_cons, List.takeWhile_cons, if_pos (by simpa using h), List.takeWhile_cons, if_pos (by simpa using h'), List.map_cons, takeWhile_ints b l]

theorem cut_told (t : ByteArray) (b : UInt8) : (⟨(Lib.cut t.data.toList [b]).1.toArray⟩ : ByteArray) = strOfNums (upto (b.toNat : Int) (ints t)) ∧ (Lib.cut t.data.toList [b]).2.2 = decide ((upto (b.toNat : Int) (ints t)).length < t.size) := by
  have e : upto (b.toNat : Int) (ints t) = (t.data.toList.takeWhile (fun x => decide (x ≠ b))).map (fun c => (c.toNat : Int)) := (takeWhile_ints b _).symm
  have hz : t.size = t.data.toList.length := Lib.size_eq t
  rcases index_one b t.data.toList with ⟨h1, h2⟩ | ⟨i, h1, h2, h3⟩
  · have hc : Lib.cut t.data.toList [b] = (t.data.toList, [], false) := by unfold Lib.cut; rw [h1, if_neg (by omega)]
    rw [hc, e, h2]
    refine ⟨str_of ?_, ?_⟩
    · simp [ints]
    · rw [List.length_map, hz]; simp
  · have hc : (Lib.cut t.data.toList [b]).1 = t.data.toList.take i ∧ (Lib.cut t.data.toList [b]).2.2 = true := by
      unfold Lib.cut; rw [h1, if_pos (by omega)]; exact ⟨by simp, rfl⟩
    rw [hc.1, hc.2, e, h2]
    refine ⟨str_of ?_, ?_⟩
    · simp [ints]
    · rw [List.length_map, List.length_take, hz]; symm; exact decide_eq_true (by omega)

end Go.Proofs.YtiemiekkjaknfaaDoor
