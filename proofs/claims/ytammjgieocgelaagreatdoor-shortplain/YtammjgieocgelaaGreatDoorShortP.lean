/- Layer 10: plain maths of Plain and of Trim, and of the search for the fewest digits. -/
import Derived.Test.YtammjgieocgelaaGreatDoorRoundY
import Derived.Test.YtammjgieocgelaaGreatDoorRoundO
import Derived.Test.YtammjgieocgelaaGreatDoorShortC
import Derived.Lib.TrimByte
namespace Go.Proofs.YtammjgieocgelaaGreatDoor
set_option linter.unusedVariables false
set_option linter.unusedSimpArgs false
open Go.Lib (decDigits trimRightB)

theorem trim_snoc (l : List UInt8) (c : UInt8) : trimRightB (l ++ [c]) c = trimRightB l c := by simp [trimRightB]
theorem trim_other (l : List UInt8) {b c : UInt8} (h : b ≠ c) : trimRightB (l ++ [b]) c = l ++ [b] := by
  have e : (b == c) = false := beq_false_of_ne h
  simp [trimRightB, List.dropWhile_cons, e]
theorem trim_down {l : List UInt8} {k : Nat} (h : l[k]? = some 48) : trimRightB (l.take (k + 1)) 48 = trimRightB (l.take k) 48 := by
  rw [take_snoc h, trim_snoc]
theorem trim_stop {l : List UInt8} {k : Nat} {b : UInt8} (h : l[k]? = some b) (hb : b ≠ 48) : trimRightB (l.take (k + 1)) 48 = l.take (k + 1) := by
  rw [take_snoc h, trim_other _ hb]
theorem trim_size (l : List UInt8) : (trimRightB l 48).length ≤ l.length := trimRight_le l
/-- Plain: the whole part, and the part behind the point. -/
def wholeP (l : List UInt8) (e : Int) : List UInt8 := if e < 0 then [48] else l.take (e.toNat + 1) ++ List.replicate (e.toNat + 1 - l.length) 48
def partP (l : List UInt8) (e : Int) : List UInt8 := if e < 0 then List.replicate (-1 - e).toNat 48 ++ l else l.drop (e.toNat + 1)
def plainP (l : List UInt8) (e : Int) : List UInt8 := if trimRightB (partP l e) 48 = [] then wholeP l e else wholeP l e ++ 46 :: trimRightB (partP l e) 48
theorem text_plain (l : List UInt8) (e : Int) (hl : l ≠ []) :
    (List.replicate (-e).toNat (48 : UInt8) ++ l ++ List.replicate (e - ((l.length : Int) - 1)).toNat 48).take ((max e 0).toNat + 1) = wholeP l e ∧
    (List.replicate (-e).toNat (48 : UInt8) ++ l ++ List.replicate (e - ((l.length : Int) - 1)).toNat 48).drop ((max e 0).toNat + 1) = partP l e := by
  have hp : 0 < l.length := List.length_pos_iff.2 hl
  unfold wholeP partP
  by_cases c : e < 0
  · rw [if_pos c, if_pos c, show (max e 0).toNat = 0 by omega, show (e - ((l.length : Int) - 1)).toNat = 0 by omega, show (-e).toNat = (-1 - e).toNat + 1 by omega, List.replicate_succ]
    simp
  · rw [if_neg c, if_neg c, show (max e 0).toNat = e.toNat by omega, show (-e).toNat = 0 by omega, show (e - ((l.length : Int) - 1)).toNat = e.toNat + 1 - l.length by omega]
    constructor
    · rw [List.replicate_zero, List.nil_append, List.take_append, List.take_of_length_le (l := List.replicate _ _) (by simp)]
    · have h0 : (List.replicate (e.toNat + 1 - l.length) (48 : UInt8)).drop (e.toNat + 1 - l.length) = [] := List.drop_eq_nil_of_le (by simp)
      rw [List.replicate_zero, List.nil_append, List.drop_append, h0, List.append_nil]
theorem whole_size (l : List UInt8) (e : Int) (h : e ≤ 5000) : (wholeP l e).length ≤ 5001 := by
  unfold wholeP
  split
  · simp
  · rw [List.length_append, List.length_take, List.length_replicate]
    omega
theorem part_size (l : List UInt8) (e : Int) (h : -5000 ≤ e) : (partP l e).length ≤ 5000 + l.length := by
  unfold partP
  split
  · rw [List.length_append, List.length_replicate]
    omega
  · rw [List.length_drop]
    omega
/-- The fewest, up to 16; else 17. -/
theorem least_ex (f : Nat → Bool) : ∃ c, 1 ≤ c ∧ c ≤ 17 ∧ (∀ j, 1 ≤ j → j < c → f j = false) ∧ (c < 17 → f c = true) := by
  have key : ∀ k, k ≤ 16 → (∃ c, 1 ≤ c ∧ c ≤ k ∧ (∀ j, 1 ≤ j → j < c → f j = false) ∧ f c = true) ∨ (∀ j, 1 ≤ j → j ≤ k → f j = false) := by
    intro k
    induction k with
    | zero => intro _; exact .inr (fun j h1 h2 => by omega)
    | succ k ih =>
      intro hk
      rcases ih (by omega) with ⟨c, h1, h2, h3, h4⟩ | h
      · exact .inl ⟨c, h1, by omega, h3, h4⟩
      · cases hf : f (k + 1) with
        | true => exact .inl ⟨k + 1, by omega, by omega, fun j h1 h2 => h j h1 (by omega), hf⟩
        | false =>
          refine .inr (fun j h1 h2 => ?_)
          rcases Nat.lt_or_ge j (k + 1) with c | c
          · exact h j h1 (by omega)
          · rw [show j = k + 1 by omega]; exact hf
  rcases key 16 (by omega) with ⟨c, h1, h2, h3, h4⟩ | h
  · exact ⟨c, h1, by omega, h3, fun _ => h4⟩
  · exact ⟨17, by omega, by omega, fun j h1 h2 => h j h1 (by omega), fun h => by omega⟩
/-- A quotient's whole number with c digits; the bits nearest to a Sci; whether they are B. -/
def sciR (n d : Nat) (E : Int) (c : Nat) : Nat := rndN (n * 10 ^ (-(E - c + 1)).toNat) (d * 10 ^ (E - c + 1).toNat)
def backN (l : List UInt8) (e : Int) : Nat := nearN (valD l * 10 ^ (e - ((l.length : Int) - 1)).toNat) (10 ^ (-(e - ((l.length : Int) - 1))).toNat)
def toldB (n d : Nat) (E : Int) (B c : Nat) : Bool := decide (backN (sciD c (sciR n d E c)) (sciE c (sciR n d E c) E) = B)
theorem sciR_facts {n d c : Nat} {E : Int} (hc : 1 ≤ c) (hd : d ≠ 0) (h : IsExp n d E) : (sciD c (sciR n d E c)).length = c ∧ AllD (sciD c (sciR n d E c)) ∧ (sciD c (sciR n d E c)).head? ≠ some 48 ∧ (E ≤ sciE c (sciR n d E c) E ∧ sciE c (sciR n d E c) E ≤ E + 1) := by
  obtain ⟨r1, r2⟩ := to_range hc hd h
  obtain ⟨a, b, c, d, _⟩ := sci_facts (E := E) hc r1 r2
  exact ⟨a, b, c, d⟩
theorem told_iff {n d c b T : Nat} {E : Int} (hT : 2 ^ 1074 = T) (hc : 1 ≤ c) (hd : d ≠ 0) (h : IsExp n d E) (hb : b + 1 < 9218868437227405312) :
    toldB n d E (b + 1) c = true ↔ nearN (sciR n d E c * 10 ^ (E - c + 1).toNat) (10 ^ (-(E - c + 1)).toNat) = b + 1 := by
  obtain ⟨r1, r2⟩ := to_range hc hd h
  obtain ⟨a, _, _, _, e⟩ := sci_facts (E := E) hc r1 r2
  unfold toldB backN
  rw [decide_eq_true_iff]
  show nearN (valD (sciD c (sciR n d E c)) * _) _ = b + 1 ↔ _
  have e' : valD (sciD c (sciR n d E c)) * 10 ^ (sciE c (sciR n d E c) E - c + 1).toNat * 10 ^ (-(E - c + 1)).toNat = sciR n d E c * 10 ^ (E - c + 1).toNat * 10 ^ (-(sciE c (sciR n d E c) E - c + 1)).toNat := e
  have a' : (sciD c (sciR n d E c)).length = c := a
  rw [a', show sciE c (sciR n d E c) E - ((c : Int) - 1) = sciE c (sciR n d E c) E - c + 1 by omega]
  exact near_same_iff hT (Nat.pow_pos (by omega)) (Nat.pow_pos (by omega)) hb e'
/-- Seventeen digits tell every value. -/
theorem told_17 {n d b T : Nat} {E : Int} (hT : 2 ^ 1074 = T) (hT0 : 0 < T) (hd : d ≠ 0) (h : IsExp n d E) (hb : b + 1 < 9218868437227405312) (hv : n * T = bV (b + 1) * d) : toldB n d E (b + 1) 17 = true := by
  rw [told_iff hT (by omega) hd h hb]
  exact seventeen hT hT0 hd hb hv h (j := E - (17 : Nat) + 1) (by omega) _ rfl
/-- A nought at the end: one digit less tells as much. -/
theorem told_less {n d c b T : Nat} {E : Int} (hT : 2 ^ 1074 = T) (hc : 1 ≤ c) (hd : d ≠ 0) (h : IsExp n d E) (hb : b + 1 < 9218868437227405312) (ht : toldB n d E (b + 1) (c + 1) = true) (l : List UInt8) (hl : sciD (c + 1) (sciR n d E (c + 1)) = l ++ [48]) : toldB n d E (b + 1) c = true := by
  rw [told_iff hT (by omega) hd h hb] at ht
  rw [told_iff hT (by omega) hd h hb]
  obtain ⟨r1, r2⟩ := to_range (c := c + 1) (by omega) hd h
  have h10 : ∃ q, sciR n d E (c + 1) = q * 10 := by
    rcases Nat.lt_or_ge (sciR n d E (c + 1)) (10 ^ (c + 1)) with k | k
    · have hlen : (decDigits (sciR n d E (c + 1))).length = c + 1 := dec_len r1 k
      have e1 : sciD (c + 1) (sciR n d E (c + 1)) = decDigits (sciR n d E (c + 1)) := List.take_of_length_le (by omega)
      have hv := dec_val (sciR n d E (c + 1))
      rw [← e1, hl, valD_snoc] at hv
      exact ⟨valD l, by rw [← hv]; rfl⟩
    · have : sciR n d E (c + 1) = 10 ^ (c + 1) := Nat.le_antisymm r2 k
      exact ⟨10 ^ c, by rw [this, Nat.pow_succ]⟩
  obtain ⟨q, hq⟩ := h10
  obtain ⟨e1, e2⟩ := less_same (j := E - (c + 1 : Nat) + 1) hd (R := sciR n d E (c + 1)) rfl hq
  have ej : E - ((c + 1 : Nat) : Int) + 1 + 1 = E - c + 1 := by omega
  rw [ej] at e1 e2
  have e3 : sciR n d E c = q := e1
  rw [e3]
  exact (near_same_iff hT (Nat.pow_pos (by omega)) (Nat.pow_pos (by omega)) hb e2).1 ht
end Go.Proofs.YtammjgieocgelaaGreatDoor
