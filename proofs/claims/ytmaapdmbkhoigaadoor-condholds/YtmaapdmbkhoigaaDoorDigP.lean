/- Decimals: plain maths. -/
import Derived.Lib.ItoaNum
import Derived.Lib.TrimByte
import Derived.Lib.Repeat
namespace Go.Proofs.YtmaapdmbkhoigaaDoor
open Go.Lib

/-- The number of digits. -/
def valD (l : List UInt8) : Nat := l.foldl (fun n b => n * 10 + (b.toNat - 48)) 0
/-- All are digits. -/
def AllD (l : List UInt8) : Prop := ∀ b ∈ l, 48 ≤ b.toNat ∧ b.toNat ≤ 57

theorem decDigits_ten {u : Nat} (h : ¬ u < 10) : decDigits u = decDigits (u / 10) ++ [UInt8.ofNat (48 + u % 10)] := by rw [decDigits, dif_neg h]
theorem snocRec {p : List UInt8 → Prop} (h0 : p []) (h1 : ∀ l b, p l → p (l ++ [b])) (l : List UInt8) : p l := by
  have : ∀ m : List UInt8, p m.reverse := by
    intro m
    induction m with
    | nil => exact h0
    | cons b m ih => rw [List.reverse_cons]; exact h1 _ _ ih
  have := this l.reverse
  rwa [List.reverse_reverse] at this
theorem valD_nil : valD [] = 0 := rfl
theorem valD_snoc (l : List UInt8) (b : UInt8) : valD (l ++ [b]) = valD l * 10 + (b.toNat - 48) := by unfold valD; rw [List.foldl_append]; rfl
theorem valD_append (l m : List UInt8) : valD (l ++ m) = valD l * 10 ^ m.length + valD m := by
  refine snocRec (p := fun m => valD (l ++ m) = valD l * 10 ^ m.length + valD m) (by simp [valD_nil]) ?_ m
  intro m b ih
  rw [← List.append_assoc, valD_snoc, ih, valD_snoc, List.length_append, List.length_singleton, Nat.pow_succ, Nat.add_mul, Nat.mul_assoc]
  omega
theorem allD_append {l m : List UInt8} : AllD (l ++ m) ↔ AllD l ∧ AllD m := by
  unfold AllD
  constructor
  · intro h
    exact ⟨fun b hb => h b (List.mem_append.2 (.inl hb)), fun b hb => h b (List.mem_append.2 (.inr hb))⟩
  · intro h b hb
    rcases List.mem_append.1 hb with q | q
    · exact h.1 b q
    · exact h.2 b q
theorem allD_nil : AllD [] := fun b hb => by cases hb
theorem valD_lt : ∀ l, AllD l → valD l < 10 ^ l.length := by
  refine snocRec (by simp [valD_nil]) ?_
  intro l b ih h
  rw [allD_append] at h
  have h1 := ih h.1
  have h2 := h.2 b (by simp)
  rw [valD_snoc, List.length_append, List.length_singleton, Nat.pow_succ]
  omega
theorem valD_zeros (n : Nat) : valD (List.replicate n 48) = 0 := by
  induction n with
  | zero => rfl
  | succ n ih => rw [List.replicate_succ', valD_snoc, ih]; rfl
theorem valD_pad (n : Nat) (l : List UInt8) : valD (List.replicate n 48 ++ l) = valD l := by rw [valD_append, valD_zeros, Nat.zero_mul, Nat.zero_add]
theorem allD_zeros (n : Nat) : AllD (List.replicate n 48) := fun b hb => by
  rw [(List.mem_replicate.1 hb).2]; decide
theorem trimLeft_form (l : List UInt8) : ∃ n, l = List.replicate n 48 ++ trimLeftB l 48 := by
  unfold trimLeftB
  induction l with
  | nil => exact ⟨0, rfl⟩
  | cons b l ih =>
    by_cases hb : b = 48
    · subst hb
      obtain ⟨n, hn⟩ := ih
      refine ⟨n + 1, ?_⟩
      rw [List.dropWhile_cons_of_pos (by decide), List.replicate_succ, List.cons_append, ← hn]
    · refine ⟨0, ?_⟩
      rw [List.dropWhile_cons_of_neg (by simpa using hb)]
      rfl
theorem trimLeft_val (l : List UInt8) : valD (trimLeftB l 48) = valD l := by
  obtain ⟨n, hn⟩ := trimLeft_form l
  conv => rhs; rw [hn]
  rw [valD_pad]
theorem trimLeft_all {l : List UInt8} (h : AllD l) : AllD (trimLeftB l 48) := by
  obtain ⟨n, hn⟩ := trimLeft_form l
  rw [hn, allD_append] at h
  exact h.2
theorem trimLeft_len (l : List UInt8) : (trimLeftB l 48).length ≤ l.length := by
  obtain ⟨n, hn⟩ := trimLeft_form l
  have := congrArg List.length hn
  rw [List.length_append] at this
  omega
theorem byte_of {d : Nat} (h : d < 10) : (UInt8.ofNat (48 + d)).toNat = 48 + d := by
  rw [UInt8.toNat_ofNat']
  omega
theorem dec_all (x : Nat) : AllD (decDigits x) := by
  induction x using Nat.strongRecOn with
  | ind x ih =>
    by_cases hx : x < 10
    · rw [decDigits_one hx]
      intro b hb
      rw [List.mem_singleton.1 hb, byte_of hx]
      omega
    · rw [decDigits_ten hx, allD_append]
      refine ⟨ih _ (by omega), ?_⟩
      intro b hb
      rw [List.mem_singleton.1 hb, byte_of (by omega)]
      omega
theorem dec_ne (x : Nat) : decDigits x ≠ [] := by
  intro h
  have := congrArg List.length h
  rw [decDigits_length] at this
  have := nDigits_pos x
  simp at *
  omega
theorem head_app {l m : List UInt8} (h : l ≠ []) : (l ++ m).head? = l.head? := by
  cases l with
  | nil => exact absurd rfl h
  | cons a l => rfl
/-- The first digit is a nought just of 0. -/
theorem dec_head (x : Nat) : (decDigits x).head? = some 48 ↔ x = 0 := by
  induction x using Nat.strongRecOn with
  | ind x ih =>
    by_cases hx : x < 10
    · rw [decDigits_one hx]
      simp only [List.head?_cons, Option.some.injEq]
      constructor
      · intro h
        have := congrArg UInt8.toNat h
        rw [byte_of hx] at this
        have e : (48 : UInt8).toNat = 48 := rfl
        omega
      · rintro rfl; rfl
    · have hne := dec_ne (x / 10)
      rw [decDigits_ten hx, head_app hne, ih _ (by omega)]
      omega
theorem trimRight_snoc (l : List UInt8) : trimRightB (l ++ [48]) 48 = trimRightB l 48 := by
  unfold trimRightB
  rw [List.reverse_append]
  rfl
theorem trimRight_twice (l : List UInt8) : trimRightB (trimRightB l 48) 48 = trimRightB l 48 := by
  unfold trimRightB
  rw [List.reverse_reverse]
  congr 1
  generalize l.reverse = m
  induction m with
  | nil => rfl
  | cons b m ih =>
    by_cases hb : b = 48
    · subst hb
      rw [List.dropWhile_cons_of_pos (by decide)]
      exact ih
    · rw [List.dropWhile_cons_of_neg (by simpa using hb), List.dropWhile_cons_of_neg (by simpa using hb)]
theorem trimRight_le (l : List UInt8) : (trimRightB l 48).length ≤ l.length := by
  unfold trimRightB
  rw [List.length_reverse]
  have : ∀ m : List UInt8, (m.dropWhile (· == 48)).length ≤ m.length := by
    intro m
    induction m with
    | nil => simp
    | cons b m ih =>
      by_cases hb : b = 48
      · subst hb
        rw [List.dropWhile_cons_of_pos (by decide), List.length_cons]
        omega
      · rw [List.dropWhile_cons_of_neg (by simpa using hb)]
        exact Nat.le_refl _
  have := this l.reverse
  rwa [List.length_reverse] at this
end Go.Proofs.YtmaapdmbkhoigaaDoor
