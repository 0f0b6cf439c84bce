/- Plain mathematics of layer 12: names, units, money; no program. -/
import Derived.Test.YtiemiekkjaknfaaDoorTokP
namespace Go.Proofs.YtiemiekkjaknfaaDoor
set_option linter.unusedVariables false
set_option linter.unusedSimpArgs false

def low (l : List Int) : List Int := l.map lowB
def upB (b : Int) : Int := if 97 ≤ b ∧ b ≤ 122 then b - 32 else b
def dec2 (k : Nat) : List Int := if k < 10 then [48 + (k : Int)] else [48 + ((k / 10 : Nat) : Int), 48 + ((k % 10 : Nat) : Int)]
def nameL (n : Nat) : List Int :=
  if n = 1 then [66, 108, 97, 99, 107] else if n = 2 then [66, 108, 117, 101] else if n = 3 then [67, 121, 97, 110] else if n = 4 then [71, 114, 101, 101, 110]
  else if n = 5 then [77, 97, 103, 101, 110, 116, 97] else if n = 6 then [82, 101, 100] else if n = 7 then [87, 104, 105, 116, 101] else if n = 8 then [89, 101, 108, 108, 111, 119]
  else if 9 ≤ n ∧ n ≤ 64 then [67, 111, 108, 111, 114] ++ dec2 (n - 8) else []
def nameI (n : Int) : List Int := if 1 ≤ n ∧ n ≤ 64 then nameL n.toNat else []
theorem nameI_nat (k : Nat) (h0 : 1 ≤ k) (h1 : k ≤ 64) : nameI (k : Int) = nameL k := by unfold nameI; rw [if_pos (by omega)]; rfl

def hitB (l : List Int) (n : Nat) : Bool := decide (low l = low (nameL n))
def numFrom (l : List Int) : Nat → Nat → Int × Bool
  | 0, _ => (0, false)
  | f + 1, n => if hitB l n = true then ((n : Int), true) else numFrom l f (n + 1)
def numN (l : List Int) : Int × Bool := numFrom l 64 1
theorem numFrom_hit (l : List Int) (f n : Nat) (h : low l = low (nameL n)) : numFrom l (f + 1) n = ((n : Int), true) := by
  unfold numFrom; rw [if_pos (show hitB l n = true from decide_eq_true h)]
theorem numFrom_miss (l : List Int) (f n : Nat) (h : ¬ low l = low (nameL n)) : numFrom l (f + 1) n = numFrom l f (n + 1) := by
  rw [numFrom, if_neg]; unfold hitB; simpa using h
theorem numFrom_told (l : List Int) : ∀ f n, (numFrom l f n).2 = true → ∃ k, n ≤ k ∧ k < n + f ∧ low l = low (nameL k) ∧ (numFrom l f n).1 = k
  | 0, n, h => by simp [numFrom] at h
  | f + 1, n, h => by
    by_cases hk : low l = low (nameL n)
    · rw [numFrom_hit l f n hk]; exact ⟨n, by omega, by omega, hk, rfl⟩
    · rw [numFrom_miss l f n hk] at h ⊢
      obtain ⟨k, h1, h2, h3, h4⟩ := numFrom_told l f (n + 1) h
      exact ⟨k, by omega, by omega, h3, h4⟩
theorem numN_told (l : List Int) (h : (numN l).2 = true) : ∃ k, 1 ≤ k ∧ k ≤ 64 ∧ low l = low (nameL k) ∧ (numN l).1 = k := by
  obtain ⟨k, h1, h2, h3, h4⟩ := numFrom_told l 64 1 h
  exact ⟨k, h1, by omega, h3, h4⟩
theorem num_upper : ∀ k : Fin 64, numN ((nameL (k + 1)).map upB) = (((k : Nat) : Int) + 1, true) := by decide +kernel
theorem num_up (n : Int) (h0 : 1 ≤ n) (h1 : n ≤ 64) : numN ((nameI n).map upB) = (n, true) := by
  have h := num_upper ⟨n.toNat - 1, by omega⟩
  simp only at h
  rw [show n.toNat - 1 + 1 = n.toNat by omega, show (((n.toNat - 1 : Nat) : Int) + 1) = n by omega] at h
  unfold nameI
  rw [if_pos ⟨h0, h1⟩]
  exact h
theorem names_apart : ∀ i j : Fin 64, nameL (i + 1) = nameL (j + 1) → i = j := by decide +kernel
theorem name_ne (a b : Int) (a0 : 1 ≤ a) (a1 : a ≤ 64) (b0 : 1 ≤ b) (b1 : b ≤ 64) (h : nameI a = nameI b) : a = b := by
  unfold nameI at h
  rw [if_pos ⟨a0, a1⟩, if_pos ⟨b0, b1⟩] at h
  have k := names_apart ⟨a.toNat - 1, by omega⟩ ⟨b.toNat - 1, by omega⟩ (by
    simp only
    rw [show a.toNat - 1 + 1 = a.toNat by omega, show b.toNat - 1 + 1 = b.toNat by omega]; exact h)
  have := congrArg Fin.val k
  simp only at this
  omega
theorem nameL_facts : ∀ k : Fin 64, (nameL (k + 1)).length ≤ 7 ∧ 0 < (nameL (k + 1)).length ∧ ∀ x ∈ nameL (k + 1), 0 ≤ x ∧ x ≤ 127 := by decide +kernel
theorem nameI_facts (n : Int) : (nameI n).length ≤ 7 ∧ ((1 ≤ n ∧ n ≤ 64) → 0 < (nameI n).length) ∧ ∀ x ∈ nameI n, 0 ≤ x ∧ x ≤ 127 := by
  by_cases h : 1 ≤ n ∧ n ≤ 64
  · have k := nameL_facts ⟨n.toNat - 1, by omega⟩
    simp only at k
    rw [show n.toNat - 1 + 1 = n.toNat by omega] at k
    unfold nameI
    rw [if_pos h]
    exact ⟨k.1, fun _ => k.2.1, k.2.2⟩
  · unfold nameI
    rw [if_neg h]
    exact ⟨by simp, fun k => absurd k h, by simp⟩

/-! ### units -/
def elN (l : List Int) : List Int × Int × Bool :=
  if l.length < 1 ∨ 9 < l.length then ([], 0, false)
  else if low l = List.replicate l.length 104 then ([104], l.length, true)
  else if low l = List.replicate l.length 109 then ([109], l.length, true)
  else if low l = List.replicate l.length 115 then ([115], l.length, true)
  else ([], 0, false)
theorem low_rep (n : Nat) (c : Int) (h : 97 ≤ c) : low (List.replicate n c) = List.replicate n c := by
  unfold low; rw [List.map_replicate]; unfold lowB; rw [if_neg (by omega)]
theorem rep_inj (n : Nat) (a b : Int) (h : 0 < n) (e : List.replicate n a = List.replicate n b) : a = b := by
  cases n with
  | zero => omega
  | succ n => simp [List.replicate_succ] at e; exact e.1
theorem el_out (l : List Int) (h : l.length < 1 ∨ 9 < l.length) : elN l = ([], 0, false) := by unfold elN; rw [if_pos h]
theorem el_yes (l : List Int) (c : Int) (h0 : 1 ≤ l.length) (h9 : l.length ≤ 9) (hc : c = 104 ∨ c = 109 ∨ c = 115) (h : low l = List.replicate l.length c) : elN l = ([c], (l.length : Int), true) := by
  unfold elN
  rw [if_neg (by omega), h]
  have k := fun a b => rep_inj l.length a b (by omega)
  rcases hc with rfl | rfl | rfl
  · rw [if_pos rfl]
  · rw [if_neg (fun e => by have := k _ _ e; omega), if_pos rfl]
  · rw [if_neg (fun e => by have := k _ _ e; omega), if_neg (fun e => by have := k _ _ e; omega), if_pos rfl]
theorem el_no (l : List Int) (h : ∀ c, c = 104 ∨ c = 109 ∨ c = 115 → low l ≠ List.replicate l.length c) : elN l = ([], 0, false) := by
  unfold elN
  split
  · rfl
  · rw [if_neg (h 104 (by simp)), if_neg (h 109 (by simp)), if_neg (h 115 (by simp))]
theorem el_told (l : List Int) (h : (elN l).2.2 = true) : 1 ≤ l.length ∧ l.length ≤ 9 ∧ ∃ c, (c = 104 ∨ c = 109 ∨ c = 115) ∧ low l = List.replicate l.length c := by
  unfold elN at h
  split at h
  · simp at h
  · refine ⟨by omega, by omega, ?_⟩
    split at h
    · exact ⟨104, by simp, by assumption⟩
    · split at h
      · exact ⟨109, by simp, by assumption⟩
      · split at h
        · exact ⟨115, by simp, by assumption⟩
        · simp at h

/-! ### money -/
def hexV (c : Int) : Int := if 48 ≤ c ∧ c ≤ 57 then c - 48 else if 97 ≤ c ∧ c ≤ 102 then c - 87 else if 65 ≤ c ∧ c ≤ 70 then c - 55 else -1
def hexAll (l : List Int) : Prop := ∀ c ∈ l, 0 ≤ hexV c
def hexN (l : List Int) : Int := l.foldl (fun n c => 16 * n + hexV c) 0
def langB (l : List Int) : Bool := decide (1 ≤ l.length ∧ l.length ≤ 8 ∧ ∀ c ∈ l, 0 ≤ hexV c)
def moN : List Int → List Int × Int × Bool
  | [] => ([], 0, false)
  | b :: r =>
    if b = 36 then
      (if (upto 45 r).length < r.length then (if langB (r.drop ((upto 45 r).length + 1)) = true then (upto 45 r, hexN (r.drop ((upto 45 r).length + 1)), true) else ([], 0, false)) else (r, 0, true))
    else ([], 0, false)
theorem mo_out (b : Int) (r : List Int) (h : b ≠ 36) : moN (b :: r) = ([], 0, false) := by simp [moN, h]
theorem mo_bare (r : List Int) (h : ¬ (upto 45 r).length < r.length) : moN (36 :: r) = (r, 0, true) := by simp only [moN, if_true, if_neg h]
theorem mo_yes (r : List Int) (h : (upto 45 r).length < r.length) (hl : langB (r.drop ((upto 45 r).length + 1)) = true) : moN (36 :: r) = (upto 45 r, hexN (r.drop ((upto 45 r).length + 1)), true) := by
  simp only [moN, if_true, if_pos h, if_pos hl]
theorem mo_no (r : List Int) (h : (upto 45 r).length < r.length) (hl : langB (r.drop ((upto 45 r).length + 1)) = false) : moN (36 :: r) = ([], 0, false) := by
  simp only [moN, if_true, if_pos h, hl, Bool.false_eq_true, if_false]
theorem mo_told (l : List Int) (h : (moN l).2.2 = true) : ∃ r, l = 36 :: r := by
  cases l with
  | nil => simp [moN] at h
  | cons b r =>
    by_cases hb : b = 36
    · exact ⟨r, by rw [hb]⟩
    · rw [mo_out b r hb] at h; simp at h

theorem hexV_range (c : Int) (h : 0 ≤ hexV c) : hexV c ≤ 15 := by unfold hexV at *; (repeat' split at h) <;> (repeat' split) <;> omega
theorem hexN_snoc (l : List Int) (c : Int) : hexN (l ++ [c]) = 16 * hexN l + hexV c := by unfold hexN; rw [List.foldl_append]; rfl
theorem hexAll_snoc (l : List Int) (c : Int) : hexAll (l ++ [c]) ↔ hexAll l ∧ 0 ≤ hexV c := by
  unfold hexAll
  simp only [List.mem_append, List.mem_singleton]
  constructor
  · intro h; exact ⟨fun x hx => h x (Or.inl hx), h c (Or.inr rfl)⟩
  · rintro ⟨h1, h2⟩ x (hx | rfl)
    · exact h1 x hx
    · exact h2
theorem hexN_bd : ∀ (n : Nat) (l : List Int), l.length = n → hexAll l → 0 ≤ hexN l ∧ hexN l < 16 ^ n
  | 0, l, h, _ => by
    obtain rfl : l = [] := List.length_eq_zero_iff.1 h
    simp [hexN]
  | n + 1, l, h, ha => by
    obtain ⟨u, c, rfl⟩ : ∃ u c, l = u ++ [c] := ⟨l.dropLast, l.getLast (by intro e; rw [e] at h; simp at h), (List.dropLast_concat_getLast _).symm⟩
    rw [List.length_append] at h
    obtain ⟨h1, h2⟩ := (hexAll_snoc u c).1 ha
    obtain ⟨i1, i2⟩ := hexN_bd n u (by simpa using h) h1
    have := hexV_range c h2
    rw [hexN_snoc, Int.pow_succ]
    generalize (16 : Int) ^ n = P at *
    omega
theorem hexN_le (l : List Int) (n : Nat) (hl : l.length ≤ n) (hn : n ≤ 8) (ha : hexAll l) : 0 ≤ hexN l ∧ (hexN l < 4294967296) ∧ (n ≤ 7 → hexN l < 268435456) := by
  obtain ⟨h1, h2⟩ := hexN_bd l.length l rfl ha
  have h8 : l.length = 0 ∨ l.length = 1 ∨ l.length = 2 ∨ l.length = 3 ∨ l.length = 4 ∨ l.length = 5 ∨ l.length = 6 ∨ l.length = 7 ∨ l.length = 8 := by omega
  refine ⟨h1, ?_, ?_⟩
  · rcases h8 with e | e | e | e | e | e | e | e | e <;> rw [e] at h2 <;> simp at h2 <;> omega
  · intro h7
    rcases h8 with e | e | e | e | e | e | e | e | e <;> rw [e] at h2 <;> simp at h2 <;> omega

/-! ### the number's digits -/
def hexd (d : Nat) : Int := if d < 10 then 48 + (d : Int) else 87 + (d : Int)
def hexF : Nat → Nat → List Int
  | 0, u => [hexd (u % 16)]
  | k + 1, u => if u < 16 then [hexd u] else hexF k (u / 16) ++ [hexd (u % 16)]
theorem hexF_one : ∀ (k u : Nat), u < 16 → hexF k u = [hexd u]
  | 0, u, h => by rw [hexF, Nat.mod_eq_of_lt h]
  | k + 1, u, h => by rw [hexF, if_pos h]
theorem hexF_ext : ∀ (k j u : Nat), u ≤ k → u ≤ j → hexF k u = hexF j u
  | 0, j, u, h, _ => by rw [hexF_one 0 u (by omega), hexF_one j u (by omega)]
  | k + 1, 0, u, _, h => by rw [hexF_one (k + 1) u (by omega), hexF_one 0 u (by omega)]
  | k + 1, j + 1, u, h1, h2 => by
    by_cases h : u < 16
    · rw [hexF_one _ u h, hexF_one _ u h]
    · rw [hexF, if_neg h, hexF, if_neg h, hexF_ext k j (u / 16) (by omega) (by omega)]
def hexL (u : Nat) : List Int := hexF u u
theorem hexL_one (u : Nat) (h : u < 16) : hexL u = [hexd u] := hexF_one u u h
theorem hexL_more (u : Nat) (h : ¬ u < 16) : hexL u = hexL (u / 16) ++ [hexd (u % 16)] := by
  obtain ⟨k, rfl⟩ : ∃ k, u = k + 1 := ⟨u - 1, by omega⟩
  unfold hexL
  rw [hexF, if_neg h, hexF_ext k ((k + 1) / 16) ((k + 1) / 16) (by omega) (by omega)]
theorem hexd_up : ∀ d : Fin 16, hexV (upB (hexd d)) = ((d : Nat) : Int) ∧ 48 ≤ hexd d ∧ hexd d ≤ 102 ∧ upB (hexd d) ≠ 45 := by decide +kernel
theorem hexd_facts (d : Nat) (h : d < 16) : hexV (upB (hexd d)) = (d : Int) ∧ 48 ≤ hexd d ∧ hexd d ≤ 102 ∧ upB (hexd d) ≠ 45 := hexd_up ⟨d, h⟩
theorem hexL_facts : ∀ (k u : Nat), u < 16 ^ (k + 1) → (hexL u).length ≤ k + 1 ∧ 1 ≤ (hexL u).length ∧ hexAll ((hexL u).map upB) ∧ hexN ((hexL u).map upB) = (u : Int) ∧ (∀ x ∈ hexL u, 48 ≤ x ∧ x ≤ 102)
  | k, u, h => by
    by_cases h16 : u < 16
    · rw [hexL_one u h16]
      have := hexd_facts u h16
      refine ⟨by simp, by simp, ?_, ?_, ?_⟩
      · intro c hc
        simp at hc
        subst hc
        omega
      · simp [hexN]; exact this.1
      · intro x hx
        simp at hx
        subst hx
        omega
    · rw [hexL_more u h16]
      cases k with
      | zero => simp at h; omega
      | succ k =>
        obtain ⟨i1, i2, i3, i4, i5⟩ := hexL_facts k (u / 16) (by rw [Nat.pow_succ] at h; exact Nat.div_lt_of_lt_mul (by rw [Nat.mul_comm]; exact h))
        have := hexd_facts (u % 16) (by omega)
        refine ⟨by simp; omega, by simp, ?_, ?_, ?_⟩
        · rw [List.map_append, List.map_singleton]
          exact (hexAll_snoc _ _).2 ⟨i3, by omega⟩
        · rw [List.map_append, List.map_singleton, hexN_snoc, i4, this.1]
          omega
        · intro x hx
          rw [List.mem_append] at hx
          rcases hx with hx | hx
          · exact i5 x hx
          · simp at hx; subst hx; omega

def waN (l : List Int) (u : Nat) : List Int × Bool := if 45 ∈ l then ([], false) else (if u = 0 then 36 :: l else 36 :: (l ++ 45 :: (hexL u).map upB), true)
theorem back_plain (l : List Int) (u : Nat) (hl : 45 ∉ l) (hu : u < 4294967296) : moN (waN l u).1 = (l, (u : Int), true) := by
  have hne : ∀ b ∈ l, b ≠ 45 := fun b hb e => hl (e ▸ hb)
  unfold waN
  rw [if_neg hl]
  by_cases h0 : u = 0
  · subst h0
    simp only [if_true]
    rw [mo_bare l (by rw [upto_all 45 l hne]; omega)]
    rfl
  · simp only [if_neg h0]
    have hup := upto_app 45 l ((hexL u).map upB) hne
    obtain ⟨i1, i2, i3, i4, i5⟩ := hexL_facts 7 u (by have h8 : (16 : Nat) ^ (7 + 1) = 4294967296 := (by decide); rw [h8]; exact hu)
    have hd : (l ++ 45 :: (hexL u).map upB).drop (l.length + 1) = (hexL u).map upB := by
      rw [← List.drop_drop, List.drop_left]; rfl
    rw [mo_yes _ (by rw [hup, List.length_append, List.length_cons]; omega) (by rw [hup, hd]; exact decide_eq_true ⟨by rw [List.length_map]; exact i2, by rw [List.length_map]; exact i1, i3⟩), hup, hd, i4]

/-! ### apart -/
theorem name_low : ∀ k : Fin 64, ∀ n : Fin 10, (low (nameL (k + 1)) ≠ List.replicate n 104 ∨ (n : Nat) = 0) ∧ (low (nameL (k + 1)) ≠ List.replicate n 109 ∨ (n : Nat) = 0) ∧ (low (nameL (k + 1)) ≠ List.replicate n 115 ∨ (n : Nat) = 0) ∧ (low (nameL (k + 1))).head? ≠ some 36 := by decide +kernel
theorem apart_ab (l : List Int) (ha : (numN l).2 = true) (hb : (elN l).2.2 = true) : False := by
  obtain ⟨k, k0, k1, hk, _⟩ := numN_told l ha
  obtain ⟨h0, h9, c, hc, hl⟩ := el_told l hb
  have h := name_low ⟨k - 1, by omega⟩ ⟨l.length, by omega⟩
  simp only at h
  rw [show k - 1 + 1 = k by omega, ← hk, hl] at h
  rcases hc with rfl | rfl | rfl
  · rcases h.1 with h | h
    · exact h rfl
    · omega
  · rcases h.2.1 with h | h
    · exact h rfl
    · omega
  · rcases h.2.2.1 with h | h
    · exact h rfl
    · omega
theorem apart_ac (l : List Int) (ha : (numN l).2 = true) (hc : (moN l).2.2 = true) : False := by
  obtain ⟨k, k0, k1, hk, _⟩ := numN_told l ha
  obtain ⟨r, rfl⟩ := mo_told l hc
  have h := (name_low ⟨k - 1, by omega⟩ 0).2.2.2
  simp only at h
  rw [show k - 1 + 1 = k by omega, ← hk] at h
  exact h rfl
theorem apart_bc (l : List Int) (hb : (elN l).2.2 = true) (hc : (moN l).2.2 = true) : False := by
  obtain ⟨h0, h9, c, hc', hl⟩ := el_told l hb
  obtain ⟨r, rfl⟩ := mo_told l hc
  have h := congrArg List.head? hl
  rw [List.length_cons, List.replicate_succ] at h
  simp [low, lowB] at h
  omega
end Go.Proofs.YtiemiekkjaknfaaDoor
