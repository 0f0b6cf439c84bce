/- Plain mathematics of layer 11: tokens of texts one behind the other, of beginnings, and of signs put together. -/
import Derived.Test.YtaokmegoheofjaaDoorTokR
namespace Go.Proofs.YtaokmegoheofjaaDoor
set_option linter.unusedVariables false
set_option linter.unusedSimpArgs false

def Agree (q q0 : List Int) : Prop := ∀ b, q.head? = some b → lowB b ∉ dates ∨ q0.head?.map lowB = some (lowB b)

theorem Tok.date_text {u : List Int} {k : Int} {t : List Int} {c : Int} (h : Tok u k t c) (hk : k = 14) : ∃ x, x ∈ dates ∧ t = [x] := by
  cases h with
  | quote _ _ _ _ => omega
  | brack _ _ _ _ => omega
  | mark m x hm _ => rcases kind_mark hm with ⟨h, _⟩ | ⟨h, _⟩ | ⟨h, _⟩ <;> omega
  | one b _ _ h => omega
  | power _ _ _ _ _ => omega
  | date _ x _ _ _ hx => exact ⟨x, hx, rfl⟩
  | ampm _ _ _ => omega
  | ap _ _ _ => omega
  | gen _ _ _ => omega
  | sign x _ => omega

theorem ends_agree {u : List Int} {k : Int} {t : List Int} {c : Int} (h : Tok u k t c) {q q0 : List Int} (he : Ends k t q0) (ha : Agree q q0) : Ends k t q := by
  intro hk b hb
  obtain ⟨x, hx, rfl⟩ := h.date_text hk
  rcases ha b hb with h1 | h1
  · intro e
    simp only [List.cons.injEq, and_true] at e
    rw [e] at h1
    exact h1 hx
  · cases hq : q0.head? with
    | none => rw [hq] at h1; cases h1
    | some b0 =>
      rw [hq] at h1
      simp only [Option.map_some, Option.some.injEq] at h1
      rw [← h1]
      exact he hk b0 hq

theorem rg_app {a b : List Int} (ha : Rg a) (hb : Rg b) : Rg (a ++ b) := app_range ha hb
theorem rg_take {a : List Int} (ha : Rg a) (n : Nat) : Rg (a.take n) := fun x hx => ha x (List.mem_of_mem_take hx)
theorem rg_drop {a : List Int} (ha : Rg a) (n : Nat) : Rg (a.drop n) := fun x hx => ha x (List.mem_of_mem_drop hx)

/-- The tokens up to a place hang on what is ahead of it, and hardly on what is behind. -/
theorem reach_swap {l : List Int} (hl : Rg l) {T : List Tk} {a : Nat} (h : Reach l T a) : ∀ q, Agree q (l.drop a) → Reach (l.take a ++ q) T a := by
  induction h with
  | nil => intro q _; exact .nil
  | @snoc T a k t c n h1 h2 h3 ih =>
    intro q hq
    obtain ⟨u, q0, e1, e2, e3, e4, e5, e6⟩ := next_at hl h3
    rw [e6] at hq
    have hle := (h1.le hl).1
    have hta : (l.take a).length = a := by rw [List.length_take]; omega
    have htk : l.take (a + n) = l.take a ++ u := by
      rw [List.take_add, e1, ← e2, List.take_left]
    have := ih (u ++ q) (by
      intro b hb
      right
      rw [e1]
      match u, e2, e5, hb with
      | [], e2, e5, _ => simp at e2; omega
      | y :: u, _, _, hb => simp at hb; subst hb; rfl)
    rw [htk, List.append_assoc]
    refine this.snoc ?_ ?_
    · rw [List.length_append, List.length_append, hta, e2]; omega
    · have hd : (l.take a ++ (u ++ q)).drop a = u ++ q := by
        have := List.drop_left (l₁ := l.take a) (l₂ := u ++ q)
        rwa [hta] at this
      rw [hd, nextN_tok e3 q (ends_agree e3 e4 hq), e2]

def shiftT (d : Nat) (x : Tk) : Tk := ⟨x.kind, x.text, x.count, x.place + d⟩
theorem reach_shift {p l : List Int} {T0 : List Tk} (h0 : Reach (p ++ l) T0 p.length) {T : List Tk} {a : Nat} (h : Reach l T a) : Reach (p ++ l) (T0 ++ T.map (shiftT p.length)) (p.length + a) := by
  induction h with
  | nil => simpa using h0
  | @snoc T a k t c n h1 h2 h3 ih =>
    have hd : (p ++ l).drop (p.length + a) = l.drop a := by rw [← List.drop_drop, List.drop_left]
    have := ih.snoc (by rw [List.length_append]; omega) (by rw [hd]; exact h3)
    rw [List.map_append, ← List.append_assoc, ← Nat.add_assoc]
    simpa [shiftT, Nat.add_comm] using this

theorem next_semi (q : List Int) : nextN (59 :: q) = .ok 11 [59] 1 1 := by
  have := nextN_tok (Tok.one 59 (by decide) (by decide) (Or.inl ⟨by decide, by decide⟩)) q (fun h => by simp [show kindB 59 = 11 by decide] at h)
  simpa [show kindB 59 = 11 by decide] using this

theorem no_err {l : List Int} (hl : Rg l) {a o : Nat} {e : Int} (ha : a < l.length) (h : nextN (l.drop a) = .no o e) : e ≠ 0 := by
  have := nextN_no _ (rg_drop hl a) (by intro h; have := congrArg List.length h; rw [List.length_drop] at this; simp at this; omega) h
  omega

theorem reach_semi {l1 l2 : List Int} (h1 : Rg l1) (h : (tall l1).2.2 = 0) : Reach (l1 ++ 59 :: l2) ((tall l1).1 ++ [⟨11, [59], 1, l1.length⟩]) (l1.length + 1) ∧ (tall l1).2.1 = l1.length := by
  rcases tall_cases h1 with ⟨T, r1, r2⟩ | ⟨T, a, o, e, r1, r2, r3, r4⟩
  · have hs := reach_swap h1 r1 (59 :: l2) (by intro b hb; simp at hb; subst hb; left; decide)
    rw [List.take_length] at hs
    rw [r2]
    refine ⟨hs.snoc (by simp) ?_, rfl⟩
    rw [List.drop_left]
    exact next_semi l2
  · rw [r4] at h
    exact absurd h (no_err h1 r2 r3)

/-- A Semicolon between two codes. -/
theorem tall_join {l1 l2 : List Int} (h1 : Rg l1) (h2 : Rg l2) (h : (tall l1).2.2 = 0) :
    tall (l1 ++ 59 :: l2) = if (tall l2).2.2 = 0 then ((tall l1).1 ++ [⟨11, [59], 1, l1.length⟩] ++ (tall l2).1.map (shiftT (l1.length + 1)), l1.length + 1 + l2.length, 0) else ([], l1.length + 1 + (tall l2).2.1, (tall l2).2.2) := by
  obtain ⟨hr, _⟩ := reach_semi (l2 := l2) h1 h
  have hrg : Rg (l1 ++ 59 :: l2) := rg_app h1 (fun x hx => by rcases List.mem_cons.1 hx with rfl | hx; exact ⟨by omega, by omega⟩; exact h2 x hx)
  have hlen : (l1 ++ 59 :: l2).length = l1.length + 1 + l2.length := by simp; omega
  have e : l1 ++ 59 :: l2 = (l1 ++ [59]) ++ l2 := by simp
  have hp : (l1 ++ [59]).length = l1.length + 1 := by simp
  rcases tall_cases h2 with ⟨T, r1, r2⟩ | ⟨T, a, o, e', r1, r2, r3, r4⟩
  · rw [r2, if_pos rfl]
    rw [e] at hr hrg hlen ⊢
    have := reach_shift (p := l1 ++ [59]) (l := l2) (by rw [hp]; exact hr) r1
    rw [hp] at this
    rw [reach_end hrg this (by omega)]
  · rw [r4, if_neg (no_err h2 r2 r3)]
    rw [e] at hr hrg hlen ⊢
    have := reach_shift (p := l1 ++ [59]) (l := l2) (by rw [hp]; exact hr) r1
    rw [hp] at this
    have hd : ((l1 ++ [59]) ++ l2).drop (l1.length + 1 + a) = l2.drop a := by rw [← List.drop_drop, ← hp, List.drop_left]
    rw [reach_no hrg this (by omega) (by rw [hd]; exact r3)]
    simp only [Prod.mk.injEq, true_and, and_true]
    omega

/-! ### where a code is wrong -/

/-- What stands ahead of the place is the beginning of some code; the two ways. -/
theorem wrong_ahead {l : List Int} (hl : Rg l) (h : (tall l).2.2 ≠ 0) :
    (tall l).2.1 ≤ l.length ∧ ((tall l).2.2 = 4 ∧ (tall l).2.1 < l.length ∨
      (tall l).2.2 ≠ 4 ∧ ∃ end' : List Int, (end' = [] ∨ end' = [34] ∨ end' = [120] ∨ end' = [93]) ∧ (tall (l.take (tall l).2.1 ++ end')).2.2 = 0 ∧
        ((tall l).2.1 = l.length ∨ (tall l).2.1 < l.length ∧ ∀ c more, l.drop (tall l).2.1 = c :: more → (lowB c = 97 ∨ lowB c = 103 ∨ lowB c = 101 ∨ ∀ q, Rg q → (tall (l.take ((tall l).2.1 + 1) ++ q)).2.2 ≠ 0))) := by
  rcases tall_cases hl with ⟨T, r1, r2⟩ | ⟨T, a, o, e, r1, r2, r3, r4⟩
  · rw [r2] at h; exact absurd rfl h
  · rw [r4]
    simp only
    have hne : l.drop a ≠ [] := by intro h; have := congrArg List.length h; rw [List.length_drop] at this; simp at this; omega
    have hta : (l.take a).length = a := by rw [List.length_take]; omega
    rcases nextN_no _ (rg_drop hl a) hne r3 with ⟨he, ho⟩ | ⟨he, ho⟩ | ⟨ho, he⟩
    · rw [List.length_drop] at ho
      exact ⟨by omega, .inl ⟨he, by omega⟩⟩
    · subst ho
      rw [Nat.add_zero]
      refine ⟨by omega, .inr ⟨by omega, [], by simp, ?_, .inr ⟨r2, ?_⟩⟩⟩
      · have := reach_swap hl r1 [] (by intro b hb; simp at hb)
        rw [reach_end (rg_app (rg_take hl a) (by intro x hx; simp at hx)) this (by simp; omega)]
      · intro c more hcm
        have hc := hl c (List.mem_of_mem_drop (i := a) (by rw [hcm]; simp))
        obtain ⟨_, _, _, _, _, _, _, f13, f15, f16, _⟩ := kind_facts hc.1 hc.2
        by_cases k13 : kindB c = 13
        · exact .inr (.inr (.inl (f13.1 k13)))
        by_cases k15 : kindB c = 15
        · exact .inl (f15.1 k15)
        by_cases k16 : kindB c = 16
        · exact .inr (.inl (f16.1 k16))
        right; right; right
        intro q hq
        have hk0 : nextN (c :: q) = .no 0 9 := by
          rw [hcm] at r3
          have he' := he
          subst he'
          simp only [nextN] at r3 ⊢
          by_cases k1 : kindB c = 1
          · rw [if_pos k1] at r3
            unfold quoteN at r3
            repeat' split at r3
            all_goals first | (simp only [Nx.no.injEq] at r3; omega) | (cases r3; done)
          rw [if_neg k1] at r3 ⊢
          by_cases k5 : kindB c = 5
          · rw [if_pos k5] at r3
            unfold quoteN at r3
            repeat' split at r3
            all_goals first | (simp only [Nx.no.injEq] at r3; omega) | (cases r3; done)
          rw [if_neg k5] at r3 ⊢
          by_cases k2 : kindB c = 2
          · rw [if_pos k2] at r3
            unfold markN at r3
            repeat' split at r3
            all_goals first | (simp only [Nx.no.injEq] at r3; omega) | (cases r3; done)
          rw [if_neg k2] at r3 ⊢
          by_cases k34 : kindB c = 3 ∨ kindB c = 4
          · rw [if_pos k34] at r3
            unfold markN at r3
            repeat' split at r3
            all_goals first | (simp only [Nx.no.injEq] at r3; omega) | (cases r3; done)
          rw [if_neg k34] at r3 ⊢
          rw [if_neg k13] at r3 ⊢
          rw [if_neg k15] at r3 ⊢
          rw [if_neg k16] at r3 ⊢
          by_cases k14 : kindB c = 14
          · rw [if_pos k14] at r3; cases r3
          rw [if_neg k14] at r3 ⊢
          by_cases k0 : kindB c = 0
          · rw [if_pos k0]
          rw [if_neg k0] at r3
          by_cases hb : 128 ≤ c
          · rw [if_pos hb] at r3
            repeat' split at r3
            all_goals first | (simp only [Nx.no.injEq] at r3; omega) | (cases r3; done)
          rw [if_neg hb] at r3; cases r3
        have htk : l.take (a + 1) ++ q = l.take a ++ (c :: q) := by
          rw [List.take_add, hcm]; simp
        have hs := reach_swap hl r1 (c :: q) (by intro b hb; simp at hb; subst hb; right; rw [hcm]; rfl)
        rw [htk]
        have hrg : Rg (l.take a ++ (c :: q)) := rg_app (rg_take hl a) (fun x hx => by rcases List.mem_cons.1 hx with rfl | hx; exact hc; exact hq x hx)
        have hd : (l.take a ++ (c :: q)).drop a = c :: q := by
          have := List.drop_left (l₁ := l.take a) (l₂ := c :: q)
          rwa [hta] at this
        rw [reach_no hrg hs (by rw [List.length_append, hta]; simp) (by rw [hd]; exact hk0)]
        simp
    · rw [List.length_drop] at ho
      have hend : a + o = l.length := by omega
      rw [hend]
      refine ⟨Nat.le_refl _, .inr ⟨by omega, ?_⟩⟩
      rw [List.take_length]
      -- the text goes on with its end
      have fin : ∀ (x : Int) (k : Int) (t : List Int), 0 ≤ x ∧ x ≤ 255 → Tok (l.drop a ++ [x]) k t 0 → (tall (l ++ [x])).2.2 = 0 := by
        intro x k t hx ht
        have hs := reach_swap hl r1 (l.drop a ++ [x]) (by
          intro b hb
          right
          match hl' : l.drop a, hne with
          | y :: r, _ => rw [hl'] at hb; simp at hb; subst hb; rfl)
        rw [← List.append_assoc, List.take_append_drop] at hs
        have hd : (l ++ [x]).drop a = l.drop a ++ [x] := by rw [List.drop_append_of_le_length (by omega)]
        have hn := nextN_tok ht [] (by intro _ b hb; simp at hb)
        rw [List.append_nil] at hn
        have := hs.snoc (by simp; omega) (by rw [hd]; exact hn)
        rw [reach_end (rg_app hl (by intro y hy; simp at hy; subst hy; exact hx)) this (by simp; omega)]
      match hl' : l.drop a, hne with
      | y :: r, _ =>
        rw [hl'] at r3
        have hy := hl y (List.mem_of_mem_drop (i := a) (by rw [hl']; simp))
        have hr : Rg r := fun x hx => hl x (List.mem_of_mem_drop (i := a) (by rw [hl']; simp [hx]))
        rw [hl'] at fin
        obtain ⟨f1, f5, f2, f3, f4, f14, _, f13, f15, f16, fa, fb, fc⟩ := kind_facts hy.1 hy.2
        have quoteEnd : ∀ (k last e' : Int), e' ≠ 4 → quoteN k last e' r = .no o e → (∀ b ∈ r, b ≠ last) ∧ (rall r).2 = r.length := by
          intro k last e' he' hq
          unfold quoteN at hq
          obtain ⟨g1, g2⟩ := upto_cut last r
          by_cases c1 : (rall (upto last r)).2 < (upto last r).length
          · rw [if_pos c1] at hq
            simp only [Nx.no.injEq] at hq
            omega
          · rw [if_neg c1] at hq
            by_cases c2 : (upto last r).length = r.length
            · have : upto last r = r := by
                rcases g2 with ⟨_, h⟩ | ⟨q, h⟩
                · exact h
                · have := congrArg List.length h; rw [List.length_append] at this; simp at this; omega
              rw [this] at g1 c1
              have := rall_whole hr
              exact ⟨g1, by omega⟩
            · rw [if_neg c2] at hq; cases hq
        have markEnd : ∀ (k e' : Int), e' ≠ 4 → markN k e' r = .no o e → r = [] := by
          intro k e' he' hq
          unfold markN at hq
          by_cases c1 : r = []
          · exact c1
          · rw [if_neg c1] at hq
            by_cases c2 : (rfirst r).2.2 = true
            · rw [if_pos c2] at hq; cases hq
            · rw [if_neg c2] at hq
              simp only [Nx.no.injEq] at hq
              omega
        simp only [nextN] at r3
        by_cases k1 : kindB y = 1
        · rw [if_pos k1] at r3
          obtain ⟨g1, g2⟩ := quoteEnd _ _ _ (by decide) r3
          obtain rfl := f1 k1
          exact ⟨[34], by simp, fin 34 1 r (by decide) (by rw [List.cons_append]; exact Tok.quote r hr g1 g2), .inl rfl⟩
        rw [if_neg k1] at r3
        by_cases k5 : kindB y = 5
        · rw [if_pos k5] at r3
          obtain ⟨g1, g2⟩ := quoteEnd _ _ _ (by decide) r3
          obtain rfl := f5 k5
          exact ⟨[93], by simp, fin 93 5 r (by decide) (by rw [List.cons_append]; exact Tok.brack r hr g1 g2), .inl rfl⟩
        rw [if_neg k5] at r3
        have markDone : (y = 92 ∨ y = 95 ∨ y = 42) → r = [] → ∃ end' : List Int, (end' = [] ∨ end' = [34] ∨ end' = [120] ∨ end' = [93]) ∧ (tall (l ++ end')).2.2 = 0 ∧ (l.length = l.length ∨ l.length < l.length ∧ ∀ c more, l.drop l.length = c :: more → (lowB c = 97 ∨ lowB c = 103 ∨ lowB c = 101 ∨ ∀ q, Rg q → (tall (l.take (l.length + 1) ++ q)).2.2 ≠ 0)) := by
          intro hm h0
          subst h0
          have := Tok.mark y 120 hm (by decide)
          rw [show nums 120 = [120] by decide] at this
          exact ⟨[120], by simp, fin 120 _ _ (by decide) this, .inl rfl⟩
        by_cases k2 : kindB y = 2
        · rw [if_pos k2] at r3
          exact markDone (.inl (f2 k2)) (markEnd _ _ (by decide) r3)
        rw [if_neg k2] at r3
        by_cases k34 : kindB y = 3 ∨ kindB y = 4
        · rw [if_pos k34] at r3
          exact markDone (by rcases k34 with h | h; exact .inr (.inl (f3 h)); exact .inr (.inr (f4 h))) (markEnd _ _ (by decide) r3)
        rw [if_neg k34] at r3
        exfalso
        have h9 : nextN (y :: r) = .no o e := by simp only [nextN]; rw [if_neg k1, if_neg k5, if_neg k2, if_neg k34]; exact r3
        by_cases k13 : kindB y = 13
        · rw [if_pos k13] at r3
          unfold powerN at r3
          repeat' split at r3
          all_goals first | (simp only [Nx.no.injEq] at r3; omega) | (cases r3; done)
        rw [if_neg k13] at r3
        repeat' split at r3
        all_goals first | (simp only [Nx.no.injEq] at r3; omega) | (cases r3; done)
end Go.Proofs.YtaokmegoheofjaaDoor
