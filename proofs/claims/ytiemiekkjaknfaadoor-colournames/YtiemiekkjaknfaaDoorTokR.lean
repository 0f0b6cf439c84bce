/- Plain mathematics of layer 11: all tokens of a code; what hangs on what. -/
import Derived.Test.YtiemiekkjaknfaaDoorTokP
namespace Go.Proofs.YtiemiekkjaknfaaDoor
set_option linter.unusedVariables false
set_option linter.unusedSimpArgs false

theorem rall_whole {t : List Int} (ht : Rg t) : (rall t).2 ≤ t.length := (rall_le _ t (Nat.le_refl _) ht).1

theorem quote_tok (k last e : Int) (t q : List Int) (h1 : ∀ b ∈ t, b ≠ last) (h2 : (rall t).2 = t.length) : quoteN k last e (t ++ last :: q) = .ok k t 0 (t.length + 2) := by
  unfold quoteN
  rw [upto_app last t q h1, if_neg (by omega), if_neg (by simp)]
theorem mark_tok (k e x : Int) (q : List Int) (hx : rsize x ≠ 0) : markN k e (nums x ++ q) = .ok k (nums x) 0 (1 + (nums x).length) := by
  have hp := nums_pos x
  have hl := nums_length x hx
  unfold markN
  rw [if_neg (by intro h; have := congrArg List.length h; rw [List.length_append] at this; simp only [List.length_nil] at this; omega), rfirst_nums x hx q, if_pos rfl, show (rsize x).toNat = (nums x).length by omega, List.take_left]
theorem preL_app (w u q : List Int) (h : u.map lowB = w) : preL w (u ++ q) := by
  have hl : u.length = w.length := by rw [← h, List.length_map]
  unfold preL
  rw [← hl, List.take_left, h]
theorem same_app (x : Int) (u q : List Int) (hu : ∀ b ∈ u, lowB b = x) (hq : ∀ b, q.head? = some b → lowB b ≠ x) : same x (u ++ q) = u :=
  takeWhile_app _ u q (fun b hb => by simpa using hu b hb) (fun b hb => by simpa using hq b hb)

/-- A token that stands at the beginning is told. -/
theorem nextN_tok {u : List Int} {k : Int} {t : List Int} {c : Int} (h : Tok u k t c) (q : List Int) (he : Ends k t q) : nextN (u ++ q) = .ok k t c u.length := by
  cases h with
  | quote _ h1 h2 h3 =>
    have := quote_tok 1 34 5 t q h2 h3
    simp only [List.cons_append, nextN, kindB_34, List.append_assoc, List.nil_append]
    simp [this]
  | brack _ h1 h2 h3 =>
    have := quote_tok 5 93 7 t q h2 h3
    simp only [List.cons_append, nextN, kindB_91, List.append_assoc, List.nil_append]
    simp [this]
  | mark m x hm hx =>
    rcases kind_mark hm with ⟨hk, _⟩ | ⟨hk, _⟩ | ⟨hk, _⟩
    all_goals (
      simp only [List.cons_append, nextN, hk]
      have := fun k e => mark_tok k e x q hx
      simp [this, Nat.add_comm])
  | one b h0 h1 hk =>
    have h128 : ¬ 128 ≤ b := by omega
    simp only [List.cons_append, List.nil_append, nextN]
    rw [if_neg (by omega), if_neg (by omega), if_neg (by omega), if_neg (by omega), if_neg (by omega), if_neg (by omega), if_neg (by omega), if_neg (by omega), if_neg (by omega), if_neg h128]
    rfl
  | power e d hk h0 hd =>
    simp only [List.cons_append, List.nil_append, nextN, hk, powerN]
    simp [hd]
  | date _ x hne hr hu hx =>
    match u, hne, hr, hu with
    | a :: r, _, hr, hu =>
      have ha := hr a (by simp)
      have hl : lowB a = x := hu a (by simp)
      have hk : kindB a = 14 := (kind_facts ha.1 ha.2).2.2.2.2.2.2.1 (by rw [hl]; exact hx)
      have hs := same_app x (a :: r) q hu (fun b hb hh => he rfl b hb (by rw [hh]))
      rw [List.cons_append] at hs
      simp only [List.cons_append, nextN, hk, hl, hs]
      simp
  | ampm _ hr hu =>
    match u, hr, hu with
    | [], _, hu => cases hu
    | a :: r, hr, hu =>
      have ha := hr a (by simp)
      have hl : lowB a = 97 := by simp [amW] at hu; exact hu.1
      have hk : kindB a = 15 := (kind_facts ha.1 ha.2).2.2.2.2.2.2.2.2.1.2 hl
      have hlen : (a :: r).length = 5 := by have := congrArg List.length hu; rw [List.length_map] at this; exact this
      have := preL_app amW (a :: r) q hu
      rw [List.cons_append] at this
      simp only [List.cons_append, nextN, hk, hlen]
      simp [this]
  | ap _ hr hu =>
    match u, hr, hu with
    | [], _, hu => cases hu
    | a :: r, hr, hu =>
      have ha := hr a (by simp)
      have hl : lowB a = 97 := by simp [apW] at hu; exact hu.1
      have hk : kindB a = 15 := (kind_facts ha.1 ha.2).2.2.2.2.2.2.2.2.1.2 hl
      have hlen : (a :: r).length = 3 := by have := congrArg List.length hu; rw [List.length_map] at this; exact this
      have h1 := preL_app apW (a :: r) q hu
      simp only [List.cons_append] at h1
      have h2 : ¬ preL amW (a :: (r ++ q)) := by
        intro h
        unfold preL at h h1
        have h3 := congrArg (List.take 3) h
        rw [← List.map_take, List.take_take] at h3
        exact absurd (h1.symm.trans h3) (by decide)
      simp only [List.cons_append, nextN, hk, hlen]
      simp [h1, h2]
  | gen _ hr hu =>
    match u, hr, hu with
    | [], _, hu => cases hu
    | a :: r, hr, hu =>
      have ha := hr a (by simp)
      have hl : lowB a = 103 := by simp [genW] at hu; exact hu.1
      have hk : kindB a = 16 := (kind_facts ha.1 ha.2).2.2.2.2.2.2.2.2.2.1.2 hl
      have hlen : (a :: r).length = 7 := by have := congrArg List.length hu; rw [List.length_map] at this; exact this
      have := preL_app genW (a :: r) q hu
      simp only [List.cons_append] at this
      simp only [List.cons_append, nextN, hk, hlen]
      simp [this]
  | sign x hx =>
    have hx0 : rsize x ≠ 0 := by omega
    obtain ⟨b, r, g1, g2, g3, g4, g5⟩ := head_nums x hx0
    have hb := g5 hx
    have hk := kindB_big (show 128 ≤ b by omega)
    have hf := rfirst_nums x hx0 q
    have hl := nums_length x hx0
    have h128 : 128 ≤ b := by omega
    have hn : (rsize x).toNat = (nums x).length := by omega
    have ht : (nums x ++ q).take (nums x).length = nums x := List.take_left
    rw [g1, List.cons_append] at *
    simp only [nextN, hk, hf, hn, ht, h128]
    simp

theorem Tok.pos {u : List Int} {k : Int} {t : List Int} {c : Int} (h : Tok u k t c) : 1 ≤ u.length := by
  cases h with
  | quote => simp
  | brack => simp
  | mark => simp
  | one => simp
  | power => simp
  | date _ x hne => exact List.length_pos_iff.2 hne
  | ampm _ hr hu => have := congrArg List.length hu; rw [List.length_map] at this; rw [this]; decide
  | ap _ hr hu => have := congrArg List.length hu; rw [List.length_map] at this; rw [this]; decide
  | gen _ hr hu => have := congrArg List.length hu; rw [List.length_map] at this; rw [this]; decide
  | sign x => exact nums_pos x
theorem Tok.rg {u : List Int} {k : Int} {t : List Int} {c : Int} (h : Tok u k t c) : Rg u := by
  cases h with
  | quote _ h1 => intro x hx; simp at hx; rcases hx with rfl | hx | rfl <;> first | omega | exact h1 x hx
  | brack _ h1 => intro x hx; simp at hx; rcases hx with rfl | hx | rfl <;> first | omega | exact h1 x hx
  | mark m x hm h => intro y hy; simp at hy; rcases hy with hy | hy; exact ⟨by omega, by omega⟩; exact nums_range x h y hy
  | one b => intro x hx; simp at hx; omega
  | power e d hk h0 hd =>
    intro x hx; simp at hx
    rcases hx with rfl | rfl
    · refine ⟨h0, ?_⟩
      rcases Int.lt_or_le 255 x with h | h
      · rw [kindB_big (by omega)] at hk; cases hk
      · exact h
    · omega
  | date _ x _ h => exact h
  | ampm _ h => exact h
  | ap _ h => exact h
  | gen _ h => exact h
  | sign x h => exact nums_range x (by omega)
theorem Tok.text {u : List Int} {k : Int} {t : List Int} {c : Int} (h : Tok u k t c) : Rg t ∧ t.length ≤ u.length := by
  cases h with
  | quote _ h1 => exact ⟨h1, by simp; omega⟩
  | brack _ h1 => exact ⟨h1, by simp; omega⟩
  | mark m x hm h => exact ⟨nums_range x h, by simp⟩
  | one b => exact ⟨fun x hx => by simp at hx; omega, by simp⟩
  | power e d hk h0 hd => exact ⟨fun x hx => by simp at hx; omega, by simp⟩
  | date _ x hne h hu hx => exact ⟨fun y hy => by simp at hy; subst hy; simp [dates] at hx; omega, List.length_pos_iff.2 hne⟩
  | ampm _ h hu => refine ⟨fun x hx => by simp [amT] at hx; omega, ?_⟩; have := congrArg List.length hu; rw [List.length_map] at this; rw [this]; decide
  | ap _ h hu => refine ⟨fun x hx => by simp [apT] at hx; omega, ?_⟩; have := congrArg List.length hu; rw [List.length_map] at this; rw [this]; decide
  | gen _ h hu => refine ⟨fun x hx => by simp [genT] at hx; omega, ?_⟩; have := congrArg List.length hu; rw [List.length_map] at this; rw [this]; decide
  | sign x h => exact ⟨nums_range x (by omega), Nat.le_refl _⟩

/-- The tokens up to a place. -/
inductive Reach (l : List Int) : List Tk → Nat → Prop
  | nil : Reach l [] 0
  | snoc {T : List Tk} {a : Nat} {k : Int} {t : List Int} {c : Int} {n : Nat} : Reach l T a → a < l.length → nextN (l.drop a) = .ok k t c n → Reach l (T ++ [⟨k, t, c, a⟩]) (a + n)

def tallA : Nat → List Int → List Tk → Nat → List Tk × Nat × Int
  | 0, _, T, a => (T, a, 0)
  | f + 1, l, T, a => if l.length ≤ a then (T, a, 0) else match nextN (l.drop a) with
    | .ok k t c n => tallA f l (T ++ [⟨k, t, c, a⟩]) (a + n)
    | .no o e => ([], a + o, e)
/-- The tokens of a code, and its length; or where it is wrong, and why. -/
def tall (l : List Int) : List Tk × Nat × Int := tallA l.length l [] 0

theorem next_at {l : List Int} (hl : Rg l) {a : Nat} {k : Int} {t : List Int} {c : Int} {n : Nat} (h : nextN (l.drop a) = .ok k t c n) : ∃ u q, l.drop a = u ++ q ∧ u.length = n ∧ Tok u k t c ∧ Ends k t q ∧ 1 ≤ n ∧ l.drop (a + n) = q := by
  obtain ⟨u, q, h1, h2, h3, h4⟩ := nextN_ok _ (fun x hx => hl x (List.mem_of_mem_drop hx)) h
  refine ⟨u, q, h1, h2, h3, h4, by have := h3.pos; omega, ?_⟩
  rw [← List.drop_drop, h1, ← h2, List.drop_left]

theorem Reach.le {l : List Int} (hl : Rg l) {T : List Tk} {a : Nat} (h : Reach l T a) : a ≤ l.length ∧ T.length ≤ a := by
  induction h with
  | nil => simp
  | snoc h1 h2 h3 ih =>
    obtain ⟨u, q, e1, e2, e3, e4, e5, e6⟩ := next_at hl h3
    have := congrArg List.length e1
    rw [List.length_drop, List.length_append] at this
    simp only [List.length_append, List.length_cons, List.length_nil]
    omega

theorem reach_tall {l : List Int} (hl : Rg l) {T : List Tk} {a : Nat} (h : Reach l T a) : ∃ f, l.length ≤ a + f ∧ tall l = tallA f l T a := by
  induction h with
  | nil => exact ⟨l.length, by omega, rfl⟩
  | snoc h1 h2 h3 ih =>
    obtain ⟨f, g1, g2⟩ := ih
    obtain ⟨u, q, e1, e2, e3, e4, e5, e6⟩ := next_at hl h3
    match f, g1, g2 with
    | 0, g1, _ => omega
    | f + 1, g1, g2 =>
      refine ⟨f, by omega, ?_⟩
      rw [g2, tallA, if_neg (by omega), h3]

theorem reach_end {l : List Int} (hl : Rg l) {T : List Tk} {a : Nat} (h : Reach l T a) (ha : l.length ≤ a) : tall l = (T, a, 0) := by
  obtain ⟨f, _, g⟩ := reach_tall hl h
  rw [g]
  cases f with
  | zero => rfl
  | succ f => rw [tallA, if_pos ha]
theorem reach_no {l : List Int} (hl : Rg l) {T : List Tk} {a : Nat} (h : Reach l T a) (ha : a < l.length) {o : Nat} {e : Int} (hn : nextN (l.drop a) = .no o e) : tall l = ([], a + o, e) := by
  obtain ⟨f, g1, g⟩ := reach_tall hl h
  rw [g]
  cases f with
  | zero => omega
  | succ f => rw [tallA, if_neg (by omega), hn]

/-- Either all is told, or a place is reached where nothing can stand. -/
theorem tall_cases {l : List Int} (hl : Rg l) : (∃ T, Reach l T l.length ∧ tall l = (T, l.length, 0)) ∨ ∃ T a o e, Reach l T a ∧ a < l.length ∧ nextN (l.drop a) = .no o e ∧ tall l = ([], a + o, e) := by
  suffices key : ∀ (g : Nat) (T : List Tk) (a : Nat), Reach l T a → l.length - a ≤ g → (∃ T, Reach l T l.length ∧ tall l = (T, l.length, 0)) ∨ ∃ T a o e, Reach l T a ∧ a < l.length ∧ nextN (l.drop a) = .no o e ∧ tall l = ([], a + o, e) from
    key l.length [] 0 .nil (by omega)
  intro g
  induction g with
  | zero =>
    intro T a h hg
    have := (h.le hl).1
    have e : a = l.length := by omega
    subst e
    exact .inl ⟨T, h, reach_end hl h (Nat.le_refl _)⟩
  | succ g ih =>
    intro T a h hg
    by_cases ha : a < l.length
    · cases hn : nextN (l.drop a) with
      | ok k t c n =>
        obtain ⟨u, q, e1, e2, e3, e4, e5, e6⟩ := next_at hl hn
        exact ih _ _ (h.snoc ha hn) (by omega)
      | no o e => exact .inr ⟨T, a, o, e, h, ha, hn, reach_no hl h ha hn⟩
    · have := (h.le hl).1
      have e : a = l.length := by omega
      subst e
      exact .inl ⟨T, h, reach_end hl h (Nat.le_refl _)⟩

/-- What is wrong, and where. -/
theorem nextN_no (l : List Int) (hl : Rg l) (h0 : l ≠ []) {o : Nat} {e : Int} (h : nextN l = .no o e) :
    (e = 4 ∧ o < l.length) ∨ (e = 9 ∧ o = 0) ∨ (o = l.length ∧ (e = 5 ∨ e = 6 ∨ e = 7 ∨ e = 8)) := by
  match l, hl, h0, h with
  | a :: r, hl, _, h =>
    have ha := hl a (by simp)
    have hr : Rg r := fun x hx => hl x (by simp [hx])
    have quoteCase : ∀ (k last e' : Int), (e' = 5 ∨ e' = 7) → quoteN k last e' r = .no o e → (e = 4 ∧ o < (a :: r).length) ∨ (e = 9 ∧ o = 0) ∨ (o = (a :: r).length ∧ (e = 5 ∨ e = 6 ∨ e = 7 ∨ e = 8)) := by
      intro k last e' he' hq
      unfold quoteN at hq
      have hle := (List.takeWhile_sublist (l := r) (fun b => decide (b ≠ last))).length_le
      by_cases c1 : (rall (upto last r)).2 < (upto last r).length
      · rw [if_pos c1] at hq
        simp only [Nx.no.injEq] at hq
        left
        refine ⟨hq.2.symm, ?_⟩
        rw [← hq.1, List.length_cons]
        have : (upto last r).length ≤ r.length := hle
        omega
      · rw [if_neg c1] at hq
        by_cases c2 : (upto last r).length = r.length
        · rw [if_pos c2] at hq
          simp only [Nx.no.injEq] at hq
          right; right
          rw [← hq.1, ← hq.2, List.length_cons]
          omega
        · rw [if_neg c2] at hq; cases hq
    have markCase : ∀ (k e' : Int), (e' = 6 ∨ e' = 8) → markN k e' r = .no o e → (e = 4 ∧ o < (a :: r).length) ∨ (e = 9 ∧ o = 0) ∨ (o = (a :: r).length ∧ (e = 5 ∨ e = 6 ∨ e = 7 ∨ e = 8)) := by
      intro k e' he' hq
      unfold markN at hq
      by_cases c1 : r = []
      · rw [if_pos c1] at hq
        simp only [Nx.no.injEq] at hq
        right; right
        rw [c1, ← hq.1, ← hq.2]
        simp; omega
      · rw [if_neg c1] at hq
        by_cases c2 : (rfirst r).2.2 = true
        · rw [if_pos c2] at hq; cases hq
        · rw [if_neg c2] at hq
          simp only [Nx.no.injEq] at hq
          left
          have := List.length_pos_iff.2 c1
          rw [← hq.1, ← hq.2, List.length_cons]
          omega
    have sign : Nx.no 0 9 = Nx.no o e → (e = 4 ∧ o < (a :: r).length) ∨ (e = 9 ∧ o = 0) ∨ (o = (a :: r).length ∧ (e = 5 ∨ e = 6 ∨ e = 7 ∨ e = 8)) := by
      intro hq
      simp only [Nx.no.injEq] at hq
      right; left
      exact ⟨hq.2.symm, hq.1.symm⟩
    simp only [nextN] at h
    by_cases k1 : kindB a = 1
    · rw [if_pos k1] at h; exact quoteCase 1 34 5 (by simp) h
    rw [if_neg k1] at h
    by_cases k5 : kindB a = 5
    · rw [if_pos k5] at h; exact quoteCase 5 93 7 (by simp) h
    rw [if_neg k5] at h
    by_cases k2 : kindB a = 2
    · rw [if_pos k2] at h; exact markCase 2 6 (by simp) h
    rw [if_neg k2] at h
    by_cases k34 : kindB a = 3 ∨ kindB a = 4
    · rw [if_pos k34] at h; exact markCase _ 8 (by simp) h
    rw [if_neg k34] at h
    by_cases k13 : kindB a = 13
    · rw [if_pos k13] at h
      match r, h with
      | [], h => exact sign h
      | d :: r', h =>
        by_cases hd : d = 43 ∨ d = 45
        · simp only [powerN, if_pos hd] at h; cases h
        · simp only [powerN, if_neg hd] at h; exact sign h
    rw [if_neg k13] at h
    by_cases k15 : kindB a = 15
    · rw [if_pos k15] at h
      by_cases hw : preL amW (a :: r)
      · rw [if_pos hw] at h; cases h
      rw [if_neg hw] at h
      by_cases hw : preL apW (a :: r)
      · rw [if_pos hw] at h; cases h
      rw [if_neg hw] at h
      exact sign h
    rw [if_neg k15] at h
    by_cases k16 : kindB a = 16
    · rw [if_pos k16] at h
      by_cases hw : preL genW (a :: r)
      · rw [if_pos hw] at h; cases h
      rw [if_neg hw] at h
      exact sign h
    rw [if_neg k16] at h
    by_cases k14 : kindB a = 14
    · rw [if_pos k14] at h; cases h
    rw [if_neg k14] at h
    by_cases k0 : kindB a = 0
    · rw [if_pos k0] at h; exact sign h
    rw [if_neg k0] at h
    by_cases hb : 128 ≤ a
    · rw [if_pos hb] at h
      by_cases hf : (rfirst (a :: r)).2.2 = true
      · rw [if_pos hf] at h; cases h
      · rw [if_neg hf] at h
        simp only [Nx.no.injEq] at h
        left
        rw [← h.1, ← h.2]
        simp
    rw [if_neg hb] at h
    cases h
end Go.Proofs.YtiemiekkjaknfaaDoor
