/- Plain mathematics of the law TokenBack: the signs of a code's tokens, one behind the other. -/
import Derived.Test.YtaokmegoheofjaaDoorTokM
import Derived.Test.YtaokmegoheofjaaDoorTokV
namespace Go.Proofs.YtaokmegoheofjaaDoor
set_option linter.unusedVariables false
set_option linter.unusedSimpArgs false

theorem Tok.num {u : List Int} {k : Int} {t : List Int} {c : Int} (h : Tok u k t c) : 0 ≤ c ∧ c ≤ u.length := by
  have hp := h.pos
  cases h with
  | quote => exact ⟨by omega, by omega⟩
  | brack => exact ⟨by omega, by omega⟩
  | mark => exact ⟨by omega, by omega⟩
  | one => exact ⟨by omega, by omega⟩
  | power => exact ⟨by omega, by omega⟩
  | date => exact ⟨by omega, by omega⟩
  | ampm => exact ⟨by omega, by omega⟩
  | ap => exact ⟨by omega, by omega⟩
  | gen => exact ⟨by omega, by omega⟩
  | sign => exact ⟨by omega, by omega⟩

theorem flat_one (x : Int) (n : Nat) : (List.replicate n [x]).flatten = List.replicate n x := by
  induction n with
  | zero => rfl
  | succ n ih => rw [List.replicate_succ, List.flatten_cons, ih]; rfl

/-- The signs of a token are a token's bytes again, the same but for letters small or great. -/
theorem Tok.signs {u : List Int} {k : Int} {t : List Int} {c : Int} (h : Tok u k t c) : Tok (signsL k t c) k t c ∧ (signsL k t c).map lowB = u.map lowB := by
  have h0 := h
  cases h with
  | quote _ _ _ _ => exact ⟨h0, rfl⟩
  | brack _ _ _ _ => exact ⟨h0, rfl⟩
  | mark m x hm _ =>
    have e : signsL (kindB m) (nums x) 0 = m :: nums x := by
      rcases hm with rfl | rfl | rfl <;> rfl
    rw [e]; exact ⟨h0, rfl⟩
  | one b b0 b1 hk =>
    have e : signsL (kindB b) [b] 1 = [b] := by
      unfold signsL
      rw [if_neg (by omega), if_neg (by omega), if_neg (by omega), if_neg (by omega), if_neg (by omega), if_neg (by omega), if_neg (by omega)]
    rw [e]; exact ⟨h0, rfl⟩
  | power e d hk e0 hd =>
    have he : e ≤ 255 := by
      rcases Int.lt_or_le 255 e with h | h
      · rw [kindB_big (by omega)] at hk; cases hk
      · exact h
    have hl := ((kind_facts e0 he).2.2.2.2.2.2.2.1).1 hk
    refine ⟨Tok.power 69 d (by decide) (by decide) hd, ?_⟩
    show [lowB 69, lowB d] = [lowB e, lowB d]
    rw [hl]; rfl
  | date u x hne hr hu hx =>
    have e : signsL 14 [x] u.length = List.replicate u.length x := by
      rw [← flat_one]; rfl
    have hxx : lowB x = x := by simp [dates] at hx; rcases hx with rfl | rfl | rfl | rfl | rfl <;> rfl
    have hx0 : 0 ≤ x ∧ x ≤ 255 := by simp [dates] at hx; omega
    rw [e]
    refine ⟨?_, ?_⟩
    · have hp : 1 ≤ u.length := List.length_pos_iff.2 hne
      have := Tok.date (List.replicate u.length x) x (by intro h; rw [List.replicate_eq_nil_iff] at h; omega) (fun y hy => by rw [List.eq_of_mem_replicate hy]; exact hx0) (fun y hy => by rw [List.eq_of_mem_replicate hy]; exact hxx) hx
      rwa [List.length_replicate] at this
    · rw [List.map_replicate, hxx]
      symm
      rw [List.eq_replicate_iff]
      refine ⟨by simp, fun b hb => ?_⟩
      obtain ⟨y, hy, rfl⟩ := List.mem_map.1 hb
      exact hu y hy
  | ampm _ hr hu => exact ⟨Tok.ampm amT (by intro x hx; simp [amT] at hx; omega) (by decide), by rw [hu]; decide⟩
  | ap _ hr hu => exact ⟨Tok.ap apT (by intro x hx; simp [apT] at hx; omega) (by decide), by rw [hu]; decide⟩
  | gen _ hr hu => exact ⟨Tok.gen genT (by intro x hx; simp [genT] at hx; omega) (by decide), by rw [hu]; decide⟩
  | sign x _ => exact ⟨h0, rfl⟩

theorem tall_one {u : List Int} {k : Int} {t : List Int} {c : Int} (h : Tok u k t c) : tall u = ([⟨k, t, c, 0⟩], u.length, 0) := by
  have hn := nextN_tok h [] (by intro _ b hb; simp at hb)
  rw [List.append_nil] at hn
  have hp := h.pos
  have hr := (Reach.nil (l := u)).snoc (by omega) (by rw [List.drop_zero]; exact hn)
  have := reach_end h.rg hr (by omega)
  simpa using this

theorem code_tok {u : List Int} {k : Int} {t : List Int} {c : Int} (h : Tok u k t c) (hl : u.length ≤ 4096) : codeL k t c = signsL k t c := by
  obtain ⟨h1, h2⟩ := h.signs
  have hlen : (signsL k t c).length = u.length := by have := congrArg List.length h2; simpa using this
  have hc := h.num
  have ht := h.text
  unfold codeL
  rw [if_neg (by omega)]
  have ha : answer (signsL k t c) = ([⟨k, t, c, 0⟩], (signsL k t c).length, 0) := by
    unfold answer
    rw [if_neg (by omega)]
    exact tall_one h1
  rw [ha]
  simp

/-- The signs of tokens, one behind the other. -/
def codesL (T : List Tk) : List Int := T.flatMap (fun x => codeL x.kind x.text x.count)
theorem codesL_snoc (T : List Tk) (x : Tk) : codesL (T ++ [x]) = codesL T ++ codeL x.kind x.text x.count := by simp [codesL]
theorem codesL_next (T : List Tk) (i : Nat) (x : Tk) (h : T[i]? = some x) : codesL (T.take (i + 1)) = codesL (T.take i) ++ codeL x.kind x.text x.count := by
  have hi := (List.getElem?_eq_some_iff.1 h)
  rw [List.take_add_one, h]
  exact codesL_snoc _ _

theorem map_len {a b : List Int} (h : a.map lowB = b.map lowB) : a.length = b.length := by have := congrArg List.length h; simpa using this

theorem reach_codes {l : List Int} (hl : Rg l) (hz : l.length ≤ 4096) {T : List Tk} {a : Nat} (h : Reach l T a) :
    Rg (codesL T) ∧ (codesL T).map lowB = (l.take a).map lowB ∧ (∀ q, Agree q (l.drop a) → Reach (codesL T ++ q) T a) ∧
      ∀ (i : Nat) (x : Tk), T[i]? = some x → (codesL (T.take i)).length = x.place ∧ codeL x.kind x.text x.count ≠ [] ∧ Rg x.text ∧ x.text.length ≤ 4096 ∧ (codesL (T.take (i + 1))).length ≤ a := by
  induction h with
  | nil => exact ⟨fun x hx => by simp [codesL] at hx, by simp [codesL], fun q _ => .nil, fun i x hx => by simp at hx⟩
  | @snoc T a k t c n h1 h2 h3 ih =>
    obtain ⟨i1, i2, i3, i4⟩ := ih
    obtain ⟨u, q0, e1, e2, e3, e4, e5, e6⟩ := next_at hl h3
    have hle := (h1.le hl).1
    have hta : (l.take a).length = a := by rw [List.length_take]; omega
    have hca : (codesL T).length = a := by rw [map_len i2, hta]
    have hul : u.length ≤ 4096 := by
      have := congrArg List.length e1
      rw [List.length_drop, List.length_append] at this
      omega
    obtain ⟨s1, s2⟩ := e3.signs
    have hcd := code_tok e3 hul
    have hsl : (signsL k t c).length = n := by rw [map_len s2, e2]
    have htk : l.take (a + n) = l.take a ++ u := by rw [List.take_add, e1, ← e2, List.take_left]
    have hcs : codesL (T ++ [⟨k, t, c, a⟩]) = codesL T ++ signsL k t c := by rw [codesL_snoc]; simp only; rw [hcd]
    refine ⟨?_, ?_, ?_, ?_⟩
    · rw [hcs]; exact rg_app i1 s1.rg
    · rw [hcs, htk, List.map_append, List.map_append, i2, s2]
    · intro q hq
      rw [e6] at hq
      rw [hcs, List.append_assoc]
      have hag : Agree (signsL k t c ++ q) (l.drop a) := by
        intro b hb
        right
        rw [e1]
        match signsL k t c, u, s2, hsl, e2, hb with
        | y :: s, z :: u, s2, _, _, hb =>
          simp only [List.map_cons, List.cons.injEq] at s2
          simp at hb
          subst hb
          simp [s2.1]
        | [], _, _, hsl, _, _ => simp at hsl; omega
        | _ :: _, [], _, _, e2, _ => simp at e2; omega
      have hr := i3 _ hag
      have := hr.snoc (k := k) (t := t) (c := c) (n := n) (by rw [List.length_append, List.length_append, hca, hsl]; omega) (by
        have hd : (codesL T ++ (signsL k t c ++ q)).drop a = signsL k t c ++ q := by
          have := List.drop_left (l₁ := codesL T) (l₂ := signsL k t c ++ q)
          rwa [hca] at this
        rw [hd, nextN_tok s1 q (ends_agree e3 e4 hq), hsl])
      exact this
    · intro i x hx
      rcases Nat.lt_or_ge i T.length with hi | hi
      · rw [List.getElem?_append_left hi] at hx
        obtain ⟨j1, j2, j3, j4, j5⟩ := i4 i x hx
        rw [List.take_append_of_le_length (by omega), List.take_append_of_le_length (by omega)]
        exact ⟨j1, j2, j3, j4, by omega⟩
      · have hi' : i = T.length := by
          have := (List.getElem?_eq_some_iff.1 hx).1
          rw [List.length_append, List.length_singleton] at this
          omega
        subst hi'
        rw [List.getElem?_append_right (Nat.le_refl _)] at hx
        simp at hx
        subst hx
        have ht := e3.text
        rw [List.take_left, hca]
        refine ⟨rfl, ?_, ht.1, by simp only; omega, ?_⟩
        · simp only
          rw [hcd]
          intro h
          rw [h] at hsl
          simp at hsl
          omega
        · rw [List.take_of_length_le (by simp), hcs, List.length_append, hca, hsl]; omega

/-- What the signs of all tokens of a code are, put together. -/
theorem back_facts {l : List Int} (hl : Rg l) (hz : l.length ≤ 4096) (h : (tall l).2.2 = 0) :
    (tall l).2.1 = l.length ∧ Rg (codesL (tall l).1) ∧ (codesL (tall l).1).map lowB = l.map lowB ∧ tall (codesL (tall l).1) = ((tall l).1, l.length, 0) ∧ (tall l).1.length ≤ l.length ∧
      ∀ (i : Nat) (x : Tk), (tall l).1[i]? = some x → (codesL ((tall l).1.take i)).length = x.place ∧ codeL x.kind x.text x.count ≠ [] ∧ Rg x.text ∧ x.text.length ≤ 4096 ∧ (codesL ((tall l).1.take (i + 1))).length ≤ l.length := by
  rcases tall_cases hl with ⟨T, r1, r2⟩ | ⟨T, a, o, e, r1, r2, r3, r4⟩
  · obtain ⟨c1, c2, c3, c4⟩ := reach_codes hl hz r1
    rw [r2]
    simp only
    rw [List.take_length] at c2
    refine ⟨trivial, c1, c2, ?_, (r1.le hl).2, c4⟩
    have := c3 [] (by intro b hb; simp at hb)
    rw [List.append_nil] at this
    exact reach_end c1 this (by rw [map_len c2]; exact Nat.le_refl _)
  · rw [r4] at h
    exact absurd h (no_err hl r2 r3)
end Go.Proofs.YtaokmegoheofjaaDoor
