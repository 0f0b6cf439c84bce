/- Plain mathematics of layer 11: the tokens of a code, on lists of byte values; no program. -/
import Derived.Test.YtiemiekkjaknfaaDoorRunesQ
namespace Go.Proofs.YtiemiekkjaknfaaDoor
set_option linter.unusedVariables false
set_option linter.unusedSimpArgs false

def lowB (b : Int) : Int := if 65 ≤ b ∧ b ≤ 90 then b + 32 else b
def dates : List Int := [121, 109, 100, 104, 115]
def plainB : List Int := [36, 45, 43, 40, 41, 58, 33, 94, 38, 39, 126, 123, 125, 60, 62, 61, 32, 49, 50, 51, 52, 53, 54, 55, 56, 57]
def amW : List Int := [97, 109, 47, 112, 109]
def apW : List Int := [97, 47, 112]
def genW : List Int := [103, 101, 110, 101, 114, 97, 108]
def amT : List Int := [65, 77, 47, 80, 77]
def apT : List Int := [65, 47, 80]
def genT : List Int := [71, 101, 110, 101, 114, 97, 108]

/-- The kind of the tokens that a byte begins. -/
def kindB (c : Int) : Int :=
  if c = 34 then 1 else if c = 92 then 2 else if c = 95 then 3 else if c = 42 then 4 else if c = 91 then 5
  else if c = 48 ∨ c = 35 ∨ c = 63 then 6 else if c = 46 then 7 else if c = 44 then 8 else if c = 37 then 9 else if c = 47 then 10 else if c = 59 then 11 else if c = 64 then 12
  else if lowB c = 101 then 13 else if lowB c = 97 then 15 else if lowB c = 103 then 16
  else if lowB c ∈ dates then 14
  else if 128 ≤ c ∨ c ∈ plainB then 17 else 0

structure Tk where
  kind : Int
  text : List Int
  count : Int
  place : Nat

inductive Nx
  | ok (k : Int) (t : List Int) (c : Int) (n : Nat)
  | no (o : Nat) (e : Int)

def upto (last : Int) (r : List Int) : List Int := r.takeWhile (fun b => decide (b ≠ last))

/-- Signs up to a last one; r is what stands behind the first. -/
def quoteN (k last e : Int) (r : List Int) : Nx :=
  if (rall (upto last r)).2 < (upto last r).length then .no (1 + (rall (upto last r)).2) 4
  else if (upto last r).length = r.length then .no (1 + r.length) e
  else .ok k (upto last r) 0 ((upto last r).length + 2)

/-- A mark and a sign; r is what stands behind the mark. -/
def markN (k e : Int) (r : List Int) : Nx :=
  if r = [] then .no 1 e else if (rfirst r).2.2 = true then .ok k (r.take (rfirst r).2.1.toNat) 0 (1 + (rfirst r).2.1.toNat) else .no 1 4

def preL (w l : List Int) : Prop := (l.take w.length).map lowB = w
instance (w l : List Int) : Decidable (preL w l) := by unfold preL; infer_instance

def same (x : Int) (l : List Int) : List Int := l.takeWhile (fun b => decide (lowB b = x))

def powerN (r : List Int) : Nx :=
  match r with
  | d :: _ => if d = 43 ∨ d = 45 then .ok 13 [d] 1 2 else .no 0 9
  | [] => .no 0 9

/-- The token at the beginning of a text that isn't empty, and how many bytes it has; or how far behind the beginning it is wrong, and the error. -/
def nextN : List Int → Nx
  | [] => .no 0 9
  | c :: r =>
    if kindB c = 1 then quoteN 1 34 5 r
    else if kindB c = 5 then quoteN 5 93 7 r
    else if kindB c = 2 then markN 2 6 r
    else if kindB c = 3 ∨ kindB c = 4 then markN (kindB c) 8 r
    else if kindB c = 13 then powerN r
    else if kindB c = 15 then (if preL amW (c :: r) then .ok 15 amT 1 5 else if preL apW (c :: r) then .ok 15 apT 1 3 else .no 0 9)
    else if kindB c = 16 then (if preL genW (c :: r) then .ok 16 genT 1 7 else .no 0 9)
    else if kindB c = 14 then .ok 14 [lowB c] (same (lowB c) (c :: r)).length (same (lowB c) (c :: r)).length
    else if kindB c = 0 then .no 0 9
    else if 128 ≤ c then (if (rfirst (c :: r)).2.2 = true then .ok 17 ((c :: r).take (rfirst (c :: r)).2.1.toNat) 1 (rfirst (c :: r)).2.1.toNat else .no 0 4)
    else .ok (kindB c) [c] 1 1

def Rg (l : List Int) : Prop := ∀ x ∈ l, 0 ≤ x ∧ x ≤ 255

/-- A token's own bytes, its kind, its text, its count. -/
inductive Tok : List Int → Int → List Int → Int → Prop
  | quote (t : List Int) : Rg t → (∀ b ∈ t, b ≠ 34) → (rall t).2 = t.length → Tok (34 :: (t ++ [34])) 1 t 0
  | brack (t : List Int) : Rg t → (∀ b ∈ t, b ≠ 93) → (rall t).2 = t.length → Tok (91 :: (t ++ [93])) 5 t 0
  | mark (m x : Int) : (m = 92 ∨ m = 95 ∨ m = 42) → rsize x ≠ 0 → Tok (m :: nums x) (kindB m) (nums x) 0
  | one (b : Int) : 0 ≤ b → b < 128 → (6 ≤ kindB b ∧ kindB b ≤ 12 ∨ kindB b = 17) → Tok [b] (kindB b) [b] 1
  | power (e d : Int) : kindB e = 13 → 0 ≤ e → (d = 43 ∨ d = 45) → Tok [e, d] 13 [d] 1
  | date (u : List Int) (x : Int) : u ≠ [] → Rg u → (∀ b ∈ u, lowB b = x) → x ∈ dates → Tok u 14 [x] u.length
  | ampm (u : List Int) : Rg u → u.map lowB = amW → Tok u 15 amT 1
  | ap (u : List Int) : Rg u → u.map lowB = apW → Tok u 15 apT 1
  | gen (u : List Int) : Rg u → u.map lowB = genW → Tok u 16 genT 1
  | sign (x : Int) : 2 ≤ rsize x → Tok (nums x) 17 (nums x) 1

/-- Nothing of a Date goes on. -/
def Ends (k : Int) (t q : List Int) : Prop := k = 14 → ∀ b, q.head? = some b → [lowB b] ≠ t

theorem takeWhile_cut (p : Int → Bool) (l : List Int) : ∃ q, l = l.takeWhile p ++ q ∧ ∀ b, q.head? = some b → p b = false := by
  induction l with
  | nil => exact ⟨[], rfl, by simp⟩
  | cons a l ih =>
    by_cases h : p a = true
    · obtain ⟨q, h1, h2⟩ := ih
      refine ⟨q, ?_, h2⟩
      rw [List.takeWhile_cons, if_pos h, List.cons_append, ← h1]
    · refine ⟨a :: l, ?_, ?_⟩
      · rw [List.takeWhile_cons, if_neg h]; rfl
      · intro b hb; simp at hb; subst hb; simpa using h

theorem takeWhile_app (p : Int → Bool) (u q : List Int) (hu : ∀ b ∈ u, p b = true) (hq : ∀ b, q.head? = some b → p b = false) : (u ++ q).takeWhile p = u := by
  induction u with
  | nil =>
    cases q with
    | nil => rfl
    | cons b q => simp [hq b rfl]
  | cons a u ih =>
    rw [List.cons_append, List.takeWhile_cons, if_pos (hu a (by simp)), ih (fun b hb => hu b (by simp [hb]))]

theorem mem_takeWhile (p : Int → Bool) (l : List Int) : ∀ b ∈ l.takeWhile p, p b = true := by
  intro b hb
  induction l with
  | nil => simp at hb
  | cons a l ih =>
    by_cases h : p a = true
    · rw [List.takeWhile_cons, if_pos h] at hb
      rcases List.mem_cons.1 hb with rfl | hb
      · exact h
      · exact ih hb
    · rw [List.takeWhile_cons, if_neg h] at hb; simp at hb

theorem upto_cut (last : Int) (r : List Int) : (∀ b ∈ upto last r, b ≠ last) ∧ ((upto last r).length = r.length ∧ upto last r = r ∨ ∃ q, r = upto last r ++ last :: q) := by
  refine ⟨fun b hb => by simpa using mem_takeWhile _ r b hb, ?_⟩
  obtain ⟨q, h1, h2⟩ := takeWhile_cut (fun b => decide (b ≠ last)) r
  match q, h1, h2 with
  | [], h1, _ => left; rw [List.append_nil] at h1; unfold upto; rw [← h1]; exact ⟨rfl, rfl⟩
  | b :: q, h1, h2 =>
    right
    have := h2 b rfl
    simp at this
    subst this
    exact ⟨q, h1⟩
theorem upto_app (last : Int) (t q : List Int) (h : ∀ b ∈ t, b ≠ last) : upto last (t ++ last :: q) = t :=
  takeWhile_app _ t _ (fun b hb => by simpa using h b hb) (fun b hb => by simp at hb; subst hb; simp)
theorem upto_all (last : Int) (t : List Int) (h : ∀ b ∈ t, b ≠ last) : upto last t = t := by
  have := takeWhile_app (fun b => decide (b ≠ last)) t [] (fun b hb => by simpa using h b hb) (by simp)
  rwa [List.append_nil] at this

theorem kindB_34 : kindB 34 = 1 := by decide
theorem kindB_91 : kindB 91 = 5 := by decide
theorem kind_mark {m : Int} (h : m = 92 ∨ m = 95 ∨ m = 42) : kindB m = 2 ∧ m = 92 ∨ kindB m = 3 ∧ m = 95 ∨ kindB m = 4 ∧ m = 42 := by
  rcases h with rfl | rfl | rfl
  · left; decide
  · right; left; decide
  · right; right; decide

theorem kindB_big {c : Int} (h : 128 ≤ c) : kindB c = 17 := by
  have e : lowB c = c := by unfold lowB; rw [if_neg (by omega)]
  have hd : c ∉ dates := by intro hm; simp [dates] at hm; omega
  unfold kindB
  rw [e, if_neg (by omega), if_neg (by omega), if_neg (by omega), if_neg (by omega), if_neg (by omega), if_neg (by omega), if_neg (by omega), if_neg (by omega), if_neg (by omega), if_neg (by omega), if_neg (by omega), if_neg (by omega), if_neg (by omega), if_neg (by omega), if_neg (by omega), if_neg hd, if_pos (Or.inl h)]

/-- All that is known of a byte's kind: by looking at each byte. -/
theorem kind_table : ∀ c : Fin 256, (kindB c = 1 → (c : Int) = 34) ∧ (kindB c = 5 → (c : Int) = 91) ∧ (kindB c = 2 → (c : Int) = 92) ∧ (kindB c = 3 → (c : Int) = 95) ∧ (kindB c = 4 → (c : Int) = 42)
    ∧ (kindB c = 14 → lowB c ∈ dates) ∧ (lowB c ∈ dates → kindB c = 14) ∧ (kindB c = 13 ↔ lowB c = 101) ∧ (kindB c = 15 ↔ lowB c = 97) ∧ (kindB c = 16 ↔ lowB c = 103) ∧ 0 ≤ kindB c ∧ kindB c ≤ 17 ∧ lowB (lowB c) = lowB c := by decide +kernel

theorem kind_facts {c : Int} (h0 : 0 ≤ c) (h1 : c ≤ 255) : (kindB c = 1 → c = 34) ∧ (kindB c = 5 → c = 91) ∧ (kindB c = 2 → c = 92) ∧ (kindB c = 3 → c = 95) ∧ (kindB c = 4 → c = 42)
    ∧ (kindB c = 14 → lowB c ∈ dates) ∧ (lowB c ∈ dates → kindB c = 14) ∧ (kindB c = 13 ↔ lowB c = 101) ∧ (kindB c = 15 ↔ lowB c = 97) ∧ (kindB c = 16 ↔ lowB c = 103) ∧ 0 ≤ kindB c ∧ kindB c ≤ 17 ∧ lowB (lowB c) = lowB c := by
  have := kind_table ⟨c.toNat, by omega⟩
  rw [show (((⟨c.toNat, by omega⟩ : Fin 256) : Nat) : Int) = c by simp; omega] at this
  exact this

theorem rfirst_sign (l : List Int) (hl : Rg l) (h : (rfirst l).2.2 = true) : ∃ x q, rsize x ≠ 0 ∧ l = nums x ++ q ∧ (rfirst l).2.1.toNat = (nums x).length := by
  rcases rfirst_cases l hl with h' | ⟨n, t, hn, h1, h2⟩
  · rw [h'] at h; simp at h
  · refine ⟨n, t, hn, h1, ?_⟩
    rw [h2]
    have := nums_length n hn
    show (rsize n).toNat = _
    omega

theorem head_nums (x : Int) (h : rsize x ≠ 0) : ∃ b r, nums x = b :: r ∧ 0 ≤ b ∧ b ≤ 255 ∧ (rsize x = 1 → b = x ∧ r = [] ∧ b < 128) ∧ (2 ≤ rsize x → 192 ≤ b) := by
  rcases rsize_cases x with ⟨a, _⟩ | ⟨a, b, c⟩ | ⟨a, b, c⟩ | ⟨a, b, c, _⟩ | ⟨a, b, c⟩
  · exact absurd a h
  · exact ⟨x, [], by rw [nums, if_pos c], by omega, by omega, fun _ => ⟨rfl, rfl, c⟩, by omega⟩
  · exact ⟨_, _, by rw [nums, if_neg (by omega), if_pos c], by omega, by omega, by omega, by omega⟩
  · exact ⟨_, _, by rw [nums, if_neg (by omega), if_neg (by omega), if_pos c], by omega, by omega, by omega, by omega⟩
  · exact ⟨_, _, by rw [nums, if_neg (by omega), if_neg (by omega), if_neg (by omega)], by omega, by omega, by omega, by omega⟩

/-- What is told of a text's beginning is a token that stands there. -/
theorem nextN_ok (l : List Int) (hl : Rg l) {k : Int} {t : List Int} {c : Int} {n : Nat} (h : nextN l = .ok k t c n) : ∃ u q, l = u ++ q ∧ u.length = n ∧ Tok u k t c ∧ Ends k t q := by
  match l, hl, h with
  | [], _, h => simp [nextN] at h
  | a :: r, hl, h =>
    have ha := hl a (by simp)
    have hr : Rg r := fun x hx => hl x (by simp [hx])
    obtain ⟨f1, f5, f2, f3, f4, f14, _, f13, f15, f16, fa, fb, fc⟩ := kind_facts ha.1 ha.2
    have quoteCase : ∀ (k' last e : Int), quoteN k' last e r = .ok k t c n → k' ≠ 14 → (∀ t', Rg t' → (∀ b ∈ t', b ≠ last) → (rall t').2 = t'.length → Tok (a :: (t' ++ [last])) k' t' 0) → ∃ u q, a :: r = u ++ q ∧ u.length = n ∧ Tok u k t c ∧ Ends k t q := by
      intro k' last e hq hk' mk
      unfold quoteN at hq
      split at hq
      · cases hq
      · split at hq
        · cases hq
        · rename_i h1 h2
          obtain ⟨g1, g2⟩ := upto_cut last r
          rcases g2 with ⟨g2, _⟩ | ⟨q, g2⟩
          · exact absurd g2 h2
          · simp only [Nx.ok.injEq] at hq
            obtain ⟨rfl, rfl, rfl, rfl⟩ := hq
            have hrg : Rg (upto last r) := fun x hx => hr x (by rw [g2]; simp [hx])
            have hle := rall_le _ (upto last r) (Nat.le_refl _) hrg
            refine ⟨a :: (upto last r ++ [last]), q, ?_, by simp, mk _ hrg g1 (by omega), fun hk => absurd hk hk'⟩
            conv => lhs; rw [g2]
            simp
    have markCase : ∀ (k' e : Int), markN k' e r = .ok k t c n → k' ≠ 14 → (∀ x, rsize x ≠ 0 → Tok (a :: nums x) k' (nums x) 0) → ∃ u q, a :: r = u ++ q ∧ u.length = n ∧ Tok u k t c ∧ Ends k t q := by
      intro k' e hq hk' mk
      unfold markN at hq
      split at hq
      · cases hq
      · split at hq
        · rename_i h1 h2
          obtain ⟨x, q, hx, e1, e2⟩ := rfirst_sign r hr h2
          simp only [Nx.ok.injEq] at hq
          obtain ⟨rfl, rfl, rfl, rfl⟩ := hq
          rw [e2, e1, List.take_left]
          exact ⟨a :: nums x, q, by simp, by simp; omega, mk x hx, fun hk => absurd hk hk'⟩
        · cases hq
    have wordCase : ∀ (w : List Int), preL w (a :: r) → (∀ u, Rg u → u.map lowB = w → Tok u k t c) → k ≠ 14 → n = w.length → ∃ u q, a :: r = u ++ q ∧ u.length = n ∧ Tok u k t c ∧ Ends k t q := by
      intro w hw mk hk hn
      unfold preL at hw
      refine ⟨(a :: r).take w.length, (a :: r).drop w.length, (List.take_append_drop _ _).symm, ?_, mk _ (fun x hx => hl x (List.mem_of_mem_take hx)) hw, fun h => absurd h hk⟩
      have := congrArg List.length hw
      rw [List.length_map] at this
      omega
    simp only [nextN] at h
    by_cases k1 : kindB a = 1
    · rw [if_pos k1] at h
      obtain rfl := f1 k1
      exact quoteCase 1 34 5 h (by decide) (fun t' h1 h2 h3 => Tok.quote t' h1 h2 h3)
    rw [if_neg k1] at h
    by_cases k5 : kindB a = 5
    · rw [if_pos k5] at h
      obtain rfl := f5 k5
      exact quoteCase 5 93 7 h (by decide) (fun t' h1 h2 h3 => Tok.brack t' h1 h2 h3)
    rw [if_neg k5] at h
    by_cases k2 : kindB a = 2
    · rw [if_pos k2] at h
      obtain rfl := f2 k2
      exact markCase 2 6 h (by decide) (fun x hx => by have := Tok.mark 92 x (by simp) hx; rwa [k2] at this)
    rw [if_neg k2] at h
    by_cases k34 : kindB a = 3 ∨ kindB a = 4
    · rw [if_pos k34] at h
      have hm : a = 95 ∨ a = 42 := by
        rcases k34 with hk | hk
        · exact Or.inl (f3 hk)
        · exact Or.inr (f4 hk)
      exact markCase _ 8 h (by omega) (fun x hx => Tok.mark a x (by omega) hx)
    rw [if_neg k34] at h
    by_cases k13 : kindB a = 13
    · rw [if_pos k13] at h
      match r, h with
      | [], h => simp [powerN] at h
      | d :: r', h =>
        by_cases hd : d = 43 ∨ d = 45
        · simp only [powerN, if_pos hd, Nx.ok.injEq] at h
          obtain ⟨rfl, rfl, rfl, rfl⟩ := h
          exact ⟨[a, d], r', rfl, rfl, Tok.power a d k13 ha.1 hd, fun h => by omega⟩
        · simp [powerN, if_neg hd] at h
    rw [if_neg k13] at h
    by_cases k15 : kindB a = 15
    · rw [if_pos k15] at h
      by_cases hw : preL amW (a :: r)
      · rw [if_pos hw] at h
        simp only [Nx.ok.injEq] at h
        obtain ⟨rfl, rfl, rfl, rfl⟩ := h
        exact wordCase amW hw (fun u h1 h2 => Tok.ampm u h1 h2) (by decide) rfl
      rw [if_neg hw] at h
      by_cases hw : preL apW (a :: r)
      · rw [if_pos hw] at h
        simp only [Nx.ok.injEq] at h
        obtain ⟨rfl, rfl, rfl, rfl⟩ := h
        exact wordCase apW hw (fun u h1 h2 => Tok.ap u h1 h2) (by decide) rfl
      rw [if_neg hw] at h
      cases h
    rw [if_neg k15] at h
    by_cases k16 : kindB a = 16
    · rw [if_pos k16] at h
      by_cases hw : preL genW (a :: r)
      · rw [if_pos hw] at h
        simp only [Nx.ok.injEq] at h
        obtain ⟨rfl, rfl, rfl, rfl⟩ := h
        exact wordCase genW hw (fun u h1 h2 => Tok.gen u h1 h2) (by decide) rfl
      rw [if_neg hw] at h
      cases h
    rw [if_neg k16] at h
    by_cases k14 : kindB a = 14
    · rw [if_pos k14] at h
      simp only [Nx.ok.injEq] at h
      obtain ⟨rfl, rfl, rfl, rfl⟩ := h
      obtain ⟨q, e1, e2⟩ := takeWhile_cut (fun b => decide (lowB b = lowB a)) (a :: r)
      refine ⟨same (lowB a) (a :: r), q, e1, rfl, Tok.date _ _ ?_ (fun x hx => hl x ?_) (fun b hb => by simpa using mem_takeWhile _ _ b hb) (f14 k14), ?_⟩
      · unfold same; rw [List.takeWhile_cons, if_pos (by simp)]; simp
      · rw [e1]; exact List.mem_append_left _ hx
      · intro _ b hb
        have := e2 b hb
        simpa using this
    rw [if_neg k14] at h
    by_cases k0 : kindB a = 0
    · rw [if_pos k0] at h
      cases h
    rw [if_neg k0] at h
    by_cases hb : 128 ≤ a
    · rw [if_pos hb] at h
      by_cases hf : (rfirst (a :: r)).2.2 = true
      · rw [if_pos hf] at h
        obtain ⟨x, q, hx, e1, e2⟩ := rfirst_sign (a :: r) hl hf
        simp only [Nx.ok.injEq] at h
        obtain ⟨rfl, rfl, rfl, rfl⟩ := h
        obtain ⟨b, r', g1, g2, g3, g4, g5⟩ := head_nums x hx
        have hn1 : rsize x ≠ 1 := by
          intro h1
          have h2 := g4 h1
          rw [g1, List.cons_append, List.cons.injEq] at e1
          omega
        have hc := rsize_cases x
        refine ⟨nums x, q, e1, e2.symm, ?_, fun h => by omega⟩
        rw [e2, e1, List.take_left]
        exact Tok.sign x (by omega)
      · rw [if_neg hf] at h
        cases h
    rw [if_neg hb] at h
    simp only [Nx.ok.injEq] at h
    obtain ⟨rfl, rfl, rfl, rfl⟩ := h
    exact ⟨[a], r, rfl, rfl, Tok.one a ha.1 (by omega) (by omega), fun h => by omega⟩

end Go.Proofs.YtiemiekkjaknfaaDoor
