/- Layer 13, plain maths: a condition's text, its sign, its number; what is told of its own text. -/
import Derived.Test.YtmaapdmbkhoigaaDoorDigP
import Derived.Lib.IndexMore
import Derived.Lib.Strings
namespace Go.Proofs.YtmaapdmbkhoigaaDoor
set_option linter.unusedVariables false
set_option linter.unusedSimpArgs false
open Go.Lib (hasPrefix trimPrefix trimLeftB trimRightB)

def digB (b : UInt8) : Bool := decide (48 ≤ b.toNat) && decide (b.toNat ≤ 57)
/-- From 1 to 30 digits. -/
def runD (l : List UInt8) : Bool := decide (1 ≤ l.length) && decide (l.length ≤ 30) && l.all digB
theorem all_dig {l : List UInt8} : l.all digB = true ↔ AllD l := by
  unfold AllD digB
  simp [List.all_eq_true]
theorem runD_iff {l : List UInt8} : runD l = true ↔ 1 ≤ l.length ∧ l.length ≤ 30 ∧ AllD l := by
  unfold runD
  rw [← all_dig]
  simp [Bool.and_eq_true, and_assoc]

/-- Does a minus stand ahead? -/
def neD : List UInt8 → Bool
  | [] => false
  | a :: _ => a == 45
/-- Without a minus ahead. -/
def szD (l : List UInt8) : List UInt8 := if neD l = true then l.tail else l
/-- Up to the point. -/
def whD (l : List UInt8) : List UInt8 := (szD l).takeWhile (fun x => x != 46)
/-- Is there a point? -/
def poD (l : List UInt8) : Bool := decide ((whD l).length < (szD l).length)
/-- Behind the point. -/
def paD (l : List UInt8) : List UInt8 := (szD l).drop ((whD l).length + 1)
def numOk (l : List UInt8) : Bool := runD (whD l) && (!poD l || runD (paD l))
def wD (l : List UInt8) : List UInt8 := trimLeftB (whD l) 48
def pD (l : List UInt8) : List UInt8 := trimRightB (paD l) 48
def nD (l : List UInt8) : Bool := neD l && !(wD l ++ pD l).isEmpty

/-- The sign's way; 0, if none stands ahead. -/
def opD : List UInt8 → Nat
  | [] => 0
  | a :: r => if a = 60 then (match r with | [] => 1 | b :: _ => if b = 61 then 2 else if b = 62 then 6 else 1)
    else if a = 62 then (match r with | [] => 3 | b :: _ => if b = 61 then 4 else 3)
    else if a = 61 then 5 else 0
/-- Behind the sign. -/
def reD (l : List UInt8) : List UInt8 := l.drop (if opD l = 2 ∨ opD l = 4 ∨ opD l = 6 then 2 else 1)
def okD (l : List UInt8) : Bool := decide (opD l ≠ 0) && numOk (reD l)
/-- The ways' signs. -/
def sg : Nat → List UInt8
  | 0 => [60]
  | 1 => [60, 61]
  | 2 => [62]
  | 3 => [62, 61]
  | 4 => [61]
  | _ => [60, 62]

theorem opD_le (l : List UInt8) : opD l ≤ 6 := by
  unfold opD
  split
  · omega
  · split
    · split
      · omega
      · split
        · omega
        · split <;> omega
    · split
      · split
        · omega
        · split <;> omega
      · split <;> omega

theorem numOk_nil : numOk [] = false := by decide
theorem numOk_not {b : UInt8} {r : List UInt8} (h : numOk (b :: r) = true) : b ≠ 61 ∧ b ≠ 62 ∧ b ≠ 60 := by
  refine ⟨?_, ?_, ?_⟩ <;> (rintro rfl; revert h; simp [numOk, whD, szD, neD, runD, digB])

/-- A sign that stands ahead, with a number behind it, is the sign. -/
theorem try_iff (l : List UInt8) (k : Nat) (hk : k < 6) : (hasPrefix l (sg k) = true ∧ numOk (l.drop (sg k).length) = true) ↔ (opD l = k + 1 ∧ numOk (reD l) = true) := by
  unfold hasPrefix
  constructor
  · rintro ⟨h1, h2⟩
    have hp := List.isPrefixOf_iff_prefix.1 h1
    obtain ⟨r, rfl⟩ := hp
    rw [List.drop_left] at h2
    have hne : r ≠ [] := fun e => by rw [e, numOk_nil] at h2; exact Bool.noConfusion h2
    obtain ⟨b, q, rfl⟩ := List.exists_cons_of_ne_nil hne
    obtain ⟨n1, n2, n3⟩ := numOk_not h2
    have hk' : k = 0 ∨ k = 1 ∨ k = 2 ∨ k = 3 ∨ k = 4 ∨ k = 5 := by omega
    rcases hk' with rfl | rfl | rfl | rfl | rfl | rfl <;> simp [sg, opD, reD, n1, n2, n3, h2]
  · rintro ⟨h1, h2⟩
    revert h1 h2
    unfold reD
    cases l with
    | nil => intro h1; simp [opD] at h1
    | cons a r =>
      have hk' : k = 0 ∨ k = 1 ∨ k = 2 ∨ k = 3 ∨ k = 4 ∨ k = 5 := by omega
      cases r with
      | nil =>
        intro h1 h2
        exfalso
        revert h2
        split <;> simp [numOk_nil]
      | cons b q =>
        by_cases ha : a = 60
        · subst ha
          by_cases hb : b = 61
          · subst hb
            rcases hk' with rfl | rfl | rfl | rfl | rfl | rfl <;> simp [opD, sg]
          · by_cases hc : b = 62
            · subst hc
              rcases hk' with rfl | rfl | rfl | rfl | rfl | rfl <;> simp [opD, sg]
            · rcases hk' with rfl | rfl | rfl | rfl | rfl | rfl <;> simp [opD, sg, hb, hc]
        · by_cases ha2 : a = 62
          · subst ha2
            by_cases hb : b = 61
            · subst hb
              rcases hk' with rfl | rfl | rfl | rfl | rfl | rfl <;> simp [opD, sg]
            · rcases hk' with rfl | rfl | rfl | rfl | rfl | rfl <;> simp [opD, sg, hb]
          · by_cases ha3 : a = 61
            · subst ha3
              rcases hk' with rfl | rfl | rfl | rfl | rfl | rfl <;> simp [opD, sg]
            · rcases hk' with rfl | rfl | rfl | rfl | rfl | rfl <;> simp [opD, sg, ha, ha2, ha3]
theorem reD_of {l : List UInt8} {k : Nat} (hk : k < 6) (h : opD l = k + 1) : reD l = l.drop (sg k).length := by
  unfold reD
  rw [h]
  have hk' : k = 0 ∨ k = 1 ∨ k = 2 ∨ k = 3 ∨ k = 4 ∨ k = 5 := by omega
  rcases hk' with rfl | rfl | rfl | rfl | rfl | rfl <;> rfl
theorem okD_iff {l : List UInt8} : okD l = true ↔ ∃ k, k < 6 ∧ opD l = k + 1 ∧ numOk (reD l) = true := by
  have := opD_le l
  unfold okD
  rw [Bool.and_eq_true, decide_eq_true_iff]
  constructor
  · rintro ⟨h1, h2⟩
    exact ⟨opD l - 1, by omega, by omega, h2⟩
  · rintro ⟨k, h1, h2, h3⟩
    exact ⟨by omega, h3⟩

/-- The text of a number. -/
def nuD (n : Bool) (W P : List UInt8) : List UInt8 := (if n = true then [45] else []) ++ ((if W = [] then [48] else W) ++ (if P = [] then [] else 46 :: P))
/-- The text that a condition would have. -/
def txD (op : Nat) (n : Bool) (W P : List UInt8) : List UInt8 := sg (op - 1) ++ nuD n W P
/-- A condition that may be. -/
def mayD (op : Nat) (n : Bool) (W P : List UInt8) : Bool := okD (txD op n W P) && (decide (opD (txD op n W P) = op) && (nD (reD (txD op n W P)) == n) && (wD (reD (txD op n W P)) == W) && (pD (reD (txD op n W P)) == P))

theorem trimLeft_twice (l : List UInt8) : trimLeftB (trimLeftB l 48) 48 = trimLeftB l 48 := by
  unfold trimLeftB
  induction l with
  | nil => rfl
  | cons b m ih =>
    by_cases hb : b = 48
    · subst hb
      rw [List.dropWhile_cons_of_pos (by decide)]
      exact ih
    · rw [List.dropWhile_cons_of_neg (by simpa using hb), List.dropWhile_cons_of_neg (by simpa using hb)]
theorem trimRight_all {l : List UInt8} (h : AllD l) : AllD (trimRightB l 48) := by
  unfold trimRightB
  intro b hb
  rw [List.mem_reverse] at hb
  exact h b (List.mem_reverse.1 (List.dropWhile_sublist _ |>.subset hb))

theorem not46 {b : UInt8} (h : 48 ≤ b.toNat ∧ b.toNat ≤ 57) : (b != 46) = true := by
  rw [bne_iff_ne]
  rintro rfl
  have : (46 : UInt8).toNat = 46 := rfl
  omega
theorem not45 {b : UInt8} (h : 48 ≤ b.toNat ∧ b.toNat ≤ 57) : (b == 45) = false := by
  rw [beq_eq_false_iff_ne]
  rintro rfl
  have : (45 : UInt8).toNat = 45 := rfl
  omega
theorem take46 : ∀ (W R : List UInt8), AllD W → (W ++ 46 :: R).takeWhile (fun x => x != 46) = W
  | [], R, _ => by simp
  | a :: W, R, h => by
    rw [List.cons_append, List.takeWhile_cons, if_pos (not46 (h a (List.mem_cons_self ..))), take46 W R (fun b hb => h b (List.mem_cons_of_mem _ hb))]
theorem take46n : ∀ (W : List UInt8), AllD W → W.takeWhile (fun x => x != 46) = W
  | [], _ => rfl
  | a :: W, h => by
    rw [List.takeWhile_cons, if_pos (not46 (h a (List.mem_cons_self ..))), take46n W (fun b hb => h b (List.mem_cons_of_mem _ hb))]

/-- A point and what stands behind it, or nothing. -/
def tlD : Option (List UInt8) → List UInt8
  | none => []
  | some q => 46 :: q
def hdD (n : Bool) : List UInt8 := if n = true then [45] else []
/-- What is told of a number's text: digits ahead of the point and behind it, with a minus or none. -/
theorem num_of (n : Bool) (U : List UInt8) (V : Option (List UInt8)) (hU : runD U = true) (hV : ∀ q, V = some q → runD q = true) :
    numOk (hdD n ++ (U ++ tlD V)) = true ∧ wD (hdD n ++ (U ++ tlD V)) = trimLeftB U 48 ∧ pD (hdD n ++ (U ++ tlD V)) = trimRightB (V.getD []) 48 ∧ neD (hdD n ++ (U ++ tlD V)) = n := by
  obtain ⟨u1, u2, u3⟩ := runD_iff.1 hU
  have hne : U ≠ [] := fun e => by rw [e] at u1; simp at u1
  have hn : neD (hdD n ++ (U ++ tlD V)) = n := by
    cases n with
    | true => rfl
    | false =>
      obtain ⟨a, r, rfl⟩ := List.exists_cons_of_ne_nil hne
      simp [neD, hdD, not45 (u3 a (List.mem_cons_self ..))]
  have hs : szD (hdD n ++ (U ++ tlD V)) = U ++ tlD V := by
    unfold szD
    rw [hn]
    cases n with
    | true => rfl
    | false => rfl
  generalize hdD n ++ (U ++ tlD V) = T at *
  cases V with
  | none =>
    simp only [tlD, List.append_nil] at hs
    have hw : whD T = U := by unfold whD; rw [hs, take46n U u3]
    have hp : paD T = [] := by unfold paD; rw [hw, hs, List.drop_of_length_le (by omega)]
    have ho : poD T = false := by unfold poD; rw [hw, hs]; simp
    refine ⟨by unfold numOk; rw [hw, ho, hU]; rfl, by unfold wD; rw [hw], by unfold pD; rw [hp]; rfl, hn⟩
  | some q =>
    simp only [tlD] at hs
    have hw : whD T = U := by unfold whD; rw [hs, take46 U q u3]
    have hp : paD T = q := by
      unfold paD
      rw [hw, hs, show U ++ 46 :: q = (U ++ [46]) ++ q by simp]
      exact List.drop_left' (by simp)
    refine ⟨by unfold numOk; rw [hw, hp, hU, hV q rfl]; simp, by unfold wD; rw [hw], by unfold pD; rw [hp]; rfl, hn⟩

/-- A sign with a number's text behind it is told as it is. -/
theorem op_of (k : Nat) (hk : k < 6) (T : List UInt8) (h : numOk T = true) : opD (sg k ++ T) = k + 1 ∧ reD (sg k ++ T) = T ∧ okD (sg k ++ T) = true := by
  have h1 := (try_iff (sg k ++ T) k hk).1 ⟨by unfold hasPrefix; exact List.isPrefixOf_iff_prefix.2 (List.prefix_append _ _), by rw [List.drop_left]; exact h⟩
  have h2 := reD_of hk h1.1
  rw [List.drop_left] at h2
  exact ⟨h1.1, h2, okD_iff.2 ⟨k, hk, h1.1, h1.2⟩⟩

/-- A condition whose digits are such as are kept may be. -/
theorem may_of (op : Nat) (n : Bool) (W P : List UInt8) (h1 : 1 ≤ op) (h6 : op ≤ 6) (wA : AllD W) (pA : AllD P) (wl : W.length ≤ 30) (pl : P.length ≤ 30) (wt : trimLeftB W 48 = W) (pt : trimRightB P 48 = P) (hn : n = true → W ++ P ≠ []) :
    mayD op n W P = true := by
  have hU : runD (if W = [] then [48] else W) = true := by
    by_cases c : W = []
    · rw [if_pos c]; decide
    · rw [if_neg c]; exact runD_iff.2 ⟨by have := List.length_pos_iff.2 c; omega, wl, wA⟩
  have hT : trimLeftB (if W = [] then [48] else W) 48 = W := by
    by_cases c : W = []
    · rw [if_pos c, c]; rfl
    · rw [if_neg c]; exact wt
  obtain ⟨V, hV, e1, e2⟩ : ∃ V : Option (List UInt8), (∀ q, V = some q → runD q = true) ∧ tlD V = (if P = [] then [] else 46 :: P) ∧ V.getD [] = P := by
    by_cases c : P = []
    · exact ⟨none, fun q h => (by cases h), by rw [if_pos c]; rfl, by rw [c]; rfl⟩
    · exact ⟨some P, fun q h => by injection h with h; subst h; exact runD_iff.2 ⟨by have := List.length_pos_iff.2 c; omega, pl, pA⟩, by rw [if_neg c]; rfl, rfl⟩
  obtain ⟨a1, a2, a3, a4⟩ := num_of n _ V hU hV
  rw [hT] at a2
  rw [e2, pt] at a3
  rw [e1] at a1 a2 a3 a4
  have et : txD op n W P = sg (op - 1) ++ (hdD n ++ ((if W = [] then [48] else W) ++ (if P = [] then [] else 46 :: P))) := rfl
  generalize hdD n ++ ((if W = [] then [48] else W) ++ (if P = [] then [] else 46 :: P)) = T at *
  obtain ⟨b1, b2, b3⟩ := op_of (op - 1) (by omega) T a1
  unfold mayD
  rw [et, b2, b3, b1, a2, a3]
  have hnn : nD T = n := by
    unfold nD
    rw [a2, a3, a4]
    cases n with
    | false => rfl
    | true =>
      have := hn rfl
      cases hc : W ++ P with
      | nil => exact absurd hc this
      | cons a l => rfl
  rw [hnn]
  simp
  omega
/-- A told condition may be. -/
theorem may_told {l : List UInt8} (h : okD l = true) : mayD (opD l) (nD (reD l)) (wD (reD l)) (pD (reD l)) = true := by
  obtain ⟨k, hk, h1, h2⟩ := okD_iff.1 h
  generalize reD l = T at *
  have h3 := h2
  unfold numOk at h2
  rw [Bool.and_eq_true] at h2
  obtain ⟨c1, c2⟩ := h2
  obtain ⟨u1, u2, u3⟩ := runD_iff.1 c1
  have hp : AllD (paD T) ∧ (paD T).length ≤ 30 := by
    cases ho : poD T with
    | true =>
      rw [ho] at c2
      have := runD_iff.1 (by simpa using c2)
      exact ⟨this.2.2, this.2.1⟩
    | false =>
      have : paD T = [] := by
        unfold poD at ho
        have := of_decide_eq_false ho
        unfold paD
        exact List.drop_of_length_le (by omega)
      rw [this]
      exact ⟨allD_nil, by simp⟩
  refine may_of _ _ _ _ (by omega) (by omega) (trimLeft_all u3) (trimRight_all hp.1) (Nat.le_trans (trimLeft_len _) u2) (Nat.le_trans (trimRight_le _) hp.2) (trimLeft_twice _) (trimRight_twice _) ?_
  intro hn e
  unfold nD at hn
  rw [e] at hn
  simp at hn
theorem may_iff {op : Nat} {n : Bool} {W P : List UInt8} : mayD op n W P = true ↔ okD (txD op n W P) = true ∧ opD (txD op n W P) = op ∧ nD (reD (txD op n W P)) = n ∧ wD (reD (txD op n W P)) = W ∧ pD (reD (txD op n W P)) = P := by
  unfold mayD
  simp [Bool.and_eq_true, and_assoc]
/-- What a condition that may be has. -/
theorem may_has {op : Nat} {n : Bool} {W P : List UInt8} (h : mayD op n W P = true) : 1 ≤ op ∧ op ≤ 6 ∧ AllD W ∧ AllD P ∧ W.length ≤ 30 ∧ P.length ≤ 30 := by
  obtain ⟨h1, h2, h3, h4, h5⟩ := may_iff.1 h
  generalize txD op n W P = l at *
  obtain ⟨k, hk, k1, k2⟩ := okD_iff.1 h1
  generalize reD l = T at *
  unfold numOk at k2
  rw [Bool.and_eq_true] at k2
  obtain ⟨c1, c2⟩ := k2
  obtain ⟨u1, u2, u3⟩ := runD_iff.1 c1
  have hp : AllD (paD T) ∧ (paD T).length ≤ 30 := by
    cases ho : poD T with
    | true =>
      rw [ho] at c2
      have := runD_iff.1 (by simpa using c2)
      exact ⟨this.2.2, this.2.1⟩
    | false =>
      have : paD T = [] := by
        unfold poD at ho
        have := of_decide_eq_false ho
        unfold paD
        exact List.drop_of_length_le (by omega)
      rw [this]
      exact ⟨allD_nil, by simp⟩
  rw [← h4, ← h5]
  exact ⟨by omega, by omega, trimLeft_all u3, trimRight_all hp.1, Nat.le_trans (trimLeft_len _) u2, Nat.le_trans (trimRight_le _) hp.2⟩
end Go.Proofs.YtmaapdmbkhoigaaDoor
