/- Plain mathematics of layer 1: signs as lists of byte values; no program. -/
import Derived.Laws.BytesArg
namespace Go.Proofs.YtiemiekkjaknfaaDoor
set_option linter.unusedVariables false
set_option linter.unusedSimpArgs false

def rsize (n : Int) : Int := if n < 0 ∨ 1114111 < n ∨ (55296 ≤ n ∧ n ≤ 57343) then 0 else if n < 128 then 1 else if n < 2048 then 2 else if n < 65536 then 3 else 4

def nums (n : Int) : List Int := if n < 128 then [n] else if n < 2048 then [192 + n / 64, 128 + n % 64] else if n < 65536 then [224 + n / 4096, 128 + n / 64 % 64, 128 + n % 64] else [240 + n / 262144, 128 + n / 4096 % 64, 128 + n / 64 % 64, 128 + n % 64]

def isB (n : Int) : Bool := decide (rsize n ≠ 0)
def rtext (n : Int) : ByteArray := if rsize n = 0 then ⟨#[]⟩ else strOfNums (nums n)
def rclaim (b : Int) : Int := if b < 192 then 1 else if b < 224 then 2 else if b < 240 then 3 else 4

def ints (s : ByteArray) : List Int := s.data.toList.map fun b => (b.toNat : Int)

def rfirst : List Int → Int × Int × Bool
  | [] => (0, 0, false)
  | b0 :: r =>
    if b0 < 192 then (if rsize b0 = 1 then (b0, 1, true) else (0, 0, false))
    else if b0 < 224 then
      match r with
      | b1 :: _ => if 128 ≤ b1 ∧ b1 < 192 ∧ rsize ((b0 - 192) * 64 + (b1 - 128)) = 2 then ((b0 - 192) * 64 + (b1 - 128), 2, true) else (0, 0, false)
      | _ => (0, 0, false)
    else if b0 < 240 then
      match r with
      | b1 :: b2 :: _ => if 128 ≤ b1 ∧ b1 < 192 ∧ 128 ≤ b2 ∧ b2 < 192 ∧ rsize (((b0 - 224) * 64 + (b1 - 128)) * 64 + (b2 - 128)) = 3 then (((b0 - 224) * 64 + (b1 - 128)) * 64 + (b2 - 128), 3, true) else (0, 0, false)
      | _ => (0, 0, false)
    else
      match r with
      | b1 :: b2 :: b3 :: _ => if 128 ≤ b1 ∧ b1 < 192 ∧ 128 ≤ b2 ∧ b2 < 192 ∧ 128 ≤ b3 ∧ b3 < 192 ∧ rsize ((((b0 - 240) * 64 + (b1 - 128)) * 64 + (b2 - 128)) * 64 + (b3 - 128)) = 4 then ((((b0 - 240) * 64 + (b1 - 128)) * 64 + (b2 - 128)) * 64 + (b3 - 128), 4, true) else (0, 0, false)
      | _ => (0, 0, false)

theorem ints_length (s : ByteArray) : (ints s).length = s.size := by simp [ints]
theorem at_ints (s : ByteArray) (k : Nat) (h : k < s.size) : (s[k].toNat : Int) = (ints s)[k]?.getD 0 := by
  have h' : k < (ints s).length := by rw [ints_length]; exact h
  rw [List.getElem?_eq_getElem h']
  simp [ints]; rfl
theorem ints_range (s : ByteArray) (x : Int) (h : x ∈ ints s) : 0 ≤ x ∧ x ≤ 255 := by
  simp only [ints, List.mem_map] at h
  obtain ⟨b, _, rfl⟩ := h
  have := b.toNat_lt
  omega

theorem rsize_cases (n : Int) : (rsize n = 0 ∧ (n < 0 ∨ 1114111 < n ∨ (55296 ≤ n ∧ n ≤ 57343))) ∨ (rsize n = 1 ∧ 0 ≤ n ∧ n < 128) ∨ (rsize n = 2 ∧ 128 ≤ n ∧ n < 2048) ∨ (rsize n = 3 ∧ 2048 ≤ n ∧ n < 65536 ∧ ¬ (55296 ≤ n ∧ n ≤ 57343)) ∨ (rsize n = 4 ∧ 65536 ≤ n ∧ n ≤ 1114111) := by
  unfold rsize
  split
  · left; exact ⟨rfl, by assumption⟩
  · split
    · right; left; exact ⟨rfl, by omega, by omega⟩
    · split
      · right; right; left; exact ⟨rfl, by omega, by omega⟩
      · split
        · right; right; right; left; exact ⟨rfl, by omega, by omega, by omega⟩
        · right; right; right; right; exact ⟨rfl, by omega, by omega⟩

theorem nums_length (n : Int) (h : rsize n ≠ 0) : ((nums n).length : Int) = rsize n := by
  rcases rsize_cases n with ⟨a, _⟩ | ⟨a, b, c⟩ | ⟨a, b, c⟩ | ⟨a, b, c, _⟩ | ⟨a, b, c⟩
  · exact absurd a h
  · rw [a, nums, if_pos c]; rfl
  · rw [a, nums, if_neg (by omega), if_pos c]; rfl
  · rw [a, nums, if_neg (by omega), if_neg (by omega), if_pos c]; rfl
  · rw [a, nums, if_neg (by omega), if_neg (by omega), if_neg (by omega)]; rfl

theorem nums_pos (n : Int) : 0 < (nums n).length := by
  unfold nums
  repeat' split
  all_goals simp

/-- A sign's own bytes are told, whatever is behind. -/
theorem rfirst_nums (n : Int) (h : rsize n ≠ 0) (t : List Int) : rfirst (nums n ++ t) = (n, rsize n, true) := by
  rcases rsize_cases n with ⟨a, _⟩ | ⟨a, b, c⟩ | ⟨a, b, c⟩ | ⟨a, b, c, _⟩ | ⟨a, b, c⟩
  · exact absurd a h
  · rw [a, nums, if_pos c]
    simp only [List.cons_append, List.nil_append, rfirst]
    rw [if_pos (by omega), if_pos a]
  · rw [a, nums, if_neg (by omega), if_pos c]
    simp only [List.cons_append, List.nil_append, rfirst]
    have e : (192 + n / 64 - 192) * 64 + (128 + n % 64 - 128) = n := by omega
    rw [if_neg (by omega), if_pos (by omega), e, if_pos ⟨by omega, by omega, a⟩]
  · rw [a, nums, if_neg (by omega), if_neg (by omega), if_pos c]
    simp only [List.cons_append, List.nil_append, rfirst]
    have e : ((224 + n / 4096 - 224) * 64 + (128 + n / 64 % 64 - 128)) * 64 + (128 + n % 64 - 128) = n := by omega
    rw [if_neg (by omega), if_neg (by omega), if_pos (by omega), e, if_pos ⟨by omega, by omega, by omega, by omega, a⟩]
  · rw [a, nums, if_neg (by omega), if_neg (by omega), if_neg (by omega)]
    simp only [List.cons_append, List.nil_append, rfirst]
    have e : (((240 + n / 262144 - 240) * 64 + (128 + n / 4096 % 64 - 128)) * 64 + (128 + n / 64 % 64 - 128)) * 64 + (128 + n % 64 - 128) = n := by omega
    rw [if_neg (by omega), if_neg (by omega), if_neg (by omega), e, if_pos ⟨by omega, by omega, by omega, by omega, by omega, by omega, a⟩]

/-- What rfirst tells: nothing, or a sign whose bytes stand there. -/
theorem rfirst_cases (l : List Int) (hl : ∀ x ∈ l, 0 ≤ x ∧ x ≤ 255) : rfirst l = (0, 0, false) ∨ ∃ n t, rsize n ≠ 0 ∧ l = nums n ++ t ∧ rfirst l = (n, rsize n, true) := by
  match l, hl with
  | [], _ => left; rfl
  | b0 :: r, hl =>
    have g0 := hl b0 (by simp)
    by_cases c1 : b0 < 192
    · by_cases c : rsize b0 = 1
      · right
        have := rsize_cases b0
        refine ⟨b0, r, by omega, ?_, ?_⟩
        · rw [nums, if_pos (by omega)]; rfl
        · simp [rfirst, c1, c]
      · left; simp [rfirst, c1, c]
    · by_cases c2 : b0 < 224
      · match r, hl with
        | [], _ => left; simp [rfirst, c1, c2]
        | b1 :: t, hl =>
          by_cases c : 128 ≤ b1 ∧ b1 < 192 ∧ rsize ((b0 - 192) * 64 + (b1 - 128)) = 2
          · right
            have := rsize_cases ((b0 - 192) * 64 + (b1 - 128))
            refine ⟨(b0 - 192) * 64 + (b1 - 128), t, by omega, ?_, ?_⟩
            · rw [nums, if_neg (by omega), if_pos (by omega)]
              rw [show 192 + ((b0 - 192) * 64 + (b1 - 128)) / 64 = b0 by omega, show 128 + ((b0 - 192) * 64 + (b1 - 128)) % 64 = b1 by omega]; rfl
            · simp only [rfirst]; rw [if_neg c1, if_pos c2, if_pos c, c.2.2]
          · left; simp only [rfirst]; rw [if_neg c1, if_pos c2, if_neg c]
      · by_cases c3 : b0 < 240
        · match r, hl with
          | [], _ => left; simp [rfirst, c1, c2, c3]
          | [_], _ => left; simp [rfirst, c1, c2, c3]
          | b1 :: b2 :: t, hl =>
            by_cases c : 128 ≤ b1 ∧ b1 < 192 ∧ 128 ≤ b2 ∧ b2 < 192 ∧ rsize (((b0 - 224) * 64 + (b1 - 128)) * 64 + (b2 - 128)) = 3
            · right
              have := rsize_cases (((b0 - 224) * 64 + (b1 - 128)) * 64 + (b2 - 128))
              refine ⟨((b0 - 224) * 64 + (b1 - 128)) * 64 + (b2 - 128), t, by omega, ?_, ?_⟩
              · rw [nums, if_neg (by omega), if_neg (by omega), if_pos (by omega)]
                rw [show 224 + (((b0 - 224) * 64 + (b1 - 128)) * 64 + (b2 - 128)) / 4096 = b0 by omega, show 128 + (((b0 - 224) * 64 + (b1 - 128)) * 64 + (b2 - 128)) / 64 % 64 = b1 by omega, show 128 + (((b0 - 224) * 64 + (b1 - 128)) * 64 + (b2 - 128)) % 64 = b2 by omega]; rfl
              · simp only [rfirst]; rw [if_neg c1, if_neg c2, if_pos c3, if_pos c, c.2.2.2.2]
            · left; simp only [rfirst]; rw [if_neg c1, if_neg c2, if_pos c3, if_neg c]
        · match r, hl with
          | [], _ => left; simp [rfirst, c1, c2, c3]
          | [_], _ => left; simp [rfirst, c1, c2, c3]
          | [_, _], _ => left; simp [rfirst, c1, c2, c3]
          | b1 :: b2 :: b3 :: t, hl =>
            by_cases c : 128 ≤ b1 ∧ b1 < 192 ∧ 128 ≤ b2 ∧ b2 < 192 ∧ 128 ≤ b3 ∧ b3 < 192 ∧ rsize ((((b0 - 240) * 64 + (b1 - 128)) * 64 + (b2 - 128)) * 64 + (b3 - 128)) = 4
            · right
              have := rsize_cases ((((b0 - 240) * 64 + (b1 - 128)) * 64 + (b2 - 128)) * 64 + (b3 - 128))
              refine ⟨(((b0 - 240) * 64 + (b1 - 128)) * 64 + (b2 - 128)) * 64 + (b3 - 128), t, by omega, ?_, ?_⟩
              · rw [nums, if_neg (by omega), if_neg (by omega), if_neg (by omega)]
                rw [show 240 + ((((b0 - 240) * 64 + (b1 - 128)) * 64 + (b2 - 128)) * 64 + (b3 - 128)) / 262144 = b0 by omega, show 128 + ((((b0 - 240) * 64 + (b1 - 128)) * 64 + (b2 - 128)) * 64 + (b3 - 128)) / 4096 % 64 = b1 by omega, show 128 + ((((b0 - 240) * 64 + (b1 - 128)) * 64 + (b2 - 128)) * 64 + (b3 - 128)) / 64 % 64 = b2 by omega, show 128 + ((((b0 - 240) * 64 + (b1 - 128)) * 64 + (b2 - 128)) * 64 + (b3 - 128)) % 64 = b3 by omega]; rfl
              · simp only [rfirst]; rw [if_neg c1, if_neg c2, if_neg c3, if_pos c, c.2.2.2.2.2.2]
            · left; simp only [rfirst]; rw [if_neg c1, if_neg c2, if_neg c3, if_neg c]

/-- All signs from the beginning on, and where they end. -/
def rallF : Nat → List Int → List Int × Nat
  | 0, _ => ([], 0)
  | f + 1, l => if (rfirst l).2.2 = true then ((rfirst l).1 :: (rallF f (l.drop (rfirst l).2.1.toNat)).1, (rfirst l).2.1.toNat + (rallF f (l.drop (rfirst l).2.1.toNat)).2) else ([], 0)
def rall (l : List Int) : List Int × Nat := rallF l.length l

theorem rallF_nil (f : Nat) : rallF f [] = ([], 0) := by
  cases f <;> simp [rallF, rfirst]

theorem rallF_nums (f : Nat) (n : Int) (h : rsize n ≠ 0) (t : List Int) : rallF (f + 1) (nums n ++ t) = (n :: (rallF f t).1, (nums n).length + (rallF f t).2) := by
  have hl := nums_length n h
  have e : (rsize n).toNat = (nums n).length := by omega
  simp only [rallF, rfirst_nums n h t, e]
  simp

theorem rallF_no (f : Nat) (l : List Int) (h : rfirst l = (0, 0, false)) : rallF f l = ([], 0) := by
  cases f <;> simp [rallF, h]

/-- More fuel than bytes changes nothing. -/
theorem rallF_fuel : ∀ (f : Nat) (l : List Int), (∀ x ∈ l, 0 ≤ x ∧ x ≤ 255) → l.length ≤ f → rallF f l = rall l := by
  suffices key : ∀ (k f g : Nat) (l : List Int), (∀ x ∈ l, 0 ≤ x ∧ x ≤ 255) → l.length ≤ k → l.length ≤ f → l.length ≤ g → rallF f l = rallF g l from
    fun f l hl h => key l.length f l.length l hl (Nat.le_refl _) h (Nat.le_refl _)
  intro k
  induction k with
  | zero =>
    intro f g l hl h _ _
    have : l = [] := List.length_eq_zero_iff.1 (by omega)
    subst this
    rw [rallF_nil, rallF_nil]
  | succ k ih =>
    intro f g l hl hk hf hg
    rcases rfirst_cases l hl with h | ⟨n, t, hn, rfl, h⟩
    · rw [rallF_no f l h, rallF_no g l h]
    · have hp := nums_pos n
      have hlen : (nums n ++ t).length = (nums n).length + t.length := List.length_append
      match f, g, hf, hg with
      | 0, _, hf, _ => omega
      | f + 1, 0, _, hg => omega
      | f + 1, g + 1, hf, hg =>
        rw [rallF_nums f n hn t, rallF_nums g n hn t, ih f g t (fun x hx => hl x (by simp [hx])) (by omega) (by omega) (by omega)]

theorem rall_nums (n : Int) (h : rsize n ≠ 0) (t : List Int) (ht : ∀ x ∈ t, 0 ≤ x ∧ x ≤ 255) : rall (nums n ++ t) = (n :: (rall t).1, (nums n).length + (rall t).2) := by
  have hp := nums_pos n
  have hlen : (nums n ++ t).length = (nums n).length + t.length := List.length_append
  unfold rall
  obtain ⟨f, hf⟩ : ∃ f, (nums n ++ t).length = f + 1 := ⟨(nums n ++ t).length - 1, by omega⟩
  rw [hf, rallF_nums f n h t, rallF_fuel f t ht (by omega)]
  rfl

theorem rall_no (l : List Int) (h : rfirst l = (0, 0, false)) : rall l = ([], 0) := rallF_no _ l h
theorem rall_nil : rall [] = ([], 0) := rfl

theorem rall_le (k : Nat) : ∀ (l : List Int), l.length ≤ k → (∀ x ∈ l, 0 ≤ x ∧ x ≤ 255) → (rall l).2 ≤ l.length ∧ (rall l).1.length ≤ (rall l).2 := by
  induction k with
  | zero =>
    intro l h hl
    have : l = [] := List.length_eq_zero_iff.1 (by omega)
    subst this
    simp [rall_nil]
  | succ k ih =>
    intro l h hl
    rcases rfirst_cases l hl with h' | ⟨n, t, hn, rfl, h'⟩
    · rw [rall_no l h']; simp
    · have hp := nums_pos n
      have ht : ∀ x ∈ t, 0 ≤ x ∧ x ≤ 255 := fun x hx => hl x (by simp [hx])
      have hlen : (nums n ++ t).length = (nums n).length + t.length := List.length_append
      have := ih t (by omega) ht
      rw [rall_nums n hn t ht]
      simp only [List.length_cons]
      omega

end Go.Proofs.YtiemiekkjaknfaaDoor
