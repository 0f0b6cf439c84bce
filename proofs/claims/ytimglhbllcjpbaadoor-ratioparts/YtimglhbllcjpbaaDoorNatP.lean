/- Plain maths of layer 2: the digits of a natural number in a base, and how sums, differences and comparisons go digit by digit. -/
namespace Go.Proofs.YtimglhbllcjpbaaDoor
set_option linter.unusedVariables false

/-- Digit number j of x in base B. -/
def dg (B x j : Nat) : Nat := x / B ^ j % B

/-- How many digits x has in base B. -/
def nlen (B x : Nat) : Nat := if h : x = 0 ∨ B < 2 then 0 else nlen B (x / B) + 1
  termination_by x
  decreasing_by exact Nat.div_lt_self (by omega) (by omega)

/-- The carry into place i of a sum. -/
def carry (B n m i : Nat) : Nat := (n % B ^ i + m % B ^ i) / B ^ i

/-- The number of a list of digits. -/
def valB (B : Nat) : List Nat → Nat
  | [] => 0
  | x :: r => x + B * valB B r


theorem dg_lt {B : Nat} (hB : 2 ≤ B) (x j : Nat) : dg B x j < B := Nat.mod_lt _ (by omega)
theorem dg_out {B x j : Nat} (h : x < B ^ j) : dg B x j = 0 := by unfold dg; rw [Nat.div_eq_of_lt h, Nat.zero_mod]
theorem dg_zero (B j : Nat) : dg B 0 j = 0 := by unfold dg; simp
theorem nlen_zero (B : Nat) : nlen B 0 = 0 := by unfold nlen; simp
theorem nlen_step {B x : Nat} (hB : 2 ≤ B) (hx : x ≠ 0) : nlen B x = nlen B (x / B) + 1 := by
  rw [nlen, dif_neg (by omega)]
theorem lt_nlen {B : Nat} (hB : 2 ≤ B) : ∀ x, x < B ^ nlen B x := by
  intro x
  induction x using Nat.strongRecOn with
  | _ x ih =>
    by_cases hx : x = 0
    · subst hx; rw [nlen_zero]; simp
    · rw [nlen_step hB hx, Nat.pow_succ]
      have := ih (x / B) (Nat.div_lt_self (by omega) (by omega))
      exact (Nat.div_lt_iff_lt_mul (by omega)).1 this
theorem nlen_low {B : Nat} (hB : 2 ≤ B) : ∀ x, x ≠ 0 → B ^ (nlen B x - 1) ≤ x := by
  intro x
  induction x using Nat.strongRecOn with
  | _ x ih =>
    intro hx
    rw [nlen_step hB hx, Nat.add_sub_cancel]
    by_cases hy : x / B = 0
    · rw [hy, nlen_zero]; simp; omega
    · have h1 := ih (x / B) (Nat.div_lt_self (by omega) (by omega)) hy
      have h2 := nlen_step hB hy
      have h3 : nlen B (x / B) = (nlen B (x / B) - 1) + 1 := by omega
      rw [h3, Nat.pow_succ]
      calc B ^ (nlen B (x / B) - 1) * B ≤ x / B * B := Nat.mul_le_mul_right _ h1
        _ ≤ x := Nat.div_mul_le_self _ _
theorem nlen_le {B x k : Nat} (hB : 2 ≤ B) (h : x < B ^ k) : nlen B x ≤ k := by
  by_cases hx : x = 0
  · subst hx; rw [nlen_zero]; omega
  · have h1 := nlen_low hB x hx
    have h2 : B ^ (nlen B x - 1) < B ^ k := by omega
    have := (Nat.pow_lt_pow_iff_right (by omega)).1 h2
    omega
theorem nlen_eq {B x k : Nat} (hB : 2 ≤ B) (h1 : x < B ^ k) (h2 : k = 0 ∨ B ^ (k - 1) ≤ x) : nlen B x = k := by
  have := nlen_le hB h1
  rcases h2 with h2 | h2
  · omega
  · by_cases hk : nlen B x < k
    · have h3 := lt_nlen hB x
      have h4 : B ^ nlen B x ≤ B ^ (k - 1) := Nat.pow_le_pow_right (by omega) (by omega)
      omega
    · omega
theorem lt_of_nlen {B x k : Nat} (hB : 2 ≤ B) (h : nlen B x ≤ k) : x < B ^ k :=
  Nat.lt_of_lt_of_le (lt_nlen hB x) (Nat.pow_le_pow_right (by omega) h)
theorem nlen_mono {B x k : Nat} (hB : 2 ≤ B) (h : x ≤ k) : nlen B x ≤ nlen B k := nlen_le hB (Nat.lt_of_le_of_lt h (lt_nlen hB k))
theorem nlen_pos {B x : Nat} (hB : 2 ≤ B) (hx : x ≠ 0) : 0 < nlen B x := by rw [nlen_step hB hx]; omega
theorem nlen_nil {B x : Nat} (hB : 2 ≤ B) (h : nlen B x = 0) : x = 0 := by
  by_cases hx : x = 0
  · exact hx
  · have := nlen_pos hB hx; omega

/-- The last digit that may be wanting. -/
theorem lt_of_dg {B x k : Nat} (h : x < B ^ (k + 1)) (h0 : dg B x k = 0) : x < B ^ k := by
  unfold dg at h0
  have hb : 0 < B ^ k := by
    rcases Nat.eq_zero_or_pos (B ^ k) with e | e
    · rw [Nat.pow_succ, e] at h; omega
    · exact e
  have h1 : x / B ^ k < B := (Nat.div_lt_iff_lt_mul hb).2 (by rw [Nat.pow_succ, Nat.mul_comm] at h; exact h)
  rw [Nat.mod_eq_of_lt h1] at h0
  rcases Nat.lt_or_ge x (B ^ k) with l | l
  · exact l
  · have := Nat.div_pos l hb; omega
theorem le_of_dg {B x k : Nat} (h0 : dg B x k ≠ 0) : B ^ k ≤ x := by
  rcases Nat.lt_or_ge x (B ^ k) with l | l
  · exact absurd (dg_out l) h0
  · exact l
theorem div_step {B : Nat} (hB : 2 ≤ B) (x i : Nat) : x / B ^ i = B * (x / B ^ (i + 1)) + dg B x i := by
  unfold dg
  rw [Nat.pow_succ, ← Nat.div_div_eq_div_mul]
  exact (Nat.div_add_mod _ _).symm
theorem mod_step {B : Nat} (x i : Nat) : x % B ^ (i + 1) = x % B ^ i + B ^ i * dg B x i := by
  unfold dg
  rw [Nat.pow_succ, Nat.mod_mul]
theorem dg_of_mod {B : Nat} (x i : Nat) : dg B (x % B ^ (i + 1)) i = dg B x i := by
  unfold dg
  rw [Nat.pow_succ, Nat.mod_mul_right_div_self, Nat.mod_mod]
theorem dg_congr {B : Nat} {x y i : Nat} (h : x % B ^ (i + 1) = y % B ^ (i + 1)) : dg B x i = dg B y i := by
  rw [← dg_of_mod x, ← dg_of_mod y, h]
theorem pow_pos' {B : Nat} (hB : 2 ≤ B) (i : Nat) : 0 < B ^ i := Nat.pow_pos (by omega)

/-- One place of a sum. -/
theorem sum_step {B : Nat} (hB : 2 ≤ B) (n m i : Nat) : dg B n i + dg B m i + carry B n m i = dg B (n + m) i + B * carry B n m (i + 1) := by
  have hp := pow_pos' hB i
  have e1 : dg B n i + dg B m i + carry B n m i = (n % B ^ (i + 1) + m % B ^ (i + 1)) / B ^ i := by
    rw [mod_step, mod_step]
    have : n % B ^ i + B ^ i * dg B n i + (m % B ^ i + B ^ i * dg B m i) = (n % B ^ i + m % B ^ i) + B ^ i * (dg B n i + dg B m i) := by
      rw [Nat.mul_add]; omega
    rw [this, Nat.add_mul_div_left _ _ hp]
    unfold carry
    omega
  have e2 : dg B (n + m) i = dg B (n % B ^ (i + 1) + m % B ^ (i + 1)) i := dg_congr (by rw [Nat.add_mod])
  have e3 : carry B n m (i + 1) = (n % B ^ (i + 1) + m % B ^ (i + 1)) / B ^ i / B := by
    unfold carry
    rw [Nat.div_div_eq_div_mul, ← Nat.pow_succ]
  rw [e1, e2, e3]
  unfold dg
  exact (Nat.mod_add_div _ _).symm
theorem carry_le {B : Nat} (hB : 2 ≤ B) (n m i : Nat) : carry B n m i ≤ 1 := by
  unfold carry
  have hp := pow_pos' hB i
  have h1 := Nat.mod_lt n hp
  have h2 := Nat.mod_lt m hp
  have : (n % B ^ i + m % B ^ i) / B ^ i < 2 := (Nat.div_lt_iff_lt_mul hp).2 (by omega)
  omega
theorem carry_zero (B n m : Nat) : carry B n m 0 = 0 := by unfold carry; simp [Nat.mod_one]
theorem carry_end {B : Nat} (n m i : Nat) (h1 : n < B ^ i) (h2 : m < B ^ i) : carry B n m i = (n + m) / B ^ i := by
  unfold carry; rw [Nat.mod_eq_of_lt h1, Nat.mod_eq_of_lt h2]
theorem sum_lt {B : Nat} {n m i : Nat} (hB : 2 ≤ B) (h1 : n < B ^ i) (h2 : m < B ^ i) : n + m < B ^ (i + 1) := by
  rw [Nat.pow_succ]
  have := Nat.mul_le_mul_left (B ^ i) hB
  omega

/-- The carry of a number times a small one. -/
def tcarry (B x k i : Nat) : Nat := (x % B ^ i * k) / B ^ i
theorem times_step {B : Nat} (hB : 2 ≤ B) (x k i : Nat) : tcarry B x k i + dg B x i * k = dg B (x * k) i + B * tcarry B x k (i + 1) := by
  have hp := pow_pos' hB i
  have e1 : tcarry B x k i + dg B x i * k = x % B ^ (i + 1) * k / B ^ i := by
    rw [mod_step, Nat.add_mul, Nat.mul_assoc, Nat.add_mul_div_left _ _ hp]
    rfl
  have e2 : dg B (x * k) i = dg B (x % B ^ (i + 1) * k) i := dg_congr (by rw [Nat.mul_mod x k, Nat.mul_mod (x % B ^ (i + 1)) k, Nat.mod_mod])
  have e3 : tcarry B x k (i + 1) = x % B ^ (i + 1) * k / B ^ i / B := by
    unfold tcarry
    rw [Nat.div_div_eq_div_mul, ← Nat.pow_succ]
  rw [e1, e2, e3]
  unfold dg
  exact (Nat.mod_add_div _ _).symm
theorem tcarry_lt {B : Nat} (hB : 2 ≤ B) (x k i : Nat) (hk : 0 < k) : tcarry B x k i < k := by
  unfold tcarry
  have hp := pow_pos' hB i
  have h1 := Nat.mod_lt x hp
  exact (Nat.div_lt_iff_lt_mul hp).2 (by rw [Nat.mul_comm k]; exact Nat.mul_lt_mul_of_pos_right h1 hk)
theorem tcarry_zero (B x k : Nat) : tcarry B x k 0 = 0 := by unfold tcarry; simp [Nat.mod_one]
theorem tcarry_end {B : Nat} (x k i : Nat) (h1 : x < B ^ i) : tcarry B x k i = x * k / B ^ i := by
  unfold tcarry; rw [Nat.mod_eq_of_lt h1]

/-- Comparing from the top. -/
theorem cmp_lt {B : Nat} (hB : 2 ≤ B) {n m i : Nat} (h : n / B ^ (i + 1) = m / B ^ (i + 1)) (hd : dg B n i < dg B m i) : n < m := by
  have h1 := div_step hB n i
  have h2 := div_step hB m i
  rw [h] at h1
  have h3 : n / B ^ i < m / B ^ i := by omega
  rcases Nat.lt_or_ge n m with l | l
  · exact l
  · have := Nat.div_le_div_right (c := B ^ i) l; omega
theorem cmp_eq {B : Nat} (hB : 2 ≤ B) {n m i : Nat} (h : n / B ^ (i + 1) = m / B ^ (i + 1)) (hd : dg B n i = dg B m i) : n / B ^ i = m / B ^ i := by
  rw [div_step hB n i, div_step hB m i, h, hd]

/-- Lists of digits. -/
theorem valB_lt {B : Nat} (hB : 2 ≤ B) : ∀ (L : List Nat), (∀ d ∈ L, d < B) → valB B L < B ^ L.length
  | [], _ => by simp [valB]
  | x :: r, h => by
    have h1 := h x (by simp)
    have h2 := valB_lt hB r (fun d hd => h d (by simp [hd]))
    simp only [valB, List.length_cons, Nat.pow_succ]
    have h3 := Nat.mul_le_mul_left B h2
    rw [Nat.mul_comm B (B ^ r.length)] at h3
    have h4 : B * (valB B r + 1) = B * valB B r + B := by rw [Nat.mul_add, Nat.mul_one]
    simp only [Nat.succ_eq_add_one] at h3
    omega
theorem dg_valB {B : Nat} (hB : 2 ≤ B) : ∀ (L : List Nat) (j : Nat), (∀ d ∈ L, d < B) → dg B (valB B L) j = L.getD j 0
  | [], j, _ => by simp [valB, dg_zero]
  | x :: r, 0, h => by
    have h1 := h x (by simp)
    simp only [valB, dg, Nat.pow_zero, Nat.div_one, Nat.add_mul_mod_self_left]
    simp [Nat.mod_eq_of_lt h1]
  | x :: r, j + 1, h => by
    have h1 := h x (by simp)
    have h2 := dg_valB hB r j (fun d hd => h d (by simp [hd]))
    have e : dg B (valB B (x :: r)) (j + 1) = dg B (valB B r) j := by
      simp only [valB, dg, Nat.pow_succ]
      rw [Nat.mul_comm (B ^ j) B, ← Nat.div_div_eq_div_mul, Nat.add_mul_div_left _ _ (by omega : 0 < B), Nat.div_eq_of_lt h1, Nat.zero_add]
    rw [e, h2]
    simp [List.getD_eq_getElem?_getD]
theorem valB_drop (B : Nat) (L : List Nat) (i : Nat) (hi : i < L.length) : valB B (L.drop i) = L.getD i 0 + B * valB B (L.drop (i + 1)) := by
  rw [List.drop_eq_getElem_cons hi]
  simp [valB, List.getD_eq_getElem?_getD, List.getElem?_eq_getElem hi]
end Go.Proofs.YtimglhbllcjpbaaDoor
