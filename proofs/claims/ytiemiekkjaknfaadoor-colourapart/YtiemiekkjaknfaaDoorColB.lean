/- same of two texts, one of them of bytes up to 7F. -/
import Derived.Test.YtiemiekkjaknfaaDoorColF
namespace Go.Proofs.YtiemiekkjaknfaaDoor
set_option linter.unusedVariables false
set_option linter.unusedSimpArgs false
open Go.RowKit

theorem foldEq_low (x y : UInt8) (hx : x.toNat < 128) (hy : y.toNat < 128) : Lib.foldEq x y = decide (lowB (x.toNat : Int) = lowB (y.toNat : Int)) := by
  unfold Lib.foldEq lowB
  refine decide_eq_decide.2 ?_
  split <;> split <;> omega
theorem equalFold_low : ∀ (a b : List UInt8), (∀ x ∈ a, x.toNat < 128) → (∀ x ∈ b, x.toNat < 128) → Lib.equalFold a b = decide ((a.map fun c => (c.toNat : Int)).map lowB = (b.map fun c => (c.toNat : Int)).map lowB)
  | [], [], _, _ => by simp [Lib.equalFold]
  | [], y :: b, _, _ => by simp [Lib.equalFold]
  | x :: a, [], _, _ => by simp [Lib.equalFold]
  | x :: a, y :: b, hx, hy => by
    have ih := equalFold_low a b (fun z hz => hx z (by simp [hz])) (fun z hz => hy z (by simp [hz]))
    rw [Lib.equalFold, ih, foldEq_low x y (hx x (by simp)) (hy y (by simp))]
    rw [Bool.eq_iff_iff]
    simp only [Bool.and_eq_true, decide_eq_true_eq, List.map_cons, List.cons.injEq]

theorem dec_big (n b0 b1 b2 b3 : Nat) (h : 128 ≤ b0) : 128 ≤ (Lib.decodeN n b0 b1 b2 b3).1 := by
  unfold Lib.decodeN
  rw [if_neg (by omega)]
  repeat' split
  all_goals (simp only; omega)
theorem asc_none (s : ByteArray) (h : Asc s) : ∀ (f p : Nat), Lib.idxFuncFrom (fun x => decide (127 < x)) true s f p = -1
  | 0, _ => rfl
  | f + 1, p => by
    unfold Lib.idxFuncFrom
    split
    · rename_i hp
      have hd : Utf8.decode s p = ((s[p]'hp).toNat, 1) := by rw [Lib.decode_at, get_nat s p hp]; exact dec_0 _ _ _ _ _ (h p hp)
      have := h p hp
      rw [hd]
      simp only
      rw [if_neg (by simp; omega)]
      exact asc_none s h f _
    · rfl
theorem big_some (s : ByteArray) (k : Nat) (hk : k < s.size) (hb : 128 ≤ (s[k]'hk).toNat) (ha : ∀ j (h : j < s.size), j < k → (s[j]'h).toNat < 128) :
    ∀ (f p : Nat), p ≤ k → s.size ≤ p + f → 0 ≤ Lib.idxFuncFrom (fun x => decide (127 < x)) true s f p
  | 0, p, hp, hf => by omega
  | f + 1, p, hp, hf => by
    unfold Lib.idxFuncFrom
    rw [if_pos (by omega)]
    have hps : p < s.size := by omega
    by_cases e : p = k
    · subst e
      have := dec_big (s.size - p) (s.get! p).toNat (s.get! (p + 1)).toNat (s.get! (p + 2)).toNat (s.get! (p + 3)).toNat (by rw [get_nat s p hk]; exact hb)
      rw [← Lib.decode_at] at this
      rw [if_pos (by simp; omega)]
      omega
    · have h7 := ha p hps (by omega)
      have hd : Utf8.decode s p = ((s[p]'hps).toNat, 1) := by rw [Lib.decode_at, get_nat s p hps]; exact dec_0 _ _ _ _ _ h7
      rw [hd]
      simp only
      rw [if_neg (by simp; omega)]
      exact big_some s k hk hb ha f (p + 1) (by omega) (by omega)
theorem least_big (s : ByteArray) (h : ¬ Asc s) : ∃ k, ∃ hk : k < s.size, 128 ≤ (s[k]'hk).toNat ∧ ∀ j (h : j < s.size), j < k → (s[j]'h).toNat < 128 := by
  have key : ∀ m, m ≤ s.size → (∀ j (h : j < s.size), j < m → (s[j]'h).toNat < 128) ∨ ∃ k, ∃ hk : k < s.size, 128 ≤ (s[k]'hk).toNat ∧ ∀ j (h : j < s.size), j < k → (s[j]'h).toNat < 128 := by
    intro m
    induction m with
    | zero => intro _; exact Or.inl (fun j _ h => by omega)
    | succ m ih =>
      intro hm
      rcases ih (by omega) with k | k
      · by_cases hb : (s[m]'(by omega)).toNat < 128
        · left
          intro j h hj
          by_cases e : j = m
          · subst e; exact hb
          · exact k j h (by omega)
        · exact Or.inr ⟨m, by omega, by omega, k⟩
      · exact Or.inr k
  rcases key s.size (Nat.le_refl _) with k | k
  · exact absurd (fun j hj => k j hj hj) h
  · exact k

theorem asc_ints (t : ByteArray) : Asc t ↔ ∀ x ∈ ints t, x < 128 := by
  constructor
  · intro h x hx
    obtain ⟨k, hk, e⟩ := List.getElem_of_mem hx
    rw [ints_length] at hk
    have h1 := bt_at t k hk
    have h2 := bt_get t k hk
    rw [List.getElem?_eq_getElem (by rw [ints_length]; exact hk), e] at h2
    have := h k hk
    injection h2 with h2
    omega
  · intro h k hk
    have h1 := bt_at t k hk
    have := h _ (List.mem_of_getElem? (bt_get t k hk))
    omega
theorem asc_data {t : ByteArray} (h : Asc t) : ∀ x ∈ t.data.toList, x.toNat < 128 := by
  intro x hx
  have := (asc_ints t).1 h (x.toNat : Int) (by unfold ints; exact List.mem_map.2 ⟨x, hx, rfl⟩)
  omega
theorem low_asc {s t : ByteArray} (h : Asc t) (e : low (ints s) = low (ints t)) : Asc s := by
  rw [asc_ints] at h ⊢
  intro x hx
  have hm : lowB x ∈ low (ints t) := by rw [← e]; exact List.mem_map.2 ⟨x, hx, rfl⟩
  obtain ⟨y, hy, hyx⟩ := List.mem_map.1 hm
  have := h y hy
  have hy0 := ints_range t y hy
  unfold lowB at hyx
  split at hyx <;> split at hyx <;> omega

theorem above_any (x : Int) (w : World) : Calls Tryd.prog 35 #[.int .i32 x] w fun e w' => e = .returned (.bool (decide (127 < x))) ∧ w' = w := by
  by_cases h : 127 < x
  · go_enter Tryd.func35, Tryd.ntmps35
    go_wp2
    go_ret
    exact ⟨by simp [h], rfl⟩
  · go_enter Tryd.func35, Tryd.ntmps35
    go_wp2
    go_ret
    exact ⟨by simp [h], rfl⟩

theorem above_told (s : ByteArray) (w : World) : Calls Tryd.prog 37 #[.string s, .func (.func 35) #[] #[]] w fun e w' => e = .returned (.bool (decide (0 ≤ Lib.idxFunc (fun x => decide (127 < x)) true s))) ∧ Fr w w' := by
  refine Tryd.strings_ContainsFunc_runes 35 #[] (enters_of Tryd.func35 (by kernel_rfl) rfl) (fun x => decide (127 < x)) s w ?_
  intro W x hx hb
  refine (above_any (x : Int) W).mono ?_
  rintro e w' ⟨rfl, rfl⟩
  refine ⟨?_, 0, rfl⟩
  have : decide ((127 : Int) < (x : Int)) = decide (127 < x) := decide_eq_decide.2 (by omega)
  rw [this]

set_option maxHeartbeats 1000000 in
set_option maxRecDepth 4000 in
theorem same_any (s t : ByteArray) (w : World) (hU : U8 w) (hF : Folds w) (hs : s.size ≤ 200) (ht : t.size ≤ 200) (hT : Asc t) :
    Calls Tryd.prog 19 #[.string s, .string t] w fun e w' => e = .returned (.bool (decide (low (ints s) = low (ints t)))) ∧ Fr w w' := by
  have HC := hide (fun w => above_told s w)
  by_cases hS : Asc s
  · have hno : decide (0 ≤ Lib.idxFunc (fun x => decide (127 < x)) true s) = false := by
      unfold Lib.idxFunc
      rw [asc_none s hS]
      rfl
    rw [hno] at HC
    have hd : ∀ (u : ByteArray), Asc u → ∀ (j : Nat) b, u.data.toList[j]? = some b → b.toNat < 128 := fun u hu j b hb => asc_data hu b (List.mem_of_getElem? hb)
    have HE := hide (fun w => Tryd.strings_EqualFold s t w (by omega) (hd s hS) (hd t hT))
    rw [equalFold_low _ _ (asc_data hS) (asc_data hT)] at HE
    change Hid (∀ w, Calls Tryd.prog 36 #[.string s, .string t] w fun e w' => e = .returned (.bool (decide (low (ints s) = low (ints t)))) ∧ w' = w) at HE
    clear hd hno hU hF
    cases hq : decide (low (ints s) = low (ints t))
    · rw [hq] at HE
      clear hq
      go_enter Tryd.func19, Tryd.ntmps19
      go_wp2_with fail
      refine (HE.out _).mono ?_
      rintro e w1 ⟨rfl, rfl⟩
      go_wp2_with fail
      go_ret
      exact ⟨rfl, Fr.refl _⟩
    · rw [hq] at HE
      clear hq
      go_enter Tryd.func19, Tryd.ntmps19
      go_wp2_with fail
      refine (HE.out _).mono ?_
      rintro e w1 ⟨rfl, rfl⟩
      go_wp2_with fail
      refine (HC.out _).mono ?_
      rintro e w2 ⟨rfl, f2⟩
      go_wp2_with fail
      go_ret
      exact ⟨rfl, f2⟩
  · have hyes : decide (0 ≤ Lib.idxFunc (fun x => decide (127 < x)) true s) = true := by
      obtain ⟨k, hk, h1, h2⟩ := least_big s hS
      exact decide_eq_true (big_some s k hk h1 h2 s.size 0 (by omega) (by omega))
    rw [hyes] at HC
    have hne : decide (low (ints s) = low (ints t)) = false := decide_eq_false (fun e => hS (low_asc hT e))
    rw [hne]
    have HE := hide (fold_some s t w hU hF hs ht hT)
    clear hyes hne hU hF
    go_enter Tryd.func19, Tryd.ntmps19
    go_wp2_with fail
    refine HE.out.mono ?_
    rintro e w1 ⟨⟨b, rfl⟩, f1⟩
    cases b
    · go_wp2_with fail
      go_ret
      exact ⟨rfl, f1⟩
    · go_wp2_with fail
      refine (HC.out _).mono ?_
      rintro e w2 ⟨rfl, f2⟩
      go_wp2_with fail
      go_ret
      exact ⟨rfl, f1.trans f2⟩
end Go.Proofs.YtiemiekkjaknfaaDoor
