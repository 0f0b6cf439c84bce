/- The document's rounding: Cut. -/
import Derived.Test.YthdgdomgcogpjaaDoorDecX
import Derived.Test.YthdgdomgcogpjaaDoorPackD
import Derived.Test.YthdgdomgcogpjaaDoorRoundP
import Derived.Test.YthdgdomgcogpjaaDoorRoundQ
import Derived.Test.YthdgdomgcogpjaaDoorRoundS
namespace Go.Proofs.YthdgdomgcogpjaaDoor
set_option linter.unusedVariables false
set_option linter.unusedSimpArgs false
open Go.RowKit
open Go.Lib (decDigits)

attribute [local go_sem] World.cell?_alloc_some
theorem nlen_div10 {x n : Nat} (hn : n < nlen 10 x) : nlen 10 (x / 10 ^ n) = nlen 10 x - n := by
  have h0 : x ≠ 0 := by rintro rfl; rw [nlen_zero] at hn; omega
  have h1 := lt_nlen (B := 10) (by omega) x
  have h2 := nlen_low (B := 10) (by omega) x h0
  generalize nlen 10 x = L at *
  refine nlen_eq ten2 ?_ (.inr ?_)
  · refine Nat.div_lt_of_lt_mul ?_
    rw [← Nat.pow_add, show n + (L - n) = L by omega]
    exact h1
  · refine (Nat.le_div_iff_mul_le (Nat.pow_pos (by omega))).2 ?_
    rw [← Nat.pow_add, show L - n - 1 + n = L - 1 by omega]
    exact h2
theorem dec_drop {w : World} {b off cap x n : Nat} (hx : nlen 10 x ≤ cap) (hcap : cap ≤ maxLen) (hb : b < w.heap.size) (hc : ∀ j, j < nlen 10 x → w.cell? ⟨b, off + j, none⟩ = some (.int .i64 (dg 10 x j : Int))) (hn : n < nlen 10 x) : IsDec w (.slice (some ⟨b, off + n, none⟩) (nlen 10 x - n) (cap - n)) (x / 10 ^ n) := by
  have hl : nlen 10 (x / 10 ^ n) = nlen 10 x - n := nlen_div10 hn
  refine ⟨some ⟨b, off + n, none⟩, cap - n, by rw [hl], by rw [hl]; omega, by omega, ?_⟩
  rw [hl]
  refine .inr ⟨b, off + n, rfl, hb, fun j hj => ?_⟩
  have := hc (n + j) (by omega)
  rw [show off + n + j = off + (n + j) by omega, this]
  have e : dg 10 (x / 10 ^ n) j = dg 10 x (n + j) := by
    unfold dg
    rw [Nat.div_div_eq_div_mul, ← Nat.pow_add]
  rw [e]
theorem dec_one (w : World) (t : TypeId) : IsDec (w.alloc (.cells #[.int .i64 1] t)) (.slice (some ⟨w.heap.size, 0, none⟩) 1 1) 1 := by
  have hl : nlen 10 1 = 1 := nlen_eq ten2 (by decide) (.inr (by decide))
  refine ⟨some ⟨w.heap.size, 0, none⟩, 1, by rw [hl], by rw [hl]; omega, by unfold maxLen; omega, ?_⟩
  rw [hl]
  refine .inr ⟨w.heap.size, 0, rfl, by simp, fun j hj => ?_⟩
  obtain rfl : j = 0 := by omega
  simp [go_sem]
  rfl
/-- Decimals D with k behind the point, rounded to p of them. -/
def cutN (D k : Nat) (p : Int) : Nat := if (k : Int) ≤ p then D * 10 ^ (p - k).toNat else rndN D (10 ^ ((k : Int) - p).toNat)
theorem dg_above {D n : Nat} (h : nlen 10 D ≤ n) : dg 10 D n = 0 := by
  unfold dg
  rw [Nat.div_eq_of_lt (lt_of_nlen ten2 h)]
theorem div_above {D n : Nat} (h : nlen 10 D ≤ n) : D / 10 ^ n = 0 := Nat.div_eq_of_lt (lt_of_nlen ten2 h)

set_option maxHeartbeats 1000000 in
set_option maxRecDepth 4000 in
theorem cut_less (a : Option Addr) (D ca k : Nat) (p : Int) (n : Nat) (w : World) (h : IsDec w (.slice a (nlen 10 D) ca) D) (hD : nlen 10 D ≤ 100000) (k1 : k ≤ 100000) (p0 : -100000 ≤ p) (hn : (k : Int) - p = ((n + 1 : Nat) : Int)) (R : Nat) (eR : rndN D (10 ^ (n + 1)) = R) :
    Calls Tryd.prog 38 #[.slice a (nlen 10 D) ca, .int .i64 k, .int .i64 p] w fun e w' => ∃ v, e = .returned v ∧ IsDec w' v R ∧ Fr w w' := by
  have HA := hide h
  obtain ⟨a', ca', e1, a2, a3, a4⟩ := h
  simp only [Value.slice.injEq] at e1
  obtain ⟨rfl, _, rfl⟩ := e1
  rw [← cut_rnd] at eR
  have hd9 := dg_lt ten2 D n
  have hgp : ¬ (k : Int) ≤ p := by omega
  rcases Nat.lt_trichotomy (n + 1) (nlen 10 D) with c | c | c
  · have HD : Hid (∃ b off, a = some ⟨b, off, none⟩ ∧ w.cell? ⟨b, off + n, none⟩ = some (.int .i64 (dg 10 D n : Int)) ∧ IsDec w (.slice (some ⟨b, off + (n + 1), none⟩) (nlen 10 D - (n + 1)) (ca - (n + 1))) (D / 10 ^ (n + 1))) := by
      rcases a4 with q | ⟨b, off, rfl, hb, hcs⟩
      · omega
      · exact ⟨b, off, rfl, hcs n (by omega), dec_drop a2 a3 hb hcs c⟩
    obtain ⟨b, off, rfl, hcell, hdr⟩ := HD.out
    have DR := hide hdr
    have nq : nlen 10 (D / 10 ^ (n + 1)) ≤ 100000 := by rw [nlen_div10 c]; omega
    clear hdr a4 HD HA
    generalize D / 10 ^ (n + 1) = Q at *
    generalize dg 10 D n = g at *
    generalize nlen 10 D = N at *
    unfold maxLen at a3
    have i1 : (k : Int) - p ≤ N := by omega
    have i2 : (k : Int) - p < N := by omega
    have i3 : (k : Int) - p - 1 = n := by omega
    have i4 : ((k : Int) - p).toNat = n + 1 := by omega
    have i5 : ¬ ca = n + 1 := by omega
    by_cases hu : 5 ≤ g
    · rw [if_pos hu] at eR
      subst eR
      have hu' : (5 : Int) ≤ g := by omega
      go_enter Tryd.func38, Tryd.ntmps38
      go_wp2_with fail
      refine (refAdd_any _ _ Q 1 _ (DR.out.fr (Fr.alloc _ _)) (dec_one _ _) (by first | omega | (rw [nlen_zero]; omega)) (Nat.le_trans (nlen_le ten2 (show 1 < 10 ^ 1 by decide)) (by omega))).mono ?_
      rintro e w1 ⟨v, rfl, iv, f1⟩
      have RV := hide iv
      have F := hide ((Fr.alloc _ _).trans f1)
      clear iv f1
      go_wp2_with fail
      go_ret
      exact ⟨_, rfl, RV.out, F.out⟩
    · rw [if_neg hu, Nat.add_zero] at eR
      subst eR
      have hu' : ¬ (5 : Int) ≤ g := by omega
      go_enter Tryd.func38, Tryd.ntmps38
      go_wp2_with fail
      go_ret
      exact ⟨_, rfl, DR.out, Fr.refl _⟩
  · have HD : Hid (∃ b off, a = some ⟨b, off, none⟩ ∧ w.cell? ⟨b, off + n, none⟩ = some (.int .i64 (dg 10 D n : Int))) := by
      rcases a4 with q | ⟨b, off, rfl, hb, hcs⟩
      · omega
      · exact ⟨b, off, rfl, hcs n (by omega)⟩
    obtain ⟨b, off, rfl, hcell⟩ := HD.out
    rw [div_above (by omega), Nat.zero_add] at eR
    clear a4 HD HA
    generalize dg 10 D n = g at *
    generalize nlen 10 D = N at *
    unfold maxLen at a3
    subst c
    have i3 : (k : Int) - p - 1 = n := by omega
    have i4 : ((k : Int) - p).toNat = n + 1 := by omega
    by_cases hu : 5 ≤ g
    · rw [if_pos hu] at eR
      subst eR
      have hu' : (5 : Int) ≤ g := by omega
      go_enter Tryd.func38, Tryd.ntmps38
      go_wp2_with fail
      refine (refAdd_any _ _ 0 1 _ (isDec_nil _) (dec_one _ _) (by first | omega | (rw [nlen_zero]; omega)) (Nat.le_trans (nlen_le ten2 (show 1 < 10 ^ 1 by decide)) (by omega))).mono ?_
      rintro e w1 ⟨v, rfl, iv, f1⟩
      have RV := hide iv
      have F := hide ((Fr.alloc _ _).trans f1)
      clear iv f1
      go_wp2_with fail
      go_ret
      exact ⟨_, rfl, RV.out, F.out⟩
    · rw [if_neg hu] at eR
      subst eR
      have hu' : ¬ (5 : Int) ≤ g := by omega
      go_enter Tryd.func38, Tryd.ntmps38
      go_wp2_with fail
      go_ret
      exact ⟨_, rfl, isDec_nil _, Fr.refl _⟩
  · rw [div_above (by omega), dg_above (by omega), Nat.zero_add, if_neg (by omega)] at eR
    subst eR
    clear a4 HA
    generalize nlen 10 D = N at *
    have i1 : ¬ (k : Int) - p ≤ N := by omega
    have i2 : ¬ (k : Int) - p < N := by omega
    go_enter Tryd.func38, Tryd.ntmps38
    go_wp2_with fail
    go_ret
    exact ⟨_, rfl, isDec_nil _, Fr.refl _⟩

set_option maxHeartbeats 1000000 in
set_option maxRecDepth 4000 in
theorem refCut_any (va : Value) (D k : Nat) (p : Int) (w : World) (h : IsDec w va D) (hD : nlen 10 D ≤ 100000) (k1 : k ≤ 100000) (p0 : -100000 ≤ p) (p1 : p ≤ 100000) (R : Nat) (eR : cutN D k p = R) :
    Calls Tryd.prog 38 #[va, .int .i64 k, .int .i64 p] w fun e w' => ∃ v, e = .returned v ∧ IsDec w' v R ∧ Fr w w' := by
  unfold cutN at eR
  by_cases c : (k : Int) ≤ p
  · rw [if_pos c] at eR
    have ER := hide eR
    have HA := hide h
    obtain ⟨a, ca, rfl, a2, a3, a4⟩ := h
    clear a4 eR
    go_enter Tryd.func38, Tryd.ntmps38
    go_wp2_with fail
    refine (refTens_any _ D (p - k) _ HA.out (by omega) (by omega) (by omega)).mono ?_
    rintro e w1 ⟨v, rfl, iv, f1⟩
    have RV : Hid (IsDec w1 v R) := by rw [← ER.out]; exact iv
    have F := hide f1
    clear iv f1
    go_wp2_with fail
    go_ret
    exact ⟨_, rfl, RV.out, F.out⟩
  · rw [if_neg c] at eR
    obtain ⟨n, hn⟩ : ∃ n : Nat, (k : Int) - p = ((n + 1 : Nat) : Int) := ⟨((k : Int) - p - 1).toNat, by omega⟩
    rw [hn, Int.toNat_natCast] at eR
    have HA := hide h
    obtain ⟨a, ca, rfl, a2, a3, a4⟩ := h
    exact cut_less a D ca k p n w HA.out hD k1 p0 hn R eR
end Go.Proofs.YthdgdomgcogpjaaDoor
