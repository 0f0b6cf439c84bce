/- takeDigit. -/
import Derived.Test.YtimglhbllcjpbaaDoorQuotB
namespace Go.Proofs.YtimglhbllcjpbaaDoor
set_option linter.unusedVariables false
set_option linter.unusedSimpArgs false
open Go.RowKit

theorem wrapb_le (p m : Nat) : wrapb p m ≤ 1 := by unfold wrapb; split <;> omega
theorem wrapb_one {p m : Nat} (h : p < m) : wrapb p m = 1 := by unfold wrapb; rw [if_neg (by omega)]
theorem wrapb_nil {p m : Nat} (h : m ≤ p) : wrapb p m = 0 := by unfold wrapb; rw [if_pos h]

set_option maxHeartbeats 1000000 in
set_option maxRecDepth 4000 in
theorem takeDigit_any (g M i n cp p y c : Nat) (a : Option Addr) (w : World) (hrow : w.rowIs g 41 M (fun j => .int .u32 (dg 4294967296 p j : Int))) (hp : p < 4294967296 ^ i * y * 4294967296) (hLM : i + n + 1 + 1 ≤ M) (hM : M ≤ 1000000000000)
    (hy : y < 4294967296 ^ (n + 1)) (hy0 : 4294967296 ^ n ≤ y) (hcs : Cs .u32 w a (n + 1) (dg 4294967296 y)) (hne : ∀ b off s, a = some ⟨b, off, s⟩ → b ≠ g) :
    Calls Tryd.prog 61 #[.slice (some ⟨g, i, none⟩) (n + 1 + 1) cp, .slice a (n + 1) c] w fun e w' => e = .returned (.int .u32 (p / (4294967296 ^ i * y) : Nat)) ∧ w'.rowIs g 41 M (fun j => .int .u32 (dg 4294967296 (p % (4294967296 ^ i * y)) j : Int)) ∧ Ex g w w' := by
  have hs0 : 0 < 4294967296 ^ i * y := Nat.mul_pos (pow_pos' b32 i) (Nat.lt_of_lt_of_le (pow_pos' b32 n) hy0)
  have hT : ∀ d, d < 4294967296 → d * (4294967296 ^ i * y) ≤ 4294967296 ^ (i + (n + 1) + 1) := fun d hd => by
    rw [show 4294967296 ^ (i + (n + 1) + 1) = 4294967296 * (4294967296 ^ i * 4294967296 ^ (n + 1)) by rw [Nat.pow_succ, Nat.pow_add]; ac_rfl]
    exact Nat.mul_le_mul (by omega) (Nat.mul_le_mul_left _ (by omega))
  have hpT : p < 4294967296 ^ (i + (n + 1) + 1) := by
    refine Nat.lt_of_lt_of_le hp ?_
    rw [show 4294967296 ^ (i + (n + 1) + 1) = 4294967296 ^ i * 4294967296 ^ (n + 1) * 4294967296 by rw [Nat.pow_succ, Nat.pow_add]]
    exact Nat.mul_le_mul_right _ (Nat.mul_le_mul_left _ (by omega))
  have hge : p / (4294967296 ^ i * y) ≤ min ((dg 4294967296 p (i + n + 1) * 4294967296 + dg 4294967296 p (i + n)) / dg 4294967296 y n) 4294967295 := guess_ge b32 hpT hy hy0 hp
  have htop := top_pos b32 hy hy0
  have HG := hide (guess_any g M i n cp p y c a w hrow hLM hM htop hcs)
  have hglt := hrow.lt
  obtain ⟨G, hG⟩ : ∃ G, min ((dg 4294967296 p (i + n + 1) * 4294967296 + dg 4294967296 p (i + n)) / dg 4294967296 y n) 4294967295 = G := ⟨_, rfl⟩
  have hGb : G ≤ 4294967295 := by omega
  rw [hG] at hge HG
  have HPT := hide hpT
  have HT := hide hT
  have HY := hide hy
  have HC := hide hcs
  have HR := hide hrow
  have HN := hide hne
  have HS0 := hide hs0
  have HGE := hide hge
  clear hpT hT hy hcs hrow hne hs0 hge hp hy0 hG htop
  go_enter Tryd.func61, Tryd.ntmps61
  go_wp2_with fail
  refine HG.out.mono ?_
  rintro e w1 ⟨rfl, f1⟩
  have hr1 := hide (HR.out.of_block (f1.block _ HR.out.lt))
  have hc1 := hide (HC.out.fr f1)
  have F1 : Hid (Ex g w w1) := Ex.of_fr g f1
  go_wp2_with fail
  refine (takeRow_any g M i (n + 1) cp p (wrapv (4294967296 ^ (i + (n + 1) + 1)) p (G * (4294967296 ^ i * y))) y G (wrapb p (G * (4294967296 ^ i * y))) c a w1 hr1.out HPT.out (wrapv_lt HPT.out (HT.out G (by omega))) (by omega) hM HY.out (by omega) (wrapb_le _ _) (by rw [Nat.mul_assoc]; exact wrapv_eq (HT.out G (by omega))) hc1.out HN.out).mono ?_
  rintro e w2 ⟨rfl, r2, f2⟩
  have HR2 := hide r2
  have F2 : Hid (Ex g w w2) := Ex.trans F1.out f2
  clear HG HR hr1 hc1 F1 f1 f2 r2
  go_wp2_with fail
  go_loopw [5, 6] (fun s5 s6 wr => ∃ d : Nat, d ≤ G ∧ s5 = .int .u32 d ∧ s6 = .bool (decide (wrapb p (d * (4294967296 ^ i * y)) = 1)) ∧ Hid (p / (4294967296 ^ i * y) ≤ d) ∧ Hid (wr.rowIs g 41 M (fun j => .int .u32 (dg 4294967296 (wrapv (4294967296 ^ (i + (n + 1) + 1)) p (d * (4294967296 ^ i * y))) j : Int))) ∧ Hid (Ex g w wr)) (fun s5 _ _ => (intOf s5).toNat)
  case atStart => exact ⟨G, by omega, rfl, rfl, HGE, HR2, F2⟩
  case round =>
    obtain ⟨d, hd, rfl, rfl, hge, hr, hF⟩ := hrel
    by_cases hc : p < d * (4294967296 ^ i * y)
    · rw [wrapb_one hc]
      obtain ⟨d, rfl⟩ : ∃ k, d = k + 1 := ⟨d - 1, by
        rcases Nat.eq_zero_or_pos d with h | h
        · rw [h, Nat.zero_mul] at hc; omega
        · omega⟩
      have hlt : p / (4294967296 ^ i * y) ≤ d := by have := (Nat.div_lt_iff_lt_mul HS0.out).2 hc; omega
      have HLT := hide hlt
      have HCC := hide hc
      clear hlt hc
      go_wp2_with fail
      have hcc := HCC.out
      have ht2 := HT.out (d + 1) (by omega)
      have hr' := hr.out
      rw [Nat.succ_mul] at hcc ht2 hr'
      refine (giveRow_any g M i (n + 1) cp _ (wrapv (4294967296 ^ (i + (n + 1) + 1)) p (d * (4294967296 ^ i * y))) y (1 - wrapb p (d * (4294967296 ^ i * y))) c a wr hr' (wrapv_lt HPT.out ht2) (wrapv_lt HPT.out (HT.out d (by omega))) (by omega) hM HY.out (by omega) (by rw [Nat.one_mul]; exact wrapv_back HPT.out ht2 hcc) (HC.out.ex hF.out HN.out) HN.out).mono ?_
      rintro e w3 ⟨rfl, r3, f3⟩
      have HR3 := hide r3
      have F3 : Hid (Ex g w w3) := Ex.trans hF.out f3
      have hw1 := wrapb_le p (d * (4294967296 ^ i * y))
      have hdec : Hid ((!decide (1 - wrapb p (d * (4294967296 ^ i * y)) = 1)) = decide (wrapb p (d * (4294967296 ^ i * y)) = 1)) := by
        unfold Hid
        rcases (by omega : wrapb p (d * (4294967296 ^ i * y)) = 0 ∨ wrapb p (d * (4294967296 ^ i * y)) = 1) with h | h <;> rw [h] <;> rfl
      generalize hB : decide (1 - wrapb p (d * (4294967296 ^ i * y)) = 1) = B1 at *
      clear hr r3 f3 hr' hcc ht2 hw1
      go_wp2_with fail
      go_roundw
      case rel => exact ⟨d, by omega, by go_num, by rw [hdec.out], HLT, HR3, F3⟩
      case measure => simp [intOf]
    · have hle : d * (4294967296 ^ i * y) ≤ p := by omega
      rw [wrapb_nil hle]
      have hd2 : d ≤ p / (4294967296 ^ i * y) := (Nat.le_div_iff_mul_le HS0.out).2 hle
      have hde : d = p / (4294967296 ^ i * y) := Nat.le_antisymm hd2 hge.out
      have hv : wrapv (4294967296 ^ (i + (n + 1) + 1)) p (d * (4294967296 ^ i * y)) = p % (4294967296 ^ i * y) := by
        unfold wrapv
        rw [if_pos hle, hde]
        have := Nat.div_add_mod p (4294967296 ^ i * y)
        rw [Nat.mul_comm] at this
        omega
      have HV := hide hv
      have HDE := hide hde
      clear hle hd2 hde hv hc
      go_wp2_with fail
      go_ret
      refine ⟨by rw [← HDE.out]; rfl, ?_, hF.out⟩
      rw [← HV.out]
      exact hr.out
end Go.Proofs.YtimglhbllcjpbaaDoor
