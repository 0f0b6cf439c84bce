/- Quotients: lowest, levelled. -/
import Derived.Test.YtimglhbllcjpbaaDoorRatioB
namespace Go.Proofs.YtimglhbllcjpbaaDoor
set_option linter.unusedVariables false
set_option linter.unusedSimpArgs false
open Go.RowKit

attribute [local go_sem] World.cell?_alloc_some
/-- A quotient: n divided by d, kept in its lowest terms. -/
def IsRat (w : World) (v : Value) (n d : Nat) : Prop := d ≠ 0 ∧ Pair w v (rN n d) (rZ n d)
theorem IsRat.fr {w w' : World} {v : Value} {n d : Nat} (h : IsRat w v n d) (f : Fr w w') : IsRat w' v n d := ⟨h.1, h.2.fr f⟩
theorem IsRat.same {w : World} {v : Value} {n d n' d' : Nat} (h : IsRat w v n d) (h' : d' ≠ 0) (e : n * d' = n' * d) : IsRat w v n' d' := by
  refine ⟨h', ?_⟩
  rw [← rN_same h.1 h' e, ← rZ_same h.1 h' e]
  exact h.2

set_option maxHeartbeats 2000000 in
set_option maxRecDepth 4000 in
theorem lowest_zero (va vb : Value) (y : Nat) (w : World) (ha : IsNat w va 0) (hb : IsNat w vb y) :
    Calls Tryd.prog 40 #[va, vb] w fun e w' => e = .returned (.agg #[.slice none 0 0, .slice none 0 0]) ∧ Fr w w' := by
  have HA := hide ha
  obtain ⟨a, ca, rfl, a2, a3, a4⟩ := ha
  obtain ⟨b, cb, rfl, b2, b3, b4⟩ := hb
  clear a4 b4
  go_enter Tryd.func40, Tryd.ntmps40
  go_wp2_with fail
  obtain ⟨W, hW⟩ : ∃ W, W = (((w.alloc (Obj.cells #[Value.slice a (nlen 4294967296 0) ca] 24)).alloc (Obj.cells #[Value.slice b (nlen 4294967296 y) cb] 24)).alloc (Obj.cells #[Value.slice none 0 0, Value.slice none 0 0] 26)) := ⟨_, rfl⟩
  have fW : Fr w W := by rw [hW]; exact (((Fr.alloc w (Obj.cells #[Value.slice a (nlen 4294967296 0) ca] 24)).trans (Fr.alloc _ (Obj.cells #[Value.slice b (nlen 4294967296 y) cb] 24))).trans (Fr.alloc _ (Obj.cells #[Value.slice none 0 0, Value.slice none 0 0] 26)))
  have s4 : Slot2 w W (w.heap.size + 1 + 1) (.slice none 0 0) (.slice none 0 0) := by
    rw [hW]; simpa using Slot2.new ((Fr.alloc w (Obj.cells #[Value.slice a (nlen 4294967296 0) ca] 24)).trans (Fr.alloc _ (Obj.cells #[Value.slice b (nlen 4294967296 y) cb] 24))) none 0 0 none 0 0 26
  rw [← hW]
  clear hW
  refine (isNought_any _ 0 _ (HA.out.fr fW) (by rw [nlen_zero]; omega)).mono ?_
  rintro e w1 ⟨rfl, f1⟩
  have S4 := hide (s4.fr f1)
  have F1 := hide (fW.trans f1)
  clear s4 fW f1
  have q4 := S4.out.1
  have q5 := S4.out.2.1
  have z4 := S4.out.2.2.1 0
  have z5 := S4.out.2.2.1 1
  go_wp2_with fail
  have T := S4.out.set none 0 0 none 0 0
  exact bodyPost_ret (results_rat rfl _ _ (w.heap.size + 1 + 1) _ _ rfl T.1 T.2.1) rfl ⟨rfl, S4.out.set_fr F1.out _ _⟩

set_option maxHeartbeats 2000000 in
set_option maxRecDepth 4000 in
theorem lowest_some (va vb : Value) (x y : Nat) (w : World) (hT : Tab w) (ha : IsNat w va x) (hb : IsNat w vb y) (hx : nlen 4294967296 x ≤ 1000000000) (hy : nlen 4294967296 y ≤ 1000000000) (hx0 : x ≠ 0) (hy0 : y ≠ 0) :
    Calls Tryd.prog 40 #[va, vb] w fun e w' => ∃ v, e = .returned v ∧ Pair w' v (rN x y) (rD x y) ∧ Fr w w' := by
  have HA := hide ha
  have HB := hide hb
  have HT := hide hT
  have hg : Nat.gcd x y ≠ 0 := by have := gcd_pos_right (n := x) hy0; omega
  have ng : nlen 4294967296 (Nat.gcd x y) ≤ 1000000000 := nl_le hx (Nat.gcd_le_left y (by omega))
  unfold rN rD
  obtain ⟨G, hG⟩ : ∃ G, Nat.gcd x y = G := ⟨_, rfl⟩
  rw [hG] at hg ng ⊢
  obtain ⟨P, hP⟩ : ∃ P, x / G = P := ⟨_, rfl⟩
  obtain ⟨R, hR⟩ : ∃ R, y / G = R := ⟨_, rfl⟩
  rw [hP, hR]
  have HG := hide hG
  have HP := hide hP
  have HR := hide hR
  obtain ⟨a, ca, rfl, a2, a3, a4⟩ := ha
  obtain ⟨b, cb, rfl, b2, b3, b4⟩ := hb
  clear a4 b4 hT hG hP hR
  go_enter Tryd.func40, Tryd.ntmps40
  go_wp2_with fail
  obtain ⟨W, hW⟩ : ∃ W, W = (((w.alloc (Obj.cells #[Value.slice a (nlen 4294967296 x) ca] 24)).alloc (Obj.cells #[Value.slice b (nlen 4294967296 y) cb] 24)).alloc (Obj.cells #[Value.slice none 0 0, Value.slice none 0 0] 26)) := ⟨_, rfl⟩
  have fW : Fr w W := by rw [hW]; exact (((Fr.alloc w (Obj.cells #[Value.slice a (nlen 4294967296 x) ca] 24)).trans (Fr.alloc _ (Obj.cells #[Value.slice b (nlen 4294967296 y) cb] 24))).trans (Fr.alloc _ (Obj.cells #[Value.slice none 0 0, Value.slice none 0 0] 26)))
  have s2 : Slot w W (w.heap.size) (.slice a (nlen 4294967296 x) ca) := by
    rw [hW]; simpa using ((Slot.new (Fr.refl w) a (nlen 4294967296 x) ca 24).fr (Fr.alloc _ _)).fr (Fr.alloc _ _)
  have s3 : Slot w W (w.heap.size + 1) (.slice b (nlen 4294967296 y) cb) := by
    rw [hW]; simpa using (Slot.new (Fr.alloc w (Obj.cells #[Value.slice a (nlen 4294967296 x) ca] 24)) b (nlen 4294967296 y) cb 24).fr (Fr.alloc _ _)
  have s4 : Slot2 w W (w.heap.size + 1 + 1) (.slice none 0 0) (.slice none 0 0) := by
    rw [hW]; simpa using Slot2.new ((Fr.alloc w (Obj.cells #[Value.slice a (nlen 4294967296 x) ca] 24)).trans (Fr.alloc _ (Obj.cells #[Value.slice b (nlen 4294967296 y) cb] 24))) none 0 0 none 0 0 26
  rw [← hW]
  clear hW
  refine (isNought_any _ x _ (HA.out.fr fW) (by omega)).mono ?_
  rintro e w1 ⟨rfl, f1⟩
  rw [decide_eq_false hx0]
  have S2 := hide (s2.fr f1)
  have S3 := hide (s3.fr f1)
  have S4 := hide (s4.fr f1)
  have FW := hide (fW.trans f1)
  clear s2 s3 s4 fW f1
  have q2 := S2.out.1
  have q3 := S3.out.1
  go_wp2_with fail
  refine (shared_any _ _ x y _ (Tab.fr HT.out FW.out) (HA.out.fr FW.out) (HB.out.fr FW.out) hx hy hx0 hy0).mono ?_
  rintro e w2 ⟨ag, cg, rfl, ig, f2⟩
  rw [HG.out] at ig ⊢
  have S2 := hide (S2.out.fr f2)
  have S3 := hide (S3.out.fr f2)
  have S4 := hide (S4.out.fr f2)
  have FW := hide (FW.out.trans f2)
  clear f2 q2 q3
  have q2 := S2.out.1
  have l4 := cell_lt S4.out.1
  simp only [] at l4
  go_wp2_with fail
  obtain ⟨W2, hW2⟩ : ∃ W, W = (w2.alloc (Obj.cells #[Value.slice ag (nlen 4294967296 G) cg] 24)) := ⟨_, rfl⟩
  have f2 : Fr w2 W2 := by rw [hW2]; exact (Fr.alloc w2 (Obj.cells #[Value.slice ag (nlen 4294967296 G) cg] 24))
  have s5 : Slot w2 W2 (w2.heap.size) (.slice ag (nlen 4294967296 G) cg) := by
    rw [hW2]; simpa using Slot.new (Fr.refl w2) ag (nlen 4294967296 G) cg 24
  rw [← hW2]
  clear hW2
  have S5 := hide s5
  have S2 := hide (S2.out.fr f2)
  have S3 := hide (S3.out.fr f2)
  have S4 := hide (S4.out.fr f2)
  have FW := hide (FW.out.trans f2)
  have IG := hide (ig.fr f2)
  clear f2 q2 ig s5
  refine (div_yes _ _ x G _ (HA.out.fr FW.out) IG.out (by omega) (by omega) hg).mono ?_
  rintro e w3 ⟨ap, cp, ap', cp', rfl, ⟨ip, _, f3⟩, ⟨_, _, _⟩⟩
  rw [HP.out] at ip ⊢
  have S2 := hide (S2.out.fr f3)
  have S3 := hide (S3.out.fr f3)
  have S4 := hide (S4.out.fr f3)
  have S5 := hide (S5.out.fr f3)
  have FW := hide (FW.out.trans f3)
  have IG := hide (IG.out.fr f3)
  have IP := hide ip
  clear f3 ip
  have q2 := S2.out.1
  have z2 := S2.out.2.1
  have q3 := S3.out.1
  have q5 := S5.out.1
  go_wp2_with fail
  have S3 := hide (S3.out.other S2.out (by omega) ap (nlen 4294967296 P) cp)
  have S4 := hide (Slot.other2 S4.out S2.out (by omega) ap (nlen 4294967296 P) cp)
  have IP := hide (S2.out.nat IP.out (.slice ap (nlen 4294967296 P) cp))
  have IG := hide (S2.out.nat IG.out (.slice ap (nlen 4294967296 P) cp))
  have FW := hide (S2.out.set_fr FW.out (.slice ap (nlen 4294967296 P) cp))
  have S2 := hide (S2.out.set ap (nlen 4294967296 P) cp)
  obtain ⟨V, hV⟩ : ∃ V, V = w3.setCell ⟨w.heap.size, 0, none⟩ (.slice ap (nlen 4294967296 P) cp) := ⟨_, rfl⟩
  rw [← hV] at S2 S3 S4 IP IG FW ⊢
  clear hV q2 z2 q3 q5 S5
  refine (div_yes _ _ y G _ (HB.out.fr FW.out) IG.out (by omega) (by omega) hg).mono ?_
  rintro e w4 ⟨ar, cr, ar', cr', rfl, ⟨ir, _, f4⟩, ⟨_, _, _⟩⟩
  rw [HR.out] at ir ⊢
  have S2 := hide (S2.out.fr f4)
  have S3 := hide (S3.out.fr f4)
  have S4 := hide (S4.out.fr f4)
  have FW := hide (FW.out.trans f4)
  have IP := hide (IP.out.fr f4)
  have IR := hide ir
  clear f4 ir IG
  have q2 := S2.out.1
  have q3 := S3.out.1
  have z3 := S3.out.2.1
  have q4 := S4.out.1
  have q5 := S4.out.2.1
  have z4 := S4.out.2.2.1 0
  have z5 := S4.out.2.2.1 1
  go_wp2_with fail
  have S4 := hide (Slot.other2 S4.out S3.out (by omega) ar (nlen 4294967296 R) cr)
  have IP := hide (S3.out.nat IP.out (.slice ar (nlen 4294967296 R) cr))
  have IR := hide (S3.out.nat IR.out (.slice ar (nlen 4294967296 R) cr))
  have FW := hide (S3.out.set_fr FW.out (.slice ar (nlen 4294967296 R) cr))
  have T := S4.out.set ap (nlen 4294967296 P) cp ar (nlen 4294967296 R) cr
  refine bodyPost_ret (results_rat rfl _ _ (w.heap.size + 1 + 1) _ _ rfl T.1 T.2.1) rfl ?_
  exact ⟨_, rfl, ⟨_, _, _, _, rfl, S4.out.nat IP.out _ _ _ _, S4.out.nat IR.out _ _ _ _⟩, S4.out.set_fr FW.out _ _⟩

theorem lowest_any (va vb : Value) (x y : Nat) (w : World) (hT : Tab w) (ha : IsNat w va x) (hb : IsNat w vb y) (hx : nlen 4294967296 x ≤ 1000000000) (hy : nlen 4294967296 y ≤ 1000000000) (hy0 : y ≠ 0) :
    Calls Tryd.prog 40 #[va, vb] w fun e w' => ∃ v, e = .returned v ∧ IsRat w' v x y ∧ Fr w w' := by
  by_cases c : x = 0
  · subst c
    refine (lowest_zero va vb y w ha hb).mono ?_
    rintro e w' ⟨rfl, f⟩
    refine ⟨_, rfl, ⟨hy0, ?_⟩, f⟩
    rw [(rN_zero hy0).2 rfl, show rZ 0 y = 0 from rfl]
    exact pair_zero _
  · refine (lowest_some va vb x y w hT ha hb hx hy c hy0).mono ?_
    rintro e w' ⟨v, rfl, h, f⟩
    refine ⟨v, rfl, ⟨hy0, ?_⟩, f⟩
    rw [show rZ x y = rD x y from if_neg c]
    exact h

/-- A quotient's value, laid open, and its terms. -/
theorem terms_rat (v : Value) (n d : Nat) (w : World) (h : IsRat w v n d) (hn : nlen 4294967296 n ≤ 100000000000) :
    Calls Tryd.prog 8 #[v] w fun e w' => ∃ a c b k, e = .returned (.tuple #[.agg #[.slice a (nlen 4294967296 (rN n d)) c], .agg #[.slice b (nlen 4294967296 (rD n d)) k]]) ∧ IsNat w' (.agg #[.slice a (nlen 4294967296 (rN n d)) c]) (rN n d) ∧ IsNat w' (.agg #[.slice b (nlen 4294967296 (rD n d)) k]) (rD n d) ∧ Fr w w' := by
  have := terms_any v _ _ w h.2 (nl_le hn (rN_le n d))
  have e : low (rN n d) (rZ n d) = rD n d := by
    unfold low rZ
    by_cases c : n = 0
    · subst c
      rw [if_pos ((rN_zero h.1).2 rfl), rD_zero h.1]
    · rw [if_neg (fun k => c ((rN_zero h.1).1 k)), if_neg c]
  rwa [e] at this
end Go.Proofs.YtimglhbllcjpbaaDoor
