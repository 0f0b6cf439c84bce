/- Quotients: Parts, Scale. -/
import Derived.Test.YtimglhbllcjpbaaDoorRatioF
namespace Go.Proofs.YtimglhbllcjpbaaDoor
set_option linter.unusedVariables false
set_option linter.unusedSimpArgs false
open Go.RowKit

attribute [local go_sem] World.cell?_alloc_some
theorem part_div {n d : Nat} (h : d ≠ 0) : rN n d / rD n d = n / d := by
  have hg := gcd_pos_right (n := n) h
  have e := Nat.mul_div_mul_right (rN n d) (rD n d) hg
  rw [rN_mul, rD_mul] at e
  exact e.symm
theorem part_mod {n d : Nat} : n % d = rN n d % rD n d * Nat.gcd n d := by
  have e := Nat.mul_mod_mul_right (Nat.gcd n d) (rN n d) (rD n d)
  rw [rN_mul, rD_mul] at e
  exact e
theorem part_gcd {n d : Nat} : Nat.gcd (n % d) d = Nat.gcd n d := by rw [Nat.gcd_comm n d, Nat.gcd_rec d n]
theorem part_rat {w : World} {v : Value} {n d : Nat} (h : d ≠ 0) (hm : rN n d % rD n d ≠ 0) (k : Pair w v (rN n d % rD n d) (rD n d)) : IsRat w v (n % d) d := by
  have hg := gcd_pos_right (n := n) h
  have h0 : n % d ≠ 0 := by rw [part_mod]; exact Nat.mul_ne_zero hm (by omega)
  refine ⟨h, ?_⟩
  rw [show rZ (n % d) d = rD (n % d) d from if_neg h0]
  have e1 : rN (n % d) d = rN n d % rD n d := by
    unfold rN
    rw [part_gcd]
    have := @part_mod n d
    rw [this]
    exact Nat.mul_div_cancel _ hg
  have e2 : rD (n % d) d = rD n d := by unfold rD; rw [part_gcd]
  rw [e1, e2]
  exact k
theorem rat_zero (w : World) {n d : Nat} (h : d ≠ 0) (h0 : n = 0) : IsRat w (.agg #[.slice none 0 0, .slice none 0 0]) n d := by
  subst h0
  refine ⟨h, ?_⟩
  rw [(rN_zero h).2 rfl, show rZ 0 d = 0 from rfl]
  exact pair_zero _

set_option maxHeartbeats 1000000 in
set_option maxRecDepth 4000 in
theorem partsR_any (v : Value) (n d : Nat) (w : World) (h : IsRat w v n d) (h1 : nlen 4294967296 n ≤ 1000000) (k1 : nlen 4294967296 d ≤ 1000000) (P : Nat) (eP : n / d = P) :
    Calls Tryd.prog 22 #[v] w fun e w' => ∃ a c u, e = .returned (.tuple #[.agg #[.slice a (nlen 4294967296 P) c], u]) ∧ IsNat w' (.agg #[.slice a (nlen 4294967296 P) c]) P ∧ IsRat w' u (n % d) d ∧ Fr w w' := by
  have HA := hide h
  obtain ⟨a, N, ca, b, M, cb, rfl⟩ := h.form
  have hd := h.1
  have np1 : nlen 4294967296 (rN n d) ≤ 1000000 := nl_le h1 (rN_le _ _)
  have nq1 : nlen 4294967296 (rD n d) ≤ 1000000 := nl_le k1 (rD_le _ _)
  have hq0 := rD_pos (n := n) hd
  have R0 : Hid (rN n d % rD n d = 0 → ∀ wz, IsRat wz (.agg #[.slice none 0 0, .slice none 0 0]) (n % d) d) := fun e wz => rat_zero wz hd (by rw [part_mod, e, Nat.zero_mul])
  have R1 : Hid (rN n d % rD n d ≠ 0 → ∀ wz v, Pair wz v (rN n d % rD n d) (rD n d) → IsRat wz v (n % d) d) := fun e wz v k => part_rat hd e k
  rw [← part_div hd] at eP
  have TA : Hid (∀ wz, Fr w wz → Calls Tryd.prog 8 #[.agg #[.slice a N ca, .slice b M cb]] wz fun e w' => ∃ a c b k, e = .returned (.tuple #[.agg #[.slice a (nlen 4294967296 (rN n d)) c], .agg #[.slice b (nlen 4294967296 (rD n d)) k]]) ∧ IsNat w' (.agg #[.slice a (nlen 4294967296 (rN n d)) c]) (rN n d) ∧ IsNat w' (.agg #[.slice b (nlen 4294967296 (rD n d)) k]) (rD n d) ∧ Fr wz w') := fun wz f => terms_rat _ n d wz (HA.out.fr f) (by omega)
  generalize rN n d = p at *
  generalize rD n d = q at *
  have nm : nlen 4294967296 (p % q) ≤ 1000000 := nl_mod np1
  obtain ⟨m, hm⟩ : ∃ m, p % q = m := ⟨_, rfl⟩
  rw [hm] at nm R0 R1
  have EM := hide hm
  have EP := hide eP
  clear HA h hm eP h1 k1
  go_enter Tryd.func22, Tryd.ntmps22
  go_wp2_with fail
  obtain ⟨W, hW⟩ : ∃ W, W = (((w.alloc (Obj.cells #[Value.slice a N ca, Value.slice b M cb] 26)).alloc (Obj.cells #[Value.slice none 0 0] 24)).alloc (Obj.cells #[Value.slice none 0 0, Value.slice none 0 0] 26)) := ⟨_, rfl⟩
  have fW : Fr w W := by rw [hW]; exact (((Fr.alloc w (Obj.cells #[Value.slice a N ca, Value.slice b M cb] 26)).trans (Fr.alloc _ (Obj.cells #[Value.slice none 0 0] 24))).trans (Fr.alloc _ (Obj.cells #[Value.slice none 0 0, Value.slice none 0 0] 26)))
  have s2 : Slot w W (w.heap.size + 1) (.slice none 0 0) := by
    rw [hW]; simpa using (Slot.new (Fr.alloc w (Obj.cells #[Value.slice a N ca, Value.slice b M cb] 26)) none 0 0 24).fr (Fr.alloc _ _)
  have s3 : Slot2 w W (w.heap.size + 1 + 1) (.slice none 0 0) (.slice none 0 0) := by
    rw [hW]; simpa using Slot2.new ((Fr.alloc w (Obj.cells #[Value.slice a N ca, Value.slice b M cb] 26)).trans (Fr.alloc _ (Obj.cells #[Value.slice none 0 0] 24))) none 0 0 none 0 0 26
  rw [← hW]
  clear hW
  refine (TA.out _ fW).mono ?_
  rintro e w1 ⟨ap, cp, aq, cq, rfl, ip, iq, f1⟩
  have S2 := hide (s2.fr f1)
  have S3 := hide (s3.fr f1)
  have FW := hide (fW.trans f1)
  have l1 := cell_lt S3.out.1
  simp only [] at l1
  clear s2 s3 fW f1 TA
  go_wp2_with fail
  obtain ⟨W1, hW1⟩ : ∃ W, W = ((w1.alloc (Obj.cells #[Value.slice ap (nlen 4294967296 p) cp] 24)).alloc (Obj.cells #[Value.slice aq (nlen 4294967296 q) cq] 24)) := ⟨_, rfl⟩
  have f1 : Fr w1 W1 := by rw [hW1]; exact ((Fr.alloc w1 (Obj.cells #[Value.slice ap (nlen 4294967296 p) cp] 24)).trans (Fr.alloc _ (Obj.cells #[Value.slice aq (nlen 4294967296 q) cq] 24)))
  have s4 : Slot w1 W1 (w1.heap.size) (.slice ap (nlen 4294967296 p) cp) := by
    rw [hW1]; simpa using (Slot.new (Fr.refl w1) ap (nlen 4294967296 p) cp 24).fr (Fr.alloc _ _)
  have s5 : Slot w1 W1 (w1.heap.size + 1) (.slice aq (nlen 4294967296 q) cq) := by
    rw [hW1]; simpa using Slot.new (Fr.alloc w1 (Obj.cells #[Value.slice ap (nlen 4294967296 p) cp] 24)) aq (nlen 4294967296 q) cq 24
  rw [← hW1]
  clear hW1
  have S4 := hide s4
  have S5 := hide s5
  have IP := hide (ip.fr f1)
  have IQ := hide (iq.fr f1)
  have S2 := hide (S2.out.fr f1)
  have S3 := hide (S3.out.fr f1)
  have FW := hide (FW.out.trans f1)
  clear s4 s5 f1 ip iq
  refine (div_yes _ _ p q _ IP.out IQ.out (by omega) (by omega) hq0).mono ?_
  rintro e w2 ⟨ax, cx, am, cm, rfl, ⟨ix, _, f2⟩, ⟨im, _, _⟩⟩
  rw [EP.out] at ix ⊢
  rw [EM.out] at im ⊢
  have S2 := hide (S2.out.fr f2)
  have S3 := hide (S3.out.fr f2)
  have S5 := hide (S5.out.fr f2)
  have IQ := hide (IQ.out.fr f2)
  have FW := hide (FW.out.trans f2)
  have l2 := cell_lt S5.out.1
  simp only [] at l2
  clear f2 IP S4
  go_wp2_with fail
  obtain ⟨W2, hW2⟩ : ∃ W, W = ((w2.alloc (Obj.cells #[Value.slice ax (nlen 4294967296 P) cx] 24)).alloc (Obj.cells #[Value.slice am (nlen 4294967296 m) cm] 24)) := ⟨_, rfl⟩
  have f2 : Fr w2 W2 := by rw [hW2]; exact ((Fr.alloc w2 (Obj.cells #[Value.slice ax (nlen 4294967296 P) cx] 24)).trans (Fr.alloc _ (Obj.cells #[Value.slice am (nlen 4294967296 m) cm] 24)))
  have s6 : Slot w2 W2 (w2.heap.size) (.slice ax (nlen 4294967296 P) cx) := by
    rw [hW2]; simpa using (Slot.new (Fr.refl w2) ax (nlen 4294967296 P) cx 24).fr (Fr.alloc _ _)
  have s7 : Slot w2 W2 (w2.heap.size + 1) (.slice am (nlen 4294967296 m) cm) := by
    rw [hW2]; simpa using Slot.new (Fr.alloc w2 (Obj.cells #[Value.slice ax (nlen 4294967296 P) cx] 24)) am (nlen 4294967296 m) cm 24
  rw [← hW2]
  clear hW2
  have S6 := hide s6
  have S7 := hide s7
  have IX := hide (ix.fr f2)
  have IM := hide (im.fr f2)
  have S2 := hide (S2.out.fr f2)
  have S3 := hide (S3.out.fr f2)
  have S5 := hide (S5.out.fr f2)
  have IQ := hide (IQ.out.fr f2)
  have FW := hide (FW.out.trans f2)
  clear s6 s7 f2 ix im
  refine (isNought_any _ m _ IM.out (by omega)).mono ?_
  rintro e w3 ⟨rfl, f3⟩
  have S2 := hide (S2.out.fr f3)
  have S3 := hide (S3.out.fr f3)
  have S5 := hide (S5.out.fr f3)
  have S6 := hide (S6.out.fr f3)
  have S7 := hide (S7.out.fr f3)
  have IQ := hide (IQ.out.fr f3)
  have IX := hide (IX.out.fr f3)
  have IM := hide (IM.out.fr f3)
  have FW := hide (FW.out.trans f3)
  clear f3
  by_cases hm : m = 0
  · rw [decide_eq_true hm]
    have RV0 := hide (R0.out hm)
    have q6 := S6.out.1
    have q2 := S2.out.1
    have z2 := S2.out.2.1
    have q3 := S3.out.1
    have q3' := S3.out.2.1
    have z3 := S3.out.2.2.1 0
    have z3' := S3.out.2.2.1 1
    clear R0 R1 hm
    go_wp2_with fail
    have S3 := hide (Slot.other2 S3.out S2.out (by omega) ax (nlen 4294967296 P) cx)
    have IX := hide (S2.out.nat IX.out (.slice ax (nlen 4294967296 P) cx))
    have FW := hide (S2.out.set_fr FW.out (.slice ax (nlen 4294967296 P) cx))
    have S2 := hide (S2.out.set ax (nlen 4294967296 P) cx)
    have S2 := hide (Slot2.other (v := undef) S2.out S3.out (by omega) none 0 0 none 0 0)
    have IX := hide (S3.out.nat IX.out none 0 0 (.slice none 0 0))
    have FW := hide (S3.out.set_fr FW.out (.slice none 0 0) (.slice none 0 0))
    have S3 := hide (S3.out.set none 0 0 none 0 0)
    exact bodyPost_ret (results_nat_rat rfl _ _ (w.heap.size + 1) (w.heap.size + 1 + 1) _ _ _ rfl rfl S2.out.1 S3.out.1 S3.out.2.1) rfl ⟨_, _, _, rfl, IX.out, RV0.out _, FW.out⟩
  · rw [decide_eq_false hm]
    have RV1 := hide (R1.out hm)
    clear R0 R1 hm
    have S2 := hide (S2.out.fr (Fr.drew _))
    have S3 := hide (S3.out.fr (Fr.drew _))
    have S5 := hide (S5.out.fr (Fr.drew _))
    have S6 := hide (S6.out.fr (Fr.drew _))
    have S7 := hide (S7.out.fr (Fr.drew _))
    have IQ := hide (IQ.out.fr (Fr.drew _))
    have IX := hide (IX.out.fr (Fr.drew _))
    have IM := hide (IM.out.fr (Fr.drew _))
    have FW := hide (FW.out.trans (Fr.drew _))
    have q5 := S5.out.1
    have q6 := S6.out.1
    have q7 := S7.out.1
    go_wp2_with fail
    refine wp_region_held_drew (S := (fun w' => w'.cell? ⟨w1.heap.size + 1, 0, none⟩ = some (.slice aq (nlen 4294967296 q) cq) ∧ w'.cell? ⟨w2.heap.size, 0, none⟩ = some (.slice ax (nlen 4294967296 P) cx) ∧ w'.cell? ⟨w2.heap.size + 1, 0, none⟩ = some (.slice am (nlen 4294967296 m) cm))) (by kernel_rfl) ?_ (fun hHeld => ?_)
    · exact ⟨S5.out.1, S6.out.1, S7.out.1⟩
    obtain ⟨wd, hwd⟩ : ∃ wd, wd = w3.drew := ⟨_, rfl⟩
    rw [← hwd] at hHeld S2 S3 S5 S6 S7 IQ IX IM FW ⊢
    clear hwd
    refine wpAnyH_take (i := 0) (v := ?_) rfl (by kernel_rfl) (by kernel_rfl) (by kernel_rfl) (fun _ _ _ h => h) (Or.inl ⟨by rfl, ?_⟩) (by assumption) ?_
    rotate_left
    · (intro w hSw; (try dsimp only at hSw); go_simp; try with_reducible rfl)
    (try simp only [Act.put, List.getElem_toArray, List.getElem_cons_zero, List.getElem_cons_succ, List.setIfInBounds_toArray, List.set_cons_zero, List.set_cons_succ])
    refine wpAnyH_take (i := 1) (v := ?_) rfl (by kernel_rfl) (by kernel_rfl) (by kernel_rfl) (fun _ _ _ h => h) (Or.inl ⟨by rfl, ?_⟩) (by assumption) ?_
    rotate_left
    · (intro w hSw; (try dsimp only at hSw); go_simp; try with_reducible rfl)
    (try simp only [Act.put, List.getElem_toArray, List.getElem_cons_zero, List.getElem_cons_succ, List.setIfInBounds_toArray, List.set_cons_zero, List.set_cons_succ])
    refine wpAnyH_take (i := 2) (v := ?_) rfl (by kernel_rfl) (by kernel_rfl) (by kernel_rfl) (fun _ _ _ h => h) (Or.inl ⟨by rfl, ?_⟩) (by assumption) ?_
    rotate_left
    · (intro w hSw; (try dsimp only at hSw); go_simp; try with_reducible rfl)
    (try simp only [Act.put, List.getElem_toArray, List.getElem_cons_zero, List.getElem_cons_succ, List.setIfInBounds_toArray, List.set_cons_zero, List.set_cons_succ])
    refine wpAnyH_take (i := 3) (v := ?_) rfl (by kernel_rfl) (by kernel_rfl) (by kernel_rfl) (fun _ _ _ h => h) (Or.inl ⟨by rfl, ?_⟩) (by assumption) ?_
    rotate_left
    · (intro w hSw; (try dsimp only at hSw); go_simp; try with_reducible rfl)
    (try simp only [Act.put, List.getElem_toArray, List.getElem_cons_zero, List.getElem_cons_succ, List.setIfInBounds_toArray, List.set_cons_zero, List.set_cons_succ])
    refine wpAnyH_ready (rs := [4]) (by kernel_rfl) (by simp) ?_
    refine AllReadyH.cons rfl (fun K hK => ?_) AllReadyH.nil
    have q_ := S2.out.1
    have z_ := S2.out.2.1
    have S5 := hide (S5.out.other S2.out (by omega) ax (nlen 4294967296 P) cx)
    have S6 := hide (S6.out.other S2.out (by omega) ax (nlen 4294967296 P) cx)
    have S7 := hide (S7.out.other S2.out (by omega) ax (nlen 4294967296 P) cx)
    have S3 := hide (Slot.other2 S3.out S2.out (by omega) ax (nlen 4294967296 P) cx)
    have IQ := hide (S2.out.nat IQ.out (.slice ax (nlen 4294967296 P) cx))
    have IX := hide (S2.out.nat IX.out (.slice ax (nlen 4294967296 P) cx))
    have IM := hide (S2.out.nat IM.out (.slice ax (nlen 4294967296 P) cx))
    have FW := hide (S2.out.set_fr FW.out (.slice ax (nlen 4294967296 P) cx))
    have S2 := hide (S2.out.set ax (nlen 4294967296 P) cx)
    go_simp
    (try go_wp2_with fail)
    refine hK.out _ _ ?_ (fun hHeld => ?_)
    · (try dsimp only)
      exact ⟨S5.out.1, S6.out.1, S7.out.1⟩
    clear hK K
    (try simp only [Act.put, List.getElem_toArray, List.getElem_cons_zero, List.getElem_cons_succ, List.setIfInBounds_toArray, List.set_cons_zero, List.set_cons_succ])
    refine wpAnyH_ready (rs := [5]) (by kernel_rfl) (by simp) ?_
    refine AllReadyH.cons rfl (fun K hK => ?_) AllReadyH.nil
    obtain ⟨V1, hV1⟩ : ∃ V, V = wd.setCell ⟨w.heap.size + 1, 0, none⟩ (.slice ax (nlen 4294967296 P) cx) := ⟨_, rfl⟩
    rw [← hV1] at hHeld S2 S3 S5 S6 S7 IQ IX IM FW ⊢
    clear hV1
    have q_ := S3.out.1
    have q2_ := S3.out.2.1
    have z_ := S3.out.2.2.1 0
    have z2_ := S3.out.2.2.1 1
    have S2 := hide (Slot2.other (v := undef) S2.out S3.out (by omega) am (nlen 4294967296 m) cm aq (nlen 4294967296 q) cq)
    have S5 := hide (Slot2.other (v := undef) S5.out S3.out (by omega) am (nlen 4294967296 m) cm aq (nlen 4294967296 q) cq)
    have S6 := hide (Slot2.other (v := undef) S6.out S3.out (by omega) am (nlen 4294967296 m) cm aq (nlen 4294967296 q) cq)
    have S7 := hide (Slot2.other (v := undef) S7.out S3.out (by omega) am (nlen 4294967296 m) cm aq (nlen 4294967296 q) cq)
    have IX := hide (S3.out.nat IX.out am (nlen 4294967296 m) cm (.slice aq (nlen 4294967296 q) cq))
    have IM := hide (S3.out.nat IM.out am (nlen 4294967296 m) cm (.slice aq (nlen 4294967296 q) cq))
    have IQ := hide (S3.out.nat IQ.out am (nlen 4294967296 m) cm (.slice aq (nlen 4294967296 q) cq))
    have FW := hide (S3.out.set_fr FW.out (.slice am (nlen 4294967296 m) cm) (.slice aq (nlen 4294967296 q) cq))
    have S3 := hide (S3.out.set am (nlen 4294967296 m) cm aq (nlen 4294967296 q) cq)
    go_simp
    (try go_wp2_with fail)
    refine hK.out _ _ ?_ (fun hHeld => ?_)
    · (try dsimp only)
      exact ⟨S5.out.1, S6.out.1, S7.out.1⟩
    clear hK K
    (try simp only [Act.put, List.getElem_toArray, List.getElem_cons_zero, List.getElem_cons_succ, List.setIfInBounds_toArray, List.set_cons_zero, List.set_cons_succ])
    refine wpAnyH_done (by kernel_rfl) ?_ _
    go_wp2_with fail
    exact bodyPost_ret (results_nat_rat rfl _ _ (w.heap.size + 1) (w.heap.size + 1 + 1) _ _ _ rfl rfl S2.out.1 S3.out.1 S3.out.2.1) rfl ⟨_, _, _, rfl, IX.out, RV1.out _ _ ⟨_, _, _, _, rfl, IM.out, IQ.out⟩, FW.out⟩

theorem tend_any (k : Int) (P : Nat) (w : World) (k0 : -9223372036854775808 ≤ k) (k1 : k ≤ 100000) (e : 10 ^ k.toNat = P) :
    Calls Tryd.prog 52 #[.int .i64 k] w fun e w' => ∃ a c, e = .returned (.agg #[.slice a (nlen 4294967296 P) c]) ∧ IsNat w' (.agg #[.slice a (nlen 4294967296 P) c]) P ∧ Fr w w' := by
  subst e
  exact ten_any k w k0 k1

set_option maxHeartbeats 1000000 in
set_option maxRecDepth 4000 in
theorem scaleR_out (v : Value) (n d : Nat) (k : Int) (w : World) (h : IsRat w v n d) (k0 : -9223372036854775808 ≤ k) (k1 : k ≤ 9223372036854775807) (hk : k < -5000 ∨ 5000 < k) :
    Calls Tryd.prog 29 #[v, .int .i64 k] w fun e w' => e = .returned (.agg #[.slice none 0 0, .slice none 0 0]) ∧ Fr w w' := by
  obtain ⟨a, N, ca, b, M, cb, rfl⟩ := h.form
  clear h
  have fin : Hid (∀ W, W = (w.alloc (Obj.cells #[Value.slice a N ca, Value.slice b M cb] 26)).alloc (Obj.cells #[Value.slice none 0 0, Value.slice none 0 0] 26) → Slot2 w W (w.heap.size + 1) (.slice none 0 0) (.slice none 0 0) ∧ Fr w W) := by
    rintro W rfl
    exact ⟨by simpa using Slot2.new (Fr.alloc w (Obj.cells #[Value.slice a N ca, Value.slice b M cb] 26)) none 0 0 none 0 0 26, (Fr.alloc _ _).trans (Fr.alloc _ _)⟩
  by_cases c : k < -5000
  · go_enter Tryd.func29, Tryd.ntmps29
    go_wp2_with fail
    obtain ⟨S4, FW⟩ := fin.out _ rfl
    exact bodyPost_ret (results_rat rfl _ _ (w.heap.size + 1) _ _ rfl S4.1 S4.2.1) rfl ⟨rfl, FW⟩
  · have c2 : 5000 < k := by omega
    go_enter Tryd.func29, Tryd.ntmps29
    go_wp2_with fail
    obtain ⟨S4, FW⟩ := fin.out _ rfl
    exact bodyPost_ret (results_rat rfl _ _ (w.heap.size + 1) _ _ rfl S4.1 S4.2.1) rfl ⟨rfl, FW⟩

set_option maxHeartbeats 2000000 in
set_option maxRecDepth 4000 in
theorem scaleR_any (v : Value) (n d : Nat) (k : Int) (A B : Nat) (w : World) (hT : Tab w) (h : IsRat w v n d) (h1 : nlen 4294967296 n ≤ 1000000) (k1 : nlen 4294967296 d ≤ 1000000) (k0 : -5000 ≤ k) (kl : k ≤ 5000) (eA : 10 ^ k.toNat = A) (eB : 10 ^ (-k).toNat = B) :
    Calls Tryd.prog 29 #[v, .int .i64 k] w fun e w' => ∃ u, e = .returned u ∧ IsRat w' u (n * A) (d * B) ∧ Fr w w' := by
  have HA := hide h
  have HT := hide hT
  obtain ⟨a, N, ca, b, M, cb, rfl⟩ := h.form
  have hd := h.1
  have np1 : nlen 4294967296 (rN n d) ≤ 1000000 := nl_le h1 (rN_le _ _)
  have nq1 : nlen 4294967296 (rD n d) ≤ 1000000 := nl_le k1 (rD_le _ _)
  have hq0 := rD_pos (n := n) hd
  have hB0 : B ≠ 0 := by rw [← eB]; exact Nat.ne_of_gt (Nat.pow_pos (by omega))
  have nA : nlen 4294967296 A ≤ 5001 := by
    rw [← eA]; have := nlen_pow (x := 10) (n := 1) (by rw [nlten]; omega) k.toNat; omega
  have nB : nlen 4294967296 B ≤ 5001 := by
    rw [← eB]; have := nlen_pow (x := 10) (n := 1) (by rw [nlten]; omega) (-k).toNat; omega
  have SAME : Hid (∀ wz v, IsRat wz v (rN n d * A) (rD n d * B) → IsRat wz v (n * A) (d * B)) := fun wz v h => h.same (Nat.mul_ne_zero hd hB0) (by
    have a1 := @rN_mul n d
    have a2 := @rD_mul n d
    generalize Nat.gcd n d = G at *
    generalize rN n d = P at *
    generalize rD n d = Q at *
    subst a1 a2
    ac_rfl)
  have TA : Hid (∀ wz, Fr w wz → Calls Tryd.prog 8 #[.agg #[.slice a N ca, .slice b M cb]] wz fun e w' => ∃ a c b k, e = .returned (.tuple #[.agg #[.slice a (nlen 4294967296 (rN n d)) c], .agg #[.slice b (nlen 4294967296 (rD n d)) k]]) ∧ IsNat w' (.agg #[.slice a (nlen 4294967296 (rN n d)) c]) (rN n d) ∧ IsNat w' (.agg #[.slice b (nlen 4294967296 (rD n d)) k]) (rD n d) ∧ Fr wz w') := fun wz f => terms_rat _ n d wz (HA.out.fr f) (by omega)
  generalize rN n d = p at *
  generalize rD n d = q at *
  have hD0 : q * B ≠ 0 := Nat.mul_ne_zero hq0 hB0
  have nX : nlen 4294967296 (p * A) ≤ 1005001 := nlen_mul b32 np1 nA
  have nY : nlen 4294967296 (q * B) ≤ 1005001 := nlen_mul b32 nq1 nB
  have hw : IntKind.i64.wrap (-k) = -k := by rw [IntKind.wrap_i64]; omega
  have EA := hide eA
  have EB := hide eB
  clear HA h hT h1 k1 eA eB
  go_enter Tryd.func29, Tryd.ntmps29
  go_wp2_with fail
  obtain ⟨W, hW⟩ : ∃ W, W = ((w.alloc (Obj.cells #[Value.slice a N ca, Value.slice b M cb] 26)).alloc (Obj.cells #[Value.slice none 0 0, Value.slice none 0 0] 26)) := ⟨_, rfl⟩
  have fW : Fr w W := by rw [hW]; exact ((Fr.alloc w (Obj.cells #[Value.slice a N ca, Value.slice b M cb] 26)).trans (Fr.alloc _ (Obj.cells #[Value.slice none 0 0, Value.slice none 0 0] 26)))
  have s4 : Slot2 w W (w.heap.size + 1) (.slice none 0 0) (.slice none 0 0) := by
    rw [hW]; simpa using Slot2.new (Fr.alloc w (Obj.cells #[Value.slice a N ca, Value.slice b M cb] 26)) none 0 0 none 0 0 26
  rw [← hW]
  clear hW
  refine (TA.out _ fW).mono ?_
  rintro e w1 ⟨ap, cp, aq, cq, rfl, ip, iq, f1⟩
  have S4 := hide (s4.fr f1)
  have FW := hide (fW.trans f1)
  have l1 := cell_lt S4.out.1
  simp only [] at l1
  clear s4 fW f1 TA
  go_wp2_with fail
  obtain ⟨W1, hW1⟩ : ∃ W, W = ((w1.alloc (Obj.cells #[Value.slice ap (nlen 4294967296 p) cp] 24)).alloc (Obj.cells #[Value.slice aq (nlen 4294967296 q) cq] 24)) := ⟨_, rfl⟩
  have f1 : Fr w1 W1 := by rw [hW1]; exact ((Fr.alloc w1 (Obj.cells #[Value.slice ap (nlen 4294967296 p) cp] 24)).trans (Fr.alloc _ (Obj.cells #[Value.slice aq (nlen 4294967296 q) cq] 24)))
  have s5 : Slot w1 W1 (w1.heap.size) (.slice ap (nlen 4294967296 p) cp) := by
    rw [hW1]; simpa using (Slot.new (Fr.refl w1) ap (nlen 4294967296 p) cp 24).fr (Fr.alloc _ _)
  have s6 : Slot w1 W1 (w1.heap.size + 1) (.slice aq (nlen 4294967296 q) cq) := by
    rw [hW1]; simpa using Slot.new (Fr.alloc w1 (Obj.cells #[Value.slice ap (nlen 4294967296 p) cp] 24)) aq (nlen 4294967296 q) cq 24
  rw [← hW1]
  clear hW1
  have S5 := hide s5
  have S6 := hide s6
  have IP := hide (ip.fr f1)
  have IQ := hide (iq.fr f1)
  have S4 := hide (S4.out.fr f1)
  have FW := hide (FW.out.trans f1)
  have HT := hide (Tab.fr HT.out FW.out)
  clear s5 s6 f1 ip iq
  have S4 := hide (S4.out.fr (Fr.drew _))
  have S5 := hide (S5.out.fr (Fr.drew _))
  have S6 := hide (S6.out.fr (Fr.drew _))
  have IP := hide (IP.out.fr (Fr.drew _))
  have IQ := hide (IQ.out.fr (Fr.drew _))
  have HT := hide (HT.out.fr (Fr.drew _))
  have FW := hide (FW.out.trans (Fr.drew _))
  have q5 := S5.out.1
  have q6 := S6.out.1
  go_wp2_with fail
  refine wp_region_held_drew (S := (fun w' => w'.cell? ⟨w1.heap.size, 0, none⟩ = some (.slice ap (nlen 4294967296 p) cp) ∧ w'.cell? ⟨w1.heap.size + 1, 0, none⟩ = some (.slice aq (nlen 4294967296 q) cq))) (by kernel_rfl) ?_ (fun hHeld => ?_)
  · exact ⟨S5.out.1, S6.out.1⟩
  obtain ⟨wd, hwd⟩ : ∃ wd, wd = W1.drew := ⟨_, rfl⟩
  rw [← hwd] at hHeld S4 S5 S6 IP IQ HT FW ⊢
  clear hwd
  refine wpAnyH_take (i := 0) (v := ?_) rfl (by kernel_rfl) (by kernel_rfl) (by kernel_rfl) (fun _ _ _ h => h) (Or.inl ⟨by rfl, ?_⟩) (by assumption) ?_
  rotate_left
  · (intro w hSw; (try dsimp only at hSw); go_simp; try with_reducible rfl)
  (try simp only [Act.put, List.getElem_toArray, List.getElem_cons_zero, List.getElem_cons_succ, List.setIfInBounds_toArray, List.set_cons_zero, List.set_cons_succ])
  refine wpAnyH_take (i := 1) (v := ?_) rfl (by kernel_rfl) (by kernel_rfl) (by kernel_rfl) (fun _ _ _ h => h) (Or.inl ⟨by rfl, ?_⟩) (by assumption) ?_
  rotate_left
  · (intro w hSw; (try dsimp only at hSw); go_simp; try with_reducible rfl)
  (try simp only [Act.put, List.getElem_toArray, List.getElem_cons_zero, List.getElem_cons_succ, List.setIfInBounds_toArray, List.set_cons_zero, List.set_cons_succ])
  refine wpAnyH_take (i := 4) (v := ?_) rfl (by kernel_rfl) (by kernel_rfl) (by kernel_rfl) (fun _ _ _ h => h) (Or.inl ⟨by rfl, ?_⟩) (by assumption) ?_
  rotate_left
  · (intro w hSw; (try dsimp only at hSw); go_simp; try with_reducible rfl)
  (try simp only [Act.put, List.getElem_toArray, List.getElem_cons_zero, List.getElem_cons_succ, List.setIfInBounds_toArray, List.set_cons_zero, List.set_cons_succ])
  refine wpAnyH_take (i := 5) (v := ?_) rfl (by kernel_rfl) (by kernel_rfl) (by kernel_rfl) (fun _ _ _ h => h) (Or.inl ⟨by rfl, ?_⟩) (by assumption) ?_
  rotate_left
  · (intro w hSw; (try dsimp only at hSw); go_simp; try with_reducible rfl)
  (try simp only [Act.put, List.getElem_toArray, List.getElem_cons_zero, List.getElem_cons_succ, List.setIfInBounds_toArray, List.set_cons_zero, List.set_cons_succ])
  refine wpAnyH_take (i := 6) (v := ?_) rfl (by kernel_rfl) (by kernel_rfl) (by kernel_rfl) (fun _ _ _ h => h) (Or.inl ⟨by rfl, ?_⟩) (by assumption) ?_
  rotate_left
  · (intro w hSw; (try dsimp only at hSw); go_simp; try with_reducible rfl)
  (try simp only [Act.put, List.getElem_toArray, List.getElem_cons_zero, List.getElem_cons_succ, List.setIfInBounds_toArray, List.set_cons_zero, List.set_cons_succ])
  refine wpAnyH_ready (rs := [2]) (by kernel_rfl) (by simp) ?_
  refine AllReadyH.cons rfl (fun K hK => ?_) AllReadyH.nil
  go_simp
  refine (tend_any k A _ (by omega) (by omega) EA.out).mono ?_
  rintro e wa ⟨at', ct, rfl, iy, fy⟩
  have IT := hide iy
  have IP := hide (IP.out.fr fy)
  have IQ := hide (IQ.out.fr fy)
  have S4 := hide (S4.out.fr fy)
  have S5 := hide (S5.out.fr fy)
  have S6 := hide (S6.out.fr fy)
  have HT := hide (HT.out.fr fy)
  have FW := hide (FW.out.trans fy)
  clear iy fy 
  (try go_wp2_with fail)
  refine hK.out _ _ ?_ (fun hHeld => ?_)
  · (try dsimp only)
    exact ⟨S5.out.1, S6.out.1⟩
  clear hK K
  (try simp only [Act.put, List.getElem_toArray, List.getElem_cons_zero, List.getElem_cons_succ, List.setIfInBounds_toArray, List.set_cons_zero, List.set_cons_succ])
  refine wpAnyH_ready (rs := [3]) (by kernel_rfl) (by simp) ?_
  refine AllReadyH.cons rfl (fun K hK => ?_) AllReadyH.nil
  go_simp
  refine (mul_any _ _ p A _ IP.out IT.out (by omega) (by omega)).mono ?_
  rintro e wb ⟨ax, cx, rfl, iy, _, fy⟩
  have IX := hide iy
  have IQ := hide (IQ.out.fr fy)
  have S4 := hide (S4.out.fr fy)
  have S5 := hide (S5.out.fr fy)
  have S6 := hide (S6.out.fr fy)
  have HT := hide (HT.out.fr fy)
  have FW := hide (FW.out.trans fy)
  clear iy fy IP IT
  (try go_wp2_with fail)
  refine hK.out _ _ ?_ (fun hHeld => ?_)
  · (try dsimp only)
    exact ⟨S5.out.1, S6.out.1⟩
  clear hK K
  (try simp only [Act.put, List.getElem_toArray, List.getElem_cons_zero, List.getElem_cons_succ, List.setIfInBounds_toArray, List.set_cons_zero, List.set_cons_succ])
  refine wpAnyH_ready (rs := [7]) (by kernel_rfl) (by simp) ?_
  refine AllReadyH.cons rfl (fun K hK => ?_) AllReadyH.nil
  go_simp
  refine (tend_any (-k) B _ (by omega) (by omega) EB.out).mono ?_
  rintro e wc ⟨au, cu, rfl, iy, fy⟩
  have IU := hide iy
  have IX := hide (IX.out.fr fy)
  have IQ := hide (IQ.out.fr fy)
  have S4 := hide (S4.out.fr fy)
  have S5 := hide (S5.out.fr fy)
  have S6 := hide (S6.out.fr fy)
  have HT := hide (HT.out.fr fy)
  have FW := hide (FW.out.trans fy)
  clear iy fy 
  (try go_wp2_with fail)
  refine hK.out _ _ ?_ (fun hHeld => ?_)
  · (try dsimp only)
    exact ⟨S5.out.1, S6.out.1⟩
  clear hK K
  (try simp only [Act.put, List.getElem_toArray, List.getElem_cons_zero, List.getElem_cons_succ, List.setIfInBounds_toArray, List.set_cons_zero, List.set_cons_succ])
  refine wpAnyH_ready (rs := [8]) (by kernel_rfl) (by simp) ?_
  refine AllReadyH.cons rfl (fun K hK => ?_) AllReadyH.nil
  go_simp
  refine (mul_any _ _ q B _ IQ.out IU.out (by omega) (by omega)).mono ?_
  rintro e we ⟨ay, cy, rfl, iy, _, fy⟩
  have IY := hide iy
  have IX := hide (IX.out.fr fy)
  have S4 := hide (S4.out.fr fy)
  have S5 := hide (S5.out.fr fy)
  have S6 := hide (S6.out.fr fy)
  have HT := hide (HT.out.fr fy)
  have FW := hide (FW.out.trans fy)
  clear iy fy IQ IU
  (try go_wp2_with fail)
  refine hK.out _ _ ?_ (fun hHeld => ?_)
  · (try dsimp only)
    exact ⟨S5.out.1, S6.out.1⟩
  clear hK K
  (try simp only [Act.put, List.getElem_toArray, List.getElem_cons_zero, List.getElem_cons_succ, List.setIfInBounds_toArray, List.set_cons_zero, List.set_cons_succ])
  refine wpAnyH_ready (rs := [9]) (by kernel_rfl) (by simp) ?_
  refine AllReadyH.cons rfl (fun K hK => ?_) AllReadyH.nil
  go_simp
  refine (lowest_any _ _ (p * A) (q * B) _ HT.out IX.out IY.out (by omega) (by omega) hD0).mono ?_
  rintro e wr ⟨v, rfl, ir, fy⟩
  have RV := hide (SAME.out _ _ ir)
  have S4 := hide (S4.out.fr fy)
  have S5 := hide (S5.out.fr fy)
  have S6 := hide (S6.out.fr fy)
  have FW := hide (FW.out.trans fy)
  obtain ⟨u1, u2, u3, u4, u5, u6, rfl⟩ := ir.form
  clear ir fy
  (try go_wp2_with fail)
  refine hK.out _ _ ?_ (fun hHeld => ?_)
  · (try dsimp only)
    exact ⟨S5.out.1, S6.out.1⟩
  clear hK K
  (try simp only [Act.put, List.getElem_toArray, List.getElem_cons_zero, List.getElem_cons_succ, List.setIfInBounds_toArray, List.set_cons_zero, List.set_cons_succ])
  refine wpAnyH_ready (rs := [10]) (by kernel_rfl) (by simp) ?_
  refine AllReadyH.cons rfl (fun K hK => ?_) AllReadyH.nil
  have q_ := S4.out.1
  have q2_ := S4.out.2.1
  have z_ := S4.out.2.2.1 0
  have z2_ := S4.out.2.2.1 1
  have RV := hide (S4.out.rat RV.out u1 u2 u3 (.slice u4 u5 u6))
  have FW := hide (S4.out.set_fr FW.out (.slice u1 u2 u3) (.slice u4 u5 u6))
  have S4 := hide (S4.out.set u1 u2 u3 u4 u5 u6)
  go_simp
  (try go_wp2_with fail)
  refine hK.out _ _ ?_ (fun hHeld => ?_)
  · (try dsimp only)
    exact ⟨(World.cell?_setCell_other _ _ _ _ (fun e => by injection e; omega)).trans ((World.cell?_setCell_other _ _ _ _ (fun e => by injection e; omega)).trans S5.out.1), (World.cell?_setCell_other _ _ _ _ (fun e => by injection e; omega)).trans ((World.cell?_setCell_other _ _ _ _ (fun e => by injection e; omega)).trans S6.out.1)⟩
  clear hK K
  (try simp only [Act.put, List.getElem_toArray, List.getElem_cons_zero, List.getElem_cons_succ, List.setIfInBounds_toArray, List.set_cons_zero, List.set_cons_succ])
  refine wpAnyH_done (by kernel_rfl) ?_ _
  go_wp2_with fail
  exact bodyPost_ret (results_rat rfl _ _ (w.heap.size + 1) _ _ rfl S4.out.1 S4.out.2.1) rfl ⟨_, rfl, RV.out, FW.out⟩
end Go.Proofs.YtimglhbllcjpbaaDoor
