/- All, Pow. -/
import Derived.Test.YtimglhbllcjpbaaDoorTimesB
namespace Go.Proofs.YtimglhbllcjpbaaDoor
set_option linter.unusedVariables false
set_option linter.unusedSimpArgs false
open Go.RowKit

theorem of_int (n : Int) (w : World) (h0 : 0 ≤ n) (hn : n < 18446744073709551616) :
    Calls Tryd.prog 25 #[.int .u64 n] w fun e w' => ∃ a c, e = .returned (.agg #[.slice a (nlen 4294967296 n.toNat) c]) ∧ Res w w' a c n.toNat := by
  have := of_any n.toNat w (by omega)
  rwa [Int.toNat_of_nonneg h0] at this
theorem nl1 : nlen 4294967296 1 = 1 := nlen_eq b32 (by decide) (.inr (by decide))
theorem of_one (w : World) : Calls Tryd.prog 25 #[.int .u64 1] w fun e w' => ∃ a c, e = .returned (.agg #[.slice a (nlen 4294967296 1) c]) ∧ Res w w' a c 1 := of_int 1 w (by omega) (by omega)

/-- The product of the first j. -/
def prodN (f : Nat → Nat) : Nat → Nat
  | 0 => 1
  | j + 1 => prodN f j * f j
/-- A list of Nats. -/
def Nats (w : World) (a : Option Addr) (n : Nat) (f : Nat → Nat) : Prop :=
  n = 0 ∨ ∃ g off, a = some ⟨g, off, none⟩ ∧ ∀ j, j < n → ∃ a c, w.cell? ⟨g, off + j, none⟩ = some (.slice a (nlen 4294967296 (f j)) c) ∧ IsNat w (.agg #[.slice a (nlen 4294967296 (f j)) c]) (f j)
theorem Nats.fr {w w' : World} {a : Option Addr} {n : Nat} {f : Nat → Nat} (h : Nats w a n f) (k : Fr w w') : Nats w' a n f := by
  rcases h with h | ⟨g, off, rfl, h⟩
  · exact .inl h
  · refine .inr ⟨g, off, rfl, fun j hj => ?_⟩
    obtain ⟨a, c, h1, h2⟩ := h j hj
    exact ⟨a, c, fr_cell k h1, h2.fr k⟩

attribute [local go_sem] World.cell?_alloc_some
set_option maxHeartbeats 1000000 in
set_option maxRecDepth 4000 in
theorem all_any (a : Option Addr) (n c : Nat) (f : Nat → Nat) (w : World) (h : Nats w a n f) (hn : n ≤ 1000000) (h1 : ∀ j, j < n → nlen 4294967296 (f j) ≤ 100000000000) (h2 : ∀ j, j ≤ n → nlen 4294967296 (prodN f j) ≤ 100000000000) :
    Calls Tryd.prog 71 #[.slice a n c] w fun e w' => ∃ a c, e = .returned (.agg #[.slice a (nlen 4294967296 (prodN f n)) c]) ∧ Res w w' a c (prodN f n) := by
  have H := hide h
  have H1 := hide h1
  have H2 := hide h2
  clear h h1 h2
  go_enter Tryd.func71, Tryd.ntmps71
  go_wp2_with fail
  obtain ⟨W, hW⟩ : ∃ W, W = w.alloc (Obj.cells #[Value.slice none 0 0] 24) := ⟨_, rfl⟩
  have fW : Fr w W := by rw [hW]; exact Fr.alloc _ _
  have c2 : W.cell? ⟨w.heap.size, 0, none⟩ = some (.slice none 0 0) := by rw [hW]; simp [go_sem]
  have z2 : W.frozen? ⟨w.heap.size, 0, none⟩ = false := by rw [hW]; simp [go_sem]
  have sW : w.heap.size < W.heap.size := cell_lt c2
  rw [← hW]
  clear hW
  refine (of_one _).mono ?_
  rintro e w1 ⟨a1, c1, rfl, i1, l1, f1⟩
  have FW := hide (fW.trans f1)
  have c2 := fr_cell f1 c2
  have z2 := fr_free f1 (by assumption) z2
  have s1 := f1.size
  have I1 := hide i1
  have O1 : Hid (∀ g off s, a1 = some ⟨g, off, s⟩ → w.heap.size < g) := fun g off s e => Nat.lt_of_lt_of_le sW (l1 g off s e)
  clear i1 l1 f1 fW
  go_wp2_with fail
  go_loopw [9] (fun s9 wr => ∃ i : Nat, i ≤ n ∧ s9 = .int .i64 i ∧ (∃ a2 c2, wr.cell? ⟨w1.heap.size, 0, none⟩ = some (.slice a2 (nlen 4294967296 (prodN f i)) c2) ∧ Hid (IsNat wr (.agg #[.slice a2 (nlen 4294967296 (prodN f i)) c2]) (prodN f i)) ∧ Hid (∀ g off s, a2 = some ⟨g, off, s⟩ → w.heap.size < g)) ∧ wr.frozen? ⟨w1.heap.size, 0, none⟩ = false ∧ Hid (Fr w1 wr)) (fun s9 _ => n - (intOf s9).toNat)
  case atStart =>
    refine ⟨0, by omega, rfl, ⟨a1, c1, by simp [go_sem, prodN], ?_, O1⟩, by simp [go_sem], Fr.alloc _ _⟩
    exact IsNat.fr I1.out (Fr.alloc _ _)
  case round =>
    obtain ⟨i, hi, rfl, ⟨a2, ca2, c3, I3, O3⟩, z3, hF⟩ := hrel
    by_cases hc : i < n
    · have hN := H.out.fr (FW.out.trans hF.out)
      have b1 := H1.out i hc
      have b2 := H2.out i hi
      rcases hN with h0 | ⟨g, off, rfl, hN⟩
      · omega
      · obtain ⟨ax, cx, hcx, hIx⟩ := hN i hc
        have IX := hide hIx
        have hF' := hide (hF.out.trans (Fr.alloc wr (Obj.cells #[Value.slice ax (nlen 4294967296 (f i)) cx] 24)))
        have IX' := hide (IX.out.fr (Fr.alloc wr (Obj.cells #[Value.slice ax (nlen 4294967296 (f i)) cx] 24)))
        have I3' := hide (IsNat.fr I3.out (Fr.alloc wr (Obj.cells #[Value.slice ax (nlen 4294967296 (f i)) cx] 24)))
        have c3' := fr_cell (Fr.alloc wr (Obj.cells #[Value.slice ax (nlen 4294967296 (f i)) cx] 24)) c3
        have z3' := fr_free (Fr.alloc wr (Obj.cells #[Value.slice ax (nlen 4294967296 (f i)) cx] 24)) c3 z3
        clear hN hIx
        go_wp2_with fail
        refine (mul_any _ _ _ _ _ I3'.out IX'.out b2 b1).mono ?_
        rintro e w2 ⟨a4, c4, rfl, i4, l4, f4⟩
        have hl := cell_lt c3'
        have c5 := fr_cell f4 c3'
        have z5 := fr_free f4 c3' z3'
        have I4 := hide i4
        have F5 := hide (hF'.out.trans f4)
        have L4 := hide l4
        clear i4 l4 f4 c3' z3' I3' IX' hF'
        go_wp2_with fail
        go_roundw
        case rel =>
          refine ⟨i + 1, by omega, by go_num, ⟨a4, c4, by rw [show prodN f (i + 1) = prodN f i * f i from rfl]; go_simp, ?_, ?_⟩, by go_simp, ?_⟩
          · rw [show prodN f (i + 1) = prodN f i * f i from rfl]
            exact IsNat.put I4.out _ _ (fun g off s e => by have := L4.out g off s e; simp at this hl; simp; omega)
          · exact fun g off s e => by have h7 := L4.out g off s e; have h8 := cell_lt c2; simp at h7 h8 hl; omega
          · exact Below.setCell F5.out (Nat.le_refl _) _
        case measure => simp [intOf]; omega
    · have e : i = n := by omega
      subst e
      have c6 := fr_cell hF.out c2
      have z6 := fr_free hF.out c2 z2
      have F6 := FW.out.trans hF.out
      go_wp2_with fail
      (try simp only [Exit.inBlock, Exit.then])
      refine bodyPost_ret (results_nat rfl _ _ w.heap.size (.slice a2 (nlen 4294967296 (prodN f i)) ca2) rfl ?_) rfl ?_
      · go_simp
      · refine ⟨_, _, rfl, ?_, fun g off s e => ?_, ?_⟩
        · exact IsNat.put I3.out _ _ (fun g off s e => by have := O3.out g off s e; simp; omega)
        · have := O3.out g off s e; omega
        · exact Below.setCell F6 (Nat.le_refl _) _

/-- A power's parts. -/
theorem pow_even (x k : Nat) (h : k % 2 = 0) : prodN (fun _ => x ^ (k / 2)) 2 = x ^ k := by
  show 1 * x ^ (k / 2) * x ^ (k / 2) = x ^ k
  rw [Nat.one_mul, ← Nat.pow_add]; congr 1; omega
def oddF (x h : Nat) (j : Nat) : Nat := if j = 2 then x else h
theorem pow_odd (x k : Nat) (h : k % 2 = 1) : prodN (oddF x (x ^ (k / 2))) 3 = x ^ k := by
  show 1 * x ^ (k / 2) * x ^ (k / 2) * x = x ^ k
  rw [Nat.one_mul, ← Nat.pow_add, ← Nat.pow_succ]; congr 1; omega

theorem nats2 {w : World} (b : Nat) (hb : b = w.heap.size) {a0 a1 : Option Addr} {c0 c1 : Nat} {f : Nat → Nat} (h0 : IsNat w (.agg #[.slice a0 (nlen 4294967296 (f 0)) c0]) (f 0)) (h1 : IsNat w (.agg #[.slice a1 (nlen 4294967296 (f 1)) c1]) (f 1)) :
    Nats (w.alloc (Obj.cells #[.slice a0 (nlen 4294967296 (f 0)) c0, .slice a1 (nlen 4294967296 (f 1)) c1] 24)) (some ⟨b, 0, none⟩) 2 f := by
  subst hb
  refine .inr ⟨_, 0, rfl, fun j hj => ?_⟩
  rcases j with _ | _ | j
  · exact ⟨a0, c0, by simp [go_sem], h0.fr (Fr.alloc _ _)⟩
  · exact ⟨a1, c1, by simp [go_sem], h1.fr (Fr.alloc _ _)⟩
  · omega
theorem nats3 {w : World} (b : Nat) (hb : b = w.heap.size) {a0 a1 a2 : Option Addr} {c0 c1 c2 : Nat} {f : Nat → Nat} (h0 : IsNat w (.agg #[.slice a0 (nlen 4294967296 (f 0)) c0]) (f 0)) (h1 : IsNat w (.agg #[.slice a1 (nlen 4294967296 (f 1)) c1]) (f 1)) (h2 : IsNat w (.agg #[.slice a2 (nlen 4294967296 (f 2)) c2]) (f 2)) :
    Nats (w.alloc (Obj.cells #[.slice a0 (nlen 4294967296 (f 0)) c0, .slice a1 (nlen 4294967296 (f 1)) c1, .slice a2 (nlen 4294967296 (f 2)) c2] 24)) (some ⟨b, 0, none⟩) 3 f := by
  subst hb
  refine .inr ⟨_, 0, rfl, fun j hj => ?_⟩
  rcases j with _ | _ | _ | j
  · exact ⟨a0, c0, by simp [go_sem], h0.fr (Fr.alloc _ _)⟩
  · exact ⟨a1, c1, by simp [go_sem], h1.fr (Fr.alloc _ _)⟩
  · exact ⟨a2, c2, by simp [go_sem], h2.fr (Fr.alloc _ _)⟩
  · omega
theorem pow_bd2 (x K : Nat) (hK : 0 < K) (hB : ∀ j, j ≤ max 1 K → nlen 4294967296 (x ^ j) ≤ 100000000000) (r : K % 2 = 0) : ∀ j, j ≤ 2 → nlen 4294967296 (prodN (fun _ => x ^ (K / 2)) j) ≤ 100000000000 := by
  intro j hj
  rcases j with _ | _ | _ | j
  · exact hB 0 (by omega)
  · show nlen 4294967296 (1 * x ^ (K / 2)) ≤ _
    rw [Nat.one_mul]; exact hB _ (by omega)
  · rw [Nat.zero_add, pow_even x K r]; exact hB _ (by omega)
  · omega
theorem pow_bd3 (x K : Nat) (hK : 0 < K) (hB : ∀ j, j ≤ max 1 K → nlen 4294967296 (x ^ j) ≤ 100000000000) (r : K % 2 = 1) : ∀ j, j ≤ 3 → nlen 4294967296 (prodN (oddF x (x ^ (K / 2))) j) ≤ 100000000000 := by
  intro j hj
  rcases j with _ | _ | _ | _ | j
  · exact hB 0 (by omega)
  · show nlen 4294967296 (1 * x ^ (K / 2)) ≤ _
    rw [Nat.one_mul]; exact hB _ (by omega)
  · show nlen 4294967296 (1 * x ^ (K / 2) * x ^ (K / 2)) ≤ _
    rw [Nat.one_mul, ← Nat.pow_add]; exact hB _ (by omega)
  · rw [Nat.zero_add, pow_odd x K r]; exact hB _ (by omega)
  · omega

set_option maxHeartbeats 1000000 in
set_option maxRecDepth 4000 in
theorem pow_none (k : Int) (va : Value) (x : Nat) (w : World) (k0 : -9223372036854775808 ≤ k) (hk : k ≤ 0) (h : IsNat w va x) :
    Calls Tryd.prog 63 #[va, .int .i64 k] w fun e w' => ∃ a c, e = .returned (.agg #[.slice a (nlen 4294967296 1) c]) ∧ Res w w' a c 1 := by
  obtain ⟨a, ca, rfl, _, _, _⟩ := h
  go_enter Tryd.func63, Tryd.ntmps63
  go_wp2_with fail
  refine (of_one _).mono ?_
  rintro e w1 ⟨a1, c1, rfl, i1, l1, f1⟩
  have c4 : w1.cell? ⟨w.heap.size + 1, 0, none⟩ = some (.slice none 0 0) := by have := var_cell f1; simpa using this
  have z4 : w1.frozen? ⟨w.heap.size + 1, 0, none⟩ = false := by have := var_free f1; simpa using this
  have I1 := hide i1
  have F1 := hide (((Fr.alloc w _).trans (Fr.alloc _ _)).trans f1)
  have L1 := hide l1
  clear i1 l1 f1
  go_wp2_with fail
  (try simp only [Exit.inBlock, Exit.then])
  refine bodyPost_ret (results_nat rfl _ _ (w.heap.size + 1) (.slice a1 (nlen 4294967296 1) c1) rfl ?_) rfl ?_
  · go_simp
  · refine ⟨_, _, rfl, ?_, fun g off s e => ?_, ?_⟩
    · exact IsNat.put I1.out _ _ (fun g off s e => by have := L1.out g off s e; simp at this; simp; omega)
    · have := L1.out g off s e; simp at this; omega
    · exact Below.setCell F1.out (by simp) _

set_option maxHeartbeats 1000000 in
set_option maxRecDepth 4000 in
theorem pow_any (m : Nat) : ∀ (k : Int) (va : Value) (x : Nat) (w : World), k.toNat ≤ m → -9223372036854775808 ≤ k → k ≤ 9223372036854775807 → IsNat w va x → (∀ j, j ≤ max 1 k.toNat → nlen 4294967296 (x ^ j) ≤ 100000000000) →
    Calls Tryd.prog 63 #[va, .int .i64 k] w fun e w' => ∃ a c, e = .returned (.agg #[.slice a (nlen 4294967296 (x ^ k.toNat)) c]) ∧ Res w w' a c (x ^ k.toNat) := by
  induction m with
  | zero =>
    intro k va x w hm k0 k1 h hb
    have e0 : k.toNat = 0 := by omega
    rw [e0, Nat.pow_zero]
    exact pow_none k va x w k0 (by omega) h
  | succ m ih =>
    intro k va x w hm k0 k1 h hb
    by_cases hk : k ≤ 0
    · have e0 : k.toNat = 0 := by omega
      rw [e0, Nat.pow_zero]
      exact pow_none k va x w k0 hk h
    · obtain ⟨K, rfl⟩ : ∃ K : Nat, k = K := ⟨k.toNat, by omega⟩
      rw [Int.toNat_natCast] at *
      have HB := hide hb
      have hI := h
      obtain ⟨a, ca, rfl, _, _, _⟩ := h
      have HI := hide hI
      have IH := hide (ih ((K / 2 : Nat) : Int) (.agg #[.slice a (nlen 4294967296 x) ca]) x)
      clear ih hb hI
      have r0 : K % 2 = 0 ∨ K % 2 = 1 := by omega
      go_enter Tryd.func63, Tryd.ntmps63
      go_wp2_with fail
      have e2 : (K : Int) / 2 = ((K / 2 : Nat) : Int) := by omega
      rw [e2]
      clear e2
      obtain ⟨W, hW⟩ : ∃ W, W = (w.alloc (Obj.cells #[Value.slice a (nlen 4294967296 x) ca] 24)).alloc (Obj.cells #[Value.slice none 0 0] 24) := ⟨_, rfl⟩
      have fW : Fr w W := by rw [hW]; exact (Fr.alloc _ _).trans (Fr.alloc _ _)
      have c2 : W.cell? ⟨w.heap.size, 0, none⟩ = some (.slice a (nlen 4294967296 x) ca) := by rw [hW]; simp [go_sem]
      have c4 : W.cell? ⟨w.heap.size + 1, 0, none⟩ = some (.slice none 0 0) := by rw [hW]; simp [go_sem]
      have z4 : W.frozen? ⟨w.heap.size + 1, 0, none⟩ = false := by rw [hW]; simp [go_sem]
      have sW : w.heap.size + 1 < W.heap.size := cell_lt c4
      rw [← hW]
      clear hW
      have h := IH.out W (by omega) (by omega) (by omega) (IsNat.fr HI.out fW) (fun j hj => HB.out j (by omega))
      rw [Int.toNat_natCast] at h
      refine h.mono ?_
      rintro e w1 ⟨a1, c1, rfl, i1, l1, f1⟩
      have c2 := fr_cell f1 c2
      have z4 := fr_free f1 c4 z4
      have c4 := fr_cell f1 c4
      have F1 := hide (fW.trans f1)
      have HX := hide (IsNat.fr HI.out F1.out)
      have HH := hide i1
      have s1 := f1.size
      clear h i1 l1 f1 fW HI IH
      rcases r0 with r0 | r0
      · go_wp2_with fail
        have hN := nats2 (w := w1.alloc (Obj.cells #[Value.slice a1 (nlen 4294967296 (x ^ (K / 2))) c1] 24)) (w1.heap.size + 1) (by simp) (f := fun _ => x ^ (K / 2)) (a0 := a1) (c0 := c1) (a1 := a1) (c1 := c1) (IsNat.fr HH.out (Fr.alloc _ _)) (IsNat.fr HH.out (Fr.alloc _ _))
        obtain ⟨WW, hWW⟩ : ∃ WW, WW = (w1.alloc (Obj.cells #[Value.slice a1 (nlen 4294967296 (x ^ (K / 2))) c1] 24)).alloc (Obj.cells #[Value.slice a1 (nlen 4294967296 (x ^ (K / 2))) c1, Value.slice a1 (nlen 4294967296 (x ^ (K / 2))) c1] 24) := ⟨_, rfl⟩
        have h := all_any _ 2 2 (fun _ => x ^ (K / 2)) _ hN (by omega) (fun j _ => HB.out _ (by omega)) (pow_bd2 x K (by omega) HB.out r0)
        rw [pow_even x K r0, ← hWW] at h
        have f3 : Fr w1 WW := by rw [hWW]; exact (Fr.alloc _ _).trans (Fr.alloc _ _)
        rw [← hWW] at hN
        rw [← hWW]
        clear hWW
        refine h.mono ?_
        rintro e w2 ⟨a5, c5, rfl, i5, l5, f5⟩
        have f6 := f3.trans f5
        have c6 := fr_cell f6 c4
        have z6 := fr_free f6 c4 z4
        have I5 := hide i5
        have L5 := hide l5
        have F6 := hide (F1.out.trans f6)
        have s3 := f3.size
        clear h i5 l5 f5 f3 f6 hN HX HH
        go_wp2_with fail
        (try simp only [Exit.inBlock, Exit.then])
        refine bodyPost_ret (results_nat rfl _ _ (w.heap.size + 1) (.slice a5 (nlen 4294967296 (x ^ K)) c5) rfl ?_) rfl ?_
        · go_simp
        · refine ⟨_, _, rfl, ?_, fun g off s e => ?_, ?_⟩
          · exact IsNat.put I5.out _ _ (fun g off s e => by have := L5.out g off s e; simp; omega)
          · have := L5.out g off s e; omega
          · exact Below.setCell F6.out (by simp) _
      · go_wp2_with fail
        have hN := nats3 (w := w1.alloc (Obj.cells #[Value.slice a1 (nlen 4294967296 (x ^ (K / 2))) c1] 24)) (w1.heap.size + 1) (by simp) (f := oddF x (x ^ (K / 2))) (a0 := a1) (c0 := c1) (a1 := a1) (c1 := c1) (a2 := a) (c2 := ca) (IsNat.fr HH.out (Fr.alloc _ _)) (IsNat.fr HH.out (Fr.alloc _ _)) (IsNat.fr HX.out (Fr.alloc _ _))
        rw [show oddF x (x ^ (K / 2)) 0 = x ^ (K / 2) from rfl, show oddF x (x ^ (K / 2)) 1 = x ^ (K / 2) from rfl, show oddF x (x ^ (K / 2)) 2 = x from rfl] at hN
        obtain ⟨WW, hWW⟩ : ∃ WW, WW = (w1.alloc (Obj.cells #[Value.slice a1 (nlen 4294967296 (x ^ (K / 2))) c1] 24)).alloc (Obj.cells #[Value.slice a1 (nlen 4294967296 (x ^ (K / 2))) c1, Value.slice a1 (nlen 4294967296 (x ^ (K / 2))) c1, Value.slice a (nlen 4294967296 x) ca] 24) := ⟨_, rfl⟩
        have hodd : ∀ j, j < 3 → nlen 4294967296 (oddF x (x ^ (K / 2)) j) ≤ 100000000000 := fun j _ => by
          unfold oddF
          split
          · have := HB.out 1 (by omega)
            rwa [Nat.pow_one] at this
          · exact HB.out _ (by omega)
        have h := all_any _ 3 3 (oddF x (x ^ (K / 2))) _ hN (by omega) hodd (pow_bd3 x K (by omega) HB.out r0)
        rw [pow_odd x K r0, ← hWW] at h
        have f3 : Fr w1 WW := by rw [hWW]; exact (Fr.alloc _ _).trans (Fr.alloc _ _)
        rw [← hWW] at hN
        rw [← hWW]
        clear hWW
        refine h.mono ?_
        rintro e w2 ⟨a5, c5, rfl, i5, l5, f5⟩
        have f6 := f3.trans f5
        have c6 := fr_cell f6 c4
        have z6 := fr_free f6 c4 z4
        have I5 := hide i5
        have L5 := hide l5
        have F6 := hide (F1.out.trans f6)
        have s3 := f3.size
        clear h i5 l5 f5 f3 f6 hN HX HH
        go_wp2_with fail
        (try simp only [Exit.inBlock, Exit.then])
        refine bodyPost_ret (results_nat rfl _ _ (w.heap.size + 1) (.slice a5 (nlen 4294967296 (x ^ K)) c5) rfl ?_) rfl ?_
        · go_simp
        · refine ⟨_, _, rfl, ?_, fun g off s e => ?_, ?_⟩
          · exact IsNat.put I5.out _ _ (fun g off s e => by have := L5.out g off s e; simp; omega)
          · have := L5.out g off s e; omega
          · exact Below.setCell F6.out (by simp) _
end Go.Proofs.YtimglhbllcjpbaaDoor
