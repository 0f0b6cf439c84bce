/- Sub. -/
import Derived.Test.YtimglhbllcjpbaaDoorNatE
namespace Go.Proofs.YtimglhbllcjpbaaDoor
set_option linter.unusedVariables false
set_option linter.unusedSimpArgs false
open Go.RowKit

theorem isNat_zero (w : World) : IsNat w (.agg #[.slice none 0 0]) 0 := ⟨none, 0, by rw [nlen_zero], by rw [nlen_zero]; omega, by omega, .inl (nlen_zero _)⟩

set_option maxHeartbeats 1000000 in
set_option maxRecDepth 4000 in
theorem sub_no (va vb : Value) (x y : Nat) (w : World) (ha : IsNat w va x) (hb : IsNat w vb y) (hx : nlen 4294967296 x ≤ 100000000000) (hy : nlen 4294967296 y ≤ 100000000000) (hlt : x < y) :
    Calls Tryd.prog 44 #[va, vb] w fun e w' => e = .returned (.tuple #[.agg #[.slice none 0 0], .bool false]) ∧ Fr w w' := by
  have hk := fun (wz : World) (f : Fr w wz) => cmp_any va vb x y wz (ha.fr f) (hb.fr f) (by omega) (by omega)
  have hc : cmpZ x y = -1 := by unfold cmpZ; rw [if_pos hlt]
  rw [hc] at hk
  have HK := hide hk
  clear hk hc
  obtain ⟨a, ca, rfl, a2, a3, a4⟩ := ha
  obtain ⟨b, cb, rfl, b2, b3, b4⟩ := hb
  clear a4 b4
  generalize nlen 4294967296 x = N1 at *
  generalize nlen 4294967296 y = N2 at *
  go_enter Tryd.func44, Tryd.ntmps44
  go_wp2_with fail
  have f0 := ((Fr.alloc w (Obj.cells #[Value.slice a N1 ca] 24)).trans (Fr.alloc _ (Obj.cells #[Value.slice b N2 cb] 24))).trans (Fr.alloc _ (Obj.cells #[Value.slice none 0 0] 24))
  refine (HK.out _ f0).mono ?_
  rintro e w1 ⟨rfl, f1⟩
  have hcell : w1.cell? ⟨w.heap.size + 1 + 1, 0, none⟩ = some (.slice none 0 0) := by have := var_cell f1; simpa using this
  have hfz : w1.frozen? ⟨w.heap.size + 1 + 1, 0, none⟩ = false := by have := var_free f1; simpa using this
  go_wp2_with fail
  (try simp only [Exit.inBlock, Exit.then])
  refine bodyPost_ret (results_nat_ok rfl _ _ (w.heap.size + 1 + 1) (.slice none 0 0) rfl ?_) rfl ?_
  · go_simp
  · exact ⟨rfl, Below.setCell (f0.trans f1) (by simp; omega) _⟩

set_option maxHeartbeats 1000000 in
set_option maxRecDepth 4000 in
theorem sub_yes (va vb : Value) (x y : Nat) (w : World) (ha : IsNat w va x) (hb : IsNat w vb y) (hx : nlen 4294967296 x ≤ 100000000000) (hy : nlen 4294967296 y ≤ 100000000000) (hle : y ≤ x) :
    Calls Tryd.prog 44 #[va, vb] w fun e w' => ∃ a c, e = .returned (.tuple #[.agg #[.slice a (nlen 4294967296 (x - y)) c], .bool true]) ∧ Res w w' a c (x - y) := by
  have HA := hide ha
  have HB := hide hb
  have hk := fun (wz : World) (f : Fr w wz) => cmp_any va vb x y wz (ha.fr f) (hb.fr f) (by omega) (by omega)
  have hc : Hid (0 ≤ cmpZ x y ∧ cmpZ x y ≤ 1) := by unfold Hid cmpZ; rw [if_neg (by omega)]; split <;> omega
  have HK := hide hk
  clear hk
  generalize cmpZ x y = cz at *
  obtain ⟨c0, c1⟩ := hc.out
  clear hc
  have hM3 : Hid (x - y < 4294967296 ^ nlen 4294967296 x) := by have := lt_nlen b32 x; unfold Hid; omega
  obtain ⟨a, ca, rfl, a2, a3, a4⟩ := ha
  obtain ⟨b, cb, rfl, b2, b3, b4⟩ := hb
  clear a4 b4
  generalize nlen 4294967296 x = M at *
  generalize nlen 4294967296 y = N2 at *
  have hmk := run_make_row' (P := Tryd.prog) 22 41 (.int .u32 0) 4 Tryd.underlying22 info32 rfl .i64 .i64 M (by omega) (by omega)
  go_enter Tryd.func44, Tryd.ntmps44
  go_wp2_with fail
  have f0 := ((Fr.alloc w (Obj.cells #[Value.slice a M ca] 24)).trans (Fr.alloc _ (Obj.cells #[Value.slice b N2 cb] 24))).trans (Fr.alloc _ (Obj.cells #[Value.slice none 0 0] 24))
  refine (HK.out _ f0).mono ?_
  rintro e w1 ⟨rfl, f1⟩
  have hbA : w1.cell? ⟨w.heap.size, 0, none⟩ = some (.slice a M ca) := fr_cell f1 (by simp [go_sem])
  have hbB : w1.cell? ⟨w.heap.size + 1, 0, none⟩ = some (.slice b N2 cb) := fr_cell f1 (by simp [go_sem])
  have F1 : Fr w w1 := f0.trans f1
  have hcell : w1.cell? ⟨w.heap.size + 1 + 1, 0, none⟩ = some (.slice none 0 0) := by have := var_cell f1; simpa using this
  have hfz : w1.frozen? ⟨w.heap.size + 1 + 1, 0, none⟩ = false := by have := var_free f1; simpa using this
  have HF1 := hide f1
  clear f0 f1 HK
  go_wp2_with fail
  go_loopw [7, 21] (fun c i wr => ∃ k : Nat, k ≤ M ∧ i = .int .i64 k ∧ c = .int .u64 (carry 4294967296 y (x - y) k : Int) ∧ wr.rowIs w1.heap.size 41 M (rowD .u32 (dg 4294967296 (x - y)) k) ∧ Fr w1 wr) (fun _ i _ => M - (intOf i).toNat)
  case atStart =>
    exact ⟨0, by omega, rfl, by rw [carry_zero]; rfl, World.rowIs_made w1 (.int .u32 0) M 41, Fr.alloc _ _⟩
  case round =>
    obtain ⟨k, hk, rfl, rfl, hrow, hF⟩ := hrel
    have f0 : Fr w wr := F1.trans hF
    by_cases c : k < M
    · have lx := dg_lt b32 x k
      have ly := dg_lt b32 y k
      have ls := dg_lt b32 (x - y) k
      have hst := sum_step b32 y (x - y) k
      have hcl := carry_le b32 y (x - y) k
      have hcl2 := carry_le b32 y (x - y) (k + 1)
      rw [show y + (x - y) = x by omega] at hst
      have xA : ∀ p : FrBox wr, p.now.cell? ⟨w.heap.size, 0, none⟩ = some (.slice a M ca) := fun p => fr_cell (hF.trans p.fr) hbA
      have xB : ∀ p : FrBox wr, p.now.cell? ⟨w.heap.size + 1, 0, none⟩ = some (.slice b N2 cb) := fun p => fr_cell (hF.trans p.fr) hbB
      have kA : ∀ p : FrBox wr, Calls Tryd.prog 33 #[.agg #[.slice a M ca], .int .i64 k] p.now fun e w'' => e = .returned (.int .u64 (dg 4294967296 x k : Int)) ∧ ∃ p : FrBox wr, w'' = p.now := fun p => Calls.fr_of (at_any _ x k _ (IsNat.fr HA.out (f0.trans p.fr)) (by unfold maxLen; omega))
      have kB : ∀ p : FrBox wr, Calls Tryd.prog 33 #[.agg #[.slice b N2 cb], .int .i64 k] p.now fun e w'' => e = .returned (.int .u64 (dg 4294967296 y k : Int)) ∧ ∃ p : FrBox wr, w'' = p.now := fun p => Calls.fr_of (at_any _ y k _ (IsNat.fr HB.out (f0.trans p.fr)) (by unfold maxLen; omega))
      have yA := hide kA
      have yB := hide kB
      have HR := hide hrow
      clear kA kB hrow
      have nb := FrBox.some wr
      generalize dg 4294967296 x k = dx at *
      generalize dg 4294967296 y k = dy at *
      generalize carry 4294967296 y (x - y) k = c0 at *
      have HC : ∃ c1, carry 4294967296 y (x - y) (k + 1) = c1 := ⟨_, rfl⟩
      obtain ⟨c1, HC⟩ := HC
      have HD : ∃ d1, dg 4294967296 (x - y) k = d1 := ⟨_, rfl⟩
      obtain ⟨d1, HD⟩ := HD
      rw [HC] at hst hcl2
      rw [HD] at ls hst
      have HC' := hide HC
      have HD' := hide HD
      clear HC HD
      go_wp2_with fail
      refine wp_region_fr (by kernel_rfl) (by kernel_rfl) ?_
      repeat (quiet_step (first | with_reducible exact yA.out _ | with_reducible exact yB.out _))
      refine wpQuiet_nil ?_
      intro wq hq
      obtain ⟨p, hp⟩ := hq
      have fq := p.fr
      rw [← hp] at fq
      clear hp xA xB yA yB nb p
      obtain ⟨S, hS⟩ : ∃ S : Nat, (S : Int) = IntKind.u64.wrap (IntKind.u64.wrap ((dx : Int) - dy) - c0) := ⟨(IntKind.u64.wrap (IntKind.u64.wrap ((dx : Int) - dy) - c0)).toNat, by rw [IntKind.wrap_u64, IntKind.wrap_u64]; omega⟩
      rw [← hS]
      rw [IntKind.wrap_u64, IntKind.wrap_u64] at hS
      have hS2 : S < 18446744073709551616 := by omega
      have hq1 : Hid ((S : Int) % 4294967296 = d1) := by unfold Hid; omega
      have hq2 : Hid ((S : Int) / 9223372036854775808 = c1) := by unfold Hid; omega
      have hrow2 := HR.out.of_block (fq.block _ HR.out.lt)
      have hc2 := hrow2.cell c
      have hz2 := hrow2.frozen k
      simp only [rowD, Nat.lt_irrefl, if_false] at hc2
      have HR2 := hide hrow2
      clear hS hst HR hrow2
      go_wp2_with fail
      go_roundw
      case rel =>
        refine ⟨k + 1, by omega, by go_num, ?_, ?_, ?_⟩
        · rw [HC'.out, ← hq2.out]
        · exact rowD_set HR2.out _ (by rw [HD'.out, hq1.out])
        · exact Below.setCell (hF.trans fq) (by simp) _
      case measure => simp [intOf]; omega
    · have e : k = M := by omega
      subst e
      have hcs := rowD_cs hrow
      clear hrow
      go_wp2_with fail
      refine (natOf_any (x - y) k k _ _ hM3.out (by omega) (by unfold maxLen; omega) hcs).mono ?_
      rintro e w2 ⟨rfl, f2⟩
      have hN := isNat_natVal (N := k) (cap := k) hM3.out (by omega) (by unfold maxLen; omega) (hcs.fr f2)
      have f3 := (HF1.out.trans hF).trans f2
      have hcell2 : w2.cell? ⟨w.heap.size + 1 + 1, 0, none⟩ = some (.slice none 0 0) := by have := var_cell f3; simpa using this
      have hfz2 : w2.frozen? ⟨w.heap.size + 1 + 1, 0, none⟩ = false := by have := var_free f3; simpa using this
      have HN := hide hN
      have hsz := HF1.out.size
      simp at hsz
      clear hcs hN
      unfold natVal
      go_wp2_with fail
      (try simp only [Exit.inBlock, Exit.then])
      refine bodyPost_ret (results_nat_ok rfl _ _ (w.heap.size + 1 + 1) (.slice (natA (x - y) (some ⟨w1.heap.size, 0, none⟩)) (nlen 4294967296 (x - y)) (natC (x - y) k)) rfl ?_) rfl ?_
      · go_simp
      · refine ⟨_, _, rfl, ?_, fun g off s e => ?_, ?_⟩
        · exact IsNat.set HN.out _ _ (fun g off s e => by simp at e; simp; omega)
        · have := natA_some e; simp at this; omega
        · exact Below.setCell (f0.trans f2) (by simp; omega) _

theorem sub_any (va vb : Value) (x y : Nat) (w : World) (ha : IsNat w va x) (hb : IsNat w vb y) (hx : nlen 4294967296 x ≤ 100000000000) (hy : nlen 4294967296 y ≤ 100000000000) :
    Calls Tryd.prog 44 #[va, vb] w fun e w' => ∃ a c, e = .returned (.tuple #[.agg #[.slice a (nlen 4294967296 (x - y)) c], .bool (decide (y ≤ x))]) ∧ Res w w' a c (x - y) := by
  by_cases h : y ≤ x
  · rw [decide_eq_true h]
    exact sub_yes va vb x y w ha hb hx hy h
  · rw [decide_eq_false h]
    refine (sub_no va vb x y w ha hb hx hy (by omega)).mono ?_
    rintro e w' ⟨rfl, f⟩
    have e0 : x - y = 0 := by omega
    rw [e0]
    refine ⟨none, 0, by rw [nlen_zero], ?_, ?_, f⟩
    · rw [nlen_zero]; exact isNat_zero w'
    · intro g off s h; cases h
end Go.Proofs.YtimglhbllcjpbaaDoor
