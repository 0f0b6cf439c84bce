/- Add, Sub. -/
import Derived.Test.YtimglhbllcjpbaaDoorNatD
namespace Go.Proofs.YtimglhbllcjpbaaDoor
set_option linter.unusedVariables false
set_option linter.unusedSimpArgs false
open Go.RowKit

/-- The row behind i rounds: the first i digits, then noughts. -/
def rowD (k : IntKind) (f : Nat → Nat) (i j : Nat) : Value := if j < i then .int k (f j : Int) else .int k 0

theorem rowD_cs {w : World} {g n : Nat} {t : TypeId} {k : IntKind} {f : Nat → Nat} (h : w.rowIs g t n (rowD k f n)) : Cs k w (some ⟨g, 0, none⟩) n f := by
  refine .inr ⟨g, 0, rfl, h.lt, fun j hj => ?_⟩
  rw [Nat.zero_add, h.cell hj, rowD, if_pos hj]
theorem rowD_set {w : World} {g n i : Nat} {t : TypeId} {k : IntKind} {f : Nat → Nat} (h : w.rowIs g t n (rowD k f i)) (d : Int) (hd : d = f i) : (w.setCell ⟨g, i, none⟩ (.int k d)).rowIs g t n (rowD k f (i + 1)) := by
  refine (h.set i (.int k d)).congr ?_
  intro j hj
  unfold rowD
  by_cases hji : j = i
  · subst hji; rw [if_pos rfl, if_pos (by omega), hd]
  · rw [if_neg hji]
    by_cases hlt2 : j < i
    · rw [if_pos hlt2, if_pos (by omega)]
    · rw [if_neg hlt2, if_neg (by omega)]

set_option maxHeartbeats 1000000 in
set_option maxRecDepth 4000 in
theorem add_any (va vb : Value) (x y : Nat) (w : World) (ha : IsNat w va x) (hb : IsNat w vb y) (hx : nlen 4294967296 x ≤ 100000000000) (hy : nlen 4294967296 y ≤ 100000000000) :
    Calls Tryd.prog 41 #[va, vb] w fun e w' => ∃ a c, e = .returned (.agg #[.slice a (nlen 4294967296 (x + y)) c]) ∧ Res w w' a c (x + y) := by
  have HA : Hid (IsNat w va x) := ha
  have HB : Hid (IsNat w vb y) := hb
  obtain ⟨a, ca, rfl, a2, a3, a4⟩ := ha
  obtain ⟨b, cb, rfl, b2, b3, b4⟩ := hb
  clear a4 b4
  have hM : ∃ M : Nat, max (nlen 4294967296 x) (nlen 4294967296 y) + 1 = M ∧ M ≤ 100000000001 ∧ Hid (x + y < 4294967296 ^ M) := by
    refine ⟨_, rfl, by omega, ?_⟩
    exact sum_lt b32 (lt_of_nlen b32 (by omega)) (lt_of_nlen b32 (by omega))
  obtain ⟨M, hM1, hM2, hM3⟩ := hM
  generalize nlen 4294967296 x = N1 at *
  generalize nlen 4294967296 y = N2 at *
  go_enter Tryd.func41, Tryd.ntmps41
  go_wp2_with fail
  all_goals (first
    | (have e : (N2 : Int) + 1 = (M : Int) := by omega
       rw [e]; clear e)
    | (have e : (N1 : Int) + 1 = (M : Int) := by omega
       rw [e]; clear e))
  all_goals (
    have hmk := run_make_row' (P := Tryd.prog) 22 41 (.int .u32 0) 4 Tryd.underlying22 info32 rfl .i64 .i64 M (by omega) (by omega)
    rw [hmk]
    simp only [Result.andThen]
    rw [Oper.upon_value]
    go_wp2_with fail
    go_loopw [6, 19] (fun c i wr => ∃ k : Nat, k ≤ M ∧ i = .int .i64 k ∧ c = .int .u64 (carry 4294967296 x y k : Int) ∧ wr.rowIs (w.heap.size + 1 + 1 + 1) 41 M (rowD .u32 (dg 4294967296 (x + y)) k) ∧ Fr (((w.alloc (Obj.cells #[Value.slice a N1 ca] 24)).alloc (Obj.cells #[Value.slice b N2 cb] 24)).alloc (Obj.cells #[Value.slice none 0 0] 24)) wr) (fun _ i _ => M - (intOf i).toNat)
    case atStart =>
      refine ⟨0, by omega, rfl, by rw [carry_zero]; rfl, ?_, Fr.alloc _ _⟩
      have := World.rowIs_made (((w.alloc (Obj.cells #[Value.slice a N1 ca] 24)).alloc (Obj.cells #[Value.slice b N2 cb] 24)).alloc (Obj.cells #[Value.slice none 0 0] 24)) (.int .u32 0) M 41
      simp at this
      exact this
    case round =>
      obtain ⟨k, hk, rfl, rfl, hrow, hF⟩ := hrel
      have f0 : Fr w wr := (((Fr.alloc _ _).trans (Fr.alloc _ _)).trans (Fr.alloc _ _)).trans hF
      by_cases c : k < M
      · have lx := dg_lt b32 x k
        have ly := dg_lt b32 y k
        have ls := dg_lt b32 (x + y) k
        have hst := sum_step b32 x y k
        have hcl := carry_le b32 x y k
        have xA : ∀ p : FrBox wr, p.now.cell? ⟨w.heap.size, 0, none⟩ = some (.slice a N1 ca) := fun p => fr_cell (hF.trans p.fr) (by simp [go_sem])
        have xB : ∀ p : FrBox wr, p.now.cell? ⟨w.heap.size + 1, 0, none⟩ = some (.slice b N2 cb) := fun p => fr_cell (hF.trans p.fr) (by simp [go_sem])
        have kA : ∀ p : FrBox wr, Calls Tryd.prog 33 #[.agg #[.slice a N1 ca], .int .i64 k] p.now fun e w'' => e = .returned (.int .u64 (dg 4294967296 x k : Int)) ∧ ∃ p : FrBox wr, w'' = p.now := fun p => Calls.fr_of (at_any _ x k _ (IsNat.fr HA.out (f0.trans p.fr)) (by unfold maxLen; omega))
        have kB : ∀ p : FrBox wr, Calls Tryd.prog 33 #[.agg #[.slice b N2 cb], .int .i64 k] p.now fun e w'' => e = .returned (.int .u64 (dg 4294967296 y k : Int)) ∧ ∃ p : FrBox wr, w'' = p.now := fun p => Calls.fr_of (at_any _ y k _ (IsNat.fr HB.out (f0.trans p.fr)) (by unfold maxLen; omega))
        have yA := hide kA
        have yB := hide kB
        have HR := hide hrow
        clear kA kB hrow
        have nb := FrBox.some wr
        generalize dg 4294967296 x k = dx at *
        generalize dg 4294967296 y k = dy at *
        generalize carry 4294967296 x y k = c0 at *
        have HC : ∃ c1, carry 4294967296 x y (k + 1) = c1 := ⟨_, rfl⟩
        obtain ⟨c1, HC⟩ := HC
        have HD : ∃ d1, dg 4294967296 (x + y) k = d1 := ⟨_, rfl⟩
        obtain ⟨d1, HD⟩ := HD
        rw [HC, HD] at hst
        rw [HD] at ls
        have HC' := hide HC
        have HD' := hide HD
        clear HC HD
        go_wp2_with fail
        refine wp_region_fr (by kernel_rfl) (by kernel_rfl) ?_
        repeat (quiet_step (first | with_reducible exact yA.out _ | with_reducible exact yB.out _))
        refine wpQuiet_nil ?_
        intro wq hq
        obtain ⟨p, hp⟩ := hq
        have fq := p.fr
        rw [← hp] at fq
        clear hp xA xB yA yB nb p
        obtain ⟨S, hS⟩ : ∃ S : Nat, S = c0 + dx + dy := ⟨_, rfl⟩
        have e1 : IntKind.u64.wrap ((c0 : Int) + IntKind.u64.wrap ((dx : Int) + dy)) = (S : Int) := by rw [IntKind.wrap_u64, IntKind.wrap_u64]; omega
        rw [e1]
        clear e1
        have hS2 : S < 17179869184 := by omega
        have hq1 : Hid ((S : Int) % 4294967296 = d1) := by unfold Hid; omega
        have hq2 : Hid ((S : Int) / 4294967296 = c1) := by unfold Hid; omega
        have hrow2 := HR.out.of_block (fq.block _ HR.out.lt)
        have hc2 := hrow2.cell c
        have hz2 := hrow2.frozen k
        simp only [rowD, Nat.lt_irrefl, if_false] at hc2
        have HR2 := hide hrow2
        clear hS hst HR hrow2
        go_wp2_with fail
        go_roundw
        case rel =>
          refine ⟨k + 1, by omega, by go_num, ?_, ?_, ?_⟩
          · rw [HC'.out, hq2.out]
          · exact rowD_set HR2.out _ (by rw [HD'.out, hq1.out])
          · exact Below.setCell (hF.trans fq) (by simp) _
        case measure => simp [intOf]; omega
      · have e : k = M := by omega
        subst e
        have hcs := rowD_cs hrow
        clear hrow
        go_wp2_with fail
        refine (natOf_any (x + y) k k _ _ hM3.out (by omega) (by unfold maxLen; omega) hcs).mono ?_
        rintro e w1 ⟨rfl, f1⟩
        have hN := isNat_natVal (N := k) (cap := k) hM3.out (by omega) (by unfold maxLen; omega) (hcs.fr f1)
        have f2 := hF.trans f1
        have hcell : w1.cell? ⟨w.heap.size + 1 + 1, 0, none⟩ = some (.slice none 0 0) := by have := var_cell f2; simpa using this
        have hfz : w1.frozen? ⟨w.heap.size + 1 + 1, 0, none⟩ = false := by have := var_free f2; simpa using this
        have HN := hide hN
        clear hcs hN
        unfold natVal
        go_wp2_with fail
        (try simp only [Exit.inBlock, Exit.then])
        refine bodyPost_ret (results_nat rfl _ _ (w.heap.size + 1 + 1) (.slice (natA (x + y) (some ⟨w.heap.size + 1 + 1 + 1, 0, none⟩)) (nlen 4294967296 (x + y)) (natC (x + y) k)) rfl ?_) rfl ?_
        · go_simp
        · refine ⟨_, _, rfl, ?_, fun g off s e => ?_, ?_⟩
          · exact IsNat.set HN.out _ _ (fun g off s e => by simp at e; simp; omega)
          · have := natA_some e; simp at this; omega
          · exact Below.setCell (f0.trans f1) (by simp; omega) _)
end Go.Proofs.YtimglhbllcjpbaaDoor
