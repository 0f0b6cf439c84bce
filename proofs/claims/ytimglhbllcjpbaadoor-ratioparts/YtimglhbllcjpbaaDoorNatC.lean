/- Of, Made, Limbs, Small. -/
import Derived.Test.YtimglhbllcjpbaaDoorNatB
import Derived.Deep.QuietTactic
import Derived.BigQuiet
import Derived.WalkSmall
import Derived.RegionTactic
namespace Go.Proofs.YtimglhbllcjpbaaDoor
set_option linter.unusedVariables false
set_option linter.unusedSimpArgs false
open Go.RowKit

/-- A region that draws its order, in which nothing old is changed and each operation yields the same value in whatever world has grown out of w. -/
def FrBox (w : World) : Type := { w' : World // Fr w w' }
def FrBox.now {w : World} (p : FrBox w) : World := p.1
theorem FrBox.fr {w : World} (p : FrBox w) : Fr w p.now := p.2
theorem FrBox.some (w : World) : Nonempty (FrBox w) := ⟨⟨w, Fr.refl w⟩⟩
theorem wp_region_fr {P : Program} {id : Nat} {Q : Exit → Act → World → Prop} {a : Act} {w : World} {l : List Oper} (hm : P.follows .mixedOrders = true) (hB : Region.lexB .any l.toArray = true)
    (h : wpQuiet P l.toArray (fun w' => ∃ p : FrBox w, w' = p.now) (fun a' => ∀ w', (∃ p : FrBox w, w' = p.now) → Q .normal a' w') l a) : (Code.region id l.toArray true).wp P Q a w :=
  wp_region_quiet (C := fun w' => ∃ p : FrBox w, w' = p.now) hm hB ⟨⟨w.drew, Fr.drew w⟩, rfl⟩ (by simpa using h)
theorem Calls.fr_of {P : Program} {f : FuncId} {args : Array Value} {w : World} {p : FrBox w} {v : Value}
    (h : Calls P f args p.now fun e w' => e = .returned v ∧ Fr p.now w') : Calls P f args p.now fun e w'' => e = .returned v ∧ ∃ p : FrBox w, w'' = p.now :=
  h.mono fun _ w' ⟨he, hf⟩ => ⟨he, ⟨w', p.fr.trans hf⟩, rfl⟩

set_option maxHeartbeats 400000 in
set_option maxRecDepth 4000 in
theorem of_any (x : Nat) (w : World) (hx : x < 18446744073709551616) :
    Calls Tryd.prog 25 #[.int .u64 x] w fun e w' => ∃ a c, e = .returned (.agg #[.slice a (nlen 4294967296 x) c]) ∧ Res w w' a c x := by
  have HP : Hid (x < 4294967296 ^ 2) := by unfold Hid; omega
  have d0 : dg 4294967296 x 0 = x % 4294967296 := by simp [dg]
  have d1 : dg 4294967296 x 1 = x / 4294967296 := by simp only [dg, Nat.pow_one]; omega
  have D0 := hide d0
  have D1 := hide d1
  clear d0 d1
  go_enter Tryd.func25, Tryd.ntmps25
  go_wp2_with fail
  have hcs : Cs .u32 ((w.alloc (Obj.cells #[Value.slice none 0 0] 24)).alloc (Obj.cells #[Value.int IntKind.u32 ((x : Int) % 4294967296), Value.int IntKind.u32 ((x : Int) / 4294967296)] 41)) (some ⟨w.heap.size + 1, 0, none⟩) 2 (dg 4294967296 x) := by
    refine .inr ⟨_, _, rfl, by simp, fun j hj => ?_⟩
    match j, hj with
    | 0, _ => rw [D0.out]; simp [go_sem]
    | 1, _ => rw [D1.out]; simp [go_sem]
  refine (natOf_any x 2 2 _ _ HP.out (by omega) (by unfold maxLen; omega) hcs).mono ?_
  rintro e w1 ⟨rfl, f1⟩
  have hN := isNat_natVal (N := 2) (cap := 2) HP.out (by omega) (by unfold maxLen; omega) (hcs.fr f1)
  have f2 := (Fr.alloc _ _).trans f1
  have hcell := var_cell f2
  have hfz := var_free f2
  have f3 := (Fr.alloc _ _).trans f2
  have HN := hide hN
  clear hcs hN
  unfold natVal
  go_wp2_with fail
  (try simp only [Exit.inBlock, Exit.then])
  refine bodyPost_ret (results_nat rfl _ _ w.heap.size (.slice (natA x (some ⟨w.heap.size + 1, 0, none⟩)) (nlen 4294967296 x) (natC x 2)) rfl ?_) rfl ?_
  · go_simp
  · refine ⟨_, _, rfl, ?_, fun g off s e => ?_, fr_store f3 _⟩
    · exact IsNat.set HN.out _ _ (fun g off s e => by simp at e; simp; omega)
    · have := natA_some e; simp at this; omega

set_option maxHeartbeats 400000 in
set_option maxRecDepth 4000 in
theorem made_any (n cap : Nat) (a : Option Addr) (f : Nat → Nat) (x : Nat) (w : World) (hn : n ≤ 1000000000000) (h : Cs .u32 w a n f) (hx : x < 4294967296 ^ n) (hf : ∀ j, j < n → f j = dg 4294967296 x j) :
    Calls Tryd.prog 30 #[.slice a n cap] w fun e w' => ∃ a' cap', e = .returned (natVal x a' cap') ∧ (∀ g off s, a' = some ⟨g, off, s⟩ → w.heap.size < g) ∧ IsNat w' (natVal x a' cap') x ∧ Fr w w' := by
  have HX := hide hx
  have HF := hide hf
  clear hx hf
  go_enter Tryd.func30, Tryd.ntmps30
  go_wp2_with fail
  refine (clone_any n cap a f _ hn (h.fr (Fr.alloc _ _))).mono ?_
  rintro e w1 ⟨v, rfl, hown, f1⟩
  obtain ⟨a1, c1, rfl, hc1, hc2, hb⟩ := own_form hown
  have hcs : Cs .u32 w1 a1 n (dg 4294967296 x) := by
    rcases own_cs hown with h | ⟨b, off, h1, h2, h3⟩
    · exact .inl h
    · exact .inr ⟨b, off, h1, h2, fun j hj => by rw [← HF.out j hj]; exact h3 j hj⟩
  have HB := hide hb
  clear hown hb h
  go_wp2_with fail
  refine (natOf_any x n c1 a1 _ HX.out hc1 hc2 hcs).mono ?_
  rintro e w2 ⟨rfl, f2⟩
  have hN := isNat_natVal HX.out hc1 hc2 (hcs.fr f2)
  have f3 := f1.trans f2
  have hcell := var_cell f3
  have hfz := var_free f3
  have f4 := (Fr.alloc _ _).trans f3
  have HN := hide hN
  clear hcs hN
  unfold natVal
  go_wp2_with fail
  (try simp only [Exit.inBlock, Exit.then])
  refine bodyPost_ret (results_nat rfl _ _ w.heap.size (.slice (natA x a1) (nlen 4294967296 x) (natC x c1)) rfl ?_) rfl ?_
  · go_simp
  · have hlt : ∀ g off s, a1 = some ⟨g, off, s⟩ → w.heap.size < g := fun g off s e => by have := (HB.out g off s e).1; simp at this; omega
    refine ⟨_, _, rfl, hlt, ?_, fr_store f4 _⟩
    exact IsNat.set HN.out _ _ (fun g off s e => by have := hlt g off s e; simp; omega)

set_option maxHeartbeats 400000 in
set_option maxRecDepth 4000 in
theorem limbs_any (v : Value) (x : Nat) (w : World) (h : IsNat w v x) (hn : nlen 4294967296 x ≤ 1000000000000) :
    Calls Tryd.prog 51 #[v] w fun e w' => ∃ v', e = .returned v' ∧ w'.ownsRow (w.heap.size + 1) 41 1 v' (nlen 4294967296 x) (rowOf .u32 (nlen 4294967296 x) (dg 4294967296 x)) ∧ Fr w w' := by
  obtain ⟨a, cap, rfl, h2, h3, h4⟩ := h
  go_enter Tryd.func51, Tryd.ntmps51
  go_wp2_with fail
  refine (clone_any _ cap a _ _ hn (h4.fr (Fr.alloc _ _))).mono ?_
  rintro e w1 ⟨v, rfl, hown, f1⟩
  have HO := hide hown
  clear hown h4
  go_wp2_with fail
  go_ret
  have e : ∀ o, (w.alloc o).heap.size = w.heap.size + 1 := fun o => by simp
  exact ⟨_, rfl, by have h := HO.out; rw [e] at h; exact h, (Fr.alloc _ _).trans f1⟩
end Go.Proofs.YtimglhbllcjpbaaDoor
