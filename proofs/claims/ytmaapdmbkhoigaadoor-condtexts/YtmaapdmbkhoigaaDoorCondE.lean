/- Layer 13: Text. -/
import Derived.Test.YtmaapdmbkhoigaaDoorCondD
import Derived.BigQuiet
import Derived.Laws.StructEq
namespace Go.Proofs.YtmaapdmbkhoigaaDoor
set_option linter.unusedVariables false
set_option linter.unusedSimpArgs false
open Go.RowKit

theorem str_ne {s t : ByteArray} (h : s ≠ t) : (s.toList == t.toList) = false := by
  rw [beq_eq_false_iff_ne, Go.Lib.toList_data, Go.Lib.toList_data]
  intro hh
  exact h (ByteArray.ext (Array.toList_inj.1 hh))
theorem eqIn_cond (w : World) (k k' : Int) (n n' : Bool) (s s' t t' : ByteArray) :
    (Op.equalIn 10000 24 (.agg #[.int .i64 k, .bool n, .string s, .string t]) (.agg #[.int .i64 k', .bool n', .string s', .string t'])).run Tryd.prog w = .ok (decide (k = k' ∧ n = n' ∧ s = s' ∧ t = t')) w := by
  rw [show (10000 : Nat) = 9999 + 1 by rfl, run_equalIn_agg w 9999 24 _ _ (by kernel_rfl) (by kernel_rfl)]
  have hfs : (Tryd.prog.fieldsOf 24).toList = [Field.mk "Op" 22 0 false "" "" 0, Field.mk "Negative" 4 1 false "" "" 8, Field.mk "Whole" 9 2 false "" "" 16, Field.mk "Part" 9 3 false "" "" 32] := by kernel_rfl
  rw [hfs]
  unfold Op.eqFields Op.eqFields Op.eqFields Op.eqFields Op.eqFields
  by_cases h1 : k = k'
  · by_cases h2 : n = n'
    · by_cases h3 : s = s'
      · by_cases h4 : t = t'
        · subst h1 h2 h3 h4
          go_simp
        · subst h2 h3
          have := str_ne h4
          go_simp
      · have := str_ne h3
        subst h2
        go_simp
    · cases n <;> cases n' <;> first | exact absurd rfl h2 | go_simp
  · go_simp
theorem eqIn_cref (w : World) (k k' : Int) (n n' : Bool) (s s' t t' : ByteArray) :
    (Op.equalIn 10000 28 (.agg #[.int .i64 k, .bool n, .string s, .string t]) (.agg #[.int .i64 k', .bool n', .string s', .string t'])).run Tryd.prog w = .ok (decide (k = k' ∧ n = n' ∧ s = s' ∧ t = t')) w := by
  rw [show (10000 : Nat) = 9999 + 1 by rfl, run_equalIn_agg w 9999 28 _ _ (by kernel_rfl) (by kernel_rfl)]
  have hfs : (Tryd.prog.fieldsOf 28).toList = [Field.mk "Op" 3 0 false "" "" 0, Field.mk "Negative" 4 1 false "" "" 8, Field.mk "Whole" 9 2 false "" "" 16, Field.mk "Part" 9 3 false "" "" 32] := by kernel_rfl
  rw [hfs]
  unfold Op.eqFields Op.eqFields Op.eqFields Op.eqFields Op.eqFields
  by_cases h1 : k = k'
  · by_cases h2 : n = n'
    · by_cases h3 : s = s'
      · by_cases h4 : t = t'
        · subst h1 h2 h3 h4
          go_simp
        · subst h2 h3
          have := str_ne h4
          go_simp
      · have := str_ne h3
        subst h2
        go_simp
    · cases n <;> cases n' <;> first | exact absurd rfl h2 | go_simp
  · go_simp
theorem bs_inj {l m : List UInt8} : bs l = bs m ↔ l = m := ⟨fun h => by have := congrArg (fun s => s.data.toList) h; simpa [bs_data] using this, fun h => by rw [h]⟩

theorem Sgn.at {w : World} (h : Sgn w) {k : Nat} (hk : k < 6) : w.cell? ⟨0, k, none⟩ = some (.string (bs (sg k))) := by
  obtain ⟨h0, h1, h2, h3, h4, h5⟩ := h
  have hk6 : k = 0 ∨ k = 1 ∨ k = 2 ∨ k = 3 ∨ k = 4 ∨ k = 5 := by omega
  rcases hk6 with rfl | rfl | rfl | rfl | rfl | rfl
  · exact h0
  · exact h1
  · exact h2
  · exact h3
  · exact h4
  · exact h5

theorem sg_le (k : Nat) : (sg k).length ≤ 2 := by unfold sg; split <;> decide
theorem nu_le (n : Bool) (W P : List UInt8) (hW : W.length ≤ 400) (hP : P.length ≤ 400) : (nuD n W P).length ≤ 810 := by
  unfold nuD
  rw [List.length_append, List.length_append]
  have h1 : (if n = true then [45] else [] : List UInt8).length ≤ 1 := by split <;> decide
  have h2 : (if W = [] then [48] else W : List UInt8).length ≤ 401 := by
    split
    · simp
    · omega
  have h3 : (if P = [] then [] else 46 :: P : List UInt8).length ≤ 401 := by
    split
    · simp
    · rw [List.length_cons]; omega
  omega

set_option maxHeartbeats 1000000 in
set_option maxRecDepth 4000 in
theorem text_out13 (op : Int) (n : Bool) (W P : ByteArray) (w : World) (h : op < 1 ∨ 6 < op) :
    Calls Tryd.prog 11 #[.agg #[.int .i64 op, .bool n, .string W, .string P]] w fun e w' => e = .returned (.tuple #[.string ⟨#[]⟩, .bool false]) ∧ Fr w w' := by
  rcases h with h | h
  · go_enter Tryd.func11, Tryd.ntmps11
    go_wp2_with fail
    go_ret2
    exact ⟨rfl, Fr.alloc _ _⟩
  · have h' : ¬ op < 1 := by omega
    go_enter Tryd.func11, Tryd.ntmps11
    go_wp2_with fail
    go_ret2
    exact ⟨rfl, Fr.alloc _ _⟩

set_option maxHeartbeats 2000000 in
set_option maxRecDepth 4000 in
theorem text_any13 (k : Nat) (n : Bool) (W P : List UInt8) (w : World) (hk : k < 6) (hS : Sgn w) (hM : MaxOk w) (hW : W.length ≤ 400) (hP : P.length ≤ 400) :
    Calls Tryd.prog 11 #[.agg #[.int .i64 ((k : Int) + 1), .bool n, .string (bs W), .string (bs P)]] w fun e w' => e = .returned (.tuple #[.string (if mayD (k + 1) n W P = true then bs (txD (k + 1) n W P) else ⟨#[]⟩), .bool (mayD (k + 1) n W P)]) ∧ Fr w w' := by
  have hz : (txD (k + 1) n W P).length ≤ 1000 := by
    unfold txD; rw [List.length_append]; have := sg_le (k + 1 - 1); have := nu_le n W P hW hP; omega
  have HN := hide (fun w => number_any13 ((k : Int) + 1) n W P w (by omega) (by omega))
  have HPa := hide (fun w hS hM => parse_any13 (txD (k + 1) n W P) w hS hM hz)
  have hsg : Hid (∀ w', Fr w w' → w'.cell? ⟨0, k, none⟩ = some (.string (bs (sg k)))) := fun w' f => Sgn.at (hS.fr f) hk
  have HSM := hide (fun w' (f : Fr w w') => And.intro (hS.fr f) (hM.fr f))
  have hcat : bs (sg k) ++ bs (nuD n W P) = bs (txD (k + 1) n W P) := by rw [bs_append]; rfl
  have z1 : (bs (sg k)).size ≤ 2 := by rw [bs_size]; exact sg_le k
  have z2 : (bs (nuD n W P)).size ≤ 810 := by rw [bs_size]; exact nu_le n W P hW hP
  have HEQ : Hid (okD (txD (k + 1) n W P) = true → ∃ d, (∀ w, (Op.equalIn 10000 24 (.agg #[.int .i64 (opD (txD (k + 1) n W P) : Int), .bool (nD (reD (txD (k + 1) n W P))), .string (bs (wD (reD (txD (k + 1) n W P)))), .string (bs (pD (reD (txD (k + 1) n W P))))]) (.agg #[.int .i64 ((k : Int) + 1), .bool n, .string (bs W), .string (bs P)])).run Tryd.prog w = .ok d w) ∧ mayD (k + 1) n W P = d) := by
    intro hok
    refine ⟨_, fun w => eqIn_cond w _ _ _ _ _ _ _ _, ?_⟩
    rw [Bool.eq_iff_iff, may_iff, decide_eq_true_iff, bs_inj, bs_inj]
    constructor
    · rintro ⟨_, h1, h2, h3, h4⟩; exact ⟨by rw [h1]; omega, h2, h3, h4⟩
    · rintro ⟨h1, h2, h3, h4⟩; exact ⟨hok, by omega, h2, h3, h4⟩
  have HF : Hid (okD (txD (k + 1) n W P) = false → mayD (k + 1) n W P = false) := by
    intro h
    unfold mayD
    rw [h]; rfl
  clear hS hM hz hW hP
  have hcA := hide (fun h => cA_yes (l := txD (k + 1) n W P) h)
  have hcN := hide (fun h => cA_no (l := txD (k + 1) n W P) h)
  generalize bs (txD (k + 1) n W P) = T at *
  generalize okD (txD (k + 1) n W P) = ok at *
  generalize cA (txD (k + 1) n W P) = CV at *
  generalize mayD (k + 1) n W P = M at *
  generalize bs (sg k) = SG at *
  generalize bs (nuD n W P) = NU at *
  generalize bs W = WB at *
  generalize bs P = PB at *
  generalize opD (txD (k + 1) n W P) = o' at *
  generalize nD (reD (txD (k + 1) n W P)) = n' at *
  generalize bs (wD (reD (txD (k + 1) n W P))) = W' at *
  generalize bs (pD (reD (txD (k + 1) n W P))) = P' at *
  go_enter Tryd.func11, Tryd.ntmps11
  go_wp2_with fail
  obtain ⟨W1, hW1⟩ : ∃ W1, W1 = w.alloc (Obj.cells #[.int .i64 ((k : Int) + 1), .bool n, .string WB, .string PB] 24) := ⟨_, rfl⟩
  have f1 : Fr w W1 := by rw [hW1]; exact Fr.alloc _ _
  have Q := hide (show Quad w W1 w.heap.size (.int .i64 ((k : Int) + 1)) (.bool n) (.string WB) (.string PB) by rw [hW1]; exact Quad.new (Fr.refl w) _ _ _ _ _)
  rw [← hW1]
  clear hW1
  have b0 := fun p : FrBox W1 => (Q.out.fr p.fr).1
  have b1 := fun p : FrBox W1 => (Q.out.fr p.fr).2.1
  have b2 := fun p : FrBox W1 => (Q.out.fr p.fr).2.2.1
  have b3 := fun p : FrBox W1 => (Q.out.fr p.fr).2.2.2.1
  have bs0 := fun p : FrBox W1 => hsg.out p.now (f1.trans p.fr)
  have k1 := hide (fun p : FrBox W1 => Calls.fr_of (HN.out p.now))
  have nb := FrBox.some W1
  have hno : (9223372036854775807 < SG.size + NU.size) = False := eq_false (by omega)
  have hwk : IntKind.i64.wrap (k : Int) = (k : Int) := by rw [IntKind.wrap_i64]; omega
  have ik0 : 0 ≤ (k : Int) := by omega
  have ik6 : (k : Int) < 6 := by omega
  have ikt : ((k : Nat) : Int).toNat = k := by omega
  refine wp_region_fr (by kernel_rfl) (by kernel_rfl) ?_
  repeat (quiet_step (first | with_reducible exact k1.out _))
  refine wpQuiet_nil ?_
  intro wq hq
  obtain ⟨p, hp⟩ := hq
  have fq := p.fr
  rw [← hp] at fq
  clear hp b0 b1 b2 b3 bs0 k1 nb p hno hwk ik0 ik6 ikt
  have F := hide (f1.trans fq)
  have Q := hide (Q.out.fr fq)
  clear f1 fq
  have SM := HSM.out _ F.out
  go_wp2_with fail
  refine (HPa.out _ SM.1 SM.2).mono ?_
  rintro e w2 ⟨rfl, f2⟩
  have F := hide (F.out.trans f2)
  have Q := hide (Q.out.fr f2)
  clear f2 SM HPa HN
  cases ok
  · have e1 := hcN.out rfl
    have e2 := HF.out rfl
    subst e1 e2
    have fin := hide (F.out.trans (Fr.alloc w2 (.cells #[.int .i64 0, .bool false, .string ⟨#[]⟩, .string ⟨#[]⟩] 24)))
    clear hcA hcN HF HEQ
    go_wp2_with fail
    go_ret2
    exact ⟨rfl, fin.out⟩
  · have e1 := hcA.out rfl
    obtain ⟨d, hd, e2⟩ := HEQ.out rfl
    subst e1 e2
    have fin := hide (F.out.trans (Fr.alloc w2 (.cells #[.int .i64 (o' : Int), .bool n', .string W', .string P'] 24)))
    have Q2 := fun o => Q.out.fr (Fr.alloc w2 o)
    have q0 := fun o => (Q2 o).1
    have q1 := fun o => (Q2 o).2.1
    have q2 := fun o => (Q2 o).2.2.1
    have q3 := fun o => (Q2 o).2.2.2.1
    clear hcA hcN HF HEQ Q2
    cases M
    · go_wp2_with fail
      go_ret2
      exact ⟨rfl, fin.out⟩
    · go_wp2_with fail
      go_ret2
      exact ⟨rfl, fin.out⟩
end Go.Proofs.YtmaapdmbkhoigaaDoor
