/- The law CondTexts. -/
import Derived.Test.YtmaapdmbkhoigaaDoorCondN
namespace Go.Proofs.YtmaapdmbkhoigaaDoor
set_option linter.unusedVariables false
set_option linter.unusedSimpArgs false
open Go.RowKit

attribute [local go_sem] World.cell?_alloc_some
/-- A condition may be just if its text is told again as it. -/
theorem may_doc (op : Int) (n : Bool) (W P : List UInt8) : mayD op.toNat n W P = (okD (sgR op ++ nuD n W P) && decide ((opD (sgR op ++ nuD n W P) : Int) = op ∧ nD (reD (sgR op ++ nuD n W P)) = n ∧ bs (wD (reD (sgR op ++ nuD n W P))) = bs W ∧ bs (pD (reD (sgR op ++ nuD n W P))) = bs P)) := by
  by_cases h : 1 ≤ op ∧ op ≤ 6
  · rw [sgR_of h.1 h.2, Bool.eq_iff_iff, may_iff, Bool.and_eq_true, decide_eq_true_iff, bs_inj, bs_inj]
    constructor
    · rintro ⟨h1, h2, h3, h4, h5⟩; exact ⟨h1, by omega, h3, h4, h5⟩
    · rintro ⟨h1, h2, h3, h4, h5⟩; exact ⟨h1, by omega, h3, h4, h5⟩
  · rw [may_out (by omega)]
    symm
    rw [Bool.and_eq_false_iff]
    cases hok : okD (sgR op ++ nuD n W P) with
    | false => exact .inl rfl
    | true =>
      right
      obtain ⟨k, hk, h1, h2⟩ := okD_iff.1 hok
      rw [decide_eq_false_iff_not]
      rintro ⟨h3, _⟩
      omega
theorem hV_no {op : Nat} {n : Bool} {W P : List UInt8} (h : mayD op n W P = false) (b : Nat) : hV op n W P b = false := by unfold hV; rw [h]; rfl

set_option maxHeartbeats 8000000 in
set_option maxRecDepth 4000 in
theorem law_CondTexts (op : Int) (n : Bool) (a b : ByteArray) (w : World) (hop : (Lit.int .i64 op).wf = true) (ha : a.size ≤ maxLen) (hb : b.size ≤ maxLen) (hL : Led13 w) :
    Calls Tryd.prog 4 #[.int .i64 op, .bool n, .agg #[.string a, .string b]] w fun e w' => e = .returned (.bool true) ∧ Fr w w' := by
  unfold maxLen at ha hb
  obtain ⟨i, hi, i1, i2⟩ : ∃ m : Nat, min (a.size : Int) 40 = (m : Int) ∧ m ≤ a.size ∧ m ≤ 40 := ⟨min a.size 40, by omega, by omega, by omega⟩
  obtain ⟨j, hj, j1, j2⟩ : ∃ m : Nat, min (b.size : Int) 40 = (m : Int) ∧ m ≤ b.size ∧ m ≤ 40 := ⟨min b.size 40, by omega, by omega, by omega⟩
  obtain ⟨W, hW, hWl⟩ := head_of a i i1
  obtain ⟨P, hP, hPl⟩ := head_of b j j1
  have i3 : (i : Int) ≤ a.size := by omega
  have i4 : (i : Int).toNat = i := by omega
  have j3 : (j : Int) ≤ b.size := by omega
  have j4 : (j : Int).toNat = j := by omega
  have i0 : (0 : Int) ≤ i := by omega
  have j0 : (0 : Int) ≤ j := by omega
  have HLL := hide (fun w' (f : Fr w w') => hL.fr f)
  have HTx := hide (fun w (h : Led13 w) => text_gen13 op n W P w h.2.1 h.2.2 (by omega) (by omega))
  have HO := hide (fun w => ofc_any13 op n (bs W) (bs P) w)
  have HR := hide (fun w => refText_any13 op n W P w (by omega) (by omega))
  have hz : (sgR op ++ nuD n W P).length ≤ 1000 := by
    rw [List.length_append]; have := sgR_le op; have := nu_le n W P (by omega) (by omega); omega
  have HPb := hide (fun w => refParse_any (sgR op ++ nuD n W P) w hz)
  have HWk := hide (fun w (h : Led13 w) => wakes_any13 w h)
  have BO := hide (fun w => (show Calls Tryd.prog 15 #[.int .u64 0] w fun e w' => e = .returned (bval 0) ∧ Fr w w' by
    have h := of_any7 0 w (by omega)
    exact h))
  have HH := hide (fun (hm : mayD op.toNat n W P = false) w (h : Led13 w) => (show Calls Tryd.prog 14 #[.agg #[.int .i64 op, .bool n, .string (bs W), .string (bs P)], bval 0] w fun e w' => e = .returned (.bool false) ∧ Fr w w' by
    have := holds_any13 op n W P 0 w (by omega) h.1 h.2.1 h.2.2 (by omega) (by omega)
    rwa [hV_no hm] at this))
  have hmd := may_doc op n W P
  have HTT : mayD op.toNat n W P = true → bs (txD op.toNat n W P) = bs (sgR op ++ nuD n W P) := by
    intro h
    have := may_has h
    rw [sgR_of (by omega) (by omega)]
  have HEQ := hide (fun w => eqIn_cref w (opD (sgR op ++ nuD n W P) : Int) op (nD (reD (sgR op ++ nuD n W P))) n (bs (wD (reD (sgR op ++ nuD n W P)))) (bs W) (bs (pD (reD (sgR op ++ nuD n W P)))) (bs P))
  generalize hok : okD (sgR op ++ nuD n W P) = ok at *
  generalize decide ((opD (sgR op ++ nuD n W P) : Int) = op ∧ nD (reD (sgR op ++ nuD n W P)) = n ∧ bs (wD (reD (sgR op ++ nuD n W P))) = bs W ∧ bs (pD (reD (sgR op ++ nuD n W P))) = bs P) = d0 at *
  clear hL hop hz ha hb i2 j2 hWl hPl
  generalize hM : mayD op.toNat n W P = M at *
  clear hM
  have cases3 : (M = true ∧ ok = true ∧ d0 = true) ∨ (M = false ∧ ok = true ∧ d0 = false) ∨ (M = false ∧ ok = false) := by
    rw [hmd]; cases ok <;> cases d0 <;> simp
  clear hmd
  rcases cases3 with ⟨rfl, rfl, rfl⟩ | ⟨rfl, rfl, rfl⟩ | ⟨rfl, rfl⟩
  · skip
    rw [if_pos rfl, HTT rfl] at HTx
    rw [cA_yes hok] at HPb
    clear hok HTT
    generalize bs (wD (reD (sgR op ++ nuD n W P))) = W' at *
    generalize bs (pD (reD (sgR op ++ nuD n W P))) = P' at *
    generalize nD (reD (sgR op ++ nuD n W P)) = n' at *
    generalize opD (sgR op ++ nuD n W P) = o' at *
    have zT : (bs (sgR op ++ nuD n W P)).size = (bs (sgR op ++ nuD n W P)).size := rfl
    clear zT
    generalize bs (sgR op ++ nuD n W P) = T at *
    generalize bs W = WB at *
    generalize bs P = PB at *
    generalize bval 0 = v0 at *
    go_enter Tryd.func4, Tryd.ntmps4
    go_wp2_with fail
    obtain ⟨W1, hW1⟩ : ∃ V, V = w.alloc (Obj.cells #[.string a, .string b] 37) := ⟨_, rfl⟩
    have F := Fr.alloc w (.cells #[.string a, .string b] 37)
    have a0 : W1.cell? ⟨w.heap.size, 0, none⟩ = some (.string a) := by rw [hW1]; simp [go_sem]
    have a1 : W1.cell? ⟨w.heap.size, 1, none⟩ = some (.string b) := by rw [hW1]; simp [go_sem]
    rw [← hW1] at F ⊢
    clear hW1
    have F := hide (F.trans (Fr.drew W1))
    have e0 := fr_cell (Fr.drew W1) a0
    have e1 := fr_cell (Fr.drew W1) a1
    clear a0 a1
    refine wp_region_held_drew (S := (fun w' => w'.cell? ⟨w.heap.size, 0, none⟩ = some (.string a) ∧ w'.cell? ⟨w.heap.size, 1, none⟩ = some (.string b))) (by kernel_rfl) ?_ (fun hHeld => ?_)
    · exact ⟨e0, e1⟩
    obtain ⟨wd, hwd⟩ : ∃ wd, wd = W1.drew := ⟨_, rfl⟩
    rw [← hwd] at hHeld F e0 e1 ⊢
    clear hwd
    refine wpAnyH_take (i := 0) (v := ?_) rfl (by kernel_rfl) (by kernel_rfl) (by kernel_rfl) (fun _ _ _ h => h) (Or.inl ⟨by rfl, ?_⟩) (by assumption) ?_
    rotate_left
    · (intro w hSw; (try dsimp only at hSw); go_simp; try with_reducible rfl)
    (try simp only [Act.put, List.getElem_toArray, List.getElem_cons_zero, List.getElem_cons_succ, List.setIfInBounds_toArray, List.set_cons_zero, List.set_cons_succ])
    refine wpAnyH_take (i := 1) (v := ?_) rfl (by kernel_rfl) (by kernel_rfl) (by kernel_rfl) (fun _ _ _ h => h) (Or.inl ⟨by rfl, ?_⟩) (by assumption) ?_
    rotate_left
    · (intro w hSw; (try dsimp only at hSw); go_simp; try with_reducible rfl)
    (try simp only [Act.put, List.getElem_toArray, List.getElem_cons_zero, List.getElem_cons_succ, List.setIfInBounds_toArray, List.set_cons_zero, List.set_cons_succ])
    refine wpAnyH_take (i := 2) (v := ?_) rfl (by kernel_rfl) (by kernel_rfl) (by kernel_rfl) (fun _ _ _ h => h) (Or.inl ⟨by rfl, ?_⟩) (by assumption) ?_
    rotate_left
    · (intro w hSw; (try dsimp only at hSw); go_simp; try with_reducible rfl)
    (try simp only [Act.put, List.getElem_toArray, List.getElem_cons_zero, List.getElem_cons_succ, List.setIfInBounds_toArray, List.set_cons_zero, List.set_cons_succ])
    refine wpAnyH_take (i := 3) (v := ?_) rfl (by kernel_rfl) (by kernel_rfl) (by kernel_rfl) (fun _ _ _ h => h) (Or.inl ⟨by rfl, ?_⟩) (by assumption) ?_
    rotate_left
    · (intro w hSw; (try dsimp only at hSw); go_simp; try with_reducible rfl)
    (try simp only [Act.put, List.getElem_toArray, List.getElem_cons_zero, List.getElem_cons_succ, List.setIfInBounds_toArray, List.set_cons_zero, List.set_cons_succ])
    refine wpAnyH_take (i := 4) (v := ?_) rfl (by kernel_rfl) (by kernel_rfl) (by kernel_rfl) (fun _ _ _ h => h) (Or.inl ⟨by rfl, ?_⟩) (by assumption) ?_
    rotate_left
    · (intro w hSw; (try dsimp only at hSw); go_simp; try with_reducible rfl)
    (try simp only [Act.put, List.getElem_toArray, List.getElem_cons_zero, List.getElem_cons_succ, List.setIfInBounds_toArray, List.set_cons_zero, List.set_cons_succ])
    refine wpAnyH_take (i := 5) (v := ?_) rfl (by kernel_rfl) (by kernel_rfl) (by kernel_rfl) (fun _ _ _ h => h) (Or.inl ⟨by rfl, ?_⟩) (by assumption) ?_
    rotate_left
    · (intro w hSw; (try dsimp only at hSw); go_simp; try with_reducible rfl)
    (try simp only [Act.put, List.getElem_toArray, List.getElem_cons_zero, List.getElem_cons_succ, List.setIfInBounds_toArray, List.set_cons_zero, List.set_cons_succ])
    refine wpAnyH_take (i := 6) (v := ?_) rfl (by kernel_rfl) (by kernel_rfl) (by kernel_rfl) (fun _ _ _ h => h) (Or.inl ⟨by rfl, ?_⟩) (by assumption) ?_
    rotate_left
    · (intro w hSw; (try dsimp only at hSw); go_simp; try with_reducible rfl)
    (try simp only [Act.put, List.getElem_toArray, List.getElem_cons_zero, List.getElem_cons_succ, List.setIfInBounds_toArray, List.set_cons_zero, List.set_cons_succ])
    refine wpAnyH_take (i := 7) (v := ?_) rfl (by kernel_rfl) (by kernel_rfl) (by kernel_rfl) (fun _ _ _ h => h) (Or.inl ⟨by rfl, ?_⟩) (by assumption) ?_
    rotate_left
    · (intro w hSw; (try dsimp only at hSw); go_simp; try with_reducible rfl)
    (try simp only [Act.put, List.getElem_toArray, List.getElem_cons_zero, List.getElem_cons_succ, List.setIfInBounds_toArray, List.set_cons_zero, List.set_cons_succ])
    refine wpAnyH_take (i := 8) (v := ?_) rfl (by kernel_rfl) (by kernel_rfl) (by kernel_rfl) (fun _ _ _ h => h) (Or.inl ⟨by rfl, ?_⟩) (by assumption) ?_
    rotate_left
    · (intro w hSw; (try dsimp only at hSw); go_simp; try with_reducible rfl)
    (try simp only [Act.put, List.getElem_toArray, List.getElem_cons_zero, List.getElem_cons_succ, List.setIfInBounds_toArray, List.set_cons_zero, List.set_cons_succ])
    refine wpAnyH_take (i := 9) (v := ?_) rfl (by kernel_rfl) (by kernel_rfl) (by kernel_rfl) (fun _ _ _ h => h) (Or.inl ⟨by rfl, ?_⟩) (by assumption) ?_
    rotate_left
    · (intro w hSw; (try dsimp only at hSw); go_simp; try with_reducible rfl)
    (try simp only [Act.put, List.getElem_toArray, List.getElem_cons_zero, List.getElem_cons_succ, List.setIfInBounds_toArray, List.set_cons_zero, List.set_cons_succ])
    refine wpAnyH_take (i := 10) (v := ?_) rfl (by kernel_rfl) (by kernel_rfl) (by kernel_rfl) (fun _ _ _ h => h) (Or.inl ⟨by rfl, ?_⟩) (by assumption) ?_
    rotate_left
    · (intro w hSw; (try dsimp only at hSw); go_simp; try with_reducible rfl)
    (try simp only [Act.put, List.getElem_toArray, List.getElem_cons_zero, List.getElem_cons_succ, List.setIfInBounds_toArray, List.set_cons_zero, List.set_cons_succ])
    refine wpAnyH_take (i := 11) (v := ?_) rfl (by kernel_rfl) (by kernel_rfl) (by kernel_rfl) (fun _ _ _ h => h) (Or.inl ⟨by rfl, ?_⟩) (by assumption) ?_
    rotate_left
    · (intro w hSw; (try dsimp only at hSw); go_simp; try with_reducible rfl)
    (try simp only [Act.put, List.getElem_toArray, List.getElem_cons_zero, List.getElem_cons_succ, List.setIfInBounds_toArray, List.set_cons_zero, List.set_cons_succ])
    refine wpAnyH_take (i := 12) (v := ?_) rfl (by kernel_rfl) (by kernel_rfl) (by kernel_rfl) (fun _ _ _ h => h) (Or.inl ⟨by rfl, ?_⟩) (by assumption) ?_
    rotate_left
    · (intro w hSw; (try dsimp only at hSw); go_simp; try with_reducible rfl)
    (try simp only [Act.put, List.getElem_toArray, List.getElem_cons_zero, List.getElem_cons_succ, List.setIfInBounds_toArray, List.set_cons_zero, List.set_cons_succ])
    refine wpAnyH_take (i := 13) (v := ?_) rfl (by kernel_rfl) (by kernel_rfl) (by kernel_rfl) (fun _ _ _ h => h) (Or.inl ⟨by rfl, ?_⟩) (by assumption) ?_
    rotate_left
    · (intro w hSw; (try dsimp only at hSw); go_simp; try with_reducible rfl)
    (try simp only [Act.put, List.getElem_toArray, List.getElem_cons_zero, List.getElem_cons_succ, List.setIfInBounds_toArray, List.set_cons_zero, List.set_cons_succ])
    refine wpAnyH_take (i := 14) (v := ?_) rfl (by kernel_rfl) (by kernel_rfl) (by kernel_rfl) (fun _ _ _ h => h) (Or.inl ⟨by rfl, ?_⟩) (by assumption) ?_
    rotate_left
    · (intro w hSw; (try dsimp only at hSw); go_simp; try with_reducible rfl)
    (try simp only [Act.put, List.getElem_toArray, List.getElem_cons_zero, List.getElem_cons_succ, List.setIfInBounds_toArray, List.set_cons_zero, List.set_cons_succ])
    refine wpAnyH_take (i := 15) (v := ?_) rfl (by kernel_rfl) (by kernel_rfl) (by kernel_rfl) (fun _ _ _ h => h) (Or.inl ⟨by rfl, ?_⟩) (by assumption) ?_
    rotate_left
    · (intro w hSw; (try dsimp only at hSw); go_simp; try with_reducible rfl)
    (try simp only [Act.put, List.getElem_toArray, List.getElem_cons_zero, List.getElem_cons_succ, List.setIfInBounds_toArray, List.set_cons_zero, List.set_cons_succ])
    refine wpAnyH_take (i := 16) (v := ?_) rfl (by kernel_rfl) (by kernel_rfl) (by kernel_rfl) (fun _ _ _ h => h) (Or.inl ⟨by rfl, ?_⟩) (by assumption) ?_
    rotate_left
    · (intro w hSw; (try dsimp only at hSw); go_simp; try with_reducible rfl)
    (try simp only [Act.put, List.getElem_toArray, List.getElem_cons_zero, List.getElem_cons_succ, List.setIfInBounds_toArray, List.set_cons_zero, List.set_cons_succ])
    refine wpAnyH_ready (rs := [17]) (by kernel_rfl) (by simp) ?_
    refine AllReadyH.cons rfl (fun K hK => ?_) AllReadyH.nil
    go_simp
    skip
    (try go_wp2_with fail)
    refine hK.out _ _ ?_ (fun hHeld => ?_)
    · (try dsimp only)
      exact ⟨fr_cell (Fr.alloc _ _) e0, fr_cell (Fr.alloc _ _) e1⟩
    clear hK K
    (try simp only [Act.put, List.getElem_toArray, List.getElem_cons_zero, List.getElem_cons_succ, List.setIfInBounds_toArray, List.set_cons_zero, List.set_cons_succ])
    refine wpAnyH_ready (rs := [18]) (by kernel_rfl) (by simp) ?_
    refine AllReadyH.cons rfl (fun K hK => ?_) AllReadyH.nil
    go_simp
    skip
    (try go_wp2_with fail)
    refine hK.out _ _ ?_ (fun hHeld => ?_)
    · (try dsimp only)
      exact ⟨fr_cell (Fr.alloc _ _) e0, fr_cell (Fr.alloc _ _) e1⟩
    clear hK K
    (try simp only [Act.put, List.getElem_toArray, List.getElem_cons_zero, List.getElem_cons_succ, List.setIfInBounds_toArray, List.set_cons_zero, List.set_cons_succ])
    refine wpAnyH_done (by kernel_rfl) ?_ _
    have C := hide (Quad.new F.out (.int .i64 op) (.bool n) (.string WB) (.string PB) 24)
    have F := hide (F.out.trans (Fr.alloc _ (.cells #[.int .i64 op, .bool n, .string WB, .string PB] 24)))
    clear e0 e1
    go_wp2_with fail
    refine (HTx.out _ (HLL.out _ F.out)).mono ?_
    rintro e w2 ⟨rfl, f2⟩
    have C := hide (C.out.fr f2)
    have F := hide (F.out.trans f2)
    clear f2
    obtain ⟨c0, c1, c2, c3, _, _⟩ := C.out
    go_wp2_with fail
    refine (HO.out _).mono ?_
    rintro e w3 ⟨rfl, f3⟩
    have C := hide (C.out.fr f3)
    have F := hide (F.out.trans f3)
    clear f3 c0 c1 c2 c3
    go_wp2_with fail
    refine (HR.out _).mono ?_
    rintro e w4 ⟨rfl, f4⟩
    have C := hide (C.out.fr f4)
    have F := hide (F.out.trans f4)
    clear f4
    go_wp2_with fail
    refine (HPb.out _).mono ?_
    rintro e w5 ⟨rfl, f5⟩
    have C := hide (C.out.fr f5)
    have F := hide (F.out.trans f5)
    clear f5
    have D := hide (Quad.new F.out (.int .i64 (o' : Int)) (.bool n') (.string W') (.string P') 28)
    have C := hide (C.out.fr (Fr.alloc _ (.cells #[.int .i64 (o' : Int), .bool n', .string W', .string P'] 28)))
    have F := hide (F.out.trans (Fr.alloc _ (.cells #[.int .i64 (o' : Int), .bool n', .string W', .string P'] 28)))
    go_wp2_with fail
    obtain ⟨W3, hW3⟩ : ∃ W3, W3 = w5.alloc (Obj.cells #[.int .i64 (o' : Int), .bool n', .string W', .string P'] 28) := ⟨_, rfl⟩
    rw [← hW3] at C D F ⊢
    clear hW3
    have b0 := fun p : FrBox W3 => (C.out.fr p.fr).1
    have b1 := fun p : FrBox W3 => (C.out.fr p.fr).2.1
    have b2 := fun p : FrBox W3 => (C.out.fr p.fr).2.2.1
    have b3 := fun p : FrBox W3 => (C.out.fr p.fr).2.2.2.1
    have d0 := fun p : FrBox W3 => (D.out.fr p.fr).1
    have d1 := fun p : FrBox W3 => (D.out.fr p.fr).2.1
    have d2 := fun p : FrBox W3 => (D.out.fr p.fr).2.2.1
    have d3 := fun p : FrBox W3 => (D.out.fr p.fr).2.2.2.1
    have k1 := hide (fun p : FrBox W3 => Calls.fr_of (HO.out p.now))
    have nb := FrBox.some W3
    have HEQ := HEQ.out
    refine wp_region_fr (by kernel_rfl) (by kernel_rfl) ?_
    repeat (quiet_step (first | with_reducible exact k1.out _))
    refine wpQuiet_nil ?_
    intro wq hq
    obtain ⟨p, hp⟩ := hq
    have fq := p.fr
    rw [← hp] at fq
    clear hp b0 b1 b2 b3 d0 d1 d2 d3 k1 nb p
    have C := hide (C.out.fr fq)
    have F := hide (F.out.trans fq)
    clear fq
    go_wp2_with fail
    have b0 := fun p : FrBox wq => (C.out.fr p.fr).1
    have b1 := fun p : FrBox wq => (C.out.fr p.fr).2.1
    have b2 := fun p : FrBox wq => (C.out.fr p.fr).2.2.1
    have b3 := fun p : FrBox wq => (C.out.fr p.fr).2.2.2.1
    have k1 := hide (fun p : FrBox wq => Calls.fr_of (HWk.out p.now (HLL.out _ (F.out.trans p.fr))))
    have nb := FrBox.some wq
    refine wp_region_fr (by kernel_rfl) (by kernel_rfl) ?_
    repeat (quiet_step (first | with_reducible exact k1.out _))
    refine wpQuiet_nil ?_
    intro wt ht
    obtain ⟨p, hp⟩ := ht
    have ft := p.fr
    rw [← hp] at ft
    clear hp b0 b1 b2 b3 k1 nb p
    go_wp2_with fail
    go_ret
    exact ⟨rfl, F.out.trans ft⟩
  · skip
    have HX := hide (fun w h => HH.out (by trivial) w h)
    clear HH
    rw [if_neg (by decide)] at HTx
    rw [cA_yes hok] at HPb
    clear hok HTT
    generalize bs (wD (reD (sgR op ++ nuD n W P))) = W' at *
    generalize bs (pD (reD (sgR op ++ nuD n W P))) = P' at *
    generalize nD (reD (sgR op ++ nuD n W P)) = n' at *
    generalize opD (sgR op ++ nuD n W P) = o' at *
    have zT : (bs (sgR op ++ nuD n W P)).size = (bs (sgR op ++ nuD n W P)).size := rfl
    clear zT
    generalize bs (sgR op ++ nuD n W P) = T at *
    generalize bs W = WB at *
    generalize bs P = PB at *
    generalize bval 0 = v0 at *
    go_enter Tryd.func4, Tryd.ntmps4
    go_wp2_with fail
    obtain ⟨W1, hW1⟩ : ∃ V, V = w.alloc (Obj.cells #[.string a, .string b] 37) := ⟨_, rfl⟩
    have F := Fr.alloc w (.cells #[.string a, .string b] 37)
    have a0 : W1.cell? ⟨w.heap.size, 0, none⟩ = some (.string a) := by rw [hW1]; simp [go_sem]
    have a1 : W1.cell? ⟨w.heap.size, 1, none⟩ = some (.string b) := by rw [hW1]; simp [go_sem]
    rw [← hW1] at F ⊢
    clear hW1
    have F := hide (F.trans (Fr.drew W1))
    have e0 := fr_cell (Fr.drew W1) a0
    have e1 := fr_cell (Fr.drew W1) a1
    clear a0 a1
    refine wp_region_held_drew (S := (fun w' => w'.cell? ⟨w.heap.size, 0, none⟩ = some (.string a) ∧ w'.cell? ⟨w.heap.size, 1, none⟩ = some (.string b))) (by kernel_rfl) ?_ (fun hHeld => ?_)
    · exact ⟨e0, e1⟩
    obtain ⟨wd, hwd⟩ : ∃ wd, wd = W1.drew := ⟨_, rfl⟩
    rw [← hwd] at hHeld F e0 e1 ⊢
    clear hwd
    refine wpAnyH_take (i := 0) (v := ?_) rfl (by kernel_rfl) (by kernel_rfl) (by kernel_rfl) (fun _ _ _ h => h) (Or.inl ⟨by rfl, ?_⟩) (by assumption) ?_
    rotate_left
    · (intro w hSw; (try dsimp only at hSw); go_simp; try with_reducible rfl)
    (try simp only [Act.put, List.getElem_toArray, List.getElem_cons_zero, List.getElem_cons_succ, List.setIfInBounds_toArray, List.set_cons_zero, List.set_cons_succ])
    refine wpAnyH_take (i := 1) (v := ?_) rfl (by kernel_rfl) (by kernel_rfl) (by kernel_rfl) (fun _ _ _ h => h) (Or.inl ⟨by rfl, ?_⟩) (by assumption) ?_
    rotate_left
    · (intro w hSw; (try dsimp only at hSw); go_simp; try with_reducible rfl)
    (try simp only [Act.put, List.getElem_toArray, List.getElem_cons_zero, List.getElem_cons_succ, List.setIfInBounds_toArray, List.set_cons_zero, List.set_cons_succ])
    refine wpAnyH_take (i := 2) (v := ?_) rfl (by kernel_rfl) (by kernel_rfl) (by kernel_rfl) (fun _ _ _ h => h) (Or.inl ⟨by rfl, ?_⟩) (by assumption) ?_
    rotate_left
    · (intro w hSw; (try dsimp only at hSw); go_simp; try with_reducible rfl)
    (try simp only [Act.put, List.getElem_toArray, List.getElem_cons_zero, List.getElem_cons_succ, List.setIfInBounds_toArray, List.set_cons_zero, List.set_cons_succ])
    refine wpAnyH_take (i := 3) (v := ?_) rfl (by kernel_rfl) (by kernel_rfl) (by kernel_rfl) (fun _ _ _ h => h) (Or.inl ⟨by rfl, ?_⟩) (by assumption) ?_
    rotate_left
    · (intro w hSw; (try dsimp only at hSw); go_simp; try with_reducible rfl)
    (try simp only [Act.put, List.getElem_toArray, List.getElem_cons_zero, List.getElem_cons_succ, List.setIfInBounds_toArray, List.set_cons_zero, List.set_cons_succ])
    refine wpAnyH_take (i := 4) (v := ?_) rfl (by kernel_rfl) (by kernel_rfl) (by kernel_rfl) (fun _ _ _ h => h) (Or.inl ⟨by rfl, ?_⟩) (by assumption) ?_
    rotate_left
    · (intro w hSw; (try dsimp only at hSw); go_simp; try with_reducible rfl)
    (try simp only [Act.put, List.getElem_toArray, List.getElem_cons_zero, List.getElem_cons_succ, List.setIfInBounds_toArray, List.set_cons_zero, List.set_cons_succ])
    refine wpAnyH_take (i := 5) (v := ?_) rfl (by kernel_rfl) (by kernel_rfl) (by kernel_rfl) (fun _ _ _ h => h) (Or.inl ⟨by rfl, ?_⟩) (by assumption) ?_
    rotate_left
    · (intro w hSw; (try dsimp only at hSw); go_simp; try with_reducible rfl)
    (try simp only [Act.put, List.getElem_toArray, List.getElem_cons_zero, List.getElem_cons_succ, List.setIfInBounds_toArray, List.set_cons_zero, List.set_cons_succ])
    refine wpAnyH_take (i := 6) (v := ?_) rfl (by kernel_rfl) (by kernel_rfl) (by kernel_rfl) (fun _ _ _ h => h) (Or.inl ⟨by rfl, ?_⟩) (by assumption) ?_
    rotate_left
    · (intro w hSw; (try dsimp only at hSw); go_simp; try with_reducible rfl)
    (try simp only [Act.put, List.getElem_toArray, List.getElem_cons_zero, List.getElem_cons_succ, List.setIfInBounds_toArray, List.set_cons_zero, List.set_cons_succ])
    refine wpAnyH_take (i := 7) (v := ?_) rfl (by kernel_rfl) (by kernel_rfl) (by kernel_rfl) (fun _ _ _ h => h) (Or.inl ⟨by rfl, ?_⟩) (by assumption) ?_
    rotate_left
    · (intro w hSw; (try dsimp only at hSw); go_simp; try with_reducible rfl)
    (try simp only [Act.put, List.getElem_toArray, List.getElem_cons_zero, List.getElem_cons_succ, List.setIfInBounds_toArray, List.set_cons_zero, List.set_cons_succ])
    refine wpAnyH_take (i := 8) (v := ?_) rfl (by kernel_rfl) (by kernel_rfl) (by kernel_rfl) (fun _ _ _ h => h) (Or.inl ⟨by rfl, ?_⟩) (by assumption) ?_
    rotate_left
    · (intro w hSw; (try dsimp only at hSw); go_simp; try with_reducible rfl)
    (try simp only [Act.put, List.getElem_toArray, List.getElem_cons_zero, List.getElem_cons_succ, List.setIfInBounds_toArray, List.set_cons_zero, List.set_cons_succ])
    refine wpAnyH_take (i := 9) (v := ?_) rfl (by kernel_rfl) (by kernel_rfl) (by kernel_rfl) (fun _ _ _ h => h) (Or.inl ⟨by rfl, ?_⟩) (by assumption) ?_
    rotate_left
    · (intro w hSw; (try dsimp only at hSw); go_simp; try with_reducible rfl)
    (try simp only [Act.put, List.getElem_toArray, List.getElem_cons_zero, List.getElem_cons_succ, List.setIfInBounds_toArray, List.set_cons_zero, List.set_cons_succ])
    refine wpAnyH_take (i := 10) (v := ?_) rfl (by kernel_rfl) (by kernel_rfl) (by kernel_rfl) (fun _ _ _ h => h) (Or.inl ⟨by rfl, ?_⟩) (by assumption) ?_
    rotate_left
    · (intro w hSw; (try dsimp only at hSw); go_simp; try with_reducible rfl)
    (try simp only [Act.put, List.getElem_toArray, List.getElem_cons_zero, List.getElem_cons_succ, List.setIfInBounds_toArray, List.set_cons_zero, List.set_cons_succ])
    refine wpAnyH_take (i := 11) (v := ?_) rfl (by kernel_rfl) (by kernel_rfl) (by kernel_rfl) (fun _ _ _ h => h) (Or.inl ⟨by rfl, ?_⟩) (by assumption) ?_
    rotate_left
    · (intro w hSw; (try dsimp only at hSw); go_simp; try with_reducible rfl)
    (try simp only [Act.put, List.getElem_toArray, List.getElem_cons_zero, List.getElem_cons_succ, List.setIfInBounds_toArray, List.set_cons_zero, List.set_cons_succ])
    refine wpAnyH_take (i := 12) (v := ?_) rfl (by kernel_rfl) (by kernel_rfl) (by kernel_rfl) (fun _ _ _ h => h) (Or.inl ⟨by rfl, ?_⟩) (by assumption) ?_
    rotate_left
    · (intro w hSw; (try dsimp only at hSw); go_simp; try with_reducible rfl)
    (try simp only [Act.put, List.getElem_toArray, List.getElem_cons_zero, List.getElem_cons_succ, List.setIfInBounds_toArray, List.set_cons_zero, List.set_cons_succ])
    refine wpAnyH_take (i := 13) (v := ?_) rfl (by kernel_rfl) (by kernel_rfl) (by kernel_rfl) (fun _ _ _ h => h) (Or.inl ⟨by rfl, ?_⟩) (by assumption) ?_
    rotate_left
    · (intro w hSw; (try dsimp only at hSw); go_simp; try with_reducible rfl)
    (try simp only [Act.put, List.getElem_toArray, List.getElem_cons_zero, List.getElem_cons_succ, List.setIfInBounds_toArray, List.set_cons_zero, List.set_cons_succ])
    refine wpAnyH_take (i := 14) (v := ?_) rfl (by kernel_rfl) (by kernel_rfl) (by kernel_rfl) (fun _ _ _ h => h) (Or.inl ⟨by rfl, ?_⟩) (by assumption) ?_
    rotate_left
    · (intro w hSw; (try dsimp only at hSw); go_simp; try with_reducible rfl)
    (try simp only [Act.put, List.getElem_toArray, List.getElem_cons_zero, List.getElem_cons_succ, List.setIfInBounds_toArray, List.set_cons_zero, List.set_cons_succ])
    refine wpAnyH_take (i := 15) (v := ?_) rfl (by kernel_rfl) (by kernel_rfl) (by kernel_rfl) (fun _ _ _ h => h) (Or.inl ⟨by rfl, ?_⟩) (by assumption) ?_
    rotate_left
    · (intro w hSw; (try dsimp only at hSw); go_simp; try with_reducible rfl)
    (try simp only [Act.put, List.getElem_toArray, List.getElem_cons_zero, List.getElem_cons_succ, List.setIfInBounds_toArray, List.set_cons_zero, List.set_cons_succ])
    refine wpAnyH_take (i := 16) (v := ?_) rfl (by kernel_rfl) (by kernel_rfl) (by kernel_rfl) (fun _ _ _ h => h) (Or.inl ⟨by rfl, ?_⟩) (by assumption) ?_
    rotate_left
    · (intro w hSw; (try dsimp only at hSw); go_simp; try with_reducible rfl)
    (try simp only [Act.put, List.getElem_toArray, List.getElem_cons_zero, List.getElem_cons_succ, List.setIfInBounds_toArray, List.set_cons_zero, List.set_cons_succ])
    refine wpAnyH_ready (rs := [17]) (by kernel_rfl) (by simp) ?_
    refine AllReadyH.cons rfl (fun K hK => ?_) AllReadyH.nil
    go_simp
    skip
    (try go_wp2_with fail)
    refine hK.out _ _ ?_ (fun hHeld => ?_)
    · (try dsimp only)
      exact ⟨fr_cell (Fr.alloc _ _) e0, fr_cell (Fr.alloc _ _) e1⟩
    clear hK K
    (try simp only [Act.put, List.getElem_toArray, List.getElem_cons_zero, List.getElem_cons_succ, List.setIfInBounds_toArray, List.set_cons_zero, List.set_cons_succ])
    refine wpAnyH_ready (rs := [18]) (by kernel_rfl) (by simp) ?_
    refine AllReadyH.cons rfl (fun K hK => ?_) AllReadyH.nil
    go_simp
    skip
    (try go_wp2_with fail)
    refine hK.out _ _ ?_ (fun hHeld => ?_)
    · (try dsimp only)
      exact ⟨fr_cell (Fr.alloc _ _) e0, fr_cell (Fr.alloc _ _) e1⟩
    clear hK K
    (try simp only [Act.put, List.getElem_toArray, List.getElem_cons_zero, List.getElem_cons_succ, List.setIfInBounds_toArray, List.set_cons_zero, List.set_cons_succ])
    refine wpAnyH_done (by kernel_rfl) ?_ _
    have C := hide (Quad.new F.out (.int .i64 op) (.bool n) (.string WB) (.string PB) 24)
    have F := hide (F.out.trans (Fr.alloc _ (.cells #[.int .i64 op, .bool n, .string WB, .string PB] 24)))
    clear e0 e1
    go_wp2_with fail
    refine (HTx.out _ (HLL.out _ F.out)).mono ?_
    rintro e w2 ⟨rfl, f2⟩
    have C := hide (C.out.fr f2)
    have F := hide (F.out.trans f2)
    clear f2
    obtain ⟨c0, c1, c2, c3, _, _⟩ := C.out
    go_wp2_with fail
    refine (HO.out _).mono ?_
    rintro e w3 ⟨rfl, f3⟩
    have C := hide (C.out.fr f3)
    have F := hide (F.out.trans f3)
    clear f3 c0 c1 c2 c3
    go_wp2_with fail
    refine (HR.out _).mono ?_
    rintro e w4 ⟨rfl, f4⟩
    have C := hide (C.out.fr f4)
    have F := hide (F.out.trans f4)
    clear f4
    go_wp2_with fail
    refine (HPb.out _).mono ?_
    rintro e w5 ⟨rfl, f5⟩
    have C := hide (C.out.fr f5)
    have F := hide (F.out.trans f5)
    clear f5
    have D := hide (Quad.new F.out (.int .i64 (o' : Int)) (.bool n') (.string W') (.string P') 28)
    have C := hide (C.out.fr (Fr.alloc _ (.cells #[.int .i64 (o' : Int), .bool n', .string W', .string P'] 28)))
    have F := hide (F.out.trans (Fr.alloc _ (.cells #[.int .i64 (o' : Int), .bool n', .string W', .string P'] 28)))
    go_wp2_with fail
    obtain ⟨W3, hW3⟩ : ∃ W3, W3 = w5.alloc (Obj.cells #[.int .i64 (o' : Int), .bool n', .string W', .string P'] 28) := ⟨_, rfl⟩
    rw [← hW3] at C D F ⊢
    clear hW3
    have b0 := fun p : FrBox W3 => (C.out.fr p.fr).1
    have b1 := fun p : FrBox W3 => (C.out.fr p.fr).2.1
    have b2 := fun p : FrBox W3 => (C.out.fr p.fr).2.2.1
    have b3 := fun p : FrBox W3 => (C.out.fr p.fr).2.2.2.1
    have d0 := fun p : FrBox W3 => (D.out.fr p.fr).1
    have d1 := fun p : FrBox W3 => (D.out.fr p.fr).2.1
    have d2 := fun p : FrBox W3 => (D.out.fr p.fr).2.2.1
    have d3 := fun p : FrBox W3 => (D.out.fr p.fr).2.2.2.1
    have k1 := hide (fun p : FrBox W3 => Calls.fr_of (HO.out p.now))
    have nb := FrBox.some W3
    have HEQ := HEQ.out
    refine wp_region_fr (by kernel_rfl) (by kernel_rfl) ?_
    repeat (quiet_step (first | with_reducible exact k1.out _))
    refine wpQuiet_nil ?_
    intro wq hq
    obtain ⟨p, hp⟩ := hq
    have fq := p.fr
    rw [← hp] at fq
    clear hp b0 b1 b2 b3 d0 d1 d2 d3 k1 nb p
    have C := hide (C.out.fr fq)
    have F := hide (F.out.trans fq)
    clear fq
    go_wp2_with fail
    have b0 := fun p : FrBox wq => (C.out.fr p.fr).1
    have b1 := fun p : FrBox wq => (C.out.fr p.fr).2.1
    have b2 := fun p : FrBox wq => (C.out.fr p.fr).2.2.1
    have b3 := fun p : FrBox wq => (C.out.fr p.fr).2.2.2.1
    have k1 := hide (fun p : FrBox wq => Calls.fr_of (HWk.out p.now (HLL.out _ (F.out.trans p.fr))))
    have k2 := hide (fun p : FrBox wq => Calls.fr_of (BO.out p.now))
    have k3 := hide (fun p : FrBox wq => Calls.fr_of (HX.out p.now (HLL.out _ (F.out.trans p.fr))))
    have nb := FrBox.some wq
    refine wp_region_fr (by kernel_rfl) (by kernel_rfl) ?_
    repeat (quiet_step (first | with_reducible exact k1.out _ | with_reducible exact k2.out _ | with_reducible exact k3.out _))
    refine wpQuiet_nil ?_
    intro wt ht
    obtain ⟨p, hp⟩ := ht
    have ft := p.fr
    rw [← hp] at ft
    clear hp b0 b1 b2 b3 k1 nb p
    go_wp2_with fail
    go_ret
    exact ⟨rfl, F.out.trans ft⟩
  · skip
    have HX := hide (fun w h => HH.out (by trivial) w h)
    clear HH
    rw [if_neg (by decide)] at HTx
    rw [cA_no hok] at HPb
    clear hok HTT
    generalize bs (wD (reD (sgR op ++ nuD n W P))) = W' at *
    generalize bs (pD (reD (sgR op ++ nuD n W P))) = P' at *
    generalize nD (reD (sgR op ++ nuD n W P)) = n' at *
    generalize opD (sgR op ++ nuD n W P) = o' at *
    have zT : (bs (sgR op ++ nuD n W P)).size = (bs (sgR op ++ nuD n W P)).size := rfl
    clear zT
    generalize bs (sgR op ++ nuD n W P) = T at *
    generalize bs W = WB at *
    generalize bs P = PB at *
    generalize bval 0 = v0 at *
    go_enter Tryd.func4, Tryd.ntmps4
    go_wp2_with fail
    obtain ⟨W1, hW1⟩ : ∃ V, V = w.alloc (Obj.cells #[.string a, .string b] 37) := ⟨_, rfl⟩
    have F := Fr.alloc w (.cells #[.string a, .string b] 37)
    have a0 : W1.cell? ⟨w.heap.size, 0, none⟩ = some (.string a) := by rw [hW1]; simp [go_sem]
    have a1 : W1.cell? ⟨w.heap.size, 1, none⟩ = some (.string b) := by rw [hW1]; simp [go_sem]
    rw [← hW1] at F ⊢
    clear hW1
    have F := hide (F.trans (Fr.drew W1))
    have e0 := fr_cell (Fr.drew W1) a0
    have e1 := fr_cell (Fr.drew W1) a1
    clear a0 a1
    refine wp_region_held_drew (S := (fun w' => w'.cell? ⟨w.heap.size, 0, none⟩ = some (.string a) ∧ w'.cell? ⟨w.heap.size, 1, none⟩ = some (.string b))) (by kernel_rfl) ?_ (fun hHeld => ?_)
    · exact ⟨e0, e1⟩
    obtain ⟨wd, hwd⟩ : ∃ wd, wd = W1.drew := ⟨_, rfl⟩
    rw [← hwd] at hHeld F e0 e1 ⊢
    clear hwd
    refine wpAnyH_take (i := 0) (v := ?_) rfl (by kernel_rfl) (by kernel_rfl) (by kernel_rfl) (fun _ _ _ h => h) (Or.inl ⟨by rfl, ?_⟩) (by assumption) ?_
    rotate_left
    · (intro w hSw; (try dsimp only at hSw); go_simp; try with_reducible rfl)
    (try simp only [Act.put, List.getElem_toArray, List.getElem_cons_zero, List.getElem_cons_succ, List.setIfInBounds_toArray, List.set_cons_zero, List.set_cons_succ])
    refine wpAnyH_take (i := 1) (v := ?_) rfl (by kernel_rfl) (by kernel_rfl) (by kernel_rfl) (fun _ _ _ h => h) (Or.inl ⟨by rfl, ?_⟩) (by assumption) ?_
    rotate_left
    · (intro w hSw; (try dsimp only at hSw); go_simp; try with_reducible rfl)
    (try simp only [Act.put, List.getElem_toArray, List.getElem_cons_zero, List.getElem_cons_succ, List.setIfInBounds_toArray, List.set_cons_zero, List.set_cons_succ])
    refine wpAnyH_take (i := 2) (v := ?_) rfl (by kernel_rfl) (by kernel_rfl) (by kernel_rfl) (fun _ _ _ h => h) (Or.inl ⟨by rfl, ?_⟩) (by assumption) ?_
    rotate_left
    · (intro w hSw; (try dsimp only at hSw); go_simp; try with_reducible rfl)
    (try simp only [Act.put, List.getElem_toArray, List.getElem_cons_zero, List.getElem_cons_succ, List.setIfInBounds_toArray, List.set_cons_zero, List.set_cons_succ])
    refine wpAnyH_take (i := 3) (v := ?_) rfl (by kernel_rfl) (by kernel_rfl) (by kernel_rfl) (fun _ _ _ h => h) (Or.inl ⟨by rfl, ?_⟩) (by assumption) ?_
    rotate_left
    · (intro w hSw; (try dsimp only at hSw); go_simp; try with_reducible rfl)
    (try simp only [Act.put, List.getElem_toArray, List.getElem_cons_zero, List.getElem_cons_succ, List.setIfInBounds_toArray, List.set_cons_zero, List.set_cons_succ])
    refine wpAnyH_take (i := 4) (v := ?_) rfl (by kernel_rfl) (by kernel_rfl) (by kernel_rfl) (fun _ _ _ h => h) (Or.inl ⟨by rfl, ?_⟩) (by assumption) ?_
    rotate_left
    · (intro w hSw; (try dsimp only at hSw); go_simp; try with_reducible rfl)
    (try simp only [Act.put, List.getElem_toArray, List.getElem_cons_zero, List.getElem_cons_succ, List.setIfInBounds_toArray, List.set_cons_zero, List.set_cons_succ])
    refine wpAnyH_take (i := 5) (v := ?_) rfl (by kernel_rfl) (by kernel_rfl) (by kernel_rfl) (fun _ _ _ h => h) (Or.inl ⟨by rfl, ?_⟩) (by assumption) ?_
    rotate_left
    · (intro w hSw; (try dsimp only at hSw); go_simp; try with_reducible rfl)
    (try simp only [Act.put, List.getElem_toArray, List.getElem_cons_zero, List.getElem_cons_succ, List.setIfInBounds_toArray, List.set_cons_zero, List.set_cons_succ])
    refine wpAnyH_take (i := 6) (v := ?_) rfl (by kernel_rfl) (by kernel_rfl) (by kernel_rfl) (fun _ _ _ h => h) (Or.inl ⟨by rfl, ?_⟩) (by assumption) ?_
    rotate_left
    · (intro w hSw; (try dsimp only at hSw); go_simp; try with_reducible rfl)
    (try simp only [Act.put, List.getElem_toArray, List.getElem_cons_zero, List.getElem_cons_succ, List.setIfInBounds_toArray, List.set_cons_zero, List.set_cons_succ])
    refine wpAnyH_take (i := 7) (v := ?_) rfl (by kernel_rfl) (by kernel_rfl) (by kernel_rfl) (fun _ _ _ h => h) (Or.inl ⟨by rfl, ?_⟩) (by assumption) ?_
    rotate_left
    · (intro w hSw; (try dsimp only at hSw); go_simp; try with_reducible rfl)
    (try simp only [Act.put, List.getElem_toArray, List.getElem_cons_zero, List.getElem_cons_succ, List.setIfInBounds_toArray, List.set_cons_zero, List.set_cons_succ])
    refine wpAnyH_take (i := 8) (v := ?_) rfl (by kernel_rfl) (by kernel_rfl) (by kernel_rfl) (fun _ _ _ h => h) (Or.inl ⟨by rfl, ?_⟩) (by assumption) ?_
    rotate_left
    · (intro w hSw; (try dsimp only at hSw); go_simp; try with_reducible rfl)
    (try simp only [Act.put, List.getElem_toArray, List.getElem_cons_zero, List.getElem_cons_succ, List.setIfInBounds_toArray, List.set_cons_zero, List.set_cons_succ])
    refine wpAnyH_take (i := 9) (v := ?_) rfl (by kernel_rfl) (by kernel_rfl) (by kernel_rfl) (fun _ _ _ h => h) (Or.inl ⟨by rfl, ?_⟩) (by assumption) ?_
    rotate_left
    · (intro w hSw; (try dsimp only at hSw); go_simp; try with_reducible rfl)
    (try simp only [Act.put, List.getElem_toArray, List.getElem_cons_zero, List.getElem_cons_succ, List.setIfInBounds_toArray, List.set_cons_zero, List.set_cons_succ])
    refine wpAnyH_take (i := 10) (v := ?_) rfl (by kernel_rfl) (by kernel_rfl) (by kernel_rfl) (fun _ _ _ h => h) (Or.inl ⟨by rfl, ?_⟩) (by assumption) ?_
    rotate_left
    · (intro w hSw; (try dsimp only at hSw); go_simp; try with_reducible rfl)
    (try simp only [Act.put, List.getElem_toArray, List.getElem_cons_zero, List.getElem_cons_succ, List.setIfInBounds_toArray, List.set_cons_zero, List.set_cons_succ])
    refine wpAnyH_take (i := 11) (v := ?_) rfl (by kernel_rfl) (by kernel_rfl) (by kernel_rfl) (fun _ _ _ h => h) (Or.inl ⟨by rfl, ?_⟩) (by assumption) ?_
    rotate_left
    · (intro w hSw; (try dsimp only at hSw); go_simp; try with_reducible rfl)
    (try simp only [Act.put, List.getElem_toArray, List.getElem_cons_zero, List.getElem_cons_succ, List.setIfInBounds_toArray, List.set_cons_zero, List.set_cons_succ])
    refine wpAnyH_take (i := 12) (v := ?_) rfl (by kernel_rfl) (by kernel_rfl) (by kernel_rfl) (fun _ _ _ h => h) (Or.inl ⟨by rfl, ?_⟩) (by assumption) ?_
    rotate_left
    · (intro w hSw; (try dsimp only at hSw); go_simp; try with_reducible rfl)
    (try simp only [Act.put, List.getElem_toArray, List.getElem_cons_zero, List.getElem_cons_succ, List.setIfInBounds_toArray, List.set_cons_zero, List.set_cons_succ])
    refine wpAnyH_take (i := 13) (v := ?_) rfl (by kernel_rfl) (by kernel_rfl) (by kernel_rfl) (fun _ _ _ h => h) (Or.inl ⟨by rfl, ?_⟩) (by assumption) ?_
    rotate_left
    · (intro w hSw; (try dsimp only at hSw); go_simp; try with_reducible rfl)
    (try simp only [Act.put, List.getElem_toArray, List.getElem_cons_zero, List.getElem_cons_succ, List.setIfInBounds_toArray, List.set_cons_zero, List.set_cons_succ])
    refine wpAnyH_take (i := 14) (v := ?_) rfl (by kernel_rfl) (by kernel_rfl) (by kernel_rfl) (fun _ _ _ h => h) (Or.inl ⟨by rfl, ?_⟩) (by assumption) ?_
    rotate_left
    · (intro w hSw; (try dsimp only at hSw); go_simp; try with_reducible rfl)
    (try simp only [Act.put, List.getElem_toArray, List.getElem_cons_zero, List.getElem_cons_succ, List.setIfInBounds_toArray, List.set_cons_zero, List.set_cons_succ])
    refine wpAnyH_take (i := 15) (v := ?_) rfl (by kernel_rfl) (by kernel_rfl) (by kernel_rfl) (fun _ _ _ h => h) (Or.inl ⟨by rfl, ?_⟩) (by assumption) ?_
    rotate_left
    · (intro w hSw; (try dsimp only at hSw); go_simp; try with_reducible rfl)
    (try simp only [Act.put, List.getElem_toArray, List.getElem_cons_zero, List.getElem_cons_succ, List.setIfInBounds_toArray, List.set_cons_zero, List.set_cons_succ])
    refine wpAnyH_take (i := 16) (v := ?_) rfl (by kernel_rfl) (by kernel_rfl) (by kernel_rfl) (fun _ _ _ h => h) (Or.inl ⟨by rfl, ?_⟩) (by assumption) ?_
    rotate_left
    · (intro w hSw; (try dsimp only at hSw); go_simp; try with_reducible rfl)
    (try simp only [Act.put, List.getElem_toArray, List.getElem_cons_zero, List.getElem_cons_succ, List.setIfInBounds_toArray, List.set_cons_zero, List.set_cons_succ])
    refine wpAnyH_ready (rs := [17]) (by kernel_rfl) (by simp) ?_
    refine AllReadyH.cons rfl (fun K hK => ?_) AllReadyH.nil
    go_simp
    skip
    (try go_wp2_with fail)
    refine hK.out _ _ ?_ (fun hHeld => ?_)
    · (try dsimp only)
      exact ⟨fr_cell (Fr.alloc _ _) e0, fr_cell (Fr.alloc _ _) e1⟩
    clear hK K
    (try simp only [Act.put, List.getElem_toArray, List.getElem_cons_zero, List.getElem_cons_succ, List.setIfInBounds_toArray, List.set_cons_zero, List.set_cons_succ])
    refine wpAnyH_ready (rs := [18]) (by kernel_rfl) (by simp) ?_
    refine AllReadyH.cons rfl (fun K hK => ?_) AllReadyH.nil
    go_simp
    skip
    (try go_wp2_with fail)
    refine hK.out _ _ ?_ (fun hHeld => ?_)
    · (try dsimp only)
      exact ⟨fr_cell (Fr.alloc _ _) e0, fr_cell (Fr.alloc _ _) e1⟩
    clear hK K
    (try simp only [Act.put, List.getElem_toArray, List.getElem_cons_zero, List.getElem_cons_succ, List.setIfInBounds_toArray, List.set_cons_zero, List.set_cons_succ])
    refine wpAnyH_done (by kernel_rfl) ?_ _
    have C := hide (Quad.new F.out (.int .i64 op) (.bool n) (.string WB) (.string PB) 24)
    have F := hide (F.out.trans (Fr.alloc _ (.cells #[.int .i64 op, .bool n, .string WB, .string PB] 24)))
    clear e0 e1
    go_wp2_with fail
    refine (HTx.out _ (HLL.out _ F.out)).mono ?_
    rintro e w2 ⟨rfl, f2⟩
    have C := hide (C.out.fr f2)
    have F := hide (F.out.trans f2)
    clear f2
    obtain ⟨c0, c1, c2, c3, _, _⟩ := C.out
    go_wp2_with fail
    refine (HO.out _).mono ?_
    rintro e w3 ⟨rfl, f3⟩
    have C := hide (C.out.fr f3)
    have F := hide (F.out.trans f3)
    clear f3 c0 c1 c2 c3
    go_wp2_with fail
    refine (HR.out _).mono ?_
    rintro e w4 ⟨rfl, f4⟩
    have C := hide (C.out.fr f4)
    have F := hide (F.out.trans f4)
    clear f4
    go_wp2_with fail
    refine (HPb.out _).mono ?_
    rintro e w5 ⟨rfl, f5⟩
    have C := hide (C.out.fr f5)
    have F := hide (F.out.trans f5)
    clear f5
    have D := hide (Quad.new F.out (.int .i64 0) (.bool false) (.string ⟨#[]⟩) (.string ⟨#[]⟩) 28)
    have C := hide (C.out.fr (Fr.alloc _ (.cells #[.int .i64 0, .bool false, .string ⟨#[]⟩, .string ⟨#[]⟩] 28)))
    have F := hide (F.out.trans (Fr.alloc _ (.cells #[.int .i64 0, .bool false, .string ⟨#[]⟩, .string ⟨#[]⟩] 28)))
    go_wp2_with fail
    obtain ⟨W3, hW3⟩ : ∃ W3, W3 = w5.alloc (Obj.cells #[.int .i64 0, .bool false, .string ⟨#[]⟩, .string ⟨#[]⟩] 28) := ⟨_, rfl⟩
    rw [← hW3] at C D F ⊢
    clear hW3
    have b0 := fun p : FrBox W3 => (C.out.fr p.fr).1
    have b1 := fun p : FrBox W3 => (C.out.fr p.fr).2.1
    have b2 := fun p : FrBox W3 => (C.out.fr p.fr).2.2.1
    have b3 := fun p : FrBox W3 => (C.out.fr p.fr).2.2.2.1
    have d0 := fun p : FrBox W3 => (D.out.fr p.fr).1
    have d1 := fun p : FrBox W3 => (D.out.fr p.fr).2.1
    have d2 := fun p : FrBox W3 => (D.out.fr p.fr).2.2.1
    have d3 := fun p : FrBox W3 => (D.out.fr p.fr).2.2.2.1
    have k1 := hide (fun p : FrBox W3 => Calls.fr_of (HO.out p.now))
    have nb := FrBox.some W3
    refine wp_region_fr (by kernel_rfl) (by kernel_rfl) ?_
    repeat (quiet_step (first | with_reducible exact k1.out _))
    refine wpQuiet_nil ?_
    intro wq hq
    obtain ⟨p, hp⟩ := hq
    have fq := p.fr
    rw [← hp] at fq
    clear hp b0 b1 b2 b3 d0 d1 d2 d3 k1 nb p
    have C := hide (C.out.fr fq)
    have F := hide (F.out.trans fq)
    clear fq
    go_wp2_with fail
    have b0 := fun p : FrBox wq => (C.out.fr p.fr).1
    have b1 := fun p : FrBox wq => (C.out.fr p.fr).2.1
    have b2 := fun p : FrBox wq => (C.out.fr p.fr).2.2.1
    have b3 := fun p : FrBox wq => (C.out.fr p.fr).2.2.2.1
    have k1 := hide (fun p : FrBox wq => Calls.fr_of (HWk.out p.now (HLL.out _ (F.out.trans p.fr))))
    have k2 := hide (fun p : FrBox wq => Calls.fr_of (BO.out p.now))
    have k3 := hide (fun p : FrBox wq => Calls.fr_of (HX.out p.now (HLL.out _ (F.out.trans p.fr))))
    have nb := FrBox.some wq
    refine wp_region_fr (by kernel_rfl) (by kernel_rfl) ?_
    repeat (quiet_step (first | with_reducible exact k1.out _ | with_reducible exact k2.out _ | with_reducible exact k3.out _))
    refine wpQuiet_nil ?_
    intro wt ht
    obtain ⟨p, hp⟩ := ht
    have ft := p.fr
    rw [← hp] at ft
    clear hp b0 b1 b2 b3 k1 nb p
    go_wp2_with fail
    go_ret
    exact ⟨rfl, F.out.trans ft⟩
end Go.Proofs.YtmaapdmbkhoigaaDoor
