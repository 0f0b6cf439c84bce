/- Layer 13: order. -/
import Derived.Test.YtmaapdmbkhoigaaDoorCondF
import Derived.Test.YtmaapdmbkhoigaaDoorPackC
import Derived.Test.YtmaapdmbkhoigaaDoorValOk
namespace Go.Proofs.YtmaapdmbkhoigaaDoor
set_option linter.unusedVariables false
set_option linter.unusedSimpArgs false
open Go.RowKit

attribute [local go_sem] World.cell?_alloc_some
/-- How two numbers stand to one another, whose sizes stand so (Z): g and n, is the one, and the other, below 0? -/
def ordZ (g n : Bool) (Z : Int) : Int := if g = true then (if n = true then -Z else -1) else (if n = true then 1 else Z)
theorem cmpZ_swap (a b : Nat) : cmpZ a b = -cmpZ b a := by
  unfold cmpZ
  rcases Nat.lt_trichotomy a b with h | h | h
  · rw [if_pos h, if_neg (by omega), if_neg (by omega)]
  · rw [if_neg (by omega), if_pos h, if_neg (by omega), if_pos h.symm]; rfl
  · rw [if_neg (by omega), if_neg (by omega), if_pos h]; rfl
/-- Is the number of these bits below 0? -/
def bG (b : Nat) : Bool := bN b && decide (bC b ≠ 0)
/-- How the size of these bits stands to x divided by ten to l. -/
def magZ (b x l : Nat) : Int := cmpZ (bM b * 2 ^ (bX b).toNat * 10 ^ l) (x * 2 ^ (-(bX b)).toNat)

theorem nl_two {k : Nat} : nlen 4294967296 (2 ^ k) ≤ k + 1 := by
  have := nlen_pow (x := 2) (n := 1) (nlen_le b32 (k := 1) (by decide)) k
  omega

set_option maxHeartbeats 4000000 in
set_option maxRecDepth 4000 in
theorem order_out13 (b : Nat) (op : Int) (n : Bool) (W P : ByteArray) (w : World) (hb : b < 18446744073709551616) (hc : 1 < bC b) :
    Calls Tryd.prog 22 #[.agg #[.int .i64 op, .bool n, .string W, .string P], bval b] w fun e w' => e = .returned (.tuple #[.int .i64 0, .bool false]) ∧ Fr w w' := by
  have hx := bX_low b
  have hm := bM_lt b
  have VR := hide (fun w => valueR_other (bC b) (bN b) (bM b) (bX b) w (by omega) (by omega) (by omega) (by omega) (by omega))
  unfold bval
  generalize bN b = g at *
  generalize bM b = m at *
  generalize bX b = x at *
  generalize bC b = c at *
  go_enter Tryd.func22, Tryd.ntmps22
  go_wp2_with fail
  refine (VR.out _).mono ?_
  rintro e w1 ⟨rfl, f1⟩
  have F := hide ((((Fr.alloc w (.cells #[.int .i64 op, .bool n, .string W, .string P] 24)).trans (Fr.alloc _ (.cells #[.int .i64 (c : Int), .bool g, .int .u64 (m : Int), .int .i64 x] 42))).trans f1).trans (Fr.alloc _ (.cells #[.slice none 0 0, .slice none 0 0] 80)))
  clear f1
  go_wp2_with fail
  go_ret2
  exact ⟨rfl, F.out⟩

set_option maxHeartbeats 4000000 in
set_option maxRecDepth 4000 in
theorem order_any13 (b : Nat) (op : Int) (n : Bool) (W P : List UInt8) (w : World) (hb : b < 18446744073709551616) (hc : bC b ≤ 1) (hT : Tab w) (wA : AllD W) (pA : AllD P) (lW : W.length ≤ 30) (lP : P.length ≤ 30) (O : Int) (hO : ordZ (bG b) n (magZ b (valD (W ++ P)) P.length) = O) :
    Calls Tryd.prog 22 #[.agg #[.int .i64 op, .bool n, .string (bs W), .string (bs P)], bval b] w fun e w' => e = .returned (.tuple #[.int .i64 O, .bool true]) ∧ Fr w w' := by
  have HT := hide hT
  have hx := bX_low b
  have hm := bM_lt b
  have OK := ok_of hb (by omega)
  obtain ⟨X, hX⟩ : ∃ X, valD (W ++ P) = X := ⟨_, rfl⟩
  obtain ⟨D, hD⟩ : ∃ D, 10 ^ P.length = D := ⟨_, rfl⟩
  have VR := hide (fun w hT => valueR_yes (bC b) (bN b) (bM b) (bX b) w (by omega) (by omega) (by omega) hT (by omega) OK)
  have HSz := hide (fun w hT => size_any13 op n W P w hT wA pA lW lP X D hX hD)
  have nX : nlen 4294967296 X ≤ 7 := by rw [← hX]; exact nl_digits (allD_append.2 ⟨wA, pA⟩) (by rw [List.length_append]; omega)
  have nD' : nlen 4294967296 D ≤ 4 := by rw [← hD]; exact nl_tens lP
  unfold magZ bG at hO
  rw [hX, hD] at hO
  unfold bval
  have nA : nlen 4294967296 (bM b * 2 ^ (bX b).toNat) ≤ 1000 := by
    have h1 := nl_two (k := (bX b).toNat)
    have h2 := nlen_mul (B := 4294967296) b32 (wsm (x := bM b) (by omega)) h1
    omega
  have nB : nlen 4294967296 (2 ^ (-(bX b)).toNat) ≤ 1100 := by
    have h1 := nl_two (k := (-(bX b)).toNat)
    omega
  generalize bM b * 2 ^ (bX b).toNat = A at *
  generalize 2 ^ (-(bX b)).toNat = B at *
  obtain ⟨Z, hZ⟩ : ∃ Z, cmpZ (A * D) (X * B) = Z := ⟨_, rfl⟩
  have hZ' : cmpZ (X * B) (A * D) = -Z := by rw [cmpZ_swap, hZ]
  rw [hZ] at hO
  have ZB : -1 ≤ Z ∧ Z ≤ 1 := by
    rw [← hZ]; unfold cmpZ; split
    · omega
    · split <;> omega
  have HZ := hide hZ
  have HZ' := hide hZ'
  clear OK hX hD hT wA pA lW lP hZ hZ'
  generalize bN b = g at *
  generalize bM b = m at *
  generalize bX b = x at *
  generalize hcc : bC b = c at *
  generalize bs W = WB at *
  generalize bs P = PB at *
  have hc2 : c = 0 ∨ c = 1 := by omega
  clear hcc hc
  unfold ordZ at hO
  have HO := hide hO
  clear hO
  rcases hc2 with rfl | rfl
  · cases n
    · cases g
      · skip
        go_enter Tryd.func22, Tryd.ntmps22
        go_wp2_with fail
        obtain ⟨W0, hW0⟩ : ∃ V, V = (w.alloc (Obj.cells #[.int .i64 op, .bool false, .string WB, .string PB] 24)).alloc (Obj.cells #[.int .i64 0, .bool false, .int .u64 (m : Int), .int .i64 x] 42) := ⟨_, rfl⟩
        have Q := (Quad.new (Fr.refl w) (.int .i64 op) (.bool false) (.string WB) (.string PB) 24).fr (Fr.alloc _ (.cells #[.int .i64 0, .bool false, .int .u64 (m : Int), .int .i64 x] 42))
        have R : Quad w ((w.alloc (Obj.cells #[.int .i64 op, .bool false, .string WB, .string PB] 24)).alloc (Obj.cells #[.int .i64 0, .bool false, .int .u64 (m : Int), .int .i64 x] 42)) (w.heap.size + 1) (.int .i64 0) (.bool false) (.int .u64 (m : Int)) (.int .i64 x) := by
          simpa using Quad.new (Fr.alloc w (.cells #[.int .i64 op, .bool false, .string WB, .string PB] 24)) (.int .i64 0) (.bool false) (.int .u64 (m : Int)) (.int .i64 x) 42
        have F := (Fr.alloc w (.cells #[.int .i64 op, .bool false, .string WB, .string PB] 24)).trans (Fr.alloc _ (.cells #[.int .i64 0, .bool false, .int .u64 (m : Int), .int .i64 x] 42))
        rw [← hW0] at Q R F ⊢
        clear hW0
        refine (VR.out _ (Tab.fr HT.out F)).mono ?_
        rintro e w1 ⟨v1, rfl, i1, f1⟩
        obtain ⟨x1, x2, x3, x4, x5, x6, rfl⟩ := i1.form
        have I1 := hide i1
        have Q := hide (Q.fr f1)
        have R := hide (R.fr f1)
        have F := hide (F.trans f1)
        clear f1 i1 VR
        have r0 := fun o => (R.out.fr (Fr.alloc w1 o)).1
        have r1 := fun o => (R.out.fr (Fr.alloc w1 o)).2.1
        have q1 := fun o => (Q.out.fr (Fr.alloc w1 o)).2.1
        go_wp2_with fail
        obtain ⟨W2, hW2⟩ : ∃ W, W = (w1.alloc (Obj.cells #[Value.slice x1 x2 x3, Value.slice x4 x5 x6] 80)) := ⟨_, rfl⟩
        have f2 : Fr w1 W2 := by rw [hW2]; exact (Fr.alloc w1 (Obj.cells #[Value.slice x1 x2 x3, Value.slice x4 x5 x6] 80))
        have s6 : Slot2 w1 W2 (w1.heap.size) (.slice x1 x2 x3) (.slice x4 x5 x6) := by
          rw [hW2]; simpa using Slot2.new (Fr.refl w1) x1 x2 x3 x4 x5 x6 80
        rw [← hW2]
        clear hW2
        have I1 := hide (I1.out.fr f2)
        have Q := hide (Q.out.fr f2)
        have R := hide (R.out.fr f2)
        have F := hide (F.out.trans f2)
        have S6 := hide s6
        have HT := hide (Tab.fr HT.out F.out)
        clear f2 s6 r0 r1 q1
        have Q := hide (Q.out.fr (Fr.drew W2))
        have S6 := hide (S6.out.fr (Fr.drew W2))
        have I1 := hide (I1.out.fr (Fr.drew W2))
        have HT := hide (Tab.fr HT.out (Fr.drew W2))
        have F := hide (F.out.trans (Fr.drew W2))
        refine wp_region_held_drew (S := (fun w' => w'.cell? ⟨w.heap.size, 0, none⟩ = some (.int .i64 op) ∧ w'.cell? ⟨w.heap.size, 1, none⟩ = some (.bool false) ∧ w'.cell? ⟨w.heap.size, 2, none⟩ = some (.string WB) ∧ w'.cell? ⟨w.heap.size, 3, none⟩ = some (.string PB) ∧ w'.cell? ⟨w1.heap.size, 0, none⟩ = some (.slice x1 x2 x3) ∧ w'.cell? ⟨w1.heap.size, 1, none⟩ = some (.slice x4 x5 x6))) (by kernel_rfl) ?_ (fun hHeld => ?_)
        · exact ⟨Q.out.1, Q.out.2.1, Q.out.2.2.1, Q.out.2.2.2.1, S6.out.1, S6.out.2.1⟩
        obtain ⟨wd, hwd⟩ : ∃ wd, wd = W2.drew := ⟨_, rfl⟩
        rw [← hwd] at hHeld Q S6 I1 HT F ⊢
        clear hwd
        refine wpAnyH_take (i := 0) (v := ?_) rfl (by kernel_rfl) (by kernel_rfl) (by kernel_rfl) (fun _ _ _ h => h) (Or.inl ⟨by rfl, ?_⟩) (by assumption) ?_
        rotate_left
        · (intro w hSw; (try dsimp only at hSw); go_simp; try with_reducible rfl)
        (try simp only [Act.put, List.getElem_toArray, List.getElem_cons_zero, List.getElem_cons_succ, List.setIfInBounds_toArray, List.set_cons_zero, List.set_cons_succ])
        refine wpAnyH_take (i := 1) (v := ?_) rfl (by kernel_rfl) (by kernel_rfl) (by kernel_rfl) (fun _ _ _ h => h) (Or.inl ⟨by rfl, ?_⟩) (by assumption) ?_
        rotate_left
        · (intro w hSw; (try dsimp only at hSw); go_simp; try with_reducible rfl)
        (try simp only [Act.put, List.getElem_toArray, List.getElem_cons_zero, List.getElem_cons_succ, List.setIfInBounds_toArray, List.set_cons_zero, List.set_cons_succ])
        refine wpAnyH_ready (rs := [2]) (by kernel_rfl) (by simp) ?_
        refine AllReadyH.cons rfl (fun K hK => ?_) AllReadyH.nil
        go_simp
        refine (HSz.out _ HT.out).mono ?_
        rintro e wa ⟨v4, rfl, i4, fy⟩
        have I4 := hide i4
        have Q := hide (Q.out.fr fy)
        have S6 := hide (S6.out.fr fy)
        have I1 := hide (I1.out.fr fy)
        have HT := hide (HT.out.fr fy)
        have F := hide (F.out.trans fy)
        clear i4 fy
        (try go_wp2_with fail)
        refine hK.out _ _ ?_ (fun hHeld => ?_)
        · (try dsimp only)
          exact ⟨Q.out.1, Q.out.2.1, Q.out.2.2.1, Q.out.2.2.2.1, S6.out.1, S6.out.2.1⟩
        clear hK K
        (try simp only [Act.put, List.getElem_toArray, List.getElem_cons_zero, List.getElem_cons_succ, List.setIfInBounds_toArray, List.set_cons_zero, List.set_cons_succ])
        refine wpAnyH_ready (rs := [3]) (by kernel_rfl) (by simp) ?_
        refine AllReadyH.cons rfl (fun K hK => ?_) AllReadyH.nil
        go_simp
        refine (cmpR_any _ _ A B X D _ HT.out I1.out I4.out (by omega) (by omega) (by omega) (by omega) Z HZ.out).mono ?_
        rintro e wb ⟨rfl, fy⟩
        have Q := hide (Q.out.fr fy)
        have S6 := hide (S6.out.fr fy)
        have I1 := hide (I1.out.fr fy)
        have HT := hide (HT.out.fr fy)
        have F := hide (F.out.trans fy)
        clear fy
        (try go_wp2_with fail)
        refine hK.out _ _ ?_ (fun hHeld => ?_)
        · (try dsimp only)
          exact ⟨Q.out.1, Q.out.2.1, Q.out.2.2.1, Q.out.2.2.2.1, S6.out.1, S6.out.2.1⟩
        clear hK K
        (try simp only [Act.put, List.getElem_toArray, List.getElem_cons_zero, List.getElem_cons_succ, List.setIfInBounds_toArray, List.set_cons_zero, List.set_cons_succ])
        refine wpAnyH_take (i := 4) (v := ?_) rfl (by kernel_rfl) (by kernel_rfl) (by kernel_rfl) (fun _ _ _ h => h) (Or.inl ⟨by rfl, ?_⟩) (by assumption) ?_
        rotate_left
        · (intro w hSw; (try dsimp only at hSw); go_simp; try with_reducible rfl)
        (try simp only [Act.put, List.getElem_toArray, List.getElem_cons_zero, List.getElem_cons_succ, List.setIfInBounds_toArray, List.set_cons_zero, List.set_cons_succ])
        refine wpAnyH_take (i := 5) (v := ?_) rfl (by kernel_rfl) (by kernel_rfl) (by kernel_rfl) (fun _ _ _ h => h) (Or.inl ⟨by rfl, ?_⟩) (by assumption) ?_
        rotate_left
        · (intro w hSw; (try dsimp only at hSw); go_simp; try with_reducible rfl)
        (try simp only [Act.put, List.getElem_toArray, List.getElem_cons_zero, List.getElem_cons_succ, List.setIfInBounds_toArray, List.set_cons_zero, List.set_cons_succ])
        refine wpAnyH_done (by kernel_rfl) ?_ _
        go_wp2_with fail
        go_ret2
        exact ⟨by rw [← HO.out]; rfl, F.out⟩
      · skip
        go_enter Tryd.func22, Tryd.ntmps22
        go_wp2_with fail
        obtain ⟨W0, hW0⟩ : ∃ V, V = (w.alloc (Obj.cells #[.int .i64 op, .bool false, .string WB, .string PB] 24)).alloc (Obj.cells #[.int .i64 0, .bool true, .int .u64 (m : Int), .int .i64 x] 42) := ⟨_, rfl⟩
        have Q := (Quad.new (Fr.refl w) (.int .i64 op) (.bool false) (.string WB) (.string PB) 24).fr (Fr.alloc _ (.cells #[.int .i64 0, .bool true, .int .u64 (m : Int), .int .i64 x] 42))
        have R : Quad w ((w.alloc (Obj.cells #[.int .i64 op, .bool false, .string WB, .string PB] 24)).alloc (Obj.cells #[.int .i64 0, .bool true, .int .u64 (m : Int), .int .i64 x] 42)) (w.heap.size + 1) (.int .i64 0) (.bool true) (.int .u64 (m : Int)) (.int .i64 x) := by
          simpa using Quad.new (Fr.alloc w (.cells #[.int .i64 op, .bool false, .string WB, .string PB] 24)) (.int .i64 0) (.bool true) (.int .u64 (m : Int)) (.int .i64 x) 42
        have F := (Fr.alloc w (.cells #[.int .i64 op, .bool false, .string WB, .string PB] 24)).trans (Fr.alloc _ (.cells #[.int .i64 0, .bool true, .int .u64 (m : Int), .int .i64 x] 42))
        rw [← hW0] at Q R F ⊢
        clear hW0
        refine (VR.out _ (Tab.fr HT.out F)).mono ?_
        rintro e w1 ⟨v1, rfl, i1, f1⟩
        obtain ⟨x1, x2, x3, x4, x5, x6, rfl⟩ := i1.form
        have I1 := hide i1
        have Q := hide (Q.fr f1)
        have R := hide (R.fr f1)
        have F := hide (F.trans f1)
        clear f1 i1 VR
        have r0 := fun o => (R.out.fr (Fr.alloc w1 o)).1
        have r1 := fun o => (R.out.fr (Fr.alloc w1 o)).2.1
        have q1 := fun o => (Q.out.fr (Fr.alloc w1 o)).2.1
        go_wp2_with fail
        obtain ⟨W2, hW2⟩ : ∃ W, W = (w1.alloc (Obj.cells #[Value.slice x1 x2 x3, Value.slice x4 x5 x6] 80)) := ⟨_, rfl⟩
        have f2 : Fr w1 W2 := by rw [hW2]; exact (Fr.alloc w1 (Obj.cells #[Value.slice x1 x2 x3, Value.slice x4 x5 x6] 80))
        have s6 : Slot2 w1 W2 (w1.heap.size) (.slice x1 x2 x3) (.slice x4 x5 x6) := by
          rw [hW2]; simpa using Slot2.new (Fr.refl w1) x1 x2 x3 x4 x5 x6 80
        rw [← hW2]
        clear hW2
        have I1 := hide (I1.out.fr f2)
        have Q := hide (Q.out.fr f2)
        have R := hide (R.out.fr f2)
        have F := hide (F.out.trans f2)
        have S6 := hide s6
        have HT := hide (Tab.fr HT.out F.out)
        clear f2 s6 r0 r1 q1
        have Q := hide (Q.out.fr (Fr.drew W2))
        have S6 := hide (S6.out.fr (Fr.drew W2))
        have I1 := hide (I1.out.fr (Fr.drew W2))
        have HT := hide (Tab.fr HT.out (Fr.drew W2))
        have F := hide (F.out.trans (Fr.drew W2))
        refine wp_region_held_drew (S := (fun w' => w'.cell? ⟨w.heap.size, 0, none⟩ = some (.int .i64 op) ∧ w'.cell? ⟨w.heap.size, 1, none⟩ = some (.bool false) ∧ w'.cell? ⟨w.heap.size, 2, none⟩ = some (.string WB) ∧ w'.cell? ⟨w.heap.size, 3, none⟩ = some (.string PB) ∧ w'.cell? ⟨w1.heap.size, 0, none⟩ = some (.slice x1 x2 x3) ∧ w'.cell? ⟨w1.heap.size, 1, none⟩ = some (.slice x4 x5 x6))) (by kernel_rfl) ?_ (fun hHeld => ?_)
        · exact ⟨Q.out.1, Q.out.2.1, Q.out.2.2.1, Q.out.2.2.2.1, S6.out.1, S6.out.2.1⟩
        obtain ⟨wd, hwd⟩ : ∃ wd, wd = W2.drew := ⟨_, rfl⟩
        rw [← hwd] at hHeld Q S6 I1 HT F ⊢
        clear hwd
        refine wpAnyH_take (i := 0) (v := ?_) rfl (by kernel_rfl) (by kernel_rfl) (by kernel_rfl) (fun _ _ _ h => h) (Or.inl ⟨by rfl, ?_⟩) (by assumption) ?_
        rotate_left
        · (intro w hSw; (try dsimp only at hSw); go_simp; try with_reducible rfl)
        (try simp only [Act.put, List.getElem_toArray, List.getElem_cons_zero, List.getElem_cons_succ, List.setIfInBounds_toArray, List.set_cons_zero, List.set_cons_succ])
        refine wpAnyH_take (i := 1) (v := ?_) rfl (by kernel_rfl) (by kernel_rfl) (by kernel_rfl) (fun _ _ _ h => h) (Or.inl ⟨by rfl, ?_⟩) (by assumption) ?_
        rotate_left
        · (intro w hSw; (try dsimp only at hSw); go_simp; try with_reducible rfl)
        (try simp only [Act.put, List.getElem_toArray, List.getElem_cons_zero, List.getElem_cons_succ, List.setIfInBounds_toArray, List.set_cons_zero, List.set_cons_succ])
        refine wpAnyH_ready (rs := [2]) (by kernel_rfl) (by simp) ?_
        refine AllReadyH.cons rfl (fun K hK => ?_) AllReadyH.nil
        go_simp
        refine (HSz.out _ HT.out).mono ?_
        rintro e wa ⟨v4, rfl, i4, fy⟩
        have I4 := hide i4
        have Q := hide (Q.out.fr fy)
        have S6 := hide (S6.out.fr fy)
        have I1 := hide (I1.out.fr fy)
        have HT := hide (HT.out.fr fy)
        have F := hide (F.out.trans fy)
        clear i4 fy
        (try go_wp2_with fail)
        refine hK.out _ _ ?_ (fun hHeld => ?_)
        · (try dsimp only)
          exact ⟨Q.out.1, Q.out.2.1, Q.out.2.2.1, Q.out.2.2.2.1, S6.out.1, S6.out.2.1⟩
        clear hK K
        (try simp only [Act.put, List.getElem_toArray, List.getElem_cons_zero, List.getElem_cons_succ, List.setIfInBounds_toArray, List.set_cons_zero, List.set_cons_succ])
        refine wpAnyH_ready (rs := [3]) (by kernel_rfl) (by simp) ?_
        refine AllReadyH.cons rfl (fun K hK => ?_) AllReadyH.nil
        go_simp
        refine (cmpR_any _ _ A B X D _ HT.out I1.out I4.out (by omega) (by omega) (by omega) (by omega) Z HZ.out).mono ?_
        rintro e wb ⟨rfl, fy⟩
        have Q := hide (Q.out.fr fy)
        have S6 := hide (S6.out.fr fy)
        have I1 := hide (I1.out.fr fy)
        have HT := hide (HT.out.fr fy)
        have F := hide (F.out.trans fy)
        clear fy
        (try go_wp2_with fail)
        refine hK.out _ _ ?_ (fun hHeld => ?_)
        · (try dsimp only)
          exact ⟨Q.out.1, Q.out.2.1, Q.out.2.2.1, Q.out.2.2.2.1, S6.out.1, S6.out.2.1⟩
        clear hK K
        (try simp only [Act.put, List.getElem_toArray, List.getElem_cons_zero, List.getElem_cons_succ, List.setIfInBounds_toArray, List.set_cons_zero, List.set_cons_succ])
        refine wpAnyH_take (i := 4) (v := ?_) rfl (by kernel_rfl) (by kernel_rfl) (by kernel_rfl) (fun _ _ _ h => h) (Or.inl ⟨by rfl, ?_⟩) (by assumption) ?_
        rotate_left
        · (intro w hSw; (try dsimp only at hSw); go_simp; try with_reducible rfl)
        (try simp only [Act.put, List.getElem_toArray, List.getElem_cons_zero, List.getElem_cons_succ, List.setIfInBounds_toArray, List.set_cons_zero, List.set_cons_succ])
        refine wpAnyH_take (i := 5) (v := ?_) rfl (by kernel_rfl) (by kernel_rfl) (by kernel_rfl) (fun _ _ _ h => h) (Or.inl ⟨by rfl, ?_⟩) (by assumption) ?_
        rotate_left
        · (intro w hSw; (try dsimp only at hSw); go_simp; try with_reducible rfl)
        (try simp only [Act.put, List.getElem_toArray, List.getElem_cons_zero, List.getElem_cons_succ, List.setIfInBounds_toArray, List.set_cons_zero, List.set_cons_succ])
        refine wpAnyH_done (by kernel_rfl) ?_ _
        go_wp2_with fail
        go_ret2
        exact ⟨by rw [← HO.out]; rfl, F.out⟩
    · cases g
      · skip
        go_enter Tryd.func22, Tryd.ntmps22
        go_wp2_with fail
        obtain ⟨W0, hW0⟩ : ∃ V, V = (w.alloc (Obj.cells #[.int .i64 op, .bool true, .string WB, .string PB] 24)).alloc (Obj.cells #[.int .i64 0, .bool false, .int .u64 (m : Int), .int .i64 x] 42) := ⟨_, rfl⟩
        have Q := (Quad.new (Fr.refl w) (.int .i64 op) (.bool true) (.string WB) (.string PB) 24).fr (Fr.alloc _ (.cells #[.int .i64 0, .bool false, .int .u64 (m : Int), .int .i64 x] 42))
        have R : Quad w ((w.alloc (Obj.cells #[.int .i64 op, .bool true, .string WB, .string PB] 24)).alloc (Obj.cells #[.int .i64 0, .bool false, .int .u64 (m : Int), .int .i64 x] 42)) (w.heap.size + 1) (.int .i64 0) (.bool false) (.int .u64 (m : Int)) (.int .i64 x) := by
          simpa using Quad.new (Fr.alloc w (.cells #[.int .i64 op, .bool true, .string WB, .string PB] 24)) (.int .i64 0) (.bool false) (.int .u64 (m : Int)) (.int .i64 x) 42
        have F := (Fr.alloc w (.cells #[.int .i64 op, .bool true, .string WB, .string PB] 24)).trans (Fr.alloc _ (.cells #[.int .i64 0, .bool false, .int .u64 (m : Int), .int .i64 x] 42))
        rw [← hW0] at Q R F ⊢
        clear hW0
        refine (VR.out _ (Tab.fr HT.out F)).mono ?_
        rintro e w1 ⟨v1, rfl, i1, f1⟩
        obtain ⟨x1, x2, x3, x4, x5, x6, rfl⟩ := i1.form
        have I1 := hide i1
        have Q := hide (Q.fr f1)
        have R := hide (R.fr f1)
        have F := hide (F.trans f1)
        clear f1 i1 VR
        have r0 := fun o => (R.out.fr (Fr.alloc w1 o)).1
        have r1 := fun o => (R.out.fr (Fr.alloc w1 o)).2.1
        have q1 := fun o => (Q.out.fr (Fr.alloc w1 o)).2.1
        go_wp2_with fail
        obtain ⟨W2, hW2⟩ : ∃ W, W = (w1.alloc (Obj.cells #[Value.slice x1 x2 x3, Value.slice x4 x5 x6] 80)) := ⟨_, rfl⟩
        have f2 : Fr w1 W2 := by rw [hW2]; exact (Fr.alloc w1 (Obj.cells #[Value.slice x1 x2 x3, Value.slice x4 x5 x6] 80))
        have s6 : Slot2 w1 W2 (w1.heap.size) (.slice x1 x2 x3) (.slice x4 x5 x6) := by
          rw [hW2]; simpa using Slot2.new (Fr.refl w1) x1 x2 x3 x4 x5 x6 80
        rw [← hW2]
        clear hW2
        have I1 := hide (I1.out.fr f2)
        have Q := hide (Q.out.fr f2)
        have R := hide (R.out.fr f2)
        have F := hide (F.out.trans f2)
        have S6 := hide s6
        have HT := hide (Tab.fr HT.out F.out)
        clear f2 s6 r0 r1 q1
        go_ret2
        exact ⟨by rw [← HO.out]; rfl, F.out⟩
      · skip
        go_enter Tryd.func22, Tryd.ntmps22
        go_wp2_with fail
        obtain ⟨W0, hW0⟩ : ∃ V, V = (w.alloc (Obj.cells #[.int .i64 op, .bool true, .string WB, .string PB] 24)).alloc (Obj.cells #[.int .i64 0, .bool true, .int .u64 (m : Int), .int .i64 x] 42) := ⟨_, rfl⟩
        have Q := (Quad.new (Fr.refl w) (.int .i64 op) (.bool true) (.string WB) (.string PB) 24).fr (Fr.alloc _ (.cells #[.int .i64 0, .bool true, .int .u64 (m : Int), .int .i64 x] 42))
        have R : Quad w ((w.alloc (Obj.cells #[.int .i64 op, .bool true, .string WB, .string PB] 24)).alloc (Obj.cells #[.int .i64 0, .bool true, .int .u64 (m : Int), .int .i64 x] 42)) (w.heap.size + 1) (.int .i64 0) (.bool true) (.int .u64 (m : Int)) (.int .i64 x) := by
          simpa using Quad.new (Fr.alloc w (.cells #[.int .i64 op, .bool true, .string WB, .string PB] 24)) (.int .i64 0) (.bool true) (.int .u64 (m : Int)) (.int .i64 x) 42
        have F := (Fr.alloc w (.cells #[.int .i64 op, .bool true, .string WB, .string PB] 24)).trans (Fr.alloc _ (.cells #[.int .i64 0, .bool true, .int .u64 (m : Int), .int .i64 x] 42))
        rw [← hW0] at Q R F ⊢
        clear hW0
        refine (VR.out _ (Tab.fr HT.out F)).mono ?_
        rintro e w1 ⟨v1, rfl, i1, f1⟩
        obtain ⟨x1, x2, x3, x4, x5, x6, rfl⟩ := i1.form
        have I1 := hide i1
        have Q := hide (Q.fr f1)
        have R := hide (R.fr f1)
        have F := hide (F.trans f1)
        clear f1 i1 VR
        have r0 := fun o => (R.out.fr (Fr.alloc w1 o)).1
        have r1 := fun o => (R.out.fr (Fr.alloc w1 o)).2.1
        have q1 := fun o => (Q.out.fr (Fr.alloc w1 o)).2.1
        go_wp2_with fail
        obtain ⟨W2, hW2⟩ : ∃ W, W = (w1.alloc (Obj.cells #[Value.slice x1 x2 x3, Value.slice x4 x5 x6] 80)) := ⟨_, rfl⟩
        have f2 : Fr w1 W2 := by rw [hW2]; exact (Fr.alloc w1 (Obj.cells #[Value.slice x1 x2 x3, Value.slice x4 x5 x6] 80))
        have s6 : Slot2 w1 W2 (w1.heap.size) (.slice x1 x2 x3) (.slice x4 x5 x6) := by
          rw [hW2]; simpa using Slot2.new (Fr.refl w1) x1 x2 x3 x4 x5 x6 80
        rw [← hW2]
        clear hW2
        have I1 := hide (I1.out.fr f2)
        have Q := hide (Q.out.fr f2)
        have R := hide (R.out.fr f2)
        have F := hide (F.out.trans f2)
        have S6 := hide s6
        have HT := hide (Tab.fr HT.out F.out)
        clear f2 s6 r0 r1 q1
        go_ret2
        exact ⟨by rw [← HO.out]; rfl, F.out⟩
  · cases n
    · cases g
      · skip
        go_enter Tryd.func22, Tryd.ntmps22
        go_wp2_with fail
        obtain ⟨W0, hW0⟩ : ∃ V, V = (w.alloc (Obj.cells #[.int .i64 op, .bool false, .string WB, .string PB] 24)).alloc (Obj.cells #[.int .i64 1, .bool false, .int .u64 (m : Int), .int .i64 x] 42) := ⟨_, rfl⟩
        have Q := (Quad.new (Fr.refl w) (.int .i64 op) (.bool false) (.string WB) (.string PB) 24).fr (Fr.alloc _ (.cells #[.int .i64 1, .bool false, .int .u64 (m : Int), .int .i64 x] 42))
        have R : Quad w ((w.alloc (Obj.cells #[.int .i64 op, .bool false, .string WB, .string PB] 24)).alloc (Obj.cells #[.int .i64 1, .bool false, .int .u64 (m : Int), .int .i64 x] 42)) (w.heap.size + 1) (.int .i64 1) (.bool false) (.int .u64 (m : Int)) (.int .i64 x) := by
          simpa using Quad.new (Fr.alloc w (.cells #[.int .i64 op, .bool false, .string WB, .string PB] 24)) (.int .i64 1) (.bool false) (.int .u64 (m : Int)) (.int .i64 x) 42
        have F := (Fr.alloc w (.cells #[.int .i64 op, .bool false, .string WB, .string PB] 24)).trans (Fr.alloc _ (.cells #[.int .i64 1, .bool false, .int .u64 (m : Int), .int .i64 x] 42))
        rw [← hW0] at Q R F ⊢
        clear hW0
        refine (VR.out _ (Tab.fr HT.out F)).mono ?_
        rintro e w1 ⟨v1, rfl, i1, f1⟩
        obtain ⟨x1, x2, x3, x4, x5, x6, rfl⟩ := i1.form
        have I1 := hide i1
        have Q := hide (Q.fr f1)
        have R := hide (R.fr f1)
        have F := hide (F.trans f1)
        clear f1 i1 VR
        have r0 := fun o => (R.out.fr (Fr.alloc w1 o)).1
        have r1 := fun o => (R.out.fr (Fr.alloc w1 o)).2.1
        have q1 := fun o => (Q.out.fr (Fr.alloc w1 o)).2.1
        go_wp2_with fail
        obtain ⟨W2, hW2⟩ : ∃ W, W = (w1.alloc (Obj.cells #[Value.slice x1 x2 x3, Value.slice x4 x5 x6] 80)) := ⟨_, rfl⟩
        have f2 : Fr w1 W2 := by rw [hW2]; exact (Fr.alloc w1 (Obj.cells #[Value.slice x1 x2 x3, Value.slice x4 x5 x6] 80))
        have s6 : Slot2 w1 W2 (w1.heap.size) (.slice x1 x2 x3) (.slice x4 x5 x6) := by
          rw [hW2]; simpa using Slot2.new (Fr.refl w1) x1 x2 x3 x4 x5 x6 80
        rw [← hW2]
        clear hW2
        have I1 := hide (I1.out.fr f2)
        have Q := hide (Q.out.fr f2)
        have R := hide (R.out.fr f2)
        have F := hide (F.out.trans f2)
        have S6 := hide s6
        have HT := hide (Tab.fr HT.out F.out)
        clear f2 s6 r0 r1 q1
        have Q := hide (Q.out.fr (Fr.drew W2))
        have S6 := hide (S6.out.fr (Fr.drew W2))
        have I1 := hide (I1.out.fr (Fr.drew W2))
        have HT := hide (Tab.fr HT.out (Fr.drew W2))
        have F := hide (F.out.trans (Fr.drew W2))
        refine wp_region_held_drew (S := (fun w' => w'.cell? ⟨w.heap.size, 0, none⟩ = some (.int .i64 op) ∧ w'.cell? ⟨w.heap.size, 1, none⟩ = some (.bool false) ∧ w'.cell? ⟨w.heap.size, 2, none⟩ = some (.string WB) ∧ w'.cell? ⟨w.heap.size, 3, none⟩ = some (.string PB) ∧ w'.cell? ⟨w1.heap.size, 0, none⟩ = some (.slice x1 x2 x3) ∧ w'.cell? ⟨w1.heap.size, 1, none⟩ = some (.slice x4 x5 x6))) (by kernel_rfl) ?_ (fun hHeld => ?_)
        · exact ⟨Q.out.1, Q.out.2.1, Q.out.2.2.1, Q.out.2.2.2.1, S6.out.1, S6.out.2.1⟩
        obtain ⟨wd, hwd⟩ : ∃ wd, wd = W2.drew := ⟨_, rfl⟩
        rw [← hwd] at hHeld Q S6 I1 HT F ⊢
        clear hwd
        refine wpAnyH_take (i := 0) (v := ?_) rfl (by kernel_rfl) (by kernel_rfl) (by kernel_rfl) (fun _ _ _ h => h) (Or.inl ⟨by rfl, ?_⟩) (by assumption) ?_
        rotate_left
        · (intro w hSw; (try dsimp only at hSw); go_simp; try with_reducible rfl)
        (try simp only [Act.put, List.getElem_toArray, List.getElem_cons_zero, List.getElem_cons_succ, List.setIfInBounds_toArray, List.set_cons_zero, List.set_cons_succ])
        refine wpAnyH_take (i := 1) (v := ?_) rfl (by kernel_rfl) (by kernel_rfl) (by kernel_rfl) (fun _ _ _ h => h) (Or.inl ⟨by rfl, ?_⟩) (by assumption) ?_
        rotate_left
        · (intro w hSw; (try dsimp only at hSw); go_simp; try with_reducible rfl)
        (try simp only [Act.put, List.getElem_toArray, List.getElem_cons_zero, List.getElem_cons_succ, List.setIfInBounds_toArray, List.set_cons_zero, List.set_cons_succ])
        refine wpAnyH_ready (rs := [2]) (by kernel_rfl) (by simp) ?_
        refine AllReadyH.cons rfl (fun K hK => ?_) AllReadyH.nil
        go_simp
        refine (HSz.out _ HT.out).mono ?_
        rintro e wa ⟨v4, rfl, i4, fy⟩
        have I4 := hide i4
        have Q := hide (Q.out.fr fy)
        have S6 := hide (S6.out.fr fy)
        have I1 := hide (I1.out.fr fy)
        have HT := hide (HT.out.fr fy)
        have F := hide (F.out.trans fy)
        clear i4 fy
        (try go_wp2_with fail)
        refine hK.out _ _ ?_ (fun hHeld => ?_)
        · (try dsimp only)
          exact ⟨Q.out.1, Q.out.2.1, Q.out.2.2.1, Q.out.2.2.2.1, S6.out.1, S6.out.2.1⟩
        clear hK K
        (try simp only [Act.put, List.getElem_toArray, List.getElem_cons_zero, List.getElem_cons_succ, List.setIfInBounds_toArray, List.set_cons_zero, List.set_cons_succ])
        refine wpAnyH_ready (rs := [3]) (by kernel_rfl) (by simp) ?_
        refine AllReadyH.cons rfl (fun K hK => ?_) AllReadyH.nil
        go_simp
        refine (cmpR_any _ _ A B X D _ HT.out I1.out I4.out (by omega) (by omega) (by omega) (by omega) Z HZ.out).mono ?_
        rintro e wb ⟨rfl, fy⟩
        have Q := hide (Q.out.fr fy)
        have S6 := hide (S6.out.fr fy)
        have I1 := hide (I1.out.fr fy)
        have HT := hide (HT.out.fr fy)
        have F := hide (F.out.trans fy)
        clear fy
        (try go_wp2_with fail)
        refine hK.out _ _ ?_ (fun hHeld => ?_)
        · (try dsimp only)
          exact ⟨Q.out.1, Q.out.2.1, Q.out.2.2.1, Q.out.2.2.2.1, S6.out.1, S6.out.2.1⟩
        clear hK K
        (try simp only [Act.put, List.getElem_toArray, List.getElem_cons_zero, List.getElem_cons_succ, List.setIfInBounds_toArray, List.set_cons_zero, List.set_cons_succ])
        refine wpAnyH_take (i := 4) (v := ?_) rfl (by kernel_rfl) (by kernel_rfl) (by kernel_rfl) (fun _ _ _ h => h) (Or.inl ⟨by rfl, ?_⟩) (by assumption) ?_
        rotate_left
        · (intro w hSw; (try dsimp only at hSw); go_simp; try with_reducible rfl)
        (try simp only [Act.put, List.getElem_toArray, List.getElem_cons_zero, List.getElem_cons_succ, List.setIfInBounds_toArray, List.set_cons_zero, List.set_cons_succ])
        refine wpAnyH_take (i := 5) (v := ?_) rfl (by kernel_rfl) (by kernel_rfl) (by kernel_rfl) (fun _ _ _ h => h) (Or.inl ⟨by rfl, ?_⟩) (by assumption) ?_
        rotate_left
        · (intro w hSw; (try dsimp only at hSw); go_simp; try with_reducible rfl)
        (try simp only [Act.put, List.getElem_toArray, List.getElem_cons_zero, List.getElem_cons_succ, List.setIfInBounds_toArray, List.set_cons_zero, List.set_cons_succ])
        refine wpAnyH_done (by kernel_rfl) ?_ _
        go_wp2_with fail
        go_ret2
        exact ⟨by rw [← HO.out]; rfl, F.out⟩
      · skip
        go_enter Tryd.func22, Tryd.ntmps22
        go_wp2_with fail
        obtain ⟨W0, hW0⟩ : ∃ V, V = (w.alloc (Obj.cells #[.int .i64 op, .bool false, .string WB, .string PB] 24)).alloc (Obj.cells #[.int .i64 1, .bool true, .int .u64 (m : Int), .int .i64 x] 42) := ⟨_, rfl⟩
        have Q := (Quad.new (Fr.refl w) (.int .i64 op) (.bool false) (.string WB) (.string PB) 24).fr (Fr.alloc _ (.cells #[.int .i64 1, .bool true, .int .u64 (m : Int), .int .i64 x] 42))
        have R : Quad w ((w.alloc (Obj.cells #[.int .i64 op, .bool false, .string WB, .string PB] 24)).alloc (Obj.cells #[.int .i64 1, .bool true, .int .u64 (m : Int), .int .i64 x] 42)) (w.heap.size + 1) (.int .i64 1) (.bool true) (.int .u64 (m : Int)) (.int .i64 x) := by
          simpa using Quad.new (Fr.alloc w (.cells #[.int .i64 op, .bool false, .string WB, .string PB] 24)) (.int .i64 1) (.bool true) (.int .u64 (m : Int)) (.int .i64 x) 42
        have F := (Fr.alloc w (.cells #[.int .i64 op, .bool false, .string WB, .string PB] 24)).trans (Fr.alloc _ (.cells #[.int .i64 1, .bool true, .int .u64 (m : Int), .int .i64 x] 42))
        rw [← hW0] at Q R F ⊢
        clear hW0
        refine (VR.out _ (Tab.fr HT.out F)).mono ?_
        rintro e w1 ⟨v1, rfl, i1, f1⟩
        obtain ⟨x1, x2, x3, x4, x5, x6, rfl⟩ := i1.form
        have I1 := hide i1
        have Q := hide (Q.fr f1)
        have R := hide (R.fr f1)
        have F := hide (F.trans f1)
        clear f1 i1 VR
        have r0 := fun o => (R.out.fr (Fr.alloc w1 o)).1
        have r1 := fun o => (R.out.fr (Fr.alloc w1 o)).2.1
        have q1 := fun o => (Q.out.fr (Fr.alloc w1 o)).2.1
        go_wp2_with fail
        obtain ⟨W2, hW2⟩ : ∃ W, W = (w1.alloc (Obj.cells #[Value.slice x1 x2 x3, Value.slice x4 x5 x6] 80)) := ⟨_, rfl⟩
        have f2 : Fr w1 W2 := by rw [hW2]; exact (Fr.alloc w1 (Obj.cells #[Value.slice x1 x2 x3, Value.slice x4 x5 x6] 80))
        have s6 : Slot2 w1 W2 (w1.heap.size) (.slice x1 x2 x3) (.slice x4 x5 x6) := by
          rw [hW2]; simpa using Slot2.new (Fr.refl w1) x1 x2 x3 x4 x5 x6 80
        rw [← hW2]
        clear hW2
        have I1 := hide (I1.out.fr f2)
        have Q := hide (Q.out.fr f2)
        have R := hide (R.out.fr f2)
        have F := hide (F.out.trans f2)
        have S6 := hide s6
        have HT := hide (Tab.fr HT.out F.out)
        clear f2 s6 r0 r1 q1
        go_ret2
        exact ⟨by rw [← HO.out]; rfl, F.out⟩
    · cases g
      · skip
        go_enter Tryd.func22, Tryd.ntmps22
        go_wp2_with fail
        obtain ⟨W0, hW0⟩ : ∃ V, V = (w.alloc (Obj.cells #[.int .i64 op, .bool true, .string WB, .string PB] 24)).alloc (Obj.cells #[.int .i64 1, .bool false, .int .u64 (m : Int), .int .i64 x] 42) := ⟨_, rfl⟩
        have Q := (Quad.new (Fr.refl w) (.int .i64 op) (.bool true) (.string WB) (.string PB) 24).fr (Fr.alloc _ (.cells #[.int .i64 1, .bool false, .int .u64 (m : Int), .int .i64 x] 42))
        have R : Quad w ((w.alloc (Obj.cells #[.int .i64 op, .bool true, .string WB, .string PB] 24)).alloc (Obj.cells #[.int .i64 1, .bool false, .int .u64 (m : Int), .int .i64 x] 42)) (w.heap.size + 1) (.int .i64 1) (.bool false) (.int .u64 (m : Int)) (.int .i64 x) := by
          simpa using Quad.new (Fr.alloc w (.cells #[.int .i64 op, .bool true, .string WB, .string PB] 24)) (.int .i64 1) (.bool false) (.int .u64 (m : Int)) (.int .i64 x) 42
        have F := (Fr.alloc w (.cells #[.int .i64 op, .bool true, .string WB, .string PB] 24)).trans (Fr.alloc _ (.cells #[.int .i64 1, .bool false, .int .u64 (m : Int), .int .i64 x] 42))
        rw [← hW0] at Q R F ⊢
        clear hW0
        refine (VR.out _ (Tab.fr HT.out F)).mono ?_
        rintro e w1 ⟨v1, rfl, i1, f1⟩
        obtain ⟨x1, x2, x3, x4, x5, x6, rfl⟩ := i1.form
        have I1 := hide i1
        have Q := hide (Q.fr f1)
        have R := hide (R.fr f1)
        have F := hide (F.trans f1)
        clear f1 i1 VR
        have r0 := fun o => (R.out.fr (Fr.alloc w1 o)).1
        have r1 := fun o => (R.out.fr (Fr.alloc w1 o)).2.1
        have q1 := fun o => (Q.out.fr (Fr.alloc w1 o)).2.1
        go_wp2_with fail
        obtain ⟨W2, hW2⟩ : ∃ W, W = (w1.alloc (Obj.cells #[Value.slice x1 x2 x3, Value.slice x4 x5 x6] 80)) := ⟨_, rfl⟩
        have f2 : Fr w1 W2 := by rw [hW2]; exact (Fr.alloc w1 (Obj.cells #[Value.slice x1 x2 x3, Value.slice x4 x5 x6] 80))
        have s6 : Slot2 w1 W2 (w1.heap.size) (.slice x1 x2 x3) (.slice x4 x5 x6) := by
          rw [hW2]; simpa using Slot2.new (Fr.refl w1) x1 x2 x3 x4 x5 x6 80
        rw [← hW2]
        clear hW2
        have I1 := hide (I1.out.fr f2)
        have Q := hide (Q.out.fr f2)
        have R := hide (R.out.fr f2)
        have F := hide (F.out.trans f2)
        have S6 := hide s6
        have HT := hide (Tab.fr HT.out F.out)
        clear f2 s6 r0 r1 q1
        go_ret2
        exact ⟨by rw [← HO.out]; rfl, F.out⟩
      · skip
        go_enter Tryd.func22, Tryd.ntmps22
        go_wp2_with fail
        obtain ⟨W0, hW0⟩ : ∃ V, V = (w.alloc (Obj.cells #[.int .i64 op, .bool true, .string WB, .string PB] 24)).alloc (Obj.cells #[.int .i64 1, .bool true, .int .u64 (m : Int), .int .i64 x] 42) := ⟨_, rfl⟩
        have Q := (Quad.new (Fr.refl w) (.int .i64 op) (.bool true) (.string WB) (.string PB) 24).fr (Fr.alloc _ (.cells #[.int .i64 1, .bool true, .int .u64 (m : Int), .int .i64 x] 42))
        have R : Quad w ((w.alloc (Obj.cells #[.int .i64 op, .bool true, .string WB, .string PB] 24)).alloc (Obj.cells #[.int .i64 1, .bool true, .int .u64 (m : Int), .int .i64 x] 42)) (w.heap.size + 1) (.int .i64 1) (.bool true) (.int .u64 (m : Int)) (.int .i64 x) := by
          simpa using Quad.new (Fr.alloc w (.cells #[.int .i64 op, .bool true, .string WB, .string PB] 24)) (.int .i64 1) (.bool true) (.int .u64 (m : Int)) (.int .i64 x) 42
        have F := (Fr.alloc w (.cells #[.int .i64 op, .bool true, .string WB, .string PB] 24)).trans (Fr.alloc _ (.cells #[.int .i64 1, .bool true, .int .u64 (m : Int), .int .i64 x] 42))
        rw [← hW0] at Q R F ⊢
        clear hW0
        refine (VR.out _ (Tab.fr HT.out F)).mono ?_
        rintro e w1 ⟨v1, rfl, i1, f1⟩
        obtain ⟨x1, x2, x3, x4, x5, x6, rfl⟩ := i1.form
        have I1 := hide i1
        have Q := hide (Q.fr f1)
        have R := hide (R.fr f1)
        have F := hide (F.trans f1)
        clear f1 i1 VR
        have r0 := fun o => (R.out.fr (Fr.alloc w1 o)).1
        have r1 := fun o => (R.out.fr (Fr.alloc w1 o)).2.1
        have q1 := fun o => (Q.out.fr (Fr.alloc w1 o)).2.1
        go_wp2_with fail
        obtain ⟨W2, hW2⟩ : ∃ W, W = (w1.alloc (Obj.cells #[Value.slice x1 x2 x3, Value.slice x4 x5 x6] 80)) := ⟨_, rfl⟩
        have f2 : Fr w1 W2 := by rw [hW2]; exact (Fr.alloc w1 (Obj.cells #[Value.slice x1 x2 x3, Value.slice x4 x5 x6] 80))
        have s6 : Slot2 w1 W2 (w1.heap.size) (.slice x1 x2 x3) (.slice x4 x5 x6) := by
          rw [hW2]; simpa using Slot2.new (Fr.refl w1) x1 x2 x3 x4 x5 x6 80
        rw [← hW2]
        clear hW2
        have I1 := hide (I1.out.fr f2)
        have Q := hide (Q.out.fr f2)
        have R := hide (R.out.fr f2)
        have F := hide (F.out.trans f2)
        have S6 := hide s6
        have HT := hide (Tab.fr HT.out F.out)
        clear f2 s6 r0 r1 q1
        have Q := hide (Q.out.fr (Fr.drew W2))
        have S6 := hide (S6.out.fr (Fr.drew W2))
        have I1 := hide (I1.out.fr (Fr.drew W2))
        have HT := hide (Tab.fr HT.out (Fr.drew W2))
        have F := hide (F.out.trans (Fr.drew W2))
        refine wp_region_held_drew (S := (fun w' => w'.cell? ⟨w.heap.size, 0, none⟩ = some (.int .i64 op) ∧ w'.cell? ⟨w.heap.size, 1, none⟩ = some (.bool true) ∧ w'.cell? ⟨w.heap.size, 2, none⟩ = some (.string WB) ∧ w'.cell? ⟨w.heap.size, 3, none⟩ = some (.string PB) ∧ w'.cell? ⟨w1.heap.size, 0, none⟩ = some (.slice x1 x2 x3) ∧ w'.cell? ⟨w1.heap.size, 1, none⟩ = some (.slice x4 x5 x6))) (by kernel_rfl) ?_ (fun hHeld => ?_)
        · exact ⟨Q.out.1, Q.out.2.1, Q.out.2.2.1, Q.out.2.2.2.1, S6.out.1, S6.out.2.1⟩
        obtain ⟨wd, hwd⟩ : ∃ wd, wd = W2.drew := ⟨_, rfl⟩
        rw [← hwd] at hHeld Q S6 I1 HT F ⊢
        clear hwd
        refine wpAnyH_take (i := 0) (v := ?_) rfl (by kernel_rfl) (by kernel_rfl) (by kernel_rfl) (fun _ _ _ h => h) (Or.inl ⟨by rfl, ?_⟩) (by assumption) ?_
        rotate_left
        · (intro w hSw; (try dsimp only at hSw); go_simp; try with_reducible rfl)
        (try simp only [Act.put, List.getElem_toArray, List.getElem_cons_zero, List.getElem_cons_succ, List.setIfInBounds_toArray, List.set_cons_zero, List.set_cons_succ])
        refine wpAnyH_take (i := 2) (v := ?_) rfl (by kernel_rfl) (by kernel_rfl) (by kernel_rfl) (fun _ _ _ h => h) (Or.inl ⟨by rfl, ?_⟩) (by assumption) ?_
        rotate_left
        · (intro w hSw; (try dsimp only at hSw); go_simp; try with_reducible rfl)
        (try simp only [Act.put, List.getElem_toArray, List.getElem_cons_zero, List.getElem_cons_succ, List.setIfInBounds_toArray, List.set_cons_zero, List.set_cons_succ])
        refine wpAnyH_ready (rs := [1]) (by kernel_rfl) (by simp) ?_
        refine AllReadyH.cons rfl (fun K hK => ?_) AllReadyH.nil
        go_simp
        refine (HSz.out _ HT.out).mono ?_
        rintro e wa ⟨v4, rfl, i4, fy⟩
        have I4 := hide i4
        have Q := hide (Q.out.fr fy)
        have S6 := hide (S6.out.fr fy)
        have I1 := hide (I1.out.fr fy)
        have HT := hide (HT.out.fr fy)
        have F := hide (F.out.trans fy)
        clear i4 fy
        (try go_wp2_with fail)
        refine hK.out _ _ ?_ (fun hHeld => ?_)
        · (try dsimp only)
          exact ⟨Q.out.1, Q.out.2.1, Q.out.2.2.1, Q.out.2.2.2.1, S6.out.1, S6.out.2.1⟩
        clear hK K
        (try simp only [Act.put, List.getElem_toArray, List.getElem_cons_zero, List.getElem_cons_succ, List.setIfInBounds_toArray, List.set_cons_zero, List.set_cons_succ])
        refine wpAnyH_ready (rs := [3]) (by kernel_rfl) (by simp) ?_
        refine AllReadyH.cons rfl (fun K hK => ?_) AllReadyH.nil
        go_simp
        refine (cmpR_any _ _ X D A B _ HT.out I4.out I1.out (by omega) (by omega) (by omega) (by omega) (-Z) HZ'.out).mono ?_
        rintro e wb ⟨rfl, fy⟩
        have Q := hide (Q.out.fr fy)
        have S6 := hide (S6.out.fr fy)
        have I1 := hide (I1.out.fr fy)
        have HT := hide (HT.out.fr fy)
        have F := hide (F.out.trans fy)
        clear fy
        (try go_wp2_with fail)
        refine hK.out _ _ ?_ (fun hHeld => ?_)
        · (try dsimp only)
          exact ⟨Q.out.1, Q.out.2.1, Q.out.2.2.1, Q.out.2.2.2.1, S6.out.1, S6.out.2.1⟩
        clear hK K
        (try simp only [Act.put, List.getElem_toArray, List.getElem_cons_zero, List.getElem_cons_succ, List.setIfInBounds_toArray, List.set_cons_zero, List.set_cons_succ])
        refine wpAnyH_take (i := 4) (v := ?_) rfl (by kernel_rfl) (by kernel_rfl) (by kernel_rfl) (fun _ _ _ h => h) (Or.inl ⟨by rfl, ?_⟩) (by assumption) ?_
        rotate_left
        · (intro w hSw; (try dsimp only at hSw); go_simp; try with_reducible rfl)
        (try simp only [Act.put, List.getElem_toArray, List.getElem_cons_zero, List.getElem_cons_succ, List.setIfInBounds_toArray, List.set_cons_zero, List.set_cons_succ])
        refine wpAnyH_take (i := 5) (v := ?_) rfl (by kernel_rfl) (by kernel_rfl) (by kernel_rfl) (fun _ _ _ h => h) (Or.inl ⟨by rfl, ?_⟩) (by assumption) ?_
        rotate_left
        · (intro w hSw; (try dsimp only at hSw); go_simp; try with_reducible rfl)
        (try simp only [Act.put, List.getElem_toArray, List.getElem_cons_zero, List.getElem_cons_succ, List.setIfInBounds_toArray, List.set_cons_zero, List.set_cons_succ])
        refine wpAnyH_done (by kernel_rfl) ?_ _
        go_wp2_with fail
        go_ret2
        exact ⟨by rw [← HO.out]; rfl, F.out⟩
end Go.Proofs.YtmaapdmbkhoigaaDoor
