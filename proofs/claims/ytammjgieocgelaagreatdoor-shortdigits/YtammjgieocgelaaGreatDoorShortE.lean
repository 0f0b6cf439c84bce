/- Layer 10: noughts, mayBe, Back, Plain. -/
import Derived.Test.YtammjgieocgelaaGreatDoorShortP
import Derived.Test.YtammjgieocgelaaGreatDoorPackG
import Derived.Test.YtammjgieocgelaaGreatDoorBitsD
namespace Go.Proofs.YtammjgieocgelaaGreatDoor
set_option linter.unusedVariables false
set_option linter.unusedSimpArgs false
open Go.RowKit
open Go.Lib (decDigits trimRightB repeatL)

attribute [local go_sem] World.cell?_alloc_some
set_option maxHeartbeats 2000000 in
set_option maxRecDepth 4000 in
theorem zeros_any (n : Int) (w : World) (h0 : -9223372036854775808 ≤ n) (hn : n ≤ 100000) :
    Calls Tryz.prog 33 #[.int .i64 n] w fun e w' => e = .returned (.string (bs (List.replicate n.toNat 48))) ∧ Fr w w' := by
  have HR : Hid (∀ c : Nat, c ≤ 100000 → Calls Tryz.prog 50 #[.string (bs [48]), .int .i64 (c : Int)] w fun e w' => e = .returned (.string (bs (List.replicate c 48))) ∧ Fr w w') := by
    intro c hc
    have := Tryz.strings_Repeat (bs [48]) c w (by omega) (by rw [bs_size]; simp; omega)
    rw [bs_data, repeat_zeros] at this
    exact this
  by_cases h : n < 0
  · have HR0 : Hid (Calls Tryz.prog 50 #[.string ⟨#[48]⟩, .int .i64 0] w fun e w' => e = .returned (.string (bs (List.replicate n.toNat 48))) ∧ Fr w w') := by
      have := HR.out 0 (by omega)
      rw [show n.toNat = 0 by omega]
      exact this
    clear HR
    have hm : max n 0 = 0 := by omega
    go_enter Tryz.func33, Tryz.ntmps33
    go_wp2_with fail
    refine HR0.out.mono ?_
    rintro e w1 ⟨rfl, f1⟩
    go_wp2_with fail
    go_ret
    exact ⟨rfl, f1⟩
  · obtain ⟨c, rfl⟩ : ∃ c : Nat, n = c := ⟨n.toNat, by omega⟩
    have HR0 : Hid (Calls Tryz.prog 50 #[.string ⟨#[48]⟩, .int .i64 (c : Int)] w fun e w' => e = .returned (.string (bs (List.replicate ((c : Int)).toNat 48))) ∧ Fr w w') := by
      have := HR.out c (by omega)
      rw [Int.toNat_natCast]
      exact this
    clear HR
    have hm : max (c : Int) 0 = c := by omega
    go_enter Tryz.func33, Tryz.ntmps33
    go_wp2_with fail
    refine HR0.out.mono ?_
    rintro e w1 ⟨rfl, f1⟩
    go_wp2_with fail
    go_ret
    exact ⟨rfl, f1⟩

/-- A Sci may be. -/
def MayBe (l : List UInt8) (e : Int) : Prop := 1 ≤ l.length ∧ l.length ≤ 400 ∧ AllD l ∧ l.head? ≠ some 48 ∧ -5000 ≤ e ∧ e ≤ 5000
set_option maxHeartbeats 2000000 in
set_option maxRecDepth 4000 in
theorem mayBe_any (s : ByteArray) (e : Int) (mb : Bool) (w : World) (hs : s.size ≤ maxLen) (e0 : -9223372036854775808 ≤ e) (e1 : e ≤ 9223372036854775807) (hmb : mb = true ↔ MayBe s.data.toList e) :
    Calls Tryz.prog 32 #[.agg #[.string s, .int .i64 e]] w fun r w' => r = .returned (.bool mb) ∧ Fr w w' := by
  have hl := len_data s
  have HS := hide hs
  unfold maxLen at hs
  have NO : Hid (¬ MayBe s.data.toList e → mb = false) := by
    intro h
    cases mb with
    | false => rfl
    | true => exact absurd (hmb.1 rfl) h
  have YES := hide hmb.2
  clear hmb
  by_cases h1 : 400 < s.size
  · have hno := NO.out (fun h => by have := h.2.1; omega)
    subst hno
    have h1' : 400 < (s.size : Int) := by omega
    clear NO YES hl
    go_enter Tryz.func32, Tryz.ntmps32
    go_wp2_with fail
    obtain ⟨W, hW⟩ : ∃ W, W = w.alloc (Obj.cells #[Value.string s, Value.int .i64 e] 27) := ⟨_, rfl⟩
    have fW : Fr w W := by rw [hW]; exact Fr.alloc _ _
    have s1 : Two w W w.heap.size (.string s) (.int .i64 e) := by rw [hW]; exact Two.new (Fr.refl w) _ _ _
    rw [← hW]
    clear hW
    have S1 := hide s1
    have FW := hide fW
    clear s1 fW
    have k0 := S1.out.1
    have k1 := S1.out.2.1
    go_wp2_with fail
    go_ret
    exact ⟨rfl, FW.out⟩
  · have h1' : ¬ 400 < (s.size : Int) := by omega
    by_cases h2 : e < -5000
    · have hno := NO.out (fun h => by have := h.2.2.2.2.1; omega)
      subst hno
      clear NO YES hl
      go_enter Tryz.func32, Tryz.ntmps32
      go_wp2_with fail
      obtain ⟨W, hW⟩ : ∃ W, W = w.alloc (Obj.cells #[Value.string s, Value.int .i64 e] 27) := ⟨_, rfl⟩
      have fW : Fr w W := by rw [hW]; exact Fr.alloc _ _
      have s1 : Two w W w.heap.size (.string s) (.int .i64 e) := by rw [hW]; exact Two.new (Fr.refl w) _ _ _
      rw [← hW]
      clear hW
      have S1 := hide s1
      have FW := hide fW
      clear s1 fW
      have k0 := S1.out.1
      have k1 := S1.out.2.1
      go_wp2_with fail
      go_ret
      exact ⟨rfl, FW.out⟩
    · by_cases h3 : 5000 < e
      · have hno := NO.out (fun h => by have := h.2.2.2.2.2; omega)
        subst hno
        clear NO YES hl
        go_enter Tryz.func32, Tryz.ntmps32
        go_wp2_with fail
        obtain ⟨W, hW⟩ : ∃ W, W = w.alloc (Obj.cells #[Value.string s, Value.int .i64 e] 27) := ⟨_, rfl⟩
        have fW : Fr w W := by rw [hW]; exact Fr.alloc _ _
        have s1 : Two w W w.heap.size (.string s) (.int .i64 e) := by rw [hW]; exact Two.new (Fr.refl w) _ _ _
        rw [← hW]
        clear hW
        have S1 := hide s1
        have FW := hide fW
        clear s1 fW
        have k0 := S1.out.1
        have k1 := S1.out.2.1
        go_wp2_with fail
        go_ret
        exact ⟨rfl, FW.out⟩
      · by_cases h4 : s.data.toList = [] ∨ ¬ AllD s.data.toList
        · have hno := NO.out (fun h => by
            rcases h4 with h4 | h4
            · have := h.1; rw [h4] at this; simp at this
            · exact h4 h.2.2.1)
          subst hno
          have PN := hide (fun wz => parse_no s wz HS.out h4)
          clear NO YES hl h4
          go_enter Tryz.func32, Tryz.ntmps32
          go_wp2_with fail
          obtain ⟨W, hW⟩ : ∃ W, W = w.alloc (Obj.cells #[Value.string s, Value.int .i64 e] 27) := ⟨_, rfl⟩
          have fW : Fr w W := by rw [hW]; exact Fr.alloc _ _
          have s1 : Two w W w.heap.size (.string s) (.int .i64 e) := by rw [hW]; exact Two.new (Fr.refl w) _ _ _
          rw [← hW]
          clear hW
          have S1 := hide s1
          have FW := hide fW
          clear s1 fW
          have k0 := S1.out.1
          have k1 := S1.out.2.1
          go_wp2_with fail
          refine (PN.out _).mono ?_
          rintro r w1 ⟨rfl, f1⟩
          have S1 := hide (S1.out.fr f1)
          have FW := hide (FW.out.trans f1)
          clear f1 k0 k1 PN
          have k0 := S1.out.1
          have k1 := S1.out.2.1
          go_wp2_with fail
          go_ret
          exact ⟨rfl, FW.out.trans (Fr.alloc _ _)⟩
        · have hne : s.data.toList ≠ [] := fun h => h4 (.inl h)
          have hA : AllD s.data.toList := Classical.not_not.1 (fun h => h4 (.inr h))
          have hp : 0 < s.size := by rw [← hl]; exact List.length_pos_iff.2 hne
          obtain ⟨c, hc, hd⟩ := data_at s 0 hp
          have hhd : s.data.toList.head? = some c := by rw [List.head?_eq_getElem?]; exact hd
          obtain ⟨z, hz⟩ : ∃ z : Int, (c.toNat : Int) = z := ⟨_, rfl⟩
          have hcz : ((s[0]'hp).toNat : Int) = z := by rw [hc, hz]
          have hzb := byte_bd c
          rw [hz] at hzb
          have hmb : mb = decide (z ≠ 48) := by
            by_cases hz8 : z = 48
            · rw [NO.out (fun h => h.2.2.2.1 (by rw [hhd]; congr 1; exact UInt8.toNat_inj.1 (by show c.toNat = 48; omega)))]
              simp [hz8]
            · rw [YES.out ⟨by omega, by omega, hA, fun h => by
                rw [hhd] at h
                injection h with h
                apply hz8
                rw [← hz, h]; rfl, by omega, by omega⟩]
              simp [hz8]
          have PY := hide (fun wz => parse_yes s _ wz (by omega) hne hA rfl)
          clear NO YES hl h4 hd hhd hc hz hA hne
          have hp' : (0 : Int) < s.size := by omega
          go_enter Tryz.func32, Tryz.ntmps32
          go_wp2_with fail
          obtain ⟨W, hW⟩ : ∃ W, W = w.alloc (Obj.cells #[Value.string s, Value.int .i64 e] 27) := ⟨_, rfl⟩
          have fW : Fr w W := by rw [hW]; exact Fr.alloc _ _
          have s1 : Two w W w.heap.size (.string s) (.int .i64 e) := by rw [hW]; exact Two.new (Fr.refl w) _ _ _
          rw [← hW]
          clear hW
          have S1 := hide s1
          have FW := hide fW
          clear s1 fW
          have k0 := S1.out.1
          have k1 := S1.out.2.1
          go_wp2_with fail
          refine (PY.out _).mono ?_
          rintro r w1 ⟨a, ca, rfl, i1, -, f1⟩
          have S1 := hide (S1.out.fr f1)
          have FW := hide (FW.out.trans f1)
          clear f1 k0 k1 PY i1
          have k0 := S1.out.1
          have k1 := S1.out.2.1
          go_wp2_with fail
          go_ret
          exact ⟨by rw [hmb]; by_cases h8 : z = 48 <;> simp [h8], FW.out.trans (Fr.alloc _ _)⟩

/-- What may be, in letters. -/
theorem maybe_facts {s : ByteArray} {e : Int} (h : MayBe s.data.toList e) : 1 ≤ s.size ∧ s.size ≤ 400 ∧ -5000 ≤ e ∧ e ≤ 5000 := by
  have hl := len_data s
  obtain ⟨h1, h2, _, _, h5, h6⟩ := h
  omega
theorem ten_len {P : Nat} {k : Nat} (h : 10 ^ k = P) (hk : k ≤ 10000) : nlen 4294967296 P ≤ 10001 := by
  rw [← h]
  have := nlen_pow (x := 10) (n := 1) (by rw [nlten]; omega) k
  omega
theorem val_len {l : List UInt8} (hA : AllD l) {k : Nat} (hk : 0 < k) (h : l.length ≤ k) : nlen 4294967296 (valD l) ≤ k := by
  refine nlen_le b32 (Nat.lt_of_lt_of_le (valD_lt l hA) ?_)
  exact Nat.le_of_lt (ten_pow_lt h hk)
set_option maxHeartbeats 2000000 in
set_option maxRecDepth 4000 in
theorem back_no (s : ByteArray) (e : Int) (w : World) (hs : s.size ≤ maxLen) (e0 : -9223372036854775808 ≤ e) (e1 : e ≤ 9223372036854775807) (h : ¬ MayBe s.data.toList e) :
    Calls Tryz.prog 17 #[.agg #[.string s, .int .i64 e]] w fun r w' => r = .returned (.tuple #[.int .u64 0, .bool false]) ∧ Fr w w' := by
  have MB := hide (fun wz => mayBe_any s e false wz hs e0 e1 ⟨fun h => (by cases h), fun k => absurd k h⟩)
  clear h
  go_enter Tryz.func17, Tryz.ntmps17
  go_wp2_with fail
  obtain ⟨W, hW⟩ : ∃ W, W = w.alloc (Obj.cells #[Value.string s, Value.int .i64 e] 27) := ⟨_, rfl⟩
  have fW : Fr w W := by rw [hW]; exact Fr.alloc _ _
  have s1 : Two w W w.heap.size (.string s) (.int .i64 e) := by rw [hW]; exact Two.new (Fr.refl w) _ _ _
  rw [← hW]
  clear hW
  have S1 := hide s1
  have FW := hide fW
  clear s1 fW
  have k0 := S1.out.1
  have k1 := S1.out.2.1
  go_wp2_with fail
  refine (MB.out _).mono ?_
  rintro r w1 ⟨rfl, f1⟩
  have FW := hide (FW.out.trans f1)
  clear f1 k0 k1 S1
  go_wp2_with fail
  go_ret2
  exact ⟨rfl, FW.out⟩

set_option maxHeartbeats 2000000 in
set_option maxRecDepth 4000 in
theorem back_yes (s : ByteArray) (e : Int) (N : Nat) (w : World) (h : MayBe s.data.toList e) (hN : backN s.data.toList e = N) :
    Calls Tryz.prog 17 #[.agg #[.string s, .int .i64 e]] w fun r w' => r = .returned (.tuple #[.int .u64 (N : Int), .bool true]) ∧ Fr w w' := by
  obtain ⟨b1, b2, b3, b4⟩ := maybe_facts h
  have MB := hide (fun wz => mayBe_any s e true wz (by unfold maxLen; omega) (by omega) (by omega) ⟨fun _ => h, fun _ => rfl⟩)
  have hl := len_data s
  have hne : s.data.toList ≠ [] := fun k => by have := h.1; rw [k] at this; simp at this
  obtain ⟨X, hX⟩ : ∃ X, valD s.data.toList = X := ⟨_, rfl⟩
  have nX : nlen 4294967296 X ≤ 400 := by rw [← hX]; exact val_len h.2.2.1 (by omega) h.2.1
  have PY := hide (fun wz => parse_yes s X wz (by omega) hne h.2.2.1 hX)
  obtain ⟨p, hp⟩ : ∃ p : Int, e - ((s.size : Int) - 1) = p := ⟨_, rfl⟩
  unfold backN at hN
  rw [hl, hp, hX] at hN
  obtain ⟨A, hA⟩ : ∃ A, 10 ^ p.toNat = A := ⟨_, rfl⟩
  obtain ⟨B, hB⟩ : ∃ B, 10 ^ (-p).toNat = B := ⟨_, rfl⟩
  rw [hA, hB] at hN
  have p0 : -6000 ≤ p := by omega
  have p1 : p ≤ 6000 := by omega
  have nA := ten_len hA (by omega)
  have nB := ten_len hB (by omega)
  have B0 : B ≠ 0 := by rw [← hB]; exact Nat.ne_of_gt (Nat.pow_pos (by omega))
  have nXA : nlen 4294967296 (X * A) ≤ 10401 := nlen_mul b32 nX nA
  have TA : Hid (∀ wz, Calls Tryz.prog 37 #[.int .i64 p] wz fun e w' => ∃ a c, e = .returned (.agg #[.slice a (nlen 4294967296 A) c]) ∧ IsNat w' (.agg #[.slice a (nlen 4294967296 A) c]) A ∧ Fr wz w') := by
    intro wz
    have := ten_any p wz (by omega) (by omega)
    rwa [hA] at this
  have TB : Hid (∀ wz, Calls Tryz.prog 37 #[.int .i64 (-p)] wz fun e w' => ∃ a c, e = .returned (.agg #[.slice a (nlen 4294967296 B) c]) ∧ IsNat w' (.agg #[.slice a (nlen 4294967296 B) c]) B ∧ Fr wz w') := by
    intro wz
    have := ten_any (-p) wz (by omega) (by omega)
    rwa [hB] at this
  have hneg : IntKind.i64.wrap (-p) = -p := i64_small (by omega) (by omega)
  have HN := hide hN
  have HP := hide hp
  clear hX hA hB hN h hl hne
  go_enter Tryz.func17, Tryz.ntmps17
  go_wp2_with fail
  obtain ⟨W, hW⟩ : ∃ W, W = w.alloc (Obj.cells #[Value.string s, Value.int .i64 e] 27) := ⟨_, rfl⟩
  have fW : Fr w W := by rw [hW]; exact Fr.alloc _ _
  have s1 : Two w W w.heap.size (.string s) (.int .i64 e) := by rw [hW]; exact Two.new (Fr.refl w) _ _ _
  rw [← hW]
  clear hW
  have S1 := hide s1
  have FW := hide fW
  clear s1 fW
  have k0 := S1.out.1
  have k1 := S1.out.2.1
  clear hp
  go_wp2_with fail
  refine (MB.out _).mono ?_
  rintro r w1 ⟨rfl, f1⟩
  have S1 := hide (S1.out.fr f1)
  have FW := hide (FW.out.trans f1)
  clear f1 k0 k1 MB
  have k0 := S1.out.1
  have k1 := S1.out.2.1
  go_wp2_with fail
  refine (PY.out _).mono ?_
  rintro r w2 ⟨a, ca, rfl, i1, -, f1⟩
  have I1 := hide i1
  have S1 := hide (S1.out.fr f1)
  have FW := hide (FW.out.trans f1)
  clear f1 k0 k1 PY i1
  have l2 := cell_lt S1.out.1
  simp only [] at l2
  have hp := HP.out
  have k0 := fr_cell (Fr.alloc w2 (Obj.cells #[Value.slice a (nlen 4294967296 X) ca] 53)) S1.out.1
  have k1 := fr_cell (Fr.alloc w2 (Obj.cells #[Value.slice a (nlen 4294967296 X) ca] 53)) S1.out.2.1
  go_wp2_with fail
  obtain ⟨W2, hW2⟩ : ∃ W, W = w2.alloc (Obj.cells #[Value.slice a (nlen 4294967296 X) ca] 53) := ⟨_, rfl⟩
  have f2 : Fr w2 W2 := by rw [hW2]; exact Fr.alloc _ _
  have s6 : Slot w2 W2 w2.heap.size (.slice a (nlen 4294967296 X) ca) := by rw [hW2]; exact Slot.new (Fr.refl w2) _ _ _ _
  rw [← hW2] at k0 k1 ⊢
  clear hW2 k0 k1 hp
  have I1 := hide (I1.out.fr f2)
  have FW := hide (FW.out.trans f2)
  have S6 := hide s6
  clear s6 f2 S1
  have I1 := hide (I1.out.fr (Fr.drew _))
  have S6 := hide (S6.out.fr (Fr.drew _))
  have FW := hide (FW.out.trans (Fr.drew _))
  refine wp_region_held_drew (S := (fun w' => w'.cell? ⟨w2.heap.size, 0, none⟩ = some (.slice a (nlen 4294967296 X) ca))) (by kernel_rfl) ?_ (fun hHeld => ?_)
  · exact S6.out.1
  obtain ⟨wd, hwd⟩ : ∃ wd, wd = W2.drew := ⟨_, rfl⟩
  rw [← hwd] at hHeld I1 S6 FW ⊢
  clear hwd
  refine wpAnyH_take (i := 0) (v := ?_) rfl (by kernel_rfl) (by kernel_rfl) (by kernel_rfl) (fun _ _ _ h => h) (Or.inl ⟨by rfl, ?_⟩) (by assumption) ?_
  rotate_left
  · (intro w hSw; (try dsimp only at hSw); go_simp; try with_reducible rfl)
  (try simp only [Act.put, List.getElem_toArray, List.getElem_cons_zero, List.getElem_cons_succ, List.setIfInBounds_toArray, List.set_cons_zero, List.set_cons_succ])
  refine wpAnyH_take (i := 1) (v := ?_) rfl (by kernel_rfl) (by kernel_rfl) (by kernel_rfl) (fun _ _ _ h => h) (Or.inl ⟨by rfl, ?_⟩) (by assumption) ?_
  rotate_left
  · (intro w hSw; (try dsimp only at hSw); go_simp; try with_reducible rfl)
  (try simp only [Act.put, List.getElem_toArray, List.getElem_cons_zero, List.getElem_cons_succ, List.setIfInBounds_toArray, List.set_cons_zero, List.set_cons_succ])
  refine wpAnyH_take (i := 4) (v := ?_) rfl (by kernel_rfl) (by kernel_rfl) (by kernel_rfl) (fun _ _ _ h => h) (Or.inl ⟨by rfl, ?_⟩) (by assumption) ?_
  rotate_left
  · (intro w hSw; (try dsimp only at hSw); go_simp; try with_reducible rfl)
  (try simp only [Act.put, List.getElem_toArray, List.getElem_cons_zero, List.getElem_cons_succ, List.setIfInBounds_toArray, List.set_cons_zero, List.set_cons_succ])
  refine wpAnyH_take (i := 5) (v := ?_) rfl (by kernel_rfl) (by kernel_rfl) (by kernel_rfl) (fun _ _ _ h => h) (Or.inl ⟨by rfl, ?_⟩) (by assumption) ?_
  rotate_left
  · (intro w hSw; (try dsimp only at hSw); go_simp; try with_reducible rfl)
  (try simp only [Act.put, List.getElem_toArray, List.getElem_cons_zero, List.getElem_cons_succ, List.setIfInBounds_toArray, List.set_cons_zero, List.set_cons_succ])
  refine wpAnyH_ready (rs := [2]) (by kernel_rfl) (by simp) ?_
  refine AllReadyH.cons rfl (fun K hK => ?_) AllReadyH.nil
  go_simp
  refine (TA.out _).mono ?_
  rintro r wn ⟨aA, cA, rfl, iA, fy⟩
  have IA := hide iA
  have I1 := hide (I1.out.fr fy)
  have S6 := hide (S6.out.fr fy)
  have FW := hide (FW.out.trans fy)
  clear iA fy
  (try go_wp2_with fail)
  refine hK.out _ _ ?_ (fun hHeld => ?_)
  · (try dsimp only)
    exact S6.out.1
  clear hK K
  (try simp only [Act.put, List.getElem_toArray, List.getElem_cons_zero, List.getElem_cons_succ, List.setIfInBounds_toArray, List.set_cons_zero, List.set_cons_succ])
  refine wpAnyH_ready (rs := [3]) (by kernel_rfl) (by simp) ?_
  refine AllReadyH.cons rfl (fun K hK => ?_) AllReadyH.nil
  go_simp
  refine (mul_any _ _ X A _ I1.out IA.out (by omega) (by omega)).mono ?_
  rintro r wn ⟨aM, cM, rfl, iM, _, fy⟩
  have IM := hide iM
  have S6 := hide (S6.out.fr fy)
  have FW := hide (FW.out.trans fy)
  clear iM fy
  (try go_wp2_with fail)
  refine hK.out _ _ ?_ (fun hHeld => ?_)
  · (try dsimp only)
    exact S6.out.1
  clear hK K
  (try simp only [Act.put, List.getElem_toArray, List.getElem_cons_zero, List.getElem_cons_succ, List.setIfInBounds_toArray, List.set_cons_zero, List.set_cons_succ])
  refine wpAnyH_ready (rs := [6]) (by kernel_rfl) (by simp) ?_
  refine AllReadyH.cons rfl (fun K hK => ?_) AllReadyH.nil
  go_simp
  refine (TB.out _).mono ?_
  rintro r wn ⟨aB, cB, rfl, iB, fy⟩
  have IB := hide iB
  have IM := hide (IM.out.fr fy)
  have S6 := hide (S6.out.fr fy)
  have FW := hide (FW.out.trans fy)
  clear iB fy
  (try go_wp2_with fail)
  refine hK.out _ _ ?_ (fun hHeld => ?_)
  · (try dsimp only)
    exact S6.out.1
  clear hK K
  (try simp only [Act.put, List.getElem_toArray, List.getElem_cons_zero, List.getElem_cons_succ, List.setIfInBounds_toArray, List.set_cons_zero, List.set_cons_succ])
  refine wpAnyH_ready (rs := [7]) (by kernel_rfl) (by simp) ?_
  refine AllReadyH.cons rfl (fun K hK => ?_) AllReadyH.nil
  go_simp
  refine (nearest_any _ _ (X * A) B N _ IM.out IB.out (by omega) (by omega) B0 HN.out).mono ?_
  rintro r wn ⟨rfl, fy⟩
  have S6 := hide (S6.out.fr fy)
  have FW := hide (FW.out.trans fy)
  clear fy
  (try go_wp2_with fail)
  refine hK.out _ _ ?_ (fun hHeld => ?_)
  · (try dsimp only)
    exact S6.out.1
  clear hK K
  (try simp only [Act.put, List.getElem_toArray, List.getElem_cons_zero, List.getElem_cons_succ, List.setIfInBounds_toArray, List.set_cons_zero, List.set_cons_succ])
  refine wpAnyH_take (i := 8) (v := ?_) rfl (by kernel_rfl) (by kernel_rfl) (by kernel_rfl) (fun _ _ _ h => h) (Or.inl ⟨by rfl, ?_⟩) (by assumption) ?_
  rotate_left
  · (intro w hSw; (try dsimp only at hSw); go_simp; try with_reducible rfl)
  (try simp only [Act.put, List.getElem_toArray, List.getElem_cons_zero, List.getElem_cons_succ, List.setIfInBounds_toArray, List.set_cons_zero, List.set_cons_succ])
  refine wpAnyH_take (i := 9) (v := ?_) rfl (by kernel_rfl) (by kernel_rfl) (by kernel_rfl) (fun _ _ _ h => h) (Or.inl ⟨by rfl, ?_⟩) (by assumption) ?_
  rotate_left
  · (intro w hSw; (try dsimp only at hSw); go_simp; try with_reducible rfl)
  (try simp only [Act.put, List.getElem_toArray, List.getElem_cons_zero, List.getElem_cons_succ, List.setIfInBounds_toArray, List.set_cons_zero, List.set_cons_succ])
  refine wpAnyH_take (i := 10) (v := ?_) rfl (by kernel_rfl) (by kernel_rfl) (by kernel_rfl) (fun _ _ _ h => h) (Or.inl ⟨by rfl, ?_⟩) (by assumption) ?_
  rotate_left
  · (intro w hSw; (try dsimp only at hSw); go_simp; try with_reducible rfl)
  (try simp only [Act.put, List.getElem_toArray, List.getElem_cons_zero, List.getElem_cons_succ, List.setIfInBounds_toArray, List.set_cons_zero, List.set_cons_succ])
  refine wpAnyH_take (i := 11) (v := ?_) rfl (by kernel_rfl) (by kernel_rfl) (by kernel_rfl) (fun _ _ _ h => h) (Or.inl ⟨by rfl, ?_⟩) (by assumption) ?_
  rotate_left
  · (intro w hSw; (try dsimp only at hSw); go_simp; try with_reducible rfl)
  (try simp only [Act.put, List.getElem_toArray, List.getElem_cons_zero, List.getElem_cons_succ, List.setIfInBounds_toArray, List.set_cons_zero, List.set_cons_succ])
  refine wpAnyH_done (by kernel_rfl) ?_ _
  go_wp2_with fail
  go_ret2
  exact ⟨rfl, FW.out⟩

set_option maxHeartbeats 2000000 in
set_option maxRecDepth 4000 in
theorem plain_no (s : ByteArray) (e : Int) (w : World) (hs : s.size ≤ maxLen) (e0 : -9223372036854775808 ≤ e) (e1 : e ≤ 9223372036854775807) (h : ¬ MayBe s.data.toList e) :
    Calls Tryz.prog 16 #[.agg #[.string s, .int .i64 e]] w fun r w' => r = .returned (.tuple #[.string ⟨#[]⟩, .bool false]) ∧ Fr w w' := by
  have MB := hide (fun wz => mayBe_any s e false wz hs e0 e1 ⟨fun h => (by cases h), fun k => absurd k h⟩)
  clear h
  go_enter Tryz.func16, Tryz.ntmps16
  go_wp2_with fail
  obtain ⟨W, hW⟩ : ∃ W, W = w.alloc (Obj.cells #[Value.string s, Value.int .i64 e] 27) := ⟨_, rfl⟩
  have fW : Fr w W := by rw [hW]; exact Fr.alloc _ _
  have s1 : Two w W w.heap.size (.string s) (.int .i64 e) := by rw [hW]; exact Two.new (Fr.refl w) _ _ _
  rw [← hW]
  clear hW
  have S1 := hide s1
  have FW := hide fW
  clear s1 fW
  have k0 := S1.out.1
  have k1 := S1.out.2.1
  go_wp2_with fail
  refine (MB.out _).mono ?_
  rintro r w1 ⟨rfl, f1⟩
  have FW := hide (FW.out.trans f1)
  clear f1 k0 k1 S1
  go_wp2_with fail
  go_ret2
  exact ⟨rfl, FW.out⟩

set_option maxHeartbeats 2000000 in
set_option maxRecDepth 4000 in
theorem plain_yes (s : ByteArray) (e : Int) (T : ByteArray) (w : World) (h : MayBe s.data.toList e) (hT : bs (plainP s.data.toList e) = T) :
    Calls Tryz.prog 16 #[.agg #[.string s, .int .i64 e]] w fun r w' => r = .returned (.tuple #[.string T, .bool true]) ∧ Fr w w' := by
  obtain ⟨b1, b2, b3, b4⟩ := maybe_facts h
  have MB := hide (fun wz => mayBe_any s e true wz (by unfold maxLen; omega) (by omega) (by omega) ⟨fun _ => h, fun _ => rfl⟩)
  have hl := len_data s
  have hne : s.data.toList ≠ [] := fun k => by have := h.1; rw [k] at this; simp at this
  obtain ⟨c1, c2⟩ := text_plain s.data.toList e hne
  rw [hl] at c1 c2
  obtain ⟨q, hq⟩ : ∃ q : Nat, (max e 0).toNat + 1 = q := ⟨_, rfl⟩
  rw [hq] at c1 c2
  obtain ⟨TA, hTA⟩ : ∃ TA, bs (List.replicate (-e).toNat 48) = TA := ⟨_, rfl⟩
  obtain ⟨TB, hTB⟩ : ∃ TB, bs (List.replicate (e - ((s.size : Int) - 1)).toNat 48) = TB := ⟨_, rfl⟩
  have zA : TA.size ≤ 6000 := by rw [← hTA, bs_size, List.length_replicate]; omega
  have zB : TB.size ≤ 6000 := by rw [← hTB, bs_size, List.length_replicate]; omega
  obtain ⟨X, hX⟩ : ∃ X, TA ++ s ++ TB = X := ⟨_, rfl⟩
  have eX : X = bs (List.replicate (-e).toNat 48 ++ s.data.toList ++ List.replicate (e - ((s.size : Int) - 1)).toNat 48) := by
    rw [← hX, ← hTA, ← hTB]
    conv => lhs; rw [bs_eta s]
    rw [bs_append, bs_append]
  have zX : X.size = (-e).toNat + s.size + (e - ((s.size : Int) - 1)).toNat := by
    rw [eX, bs_size, List.length_append, List.length_append, List.length_replicate, List.length_replicate, hl]
  have q1 : q ≤ X.size := by omega
  obtain ⟨d1, d2, d3, d4⟩ := cut_data X q q1
  rw [eX, bs_data, c1] at d1
  rw [eX, bs_data, c2] at d2
  rw [← eX] at d1 d2
  obtain ⟨U, hU⟩ : ∃ U, X.extract 0 q = U := ⟨_, rfl⟩
  obtain ⟨V, hV⟩ : ∃ V, X.extract q X.size = V := ⟨_, rfl⟩
  rw [hU] at d1 d3
  rw [hV] at d2 d4
  obtain ⟨P, hP⟩ : ∃ P, bs (trimRightB V.data.toList 48) = P := ⟨_, rfl⟩
  have zP : P.size ≤ 20000 := by
    rw [← hP, bs_size]
    have := trim_size V.data.toList
    rw [len_data] at this
    omega
  have eU : U = bs (wholeP s.data.toList e) := by rw [bs_eta U, d1]
  have eP : P = bs (trimRightB (partP s.data.toList e) 48) := by rw [← hP, d2]
  have FIN0 : Hid (P.toList = [] → U = T) := by
    intro hp
    rw [Go.Lib.toList_data, eP, bs_data] at hp
    rw [← hT, eU]
    unfold plainP
    rw [if_pos hp]
  have FIN1 : Hid (P.toList ≠ [] → U ++ ⟨#[46]⟩ ++ P = T) := by
    intro hp
    rw [Go.Lib.toList_data, eP, bs_data] at hp
    rw [← hT, eU]
    unfold plainP
    rw [if_neg hp, eP, show (⟨#[46]⟩ : ByteArray) = bs [46] from rfl, bs_append, bs_append]
    simp
  have NA := hide (fun wz => zeros_any (-e) wz (by omega) (by omega))
  have NB := hide (fun wz => zeros_any (e - ((s.size : Int) - 1)) wz (by omega) (by omega))
  have TR := hide (fun wz => trim_any6 V wz (by unfold maxLen; omega))
  rw [hTA] at NA
  rw [hTB] at NB
  rw [hP] at TR
  have HX := hide hX
  have HU := hide hU
  have HV := hide hV
  have zU : U.size ≤ 20000 := by omega
  have hq' : (if e < 0 then (0 : Int) else e) + 1 = q := by split <;> omega
  have hq2 : max e 0 + 1 = (q : Int) := by omega
  have qX : (q : Int) ≤ X.size := by omega
  have q0 : (0 : Int) ≤ q := by omega
  have qt : (q : Int).toNat = q := by omega
  have zX2 : X.size ≤ 20000 := by omega
  clear hT c1 c2 hTA hTB eX d1 d2 d3 d4 hP eU eP h hne hX hU hV hq zX hl
  go_enter Tryz.func16, Tryz.ntmps16
  go_wp2_with fail
  obtain ⟨W, hW⟩ : ∃ W, W = w.alloc (Obj.cells #[Value.string s, Value.int .i64 e] 27) := ⟨_, rfl⟩
  have fW : Fr w W := by rw [hW]; exact Fr.alloc _ _
  have s1 : Two w W w.heap.size (.string s) (.int .i64 e) := by rw [hW]; exact Two.new (Fr.refl w) _ _ _
  rw [← hW]
  clear hW
  have S1 := hide s1
  have FW := hide fW
  clear s1 fW
  have k0 := S1.out.1
  have k1 := S1.out.2.1
  go_wp2_with fail
  refine (MB.out _).mono ?_
  rintro r w1 ⟨rfl, f1⟩
  have S1 := hide (S1.out.fr f1)
  have FW := hide (FW.out.trans f1)
  clear f1 k0 k1 MB
  have k0 := S1.out.1
  have k1 := S1.out.2.1
  go_wp2_with fail
  refine (NA.out _).mono ?_
  rintro r w2 ⟨rfl, f1⟩
  have S1 := hide (S1.out.fr f1)
  have FW := hide (FW.out.trans f1)
  clear f1 k0 k1 NA
  have k0 := S1.out.1
  have k1 := S1.out.2.1
  go_wp2_with fail
  refine (NB.out _).mono ?_
  rintro r w3 ⟨rfl, f1⟩
  have S1 := hide (S1.out.fr f1)
  have FW := hide (FW.out.trans f1)
  clear f1 k0 k1 NB
  have k0 := S1.out.1
  have k1 := S1.out.2.1
  have hx := HX.out
  go_upto_region 6 with fail
  go_cut [7] (fun s7 wx => s7 = .int .i64 (q : Int) ∧ wx = w3)
  case first =>
    go_wp2_with fail
    all_goals (go_meet; exact ⟨by first | rfl | (congr 1), rfl⟩)
  case rest =>
  obtain ⟨rfl, rfl⟩ := hcut
  clear hx k0 k1 hq' hq2
  have hu := HU.out
  have hv := HV.out
  go_wp2_with fail
  go_quiet ((go_at_call 26; exact Calls.quiet_of_same (TR.out _)))
  by_cases hp : P.toList = []
  · obtain rfl := FIN0.out hp
    have hpe : P.toList.isEmpty = true := by rw [hp]; rfl
    go_wp2_with fail
    go_ret2
    exact ⟨rfl, below_drewN FW.out _⟩
  · have e := FIN1.out hp
    have hpe : P.toList.isEmpty = false := by simpa using hp
    go_wp2_with fail
    go_ret2
    exact ⟨by rw [← e]; rfl, below_drewN FW.out _⟩
end Go.Proofs.YtammjgieocgelaaGreatDoor
