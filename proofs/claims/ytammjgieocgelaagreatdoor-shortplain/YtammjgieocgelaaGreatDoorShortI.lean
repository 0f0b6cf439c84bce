/- numerarylaw10: may. -/
import Derived.Test.YtammjgieocgelaaGreatDoorShortD
namespace Go.Proofs.YtammjgieocgelaaGreatDoor
set_option linter.unusedVariables false
set_option linter.unusedSimpArgs false
open Go.RowKit
open Go.Lib (decDigits trimRightB)

attribute [local go_sem] World.cell?_alloc_some
set_option maxHeartbeats 2000000 in
set_option maxRecDepth 4000 in
theorem may_any (s : ByteArray) (e : Int) (mb : Bool) (w : World) (hs : s.size ≤ maxLen) (e0 : -9223372036854775808 ≤ e) (e1 : e ≤ 9223372036854775807) (hmb : mb = true ↔ MayBe s.data.toList e) :
    Calls Tryz.prog 18 #[.agg #[.string s, .int .i64 e]] w fun r w' => r = .returned (.bool mb) ∧ Fr w w' := by
  have hl := len_data s
  unfold maxLen at hs
  have NO : Hid (¬ MayBe s.data.toList e → mb = false) := by
    intro h
    cases mb with
    | false => rfl
    | true => exact absurd (hmb.1 rfl) h
  have YES := hide hmb.2
  clear hmb
  by_cases h0 : s.size < 1
  · have hno := NO.out (fun h => by have := h.1; omega)
    subst hno
    have h0' : (s.size : Int) < 1 := by omega
    clear NO YES hl
    go_enter Tryz.func18, Tryz.ntmps18
    go_wp2_with fail
    obtain ⟨W, hW⟩ : ∃ W, W = w.alloc (Obj.cells #[Value.string s, Value.int .i64 e] 27) := ⟨_, rfl⟩
    have fW : Fr w W := by rw [hW]; exact Fr.alloc _ _
    have s1 : Two w W w.heap.size (.string s) (.int .i64 e) := by rw [hW]; exact Two.new (Fr.refl w) _ _ _
    rw [← hW]
    clear hW
    have k0 := s1.1
    have k1 := s1.2.1
    have FW := hide fW
    clear s1 fW
    go_wp2_with fail
    go_ret
    exact ⟨rfl, FW.out⟩
  · have h0' : ¬ (s.size : Int) < 1 := by omega
    have hp : 0 < s.size := by omega
    by_cases h1 : 400 < s.size
    · have hno := NO.out (fun h => by have := h.2.1; omega)
      subst hno
      have h1' : 400 < (s.size : Int) := by omega
      clear NO YES hl
      go_enter Tryz.func18, Tryz.ntmps18
      go_wp2_with fail
      obtain ⟨W, hW⟩ : ∃ W, W = w.alloc (Obj.cells #[Value.string s, Value.int .i64 e] 27) := ⟨_, rfl⟩
      have fW : Fr w W := by rw [hW]; exact Fr.alloc _ _
      have s1 : Two w W w.heap.size (.string s) (.int .i64 e) := by rw [hW]; exact Two.new (Fr.refl w) _ _ _
      rw [← hW]
      clear hW
      have k0 := s1.1
      have k1 := s1.2.1
      have FW := hide fW
      clear s1 fW
      go_wp2_with fail
      go_ret
      exact ⟨rfl, FW.out⟩
    · have h1' : ¬ 400 < (s.size : Int) := by omega
      obtain ⟨c, hc, hd⟩ := data_at s 0 hp
      have hhd : s.data.toList.head? = some c := by rw [List.head?_eq_getElem?]; exact hd
      obtain ⟨z, hz⟩ : ∃ z : Int, (c.toNat : Int) = z := ⟨_, rfl⟩
      have hcz : ((s[0]'hp).toNat : Int) = z := by rw [hc, hz]
      have hzb := byte_bd c
      rw [hz] at hzb
      have hp' : (0 : Int) < s.size := by omega
      by_cases h2 : z = 48
      · have hno := NO.out (fun h => h.2.2.2.1 (by rw [hhd]; congr 1; exact UInt8.toNat_inj.1 (by show c.toNat = 48; omega)))
        subst hno
        subst h2
        clear NO YES hl hc hd hhd hz
        go_enter Tryz.func18, Tryz.ntmps18
        go_wp2_with fail
        obtain ⟨W, hW⟩ : ∃ W, W = w.alloc (Obj.cells #[Value.string s, Value.int .i64 e] 27) := ⟨_, rfl⟩
        have fW : Fr w W := by rw [hW]; exact Fr.alloc _ _
        have s1 : Two w W w.heap.size (.string s) (.int .i64 e) := by rw [hW]; exact Two.new (Fr.refl w) _ _ _
        rw [← hW]
        clear hW
        have k0 := s1.1
        have k1 := s1.2.1
        have FW := hide fW
        clear s1 fW
        go_wp2_with fail
        go_ret
        exact ⟨rfl, FW.out⟩
      · have hne : s.data.toList.head? ≠ some 48 := by
          intro h
          rw [hhd] at h
          injection h with h
          apply h2
          rw [← hz, h]; rfl
        have hz2 : (z == 48) = false := by simp only [beq_eq_false_iff_ne, ne_eq]; omega
        clear hc hd hhd hz
        by_cases h3 : e < -5000
        · have hno := NO.out (fun h => by have := h.2.2.2.2.1; omega)
          subst hno
          clear NO YES hl hne
          go_enter Tryz.func18, Tryz.ntmps18
          go_wp2_with fail
          obtain ⟨W, hW⟩ : ∃ W, W = w.alloc (Obj.cells #[Value.string s, Value.int .i64 e] 27) := ⟨_, rfl⟩
          have fW : Fr w W := by rw [hW]; exact Fr.alloc _ _
          have s1 : Two w W w.heap.size (.string s) (.int .i64 e) := by rw [hW]; exact Two.new (Fr.refl w) _ _ _
          rw [← hW]
          clear hW
          have k0 := s1.1
          have k1 := s1.2.1
          have FW := hide fW
          clear s1 fW
          go_wp2_with fail
          go_ret
          exact ⟨rfl, FW.out⟩
        · by_cases h4 : 5000 < e
          · have hno := NO.out (fun h => by have := h.2.2.2.2.2; omega)
            subst hno
            clear NO YES hl hne
            go_enter Tryz.func18, Tryz.ntmps18
            go_wp2_with fail
            obtain ⟨W, hW⟩ : ∃ W, W = w.alloc (Obj.cells #[Value.string s, Value.int .i64 e] 27) := ⟨_, rfl⟩
            have fW : Fr w W := by rw [hW]; exact Fr.alloc _ _
            have s1 : Two w W w.heap.size (.string s) (.int .i64 e) := by rw [hW]; exact Two.new (Fr.refl w) _ _ _
            rw [← hW]
            clear hW
            have k0 := s1.1
            have k1 := s1.2.1
            have FW := hide fW
            clear s1 fW
            go_wp2_with fail
            go_ret
            exact ⟨rfl, FW.out⟩
          · have HY : Hid (AllD s.data.toList → mb = true) := fun h => YES.out ⟨by omega, by omega, h, hne, by omega, by omega⟩
            have HN : Hid (¬ AllD s.data.toList → mb = false) := fun h => NO.out (fun k => h k.2.2.1)
            have HLN := hide hl
            clear NO YES hl hne
            go_enter Tryz.func18, Tryz.ntmps18
            go_wp2_with fail
            obtain ⟨W, hW⟩ : ∃ W, W = w.alloc (Obj.cells #[Value.string s, Value.int .i64 e] 27) := ⟨_, rfl⟩
            have fW : Fr w W := by rw [hW]; exact Fr.alloc _ _
            have s1 : Two w W w.heap.size (.string s) (.int .i64 e) := by rw [hW]; exact Two.new (Fr.refl w) _ _ _
            rw [← hW]
            clear hW
            have k0 := s1.1
            have k1 := s1.2.1
            have FW := hide fW
            clear s1 fW
            go_wp2_with fail
            clear hcz hz2 h2 hzb
            go_loopw [33] (fun i wr => ∃ k : Nat, k ≤ s.size ∧ i = .int .i64 k ∧ Hid (AllD (s.data.toList.take k)) ∧ wr = W) (fun i _ => s.size - (intOf i).toNat)
            case atStart => exact ⟨0, by omega, rfl, hide allD_nil, rfl⟩
            case round =>
              obtain ⟨k, hk, rfl, hA, rfl⟩ := hrel
              by_cases hlt : k < s.size
              · obtain ⟨c, hc, hd⟩ := data_at s k hlt
                obtain ⟨z, hz⟩ : ∃ z : Int, (c.toNat : Int) = z := ⟨_, rfl⟩
                have hzb := byte_bd c
                rw [hz] at hzb
                have hcz : ((s[k]'hlt).toNat : Int) = z := by rw [hc, hz]
                have HD := hide hd
                have HZ := hide hz
                clear hd hz hc
                by_cases h1 : z < 48 ∨ 57 < z
                · have hno := HN.out (fun h => by
                    have := h c (List.mem_of_getElem? HD.out)
                    have := HZ.out
                    omega)
                  subst hno
                  rcases h1 with h1 | h1
                  · go_wp2_with fail
                    go_ret
                    exact ⟨rfl, FW.out⟩
                  · have h2 : ¬ z < 48 := by omega
                    go_wp2_with fail
                    go_ret
                    exact ⟨rfl, FW.out⟩
                · have h2 : ¬ z < 48 := by omega
                  have h3 : ¬ 57 < z := by omega
                  go_wp2_with fail
                  go_roundw
                  case rel =>
                    refine ⟨k + 1, by omega, by go_num, hide ?_, by first | rfl | trivial⟩
                    rw [take_snoc HD.out, allD_append]
                    refine ⟨hA.out, fun b hb => ?_⟩
                    rw [List.mem_singleton.1 hb]
                    have := HZ.out
                    omega
                  case measure => simp [intOf]; omega
              · have : k = s.size := by omega
                subst this
                have hyes := HY.out (by have := hA.out; rwa [← HLN.out, List.take_length] at this)
                subst hyes
                go_wp2_with fail
                go_ret
                exact ⟨rfl, FW.out⟩
end Go.Proofs.YtammjgieocgelaaGreatDoor
