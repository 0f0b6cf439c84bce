/- The document's hex, Money, Elapsed of layer 12. -/
import Derived.Test.YtiemiekkjaknfaaDoorColD
namespace Go.Proofs.YtiemiekkjaknfaaDoor
set_option linter.unusedVariables false
set_option linter.unusedSimpArgs false
open Go.RowKit

def moV (m : List Int × Int × Bool) : Value := .tuple #[.string (strOfNums m.1), .int .u32 m.2.1, .bool m.2.2]
def elV (m : List Int × Int × Bool) : Value := .tuple #[.string (strOfNums m.1), .int .i64 m.2.1, .bool m.2.2]

set_option maxHeartbeats 400000 in
set_option maxRecDepth 4000 in
theorem refHex_any (c : Int) (w : World) (h0 : 0 ≤ c) (h1 : c ≤ 255) : Calls Tryd.prog 32 #[.int .u8 c] w fun e w' => e = .returned (.int .i64 (hexV c)) ∧ w' = w := by
  unfold hexV
  go_each [48 ≤ c, c ≤ 57, 97 ≤ c, c ≤ 102, 65 ≤ c, c ≤ 70] => (
    go_enter Tryd.func32, Tryd.ntmps32
    go_wp2
    go_ret
    exact ⟨by simp [*], rfl⟩)

theorem upto_at (r : List Int) (k : Nat) (h : k < (upto 45 r).length) : ∃ x, r[k]? = some x ∧ x ≠ 45 := by
  obtain ⟨h1, h2⟩ := upto_cut 45 r
  have hk : (upto 45 r)[k]? = some ((upto 45 r)[k]) := List.getElem?_eq_getElem h
  refine ⟨(upto 45 r)[k], ?_, h1 _ (List.getElem_mem h)⟩
  rcases h2 with ⟨_, e⟩ | ⟨q, e⟩
  · exact (show r[k]? = (upto 45 r)[k]? by rw [e]).trans hk
  · have h6 : r[k]? = (upto 45 r ++ 45 :: q)[k]? := congrArg (fun l => l[k]?) e
    rw [List.getElem?_append_left h, hk] at h6
    exact h6
theorem upto_le (r : List Int) : (upto 45 r).length ≤ r.length := (List.takeWhile_sublist _).length_le
theorem upto_end (r : List Int) (h : (upto 45 r).length < r.length) : r[(upto 45 r).length]? = some 45 := by
  obtain ⟨h1, h2⟩ := upto_cut 45 r
  rcases h2 with ⟨e, _⟩ | ⟨q, e⟩
  · omega
  · have : ∀ (u : List Int), (u ++ 45 :: q)[u.length]? = some 45 := fun u => by simp
    have h3 := this (upto 45 r)
    rw [← e] at h3
    exact h3
theorem upto_take (r : List Int) : r.take (upto 45 r).length = upto 45 r := by
  obtain ⟨h1, h2⟩ := upto_cut 45 r
  rcases h2 with ⟨e, e'⟩ | ⟨q, e⟩
  · rw [e, List.take_length, e']
  · have : ∀ (u : List Int), (u ++ 45 :: q).take u.length = u := fun u => by simp
    have h3 := this (upto 45 r)
    rw [← e] at h3
    exact h3
theorem bt_tail (s : ByteArray) (k : Nat) (x : Int) (h : ((ints s).drop 1)[k]? = some x) : bt s (1 + k) = x := by
  rw [List.getElem?_drop] at h
  unfold bt
  rw [h]; rfl

set_option maxHeartbeats 2000000 in
set_option maxRecDepth 4000 in
theorem refMoney_any (s : ByteArray) (w : World) (hs : s.size ≤ 200) :
    Calls Tryd.prog 16 #[.string s] w fun e w' => e = .returned (moV (moN (ints s))) ∧ Fr w w' := by
  by_cases h0 : s.size = 0
  · have e : moN (ints s) = ([], 0, false) := by
      have := ints_length s
      rw [h0] at this
      rw [List.length_eq_zero_iff.1 this]; rfl
    rw [e]
    go_enter Tryd.func16, Tryd.ntmps16
    go_wp2_with fail
    go_ret3
    exact ⟨by simp only [moV, str_nil]; rfl, Fr.refl _⟩
  · have q0 := bt_at s 0 (by omega)
    have r0 := bt_range s 0 (by omega)
    have ht := tail_bt s (by omega)
    by_cases h36 : bt s 0 = 36
    · rw [ht, h36]
      rw [h36] at q0
      have hrl : ((ints s).drop 1).length = s.size - 1 := by rw [List.length_drop, ints_length]
      obtain ⟨r, hr⟩ : ∃ r, (ints s).drop 1 = r := ⟨_, rfl⟩
      have HBT := hide (fun k x h => bt_tail s k x h)
      rw [hr] at HBT hrl ⊢
      have HAT := hide (upto_at r)
      have HEN := hide (upto_end r)
      have hle := upto_le r
      have HTK := hide (upto_take r)
      have HR := hide hr
      obtain ⟨U, hU⟩ : ∃ U, (upto 45 r).length = U := ⟨_, rfl⟩
      have HU := hide hU
      rw [hU] at HAT HEN hle HTK
      have HRL := hide hrl
      have hUs : 1 + U ≤ s.size := by omega
      clear hU hr ht h36 r0
      go_enter Tryd.func16, Tryd.ntmps16
      go_wp2_with fail
      go_loopw [5] (fun i wr => ∃ m : Nat, 1 ≤ m ∧ m ≤ 1 + U ∧ i = .int .i64 (m : Int) ∧ Fr w wr) (fun i _ => 1 + U - (intOf i).toNat)
      case atStart => exact ⟨1, by omega, by omega, rfl, Fr.refl _⟩
      case round =>
        obtain ⟨m, hm1, hm2, rfl, hF⟩ := hrel
        by_cases hkU : m < 1 + U
        · have hks : m < s.size := by omega
          obtain ⟨x, hx, hne⟩ := HAT.out (m - 1) (by omega)
          have q1 := bt_at s m hks
          have hb1 := HBT.out (m - 1) x hx
          rw [show 1 + (m - 1) = m by omega] at hb1
          rw [hb1] at q1
          have hne' : (x != 45) = true := by rw [bne_iff_ne]; exact hne
          clear hx hb1
          go_wp2_with fail
          go_roundw
          case rel => exact ⟨m + 1, by omega, by omega, by go_num, hF⟩
          case measure => simp [intOf]; omega
        · obtain ⟨k, rfl⟩ : ∃ k, k = U := ⟨_, rfl⟩
          obtain rfl : m = 1 + k := by omega
          by_cases hlt : k < r.length
          · have hks : 1 + k < s.size := by omega
            have q1 := bt_at s (1 + k) hks
            rw [HBT.out k 45 (HEN.out hlt)] at q1
            have HX : Hid (s.extract 1 (1 + k) = strOfNums (upto 45 r)) := hide (by rw [str_ext, HR.out, show 1 + k - 1 = k by omega, HTK.out])
            have HH : Hid (ints (s.extract (2 + k) s.size) = r.drop (k + 1)) := hide (by rw [ints_from, ← HR.out, List.drop_drop, show 1 + (k + 1) = 2 + k by omega])
            have hhz := ints_length (s.extract (2 + k) s.size)
            rw [HH.out, List.length_drop] at hhz
            have HD : Hid (s.extract ((1 + k : Nat) + 1 : Int).toNat s.size = s.extract (2 + k) s.size) := hide (by congr 1; omega)
            have hst : ((1 + k : Nat) : Int) + 1 ≤ (s.size : Int) := by omega
            have hmo : ∀ b, langB (r.drop (k + 1)) = b → moN (36 :: r) = if b = true then (upto 45 r, hexN (r.drop (k + 1)), true) else ([], 0, false) := by
              intro b hb
              have hu2 : (upto 45 r).length = k := HU.out
              cases b
              · rw [mo_no r (by omega) (by rw [hu2]; exact hb)]; rfl
              · rw [mo_yes r (by omega) (by rw [hu2]; exact hb), hu2]; rfl
            have HMO := hide hmo
            have e2 : s.extract (1 + k + 1) s.size = s.extract (2 + k) s.size := by congr 1; omega
            have E2 := hide e2
            clear hmo e2
            by_cases hbad : s.size - (2 + k) < 1 ∨ 8 < s.size - (2 + k)
            · have e3 := HMO.out false (by unfold langB; refine decide_eq_false ?_; rw [List.length_drop]; omega)
              have E3 := hide e3
              clear e3
              have hHz : (s.extract (2 + k) s.size).size = s.size - (2 + k) := by omega
              rw [← E2.out] at hHz
              rcases hbad with hb | hb
              · go_wp2_with fail
                go_ret3
                exact ⟨by rw [E3.out]; simp only [Bool.false_eq_true, if_false, moV, str_nil]; rfl, hF⟩
              · go_wp2_with fail
                go_ret3
                exact ⟨by rw [E3.out]; simp only [Bool.false_eq_true, if_false, moV, str_nil]; rfl, hF⟩
            · have hHz : (s.extract (2 + k) s.size).size = s.size - (2 + k) := by omega
              have hz8 : s.size - (2 + k) ≤ 8 := by omega
              have hz1 : 1 ≤ s.size - (2 + k) := by omega
              rw [← E2.out] at hHz HH
              obtain ⟨H, hH⟩ : ∃ H, s.extract (1 + k + 1) s.size = H := ⟨_, rfl⟩
              rw [hH] at hHz HH
              obtain ⟨z, hz⟩ : ∃ z, s.size - (2 + k) = z := ⟨_, rfl⟩
              rw [hz] at hHz hz8 hz1
              have HQ : Hid ((r.drop (k + 1)).length = z) := hide (by rw [List.length_drop]; omega)
              clear hz hbad hhz
              obtain ⟨V, rfl⟩ : ∃ V, V = wr := ⟨_, rfl⟩
              have HHB := hide (fun j (hj : j < H.size) => bt_at H j hj)
              have HHR := hide (fun j (hj : j < H.size) => bt_range H j hj)
              have HHT := hide (fun j (hj : j < H.size) => take_bt H j hj)
              have HHG := hide (fun j (hj : j < H.size) => List.mem_of_getElem? (bt_get H j hj))
              go_wp2_with fail
              go_loopw [7, 8] (fun n j wr => ∃ i : Nat, i ≤ z ∧ j = .int .i64 i ∧ n = .int .i64 (hexN ((ints H).take i)) ∧ Hid (hexAll ((ints H).take i)) ∧ Fr w wr) (fun _ j _ => z - (intOf j).toNat)
              case atStart => exact ⟨0, by omega, rfl, rfl, hide (by intro c hc; simp at hc), hF⟩
              case round =>
                obtain ⟨i, hi, rfl, rfl, HA, hF2⟩ := hrel
                have hlen : ((ints H).take i).length ≤ i := List.length_take_le _ _
                obtain ⟨n0, n1, n2⟩ := hexN_le _ i hlen (by omega) HA.out
                by_cases hiz : i < z
                · have hih : i < H.size := by omega
                  have q2 := HHB.out i hih
                  have r2 := HHR.out i hih
                  have HT := hide (HHT.out i hih)
                  have HM := hide (HHG.out i hih)
                  have n3 := n2 (by omega)
                  generalize bt H i = c at *
                  have HX2 := hide (refHex_any c)
                  have HRg := hide (hexV_range c)
                  by_cases hc : hexV c < 0
                  · have e4 := HMO.out false (by
                      unfold langB
                      refine decide_eq_false ?_
                      rintro ⟨_, _, ha⟩
                      have := ha c (by rw [← HH.out]; exact HM.out)
                      omega)
                    have E4 := hide e4
                    clear e4
                    generalize hexN ((ints H).take i) = n at *
                    generalize hexV c = v at *
                    go_wp2_with fail
                    refine (HX2.out _ r2.1 r2.2).mono ?_
                    rintro e w3 ⟨rfl, rfl⟩
                    go_wp2_with fail
                    go_ret3
                    exact ⟨by rw [E4.out]; simp only [Bool.false_eq_true, if_false, moV, str_nil]; rfl, hF2⟩
                  · have hv15 := HRg.out (by omega)
                    have HN2 : Hid (hexN ((ints H).take (i + 1)) = 16 * hexN ((ints H).take i) + hexV c) := hide (by rw [HT.out, hexN_snoc])
                    have HA2 : Hid (hexAll ((ints H).take (i + 1))) := hide (by rw [HT.out]; exact (hexAll_snoc _ _).2 ⟨HA.out, by omega⟩)
                    generalize hexN ((ints H).take i) = n at *
                    generalize hexV c = v at *
                    go_wp2_with fail
                    refine (HX2.out _ r2.1 r2.2).mono ?_
                    rintro e w3 ⟨rfl, rfl⟩
                    go_wp2_with fail
                    go_roundw
                    case rel => exact ⟨i + 1, by omega, by go_num, by rw [HN2.out], HA2, hF2⟩
                    case measure => simp [intOf]; omega
                · have hiz2 : i = z := by omega
                  subst hiz2
                  have hta : (ints H).take i = r.drop (k + 1) := by rw [HH.out, ← HQ.out, List.take_length]
                  rw [hta] at n0 n1 HA ⊢
                  have e4 := HMO.out true (decide_eq_true ⟨by rw [HQ.out]; omega, by rw [HQ.out]; omega, HA.out⟩)
                  have E4 := hide e4
                  have hw : IntKind.u32.wrap (hexN (r.drop (k + 1))) = hexN (r.drop (k + 1)) := by rw [IntKind.wrap_u32]; omega
                  clear e4 hta
                  generalize hexN (r.drop (k + 1)) = n at *
                  go_wp2_with fail
                  go_ret3
                  exact ⟨by rw [E4.out]; simp only [moV, if_true, ← HX.out]; rfl, hF2⟩
          · have e3 : moN (36 :: r) = (r, 0, true) := mo_bare r (by rw [HU.out]; exact hlt)
            have E3 := hide e3
            have HX : Hid (s.extract 1 s.size = strOfNums r) := hide (by rw [str_of (ints_from s 1), HR.out])
            have hend : ¬ ((1 + k : Nat) : Int) < (s.size : Int) := by omega
            clear e3
            go_wp2_with fail
            go_ret3
            exact ⟨by rw [E3.out]; simp only [moV, ← HX.out]; rfl, hF⟩
    · have e : moN (ints s) = ([], 0, false) := by rw [ht]; exact mo_out _ _ h36
      rw [e]
      have hne : (bt s 0 != 36) = true := by rw [bne_iff_ne]; exact h36
      clear e ht h36
      generalize bt s 0 = b at *
      go_enter Tryd.func16, Tryd.ntmps16
      go_wp2_with fail
      go_ret3
      exact ⟨by simp only [moV, str_nil]; rfl, Fr.refl _⟩
end Go.Proofs.YtiemiekkjaknfaaDoor
