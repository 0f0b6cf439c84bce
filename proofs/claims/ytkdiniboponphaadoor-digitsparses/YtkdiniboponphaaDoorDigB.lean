/- Layer 6's small functions: filled, Pad, Trim, allDigits, small. -/
import Derived.Test.YtkdiniboponphaaDoorDigA
import Derived.Test.YtkdiniboponphaaDoorDigP
import Derived.Lib.Strings
namespace Go.Proofs.YtkdiniboponphaaDoor
set_option linter.unusedVariables false
set_option linter.unusedSimpArgs false
open Go.RowKit

/-- A text, by its bytes. -/
abbrev bs (l : List UInt8) : ByteArray := ⟨l.toArray⟩
theorem bs_eta (s : ByteArray) : s = bs s.data.toList := by
  cases s; simp [bs]
theorem bs_append (l m : List UInt8) : bs l ++ bs m = bs (l ++ m) := by
  apply ByteArray.ext
  simp [bs, ByteArray.data_append]
theorem bs_size (l : List UInt8) : (bs l).size = l.length := by simp [bs, ByteArray.size]
theorem bs_data (l : List UInt8) : (bs l).data.toList = l := by simp [bs]

theorem len_data (s : ByteArray) : s.data.toList.length = s.size := Array.length_toList

theorem trim_any6 (s : ByteArray) (w : World) (hs : s.size ≤ maxLen) :
    Calls Tryd.prog 22 #[.string s] w fun e w' => e = .returned (.string (bs (Lib.trimRightB s.data.toList 48))) ∧ w' = w := by
  have HS := hide hs
  unfold maxLen at hs
  go_enter Tryd.func22, Tryd.ntmps22
  go_wp2_with (go_at_call 47; refine (Tryd.strings_TrimRight_one s 48 (by decide) _ hs).mono ?_; rintro e w' ⟨rfl, rfl⟩)
  go_ret
  exact ⟨rfl, rfl⟩

set_option maxHeartbeats 1000000 in
set_option maxRecDepth 4000 in
theorem filled_any (s : ByteArray) (n : Int) (w : World) (hs : s.size ≤ 1000000000000) (h0 : -9223372036854775808 ≤ n) (hn : n ≤ 1000000000000) :
    Calls Tryd.prog 34 #[.string s, .int .i64 n] w fun e w' => e = .returned (.string (bs (padD n.toNat s.data.toList))) ∧ Fr w w' := by
  have hl : s.data.toList.length = s.size := len_data s
  by_cases h : n ≤ (s.size : Int)
  · have e : bs (padD n.toNat s.data.toList) = s := by
      unfold padD
      rw [hl, show n.toNat - s.size = 0 by omega]
      exact (bs_eta s).symm
    have E := hide e
    clear e hl
    go_enter Tryd.func34, Tryd.ntmps34
    go_wp2_with fail
    go_ret
    exact ⟨by rw [E.out]; rfl, Fr.refl _⟩
  · obtain ⟨c, hc⟩ : ∃ c : Nat, n - (s.size : Int) = (c : Int) := ⟨(n - s.size).toNat, by omega⟩
    have e : bs (Lib.repeatL [48] c) ++ s = bs (padD n.toNat s.data.toList) := by
      conv => lhs; rw [bs_eta s, bs_append, repeat_zeros]
      unfold padD
      rw [hl, show n.toNat - s.size = c by omega]
    have E := hide e
    have hz : (bs (Lib.repeatL [48] c)).size = c := by rw [bs_size, Lib.repeatL_length]; simp
    have HR := hide (Tryd.strings_Repeat (bs [48]) c w (by omega) (by rw [bs_size]; simp; omega))
    rw [bs_data] at HR
    clear e hl
    go_enter Tryd.func34, Tryd.ntmps34
    go_wp2_with fail
    refine HR.out.mono ?_
    rintro e w1 ⟨rfl, f1⟩
    have F1 := hide f1
    clear f1
    go_wp2_with fail
    go_ret
    exact ⟨by rw [← E.out]; rfl, F1.out⟩

theorem pad_any (s : ByteArray) (n : Int) (w : World) (hs : s.size ≤ 1000000000000) (h0 : -9223372036854775808 ≤ n) (hn : n ≤ 9223372036854775807) :
    Calls Tryd.prog 23 #[.string s, .int .i64 n] w fun e w' => e = .returned (.string (if n ≤ 65536 then bs (padD n.toNat s.data.toList) else s)) ∧ Fr w w' := by
  by_cases h : n ≤ 65536
  · rw [if_pos h]
    have H := hide (filled_any s n w hs h0 (by omega))
    go_enter Tryd.func23, Tryd.ntmps23
    go_wp2_with (go_at_call 34; refine H.out.mono ?_; rintro e w' ⟨rfl, f⟩)
    go_ret
    exact ⟨rfl, f⟩
  · rw [if_neg h]
    go_enter Tryd.func23, Tryd.ntmps23
    go_wp2_with fail
    go_ret
    exact ⟨rfl, Fr.refl _⟩

theorem byte_bd (b : UInt8) : 0 ≤ (b.toNat : Int) ∧ (b.toNat : Int) ≤ 255 := by have := b.toNat_lt; omega
theorem data_at (s : ByteArray) (k : Nat) (h : k < s.size) : ∃ b : UInt8, (s[k]'h) = b ∧ s.data.toList[k]? = some b := by
  refine ⟨_, rfl, ?_⟩
  rw [Array.getElem?_toList]
  exact Array.getElem?_eq_getElem h
theorem take_snoc {l : List UInt8} {k : Nat} {b : UInt8} (h : l[k]? = some b) : l.take (k + 1) = l.take k ++ [b] := by
  rw [List.take_add_one, h]
  rfl

set_option maxHeartbeats 1000000 in
set_option maxRecDepth 4000 in
theorem allDigits_any (s : ByteArray) (b : Bool) (w : World) (hs : s.size ≤ maxLen) (hb : b = true ↔ AllD s.data.toList) :
    Calls Tryd.prog 35 #[.string s] w fun e w' => e = .returned (.bool b) ∧ w' = w := by
  have hs' := hs
  unfold maxLen at hs'
  have HB := hide hb
  have hl : s.data.toList.length = s.size := len_data s
  have HL := hide hl
  clear hb hl hs
  go_enter Tryd.func35, Tryd.ntmps35
  go_wp2_with fail
  go_loopw [6] (fun i wr => ∃ k : Nat, k ≤ s.size ∧ i = .int .i64 k ∧ Hid (AllD (s.data.toList.take k)) ∧ wr = w) (fun i _ => s.size - (intOf i).toNat)
  case atStart => exact ⟨0, by omega, rfl, hide allD_nil, rfl⟩
  case round =>
    obtain ⟨k, hk, rfl, hA, rfl⟩ := hrel
    by_cases hlt : k < s.size
    · obtain ⟨c, hc, hd⟩ := data_at s k hlt
      obtain ⟨z, hz⟩ : ∃ z : Int, (c.toNat : Int) = z := ⟨_, rfl⟩
      have hzb := byte_bd c
      rw [hz] at hzb
      have hcz : ((s[k]'hlt).toNat : Int) = z := by rw [hc, hz]
      have HD := hide hd
      have HZ := hide hz
      clear hd hz hc
      by_cases h1 : z < 48 ∨ 57 < z
      · have hno : b = false := by
          cases b with
          | false => rfl
          | true =>
            have := HB.out.1 rfl c (List.mem_of_getElem? HD.out)
            have := HZ.out
            omega
        subst hno
        rcases h1 with h1 | h1
        · go_wp2_with fail
          go_ret
          exact ⟨rfl, rfl⟩
        · have h2 : 48 ≤ z := by omega
          go_wp2_with fail
          go_ret
          exact ⟨rfl, rfl⟩
      · have h2 : 48 ≤ z := by omega
        have h3 : z ≤ 57 := by omega
        go_wp2_with fail
        go_roundw
        case rel =>
          refine ⟨k + 1, by omega, by go_num, hide ?_, trivial⟩
          rw [take_snoc HD.out, allD_append]
          refine ⟨hA.out, fun b hb => ?_⟩
          rw [List.mem_singleton.1 hb]
          have := HZ.out
          omega
        case measure => simp [intOf]; omega
    · have : k = s.size := by omega
      subst this
      have hyes : b = true := HB.out.2 (by have := hA.out; rwa [← HL.out, List.take_length] at this)
      subst hyes
      go_wp2_with fail
      go_ret
      exact ⟨rfl, rfl⟩

set_option maxHeartbeats 1000000 in
set_option maxRecDepth 4000 in
theorem small_any6 (s : ByteArray) (w : World) (hs : s.size ≤ 19) (hA : AllD s.data.toList) :
    Calls Tryd.prog 55 #[.string s] w fun e w' => e = .returned (.int .u64 (valD s.data.toList : Int)) ∧ w' = w := by
  have HA := hide hA
  have HL := hide (len_data s)
  clear hA
  go_enter Tryd.func55, Tryd.ntmps55
  go_wp2_with fail
  go_loopw [3, 7] (fun n i wr => ∃ k v : Nat, k ≤ s.size ∧ n = .int .u64 v ∧ i = .int .i64 k ∧ Hid (valD (s.data.toList.take k) = v) ∧ wr = w) (fun _ i _ => s.size - (intOf i).toNat)
  case atStart => exact ⟨0, 0, by omega, rfl, rfl, hide rfl, rfl⟩
  case round =>
    obtain ⟨k, v, hk, rfl, rfl, hV, rfl⟩ := hrel
    by_cases hlt : k < s.size
    · obtain ⟨c, hc, hd⟩ := data_at s k hlt
      have hcd := HA.out c (List.mem_of_getElem? hd)
      obtain ⟨z, hz⟩ : ∃ z : Nat, c.toNat = 48 + z := ⟨c.toNat - 48, by omega⟩
      have hz9 : z ≤ 9 := by omega
      have hv : v < 1000000000000000000 := by
        have h1 := valD_lt (s.data.toList.take k) (fun b hb => HA.out b (List.mem_of_mem_take hb))
        rw [hV.out, List.length_take, HL.out] at h1
        have h2 : 10 ^ (min k s.size) ≤ 10 ^ 18 := Nat.pow_le_pow_right (by decide) (by omega)
        omega
      have hcz : ((s[k]'hlt).toNat : Int) = 48 + (z : Int) := by rw [hc, hz]; omega
      have HD := hide hd
      have HZ := hide hz
      clear hd hz hc hcd
      go_wp2_with fail
      go_roundw
      case rel =>
        refine ⟨k + 1, v * 10 + z, by omega, ?_, by go_num, hide ?_, trivial⟩
        · go_num
        · rw [take_snoc HD.out, valD_snoc, hV.out, HZ.out]
          omega
      case measure => simp [intOf]; omega
    · have : k = s.size := by omega
      subst this
      have hv := hV.out
      rw [← HL.out, List.take_length] at hv
      have HV := hide hv
      clear hv hV
      go_wp2_with fail
      go_ret
      exact ⟨by rw [HV.out]; rfl, rfl⟩
end Go.Proofs.YtkdiniboponphaaDoor
