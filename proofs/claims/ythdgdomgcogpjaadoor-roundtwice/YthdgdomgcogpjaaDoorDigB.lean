/- Layer 6's small functions: filled, Pad, Trim, allDigits, small. -/
import Derived.Test.YthdgdomgcogpjaaDoorDigA
import Derived.Test.YthdgdomgcogpjaaDoorDigP
import Derived.Lib.Strings
namespace Go.Proofs.YthdgdomgcogpjaaDoor
set_option linter.unusedVariables false
set_option linter.unusedSimpArgs false
open Go.RowKit

/-- A text, by its bytes. -/
abbrev bs (l : List UInt8) : ByteArray := ⟨l.toArray⟩
theorem bs_eta (s : ByteArray) : s = bs s.data.toList := by
  cases s; simp [bs]
theorem bs_append (l m : List UInt8) : bs l ++ bs m = bs (l ++ m) := by
  apply ByteArray.ext
  simp [bs, ByteArray.data_append]
theorem bs_size (l : List UInt8) : (bs l).size = l.length := by simp [bs, ByteArray.size]
theorem bs_data (l : List UInt8) : (bs l).data.toList = l := by simp [bs]

theorem len_data (s : ByteArray) : s.data.toList.length = s.size := Array.length_toList

set_option maxHeartbeats 1000000 in
set_option maxRecDepth 4000 in
theorem filled_any (s : ByteArray) (n : Int) (w : World) (hs : s.size ≤ 1000000000000) (h0 : -9223372036854775808 ≤ n) (hn : n ≤ 1000000000000) :
    Calls Tryd.prog 61 #[.string s, .int .i64 n] w fun e w' => e = .returned (.string (bs (padD n.toNat s.data.toList))) ∧ Fr w w' := by
  have hl : s.data.toList.length = s.size := len_data s
  by_cases h : n ≤ (s.size : Int)
  · have e : bs (padD n.toNat s.data.toList) = s := by
      unfold padD
      rw [hl, show n.toNat - s.size = 0 by omega]
      exact (bs_eta s).symm
    have E := hide e
    clear e hl
    go_enter Tryd.func61, Tryd.ntmps61
    go_wp2_with fail
    go_ret
    exact ⟨by rw [E.out]; rfl, Fr.refl _⟩
  · obtain ⟨c, hc⟩ : ∃ c : Nat, n - (s.size : Int) = (c : Int) := ⟨(n - s.size).toNat, by omega⟩
    have e : bs (Lib.repeatL [48] c) ++ s = bs (padD n.toNat s.data.toList) := by
      conv => lhs; rw [bs_eta s, bs_append, repeat_zeros]
      unfold padD
      rw [hl, show n.toNat - s.size = c by omega]
    have E := hide e
    have hz : (bs (Lib.repeatL [48] c)).size = c := by rw [bs_size, Lib.repeatL_length]; simp
    have HR := hide (Tryd.strings_Repeat (bs [48]) c w (by omega) (by rw [bs_size]; simp; omega))
    rw [bs_data] at HR
    clear e hl
    go_enter Tryd.func61, Tryd.ntmps61
    go_wp2_with fail
    refine HR.out.mono ?_
    rintro e w1 ⟨rfl, f1⟩
    have F1 := hide f1
    clear f1
    go_wp2_with fail
    go_ret
    exact ⟨by rw [← E.out]; rfl, F1.out⟩

theorem pad_any (s : ByteArray) (n : Int) (w : World) (hs : s.size ≤ 1000000000000) (h0 : -9223372036854775808 ≤ n) (hn : n ≤ 9223372036854775807) :
    Calls Tryd.prog 35 #[.string s, .int .i64 n] w fun e w' => e = .returned (.string (if n ≤ 65536 then bs (padD n.toNat s.data.toList) else s)) ∧ Fr w w' := by
  by_cases h : n ≤ 65536
  · rw [if_pos h]
    have H := hide (filled_any s n w hs h0 (by omega))
    go_enter Tryd.func35, Tryd.ntmps35
    go_wp2_with (go_at_call 61; refine H.out.mono ?_; rintro e w' ⟨rfl, f⟩)
    go_ret
    exact ⟨rfl, f⟩
  · rw [if_neg h]
    go_enter Tryd.func35, Tryd.ntmps35
    go_wp2_with fail
    go_ret
    exact ⟨rfl, Fr.refl _⟩

theorem byte_bd (b : UInt8) : 0 ≤ (b.toNat : Int) ∧ (b.toNat : Int) ≤ 255 := by have := b.toNat_lt; omega
theorem data_at (s : ByteArray) (k : Nat) (h : k < s.size) : ∃ b : UInt8, (s[k]'h) = b ∧ s.data.toList[k]? = some b := by
  refine ⟨_, rfl, ?_⟩
  rw [Array.getElem?_toList]
  exact Array.getElem?_eq_getElem h
theorem take_snoc {l : List UInt8} {k : Nat} {b : UInt8} (h : l[k]? = some b) : l.take (k + 1) = l.take k ++ [b] := by
  rw [List.take_add_one, h]
  rfl

end Go.Proofs.YthdgdomgcogpjaaDoor
