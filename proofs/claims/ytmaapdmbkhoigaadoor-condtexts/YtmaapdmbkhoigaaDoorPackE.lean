/- PackE: several texts in one. -/
import Derived.Test.YtmaapdmbkhoigaaDoorPackA
import Derived.Test.YtmaapdmbkhoigaaDoorShelf
import Derived.Lib.Walk
import Derived.Lib.AppendIntMem
import Derived.WalkKit
import Derived.BigCall
import Derived.BigGuard
import Derived.Test.YtmaapdmbkhoigaaDoorDigP
import Derived.Lib.Strings
import Derived.Deep.RegionHeld3
import Derived.Test.YtmaapdmbkhoigaaDoorPackB
/- strconv.FormatUint at base 10. -/
namespace Go.Proofs.YtmaapdmbkhoigaaDoor
set_option linter.unusedVariables false
set_option linter.unusedSimpArgs false
open Go.RowKit Go.Sort

/-- The library's table of powers of ten lies as it was laid. -/
def PT (w : World) : Prop := Lib.TabIs Tryd.prog w "internal/strconv.uint64pow10" .u64 Lib.pow10Tab
theorem PT.fr {w w' : World} (h : PT w) (f : Fr w w') : PT w' := Lib.tabBelow_of_tabIs h w' f

end Go.Proofs.YtmaapdmbkhoigaaDoor

/- Layer 6's small functions: filled, Pad, Trim, allDigits, small. -/
namespace Go.Proofs.YtmaapdmbkhoigaaDoor
set_option linter.unusedVariables false
set_option linter.unusedSimpArgs false
open Go.RowKit

/-- A text, by its bytes. -/
abbrev bs (l : List UInt8) : ByteArray := ⟨l.toArray⟩
theorem bs_eta (s : ByteArray) : s = bs s.data.toList := by
  cases s; simp [bs]
theorem bs_append (l m : List UInt8) : bs l ++ bs m = bs (l ++ m) := by
  apply ByteArray.ext
  simp [bs, ByteArray.data_append]
theorem bs_size (l : List UInt8) : (bs l).size = l.length := by simp [bs, ByteArray.size]
theorem bs_data (l : List UInt8) : (bs l).data.toList = l := by simp [bs]

theorem len_data (s : ByteArray) : s.data.toList.length = s.size := Array.length_toList

theorem trim_any6 (s : ByteArray) (w : World) (hs : s.size ≤ maxLen) :
    Calls Tryd.prog 30 #[.string s] w fun e w' => e = .returned (.string (bs (Lib.trimRightB s.data.toList 48))) ∧ w' = w := by
  have HS := hide hs
  unfold maxLen at hs
  go_enter Tryd.func30, Tryd.ntmps30
  go_wp2_with (go_at_call 47; refine (Tryd.strings_TrimRight_one s 48 (by decide) _ hs).mono ?_; rintro e w' ⟨rfl, rfl⟩)
  go_ret
  exact ⟨rfl, rfl⟩

theorem byte_bd (b : UInt8) : 0 ≤ (b.toNat : Int) ∧ (b.toNat : Int) ≤ 255 := by have := b.toNat_lt; omega
theorem data_at (s : ByteArray) (k : Nat) (h : k < s.size) : ∃ b : UInt8, (s[k]'h) = b ∧ s.data.toList[k]? = some b := by
  refine ⟨_, rfl, ?_⟩
  rw [Array.getElem?_toList]
  exact Array.getElem?_eq_getElem h
theorem take_snoc {l : List UInt8} {k : Nat} {b : UInt8} (h : l[k]? = some b) : l.take (k + 1) = l.take k ++ [b] := by
  rw [List.take_add_one, h]
  rfl

set_option maxHeartbeats 1000000 in
set_option maxRecDepth 4000 in
theorem allDigits_any (s : ByteArray) (b : Bool) (w : World) (hs : s.size ≤ maxLen) (hb : b = true ↔ AllD s.data.toList) :
    Calls Tryd.prog 59 #[.string s] w fun e w' => e = .returned (.bool b) ∧ w' = w := by
  have hs' := hs
  unfold maxLen at hs'
  have HB := hide hb
  have hl : s.data.toList.length = s.size := len_data s
  have HL := hide hl
  clear hb hl hs
  go_enter Tryd.func59, Tryd.ntmps59
  go_wp2_with fail
  go_loopw [6] (fun i wr => ∃ k : Nat, k ≤ s.size ∧ i = .int .i64 k ∧ Hid (AllD (s.data.toList.take k)) ∧ wr = w) (fun i _ => s.size - (intOf i).toNat)
  case atStart => exact ⟨0, by omega, rfl, hide allD_nil, rfl⟩
  case round =>
    obtain ⟨k, hk, rfl, hA, rfl⟩ := hrel
    by_cases hlt : k < s.size
    · obtain ⟨c, hc, hd⟩ := data_at s k hlt
      obtain ⟨z, hz⟩ : ∃ z : Int, (c.toNat : Int) = z := ⟨_, rfl⟩
      have hzb := byte_bd c
      rw [hz] at hzb
      have hcz : ((s[k]'hlt).toNat : Int) = z := by rw [hc, hz]
      have HD := hide hd
      have HZ := hide hz
      clear hd hz hc
      by_cases h1 : z < 48 ∨ 57 < z
      · have hno : b = false := by
          cases b with
          | false => rfl
          | true =>
            have := HB.out.1 rfl c (List.mem_of_getElem? HD.out)
            have := HZ.out
            omega
        subst hno
        rcases h1 with h1 | h1
        · go_wp2_with fail
          go_ret
          exact ⟨rfl, rfl⟩
        · have h2 : 48 ≤ z := by omega
          go_wp2_with fail
          go_ret
          exact ⟨rfl, rfl⟩
      · have h2 : 48 ≤ z := by omega
        have h3 : z ≤ 57 := by omega
        go_wp2_with fail
        go_roundw
        case rel =>
          refine ⟨k + 1, by omega, by go_num, hide ?_, trivial⟩
          rw [take_snoc HD.out, allD_append]
          refine ⟨hA.out, fun b hb => ?_⟩
          rw [List.mem_singleton.1 hb]
          have := HZ.out
          omega
        case measure => simp [intOf]; omega
    · have : k = s.size := by omega
      subst this
      have hyes : b = true := HB.out.2 (by have := hA.out; rwa [← HL.out, List.take_length] at this)
      subst hyes
      go_wp2_with fail
      go_ret
      exact ⟨rfl, rfl⟩

set_option maxHeartbeats 1000000 in
set_option maxRecDepth 4000 in
theorem small_any6 (s : ByteArray) (w : World) (hs : s.size ≤ 19) (hA : AllD s.data.toList) :
    Calls Tryd.prog 82 #[.string s] w fun e w' => e = .returned (.int .u64 (valD s.data.toList : Int)) ∧ w' = w := by
  have HA := hide hA
  have HL := hide (len_data s)
  clear hA
  go_enter Tryd.func82, Tryd.ntmps82
  go_wp2_with fail
  go_loopw [3, 7] (fun n i wr => ∃ k v : Nat, k ≤ s.size ∧ n = .int .u64 v ∧ i = .int .i64 k ∧ Hid (valD (s.data.toList.take k) = v) ∧ wr = w) (fun _ i _ => s.size - (intOf i).toNat)
  case atStart => exact ⟨0, 0, by omega, rfl, rfl, hide rfl, rfl⟩
  case round =>
    obtain ⟨k, v, hk, rfl, rfl, hV, rfl⟩ := hrel
    by_cases hlt : k < s.size
    · obtain ⟨c, hc, hd⟩ := data_at s k hlt
      have hcd := HA.out c (List.mem_of_getElem? hd)
      obtain ⟨z, hz⟩ : ∃ z : Nat, c.toNat = 48 + z := ⟨c.toNat - 48, by omega⟩
      have hz9 : z ≤ 9 := by omega
      have hv : v < 1000000000000000000 := by
        have h1 := valD_lt (s.data.toList.take k) (fun b hb => HA.out b (List.mem_of_mem_take hb))
        rw [hV.out, List.length_take, HL.out] at h1
        have h2 : 10 ^ (min k s.size) ≤ 10 ^ 18 := Nat.pow_le_pow_right (by decide) (by omega)
        omega
      have hcz : ((s[k]'hlt).toNat : Int) = 48 + (z : Int) := by rw [hc, hz]; omega
      have HD := hide hd
      have HZ := hide hz
      clear hd hz hc hcd
      go_wp2_with fail
      go_roundw
      case rel =>
        refine ⟨k + 1, v * 10 + z, by omega, ?_, by go_num, hide ?_, trivial⟩
        · go_num
        · rw [take_snoc HD.out, valD_snoc, hV.out, HZ.out]
          omega
      case measure => simp [intOf]; omega
    · have : k = s.size := by omega
      subst this
      have hv := hV.out
      rw [← HL.out, List.take_length] at hv
      have HV := hide hv
      clear hv hV
      go_wp2_with fail
      go_ret
      exact ⟨by rw [HV.out]; rfl, rfl⟩
end Go.Proofs.YtmaapdmbkhoigaaDoor

/- A drawn region whose operations, end and state are named: so that what is shown of a state that several orders lead to is shown once. -/
namespace Go.Proofs.YtmaapdmbkhoigaaDoor
set_option linter.unusedVariables false
open Go.RowKit

/-- A Nat's limbs don't lie in block b. -/
def Off (a : Option Addr) (n b : Nat) : Prop := n = 0 ∨ ∀ g off s, a = some ⟨g, off, s⟩ → g ≠ b
theorem IsNat.off {w : World} {x c : Nat} {a : Option Addr} (h : IsNat w (.agg #[.slice a (nlen 4294967296 x) c]) x) {b : Nat} (hf : Off a (nlen 4294967296 x) b) (u : Value) : IsNat (w.setCell ⟨b, 0, none⟩ u) (.agg #[.slice a (nlen 4294967296 x) c]) x := by
  rcases hf with h0 | hf
  · have e : x = 0 := nlen_nil b32 h0
    subst e
    obtain ⟨a', c', g1, g2, g3, g4⟩ := h
    exact ⟨a', c', g1, g2, g3, .inl (nlen_zero _)⟩
  · exact h.put ⟨b, 0, none⟩ u (fun g off s e => hf g off s e)
/-- A variable that was made: its cell is there, new since W, and may be written. -/
def Var (W w : World) (b : Nat) : Prop := w.cell? ⟨b, 0, none⟩ = some (.slice none 0 0) ∧ w.frozen? ⟨b, 0, none⟩ = false ∧ W.heap.size ≤ b
theorem var_fr_free {w w' : World} {a : Addr} {v : Value} (k : Fr w w') (h : w.cell? a = some v) (hf : w.frozen? a = false) : w'.frozen? a = false := by
  have hb := k.block a.block (cell_lt h)
  unfold World.frozen? at *
  rw [hb]; exact hf
theorem Var.fr {W w w' : World} {b : Nat} (h : Var W w b) (f : Fr w w') : Var W w' b := ⟨fr_cell f h.1, var_fr_free f h.1 h.2.1, h.2.2⟩
theorem Var.lt {W w : World} {b : Nat} (h : Var W w b) : b < w.heap.size := cell_lt h.1
theorem Var.new {W w : World} {t : TypeId} (h : W.heap.size ≤ w.heap.size) : Var W (w.alloc (.cells #[.slice none 0 0] t)) w.heap.size := ⟨by simp [go_sem], by simp [go_sem], h⟩
theorem Var.put {W w : World} {b : Nat} (h : Var W w b) (b' : Nat) (u : Value) (hne : b' ≠ b) : Var W (w.setCell ⟨b', 0, none⟩ u) b :=
  ⟨(World.cell?_setCell_other _ _ _ _ (fun e => hne (by injection e))).trans h.1, by simpa using h.2.1, h.2.2⟩
end Go.Proofs.YtmaapdmbkhoigaaDoor

/- Layer 6: number, Parse. -/
namespace Go.Proofs.YtmaapdmbkhoigaaDoor
set_option linter.unusedVariables false
set_option linter.unusedSimpArgs false
open Go.RowKit

attribute [local go_sem] World.cell?_alloc_some
theorem pow_ten_lt {x n : Nat} (h : x < 10 ^ n) : nlen 4294967296 x ≤ n := nlen_le b32 (Nat.lt_of_lt_of_le h (Nat.pow_le_pow_left (by decide) n))
theorem nl_valD {l : List UInt8} (h : AllD l) : nlen 4294967296 (valD l) ≤ l.length := pow_ten_lt (valD_lt l h)
theorem cut_data (s : ByteArray) (c : Nat) (hc : c ≤ s.size) : (s.extract 0 c).data.toList = s.data.toList.take c ∧ (s.extract c s.size).data.toList = s.data.toList.drop c ∧ (s.extract 0 c).size = c ∧ (s.extract c s.size).size = s.size - c := by
  have hl := len_data s
  have h1 : (s.extract 0 c).data.toList = s.data.toList.take c := by rw [Go.Lib.extract_data]; simp
  have h2 : (s.extract c s.size).data.toList = s.data.toList.drop c := by
    rw [Go.Lib.extract_data]
    exact List.take_of_length_le (by rw [List.length_drop, hl]; omega)
  refine ⟨h1, h2, ?_, ?_⟩
  · rw [← len_data, h1, List.length_take, hl]; omega
  · rw [← len_data, h2, List.length_drop, hl]

set_option maxHeartbeats 4000000 in
set_option maxRecDepth 4000 in
theorem number_step (m : Nat) (ih : ∀ (s : ByteArray) (w : World), s.size < m → s.size ≤ 100000 → AllD s.data.toList →
    Calls Tryd.prog 60 #[.string s] w fun e w' => ∃ a c, e = .returned (.agg #[.slice a (nlen 4294967296 (valD s.data.toList)) c]) ∧ Res w w' a c (valD s.data.toList))
    (s : ByteArray) (w : World) (hm : s.size ≤ m) (h5 : s.size ≤ 100000) (hA : AllD s.data.toList) :
    Calls Tryd.prog 60 #[.string s] w fun e w' => ∃ a c, e = .returned (.agg #[.slice a (nlen 4294967296 (valD s.data.toList)) c]) ∧ Res w w' a c (valD s.data.toList) := by
  obtain ⟨t, ht⟩ : ∃ t, bs (Lib.trimLeftB s.data.toList 48) = t := ⟨_, rfl⟩
  obtain ⟨X, hX⟩ : ∃ X, valD s.data.toList = X := ⟨_, rfl⟩
  have htd : t.data.toList = Lib.trimLeftB s.data.toList 48 := by rw [← ht, bs_data]
  have htA : AllD t.data.toList := by rw [htd]; exact trimLeft_all hA
  have htX : valD t.data.toList = X := by rw [htd, trimLeft_val, hX]
  have hts : t.size ≤ s.size := by rw [← ht, bs_size, ← len_data s]; exact trimLeft_len _
  have HTL : Hid (∀ w, Calls Tryd.prog 29 #[.string s, .string ⟨#[48]⟩] w fun e w' => e = .returned (.string t) ∧ w' = w) := by
    refine hide ?_
    intro w
    have := Tryd.strings_TrimLeft_one s 48 (by decide) w
    rw [show (⟨(Lib.trimLeftB s.data.toList 48).toArray⟩ : ByteArray) = t from ht] at this
    exact this
  rw [hX]
  have HA := hide htA
  have HX := hide htX
  have IH := hide ih
  clear htd htA htX ht hX ih hA
  by_cases hsm : t.size ≤ 19
  · have HS := hide (fun w => small_any6 t w hsm HA.out)
    rw [HX.out] at HS
    have hXb : X < 18446744073709551616 := by
      have h1 := valD_lt _ HA.out
      rw [HX.out, len_data] at h1
      have h2 : 10 ^ t.size ≤ 10 ^ 19 := Nat.pow_le_pow_right (by decide) hsm
      omega
    have HO := hide (fun w => of_any X w hXb)
    clear hXb
    go_enter Tryd.func60, Tryd.ntmps60
    go_wp2_with fail
    refine (HTL.out _).mono ?_
    rintro e w1 ⟨rfl, rfl⟩
    go_wp2_with fail
    refine (HS.out _).mono ?_
    rintro e w1 ⟨rfl, rfl⟩
    go_wp2_with fail
    refine (HO.out _).mono ?_
    rintro e w1 ⟨a, c, rfl, h1, l1, f1⟩
    have H1 := hide h1
    have L1 := hide l1
    have z4 := var_free f1
    have c4 := var_cell f1
    have F := hide ((Fr.alloc _ _).trans f1)
    have s1 := cell_lt c4
    simp only [] at s1
    clear f1 h1 l1
    go_wp2_with fail
    (try simp only [Exit.inBlock, Exit.then])
    refine bodyPost_ret (results_nat rfl _ _ w.heap.size (.slice a (nlen 4294967296 X) c) rfl ?_) rfl ?_
    · go_simp
    · refine ⟨_, _, rfl, ?_, fun g off s e => ?_, Below.setCell F.out (by simp) _⟩
      · exact IsNat.put H1.out _ _ (fun g off s e => by have := L1.out g off s e; simp at this; simp; omega)
      · have := L1.out g off s e; simp at this; omega
  · obtain ⟨lo, hlo⟩ : ∃ lo : Nat, t.size / 2 = lo := ⟨_, rfl⟩
    obtain ⟨cu, hcu⟩ : ∃ cu : Nat, t.size - lo = cu := ⟨_, rfl⟩
    have e1 : ((t.size : Int) / 2) = (lo : Int) := by omega
    have e2 : ((t.size : Int) - (lo : Int)) = (cu : Int) := by omega
    have hcs : cu ≤ t.size := by omega
    have hc0 : cu < t.size := by omega
    have hl0 : 10 ≤ lo := by omega
    obtain ⟨d1, d2, d3, d4⟩ := cut_data t cu hcs
    obtain ⟨p, hp⟩ : ∃ p, t.extract 0 cu = p := ⟨_, rfl⟩
    obtain ⟨q, hq⟩ : ∃ q, t.extract cu t.size = q := ⟨_, rfl⟩
    have hpA : AllD p.data.toList := by rw [← hp, d1]; exact fun b hb => HA.out b (List.mem_of_mem_take hb)
    have hqA : AllD q.data.toList := by rw [← hq, d2]; exact fun b hb => HA.out b (List.mem_of_mem_drop hb)
    rw [hp] at d1 d3
    rw [hq] at d2 d4
    obtain ⟨Y, hY⟩ : ∃ Y, valD p.data.toList = Y := ⟨_, rfl⟩
    obtain ⟨Z, hZ⟩ : ∃ Z, valD q.data.toList = Z := ⟨_, rfl⟩
    obtain ⟨T, hT⟩ : ∃ T, 10 ^ lo = T := ⟨_, rfl⟩
    have hXX : Y * T + Z = X := by
      rw [← hY, ← hZ, ← hT, ← HX.out, d1, d2]
      have h1 := valD_append (t.data.toList.take cu) (t.data.toList.drop cu)
      rw [List.take_append_drop, List.length_drop, len_data, show t.size - cu = lo by omega] at h1
      exact h1.symm
    have nY : nlen 4294967296 Y ≤ 100000 := by have := nl_valD hpA; rw [hY, len_data] at this; omega
    have nZ : nlen 4294967296 Z ≤ 100000 := by have := nl_valD hqA; rw [hZ, len_data] at this; omega
    have nT : nlen 4294967296 T ≤ 100001 := by
      have := nlen_pow (x := 10) (n := 1) (by rw [nlten]; omega) lo
      rw [hT] at this; omega
    have nYT : nlen 4294967296 (Y * T) ≤ 1000000 := Nat.le_trans (nlen_mul b32 nY nT) (by omega)
    have HP : Hid (∀ w, Calls Tryd.prog 60 #[.string p] w fun e w' => ∃ a c, e = .returned (.agg #[.slice a (nlen 4294967296 Y) c]) ∧ Res w w' a c Y) := by
      refine hide ?_
      intro w
      have := IH.out p w (by omega) (by omega) hpA
      rwa [hY] at this
    have HQ : Hid (∀ w, Calls Tryd.prog 60 #[.string q] w fun e w' => ∃ a c, e = .returned (.agg #[.slice a (nlen 4294967296 Z) c]) ∧ Res w w' a c Z) := by
      refine hide ?_
      intro w
      have := IH.out q w (by omega) (by omega) hqA
      rwa [hZ] at this
    have HT : Hid (∀ w, Calls Tryd.prog 55 #[.int .i64 lo] w fun e w' => ∃ a c, e = .returned (.agg #[.slice a (nlen 4294967296 T) c]) ∧ IsNat w' (.agg #[.slice a (nlen 4294967296 T) c]) T ∧ Fr w w') :=
      hide (fun w => tenc_any lo T w (by omega) (by omega) (by rw [Int.toNat_natCast]; exact hT))
    have HXX := hide hXX
    have HNY := hide nY
    have HNZ := hide nZ
    have HNT := hide nT
    have HNYT := hide nYT
    clear hXX nY nZ nT nYT hT hY hZ hpA hqA d1 d2 IH
    go_enter Tryd.func60, Tryd.ntmps60
    go_wp2_with fail
    refine (HTL.out _).mono ?_
    rintro e w1 ⟨rfl, rfl⟩
    go_wp2_with fail
    obtain ⟨W, hW⟩ : ∃ W, W = w.alloc (Obj.cells #[Value.slice none 0 0] 78) := ⟨_, rfl⟩
    have fW : Fr w W := by rw [hW]; exact Fr.alloc _ _
    have c4 : W.cell? ⟨w.heap.size, 0, none⟩ = some (.slice none 0 0) := by rw [hW]; simp [go_sem]
    have z4 : W.frozen? ⟨w.heap.size, 0, none⟩ = false := by rw [hW]; simp [go_sem]
    have hWs : W.heap.size = w.heap.size + 1 := by rw [hW]; simp
    rw [← hW]
    clear hW
    have fz := hide (Fr.drew W)
    refine wp_region_held_drew (S := (fun w' => Hid (Fr w w'))) (by kernel_rfl) ?_ (fun hHeld => ?_)
    · exact hide (fW.trans (Fr.drew _))
    refine wpAnyH_take (i := 0) (v := ?_) rfl (by kernel_rfl) (by kernel_rfl) (by kernel_rfl) (fun _ _ _ h => h) (Or.inl ⟨by rfl, ?_⟩) (by assumption) ?_
    rotate_left
    · (intro w hSw; (try dsimp only at hSw); go_simp; try with_reducible rfl)
    (try simp only [Act.put, List.getElem_toArray, List.getElem_cons_zero, List.getElem_cons_succ, List.setIfInBounds_toArray, List.set_cons_zero, List.set_cons_succ])
    refine wpAnyH_take (i := 1) (v := ?_) rfl (by kernel_rfl) (by kernel_rfl) (by kernel_rfl) (fun _ _ _ h => h) (Or.inl ⟨by rfl, ?_⟩) (by assumption) ?_
    rotate_left
    · (intro w hSw; (try dsimp only at hSw); go_simp; try with_reducible rfl)
    (try simp only [Act.put, List.getElem_toArray, List.getElem_cons_zero, List.getElem_cons_succ, List.setIfInBounds_toArray, List.set_cons_zero, List.set_cons_succ])
    refine wpAnyH_take (i := 2) (v := ?_) rfl (by kernel_rfl) (by kernel_rfl) (by kernel_rfl) (fun _ _ _ h => h) (Or.inl ⟨by rfl, ?_⟩) (by assumption) ?_
    rotate_left
    · (intro w hSw; (try dsimp only at hSw); go_simp; try with_reducible rfl)
    (try simp only [Act.put, List.getElem_toArray, List.getElem_cons_zero, List.getElem_cons_succ, List.setIfInBounds_toArray, List.set_cons_zero, List.set_cons_succ])
    refine wpAnyH_take (i := 4) (v := ?_) rfl (by kernel_rfl) (by kernel_rfl) (by kernel_rfl) (fun _ _ _ h => h) (Or.inl ⟨by rfl, ?_⟩) (by assumption) ?_
    rotate_left
    · (intro w hSw; (try dsimp only at hSw); go_simp; try with_reducible rfl)
    (try simp only [Act.put, List.getElem_toArray, List.getElem_cons_zero, List.getElem_cons_succ, List.setIfInBounds_toArray, List.set_cons_zero, List.set_cons_succ])
    refine wpAnyH_take (i := 7) (v := ?_) rfl (by kernel_rfl) (by kernel_rfl) (by kernel_rfl) (fun _ _ _ h => h) (Or.inl ⟨by rfl, ?_⟩) (by assumption) ?_
    rotate_left
    · (intro w hSw; (try dsimp only at hSw); go_simp; try with_reducible rfl)
    (try simp only [Act.put, List.getElem_toArray, List.getElem_cons_zero, List.getElem_cons_succ, List.setIfInBounds_toArray, List.set_cons_zero, List.set_cons_succ])
    refine wpAnyH_take (i := 8) (v := ?_) rfl (by kernel_rfl) (by kernel_rfl) (by kernel_rfl) (fun _ _ _ h => h) (Or.inl ⟨by rfl, ?_⟩) (by assumption) ?_
    rotate_left
    · (intro w hSw; (try dsimp only at hSw); go_simp; try with_reducible rfl)
    (try simp only [Act.put, List.getElem_toArray, List.getElem_cons_zero, List.getElem_cons_succ, List.setIfInBounds_toArray, List.set_cons_zero, List.set_cons_succ])
    refine wpAnyH_take (i := 9) (v := ?_) rfl (by kernel_rfl) (by kernel_rfl) (by kernel_rfl) (fun _ _ _ h => h) (Or.inl ⟨by rfl, ?_⟩) (by assumption) ?_
    rotate_left
    · (intro w hSw; (try dsimp only at hSw); go_simp; try with_reducible rfl)
    (try simp only [Act.put, List.getElem_toArray, List.getElem_cons_zero, List.getElem_cons_succ, List.setIfInBounds_toArray, List.set_cons_zero, List.set_cons_succ])
    refine wpAnyH_ready (rs := [3]) (by kernel_rfl) (by simp) ?_
    refine AllReadyH.cons rfl (fun K hK => ?_) AllReadyH.nil
    go_simp
    refine (HP.out _).mono ?_
    rintro e wn ⟨a5, c5, rfl, i5, _, fy⟩
    have hsz := fz.out.size
    have fz := hide (fz.out.trans fy)
    have I5 := hide i5; clear i5 fy
    clear hsz
    (try go_wp2_with fail)
    refine hK.out _ _ ?_ (fun hHeld => ?_)
    · (try dsimp only)
      exact hide (fW.trans fz.out)
    clear hK K
    (try simp only [Act.put, List.getElem_toArray, List.getElem_cons_zero, List.getElem_cons_succ, List.setIfInBounds_toArray, List.set_cons_zero, List.set_cons_succ])
    refine wpAnyH_ready (rs := [5]) (by kernel_rfl) (by simp) ?_
    refine AllReadyH.cons rfl (fun K hK => ?_) AllReadyH.nil
    go_simp
    refine (HT.out _).mono ?_
    rintro e wn ⟨a6, c6, rfl, i6, fy⟩
    have hsz := fz.out.size
    have fz := hide (fz.out.trans fy)
    have I5 := hide (IsNat.fr I5.out fy); have I6 := hide i6; clear i6 fy
    clear hsz
    (try go_wp2_with fail)
    refine hK.out _ _ ?_ (fun hHeld => ?_)
    · (try dsimp only)
      exact hide (fW.trans fz.out)
    clear hK K
    (try simp only [Act.put, List.getElem_toArray, List.getElem_cons_zero, List.getElem_cons_succ, List.setIfInBounds_toArray, List.set_cons_zero, List.set_cons_succ])
    refine wpAnyH_ready (rs := [6]) (by kernel_rfl) (by simp) ?_
    refine AllReadyH.cons rfl (fun K hK => ?_) AllReadyH.nil
    go_simp
    refine (mul_any _ _ Y T _ I5.out I6.out (Nat.le_trans HNY.out (by omega)) (Nat.le_trans HNT.out (by omega))).mono ?_
    rintro e wn ⟨a7, c7, rfl, i7, _, fy⟩
    have hsz := fz.out.size
    have fz := hide (fz.out.trans fy)
    have I7 := hide i7; clear i7 fy I5 I6
    clear hsz
    (try go_wp2_with fail)
    refine hK.out _ _ ?_ (fun hHeld => ?_)
    · (try dsimp only)
      exact hide (fW.trans fz.out)
    clear hK K
    (try simp only [Act.put, List.getElem_toArray, List.getElem_cons_zero, List.getElem_cons_succ, List.setIfInBounds_toArray, List.set_cons_zero, List.set_cons_succ])
    refine wpAnyH_ready (rs := [10]) (by kernel_rfl) (by simp) ?_
    refine AllReadyH.cons rfl (fun K hK => ?_) AllReadyH.nil
    go_simp
    refine (HQ.out _).mono ?_
    rintro e wn ⟨a8, c8, rfl, i8, _, fy⟩
    have hsz := fz.out.size
    have fz := hide (fz.out.trans fy)
    have I7 := hide (IsNat.fr I7.out fy); have I8 := hide i8; clear i8 fy
    clear hsz
    (try go_wp2_with fail)
    refine hK.out _ _ ?_ (fun hHeld => ?_)
    · (try dsimp only)
      exact hide (fW.trans fz.out)
    clear hK K
    (try simp only [Act.put, List.getElem_toArray, List.getElem_cons_zero, List.getElem_cons_succ, List.setIfInBounds_toArray, List.set_cons_zero, List.set_cons_succ])
    refine wpAnyH_ready (rs := [11]) (by kernel_rfl) (by simp) ?_
    refine AllReadyH.cons rfl (fun K hK => ?_) AllReadyH.nil
    go_simp
    refine (add_any _ _ (Y * T) Z _ I7.out I8.out (Nat.le_trans HNYT.out (by omega)) (Nat.le_trans HNZ.out (by omega))).mono ?_
    rintro e wn ⟨a9, c9, rfl, i9, l9, fy⟩
    have hsz := fz.out.size
    have fz := hide (fz.out.trans fy)
    rw [HXX.out] at i9 ⊢
    have I9 := hide i9
    have L9 : Hid (∀ g off s, a9 = some ⟨g, off, s⟩ → w.heap.size < g) := fun g off s e => by have := l9 g off s e; omega
    have z4 := fr_free fz.out c4 z4
    have c4 := fr_cell fz.out c4
    clear i9 fy I7 I8 hsz l9
    (try go_wp2_with fail)
    refine hK.out _ _ ?_ (fun hHeld => ?_)
    · (try dsimp only)
      exact hide (fW.trans fz.out)
    clear hK K
    (try simp only [Act.put, List.getElem_toArray, List.getElem_cons_zero, List.getElem_cons_succ, List.setIfInBounds_toArray, List.set_cons_zero, List.set_cons_succ])
    refine wpAnyH_ready (rs := [12]) (by kernel_rfl) (by simp) ?_
    refine AllReadyH.cons rfl (fun K hK => ?_) AllReadyH.nil
    go_simp
    (try go_wp2_with fail)
    refine hK.out _ _ ?_ (fun hHeld => ?_)
    · (try dsimp only)
      exact hide (Below.setCell (fW.trans fz.out) (by simp) _)
    clear hK K
    (try simp only [Act.put, List.getElem_toArray, List.getElem_cons_zero, List.getElem_cons_succ, List.setIfInBounds_toArray, List.set_cons_zero, List.set_cons_succ])
    refine wpAnyH_done (by kernel_rfl) ?_ _
    go_wp2_with fail
    (try simp only [Exit.inBlock, Exit.then])
    refine bodyPost_ret (results_nat rfl _ _ w.heap.size (.slice a9 (nlen 4294967296 X) c9) rfl ?_) rfl ?_
    · exact World.cell?_setCell_same _ _ _ c4
    · refine ⟨_, _, rfl, ?_, fun g off s e => ?_, ?_⟩
      · exact IsNat.put I9.out _ _ (fun g off s e => by have := L9.out g off s e; simp; omega)
      · have := L9.out g off s e; omega
      · exact Below.setCell (fW.trans fz.out) (by simp) _

theorem number_any (s : ByteArray) (w : World) (h5 : s.size ≤ 100000) (hA : AllD s.data.toList) :
    Calls Tryd.prog 60 #[.string s] w fun e w' => ∃ a c, e = .returned (.agg #[.slice a (nlen 4294967296 (valD s.data.toList)) c]) ∧ Res w w' a c (valD s.data.toList) := by
  have h : ∀ m : Nat, ∀ (s : ByteArray) (w : World), s.size < m → s.size ≤ 100000 → AllD s.data.toList →
    Calls Tryd.prog 60 #[.string s] w fun e w' => ∃ a c, e = .returned (.agg #[.slice a (nlen 4294967296 (valD s.data.toList)) c]) ∧ Res w w' a c (valD s.data.toList) := by
    intro m
    induction m with
    | zero => intro s w h; omega
    | succ m ih => intro s w h h5 hA; exact number_step m ih s w (by omega) h5 hA
  exact h _ s w (Nat.lt_succ_self _) h5 hA
end Go.Proofs.YtmaapdmbkhoigaaDoor

/- Layer 6: Parse, Text, Count. -/
namespace Go.Proofs.YtmaapdmbkhoigaaDoor
set_option linter.unusedVariables false
set_option linter.unusedSimpArgs false
open Go.RowKit

attribute [local go_sem] World.cell?_alloc_some
theorem empty_of (s : ByteArray) : s.toList.isEmpty = s.data.toList.isEmpty := by rw [Go.Lib.toList_data]

set_option maxHeartbeats 1000000 in
set_option maxRecDepth 4000 in
theorem parse_yes (s : ByteArray) (X : Nat) (w : World) (h5 : s.size ≤ 100000) (h0 : s.data.toList ≠ []) (hA : AllD s.data.toList) (hX : valD s.data.toList = X) :
    Calls Tryd.prog 42 #[.string s] w fun e w' => ∃ a c, e = .returned (.tuple #[.agg #[.slice a (nlen 4294967296 X) c], .bool true]) ∧ Res w w' a c X := by
  have he : s.toList.isEmpty = false := by rw [empty_of]; simpa using h0
  have HD := hide (fun w => allDigits_any s true w (by unfold maxLen; omega) ⟨fun _ => hA, fun _ => rfl⟩)
  have HN := hide (fun w => number_any s w h5 hA)
  rw [hX] at HN
  clear hA hX h0
  go_enter Tryd.func42, Tryd.ntmps42
  go_wp2_with fail
  refine (HD.out _).mono ?_
  rintro e w1 ⟨rfl, rfl⟩
  go_wp2_with fail
  refine (HN.out _).mono ?_
  rintro e w1 ⟨a, c, rfl, h1, l1, f1⟩
  have H1 := hide h1
  have L1 := hide l1
  have z4 := var_free f1
  have c4 := var_cell f1
  have F := hide ((Fr.alloc _ _).trans f1)
  have s1 := cell_lt c4
  simp only [] at s1
  clear f1 h1 l1
  go_wp2_with fail
  (try simp only [Exit.inBlock, Exit.then])
  refine bodyPost_ret (results_nat_ok rfl _ _ w.heap.size (.slice a (nlen 4294967296 X) c) rfl ?_) rfl ?_
  · go_simp
  · refine ⟨_, _, rfl, ?_, fun g off s e => ?_, Below.setCell F.out (by simp) _⟩
    · exact IsNat.put H1.out _ _ (fun g off s e => by have := L1.out g off s e; simp at this; simp; omega)
    · have := L1.out g off s e; simp at this; omega

set_option maxHeartbeats 1000000 in
set_option maxRecDepth 4000 in
theorem parse_no (s : ByteArray) (w : World) (h5 : s.size ≤ maxLen) (h0 : s.data.toList = [] ∨ ¬ AllD s.data.toList) :
    Calls Tryd.prog 42 #[.string s] w fun e w' => e = .returned (.tuple #[.agg #[.slice none 0 0], .bool false]) ∧ Fr w w' := by
  by_cases hn : s.data.toList = []
  · have he : s.toList.isEmpty = true := by rw [empty_of, hn]; rfl
    clear h0 hn
    go_enter Tryd.func42, Tryd.ntmps42
    go_wp2_with fail
    (try simp only [Exit.inBlock, Exit.then])
    refine bodyPost_ret (results_nat_ok rfl _ _ w.heap.size (.slice none 0 0) rfl ?_) rfl ?_
    · go_simp
    · exact ⟨rfl, Fr.alloc _ _⟩
  · have hA : ¬ AllD s.data.toList := h0.resolve_left hn
    have he : s.toList.isEmpty = false := by rw [empty_of]; simpa using hn
    have HD := hide (fun w => allDigits_any s false w h5 ⟨fun h => (by cases h), fun h => absurd h hA⟩)
    clear h0 hn hA
    go_enter Tryd.func42, Tryd.ntmps42
    go_wp2_with fail
    refine (HD.out _).mono ?_
    rintro e w1 ⟨rfl, rfl⟩
    go_wp2_with fail
    (try simp only [Exit.inBlock, Exit.then])
    refine bodyPost_ret (results_nat_ok rfl _ _ w.heap.size (.slice none 0 0) rfl ?_) rfl ?_
    · go_simp
    · exact ⟨rfl, Fr.alloc _ _⟩

theorem ndig_le {k : Nat} : ∀ {x : Nat}, x < 10 ^ k → Lib.nDigits x ≤ k + 1 := by
  induction k with
  | zero => intro x h; rw [Nat.pow_zero] at h; rw [Lib.nDigits_small (by omega)]; omega
  | succ k ih =>
    intro x h
    by_cases hx : x < 10
    · rw [Lib.nDigits_small hx]; omega
    · rw [Lib.nDigits_big hx]
      have := ih (x := x / 10) (Nat.div_lt_of_lt_mul (by rw [Nat.mul_comm, ← Nat.pow_succ]; exact h))
      omega
end Go.Proofs.YtmaapdmbkhoigaaDoor
