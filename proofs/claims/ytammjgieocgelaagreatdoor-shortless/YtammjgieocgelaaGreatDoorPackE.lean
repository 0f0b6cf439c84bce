/- PackE: several texts in one. -/
import Derived.Test.YtammjgieocgelaaGreatDoorPackA
import Derived.Test.YtammjgieocgelaaGreatDoorShelf
import Derived.Lib.Walk
import Derived.Lib.AppendIntMem
import Derived.WalkKit
import Derived.BigCall
import Derived.BigGuard
import Derived.Lib.ItoaNum
import Derived.Lib.TrimByte
import Derived.Lib.Repeat
import Derived.Lib.Strings
import Derived.Deep.RegionHeld3
import Derived.Test.YtammjgieocgelaaGreatDoorPackB
/- strconv.FormatUint at base 10. -/
namespace Go.Proofs.YtammjgieocgelaaGreatDoor
set_option linter.unusedVariables false
set_option linter.unusedSimpArgs false
open Go.RowKit Go.Sort

/-- The library's table of powers of ten lies as it was laid. -/
def PT (w : World) : Prop := Lib.TabIs Tryz.prog w "internal/strconv.uint64pow10" .u64 Lib.pow10Tab
theorem PT.fr {w w' : World} (h : PT w) (f : Fr w w') : PT w' := Lib.tabBelow_of_tabIs h w' f

set_option maxHeartbeats 6400000 in
set_option maxRecDepth 100000 in
theorem ifmt_any (u : Nat) (w : World) (hu64 : u < 18446744073709551616) (htab : PT w) :
    Calls Tryz.prog 121 #[.int .u64 u, .int .i64 10] w fun e w' => e = .returned (.string ⟨(Lib.decDigits u).toArray⟩) ∧ Fr w w' := by
  by_cases hs : u < 100
  · have iu : (u : Int) ≤ 99 := by omega
    go_enter Tryz.func121, Tryz.ntmps121
    go_wp2_with (go_at_call 128; refine (Tryz.internal_strconv_small u hs _).mono ?_; rintro e w' ⟨rfl, rfl⟩)
    go_ret
    exact ⟨rfl, Fr.refl _⟩
  · have hu1 : 1 ≤ u := by omega
    have hnd20 : Lib.nDigits u ≤ 20 := by have := Lib.numDigits_eq u hu1 hu64; split at this <;> omega
    have hal : Tryz.prog.arrayLen 160 = 24 := by simp [Program.arrayLen, Tryz.underlying160]
    have hsl : ∀ W, (Instr.sliceAt 160 (.pointer (some ⟨w.heap.size, 0, none⟩)) none (some (.int .i64 (Lib.nDigits u : Int))) none).run Tryz.prog W = .ok (.slice (some ⟨w.heap.size, 0, none⟩) (Lib.nDigits u) 24) W := fun W => by
      rw [run_sliceAt_array_h W 160 ⟨w.heap.size, 0, none⟩ (by simp [Program.arrayLen, Program.elem, Tryz.underlying160]) .i64 (Lib.nDigits u : Int) (by omega) (by rw [hal]; omega)]
      go_simp
    have hH0 := Lib.holds_zero0 w 160 (Lib.nDigits u) (by omega)
    have hfmt := Tryz.internal_strconv_formatBase10 w.heap.size 0 24 u (Array.replicate (Lib.nDigits u) 0) (w.alloc (.cells Lib.zeros24 160)) hH0 (by rw [Array.size_replicate]; exact Lib.lt_pow_nDigits u) hu64 (by rw [Array.size_replicate]; omega)
    rw [Array.size_replicate] at hfmt
    have HH0 := Lib.hid hH0
    have iu : (100 : Int) ≤ (u : Int) := by omega
    clear hH0 hal
    have HT := hide htab
    clear htab
    go_enter Tryz.func121, Tryz.ntmps121
    go_wp2_with (first
      | (go_at_call 129; refine (Tryz.internal_strconv_numDigits u hu1 hu64 _ (Lib.tabIs_alloc HT.out _)).mono ?_; rintro e w' ⟨rfl, rfl⟩))
    go_at_call 130
    refine hfmt.mono ?_
    rintro e w' ⟨rfl, k, v', dk, rfl, hF⟩
    have hcv : (convert 39 9 (.slice (some ⟨w.heap.size, 0, none⟩) (Lib.nDigits u) 24)).run Tryz.prog ((putRow (fun (b : UInt8) => Value.int .u8 (b.toNat : Int)) (w.alloc (.cells Lib.zeros24 160)) w.heap.size 0 dk).drewN k) = .ok (.string ⟨(Lib.decDigits u).toArray⟩) ((putRow (fun (b : UInt8) => Value.int .u8 (b.toNat : Int)) (w.alloc (.cells Lib.zeros24 160)) w.heap.size 0 dk).drewN k) := by
      have h := run_convert_bytes_back (P := Tryz.prog) ((putRow (fun (b : UInt8) => Value.int .u8 (b.toNat : Int)) (w.alloc (.cells Lib.zeros24 160)) w.heap.size 0 dk).drewN k) 39 9 5 ⟨w.heap.size, 0, none⟩ 24 (Lib.decDigits u) Tryz.underlying39 Tryz.underlying5 Tryz.underlying9 (fun j hj => by
        rw [Lib.row_is_numeral hF j hj, Lib.add_plain, World.cell?_drewN]
        exact cell?_putRow (fun (b : UInt8) => Value.int .u8 (b.toNat : Int)) _ w.heap.size 0 _ dk HH0.out (by rw [hF.size, Array.size_replicate]) j (by rw [hF.size]; rw [Lib.decDigits_length] at hj; exact hj))
      rw [Lib.decDigits_length] at h
      exact h
    obtain ⟨os, eo⟩ := Lib.fin_at w (.cells Lib.zeros24 160) dk k 0
    have FF : Hid (Fr w ((putRow (fun (b : UInt8) => Value.int .u8 (b.toNat : Int)) (w.alloc (.cells Lib.zeros24 160)) w.heap.size 0 dk).drewN k)) := by
      refine hide ?_
      rw [eo]
      exact Lib.below_grow w.heap.size w (Nat.le_refl _) k os
    clear eo HH0 hfmt HT hF
    generalize (putRow (fun (b : UInt8) => Value.int .u8 (b.toNat : Int)) (w.alloc (.cells Lib.zeros24 160)) w.heap.size 0 dk).drewN k = W2 at hcv FF ⊢
    go_wp2
    go_ret
    exact ⟨rfl, FF.out⟩

theorem fmt_any (u : Nat) (w : World) (hu64 : u < 18446744073709551616) (htab : PT w) :
    Calls Tryz.prog 100 #[.int .u64 u, .int .i64 10] w fun e w' => e = .returned (.string ⟨(Lib.decDigits u).toArray⟩) ∧ Fr w w' := by
  have H := hide (ifmt_any u w hu64 htab)
  clear htab
  go_enter Tryz.func100, Tryz.ntmps100
  go_wp2_with (go_at_call 121; refine H.out.mono ?_; rintro e w' ⟨rfl, f⟩)
  go_ret
  exact ⟨rfl, f⟩
end Go.Proofs.YtammjgieocgelaaGreatDoor

/- Decimals: plain maths. -/
namespace Go.Proofs.YtammjgieocgelaaGreatDoor
open Go.Lib

/-- With noughts ahead, up to n. -/
def padD (n : Nat) (l : List UInt8) : List UInt8 := List.replicate (n - l.length) 48 ++ l
/-- The number of digits. -/
def valD (l : List UInt8) : Nat := l.foldl (fun n b => n * 10 + (b.toNat - 48)) 0
/-- All are digits. -/
def AllD (l : List UInt8) : Prop := ∀ b ∈ l, 48 ≤ b.toNat ∧ b.toNat ≤ 57

theorem decDigits_ten {u : Nat} (h : ¬ u < 10) : decDigits u = decDigits (u / 10) ++ [UInt8.ofNat (48 + u % 10)] := by rw [decDigits, dif_neg h]
theorem padD_snoc {n : Nat} {l : List UInt8} (b : UInt8) : padD (n + 1) (l ++ [b]) = padD n l ++ [b] := by
  unfold padD
  rw [List.length_append, List.length_singleton, Nat.add_sub_add_right, List.append_assoc]

theorem dec_cut : ∀ (k x : Nat), x / 10 ^ (k + 1) ≠ 0 → decDigits x = decDigits (x / 10 ^ (k + 1)) ++ padD (k + 1) (decDigits (x % 10 ^ (k + 1))) := by
  intro k
  induction k with
  | zero =>
    intro x h
    rw [Nat.zero_add, Nat.pow_one] at *
    have hx : ¬ x < 10 := fun q => h (Nat.div_eq_of_lt q)
    rw [decDigits_ten hx, decDigits_one (Nat.mod_lt x (by decide : 0 < 10))]
    simp [padD]
  | succ k ih =>
    intro x h
    have e : x / 10 ^ (k + 1 + 1) = x / 10 / 10 ^ (k + 1) := by rw [Nat.div_div_eq_div_mul, Nat.pow_succ 10 (k + 1), Nat.mul_comm 10]
    have hx : ¬ x < 10 := fun q => h (by rw [e, Nat.div_eq_of_lt q, Nat.zero_div])
    have hr : x % 10 ^ (k + 1 + 1) = 10 * (x / 10 % 10 ^ (k + 1)) + x % 10 := by
      rw [Nat.pow_succ 10 (k + 1), Nat.mul_comm (10 ^ (k + 1)) 10, Nat.mod_mul]
      omega
    rw [decDigits_ten hx, ih (x / 10) (by rw [← e]; exact h), ← e, List.append_assoc]
    congr 1
    rw [hr]
    generalize x / 10 % 10 ^ (k + 1) = q
    generalize hd : x % 10 = d
    have hd : d < 10 := by omega
    by_cases hq : q = 0
    · subst hq
      rw [Nat.mul_zero, Nat.zero_add, decDigits_one hd, decDigits_one (by decide : 0 < 10)]
      have := padD_snoc (n := k + 1) (l := []) (UInt8.ofNat (48 + d))
      rw [List.nil_append] at this
      rw [this]
      congr 1
      unfold padD
      simp only [List.length_nil, List.length_cons]
      rw [show k + 1 - (0 + 1) = k by omega, show k + 1 - 0 = k + 1 by omega, List.append_nil, List.replicate_succ']
      rfl
    · rw [decDigits_ten (u := 10 * q + d) (by omega), show (10 * q + d) / 10 = q by omega, show (10 * q + d) % 10 = d by omega, padD_snoc]

theorem snocRec {p : List UInt8 → Prop} (h0 : p []) (h1 : ∀ l b, p l → p (l ++ [b])) (l : List UInt8) : p l := by
  have : ∀ m : List UInt8, p m.reverse := by
    intro m
    induction m with
    | nil => exact h0
    | cons b m ih => rw [List.reverse_cons]; exact h1 _ _ ih
  have := this l.reverse
  rwa [List.reverse_reverse] at this
theorem valD_nil : valD [] = 0 := rfl
theorem valD_snoc (l : List UInt8) (b : UInt8) : valD (l ++ [b]) = valD l * 10 + (b.toNat - 48) := by unfold valD; rw [List.foldl_append]; rfl
theorem valD_append (l m : List UInt8) : valD (l ++ m) = valD l * 10 ^ m.length + valD m := by
  refine snocRec (p := fun m => valD (l ++ m) = valD l * 10 ^ m.length + valD m) (by simp [valD_nil]) ?_ m
  intro m b ih
  rw [← List.append_assoc, valD_snoc, ih, valD_snoc, List.length_append, List.length_singleton, Nat.pow_succ, Nat.add_mul, Nat.mul_assoc]
  omega
theorem allD_append {l m : List UInt8} : AllD (l ++ m) ↔ AllD l ∧ AllD m := by
  unfold AllD
  constructor
  · intro h
    exact ⟨fun b hb => h b (List.mem_append.2 (.inl hb)), fun b hb => h b (List.mem_append.2 (.inr hb))⟩
  · intro h b hb
    rcases List.mem_append.1 hb with q | q
    · exact h.1 b q
    · exact h.2 b q
theorem allD_nil : AllD [] := fun b hb => by cases hb
theorem valD_lt : ∀ l, AllD l → valD l < 10 ^ l.length := by
  refine snocRec (by simp [valD_nil]) ?_
  intro l b ih h
  rw [allD_append] at h
  have h1 := ih h.1
  have h2 := h.2 b (by simp)
  rw [valD_snoc, List.length_append, List.length_singleton, Nat.pow_succ]
  omega
theorem valD_zeros (n : Nat) : valD (List.replicate n 48) = 0 := by
  induction n with
  | zero => rfl
  | succ n ih => rw [List.replicate_succ', valD_snoc, ih]; rfl
theorem valD_pad (n : Nat) (l : List UInt8) : valD (List.replicate n 48 ++ l) = valD l := by rw [valD_append, valD_zeros, Nat.zero_mul, Nat.zero_add]
theorem allD_zeros (n : Nat) : AllD (List.replicate n 48) := fun b hb => by
  rw [(List.mem_replicate.1 hb).2]; decide
theorem trimLeft_form (l : List UInt8) : ∃ n, l = List.replicate n 48 ++ trimLeftB l 48 := by
  unfold trimLeftB
  induction l with
  | nil => exact ⟨0, rfl⟩
  | cons b l ih =>
    by_cases hb : b = 48
    · subst hb
      obtain ⟨n, hn⟩ := ih
      refine ⟨n + 1, ?_⟩
      rw [List.dropWhile_cons_of_pos (by decide), List.replicate_succ, List.cons_append, ← hn]
    · refine ⟨0, ?_⟩
      rw [List.dropWhile_cons_of_neg (by simpa using hb)]
      rfl
theorem trimLeft_val (l : List UInt8) : valD (trimLeftB l 48) = valD l := by
  obtain ⟨n, hn⟩ := trimLeft_form l
  conv => rhs; rw [hn]
  rw [valD_pad]
theorem trimLeft_all {l : List UInt8} (h : AllD l) : AllD (trimLeftB l 48) := by
  obtain ⟨n, hn⟩ := trimLeft_form l
  rw [hn, allD_append] at h
  exact h.2
theorem trimLeft_len (l : List UInt8) : (trimLeftB l 48).length ≤ l.length := by
  obtain ⟨n, hn⟩ := trimLeft_form l
  have := congrArg List.length hn
  rw [List.length_append] at this
  omega
theorem byte_of {d : Nat} (h : d < 10) : (UInt8.ofNat (48 + d)).toNat = 48 + d := by
  rw [UInt8.toNat_ofNat']
  omega
theorem dec_all (x : Nat) : AllD (decDigits x) := by
  induction x using Nat.strongRecOn with
  | ind x ih =>
    by_cases hx : x < 10
    · rw [decDigits_one hx]
      intro b hb
      rw [List.mem_singleton.1 hb, byte_of hx]
      omega
    · rw [decDigits_ten hx, allD_append]
      refine ⟨ih _ (by omega), ?_⟩
      intro b hb
      rw [List.mem_singleton.1 hb, byte_of (by omega)]
      omega
theorem dec_val (x : Nat) : valD (decDigits x) = x := by
  induction x using Nat.strongRecOn with
  | ind x ih =>
    by_cases hx : x < 10
    · rw [decDigits_one hx]
      show 0 * 10 + ((UInt8.ofNat (48 + x)).toNat - 48) = x
      rw [byte_of hx]
      omega
    · rw [decDigits_ten hx, valD_snoc, ih _ (by omega), byte_of (by omega)]
      omega
theorem dec_ne (x : Nat) : decDigits x ≠ [] := by
  intro h
  have := congrArg List.length h
  rw [decDigits_length] at this
  have := nDigits_pos x
  simp at *
  omega
theorem head_app {l m : List UInt8} (h : l ≠ []) : (l ++ m).head? = l.head? := by
  cases l with
  | nil => exact absurd rfl h
  | cons a l => rfl
/-- The first digit is a nought just of 0. -/
theorem dec_head (x : Nat) : (decDigits x).head? = some 48 ↔ x = 0 := by
  induction x using Nat.strongRecOn with
  | ind x ih =>
    by_cases hx : x < 10
    · rw [decDigits_one hx]
      simp only [List.head?_cons, Option.some.injEq]
      constructor
      · intro h
        have := congrArg UInt8.toNat h
        rw [byte_of hx] at this
        have e : (48 : UInt8).toNat = 48 := rfl
        omega
      · rintro rfl; rfl
    · have hne := dec_ne (x / 10)
      rw [decDigits_ten hx, head_app hne, ih _ (by omega)]
      omega
/-- Digits that begin with another one than a nought are the decimals of their number. -/
theorem dec_of_val : ∀ l, AllD l → l ≠ [] → (l.head? ≠ some 48) → decDigits (valD l) = l := by
  refine snocRec (fun _ h => absurd rfl h) ?_
  intro l b ih h _ hh
  rw [allD_append] at h
  have hb := h.2 b (by simp)
  have eb : UInt8.ofNat (48 + (b.toNat - 48)) = b := by
    rw [show 48 + (b.toNat - 48) = b.toNat by omega]
    exact UInt8.ofNat_toNat
  by_cases hl : l = []
  · subst hl
    rw [valD_snoc, valD_nil, Nat.zero_mul, Nat.zero_add, decDigits_one (by omega), eb]
    rfl
  · rw [head_app hl] at hh
    have e := ih h.1 hl hh
    have hv : valD l ≠ 0 := fun q => by
      rw [q] at e
      rw [← e] at hh
      exact hh (by rw [dec_head])
    rw [valD_snoc, decDigits_ten (by omega), show (valD l * 10 + (b.toNat - 48)) / 10 = valD l by omega, show (valD l * 10 + (b.toNat - 48)) % 10 = b.toNat - 48 by omega, e, eb]
theorem repeat_zeros (n : Nat) : repeatL [48] n = List.replicate n 48 := by
  induction n with
  | zero => rfl
  | succ n ih => rw [List.replicate_succ, ← ih]; rfl
theorem trimRight_snoc (l : List UInt8) : trimRightB (l ++ [48]) 48 = trimRightB l 48 := by
  unfold trimRightB
  rw [List.reverse_append]
  rfl
theorem trimRight_twice (l : List UInt8) : trimRightB (trimRightB l 48) 48 = trimRightB l 48 := by
  unfold trimRightB
  rw [List.reverse_reverse]
  congr 1
  generalize l.reverse = m
  induction m with
  | nil => rfl
  | cons b m ih =>
    by_cases hb : b = 48
    · subst hb
      rw [List.dropWhile_cons_of_pos (by decide)]
      exact ih
    · rw [List.dropWhile_cons_of_neg (by simpa using hb), List.dropWhile_cons_of_neg (by simpa using hb)]
theorem trimRight_le (l : List UInt8) : (trimRightB l 48).length ≤ l.length := by
  unfold trimRightB
  rw [List.length_reverse]
  have : ∀ m : List UInt8, (m.dropWhile (· == 48)).length ≤ m.length := by
    intro m
    induction m with
    | nil => simp
    | cons b m ih =>
      by_cases hb : b = 48
      · subst hb
        rw [List.dropWhile_cons_of_pos (by decide), List.length_cons]
        omega
      · rw [List.dropWhile_cons_of_neg (by simpa using hb)]
        exact Nat.le_refl _
  have := this l.reverse
  rwa [List.length_reverse] at this
end Go.Proofs.YtammjgieocgelaaGreatDoor

/- Layer 6's small functions: filled, Pad, Trim, allDigits, small. -/
namespace Go.Proofs.YtammjgieocgelaaGreatDoor
set_option linter.unusedVariables false
set_option linter.unusedSimpArgs false
open Go.RowKit

/-- A text, by its bytes. -/
abbrev bs (l : List UInt8) : ByteArray := ⟨l.toArray⟩
theorem bs_eta (s : ByteArray) : s = bs s.data.toList := by
  cases s; simp [bs]
theorem bs_append (l m : List UInt8) : bs l ++ bs m = bs (l ++ m) := by
  apply ByteArray.ext
  simp [bs, ByteArray.data_append]
theorem bs_size (l : List UInt8) : (bs l).size = l.length := by simp [bs, ByteArray.size]
theorem bs_data (l : List UInt8) : (bs l).data.toList = l := by simp [bs]

theorem len_data (s : ByteArray) : s.data.toList.length = s.size := Array.length_toList

theorem trim_any6 (s : ByteArray) (w : World) (hs : s.size ≤ maxLen) :
    Calls Tryz.prog 26 #[.string s] w fun e w' => e = .returned (.string (bs (Lib.trimRightB s.data.toList 48))) ∧ w' = w := by
  have HS := hide hs
  unfold maxLen at hs
  go_enter Tryz.func26, Tryz.ntmps26
  go_wp2_with (go_at_call 46; refine (Tryz.strings_TrimRight_one s 48 (by decide) _ hs).mono ?_; rintro e w' ⟨rfl, rfl⟩)
  go_ret
  exact ⟨rfl, rfl⟩

set_option maxHeartbeats 1000000 in
set_option maxRecDepth 4000 in
theorem filled_any (s : ByteArray) (n : Int) (w : World) (hs : s.size ≤ 1000000000000) (h0 : -9223372036854775808 ≤ n) (hn : n ≤ 1000000000000) :
    Calls Tryz.prog 101 #[.string s, .int .i64 n] w fun e w' => e = .returned (.string (bs (padD n.toNat s.data.toList))) ∧ Fr w w' := by
  have hl : s.data.toList.length = s.size := len_data s
  by_cases h : n ≤ (s.size : Int)
  · have e : bs (padD n.toNat s.data.toList) = s := by
      unfold padD
      rw [hl, show n.toNat - s.size = 0 by omega]
      exact (bs_eta s).symm
    have E := hide e
    clear e hl
    go_enter Tryz.func101, Tryz.ntmps101
    go_wp2_with fail
    go_ret
    exact ⟨by rw [E.out]; rfl, Fr.refl _⟩
  · obtain ⟨c, hc⟩ : ∃ c : Nat, n - (s.size : Int) = (c : Int) := ⟨(n - s.size).toNat, by omega⟩
    have e : bs (Lib.repeatL [48] c) ++ s = bs (padD n.toNat s.data.toList) := by
      conv => lhs; rw [bs_eta s, bs_append, repeat_zeros]
      unfold padD
      rw [hl, show n.toNat - s.size = c by omega]
    have E := hide e
    have hz : (bs (Lib.repeatL [48] c)).size = c := by rw [bs_size, Lib.repeatL_length]; simp
    have HR := hide (Tryz.strings_Repeat (bs [48]) c w (by omega) (by rw [bs_size]; simp; omega))
    rw [bs_data] at HR
    clear e hl
    go_enter Tryz.func101, Tryz.ntmps101
    go_wp2_with fail
    refine HR.out.mono ?_
    rintro e w1 ⟨rfl, f1⟩
    have F1 := hide f1
    clear f1
    go_wp2_with fail
    go_ret
    exact ⟨by rw [← E.out]; rfl, F1.out⟩

theorem byte_bd (b : UInt8) : 0 ≤ (b.toNat : Int) ∧ (b.toNat : Int) ≤ 255 := by have := b.toNat_lt; omega
theorem data_at (s : ByteArray) (k : Nat) (h : k < s.size) : ∃ b : UInt8, (s[k]'h) = b ∧ s.data.toList[k]? = some b := by
  refine ⟨_, rfl, ?_⟩
  rw [Array.getElem?_toList]
  exact Array.getElem?_eq_getElem h
theorem take_snoc {l : List UInt8} {k : Nat} {b : UInt8} (h : l[k]? = some b) : l.take (k + 1) = l.take k ++ [b] := by
  rw [List.take_add_one, h]
  rfl

set_option maxHeartbeats 1000000 in
set_option maxRecDepth 4000 in
theorem allDigits_any (s : ByteArray) (b : Bool) (w : World) (hs : s.size ≤ maxLen) (hb : b = true ↔ AllD s.data.toList) :
    Calls Tryz.prog 51 #[.string s] w fun e w' => e = .returned (.bool b) ∧ w' = w := by
  have hs' := hs
  unfold maxLen at hs'
  have HB := hide hb
  have hl : s.data.toList.length = s.size := len_data s
  have HL := hide hl
  clear hb hl hs
  go_enter Tryz.func51, Tryz.ntmps51
  go_wp2_with fail
  go_loopw [6] (fun i wr => ∃ k : Nat, k ≤ s.size ∧ i = .int .i64 k ∧ Hid (AllD (s.data.toList.take k)) ∧ wr = w) (fun i _ => s.size - (intOf i).toNat)
  case atStart => exact ⟨0, by omega, rfl, hide allD_nil, rfl⟩
  case round =>
    obtain ⟨k, hk, rfl, hA, rfl⟩ := hrel
    by_cases hlt : k < s.size
    · obtain ⟨c, hc, hd⟩ := data_at s k hlt
      obtain ⟨z, hz⟩ : ∃ z : Int, (c.toNat : Int) = z := ⟨_, rfl⟩
      have hzb := byte_bd c
      rw [hz] at hzb
      have hcz : ((s[k]'hlt).toNat : Int) = z := by rw [hc, hz]
      have HD := hide hd
      have HZ := hide hz
      clear hd hz hc
      by_cases h1 : z < 48 ∨ 57 < z
      · have hno : b = false := by
          cases b with
          | false => rfl
          | true =>
            have := HB.out.1 rfl c (List.mem_of_getElem? HD.out)
            have := HZ.out
            omega
        subst hno
        rcases h1 with h1 | h1
        · go_wp2_with fail
          go_ret
          exact ⟨rfl, rfl⟩
        · have h2 : 48 ≤ z := by omega
          go_wp2_with fail
          go_ret
          exact ⟨rfl, rfl⟩
      · have h2 : 48 ≤ z := by omega
        have h3 : z ≤ 57 := by omega
        go_wp2_with fail
        go_roundw
        case rel =>
          refine ⟨k + 1, by omega, by go_num, hide ?_, trivial⟩
          rw [take_snoc HD.out, allD_append]
          refine ⟨hA.out, fun b hb => ?_⟩
          rw [List.mem_singleton.1 hb]
          have := HZ.out
          omega
        case measure => simp [intOf]; omega
    · have : k = s.size := by omega
      subst this
      have hyes : b = true := HB.out.2 (by have := hA.out; rwa [← HL.out, List.take_length] at this)
      subst hyes
      go_wp2_with fail
      go_ret
      exact ⟨rfl, rfl⟩

set_option maxHeartbeats 1000000 in
set_option maxRecDepth 4000 in
theorem small_any6 (s : ByteArray) (w : World) (hs : s.size ≤ 19) (hA : AllD s.data.toList) :
    Calls Tryz.prog 84 #[.string s] w fun e w' => e = .returned (.int .u64 (valD s.data.toList : Int)) ∧ w' = w := by
  have HA := hide hA
  have HL := hide (len_data s)
  clear hA
  go_enter Tryz.func84, Tryz.ntmps84
  go_wp2_with fail
  go_loopw [3, 7] (fun n i wr => ∃ k v : Nat, k ≤ s.size ∧ n = .int .u64 v ∧ i = .int .i64 k ∧ Hid (valD (s.data.toList.take k) = v) ∧ wr = w) (fun _ i _ => s.size - (intOf i).toNat)
  case atStart => exact ⟨0, 0, by omega, rfl, rfl, hide rfl, rfl⟩
  case round =>
    obtain ⟨k, v, hk, rfl, rfl, hV, rfl⟩ := hrel
    by_cases hlt : k < s.size
    · obtain ⟨c, hc, hd⟩ := data_at s k hlt
      have hcd := HA.out c (List.mem_of_getElem? hd)
      obtain ⟨z, hz⟩ : ∃ z : Nat, c.toNat = 48 + z := ⟨c.toNat - 48, by omega⟩
      have hz9 : z ≤ 9 := by omega
      have hv : v < 1000000000000000000 := by
        have h1 := valD_lt (s.data.toList.take k) (fun b hb => HA.out b (List.mem_of_mem_take hb))
        rw [hV.out, List.length_take, HL.out] at h1
        have h2 : 10 ^ (min k s.size) ≤ 10 ^ 18 := Nat.pow_le_pow_right (by decide) (by omega)
        omega
      have hcz : ((s[k]'hlt).toNat : Int) = 48 + (z : Int) := by rw [hc, hz]; omega
      have HD := hide hd
      have HZ := hide hz
      clear hd hz hc hcd
      go_wp2_with fail
      go_roundw
      case rel =>
        refine ⟨k + 1, v * 10 + z, by omega, ?_, by go_num, hide ?_, trivial⟩
        · go_num
        · rw [take_snoc HD.out, valD_snoc, hV.out, HZ.out]
          omega
      case measure => simp [intOf]; omega
    · have : k = s.size := by omega
      subst this
      have hv := hV.out
      rw [← HL.out, List.take_length] at hv
      have HV := hide hv
      clear hv hV
      go_wp2_with fail
      go_ret
      exact ⟨by rw [HV.out]; rfl, rfl⟩
end Go.Proofs.YtammjgieocgelaaGreatDoor

/- A drawn region whose operations, end and state are named: so that what is shown of a state that several orders lead to is shown once. -/
namespace Go.Proofs.YtammjgieocgelaaGreatDoor
set_option linter.unusedVariables false
open Go.RowKit

theorem wp_region_named {P : Program} {S : World → Prop} {id : Nat} {ops0 : Array Oper} {Q0 : Exit → Act → World → Prop} {a0 : Act} {w : World} (hm : P.follows .mixedOrders = true) (hp : ∀ c a d v w, Q0 (.panic c) (Act.put a d v) w → Q0 (.panic c) a w) (hS : S w.drew)
    (h : ∀ ops, Hid (ops = ops0) → ∀ Q, Hid (Q = Q0) → ∀ a, Hid (a = a0) → Hid (∀ c a d v w, Q (.panic c) (Act.put a d v) w → Q (.panic c) a w) → S w.drew → wpAnyH P .any ops Q S ops0.size (Array.replicate ops0.size false) a w.drew) : (Code.region id ops0 true).wp P Q0 a0 w :=
  wp_region_held_drew hm hS (h _ (hide rfl) _ (hide rfl) _ (hide rfl) hp)

/-- A Nat's limbs don't lie in block b. -/
def Off (a : Option Addr) (n b : Nat) : Prop := n = 0 ∨ ∀ g off s, a = some ⟨g, off, s⟩ → g ≠ b
theorem off_new {w : World} {a : Option Addr} {c x : Nat} (h : IsNat w (.agg #[.slice a (nlen 4294967296 x) c]) x) : Off a (nlen 4294967296 x) w.heap.size := by
  obtain ⟨a', c', h1, h2, h3, h4⟩ := h
  simp only [Value.agg.injEq] at h1
  have h1' : a = a' := by injection h1 with h1; injection h1 with h1; injection h1
  subst h1'
  rcases h4 with h0 | ⟨g, off, rfl, hg, _⟩
  · exact .inl h0
  · refine .inr (fun g' off' s e => ?_)
    simp only [Option.some.injEq, Addr.mk.injEq] at e
    omega
theorem off_old {w : World} {a : Option Addr} {n b : Nat} (h : ∀ g off s, a = some ⟨g, off, s⟩ → w.heap.size ≤ g) (hb : b < w.heap.size) : Off a n b := .inr (fun g off s e => by have := h g off s e; omega)
theorem IsNat.off {w : World} {x c : Nat} {a : Option Addr} (h : IsNat w (.agg #[.slice a (nlen 4294967296 x) c]) x) {b : Nat} (hf : Off a (nlen 4294967296 x) b) (u : Value) : IsNat (w.setCell ⟨b, 0, none⟩ u) (.agg #[.slice a (nlen 4294967296 x) c]) x := by
  rcases hf with h0 | hf
  · have e : x = 0 := nlen_nil b32 h0
    subst e
    obtain ⟨a', c', g1, g2, g3, g4⟩ := h
    exact ⟨a', c', g1, g2, g3, .inl (nlen_zero _)⟩
  · exact h.put ⟨b, 0, none⟩ u (fun g off s e => hf g off s e)
/-- A variable that was made: its cell is there, new since W, and may be written. -/
def Var (W w : World) (b : Nat) : Prop := w.cell? ⟨b, 0, none⟩ = some (.slice none 0 0) ∧ w.frozen? ⟨b, 0, none⟩ = false ∧ W.heap.size ≤ b
theorem var_fr_free {w w' : World} {a : Addr} {v : Value} (k : Fr w w') (h : w.cell? a = some v) (hf : w.frozen? a = false) : w'.frozen? a = false := by
  have hb := k.block a.block (cell_lt h)
  unfold World.frozen? at *
  rw [hb]; exact hf
theorem Var.fr {W w w' : World} {b : Nat} (h : Var W w b) (f : Fr w w') : Var W w' b := ⟨fr_cell f h.1, var_fr_free f h.1 h.2.1, h.2.2⟩
theorem Var.lt {W w : World} {b : Nat} (h : Var W w b) : b < w.heap.size := cell_lt h.1
theorem Var.new {W w : World} {t : TypeId} (h : W.heap.size ≤ w.heap.size) : Var W (w.alloc (.cells #[.slice none 0 0] t)) w.heap.size := ⟨by simp [go_sem], by simp [go_sem], h⟩
theorem Var.put {W w : World} {b : Nat} (h : Var W w b) (b' : Nat) (u : Value) (hne : b' ≠ b) : Var W (w.setCell ⟨b', 0, none⟩ u) b :=
  ⟨(World.cell?_setCell_other _ _ _ _ (fun e => hne (by injection e))).trans h.1, by simpa using h.2.1, h.2.2⟩
end Go.Proofs.YtammjgieocgelaaGreatDoor

/- Layer 6: number, Parse. -/
namespace Go.Proofs.YtammjgieocgelaaGreatDoor
set_option linter.unusedVariables false
set_option linter.unusedSimpArgs false
open Go.RowKit

attribute [local go_sem] World.cell?_alloc_some
theorem pow_ten_lt {x n : Nat} (h : x < 10 ^ n) : nlen 4294967296 x ≤ n := nlen_le b32 (Nat.lt_of_lt_of_le h (Nat.pow_le_pow_left (by decide) n))
theorem nl_valD {l : List UInt8} (h : AllD l) : nlen 4294967296 (valD l) ≤ l.length := pow_ten_lt (valD_lt l h)
theorem cut_data (s : ByteArray) (c : Nat) (hc : c ≤ s.size) : (s.extract 0 c).data.toList = s.data.toList.take c ∧ (s.extract c s.size).data.toList = s.data.toList.drop c ∧ (s.extract 0 c).size = c ∧ (s.extract c s.size).size = s.size - c := by
  have hl := len_data s
  have h1 : (s.extract 0 c).data.toList = s.data.toList.take c := by rw [Go.Lib.extract_data]; simp
  have h2 : (s.extract c s.size).data.toList = s.data.toList.drop c := by
    rw [Go.Lib.extract_data]
    exact List.take_of_length_le (by rw [List.length_drop, hl]; omega)
  refine ⟨h1, h2, ?_, ?_⟩
  · rw [← len_data, h1, List.length_take, hl]; omega
  · rw [← len_data, h2, List.length_drop, hl]

set_option maxHeartbeats 4000000 in
set_option maxRecDepth 4000 in
theorem number_step (m : Nat) (ih : ∀ (s : ByteArray) (w : World), s.size < m → s.size ≤ 100000 → AllD s.data.toList →
    Calls Tryz.prog 52 #[.string s] w fun e w' => ∃ a c, e = .returned (.agg #[.slice a (nlen 4294967296 (valD s.data.toList)) c]) ∧ Res w w' a c (valD s.data.toList))
    (s : ByteArray) (w : World) (hm : s.size ≤ m) (h5 : s.size ≤ 100000) (hA : AllD s.data.toList) :
    Calls Tryz.prog 52 #[.string s] w fun e w' => ∃ a c, e = .returned (.agg #[.slice a (nlen 4294967296 (valD s.data.toList)) c]) ∧ Res w w' a c (valD s.data.toList) := by
  obtain ⟨t, ht⟩ : ∃ t, bs (Lib.trimLeftB s.data.toList 48) = t := ⟨_, rfl⟩
  obtain ⟨X, hX⟩ : ∃ X, valD s.data.toList = X := ⟨_, rfl⟩
  have htd : t.data.toList = Lib.trimLeftB s.data.toList 48 := by rw [← ht, bs_data]
  have htA : AllD t.data.toList := by rw [htd]; exact trimLeft_all hA
  have htX : valD t.data.toList = X := by rw [htd, trimLeft_val, hX]
  have hts : t.size ≤ s.size := by rw [← ht, bs_size, ← len_data s]; exact trimLeft_len _
  have HTL : Hid (∀ w, Calls Tryz.prog 83 #[.string s, .string ⟨#[48]⟩] w fun e w' => e = .returned (.string t) ∧ w' = w) := by
    refine hide ?_
    intro w
    have := Tryz.strings_TrimLeft_one s 48 (by decide) w
    rw [show (⟨(Lib.trimLeftB s.data.toList 48).toArray⟩ : ByteArray) = t from ht] at this
    exact this
  rw [hX]
  have HA := hide htA
  have HX := hide htX
  have IH := hide ih
  clear htd htA htX ht hX ih hA
  by_cases hsm : t.size ≤ 19
  · have HS := hide (fun w => small_any6 t w hsm HA.out)
    rw [HX.out] at HS
    have hXb : X < 18446744073709551616 := by
      have h1 := valD_lt _ HA.out
      rw [HX.out, len_data] at h1
      have h2 : 10 ^ t.size ≤ 10 ^ 19 := Nat.pow_le_pow_right (by decide) hsm
      omega
    have HO := hide (fun w => of_any X w hXb)
    clear hXb
    go_enter Tryz.func52, Tryz.ntmps52
    go_wp2_with fail
    refine (HTL.out _).mono ?_
    rintro e w1 ⟨rfl, rfl⟩
    go_wp2_with fail
    refine (HS.out _).mono ?_
    rintro e w1 ⟨rfl, rfl⟩
    go_wp2_with fail
    refine (HO.out _).mono ?_
    rintro e w1 ⟨a, c, rfl, h1, l1, f1⟩
    have H1 := hide h1
    have L1 := hide l1
    have z4 := var_free f1
    have c4 := var_cell f1
    have F := hide ((Fr.alloc _ _).trans f1)
    have s1 := cell_lt c4
    simp only [] at s1
    clear f1 h1 l1
    go_wp2_with fail
    (try simp only [Exit.inBlock, Exit.then])
    refine bodyPost_ret (results_nat rfl _ _ w.heap.size (.slice a (nlen 4294967296 X) c) rfl ?_) rfl ?_
    · go_simp
    · refine ⟨_, _, rfl, ?_, fun g off s e => ?_, Below.setCell F.out (by simp) _⟩
      · exact IsNat.put H1.out _ _ (fun g off s e => by have := L1.out g off s e; simp at this; simp; omega)
      · have := L1.out g off s e; simp at this; omega
  · obtain ⟨lo, hlo⟩ : ∃ lo : Nat, t.size / 2 = lo := ⟨_, rfl⟩
    obtain ⟨cu, hcu⟩ : ∃ cu : Nat, t.size - lo = cu := ⟨_, rfl⟩
    have e1 : ((t.size : Int) / 2) = (lo : Int) := by omega
    have e2 : ((t.size : Int) - (lo : Int)) = (cu : Int) := by omega
    have hcs : cu ≤ t.size := by omega
    have hc0 : cu < t.size := by omega
    have hl0 : 10 ≤ lo := by omega
    obtain ⟨d1, d2, d3, d4⟩ := cut_data t cu hcs
    obtain ⟨p, hp⟩ : ∃ p, t.extract 0 cu = p := ⟨_, rfl⟩
    obtain ⟨q, hq⟩ : ∃ q, t.extract cu t.size = q := ⟨_, rfl⟩
    have hpA : AllD p.data.toList := by rw [← hp, d1]; exact fun b hb => HA.out b (List.mem_of_mem_take hb)
    have hqA : AllD q.data.toList := by rw [← hq, d2]; exact fun b hb => HA.out b (List.mem_of_mem_drop hb)
    rw [hp] at d1 d3
    rw [hq] at d2 d4
    obtain ⟨Y, hY⟩ : ∃ Y, valD p.data.toList = Y := ⟨_, rfl⟩
    obtain ⟨Z, hZ⟩ : ∃ Z, valD q.data.toList = Z := ⟨_, rfl⟩
    obtain ⟨T, hT⟩ : ∃ T, 10 ^ lo = T := ⟨_, rfl⟩
    have hXX : Y * T + Z = X := by
      rw [← hY, ← hZ, ← hT, ← HX.out, d1, d2]
      have h1 := valD_append (t.data.toList.take cu) (t.data.toList.drop cu)
      rw [List.take_append_drop, List.length_drop, len_data, show t.size - cu = lo by omega] at h1
      exact h1.symm
    have nY : nlen 4294967296 Y ≤ 100000 := by have := nl_valD hpA; rw [hY, len_data] at this; omega
    have nZ : nlen 4294967296 Z ≤ 100000 := by have := nl_valD hqA; rw [hZ, len_data] at this; omega
    have nT : nlen 4294967296 T ≤ 100001 := by
      have := nlen_pow (x := 10) (n := 1) (by rw [nlten]; omega) lo
      rw [hT] at this; omega
    have nYT : nlen 4294967296 (Y * T) ≤ 1000000 := Nat.le_trans (nlen_mul b32 nY nT) (by omega)
    have HP : Hid (∀ w, Calls Tryz.prog 52 #[.string p] w fun e w' => ∃ a c, e = .returned (.agg #[.slice a (nlen 4294967296 Y) c]) ∧ Res w w' a c Y) := by
      refine hide ?_
      intro w
      have := IH.out p w (by omega) (by omega) hpA
      rwa [hY] at this
    have HQ : Hid (∀ w, Calls Tryz.prog 52 #[.string q] w fun e w' => ∃ a c, e = .returned (.agg #[.slice a (nlen 4294967296 Z) c]) ∧ Res w w' a c Z) := by
      refine hide ?_
      intro w
      have := IH.out q w (by omega) (by omega) hqA
      rwa [hZ] at this
    have HT : Hid (∀ w, Calls Tryz.prog 37 #[.int .i64 lo] w fun e w' => ∃ a c, e = .returned (.agg #[.slice a (nlen 4294967296 T) c]) ∧ IsNat w' (.agg #[.slice a (nlen 4294967296 T) c]) T ∧ Fr w w') :=
      hide (fun w => tenc_any lo T w (by omega) (by omega) (by rw [Int.toNat_natCast]; exact hT))
    have HXX := hide hXX
    have HNY := hide nY
    have HNZ := hide nZ
    have HNT := hide nT
    have HNYT := hide nYT
    clear hXX nY nZ nT nYT hT hY hZ hpA hqA d1 d2 IH
    go_enter Tryz.func52, Tryz.ntmps52
    go_wp2_with fail
    refine (HTL.out _).mono ?_
    rintro e w1 ⟨rfl, rfl⟩
    go_wp2_with fail
    obtain ⟨W, hW⟩ : ∃ W, W = w.alloc (Obj.cells #[Value.slice none 0 0] 53) := ⟨_, rfl⟩
    have fW : Fr w W := by rw [hW]; exact Fr.alloc _ _
    have c4 : W.cell? ⟨w.heap.size, 0, none⟩ = some (.slice none 0 0) := by rw [hW]; simp [go_sem]
    have z4 : W.frozen? ⟨w.heap.size, 0, none⟩ = false := by rw [hW]; simp [go_sem]
    have hWs : W.heap.size = w.heap.size + 1 := by rw [hW]; simp
    rw [← hW]
    clear hW
    have fz := hide (Fr.drew W)
    refine wp_region_held_drew (S := (fun w' => Hid (Fr w w'))) (by kernel_rfl) ?_ (fun hHeld => ?_)
    · exact hide (fW.trans (Fr.drew _))
    refine wpAnyH_take (i := 0) (v := ?_) rfl (by kernel_rfl) (by kernel_rfl) (by kernel_rfl) (fun _ _ _ h => h) (Or.inl ⟨by rfl, ?_⟩) (by assumption) ?_
    rotate_left
    · (intro w hSw; (try dsimp only at hSw); go_simp; try with_reducible rfl)
    (try simp only [Act.put, List.getElem_toArray, List.getElem_cons_zero, List.getElem_cons_succ, List.setIfInBounds_toArray, List.set_cons_zero, List.set_cons_succ])
    refine wpAnyH_take (i := 1) (v := ?_) rfl (by kernel_rfl) (by kernel_rfl) (by kernel_rfl) (fun _ _ _ h => h) (Or.inl ⟨by rfl, ?_⟩) (by assumption) ?_
    rotate_left
    · (intro w hSw; (try dsimp only at hSw); go_simp; try with_reducible rfl)
    (try simp only [Act.put, List.getElem_toArray, List.getElem_cons_zero, List.getElem_cons_succ, List.setIfInBounds_toArray, List.set_cons_zero, List.set_cons_succ])
    refine wpAnyH_take (i := 2) (v := ?_) rfl (by kernel_rfl) (by kernel_rfl) (by kernel_rfl) (fun _ _ _ h => h) (Or.inl ⟨by rfl, ?_⟩) (by assumption) ?_
    rotate_left
    · (intro w hSw; (try dsimp only at hSw); go_simp; try with_reducible rfl)
    (try simp only [Act.put, List.getElem_toArray, List.getElem_cons_zero, List.getElem_cons_succ, List.setIfInBounds_toArray, List.set_cons_zero, List.set_cons_succ])
    refine wpAnyH_take (i := 4) (v := ?_) rfl (by kernel_rfl) (by kernel_rfl) (by kernel_rfl) (fun _ _ _ h => h) (Or.inl ⟨by rfl, ?_⟩) (by assumption) ?_
    rotate_left
    · (intro w hSw; (try dsimp only at hSw); go_simp; try with_reducible rfl)
    (try simp only [Act.put, List.getElem_toArray, List.getElem_cons_zero, List.getElem_cons_succ, List.setIfInBounds_toArray, List.set_cons_zero, List.set_cons_succ])
    refine wpAnyH_take (i := 7) (v := ?_) rfl (by kernel_rfl) (by kernel_rfl) (by kernel_rfl) (fun _ _ _ h => h) (Or.inl ⟨by rfl, ?_⟩) (by assumption) ?_
    rotate_left
    · (intro w hSw; (try dsimp only at hSw); go_simp; try with_reducible rfl)
    (try simp only [Act.put, List.getElem_toArray, List.getElem_cons_zero, List.getElem_cons_succ, List.setIfInBounds_toArray, List.set_cons_zero, List.set_cons_succ])
    refine wpAnyH_take (i := 8) (v := ?_) rfl (by kernel_rfl) (by kernel_rfl) (by kernel_rfl) (fun _ _ _ h => h) (Or.inl ⟨by rfl, ?_⟩) (by assumption) ?_
    rotate_left
    · (intro w hSw; (try dsimp only at hSw); go_simp; try with_reducible rfl)
    (try simp only [Act.put, List.getElem_toArray, List.getElem_cons_zero, List.getElem_cons_succ, List.setIfInBounds_toArray, List.set_cons_zero, List.set_cons_succ])
    refine wpAnyH_take (i := 9) (v := ?_) rfl (by kernel_rfl) (by kernel_rfl) (by kernel_rfl) (fun _ _ _ h => h) (Or.inl ⟨by rfl, ?_⟩) (by assumption) ?_
    rotate_left
    · (intro w hSw; (try dsimp only at hSw); go_simp; try with_reducible rfl)
    (try simp only [Act.put, List.getElem_toArray, List.getElem_cons_zero, List.getElem_cons_succ, List.setIfInBounds_toArray, List.set_cons_zero, List.set_cons_succ])
    refine wpAnyH_ready (rs := [3]) (by kernel_rfl) (by simp) ?_
    refine AllReadyH.cons rfl (fun K hK => ?_) AllReadyH.nil
    go_simp
    refine (HP.out _).mono ?_
    rintro e wn ⟨a5, c5, rfl, i5, _, fy⟩
    have hsz := fz.out.size
    have fz := hide (fz.out.trans fy)
    have I5 := hide i5; clear i5 fy
    clear hsz
    (try go_wp2_with fail)
    refine hK.out _ _ ?_ (fun hHeld => ?_)
    · (try dsimp only)
      exact hide (fW.trans fz.out)
    clear hK K
    (try simp only [Act.put, List.getElem_toArray, List.getElem_cons_zero, List.getElem_cons_succ, List.setIfInBounds_toArray, List.set_cons_zero, List.set_cons_succ])
    refine wpAnyH_ready (rs := [5]) (by kernel_rfl) (by simp) ?_
    refine AllReadyH.cons rfl (fun K hK => ?_) AllReadyH.nil
    go_simp
    refine (HT.out _).mono ?_
    rintro e wn ⟨a6, c6, rfl, i6, fy⟩
    have hsz := fz.out.size
    have fz := hide (fz.out.trans fy)
    have I5 := hide (IsNat.fr I5.out fy); have I6 := hide i6; clear i6 fy
    clear hsz
    (try go_wp2_with fail)
    refine hK.out _ _ ?_ (fun hHeld => ?_)
    · (try dsimp only)
      exact hide (fW.trans fz.out)
    clear hK K
    (try simp only [Act.put, List.getElem_toArray, List.getElem_cons_zero, List.getElem_cons_succ, List.setIfInBounds_toArray, List.set_cons_zero, List.set_cons_succ])
    refine wpAnyH_ready (rs := [6]) (by kernel_rfl) (by simp) ?_
    refine AllReadyH.cons rfl (fun K hK => ?_) AllReadyH.nil
    go_simp
    refine (mul_any _ _ Y T _ I5.out I6.out (Nat.le_trans HNY.out (by omega)) (Nat.le_trans HNT.out (by omega))).mono ?_
    rintro e wn ⟨a7, c7, rfl, i7, _, fy⟩
    have hsz := fz.out.size
    have fz := hide (fz.out.trans fy)
    have I7 := hide i7; clear i7 fy I5 I6
    clear hsz
    (try go_wp2_with fail)
    refine hK.out _ _ ?_ (fun hHeld => ?_)
    · (try dsimp only)
      exact hide (fW.trans fz.out)
    clear hK K
    (try simp only [Act.put, List.getElem_toArray, List.getElem_cons_zero, List.getElem_cons_succ, List.setIfInBounds_toArray, List.set_cons_zero, List.set_cons_succ])
    refine wpAnyH_ready (rs := [10]) (by kernel_rfl) (by simp) ?_
    refine AllReadyH.cons rfl (fun K hK => ?_) AllReadyH.nil
    go_simp
    refine (HQ.out _).mono ?_
    rintro e wn ⟨a8, c8, rfl, i8, _, fy⟩
    have hsz := fz.out.size
    have fz := hide (fz.out.trans fy)
    have I7 := hide (IsNat.fr I7.out fy); have I8 := hide i8; clear i8 fy
    clear hsz
    (try go_wp2_with fail)
    refine hK.out _ _ ?_ (fun hHeld => ?_)
    · (try dsimp only)
      exact hide (fW.trans fz.out)
    clear hK K
    (try simp only [Act.put, List.getElem_toArray, List.getElem_cons_zero, List.getElem_cons_succ, List.setIfInBounds_toArray, List.set_cons_zero, List.set_cons_succ])
    refine wpAnyH_ready (rs := [11]) (by kernel_rfl) (by simp) ?_
    refine AllReadyH.cons rfl (fun K hK => ?_) AllReadyH.nil
    go_simp
    refine (add_any _ _ (Y * T) Z _ I7.out I8.out (Nat.le_trans HNYT.out (by omega)) (Nat.le_trans HNZ.out (by omega))).mono ?_
    rintro e wn ⟨a9, c9, rfl, i9, l9, fy⟩
    have hsz := fz.out.size
    have fz := hide (fz.out.trans fy)
    rw [HXX.out] at i9 ⊢
    have I9 := hide i9
    have L9 : Hid (∀ g off s, a9 = some ⟨g, off, s⟩ → w.heap.size < g) := fun g off s e => by have := l9 g off s e; omega
    have z4 := fr_free fz.out c4 z4
    have c4 := fr_cell fz.out c4
    clear i9 fy I7 I8 hsz l9
    (try go_wp2_with fail)
    refine hK.out _ _ ?_ (fun hHeld => ?_)
    · (try dsimp only)
      exact hide (fW.trans fz.out)
    clear hK K
    (try simp only [Act.put, List.getElem_toArray, List.getElem_cons_zero, List.getElem_cons_succ, List.setIfInBounds_toArray, List.set_cons_zero, List.set_cons_succ])
    refine wpAnyH_ready (rs := [12]) (by kernel_rfl) (by simp) ?_
    refine AllReadyH.cons rfl (fun K hK => ?_) AllReadyH.nil
    go_simp
    (try go_wp2_with fail)
    refine hK.out _ _ ?_ (fun hHeld => ?_)
    · (try dsimp only)
      exact hide (Below.setCell (fW.trans fz.out) (by simp) _)
    clear hK K
    (try simp only [Act.put, List.getElem_toArray, List.getElem_cons_zero, List.getElem_cons_succ, List.setIfInBounds_toArray, List.set_cons_zero, List.set_cons_succ])
    refine wpAnyH_done (by kernel_rfl) ?_ _
    go_wp2_with fail
    (try simp only [Exit.inBlock, Exit.then])
    refine bodyPost_ret (results_nat rfl _ _ w.heap.size (.slice a9 (nlen 4294967296 X) c9) rfl ?_) rfl ?_
    · exact World.cell?_setCell_same _ _ _ c4
    · refine ⟨_, _, rfl, ?_, fun g off s e => ?_, ?_⟩
      · exact IsNat.put I9.out _ _ (fun g off s e => by have := L9.out g off s e; simp; omega)
      · have := L9.out g off s e; omega
      · exact Below.setCell (fW.trans fz.out) (by simp) _

theorem number_any (s : ByteArray) (w : World) (h5 : s.size ≤ 100000) (hA : AllD s.data.toList) :
    Calls Tryz.prog 52 #[.string s] w fun e w' => ∃ a c, e = .returned (.agg #[.slice a (nlen 4294967296 (valD s.data.toList)) c]) ∧ Res w w' a c (valD s.data.toList) := by
  have h : ∀ m : Nat, ∀ (s : ByteArray) (w : World), s.size < m → s.size ≤ 100000 → AllD s.data.toList →
    Calls Tryz.prog 52 #[.string s] w fun e w' => ∃ a c, e = .returned (.agg #[.slice a (nlen 4294967296 (valD s.data.toList)) c]) ∧ Res w w' a c (valD s.data.toList) := by
    intro m
    induction m with
    | zero => intro s w h; omega
    | succ m ih => intro s w h h5 hA; exact number_step m ih s w (by omega) h5 hA
  exact h _ s w (Nat.lt_succ_self _) h5 hA
end Go.Proofs.YtammjgieocgelaaGreatDoor

/- Layer 6: Parse, Text, Count. -/
namespace Go.Proofs.YtammjgieocgelaaGreatDoor
set_option linter.unusedVariables false
set_option linter.unusedSimpArgs false
open Go.RowKit

attribute [local go_sem] World.cell?_alloc_some
theorem empty_of (s : ByteArray) : s.toList.isEmpty = s.data.toList.isEmpty := by rw [Go.Lib.toList_data]

set_option maxHeartbeats 1000000 in
set_option maxRecDepth 4000 in
theorem parse_yes (s : ByteArray) (X : Nat) (w : World) (h5 : s.size ≤ 100000) (h0 : s.data.toList ≠ []) (hA : AllD s.data.toList) (hX : valD s.data.toList = X) :
    Calls Tryz.prog 34 #[.string s] w fun e w' => ∃ a c, e = .returned (.tuple #[.agg #[.slice a (nlen 4294967296 X) c], .bool true]) ∧ Res w w' a c X := by
  have he : s.toList.isEmpty = false := by rw [empty_of]; simpa using h0
  have HD := hide (fun w => allDigits_any s true w (by unfold maxLen; omega) ⟨fun _ => hA, fun _ => rfl⟩)
  have HN := hide (fun w => number_any s w h5 hA)
  rw [hX] at HN
  clear hA hX h0
  go_enter Tryz.func34, Tryz.ntmps34
  go_wp2_with fail
  refine (HD.out _).mono ?_
  rintro e w1 ⟨rfl, rfl⟩
  go_wp2_with fail
  refine (HN.out _).mono ?_
  rintro e w1 ⟨a, c, rfl, h1, l1, f1⟩
  have H1 := hide h1
  have L1 := hide l1
  have z4 := var_free f1
  have c4 := var_cell f1
  have F := hide ((Fr.alloc _ _).trans f1)
  have s1 := cell_lt c4
  simp only [] at s1
  clear f1 h1 l1
  go_wp2_with fail
  (try simp only [Exit.inBlock, Exit.then])
  refine bodyPost_ret (results_nat_ok rfl _ _ w.heap.size (.slice a (nlen 4294967296 X) c) rfl ?_) rfl ?_
  · go_simp
  · refine ⟨_, _, rfl, ?_, fun g off s e => ?_, Below.setCell F.out (by simp) _⟩
    · exact IsNat.put H1.out _ _ (fun g off s e => by have := L1.out g off s e; simp at this; simp; omega)
    · have := L1.out g off s e; simp at this; omega

set_option maxHeartbeats 1000000 in
set_option maxRecDepth 4000 in
theorem parse_no (s : ByteArray) (w : World) (h5 : s.size ≤ maxLen) (h0 : s.data.toList = [] ∨ ¬ AllD s.data.toList) :
    Calls Tryz.prog 34 #[.string s] w fun e w' => e = .returned (.tuple #[.agg #[.slice none 0 0], .bool false]) ∧ Fr w w' := by
  by_cases hn : s.data.toList = []
  · have he : s.toList.isEmpty = true := by rw [empty_of, hn]; rfl
    clear h0 hn
    go_enter Tryz.func34, Tryz.ntmps34
    go_wp2_with fail
    (try simp only [Exit.inBlock, Exit.then])
    refine bodyPost_ret (results_nat_ok rfl _ _ w.heap.size (.slice none 0 0) rfl ?_) rfl ?_
    · go_simp
    · exact ⟨rfl, Fr.alloc _ _⟩
  · have hA : ¬ AllD s.data.toList := h0.resolve_left hn
    have he : s.toList.isEmpty = false := by rw [empty_of]; simpa using hn
    have HD := hide (fun w => allDigits_any s false w h5 ⟨fun h => (by cases h), fun h => absurd h hA⟩)
    clear h0 hn hA
    go_enter Tryz.func34, Tryz.ntmps34
    go_wp2_with fail
    refine (HD.out _).mono ?_
    rintro e w1 ⟨rfl, rfl⟩
    go_wp2_with fail
    (try simp only [Exit.inBlock, Exit.then])
    refine bodyPost_ret (results_nat_ok rfl _ _ w.heap.size (.slice none 0 0) rfl ?_) rfl ?_
    · go_simp
    · exact ⟨rfl, Fr.alloc _ _⟩

theorem ndig_le {k : Nat} : ∀ {x : Nat}, x < 10 ^ k → Lib.nDigits x ≤ k + 1 := by
  induction k with
  | zero => intro x h; rw [Nat.pow_zero] at h; rw [Lib.nDigits_small (by omega)]; omega
  | succ k ih =>
    intro x h
    by_cases hx : x < 10
    · rw [Lib.nDigits_small hx]; omega
    · rw [Lib.nDigits_big hx]
      have := ih (x := x / 10) (Nat.div_lt_of_lt_mul (by rw [Nat.mul_comm, ← Nat.pow_succ]; exact h))
      omega
/-- Bits by limbs. -/
theorem bits_le {x n : Nat} (h : nlen 4294967296 x ≤ n) : nlen 2 x ≤ 32 * n := by
  have h1 := lt_of_nlen b32 h
  rw [show (4294967296 : Nat) = 2 ^ 32 by decide, ← Nat.pow_mul] at h1
  exact nlen_le (by omega) h1
theorem dec_size {x n : Nat} (h : nlen 4294967296 x ≤ n) : (bs (Lib.decDigits x)).size ≤ 32 * n + 1 := by
  rw [bs_size, Lib.decDigits_length]
  have h1 := lt_of_nlen (B := 2) (by omega) (bits_le h)
  exact ndig_le (Nat.lt_of_lt_of_le h1 (Nat.pow_le_pow_left (by decide) _))
/-- How Text parts a number. -/
theorem text_cut {x N lo T : Nat} (hx : 18446744073709551616 ≤ x) (hN : nlen 2 x = N) (hlo : N * 3 / 20 = lo) (hT : 10 ^ lo = T) :
    65 ≤ N ∧ 9 ≤ lo ∧ T ≠ 0 ∧ x / T < x ∧ x % T < x ∧ Lib.decDigits x = Lib.decDigits (x / T) ++ padD lo (Lib.decDigits (x % T)) := by
  have h1 : 65 ≤ N := by
    rw [← hN]
    rcases Nat.lt_or_ge 64 (nlen 2 x) with q | q
    · omega
    · have := lt_of_nlen (B := 2) (by omega) q
      omega
  have h2 : 9 ≤ lo := by omega
  have h3 : T ≤ x := by
    have e1 : 2 ^ (N - 1) ≤ x := by rw [← hN]; exact nlen_low (by omega) x (by omega)
    have e2 : 10 ^ lo ≤ 2 ^ (4 * lo) := by rw [Nat.pow_mul]; exact Nat.pow_le_pow_left (by decide) lo
    have e3 : 2 ^ (4 * lo) ≤ 2 ^ (N - 1) := Nat.pow_le_pow_right (by decide) (by omega)
    omega
  have h4 : 10 ≤ T := by
    rw [← hT]
    exact Nat.le_trans (show 10 ≤ 10 ^ 1 from Nat.le_refl _) (Nat.pow_le_pow_right (by decide) (by omega))
  obtain ⟨k, rfl⟩ : ∃ k, lo = k + 1 := ⟨lo - 1, by omega⟩
  refine ⟨h1, h2, by omega, Nat.div_lt_self (by omega) (by omega), Nat.lt_of_lt_of_le (Nat.mod_lt x (by omega)) h3, ?_⟩
  have := dec_cut k x (by rw [hT]; exact Nat.ne_of_gt (Nat.div_pos h3 (by omega)))
  rwa [hT] at this

set_option maxHeartbeats 4000000 in
set_option maxRecDepth 4000 in
theorem text_step (m : Nat) (ih : ∀ (v : Value) (x : Nat) (w : World), x < m → IsNat w v x → nlen 4294967296 x ≤ 20000 → PT w →
    Calls Tryz.prog 70 #[v] w fun e w' => e = .returned (.string (bs (Lib.decDigits x))) ∧ Fr w w')
    (v : Value) (x : Nat) (w : World) (hm : x ≤ m) (h : IsNat w v x) (hn : nlen 4294967296 x ≤ 20000) (hP : PT w) :
    Calls Tryz.prog 70 #[v] w fun e w' => e = .returned (.string (bs (Lib.decDigits x))) ∧ Fr w w' := by
  have HV := hide h
  have HP := hide hP
  have IH := hide ih
  obtain ⟨a, ca, rfl, a2, a3, a4⟩ := h
  clear a4 hP ih
  by_cases hx : x < 18446744073709551616
  · have HS := hide (fun w v h => small_any v x w h)
    rw [if_pos hx, decide_eq_true hx] at HS
    have HF := hide (fun w h => fmt_any x w hx h)
    go_enter Tryz.func70, Tryz.ntmps70
    go_wp2_with fail
    refine (HS.out _ _ (IsNat.fr HV.out (Fr.alloc _ _))).mono ?_
    rintro e w1 ⟨rfl, f1⟩
    have F1 := hide ((Fr.alloc _ _).trans f1)
    clear f1
    go_wp2_with fail
    refine (HF.out _ (PT.fr HP.out F1.out)).mono ?_
    rintro e w2 ⟨rfl, f2⟩
    go_wp2_with fail
    go_ret
    exact ⟨rfl, F1.out.trans f2⟩
  · have HS := hide (fun w v h => small_any v x w h)
    rw [if_neg hx, decide_eq_false hx] at HS
    obtain ⟨N, hN⟩ : ∃ N, nlen 2 x = N := ⟨_, rfl⟩
    obtain ⟨lo, hlo⟩ : ∃ lo : Nat, N * 3 / 20 = lo := ⟨_, rfl⟩
    obtain ⟨T, hT⟩ : ∃ T, 10 ^ lo = T := ⟨_, rfl⟩
    obtain ⟨t1, t2, t3, t4, t5, t6⟩ := text_cut (by omega) hN hlo hT
    have hNb : N ≤ 640000 := by rw [← hN]; exact Nat.le_trans (bits_le hn) (by omega)
    have e1 : ((N : Int) * 3) / 20 = (lo : Int) := by omega
    have HB := hide (fun w v h => bits_any v x w h (by omega))
    rw [hN] at HB
    obtain ⟨q, hq⟩ : ∃ q, x / T = q := ⟨_, rfl⟩
    obtain ⟨r, hr⟩ : ∃ r, x % T = r := ⟨_, rfl⟩
    have nT : nlen 4294967296 T ≤ 100001 := by
      have := nlen_pow (x := 10) (n := 1) (by rw [nlten]; omega) lo
      rw [hT] at this; omega
    have HT : Hid (∀ w, Calls Tryz.prog 37 #[.int .i64 lo] w fun e w' => ∃ a c, e = .returned (.agg #[.slice a (nlen 4294967296 T) c]) ∧ IsNat w' (.agg #[.slice a (nlen 4294967296 T) c]) T ∧ Fr w w') :=
      hide (fun w => tenc_any lo T w (by omega) (by omega) (by rw [Int.toNat_natCast]; exact hT))
    have nq : nlen 4294967296 q ≤ 20000 := by rw [← hq]; exact Nat.le_trans (nlen_mono b32 (Nat.div_le_self _ _)) hn
    have nr : nlen 4294967296 r ≤ 20000 := by rw [← hr]; exact Nat.le_trans (nlen_mono b32 (Nat.mod_le _ _)) hn
    have HDV : Hid (∀ w va vb, IsNat w va x → IsNat w vb T → Calls Tryz.prog 65 #[va, vb] w fun e w' => ∃ a c a' c', e = .returned (.tuple #[.agg #[.slice a (nlen 4294967296 q) c], .agg #[.slice a' (nlen 4294967296 r) c'], .bool true]) ∧ Res w w' a c q ∧ Res w w' a' c' r) := by
      refine hide ?_
      intro w va vb ha hb
      have := div_yes va vb x T w ha hb (by omega) (by omega) t3
      rwa [hq, hr] at this
    rw [hq] at t4 t6
    rw [hr] at t5 t6
    obtain ⟨SA, hSA⟩ : ∃ SA, bs (Lib.decDigits q) = SA := ⟨_, rfl⟩
    obtain ⟨SB, hSB⟩ : ∃ SB, bs (Lib.decDigits r) = SB := ⟨_, rfl⟩
    obtain ⟨SC, hSC⟩ : ∃ SC, bs (padD lo (Lib.decDigits r)) = SC := ⟨_, rfl⟩
    have zA : SA.size ≤ 1000000 := by rw [← hSA]; exact Nat.le_trans (dec_size nq) (by omega)
    have zB : SB.size ≤ 1000000 := by rw [← hSB]; exact Nat.le_trans (dec_size nr) (by omega)
    have zC : SC.size ≤ 2000000 := by
      have := zB
      rw [← hSB, bs_size] at this
      rw [← hSC, bs_size]
      unfold padD
      rw [List.length_append, List.length_replicate]
      omega
    have HA : Hid (∀ w v, IsNat w v q → PT w → Calls Tryz.prog 70 #[v] w fun e w' => e = .returned (.string SA) ∧ Fr w w') := by
      refine hide ?_
      intro w v h hP
      have := IH.out v q w (by omega) h nq hP
      rwa [hSA] at this
    have HBB : Hid (∀ w v, IsNat w v r → PT w → Calls Tryz.prog 70 #[v] w fun e w' => e = .returned (.string SB) ∧ Fr w w') := by
      refine hide ?_
      intro w v h hP
      have := IH.out v r w (by omega) h nr hP
      rwa [hSB] at this
    have HC : Hid (∀ w, Calls Tryz.prog 101 #[.string SB, .int .i64 lo] w fun e w' => e = .returned (.string SC) ∧ Fr w w') := by
      refine hide ?_
      intro w
      have := filled_any SB lo w (by omega) (by omega) (by omega)
      rw [← hSB, bs_data, Int.toNat_natCast] at this
      rw [hSC, hSB] at this
      exact this
    have HE : Hid (SA ++ SC = bs (Lib.decDigits x)) := by
      refine hide ?_
      rw [t6, ← bs_append, ← hSA, ← hSC]
    have HNT := hide nT
    have HQ0 := hide nq
    have HR0 := hide nr
    clear nT nq nr hT hN hq hr t1 t3 t4 t5 t6 hSA hSB hSC IH
    go_enter Tryz.func70, Tryz.ntmps70
    go_wp2_with fail
    refine (HS.out _ _ (IsNat.fr HV.out (Fr.alloc _ _))).mono ?_
    rintro e w1 ⟨rfl, f1⟩
    have c4 := var_cell f1
    have F1 := hide ((Fr.alloc _ _).trans f1)
    clear f1
    go_wp2_with fail
    refine (HB.out _ _ (IsNat.fr HV.out F1.out)).mono ?_
    rintro e w2 ⟨rfl, f2⟩
    have c4 := fr_cell f2 c4
    have F2 := hide (F1.out.trans f2)
    have HX := hide (IsNat.fr HV.out F2.out)
    clear f2 F1 HS HB
    go_wp2_with fail
    rw [e1]
    clear e1
    refine wp_region_named (S := (fun w' => w'.cell? ⟨w.heap.size, 0, none⟩ = some (.slice a (nlen 4294967296 x) ca) ∧ Hid (Fr w2 w'))) (by kernel_rfl) (fun _ _ d _ _ h => by cases d <;> exact h) ?_ ?_
    · exact ⟨c4, Fr.drew _⟩
    intro ops hops Q hQ aR ha0 HPan hHeld0
    have N2_01 : Hid (∀ (ae : Option Addr) (ce : Nat) (aq : Option Addr) (cq : Nat) (ar : Option Addr) (cr : Nat) (b0 : Nat) (b1 : Nat) (wv : World), (fun w' => w'.cell? ⟨w.heap.size, 0, none⟩ = some (.slice a (nlen 4294967296 x) ca) ∧ Hid (Fr w2 w')) wv → (IQ : Hid (IsNat wv (.agg #[.slice aq (nlen 4294967296 (q)) cq]) q)) → (IR : Hid (IsNat wv (.agg #[.slice ar (nlen 4294967296 (r)) cr]) r)) → (Oaq_0 : Off aq (nlen 4294967296 q) b0) → (Oaq_1 : Off aq (nlen 4294967296 q) b1) → (Oar_0 : Off ar (nlen 4294967296 r) b0) → (Oar_1 : Off ar (nlen 4294967296 r) b1) → (V0 : Hid (Var w2 wv b0)) → (V1 : Hid (Var w2 wv b1)) → (D01 : b0 ≠ b1) → wpAnyH Tryz.prog .any ops Q (fun w' => w'.cell? ⟨w.heap.size, 0, none⟩ = some (.slice a (nlen 4294967296 x) ca) ∧ Hid (Fr w2 w')) 3 #[true, true, true, true, true, true, true, true, true, true, false, false, false] ((((((((((aR.put (some 22) (.agg #[.slice a (nlen 4294967296 (x)) ca])).put (some 23) (.int .i64 lo)).put (some 24) (.agg #[.slice ae (nlen 4294967296 (T)) ce])).put (some 25) (.tuple #[.agg #[.slice aq (nlen 4294967296 (q)) cq], .agg #[.slice ar (nlen 4294967296 (r)) cr], .bool true])).put (some 21) (.tuple #[.agg #[.slice aq (nlen 4294967296 (q)) cq], .agg #[.slice ar (nlen 4294967296 (r)) cr], .bool true])).put (some 26) (.agg #[.slice aq (nlen 4294967296 (q)) cq])).put (some 27) (.agg #[.slice ar (nlen 4294967296 (r)) cr])).put (some 28) (.bool true)).put (some 6) (.pointer (some ⟨b0, 0, none⟩))).put (some 7) (.pointer (some ⟨b1, 0, none⟩))) wv) := by
      refine hide ?_
      intro ae ce aq cq ar cr b0 b1 wv hHeld IQ IR Oaq_0 Oaq_1 Oar_0 Oar_1 V0 V1 D01
      rw [hops.out, ha0.out]
      have HPanF := HPan
      rw [hQ.out] at HPanF
      rw [hQ.out]
      (try simp only [Act.put, List.getElem_toArray, List.getElem_cons_zero, List.getElem_cons_succ, List.setIfInBounds_toArray, List.set_cons_zero, List.set_cons_succ])
      have fz : Hid (Fr w2 wv) := hHeld.2
      have vc := V0.out.1
      have vz := V0.out.2.1
      have vn := V0.out.2.2
      refine wpAnyH_ready (rs := [10]) (by kernel_rfl) (by simp) ?_
      refine AllReadyH.cons rfl (fun K hK => ?_) AllReadyH.nil
      go_simp
      (try go_wp2_with fail)
      have fz : Hid (Fr w2 (wv.setCell ⟨b0, 0, none⟩ (.slice aq (nlen 4294967296 (q)) cq))) := Below.setCell fz.out vn _
      refine hK.out _ _ ?_ (fun hHeld => ?_)
      · (try dsimp only)
        exact ⟨fr_cell fz.out c4, fz⟩
      clear hK K
      (try simp only [Act.put, List.getElem_toArray, List.getElem_cons_zero, List.getElem_cons_succ, List.setIfInBounds_toArray, List.set_cons_zero, List.set_cons_succ])
      have cE0 : World.cell? (wv.setCell ⟨b0, 0, none⟩ (.slice aq (nlen 4294967296 (q)) cq)) ⟨b0, 0, none⟩ = some (.slice aq (nlen 4294967296 (q)) cq) := World.cell?_setCell_same _ _ _ vc
      have V1 := hide (Var.put V1.out b0 (.slice aq (nlen 4294967296 (q)) cq) D01)
      have IQ := hide (IsNat.off IQ.out Oaq_0 (.slice aq (nlen 4294967296 (q)) cq))
      have IR := hide (IsNat.off IR.out Oar_0 (.slice aq (nlen 4294967296 (q)) cq))
      clear vc vz vn
      have vc := V1.out.1
      have vz := V1.out.2.1
      have vn := V1.out.2.2
      refine wpAnyH_ready (rs := [11]) (by kernel_rfl) (by simp) ?_
      refine AllReadyH.cons rfl (fun K hK => ?_) AllReadyH.nil
      go_simp
      (try go_wp2_with fail)
      have fz : Hid (Fr w2 ((wv.setCell ⟨b0, 0, none⟩ (.slice aq (nlen 4294967296 (q)) cq)).setCell ⟨b1, 0, none⟩ (.slice ar (nlen 4294967296 (r)) cr))) := Below.setCell fz.out vn _
      refine hK.out _ _ ?_ (fun hHeld => ?_)
      · (try dsimp only)
        exact ⟨fr_cell fz.out c4, fz⟩
      clear hK K
      (try simp only [Act.put, List.getElem_toArray, List.getElem_cons_zero, List.getElem_cons_succ, List.setIfInBounds_toArray, List.set_cons_zero, List.set_cons_succ])
      have cE1 : World.cell? ((wv.setCell ⟨b0, 0, none⟩ (.slice aq (nlen 4294967296 (q)) cq)).setCell ⟨b1, 0, none⟩ (.slice ar (nlen 4294967296 (r)) cr)) ⟨b1, 0, none⟩ = some (.slice ar (nlen 4294967296 (r)) cr) := World.cell?_setCell_same _ _ _ vc
      have cE0 := (World.cell?_setCell_other (wv.setCell ⟨b0, 0, none⟩ (.slice aq (nlen 4294967296 (q)) cq)) ⟨b1, 0, none⟩ ⟨b0, 0, none⟩ (.slice ar (nlen 4294967296 (r)) cr) (fun e => D01.symm (by injection e))).trans cE0
      have IQ := hide (IsNat.off IQ.out Oaq_1 (.slice ar (nlen 4294967296 (r)) cr))
      have IR := hide (IsNat.off IR.out Oar_1 (.slice ar (nlen 4294967296 (r)) cr))
      clear vc vz vn
      refine wpAnyH_take (i := 12) (v := ?_) rfl (by kernel_rfl) (by kernel_rfl) (by kernel_rfl) (fun _ _ _ h => HPanF.out _ _ _ _ _ h) (Or.inl ⟨by rfl, ?_⟩) (by assumption) ?_
      rotate_left
      · (intro w hSw; (try dsimp only at hSw); go_simp; try with_reducible rfl)
      (try simp only [Act.put, List.getElem_toArray, List.getElem_cons_zero, List.getElem_cons_succ, List.setIfInBounds_toArray, List.set_cons_zero, List.set_cons_succ])
      refine wpAnyH_done (by kernel_rfl) ?_ _
      obtain ⟨WE, hWE⟩ : ∃ WE, WE = ((wv.setCell ⟨b0, 0, none⟩ (.slice aq (nlen 4294967296 (q)) cq)).setCell ⟨b1, 0, none⟩ (.slice ar (nlen 4294967296 (r)) cr)) := ⟨_, rfl⟩
      rw [← hWE] at cE0
      rw [← hWE] at cE1
      rw [← hWE] at IQ
      rw [← hWE] at IR
      rw [← hWE] at fz
      rw [← hWE]
      have FE := fz
      clear fz hHeld hWE
      have FA := hide (F2.out.trans FE.out)
      have HPE := hide (PT.fr HP.out FA.out)
      clear FE HPan hops ha0 hQ HX HT HDV HP
      go_wp2_with fail
      have fz := hide (Fr.drew WE)
      refine wp_region_held_drew (S := (fun w' => w'.cell? ⟨b0, 0, none⟩ = some (.slice aq (nlen 4294967296 (q)) cq) ∧ w'.cell? ⟨b1, 0, none⟩ = some (.slice ar (nlen 4294967296 (r)) cr) ∧ Hid (Fr WE w'))) (by kernel_rfl) ?_ (fun hHeld => ?_)
      · exact ⟨cE0, cE1, Fr.drew _⟩
      refine wpAnyH_take (i := 0) (v := ?_) rfl (by kernel_rfl) (by kernel_rfl) (by kernel_rfl) (fun _ _ _ h => h) (Or.inl ⟨by rfl, ?_⟩) (by assumption) ?_
      rotate_left
      · (intro w hSw; (try dsimp only at hSw); go_simp; try with_reducible rfl)
      (try simp only [Act.put, List.getElem_toArray, List.getElem_cons_zero, List.getElem_cons_succ, List.setIfInBounds_toArray, List.set_cons_zero, List.set_cons_succ])
      refine wpAnyH_take (i := 2) (v := ?_) rfl (by kernel_rfl) (by kernel_rfl) (by kernel_rfl) (fun _ _ _ h => h) (Or.inl ⟨by rfl, ?_⟩) (by assumption) ?_
      rotate_left
      · (intro w hSw; (try dsimp only at hSw); go_simp; try with_reducible rfl)
      (try simp only [Act.put, List.getElem_toArray, List.getElem_cons_zero, List.getElem_cons_succ, List.setIfInBounds_toArray, List.set_cons_zero, List.set_cons_succ])
      refine wpAnyH_take (i := 4) (v := ?_) rfl (by kernel_rfl) (by kernel_rfl) (by kernel_rfl) (fun _ _ _ h => h) (Or.inl ⟨by rfl, ?_⟩) (by assumption) ?_
      rotate_left
      · (intro w hSw; (try dsimp only at hSw); go_simp; try with_reducible rfl)
      (try simp only [Act.put, List.getElem_toArray, List.getElem_cons_zero, List.getElem_cons_succ, List.setIfInBounds_toArray, List.set_cons_zero, List.set_cons_succ])
      refine wpAnyH_ready (rs := [1]) (by kernel_rfl) (by simp) ?_
      refine AllReadyH.cons rfl (fun K hK => ?_) AllReadyH.nil
      go_simp
      refine (HA.out _ _ (IsNat.fr IQ.out fz.out) (PT.fr HPE.out fz.out)).mono ?_
      rintro e wn ⟨rfl, fy⟩
      have fz := hide (fz.out.trans fy)
      clear fy
      (try go_wp2_with fail)
      refine hK.out _ _ ?_ (fun hHeld => ?_)
      · (try dsimp only)
        exact ⟨fr_cell fz.out cE0, fr_cell fz.out cE1, fz⟩
      clear hK K
      (try simp only [Act.put, List.getElem_toArray, List.getElem_cons_zero, List.getElem_cons_succ, List.setIfInBounds_toArray, List.set_cons_zero, List.set_cons_succ])
      refine wpAnyH_ready (rs := [3]) (by kernel_rfl) (by simp) ?_
      refine AllReadyH.cons rfl (fun K hK => ?_) AllReadyH.nil
      go_simp
      refine (HBB.out _ _ (IsNat.fr IR.out fz.out) (PT.fr HPE.out fz.out)).mono ?_
      rintro e wn ⟨rfl, fy⟩
      have fz := hide (fz.out.trans fy)
      clear fy
      (try go_wp2_with fail)
      refine hK.out _ _ ?_ (fun hHeld => ?_)
      · (try dsimp only)
        exact ⟨fr_cell fz.out cE0, fr_cell fz.out cE1, fz⟩
      clear hK K
      (try simp only [Act.put, List.getElem_toArray, List.getElem_cons_zero, List.getElem_cons_succ, List.setIfInBounds_toArray, List.set_cons_zero, List.set_cons_succ])
      refine wpAnyH_ready (rs := [5]) (by kernel_rfl) (by simp) ?_
      refine AllReadyH.cons rfl (fun K hK => ?_) AllReadyH.nil
      go_simp
      refine (HC.out _).mono ?_
      rintro e wn ⟨rfl, fy⟩
      have fz := hide (fz.out.trans fy)
      clear fy
      (try go_wp2_with fail)
      refine hK.out _ _ ?_ (fun hHeld => ?_)
      · (try dsimp only)
        exact ⟨fr_cell fz.out cE0, fr_cell fz.out cE1, fz⟩
      clear hK K
      (try simp only [Act.put, List.getElem_toArray, List.getElem_cons_zero, List.getElem_cons_succ, List.setIfInBounds_toArray, List.set_cons_zero, List.set_cons_succ])
      refine wpAnyH_ready (rs := [6]) (by kernel_rfl) (by simp) ?_
      refine AllReadyH.cons rfl (fun K hK => ?_) AllReadyH.nil
      go_simp
      (try go_wp2_with fail)
      refine hK.out _ _ ?_ (fun hHeld => ?_)
      · (try dsimp only)
        exact ⟨fr_cell fz.out cE0, fr_cell fz.out cE1, fz⟩
      clear hK K
      (try simp only [Act.put, List.getElem_toArray, List.getElem_cons_zero, List.getElem_cons_succ, List.setIfInBounds_toArray, List.set_cons_zero, List.set_cons_succ])
      refine wpAnyH_take (i := 7) (v := ?_) rfl (by kernel_rfl) (by kernel_rfl) (by kernel_rfl) (fun _ _ _ h => h) (Or.inl ⟨by rfl, ?_⟩) (by assumption) ?_
      rotate_left
      · (intro w hSw; (try dsimp only at hSw); go_simp; try with_reducible rfl)
      (try simp only [Act.put, List.getElem_toArray, List.getElem_cons_zero, List.getElem_cons_succ, List.setIfInBounds_toArray, List.set_cons_zero, List.set_cons_succ])
      refine wpAnyH_done (by kernel_rfl) ?_ _
      go_wp2_with fail
      go_ret
      exact ⟨by rw [← HE.out]; rfl, FA.out.trans fz.out⟩
    have N2_0 : Hid (∀ (ae : Option Addr) (ce : Nat) (aq : Option Addr) (cq : Nat) (ar : Option Addr) (cr : Nat) (b0 : Nat) (wv : World), (fun w' => w'.cell? ⟨w.heap.size, 0, none⟩ = some (.slice a (nlen 4294967296 x) ca) ∧ Hid (Fr w2 w')) wv → (IQ : Hid (IsNat wv (.agg #[.slice aq (nlen 4294967296 (q)) cq]) q)) → (IR : Hid (IsNat wv (.agg #[.slice ar (nlen 4294967296 (r)) cr]) r)) → (Oaq_0 : Off aq (nlen 4294967296 q) b0) → (Oar_0 : Off ar (nlen 4294967296 r) b0) → (V0 : Hid (Var w2 wv b0)) → wpAnyH Tryz.prog .any ops Q (fun w' => w'.cell? ⟨w.heap.size, 0, none⟩ = some (.slice a (nlen 4294967296 x) ca) ∧ Hid (Fr w2 w')) 4 #[true, true, true, true, true, true, true, true, true, false, false, false, false] (((((((((aR.put (some 22) (.agg #[.slice a (nlen 4294967296 (x)) ca])).put (some 23) (.int .i64 lo)).put (some 24) (.agg #[.slice ae (nlen 4294967296 (T)) ce])).put (some 25) (.tuple #[.agg #[.slice aq (nlen 4294967296 (q)) cq], .agg #[.slice ar (nlen 4294967296 (r)) cr], .bool true])).put (some 21) (.tuple #[.agg #[.slice aq (nlen 4294967296 (q)) cq], .agg #[.slice ar (nlen 4294967296 (r)) cr], .bool true])).put (some 26) (.agg #[.slice aq (nlen 4294967296 (q)) cq])).put (some 27) (.agg #[.slice ar (nlen 4294967296 (r)) cr])).put (some 28) (.bool true)).put (some 6) (.pointer (some ⟨b0, 0, none⟩))) wv) := by
      refine hide ?_
      intro ae ce aq cq ar cr b0 wv hHeld IQ IR Oaq_0 Oar_0 V0
      rw [hops.out, ha0.out]
      (try simp only [Act.put, List.getElem_toArray, List.getElem_cons_zero, List.getElem_cons_succ, List.setIfInBounds_toArray, List.set_cons_zero, List.set_cons_succ])
      refine wpAnyH_ready (rs := [9]) (by kernel_rfl) (by simp) ?_
      refine AllReadyH.cons rfl (fun K hK => ?_) ?_
      · have hh : Hid (Fr w2 wv) := hHeld.2
        have hn := Var.new (W := w2) (w := wv) (t := 53) hh.out.size
        have fz := hide (hh.out.trans (Fr.alloc wv (.cells #[.slice none 0 0] 53)))
        have Oaq_1 := off_new IQ.out
        have Oar_1 := off_new IR.out
        have D01 : b0 ≠ wv.heap.size := by have := Var.lt V0.out; omega
        have V1 := hide hn
        have IQ := hide (IsNat.fr IQ.out (Fr.alloc wv (.cells #[.slice none 0 0] 53)))
        have IR := hide (IsNat.fr IR.out (Fr.alloc wv (.cells #[.slice none 0 0] 53)))
        have V0 := hide (Var.fr V0.out (Fr.alloc wv (.cells #[.slice none 0 0] 53)))
        clear hn
        go_simp
        refine hK.out _ _ ?_ (fun hHeld => ?_)
        · (try dsimp only)
          exact ⟨fr_cell fz.out c4, fz⟩
        (try simp only [Act.put, List.getElem_toArray, List.getElem_cons_zero, List.getElem_cons_succ, List.setIfInBounds_toArray, List.set_cons_zero, List.set_cons_succ])
        have n := N2_01.out ae ce aq cq ar cr b0 wv.heap.size _ hHeld IQ IR Oaq_0 Oaq_1 Oar_0 Oar_1 V0 V1 D01
        rw [hops.out, ha0.out] at n
        (try simp only [Act.put, List.getElem_toArray, List.getElem_cons_zero, List.getElem_cons_succ, List.setIfInBounds_toArray, List.set_cons_zero, List.set_cons_succ] at n)
        exact n
      exact AllReadyH.nil
    have N2_1 : Hid (∀ (ae : Option Addr) (ce : Nat) (aq : Option Addr) (cq : Nat) (ar : Option Addr) (cr : Nat) (b1 : Nat) (wv : World), (fun w' => w'.cell? ⟨w.heap.size, 0, none⟩ = some (.slice a (nlen 4294967296 x) ca) ∧ Hid (Fr w2 w')) wv → (IQ : Hid (IsNat wv (.agg #[.slice aq (nlen 4294967296 (q)) cq]) q)) → (IR : Hid (IsNat wv (.agg #[.slice ar (nlen 4294967296 (r)) cr]) r)) → (Oaq_1 : Off aq (nlen 4294967296 q) b1) → (Oar_1 : Off ar (nlen 4294967296 r) b1) → (V1 : Hid (Var w2 wv b1)) → wpAnyH Tryz.prog .any ops Q (fun w' => w'.cell? ⟨w.heap.size, 0, none⟩ = some (.slice a (nlen 4294967296 x) ca) ∧ Hid (Fr w2 w')) 4 #[true, true, true, true, true, true, true, true, false, true, false, false, false] (((((((((aR.put (some 22) (.agg #[.slice a (nlen 4294967296 (x)) ca])).put (some 23) (.int .i64 lo)).put (some 24) (.agg #[.slice ae (nlen 4294967296 (T)) ce])).put (some 25) (.tuple #[.agg #[.slice aq (nlen 4294967296 (q)) cq], .agg #[.slice ar (nlen 4294967296 (r)) cr], .bool true])).put (some 21) (.tuple #[.agg #[.slice aq (nlen 4294967296 (q)) cq], .agg #[.slice ar (nlen 4294967296 (r)) cr], .bool true])).put (some 26) (.agg #[.slice aq (nlen 4294967296 (q)) cq])).put (some 27) (.agg #[.slice ar (nlen 4294967296 (r)) cr])).put (some 28) (.bool true)).put (some 7) (.pointer (some ⟨b1, 0, none⟩))) wv) := by
      refine hide ?_
      intro ae ce aq cq ar cr b1 wv hHeld IQ IR Oaq_1 Oar_1 V1
      clear N2_0
      rw [hops.out, ha0.out]
      (try simp only [Act.put, List.getElem_toArray, List.getElem_cons_zero, List.getElem_cons_succ, List.setIfInBounds_toArray, List.set_cons_zero, List.set_cons_succ])
      refine wpAnyH_ready (rs := [8]) (by kernel_rfl) (by simp) ?_
      refine AllReadyH.cons rfl (fun K hK => ?_) ?_
      · have hh : Hid (Fr w2 wv) := hHeld.2
        have hn := Var.new (W := w2) (w := wv) (t := 53) hh.out.size
        have fz := hide (hh.out.trans (Fr.alloc wv (.cells #[.slice none 0 0] 53)))
        have Oaq_0 := off_new IQ.out
        have Oar_0 := off_new IR.out
        have D01 : wv.heap.size ≠ b1 := by have := Var.lt V1.out; omega
        have V0 := hide hn
        have IQ := hide (IsNat.fr IQ.out (Fr.alloc wv (.cells #[.slice none 0 0] 53)))
        have IR := hide (IsNat.fr IR.out (Fr.alloc wv (.cells #[.slice none 0 0] 53)))
        have V1 := hide (Var.fr V1.out (Fr.alloc wv (.cells #[.slice none 0 0] 53)))
        clear hn
        go_simp
        refine hK.out _ _ ?_ (fun hHeld => ?_)
        · (try dsimp only)
          exact ⟨fr_cell fz.out c4, fz⟩
        (try simp only [Act.put, List.getElem_toArray, List.getElem_cons_zero, List.getElem_cons_succ, List.setIfInBounds_toArray, List.set_cons_zero, List.set_cons_succ])
        have n := N2_01.out ae ce aq cq ar cr wv.heap.size b1 _ hHeld IQ IR Oaq_0 Oaq_1 Oar_0 Oar_1 V0 V1 D01
        rw [hops.out, ha0.out] at n
        (try simp only [Act.put, List.getElem_toArray, List.getElem_cons_zero, List.getElem_cons_succ, List.setIfInBounds_toArray, List.set_cons_zero, List.set_cons_succ] at n)
        exact n
      exact AllReadyH.nil
    have N2_ : Hid (∀ (ae : Option Addr) (ce : Nat) (aq : Option Addr) (cq : Nat) (ar : Option Addr) (cr : Nat) (wv : World), (fun w' => w'.cell? ⟨w.heap.size, 0, none⟩ = some (.slice a (nlen 4294967296 x) ca) ∧ Hid (Fr w2 w')) wv → (IQ : Hid (IsNat wv (.agg #[.slice aq (nlen 4294967296 (q)) cq]) q)) → (IR : Hid (IsNat wv (.agg #[.slice ar (nlen 4294967296 (r)) cr]) r)) → wpAnyH Tryz.prog .any ops Q (fun w' => w'.cell? ⟨w.heap.size, 0, none⟩ = some (.slice a (nlen 4294967296 x) ca) ∧ Hid (Fr w2 w')) 5 #[true, true, true, true, true, true, true, true, false, false, false, false, false] ((((((((aR.put (some 22) (.agg #[.slice a (nlen 4294967296 (x)) ca])).put (some 23) (.int .i64 lo)).put (some 24) (.agg #[.slice ae (nlen 4294967296 (T)) ce])).put (some 25) (.tuple #[.agg #[.slice aq (nlen 4294967296 (q)) cq], .agg #[.slice ar (nlen 4294967296 (r)) cr], .bool true])).put (some 21) (.tuple #[.agg #[.slice aq (nlen 4294967296 (q)) cq], .agg #[.slice ar (nlen 4294967296 (r)) cr], .bool true])).put (some 26) (.agg #[.slice aq (nlen 4294967296 (q)) cq])).put (some 27) (.agg #[.slice ar (nlen 4294967296 (r)) cr])).put (some 28) (.bool true)) wv) := by
      refine hide ?_
      intro ae ce aq cq ar cr  wv hHeld IQ IR
      clear N2_01
      rw [hops.out, ha0.out]
      (try simp only [Act.put, List.getElem_toArray, List.getElem_cons_zero, List.getElem_cons_succ, List.setIfInBounds_toArray, List.set_cons_zero, List.set_cons_succ])
      refine wpAnyH_ready (rs := [8, 9]) (by kernel_rfl) (by simp) ?_
      refine AllReadyH.cons rfl (fun K hK => ?_) ?_
      · have hh : Hid (Fr w2 wv) := hHeld.2
        have hn := Var.new (W := w2) (w := wv) (t := 53) hh.out.size
        have fz := hide (hh.out.trans (Fr.alloc wv (.cells #[.slice none 0 0] 53)))
        have Oaq_0 := off_new IQ.out
        have Oar_0 := off_new IR.out
        have V0 := hide hn
        have IQ := hide (IsNat.fr IQ.out (Fr.alloc wv (.cells #[.slice none 0 0] 53)))
        have IR := hide (IsNat.fr IR.out (Fr.alloc wv (.cells #[.slice none 0 0] 53)))
        clear hn
        go_simp
        refine hK.out _ _ ?_ (fun hHeld => ?_)
        · (try dsimp only)
          exact ⟨fr_cell fz.out c4, fz⟩
        (try simp only [Act.put, List.getElem_toArray, List.getElem_cons_zero, List.getElem_cons_succ, List.setIfInBounds_toArray, List.set_cons_zero, List.set_cons_succ])
        have n := N2_0.out ae ce aq cq ar cr wv.heap.size _ hHeld IQ IR Oaq_0 Oar_0 V0
        rw [hops.out, ha0.out] at n
        (try simp only [Act.put, List.getElem_toArray, List.getElem_cons_zero, List.getElem_cons_succ, List.setIfInBounds_toArray, List.set_cons_zero, List.set_cons_succ] at n)
        exact n
      refine AllReadyH.cons rfl (fun K hK => ?_) ?_
      · have hh : Hid (Fr w2 wv) := hHeld.2
        have hn := Var.new (W := w2) (w := wv) (t := 53) hh.out.size
        have fz := hide (hh.out.trans (Fr.alloc wv (.cells #[.slice none 0 0] 53)))
        have Oaq_1 := off_new IQ.out
        have Oar_1 := off_new IR.out
        have V1 := hide hn
        have IQ := hide (IsNat.fr IQ.out (Fr.alloc wv (.cells #[.slice none 0 0] 53)))
        have IR := hide (IsNat.fr IR.out (Fr.alloc wv (.cells #[.slice none 0 0] 53)))
        clear hn
        go_simp
        refine hK.out _ _ ?_ (fun hHeld => ?_)
        · (try dsimp only)
          exact ⟨fr_cell fz.out c4, fz⟩
        (try simp only [Act.put, List.getElem_toArray, List.getElem_cons_zero, List.getElem_cons_succ, List.setIfInBounds_toArray, List.set_cons_zero, List.set_cons_succ])
        have n := N2_1.out ae ce aq cq ar cr wv.heap.size _ hHeld IQ IR Oaq_1 Oar_1 V1
        rw [hops.out, ha0.out] at n
        (try simp only [Act.put, List.getElem_toArray, List.getElem_cons_zero, List.getElem_cons_succ, List.setIfInBounds_toArray, List.set_cons_zero, List.set_cons_succ] at n)
        exact n
      exact AllReadyH.nil
    have N1_01 : Hid (∀ (ae : Option Addr) (ce : Nat) (b0 : Nat) (b1 : Nat) (wv : World), (fun w' => w'.cell? ⟨w.heap.size, 0, none⟩ = some (.slice a (nlen 4294967296 x) ca) ∧ Hid (Fr w2 w')) wv → (IT : Hid (IsNat wv (.agg #[.slice ae (nlen 4294967296 (T)) ce]) T)) → (V0 : Hid (Var w2 wv b0)) → (V1 : Hid (Var w2 wv b1)) → (D01 : b0 ≠ b1) → wpAnyH Tryz.prog .any ops Q (fun w' => w'.cell? ⟨w.heap.size, 0, none⟩ = some (.slice a (nlen 4294967296 x) ca) ∧ Hid (Fr w2 w')) 8 #[true, true, true, false, false, false, false, false, true, true, false, false, false] (((((aR.put (some 22) (.agg #[.slice a (nlen 4294967296 (x)) ca])).put (some 23) (.int .i64 lo)).put (some 24) (.agg #[.slice ae (nlen 4294967296 (T)) ce])).put (some 6) (.pointer (some ⟨b0, 0, none⟩))).put (some 7) (.pointer (some ⟨b1, 0, none⟩))) wv) := by
      refine hide ?_
      intro ae ce b0 b1 wv hHeld IT V0 V1 D01
      clear N2_0 N2_1 N2_
      rw [hops.out, ha0.out]
      (try simp only [Act.put, List.getElem_toArray, List.getElem_cons_zero, List.getElem_cons_succ, List.setIfInBounds_toArray, List.set_cons_zero, List.set_cons_succ])
      refine wpAnyH_ready (rs := [3]) (by kernel_rfl) (by simp) ?_
      refine AllReadyH.cons rfl (fun K hK => ?_) ?_
      · have hh : Hid (Fr w2 wv) := hHeld.2
        go_simp
        refine (HDV.out _ _ _ (IsNat.fr HX.out hh.out) IT.out).mono ?_
        rintro e wn ⟨aq, cq, ar, cr, rfl, ⟨iq, lq, fy⟩, ⟨ir, lr, _⟩⟩
        have fz := hide (hh.out.trans fy)
        have IQ := hide iq
        have IR := hide ir
        have Oaq_0 : Off aq (nlen 4294967296 q) b0 := off_old lq (Var.lt V0.out)
        have Oaq_1 : Off aq (nlen 4294967296 q) b1 := off_old lq (Var.lt V1.out)
        have Oar_0 : Off ar (nlen 4294967296 r) b0 := off_old lr (Var.lt V0.out)
        have Oar_1 : Off ar (nlen 4294967296 r) b1 := off_old lr (Var.lt V1.out)
        have V0 := hide (Var.fr V0.out fy)
        have V1 := hide (Var.fr V1.out fy)
        (try go_wp2_with fail)
        refine hK.out _ _ ?_ (fun hHeld => ?_)
        · (try dsimp only)
          exact ⟨fr_cell fz.out c4, fz⟩
        (try simp only [Act.put, List.getElem_toArray, List.getElem_cons_zero, List.getElem_cons_succ, List.setIfInBounds_toArray, List.set_cons_zero, List.set_cons_succ])
        refine wpAnyH_take (i := 4) (v := ?_) rfl (by kernel_rfl) (by kernel_rfl) (by kernel_rfl) (fun _ _ _ h => HPan.out _ _ _ _ _ h) (Or.inl ⟨by rfl, ?_⟩) (by assumption) ?_
        rotate_left
        · (intro w hSw; (try dsimp only at hSw); go_simp; try with_reducible rfl)
        (try simp only [Act.put, List.getElem_toArray, List.getElem_cons_zero, List.getElem_cons_succ, List.setIfInBounds_toArray, List.set_cons_zero, List.set_cons_succ])
        refine wpAnyH_take (i := 5) (v := ?_) rfl (by kernel_rfl) (by kernel_rfl) (by kernel_rfl) (fun _ _ _ h => HPan.out _ _ _ _ _ h) (Or.inl ⟨by rfl, ?_⟩) (by assumption) ?_
        rotate_left
        · (intro w hSw; (try dsimp only at hSw); go_simp; try with_reducible rfl)
        (try simp only [Act.put, List.getElem_toArray, List.getElem_cons_zero, List.getElem_cons_succ, List.setIfInBounds_toArray, List.set_cons_zero, List.set_cons_succ])
        refine wpAnyH_take (i := 6) (v := ?_) rfl (by kernel_rfl) (by kernel_rfl) (by kernel_rfl) (fun _ _ _ h => HPan.out _ _ _ _ _ h) (Or.inl ⟨by rfl, ?_⟩) (by assumption) ?_
        rotate_left
        · (intro w hSw; (try dsimp only at hSw); go_simp; try with_reducible rfl)
        (try simp only [Act.put, List.getElem_toArray, List.getElem_cons_zero, List.getElem_cons_succ, List.setIfInBounds_toArray, List.set_cons_zero, List.set_cons_succ])
        refine wpAnyH_take (i := 7) (v := ?_) rfl (by kernel_rfl) (by kernel_rfl) (by kernel_rfl) (fun _ _ _ h => HPan.out _ _ _ _ _ h) (Or.inl ⟨by rfl, ?_⟩) (by assumption) ?_
        rotate_left
        · (intro w hSw; (try dsimp only at hSw); go_simp; try with_reducible rfl)
        (try simp only [Act.put, List.getElem_toArray, List.getElem_cons_zero, List.getElem_cons_succ, List.setIfInBounds_toArray, List.set_cons_zero, List.set_cons_succ])
        have n := N2_01.out ae ce aq cq ar cr b0 b1 wn hHeld IQ IR Oaq_0 Oaq_1 Oar_0 Oar_1 V0 V1 D01
        rw [hops.out, ha0.out] at n
        (try simp only [Act.put, List.getElem_toArray, List.getElem_cons_zero, List.getElem_cons_succ, List.setIfInBounds_toArray, List.set_cons_zero, List.set_cons_succ] at n)
        exact n
      exact AllReadyH.nil
    have N1_0 : Hid (∀ (ae : Option Addr) (ce : Nat) (b0 : Nat) (wv : World), (fun w' => w'.cell? ⟨w.heap.size, 0, none⟩ = some (.slice a (nlen 4294967296 x) ca) ∧ Hid (Fr w2 w')) wv → (IT : Hid (IsNat wv (.agg #[.slice ae (nlen 4294967296 (T)) ce]) T)) → (V0 : Hid (Var w2 wv b0)) → wpAnyH Tryz.prog .any ops Q (fun w' => w'.cell? ⟨w.heap.size, 0, none⟩ = some (.slice a (nlen 4294967296 x) ca) ∧ Hid (Fr w2 w')) 9 #[true, true, true, false, false, false, false, false, true, false, false, false, false] ((((aR.put (some 22) (.agg #[.slice a (nlen 4294967296 (x)) ca])).put (some 23) (.int .i64 lo)).put (some 24) (.agg #[.slice ae (nlen 4294967296 (T)) ce])).put (some 6) (.pointer (some ⟨b0, 0, none⟩))) wv) := by
      refine hide ?_
      intro ae ce b0 wv hHeld IT V0
      clear N2_01 N2_1 N2_
      rw [hops.out, ha0.out]
      (try simp only [Act.put, List.getElem_toArray, List.getElem_cons_zero, List.getElem_cons_succ, List.setIfInBounds_toArray, List.set_cons_zero, List.set_cons_succ])
      refine wpAnyH_ready (rs := [3, 9]) (by kernel_rfl) (by simp) ?_
      refine AllReadyH.cons rfl (fun K hK => ?_) ?_
      · have hh : Hid (Fr w2 wv) := hHeld.2
        go_simp
        refine (HDV.out _ _ _ (IsNat.fr HX.out hh.out) IT.out).mono ?_
        rintro e wn ⟨aq, cq, ar, cr, rfl, ⟨iq, lq, fy⟩, ⟨ir, lr, _⟩⟩
        have fz := hide (hh.out.trans fy)
        have IQ := hide iq
        have IR := hide ir
        have Oaq_0 : Off aq (nlen 4294967296 q) b0 := off_old lq (Var.lt V0.out)
        have Oar_0 : Off ar (nlen 4294967296 r) b0 := off_old lr (Var.lt V0.out)
        have V0 := hide (Var.fr V0.out fy)
        (try go_wp2_with fail)
        refine hK.out _ _ ?_ (fun hHeld => ?_)
        · (try dsimp only)
          exact ⟨fr_cell fz.out c4, fz⟩
        (try simp only [Act.put, List.getElem_toArray, List.getElem_cons_zero, List.getElem_cons_succ, List.setIfInBounds_toArray, List.set_cons_zero, List.set_cons_succ])
        refine wpAnyH_take (i := 4) (v := ?_) rfl (by kernel_rfl) (by kernel_rfl) (by kernel_rfl) (fun _ _ _ h => HPan.out _ _ _ _ _ h) (Or.inl ⟨by rfl, ?_⟩) (by assumption) ?_
        rotate_left
        · (intro w hSw; (try dsimp only at hSw); go_simp; try with_reducible rfl)
        (try simp only [Act.put, List.getElem_toArray, List.getElem_cons_zero, List.getElem_cons_succ, List.setIfInBounds_toArray, List.set_cons_zero, List.set_cons_succ])
        refine wpAnyH_take (i := 5) (v := ?_) rfl (by kernel_rfl) (by kernel_rfl) (by kernel_rfl) (fun _ _ _ h => HPan.out _ _ _ _ _ h) (Or.inl ⟨by rfl, ?_⟩) (by assumption) ?_
        rotate_left
        · (intro w hSw; (try dsimp only at hSw); go_simp; try with_reducible rfl)
        (try simp only [Act.put, List.getElem_toArray, List.getElem_cons_zero, List.getElem_cons_succ, List.setIfInBounds_toArray, List.set_cons_zero, List.set_cons_succ])
        refine wpAnyH_take (i := 6) (v := ?_) rfl (by kernel_rfl) (by kernel_rfl) (by kernel_rfl) (fun _ _ _ h => HPan.out _ _ _ _ _ h) (Or.inl ⟨by rfl, ?_⟩) (by assumption) ?_
        rotate_left
        · (intro w hSw; (try dsimp only at hSw); go_simp; try with_reducible rfl)
        (try simp only [Act.put, List.getElem_toArray, List.getElem_cons_zero, List.getElem_cons_succ, List.setIfInBounds_toArray, List.set_cons_zero, List.set_cons_succ])
        refine wpAnyH_take (i := 7) (v := ?_) rfl (by kernel_rfl) (by kernel_rfl) (by kernel_rfl) (fun _ _ _ h => HPan.out _ _ _ _ _ h) (Or.inl ⟨by rfl, ?_⟩) (by assumption) ?_
        rotate_left
        · (intro w hSw; (try dsimp only at hSw); go_simp; try with_reducible rfl)
        (try simp only [Act.put, List.getElem_toArray, List.getElem_cons_zero, List.getElem_cons_succ, List.setIfInBounds_toArray, List.set_cons_zero, List.set_cons_succ])
        have n := N2_0.out ae ce aq cq ar cr b0 wn hHeld IQ IR Oaq_0 Oar_0 V0
        rw [hops.out, ha0.out] at n
        (try simp only [Act.put, List.getElem_toArray, List.getElem_cons_zero, List.getElem_cons_succ, List.setIfInBounds_toArray, List.set_cons_zero, List.set_cons_succ] at n)
        exact n
      refine AllReadyH.cons rfl (fun K hK => ?_) ?_
      · have hh : Hid (Fr w2 wv) := hHeld.2
        have hn := Var.new (W := w2) (w := wv) (t := 53) hh.out.size
        have fz := hide (hh.out.trans (Fr.alloc wv (.cells #[.slice none 0 0] 53)))
        have D01 : b0 ≠ wv.heap.size := by have := Var.lt V0.out; omega
        have V1 := hide hn
        have IT := hide (IsNat.fr IT.out (Fr.alloc wv (.cells #[.slice none 0 0] 53)))
        have V0 := hide (Var.fr V0.out (Fr.alloc wv (.cells #[.slice none 0 0] 53)))
        clear hn
        go_simp
        refine hK.out _ _ ?_ (fun hHeld => ?_)
        · (try dsimp only)
          exact ⟨fr_cell fz.out c4, fz⟩
        (try simp only [Act.put, List.getElem_toArray, List.getElem_cons_zero, List.getElem_cons_succ, List.setIfInBounds_toArray, List.set_cons_zero, List.set_cons_succ])
        have n := N1_01.out ae ce b0 wv.heap.size _ hHeld IT V0 V1 D01
        rw [hops.out, ha0.out] at n
        (try simp only [Act.put, List.getElem_toArray, List.getElem_cons_zero, List.getElem_cons_succ, List.setIfInBounds_toArray, List.set_cons_zero, List.set_cons_succ] at n)
        exact n
      exact AllReadyH.nil
    have N1_1 : Hid (∀ (ae : Option Addr) (ce : Nat) (b1 : Nat) (wv : World), (fun w' => w'.cell? ⟨w.heap.size, 0, none⟩ = some (.slice a (nlen 4294967296 x) ca) ∧ Hid (Fr w2 w')) wv → (IT : Hid (IsNat wv (.agg #[.slice ae (nlen 4294967296 (T)) ce]) T)) → (V1 : Hid (Var w2 wv b1)) → wpAnyH Tryz.prog .any ops Q (fun w' => w'.cell? ⟨w.heap.size, 0, none⟩ = some (.slice a (nlen 4294967296 x) ca) ∧ Hid (Fr w2 w')) 9 #[true, true, true, false, false, false, false, false, false, true, false, false, false] ((((aR.put (some 22) (.agg #[.slice a (nlen 4294967296 (x)) ca])).put (some 23) (.int .i64 lo)).put (some 24) (.agg #[.slice ae (nlen 4294967296 (T)) ce])).put (some 7) (.pointer (some ⟨b1, 0, none⟩))) wv) := by
      refine hide ?_
      intro ae ce b1 wv hHeld IT V1
      clear N2_01 N2_0 N2_ N1_0
      rw [hops.out, ha0.out]
      (try simp only [Act.put, List.getElem_toArray, List.getElem_cons_zero, List.getElem_cons_succ, List.setIfInBounds_toArray, List.set_cons_zero, List.set_cons_succ])
      refine wpAnyH_ready (rs := [3, 8]) (by kernel_rfl) (by simp) ?_
      refine AllReadyH.cons rfl (fun K hK => ?_) ?_
      · have hh : Hid (Fr w2 wv) := hHeld.2
        go_simp
        refine (HDV.out _ _ _ (IsNat.fr HX.out hh.out) IT.out).mono ?_
        rintro e wn ⟨aq, cq, ar, cr, rfl, ⟨iq, lq, fy⟩, ⟨ir, lr, _⟩⟩
        have fz := hide (hh.out.trans fy)
        have IQ := hide iq
        have IR := hide ir
        have Oaq_1 : Off aq (nlen 4294967296 q) b1 := off_old lq (Var.lt V1.out)
        have Oar_1 : Off ar (nlen 4294967296 r) b1 := off_old lr (Var.lt V1.out)
        have V1 := hide (Var.fr V1.out fy)
        (try go_wp2_with fail)
        refine hK.out _ _ ?_ (fun hHeld => ?_)
        · (try dsimp only)
          exact ⟨fr_cell fz.out c4, fz⟩
        (try simp only [Act.put, List.getElem_toArray, List.getElem_cons_zero, List.getElem_cons_succ, List.setIfInBounds_toArray, List.set_cons_zero, List.set_cons_succ])
        refine wpAnyH_take (i := 4) (v := ?_) rfl (by kernel_rfl) (by kernel_rfl) (by kernel_rfl) (fun _ _ _ h => HPan.out _ _ _ _ _ h) (Or.inl ⟨by rfl, ?_⟩) (by assumption) ?_
        rotate_left
        · (intro w hSw; (try dsimp only at hSw); go_simp; try with_reducible rfl)
        (try simp only [Act.put, List.getElem_toArray, List.getElem_cons_zero, List.getElem_cons_succ, List.setIfInBounds_toArray, List.set_cons_zero, List.set_cons_succ])
        refine wpAnyH_take (i := 5) (v := ?_) rfl (by kernel_rfl) (by kernel_rfl) (by kernel_rfl) (fun _ _ _ h => HPan.out _ _ _ _ _ h) (Or.inl ⟨by rfl, ?_⟩) (by assumption) ?_
        rotate_left
        · (intro w hSw; (try dsimp only at hSw); go_simp; try with_reducible rfl)
        (try simp only [Act.put, List.getElem_toArray, List.getElem_cons_zero, List.getElem_cons_succ, List.setIfInBounds_toArray, List.set_cons_zero, List.set_cons_succ])
        refine wpAnyH_take (i := 6) (v := ?_) rfl (by kernel_rfl) (by kernel_rfl) (by kernel_rfl) (fun _ _ _ h => HPan.out _ _ _ _ _ h) (Or.inl ⟨by rfl, ?_⟩) (by assumption) ?_
        rotate_left
        · (intro w hSw; (try dsimp only at hSw); go_simp; try with_reducible rfl)
        (try simp only [Act.put, List.getElem_toArray, List.getElem_cons_zero, List.getElem_cons_succ, List.setIfInBounds_toArray, List.set_cons_zero, List.set_cons_succ])
        refine wpAnyH_take (i := 7) (v := ?_) rfl (by kernel_rfl) (by kernel_rfl) (by kernel_rfl) (fun _ _ _ h => HPan.out _ _ _ _ _ h) (Or.inl ⟨by rfl, ?_⟩) (by assumption) ?_
        rotate_left
        · (intro w hSw; (try dsimp only at hSw); go_simp; try with_reducible rfl)
        (try simp only [Act.put, List.getElem_toArray, List.getElem_cons_zero, List.getElem_cons_succ, List.setIfInBounds_toArray, List.set_cons_zero, List.set_cons_succ])
        have n := N2_1.out ae ce aq cq ar cr b1 wn hHeld IQ IR Oaq_1 Oar_1 V1
        rw [hops.out, ha0.out] at n
        (try simp only [Act.put, List.getElem_toArray, List.getElem_cons_zero, List.getElem_cons_succ, List.setIfInBounds_toArray, List.set_cons_zero, List.set_cons_succ] at n)
        exact n
      refine AllReadyH.cons rfl (fun K hK => ?_) ?_
      · have hh : Hid (Fr w2 wv) := hHeld.2
        have hn := Var.new (W := w2) (w := wv) (t := 53) hh.out.size
        have fz := hide (hh.out.trans (Fr.alloc wv (.cells #[.slice none 0 0] 53)))
        have D01 : wv.heap.size ≠ b1 := by have := Var.lt V1.out; omega
        have V0 := hide hn
        have IT := hide (IsNat.fr IT.out (Fr.alloc wv (.cells #[.slice none 0 0] 53)))
        have V1 := hide (Var.fr V1.out (Fr.alloc wv (.cells #[.slice none 0 0] 53)))
        clear hn
        go_simp
        refine hK.out _ _ ?_ (fun hHeld => ?_)
        · (try dsimp only)
          exact ⟨fr_cell fz.out c4, fz⟩
        (try simp only [Act.put, List.getElem_toArray, List.getElem_cons_zero, List.getElem_cons_succ, List.setIfInBounds_toArray, List.set_cons_zero, List.set_cons_succ])
        have n := N1_01.out ae ce wv.heap.size b1 _ hHeld IT V0 V1 D01
        rw [hops.out, ha0.out] at n
        (try simp only [Act.put, List.getElem_toArray, List.getElem_cons_zero, List.getElem_cons_succ, List.setIfInBounds_toArray, List.set_cons_zero, List.set_cons_succ] at n)
        exact n
      exact AllReadyH.nil
    have N1_ : Hid (∀ (ae : Option Addr) (ce : Nat) (wv : World), (fun w' => w'.cell? ⟨w.heap.size, 0, none⟩ = some (.slice a (nlen 4294967296 x) ca) ∧ Hid (Fr w2 w')) wv → (IT : Hid (IsNat wv (.agg #[.slice ae (nlen 4294967296 (T)) ce]) T)) → wpAnyH Tryz.prog .any ops Q (fun w' => w'.cell? ⟨w.heap.size, 0, none⟩ = some (.slice a (nlen 4294967296 x) ca) ∧ Hid (Fr w2 w')) 10 #[true, true, true, false, false, false, false, false, false, false, false, false, false] (((aR.put (some 22) (.agg #[.slice a (nlen 4294967296 (x)) ca])).put (some 23) (.int .i64 lo)).put (some 24) (.agg #[.slice ae (nlen 4294967296 (T)) ce])) wv) := by
      refine hide ?_
      intro ae ce  wv hHeld IT
      clear N2_01 N2_0 N2_1 N1_01
      rw [hops.out, ha0.out]
      (try simp only [Act.put, List.getElem_toArray, List.getElem_cons_zero, List.getElem_cons_succ, List.setIfInBounds_toArray, List.set_cons_zero, List.set_cons_succ])
      refine wpAnyH_ready (rs := [3, 8, 9]) (by kernel_rfl) (by simp) ?_
      refine AllReadyH.cons rfl (fun K hK => ?_) ?_
      · have hh : Hid (Fr w2 wv) := hHeld.2
        go_simp
        refine (HDV.out _ _ _ (IsNat.fr HX.out hh.out) IT.out).mono ?_
        rintro e wn ⟨aq, cq, ar, cr, rfl, ⟨iq, lq, fy⟩, ⟨ir, lr, _⟩⟩
        have fz := hide (hh.out.trans fy)
        have IQ := hide iq
        have IR := hide ir
        (try go_wp2_with fail)
        refine hK.out _ _ ?_ (fun hHeld => ?_)
        · (try dsimp only)
          exact ⟨fr_cell fz.out c4, fz⟩
        (try simp only [Act.put, List.getElem_toArray, List.getElem_cons_zero, List.getElem_cons_succ, List.setIfInBounds_toArray, List.set_cons_zero, List.set_cons_succ])
        refine wpAnyH_take (i := 4) (v := ?_) rfl (by kernel_rfl) (by kernel_rfl) (by kernel_rfl) (fun _ _ _ h => HPan.out _ _ _ _ _ h) (Or.inl ⟨by rfl, ?_⟩) (by assumption) ?_
        rotate_left
        · (intro w hSw; (try dsimp only at hSw); go_simp; try with_reducible rfl)
        (try simp only [Act.put, List.getElem_toArray, List.getElem_cons_zero, List.getElem_cons_succ, List.setIfInBounds_toArray, List.set_cons_zero, List.set_cons_succ])
        refine wpAnyH_take (i := 5) (v := ?_) rfl (by kernel_rfl) (by kernel_rfl) (by kernel_rfl) (fun _ _ _ h => HPan.out _ _ _ _ _ h) (Or.inl ⟨by rfl, ?_⟩) (by assumption) ?_
        rotate_left
        · (intro w hSw; (try dsimp only at hSw); go_simp; try with_reducible rfl)
        (try simp only [Act.put, List.getElem_toArray, List.getElem_cons_zero, List.getElem_cons_succ, List.setIfInBounds_toArray, List.set_cons_zero, List.set_cons_succ])
        refine wpAnyH_take (i := 6) (v := ?_) rfl (by kernel_rfl) (by kernel_rfl) (by kernel_rfl) (fun _ _ _ h => HPan.out _ _ _ _ _ h) (Or.inl ⟨by rfl, ?_⟩) (by assumption) ?_
        rotate_left
        · (intro w hSw; (try dsimp only at hSw); go_simp; try with_reducible rfl)
        (try simp only [Act.put, List.getElem_toArray, List.getElem_cons_zero, List.getElem_cons_succ, List.setIfInBounds_toArray, List.set_cons_zero, List.set_cons_succ])
        refine wpAnyH_take (i := 7) (v := ?_) rfl (by kernel_rfl) (by kernel_rfl) (by kernel_rfl) (fun _ _ _ h => HPan.out _ _ _ _ _ h) (Or.inl ⟨by rfl, ?_⟩) (by assumption) ?_
        rotate_left
        · (intro w hSw; (try dsimp only at hSw); go_simp; try with_reducible rfl)
        (try simp only [Act.put, List.getElem_toArray, List.getElem_cons_zero, List.getElem_cons_succ, List.setIfInBounds_toArray, List.set_cons_zero, List.set_cons_succ])
        have n := N2_.out ae ce aq cq ar cr wn hHeld IQ IR
        rw [hops.out, ha0.out] at n
        (try simp only [Act.put, List.getElem_toArray, List.getElem_cons_zero, List.getElem_cons_succ, List.setIfInBounds_toArray, List.set_cons_zero, List.set_cons_succ] at n)
        exact n
      refine AllReadyH.cons rfl (fun K hK => ?_) ?_
      · have hh : Hid (Fr w2 wv) := hHeld.2
        have hn := Var.new (W := w2) (w := wv) (t := 53) hh.out.size
        have fz := hide (hh.out.trans (Fr.alloc wv (.cells #[.slice none 0 0] 53)))
        have V0 := hide hn
        have IT := hide (IsNat.fr IT.out (Fr.alloc wv (.cells #[.slice none 0 0] 53)))
        clear hn
        go_simp
        refine hK.out _ _ ?_ (fun hHeld => ?_)
        · (try dsimp only)
          exact ⟨fr_cell fz.out c4, fz⟩
        (try simp only [Act.put, List.getElem_toArray, List.getElem_cons_zero, List.getElem_cons_succ, List.setIfInBounds_toArray, List.set_cons_zero, List.set_cons_succ])
        have n := N1_0.out ae ce wv.heap.size _ hHeld IT V0
        rw [hops.out, ha0.out] at n
        (try simp only [Act.put, List.getElem_toArray, List.getElem_cons_zero, List.getElem_cons_succ, List.setIfInBounds_toArray, List.set_cons_zero, List.set_cons_succ] at n)
        exact n
      refine AllReadyH.cons rfl (fun K hK => ?_) ?_
      · have hh : Hid (Fr w2 wv) := hHeld.2
        have hn := Var.new (W := w2) (w := wv) (t := 53) hh.out.size
        have fz := hide (hh.out.trans (Fr.alloc wv (.cells #[.slice none 0 0] 53)))
        have V1 := hide hn
        have IT := hide (IsNat.fr IT.out (Fr.alloc wv (.cells #[.slice none 0 0] 53)))
        clear hn
        go_simp
        refine hK.out _ _ ?_ (fun hHeld => ?_)
        · (try dsimp only)
          exact ⟨fr_cell fz.out c4, fz⟩
        (try simp only [Act.put, List.getElem_toArray, List.getElem_cons_zero, List.getElem_cons_succ, List.setIfInBounds_toArray, List.set_cons_zero, List.set_cons_succ])
        have n := N1_1.out ae ce wv.heap.size _ hHeld IT V1
        rw [hops.out, ha0.out] at n
        (try simp only [Act.put, List.getElem_toArray, List.getElem_cons_zero, List.getElem_cons_succ, List.setIfInBounds_toArray, List.set_cons_zero, List.set_cons_succ] at n)
        exact n
      exact AllReadyH.nil
    have N0_01 : Hid (∀ (b0 : Nat) (b1 : Nat) (wv : World), (fun w' => w'.cell? ⟨w.heap.size, 0, none⟩ = some (.slice a (nlen 4294967296 x) ca) ∧ Hid (Fr w2 w')) wv → (V0 : Hid (Var w2 wv b0)) → (V1 : Hid (Var w2 wv b1)) → (D01 : b0 ≠ b1) → wpAnyH Tryz.prog .any ops Q (fun w' => w'.cell? ⟨w.heap.size, 0, none⟩ = some (.slice a (nlen 4294967296 x) ca) ∧ Hid (Fr w2 w')) 9 #[true, true, false, false, false, false, false, false, true, true, false, false, false] ((((aR.put (some 22) (.agg #[.slice a (nlen 4294967296 (x)) ca])).put (some 23) (.int .i64 lo)).put (some 6) (.pointer (some ⟨b0, 0, none⟩))).put (some 7) (.pointer (some ⟨b1, 0, none⟩))) wv) := by
      refine hide ?_
      intro  b0 b1 wv hHeld V0 V1 D01
      clear N2_01 N2_0 N2_1 N2_ N1_0 N1_1 N1_
      rw [hops.out, ha0.out]
      (try simp only [Act.put, List.getElem_toArray, List.getElem_cons_zero, List.getElem_cons_succ, List.setIfInBounds_toArray, List.set_cons_zero, List.set_cons_succ])
      refine wpAnyH_ready (rs := [2]) (by kernel_rfl) (by simp) ?_
      refine AllReadyH.cons rfl (fun K hK => ?_) ?_
      · have hh : Hid (Fr w2 wv) := hHeld.2
        go_simp
        refine (HT.out _).mono ?_
        rintro e wn ⟨ae, ce, rfl, it, fy⟩
        have fz := hide (hh.out.trans fy)
        have IT := hide it
        have V0 := hide (Var.fr V0.out fy)
        have V1 := hide (Var.fr V1.out fy)
        (try go_wp2_with fail)
        refine hK.out _ _ ?_ (fun hHeld => ?_)
        · (try dsimp only)
          exact ⟨fr_cell fz.out c4, fz⟩
        (try simp only [Act.put, List.getElem_toArray, List.getElem_cons_zero, List.getElem_cons_succ, List.setIfInBounds_toArray, List.set_cons_zero, List.set_cons_succ])
        have n := N1_01.out ae ce b0 b1 wn hHeld IT V0 V1 D01
        rw [hops.out, ha0.out] at n
        (try simp only [Act.put, List.getElem_toArray, List.getElem_cons_zero, List.getElem_cons_succ, List.setIfInBounds_toArray, List.set_cons_zero, List.set_cons_succ] at n)
        exact n
      exact AllReadyH.nil
    have N0_0 : Hid (∀ (b0 : Nat) (wv : World), (fun w' => w'.cell? ⟨w.heap.size, 0, none⟩ = some (.slice a (nlen 4294967296 x) ca) ∧ Hid (Fr w2 w')) wv → (V0 : Hid (Var w2 wv b0)) → wpAnyH Tryz.prog .any ops Q (fun w' => w'.cell? ⟨w.heap.size, 0, none⟩ = some (.slice a (nlen 4294967296 x) ca) ∧ Hid (Fr w2 w')) 10 #[true, true, false, false, false, false, false, false, true, false, false, false, false] (((aR.put (some 22) (.agg #[.slice a (nlen 4294967296 (x)) ca])).put (some 23) (.int .i64 lo)).put (some 6) (.pointer (some ⟨b0, 0, none⟩))) wv) := by
      refine hide ?_
      intro  b0 wv hHeld V0
      clear N2_01 N2_0 N2_1 N2_ N1_01 N1_1 N1_
      rw [hops.out, ha0.out]
      (try simp only [Act.put, List.getElem_toArray, List.getElem_cons_zero, List.getElem_cons_succ, List.setIfInBounds_toArray, List.set_cons_zero, List.set_cons_succ])
      refine wpAnyH_ready (rs := [2, 9]) (by kernel_rfl) (by simp) ?_
      refine AllReadyH.cons rfl (fun K hK => ?_) ?_
      · have hh : Hid (Fr w2 wv) := hHeld.2
        go_simp
        refine (HT.out _).mono ?_
        rintro e wn ⟨ae, ce, rfl, it, fy⟩
        have fz := hide (hh.out.trans fy)
        have IT := hide it
        have V0 := hide (Var.fr V0.out fy)
        (try go_wp2_with fail)
        refine hK.out _ _ ?_ (fun hHeld => ?_)
        · (try dsimp only)
          exact ⟨fr_cell fz.out c4, fz⟩
        (try simp only [Act.put, List.getElem_toArray, List.getElem_cons_zero, List.getElem_cons_succ, List.setIfInBounds_toArray, List.set_cons_zero, List.set_cons_succ])
        have n := N1_0.out ae ce b0 wn hHeld IT V0
        rw [hops.out, ha0.out] at n
        (try simp only [Act.put, List.getElem_toArray, List.getElem_cons_zero, List.getElem_cons_succ, List.setIfInBounds_toArray, List.set_cons_zero, List.set_cons_succ] at n)
        exact n
      refine AllReadyH.cons rfl (fun K hK => ?_) ?_
      · have hh : Hid (Fr w2 wv) := hHeld.2
        have hn := Var.new (W := w2) (w := wv) (t := 53) hh.out.size
        have fz := hide (hh.out.trans (Fr.alloc wv (.cells #[.slice none 0 0] 53)))
        have D01 : b0 ≠ wv.heap.size := by have := Var.lt V0.out; omega
        have V1 := hide hn
        have V0 := hide (Var.fr V0.out (Fr.alloc wv (.cells #[.slice none 0 0] 53)))
        clear hn
        go_simp
        refine hK.out _ _ ?_ (fun hHeld => ?_)
        · (try dsimp only)
          exact ⟨fr_cell fz.out c4, fz⟩
        (try simp only [Act.put, List.getElem_toArray, List.getElem_cons_zero, List.getElem_cons_succ, List.setIfInBounds_toArray, List.set_cons_zero, List.set_cons_succ])
        have n := N0_01.out b0 wv.heap.size _ hHeld V0 V1 D01
        rw [hops.out, ha0.out] at n
        (try simp only [Act.put, List.getElem_toArray, List.getElem_cons_zero, List.getElem_cons_succ, List.setIfInBounds_toArray, List.set_cons_zero, List.set_cons_succ] at n)
        exact n
      exact AllReadyH.nil
    have N0_1 : Hid (∀ (b1 : Nat) (wv : World), (fun w' => w'.cell? ⟨w.heap.size, 0, none⟩ = some (.slice a (nlen 4294967296 x) ca) ∧ Hid (Fr w2 w')) wv → (V1 : Hid (Var w2 wv b1)) → wpAnyH Tryz.prog .any ops Q (fun w' => w'.cell? ⟨w.heap.size, 0, none⟩ = some (.slice a (nlen 4294967296 x) ca) ∧ Hid (Fr w2 w')) 10 #[true, true, false, false, false, false, false, false, false, true, false, false, false] (((aR.put (some 22) (.agg #[.slice a (nlen 4294967296 (x)) ca])).put (some 23) (.int .i64 lo)).put (some 7) (.pointer (some ⟨b1, 0, none⟩))) wv) := by
      refine hide ?_
      intro  b1 wv hHeld V1
      clear N2_01 N2_0 N2_1 N2_ N1_01 N1_0 N1_ N0_0
      rw [hops.out, ha0.out]
      (try simp only [Act.put, List.getElem_toArray, List.getElem_cons_zero, List.getElem_cons_succ, List.setIfInBounds_toArray, List.set_cons_zero, List.set_cons_succ])
      refine wpAnyH_ready (rs := [2, 8]) (by kernel_rfl) (by simp) ?_
      refine AllReadyH.cons rfl (fun K hK => ?_) ?_
      · have hh : Hid (Fr w2 wv) := hHeld.2
        go_simp
        refine (HT.out _).mono ?_
        rintro e wn ⟨ae, ce, rfl, it, fy⟩
        have fz := hide (hh.out.trans fy)
        have IT := hide it
        have V1 := hide (Var.fr V1.out fy)
        (try go_wp2_with fail)
        refine hK.out _ _ ?_ (fun hHeld => ?_)
        · (try dsimp only)
          exact ⟨fr_cell fz.out c4, fz⟩
        (try simp only [Act.put, List.getElem_toArray, List.getElem_cons_zero, List.getElem_cons_succ, List.setIfInBounds_toArray, List.set_cons_zero, List.set_cons_succ])
        have n := N1_1.out ae ce b1 wn hHeld IT V1
        rw [hops.out, ha0.out] at n
        (try simp only [Act.put, List.getElem_toArray, List.getElem_cons_zero, List.getElem_cons_succ, List.setIfInBounds_toArray, List.set_cons_zero, List.set_cons_succ] at n)
        exact n
      refine AllReadyH.cons rfl (fun K hK => ?_) ?_
      · have hh : Hid (Fr w2 wv) := hHeld.2
        have hn := Var.new (W := w2) (w := wv) (t := 53) hh.out.size
        have fz := hide (hh.out.trans (Fr.alloc wv (.cells #[.slice none 0 0] 53)))
        have D01 : wv.heap.size ≠ b1 := by have := Var.lt V1.out; omega
        have V0 := hide hn
        have V1 := hide (Var.fr V1.out (Fr.alloc wv (.cells #[.slice none 0 0] 53)))
        clear hn
        go_simp
        refine hK.out _ _ ?_ (fun hHeld => ?_)
        · (try dsimp only)
          exact ⟨fr_cell fz.out c4, fz⟩
        (try simp only [Act.put, List.getElem_toArray, List.getElem_cons_zero, List.getElem_cons_succ, List.setIfInBounds_toArray, List.set_cons_zero, List.set_cons_succ])
        have n := N0_01.out wv.heap.size b1 _ hHeld V0 V1 D01
        rw [hops.out, ha0.out] at n
        (try simp only [Act.put, List.getElem_toArray, List.getElem_cons_zero, List.getElem_cons_succ, List.setIfInBounds_toArray, List.set_cons_zero, List.set_cons_succ] at n)
        exact n
      exact AllReadyH.nil
    have N0_ : Hid (∀ (wv : World), (fun w' => w'.cell? ⟨w.heap.size, 0, none⟩ = some (.slice a (nlen 4294967296 x) ca) ∧ Hid (Fr w2 w')) wv → wpAnyH Tryz.prog .any ops Q (fun w' => w'.cell? ⟨w.heap.size, 0, none⟩ = some (.slice a (nlen 4294967296 x) ca) ∧ Hid (Fr w2 w')) 11 #[true, true, false, false, false, false, false, false, false, false, false, false, false] ((aR.put (some 22) (.agg #[.slice a (nlen 4294967296 (x)) ca])).put (some 23) (.int .i64 lo)) wv) := by
      refine hide ?_
      intro   wv hHeld 
      clear N2_01 N2_0 N2_1 N2_ N1_01 N1_0 N1_1 N0_01
      rw [hops.out, ha0.out]
      (try simp only [Act.put, List.getElem_toArray, List.getElem_cons_zero, List.getElem_cons_succ, List.setIfInBounds_toArray, List.set_cons_zero, List.set_cons_succ])
      refine wpAnyH_ready (rs := [2, 8, 9]) (by kernel_rfl) (by simp) ?_
      refine AllReadyH.cons rfl (fun K hK => ?_) ?_
      · have hh : Hid (Fr w2 wv) := hHeld.2
        go_simp
        refine (HT.out _).mono ?_
        rintro e wn ⟨ae, ce, rfl, it, fy⟩
        have fz := hide (hh.out.trans fy)
        have IT := hide it
        (try go_wp2_with fail)
        refine hK.out _ _ ?_ (fun hHeld => ?_)
        · (try dsimp only)
          exact ⟨fr_cell fz.out c4, fz⟩
        (try simp only [Act.put, List.getElem_toArray, List.getElem_cons_zero, List.getElem_cons_succ, List.setIfInBounds_toArray, List.set_cons_zero, List.set_cons_succ])
        have n := N1_.out ae ce wn hHeld IT
        rw [hops.out, ha0.out] at n
        (try simp only [Act.put, List.getElem_toArray, List.getElem_cons_zero, List.getElem_cons_succ, List.setIfInBounds_toArray, List.set_cons_zero, List.set_cons_succ] at n)
        exact n
      refine AllReadyH.cons rfl (fun K hK => ?_) ?_
      · have hh : Hid (Fr w2 wv) := hHeld.2
        have hn := Var.new (W := w2) (w := wv) (t := 53) hh.out.size
        have fz := hide (hh.out.trans (Fr.alloc wv (.cells #[.slice none 0 0] 53)))
        have V0 := hide hn
        clear hn
        go_simp
        refine hK.out _ _ ?_ (fun hHeld => ?_)
        · (try dsimp only)
          exact ⟨fr_cell fz.out c4, fz⟩
        (try simp only [Act.put, List.getElem_toArray, List.getElem_cons_zero, List.getElem_cons_succ, List.setIfInBounds_toArray, List.set_cons_zero, List.set_cons_succ])
        have n := N0_0.out wv.heap.size _ hHeld V0
        rw [hops.out, ha0.out] at n
        (try simp only [Act.put, List.getElem_toArray, List.getElem_cons_zero, List.getElem_cons_succ, List.setIfInBounds_toArray, List.set_cons_zero, List.set_cons_succ] at n)
        exact n
      refine AllReadyH.cons rfl (fun K hK => ?_) ?_
      · have hh : Hid (Fr w2 wv) := hHeld.2
        have hn := Var.new (W := w2) (w := wv) (t := 53) hh.out.size
        have fz := hide (hh.out.trans (Fr.alloc wv (.cells #[.slice none 0 0] 53)))
        have V1 := hide hn
        clear hn
        go_simp
        refine hK.out _ _ ?_ (fun hHeld => ?_)
        · (try dsimp only)
          exact ⟨fr_cell fz.out c4, fz⟩
        (try simp only [Act.put, List.getElem_toArray, List.getElem_cons_zero, List.getElem_cons_succ, List.setIfInBounds_toArray, List.set_cons_zero, List.set_cons_succ])
        have n := N0_1.out wv.heap.size _ hHeld V1
        rw [hops.out, ha0.out] at n
        (try simp only [Act.put, List.getElem_toArray, List.getElem_cons_zero, List.getElem_cons_succ, List.setIfInBounds_toArray, List.set_cons_zero, List.set_cons_succ] at n)
        exact n
      exact AllReadyH.nil
    clear N2_01 N2_0 N2_1 N2_ N1_01 N1_0 N1_1 N1_ N0_01 N0_0 N0_1
    rw [hops.out, ha0.out]
    have hHeld := hHeld0
    refine wpAnyH_take (i := 0) (v := ?_) rfl (by kernel_rfl) (by kernel_rfl) (by kernel_rfl) (fun _ _ _ h => HPan.out _ _ _ _ _ h) (Or.inl ⟨by rfl, ?_⟩) (by assumption) ?_
    rotate_left
    · (intro w hSw; (try dsimp only at hSw); go_simp; try with_reducible rfl)
    (try simp only [Act.put, List.getElem_toArray, List.getElem_cons_zero, List.getElem_cons_succ, List.setIfInBounds_toArray, List.set_cons_zero, List.set_cons_succ])
    refine wpAnyH_take (i := 1) (v := ?_) rfl (by kernel_rfl) (by kernel_rfl) (by kernel_rfl) (fun _ _ _ h => HPan.out _ _ _ _ _ h) (Or.inl ⟨by rfl, ?_⟩) (by assumption) ?_
    rotate_left
    · (intro w hSw; (try dsimp only at hSw); go_simp; try with_reducible rfl)
    (try simp only [Act.put, List.getElem_toArray, List.getElem_cons_zero, List.getElem_cons_succ, List.setIfInBounds_toArray, List.set_cons_zero, List.set_cons_succ])
    have n := N0_.out _ hHeld
    rw [hops.out, ha0.out] at n
    (try simp only [Act.put, List.getElem_toArray, List.getElem_cons_zero, List.getElem_cons_succ, List.setIfInBounds_toArray, List.set_cons_zero, List.set_cons_succ] at n)
    exact n

theorem text_any (v : Value) (x : Nat) (w : World) (h : IsNat w v x) (hn : nlen 4294967296 x ≤ 20000) (hP : PT w) :
    Calls Tryz.prog 70 #[v] w fun e w' => e = .returned (.string (bs (Lib.decDigits x))) ∧ Fr w w' := by
  have h2 : ∀ m : Nat, ∀ (v : Value) (x : Nat) (w : World), x < m → IsNat w v x → nlen 4294967296 x ≤ 20000 → PT w →
    Calls Tryz.prog 70 #[v] w fun e w' => e = .returned (.string (bs (Lib.decDigits x))) ∧ Fr w w' := by
    intro m
    induction m with
    | zero => intro v x w h; omega
    | succ m ih => intro v x w h h5 hA hP; exact text_step m ih v x w (by omega) h5 hA hP
  exact h2 _ v x w (Nat.lt_succ_self _) h hn hP

end Go.Proofs.YtammjgieocgelaaGreatDoor
