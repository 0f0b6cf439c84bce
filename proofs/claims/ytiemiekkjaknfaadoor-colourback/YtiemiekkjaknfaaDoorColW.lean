/- The digits of base 16: strconv.FormatUint; Wallet. -/
import Derived.Test.YtiemiekkjaknfaaDoorColU
namespace Go.Proofs.YtiemiekkjaknfaaDoor
set_option linter.unusedVariables false
set_option linter.unusedSimpArgs false
open Go.RowKit

theorem pow2_any (w : World) : Calls Tryd.prog 88 #[.int .i64 16] w fun e w' => e = .returned (.bool true) ∧ w' = w := by
  have h : bits .and .i64 16 15 = 0 := by decide +kernel
  go_enter Tryd.func88, Tryd.ntmps88
  go_wp2_with fail
  go_ret
  exact ⟨rfl, rfl⟩
theorem tz16_any (w : World) (hL : Led12 w) : Calls Tryd.prog 95 #[.int .u64 16] w fun e w' => e = .returned (.int .i64 4) ∧ w' = w := by
  have hd := hL.d
  have h : bits .and .u64 16 (IntKind.u64.wrap (-16)) = 16 := by decide +kernel
  have h4 : IntKind.u64.wrap (16 * 285870213051353865) = 4573923408821661840 := by decide +kernel
  have h2 : IntKind.u64.wrap 4573923408821661840 = 4573923408821661840 := by decide +kernel
  clear hL
  go_enter Tryd.func95, Tryd.ntmps95
  go_wp2_with fail
  go_ret
  exact ⟨rfl, rfl⟩
theorem tz_any (w : World) (hL : Led12 w) : Calls Tryd.prog 89 #[.int .u64 16] w fun e w' => e = .returned (.int .i64 4) ∧ w' = w := by
  have HT := hide (tz16_any w hL)
  clear hL
  go_enter Tryd.func89, Tryd.ntmps89
  go_wp2_with fail
  refine HT.out.mono ?_
  rintro e w1 ⟨rfl, rfl⟩
  go_wp2_with fail
  go_ret
  exact ⟨rfl, rfl⟩
def isZ : Value → Bool
  | .int .u8 n => decide (n = 0)
  | _ => false
theorem isZ_eq (v : Value) (h : isZ v = true) : v = .int .u8 0 := by
  unfold isZ at h
  split at h
  · simp at h; subst h; rfl
  · cases h
theorem zero65 (j : Nat) (h : j < 65) : Tryd.zeroCells120[j]? = some (.int .u8 0) := by
  have ha : (Tryd.zeroCells120.toList.all isZ) = true := by kernel_rfl
  have hz : Tryd.zeroCells120.size = 65 := Tryd.zeroCells120_size
  have hj : j < Tryd.zeroCells120.size := by omega
  rw [Array.getElem?_eq_getElem hj]
  exact congrArg some (isZ_eq _ (List.all_eq_true.1 ha _ (by simp)))
theorem slice65 (w : World) (B i n : Nat) (h : 65 - i = n) (hi : i < 65) : (Instr.sliceAt 120 (.pointer (some ⟨B, 0, none⟩)) (some (.int .i64 (i : Int))) none none).run Tryd.prog w = .ok (.slice (some ⟨B, i, none⟩) n n) w := by
  have hl : Tryd.prog.arrayLen 120 = 65 := by kernel_rfl
  have he : Tryd.prog.elem 120 = 5 := by kernel_rfl
  rw [run_sliceAt_array_l w 120 ⟨B, 0, none⟩ (by rw [hl, he]; exact Tryd.underlying120) .i64 (i : Int) (by omega) (by rw [hl]; omega), hl, he, Tryd.sizeOf5]
  simp only [slicedAt, Result.andThen, Int.toNat_natCast]
  rw [if_neg (by omega), h]
  simp [Addr.add]
  try omega
theorem bs_zero (w : World) (t : TypeId) : Bs (w.alloc (.cells Tryd.zeroCells120 t)) w.heap.size 65 (fun _ => 0) := by
  refine ⟨by simp, fun j hj => ⟨?_, var_free (Fr.refl _) j⟩⟩
  have hz : Tryd.zeroCells120.size = 65 := Tryd.zeroCells120_size
  have h := zero65 j hj
  unfold World.cell?
  simp only [heap_alloc_new]
  exact h

theorem digs_tab : ∀ d : Fin 16, bt ⟨#[48, 49, 50, 51, 52, 53, 54, 55, 56, 57, 97, 98, 99, 100, 101, 102, 103, 104, 105, 106, 107, 108, 109, 110, 111, 112, 113, 114, 115, 116, 117, 118, 119, 120, 121, 122]⟩ (d : Nat) = hexd d := by decide +kernel
theorem digs_at (d : Nat) (hd : d < 16) (h : d < (⟨#[48, 49, 50, 51, 52, 53, 54, 55, 56, 57, 97, 98, 99, 100, 101, 102, 103, 104, 105, 106, 107, 108, 109, 110, 111, 112, 113, 114, 115, 116, 117, 118, 119, 120, 121, 122]⟩ : ByteArray).size) : (((⟨#[48, 49, 50, 51, 52, 53, 54, 55, 56, 57, 97, 98, 99, 100, 101, 102, 103, 104, 105, 106, 107, 108, 109, 110, 111, 112, 113, 114, 115, 116, 117, 118, 119, 120, 121, 122]⟩ : ByteArray)[d]'h).toNat : Int) = hexd d := by
  rw [bt_at _ d h]
  exact digs_tab ⟨d, hd⟩

/-- What the first loop keeps: the digits behind place 65 - j are those that were taken off. -/
structure Taken (u x j : Nat) (f : Nat → Int) : Prop where
  bd : x < 16 ^ (8 - j)
  jb : j ≤ 7
  dg : hexL u = hexL x ++ (List.range j).map (fun i => f (65 - j + i))
theorem Taken.start (u : Nat) (h : u < 4294967296) : Taken u u 0 (fun _ => 0) := ⟨by simpa using h, by omega, by simp⟩
theorem Taken.more {u x j : Nat} {f : Nat → Int} (h : Taken u x j f) (hx : 16 ≤ x) : Taken u (x / 16) (j + 1) (fun i => if i = 64 - j then hexd (x % 16) else f i) := by
  have hj7 : j < 7 := by
    rcases Nat.lt_or_ge j 7 with k | k
    · exact k
    · have hb := h.bd
      rw [show 8 - j = 1 by have := h.jb; omega] at hb
      simp at hb
      omega
  refine ⟨?_, by omega, ?_⟩
  · have hb := h.bd
    rw [show 8 - j = (8 - (j + 1)) + 1 by omega, Nat.pow_succ] at hb
    exact Nat.div_lt_of_lt_mul (by rw [Nat.mul_comm]; exact hb)
  · rw [h.dg, hexL_more x (by omega), List.append_assoc]
    congr 1
    rw [List.range_succ_eq_map, List.map_cons, List.map_map, List.singleton_append]
    congr 1
    · rw [if_pos (by omega)]
    · apply List.map_congr_left
      intro i hi
      rw [List.mem_range] at hi
      simp only [Function.comp_apply]
      rw [if_neg (by omega)]
      congr 1
      omega
theorem Taken.last {u x j : Nat} {f : Nat → Int} (h : Taken u x j f) (hx : x < 16) : hexL u = (List.range (j + 1)).map (fun i => (fun i => if i = 64 - j then hexd x else f i) (64 - j + i)) := by
  rw [h.dg, hexL_one x hx, List.range_succ_eq_map, List.map_cons, List.map_map, List.singleton_append]
  have := h.jb
  congr 1
  · show hexd x = if 64 - j + 0 = 64 - j then hexd x else f (64 - j + 0)
    rw [if_pos (by omega)]
  · apply List.map_congr_left
    intro i hi
    rw [List.mem_range] at hi
    simp only [Function.comp_apply]
    rw [if_neg (by omega)]
    congr 1
    omega

set_option maxHeartbeats 2000000 in
set_option maxRecDepth 4000 in
theorem fbits_any (u : Nat) (w : World) (hL : Led12 w) (hu : u < 4294967296) :
    Calls Tryd.prog 70 #[.slice none 0 0, .int .u64 u, .int .i64 16, .bool false, .bool false] w fun e w' => e = .returned (.tuple #[.slice none 0 0, .string (strOfNums (hexL u))]) ∧ Fr w w' := by
  have HP := hide (fun w => pow2_any w)
  have HT := hide (fun w (hL : Led12 w) => tz_any w hL)
  have HL := hide (fun w' (k : Fr w w') => hL.fr k)
  have HB0 := hide (bs_zero w 120)
  have HF0 := hide (Fr.alloc w (Obj.cells Tryd.zeroCells120 120))
  clear hL
  go_enter Tryd.func70, Tryd.ntmps70
  go_wp2_with fail
  generalize w.alloc _ = V at *
  generalize hg : w.heap.size = B at *
  have HG := hide hg
  clear hg
  refine (HP.out _).mono ?_
  rintro e w1 ⟨rfl, rfl⟩
  go_wp2_with fail
  refine (HT.out _ (HL.out _ HF0.out)).mono ?_
  rintro e w2 ⟨rfl, rfl⟩
  go_wp2_with fail
  have HTK := hide (Taken.start u hu)
  go_loopw [1, 13] (fun uv iv wr => ∃ (x j : Nat) (f : Nat → Int), uv = .int .u64 x ∧ iv = .int .i64 ((65 - j : Nat) : Int) ∧ j ≤ 7 ∧ Hid (Taken u x j f) ∧ Hid (Bs wr B 65 f) ∧ Hid (Fr w wr)) (fun uv _ _ => (intOf uv).toNat)
  case atStart => exact ⟨u, 0, _, rfl, rfl, by omega, HTK, HB0, HF0⟩
  case round =>
    obtain ⟨x, j, f, rfl, rfl, hj, HX, HB, HF⟩ := hrel
    have hx32 : x < 4294967296 := by
      have h := HX.out.bd
      have : (16 : Nat) ^ (8 - j) ≤ 16 ^ 8 := Nat.pow_le_pow_right (by decide) (by omega)
      have h8 : (16 : Nat) ^ 8 = 4294967296 := by decide
      omega
    by_cases h16 : 16 ≤ x
    · have HX2 := hide (HX.out.more h16)
      have hj7 : j + 1 ≤ 7 := HX2.out.jb
      have hd16 : x % 16 < 16 := by omega
      have hand : bits .and .u64 (x : Int) 15 = ((x % 16 : Nat) : Int) := by
        have h := u64_and_nat x 15 (by omega) (by decide)
        rw [Nat.and_two_pow_sub_one_eq_mod x 4] at h
        exact h
      obtain ⟨hc, hf⟩ := HB.out.2 (64 - j) (by omega)
      have HB2 := hide (HB.out.set (64 - j) (by omega) (hexd (x % 16)))
      have hij : ((65 - j : Nat) : Int) - 1 = ((64 - j : Nat) : Int) := by omega
      have hI : ((64 - j : Nat) : Int) < 65 := by omega
      obtain ⟨d, hd⟩ : ∃ d, x % 16 = d := ⟨_, rfl⟩
      rw [hd] at hand hd16 HX2 HB2
      clear hd
      generalize hI2 : 64 - j = i at *
      generalize hI3 : 65 - j = i1 at *
      have HDG := hide (digs_at d hd16)
      go_wp2_with fail
      rw [HDG.out]
      refine ⟨⟨x / 16, j + 1, _, by go_num, by congr 1; omega, by omega, HX2, HB2, hide (Below.setCell HF.out (by rw [HG.out]; exact Nat.le_refl _) _)⟩, ?_⟩
      simp [intOf]; omega
    · have hx16 : x < 16 := by omega
      have HLast := hide (HX.out.last hx16)
      obtain ⟨hc, hf⟩ := HB.out.2 (64 - j) (by omega)
      have HB2 := hide (HB.out.set (64 - j) (by omega) (hexd x))
      have hij : ((65 - j : Nat) : Int) - 1 = ((64 - j : Nat) : Int) := by omega
      have hI : ((64 - j : Nat) : Int) < 65 := by omega
      have hI3' : 65 - (64 - j) = j + 1 := by omega
      have HI3 := hide hI3'
      clear hI3'
      have HDG := hide (digs_at x hx16)
      generalize hI2 : 64 - j = i at *
      generalize hI3 : 65 - j = i1 at *
      go_upto_region 25 with fail
      rw [HDG.out]
      have HF3 : Hid (Fr w (wr.setCell ⟨B, i, none⟩ (.int .u8 (hexd x)))) := hide (Below.setCell HF.out (by rw [HG.out]; exact Nat.le_refl _) _)
      generalize wr.setCell _ _ = W at *
      have hsl := slice65 W B i (j + 1) HI3.out (by omega)
      have hback : (convert 41 9 (.slice (some ⟨B, i, none⟩) (j + 1) (j + 1))).run Tryd.prog W = .ok (.string (strOfNums (hexL u))) W := by
        refine run_convert_bytes_arg _ 41 5 Tryd.underlying41 Tryd.underlying5 B i (j + 1) (j + 1) (hexL u) (by rw [HLast.out]; simp) (fun q hq => ?_) 9 Tryd.underlying9
        have hq' : q < j + 1 := hq
        have h2 := (HB2.out.2 (i + q) (by omega)).1
        rw [h2, HLast.out]
        congr 2
        rw [List.getD_eq_getElem?_getD, List.getElem?_map, List.getElem?_range hq']
        rfl
      clear hc hf HB2 HLast
      go_wp2_with fail
      go_ret2
      exact ⟨rfl, HF3.out⟩

set_option maxHeartbeats 1000000 in
set_option maxRecDepth 4000 in
theorem ifu_any (u : Nat) (w : World) (hL : Led12 w) (hu : u < 4294967296) :
    Calls Tryd.prog 52 #[.int .u64 u, .int .i64 16] w fun e w' => e = .returned (.string (strOfNums (hexL u))) ∧ Fr w w' := by
  have HB := hide (fbits_any u w hL hu)
  generalize strOfNums (hexL u) = S at *
  clear hL
  go_enter Tryd.func52, Tryd.ntmps52
  go_wp2_with fail
  refine HB.out.mono ?_
  rintro e w1 ⟨rfl, f1⟩
  go_wp2_with fail
  go_ret
  exact ⟨rfl, f1⟩
theorem fu_any (u : Nat) (w : World) (hL : Led12 w) (hu : u < 4294967296) :
    Calls Tryd.prog 33 #[.int .u64 u, .int .i64 16] w fun e w' => e = .returned (.string (strOfNums (hexL u))) ∧ Fr w w' := by
  have HB := hide (ifu_any u w hL hu)
  generalize strOfNums (hexL u) = S at *
  clear hL
  go_enter Tryd.func33, Tryd.ntmps33
  go_wp2_with fail
  refine HB.out.mono ?_
  rintro e w1 ⟨rfl, f1⟩
  go_wp2_with fail
  go_ret
  exact ⟨rfl, f1⟩

/-! ### ToUpper, Contains, Wallet -/
theorem upper_ints (l : List UInt8) : ints ⟨(Lib.toUpperA l).toArray⟩ = (l.map fun c => (c.toNat : Int)).map upB := by
  rw [ints_mk]
  unfold Lib.toUpperA
  rw [List.map_map, List.map_map]
  apply List.map_congr_left
  intro c _
  simp only [Function.comp_apply]
  have hc := c.toNat_lt
  have ht : ∀ x : Fin 256, ((Lib.upperB (UInt8.ofNat (x : Nat))).toNat : Int) = upB ((x : Nat) : Int) := by decide +kernel
  have h := ht ⟨c.toNat, hc⟩
  simp only at h
  rw [UInt8.ofNat_toNat] at h
  exact h
theorem upper_any (s : ByteArray) (w : World) (hs : s.size ≤ 1000) (hA : Asc s) : Calls Tryd.prog 11 #[.string s] w fun e w' => e = .returned (.string (strOfNums ((ints s).map upB))) ∧ Fr w w' := by
  refine (Tryd.strings_ToUpper_ascii s w (by omega) (fun j b hb => asc_data hA b (List.mem_of_getElem? hb))).mono ?_
  rintro e w' ⟨rfl, f⟩
  refine ⟨?_, f⟩
  rw [str_of (upper_ints s.data.toList)]
  rfl
theorem has45 (s : ByteArray) : decide (0 ≤ Lib.indexByte s.data.toList 45) = decide ((45 : Int) ∈ ints s) := by
  refine decide_eq_decide.2 ?_
  unfold ints
  generalize s.data.toList = l
  constructor
  · intro h
    obtain ⟨o, ho⟩ : ∃ o : Nat, Lib.indexByte l 45 = o := ⟨(Lib.indexByte l 45).toNat, by omega⟩
    exact List.mem_map.2 ⟨45, List.mem_of_getElem? (Lib.indexByte_some ho).1, rfl⟩
  · intro h
    obtain ⟨c, hc, h45⟩ := List.mem_map.1 h
    have hc45 : c = 45 := UInt8.toNat_inj.1 (by have : (45 : UInt8).toNat = 45 := (by decide); omega)
    subst hc45
    have hge := Lib.indexByte_ge l 45
    by_cases e : Lib.indexByte l 45 = -1
    · obtain ⟨k, hk, hg⟩ := List.getElem_of_mem hc
      exact absurd (by rw [List.getElem?_eq_getElem hk, hg]) (Lib.indexByte_none e k)
    · omega
theorem contains45 (s : ByteArray) (w : World) : Calls Tryd.prog 18 #[.string s, .string ⟨#[45]⟩] w fun e w' => e = .returned (.bool (decide ((45 : Int) ∈ ints s))) ∧ w' = w := by
  refine (Tryd.strings_Contains_one s 45 w).mono ?_
  rintro e w' ⟨rfl, rfl⟩
  exact ⟨by rw [has45], rfl⟩

def waV (m : List Int × Bool) : Value := .tuple #[.string (strOfNums m.1), .bool m.2]
set_option maxHeartbeats 1000000 in
set_option maxRecDepth 4000 in
theorem wallet_any (s : ByteArray) (u : Nat) (w : World) (hL : Led12 w) (hs : s.size ≤ 200) (hu : u < 4294967296) :
    Calls Tryd.prog 17 #[.string s, .int .u32 u] w fun e w' => e = .returned (waV (waN (ints s) u)) ∧ Fr w w' := by
  have HC := hide (fun w => contains45 s w)
  by_cases h45 : (45 : Int) ∈ ints s
  · have E : Hid (waN (ints s) u = ([], false)) := hide (by unfold waN; rw [if_pos h45])
    rw [decide_eq_true h45] at HC
    clear h45 hL
    go_enter Tryd.func17, Tryd.ntmps17
    go_wp2_with fail
    refine (HC.out _).mono ?_
    rintro e w1 ⟨rfl, rfl⟩
    go_wp2_with fail
    go_ret2
    exact ⟨by rw [E.out]; simp only [waV, str_nil]; rfl, Fr.refl _⟩
  · rw [decide_eq_false h45] at HC
    have H1 : Hid ((⟨#[36]⟩ : ByteArray) ++ s = strOfNums (36 :: ints s)) := hide (str_of (by rw [ints_append]; rfl))
    have hz1 : ((⟨#[36]⟩ : ByteArray) ++ s).size = 1 + s.size := by rw [ByteArray.size_append]; rfl
    by_cases h0 : u = 0
    · subst h0
      have E : Hid (waN (ints s) 0 = (36 :: ints s, true)) := hide (by unfold waN; rw [if_neg h45, if_pos rfl])
      clear h45 hL
      go_enter Tryd.func17, Tryd.ntmps17
      go_wp2_with fail
      refine (HC.out _).mono ?_
      rintro e w1 ⟨rfl, rfl⟩
      go_wp2_with fail
      go_ret2
      exact ⟨by rw [E.out, waV, ← H1.out]; rfl, Fr.refl _⟩
    · have E : Hid (waN (ints s) u = (36 :: (ints s ++ 45 :: (hexL u).map upB), true)) := hide (by unfold waN; rw [if_neg h45, if_neg h0])
      have HU := hide (fu_any u w hL hu)
      obtain ⟨i1, i2, i3, i4, i5⟩ := hexL_facts 7 u (by have h8 : (16 : Nat) ^ (7 + 1) = 4294967296 := (by decide); rw [h8]; exact hu)
      have hxi : ints (strOfNums (hexL u)) = hexL u := ints_nums _ (fun x hx => by have := i5 x hx; omega)
      have hxz : (strOfNums (hexL u)).size ≤ 8 := by rw [← ints_length, hxi]; exact i1
      have HT := hide (fun w => upper_any (strOfNums (hexL u)) w (by omega) (by rw [asc_ints, hxi]; intro x hx; have := i5 x hx; omega))
      rw [hxi] at HT
      have hyi : ints (strOfNums ((hexL u).map upB)) = (hexL u).map upB := ints_nums _ (fun x hx => by
        obtain ⟨y, hy, rfl⟩ := List.mem_map.1 hx
        have := i5 y hy
        unfold upB
        split <;> omega)
      have hyz : (strOfNums ((hexL u).map upB)).size ≤ 8 := by rw [← ints_length, hyi, List.length_map]; exact i1
      have H2 : Hid ((⟨#[36]⟩ : ByteArray) ++ s ++ ⟨#[45]⟩ ++ strOfNums ((hexL u).map upB) = strOfNums (36 :: (ints s ++ 45 :: (hexL u).map upB))) := hide (str_of (by
        rw [ints_append, ints_append, ints_append, hyi]
        show [36] ++ ints s ++ [45] ++ (hexL u).map upB = _
        simp))
      have hz2 : ((⟨#[36]⟩ : ByteArray) ++ s ++ ⟨#[45]⟩).size = 2 + s.size := by rw [ByteArray.size_append, hz1]; show 1 + s.size + 1 = _; omega
      have hu0 : ((u : Int) == 0) = false := by rw [beq_eq_false_iff_ne]; omega
      have HUI : Hid ((u : Int) < 4294967296) := hide (by omega)
      clear h45 hL h0 hxi i1 i2 i3 i4 i5 hyi
      generalize strOfNums (hexL u) = X at *
      generalize strOfNums ((hexL u).map upB) = Y at *
      go_enter Tryd.func17, Tryd.ntmps17
      go_wp2_with fail
      refine (HC.out _).mono ?_
      rintro e w1 ⟨rfl, rfl⟩
      go_wp2_with fail
      refine HU.out.mono ?_
      rintro e w2 ⟨rfl, f2⟩
      go_wp2_with fail
      refine (HT.out _).mono ?_
      rintro e w3 ⟨rfl, f3⟩
      go_wp2_with fail
      go_ret2
      exact ⟨by rw [E.out, waV, ← H2.out]; rfl, f2.trans f3⟩
end Go.Proofs.YtiemiekkjaknfaaDoor
