/- The document's low and begins. -/
import Derived.Test.YtaokmegoheofjaaDoorTokI
import Derived.Lib.ConvBytes
import Derived.Lib.AtoiErrMem
namespace Go.Proofs.YtaokmegoheofjaaDoor
set_option linter.unusedVariables false
set_option linter.unusedSimpArgs false
open Go.RowKit

/-- A row of bytes that may be written. -/
def Bs (w : World) (B n : Nat) (f : Nat → Int) : Prop := B < w.heap.size ∧ ∀ j, j < n → w.cell? ⟨B, j, none⟩ = some (.int .u8 (f j)) ∧ w.frozen? ⟨B, j, none⟩ = false
theorem Bs.set {w : World} {B n : Nat} {f : Nat → Int} (h : Bs w B n f) (i : Nat) (hi : i < n) (x : Int) : Bs (w.setCell ⟨B, i, none⟩ (.int .u8 x)) B n (fun j => if j = i then x else f j) := by
  refine ⟨by simpa using h.1, fun j hj => ⟨?_, ?_⟩⟩
  · by_cases hji : j = i
    · subst hji; simp only [if_pos]; exact set_same (h.2 j hj).1
    · simp only [hji, if_false]; exact set_other (fun e => hji e.symm) (h.2 j hj).1
  · rw [World.frozen?_setCell]; exact (h.2 j hj).2

theorem conv_bs (w : World) (s : ByteArray) : ∃ (cap : Nat) (W : World), (convert 9 56 (.string s)).run Tryd.prog w = .ok (.slice (some ⟨w.heap.size, 0, none⟩) s.size cap) W ∧ Fr w W ∧ Bs W w.heap.size s.size (bt s) := by
  refine ⟨_, _, Lib.run_convert_string_bytes (P := Tryd.prog) w 9 56 5 s (u := .string) Tryd.underlying9 Tryd.underlying56 Tryd.underlying5, Lib.bytesWorld_below w _ s, by rw [Lib.bytesWorld_size]; omega, fun j hj => ⟨?_, ?_⟩⟩
  · rw [Lib.bytesWorld_cell w _ s j hj]
    congr 2
    have h1 := bt_get s j hj
    have hj' : j < s.data.toList.length := by rw [← Lib.size_eq]; exact hj
    unfold ints at h1
    rw [List.getElem?_map, List.getElem?_eq_getElem hj'] at h1
    simp only [Option.map_some, Option.some.injEq] at h1
    rw [← h1]
    simp [List.getD, List.getElem?_eq_getElem hj']
  · have hn := Lib.bytesWorld_at_new w 5 s
    have hsz : s.size ≤ (Lib.bytesCells w 5 s).size := by
      have hc := Lib.bytesWorld_cell w 5 s j hj
      simp [Lib.bytesCells]
    have h1 : ¬ ((Lib.bytesCells w 5 s).size ≤ j) := by omega
    simp [World.frozen?, hn]
    omega

def lowF (s : ByteArray) (k j : Nat) : Int := if j < k then lowB (bt s j) else bt s j

theorem ints_bt (s : ByteArray) : ints s = (List.range s.size).map (bt s) := by
  apply List.ext_getElem?
  intro i
  by_cases h : i < s.size
  · rw [bt_get s i h, List.getElem?_map, List.getElem?_range h]; rfl
  · rw [List.getElem?_eq_none (by rw [ints_length]; omega), List.getElem?_eq_none (by simp; omega)]

set_option maxHeartbeats 1000000 in
set_option maxRecDepth 4000 in
theorem low_any (s : ByteArray) (w : World) (hs : s.size ≤ 10000) :
    Calls Tryd.prog 38 #[.string s] w fun e w' => e = .returned (.string (strOfNums ((ints s).map lowB))) ∧ Fr w w' := by
  obtain ⟨cap, W, hconv, fW, hB⟩ := conv_bs w s
  have HB := hide hB
  have FW := hide fW
  have HI := hide (ints_bt s)
  clear hB fW
  go_enter Tryd.func38, Tryd.ntmps38
  go_wp2_with fail
  generalize hg : w.heap.size = B at *
  have HG := hide hg
  clear hg
  go_loopw [4] (fun i wr => ∃ k : Nat, k ≤ s.size ∧ i = .int .i64 k ∧ Hid (Bs wr B s.size (lowF s k)) ∧ Hid (Fr w wr)) (fun i _ => s.size - (intOf i).toNat)
  case atStart => exact ⟨0, by omega, rfl, by unfold lowF; simpa using HB, FW⟩
  case round =>
    obtain ⟨k, hk, rfl, HR, HF⟩ := hrel
    by_cases hlt : k < s.size
    · obtain ⟨hc, hf⟩ := HR.out.2 k hlt
      have rs := bt_range s k hlt
      have HN : Hid (∀ j, j < s.size → (if j = k then lowB (bt s k) else lowF s k j) = lowF s (k + 1) j) := by
        refine hide fun j hj => ?_
        unfold lowF
        by_cases h1 : j = k
        · subst h1; simp
        · rw [if_neg h1]
          by_cases h2 : j < k
          · rw [if_pos h2, if_pos (by omega)]
          · rw [if_neg h2, if_neg (by omega)]
      have hbk : lowF s k k = bt s k := by unfold lowF; rw [if_neg (Nat.lt_irrefl _)]
      rw [hbk] at hc
      have hlo : B < wr.heap.size := HR.out.1
      by_cases hg : 65 ≤ bt s k ∧ bt s k ≤ 90
      · have hlow : lowB (bt s k) = bt s k + 32 := by unfold lowB; rw [if_pos hg]
        rw [hlow] at HN
        have HST := hide (HR.out.set k hlt (bt s k + 32))
        generalize bt s k = x at *
        have h65 : 65 ≤ x := hg.1
        have h90 : x ≤ 90 := hg.2
        go_wp2_with fail
        go_roundw
        case rel =>
          refine ⟨k + 1, by omega, by go_num, hide ⟨HST.out.1, fun j hj => ?_⟩, hide ?_⟩
          · rw [← HN.out j hj]; exact HST.out.2 j hj
          · exact Below.setCell HF.out (by rw [HG.out]; exact Nat.le_refl _) _
        case measure => simp [intOf]; omega
      · have hlow : lowB (bt s k) = bt s k := by unfold lowB; rw [if_neg hg]
        rw [hlow] at HN
        have HN2 : Hid (∀ j, j < s.size → lowF s k j = lowF s (k + 1) j) := by
          refine hide fun j hj => ?_
          rw [← HN.out j hj]
          by_cases h1 : j = k
          · subst h1; rw [if_pos rfl, hbk]
          · rw [if_neg h1]
        generalize bt s k = x at *
        by_cases h65 : 65 ≤ x
        · have h90 : ¬ x ≤ 90 := fun h => hg ⟨h65, h⟩
          go_wp2_with fail
          go_roundw
          case rel => exact ⟨k + 1, by omega, by go_num, hide ⟨HR.out.1, fun j hj => by rw [← HN2.out j hj]; exact HR.out.2 j hj⟩, HF⟩
          case measure => simp [intOf]; omega
        · go_wp2_with fail
          go_roundw
          case rel => exact ⟨k + 1, by omega, by go_num, hide ⟨HR.out.1, fun j hj => by rw [← HN2.out j hj]; exact HR.out.2 j hj⟩, HF⟩
          case measure => simp [intOf]; omega
    · have hke : k = s.size := by omega
      subst hke
      have hback : (convert 56 9 (.slice (some ⟨B, 0, none⟩) s.size cap)).run Tryd.prog wr = .ok (.string (strOfNums ((ints s).map lowB))) wr := by
        refine run_convert_bytes_arg _ 56 5 Tryd.underlying56 Tryd.underlying5 B 0 s.size cap ((ints s).map lowB) (by rw [List.length_map, ints_length]) (fun i hi => ?_) 9 Tryd.underlying9
        have hi' : i < s.size := hi
        have h2 := (HR.out.2 i hi').1
        unfold lowF at h2
        rw [if_pos hi'] at h2
        rw [Nat.zero_add, h2]
        congr 2
        rw [List.getD_eq_getElem?_getD, List.getElem?_map, bt_get s i hi']
        rfl
      go_wp2_with fail
      go_ret
      exact ⟨rfl, HF.out⟩

set_option maxHeartbeats 1000000 in
set_option maxRecDepth 4000 in
theorem refBegins_any (s wd : ByteArray) (w : World) (hs : s.size ≤ 10000) (hw : wd.size ≤ 100) :
    Calls Tryd.prog 37 #[.string s, .string wd] w fun e w' => e = .returned (.bool (decide (preL (ints wd) (ints s)))) ∧ Fr w w' := by
  have lw := ints_length wd
  have ls := ints_length s
  by_cases h : s.size < wd.size
  · have hno : decide (preL (ints wd) (ints s)) = false := by
      refine decide_eq_false fun hp => ?_
      have := congrArg List.length hp
      simp only [List.length_map, List.length_take] at this
      omega
    rw [hno]
    clear hno lw ls
    go_enter Tryd.func37, Tryd.ntmps37
    go_wp2_with fail
    go_ret
    exact ⟨rfl, Fr.refl _⟩
  · have hz : (s.extract 0 wd.size).size ≤ 10000 := by
      have := ints_length (s.extract 0 wd.size)
      rw [ints_ext0, List.length_take] at this
      omega
    have HL := hide (fun w => low_any (s.extract 0 wd.size) w hz)
    rw [ints_ext0] at HL
    have hsz : (wd.size : Int) ≤ (s.size : Int) := by omega
    have HS := hide (str_eq (strOfNums (((ints s).take wd.size).map lowB)) wd)
    rw [ints_nums _ (fun x hx => by
      obtain ⟨y, hy, rfl⟩ := List.mem_map.1 hx
      have := ints_range s y (List.mem_of_mem_take hy)
      exact low_range this.1 this.2)] at HS
    have hp : preL (ints wd) (ints s) ↔ ((ints s).take wd.size).map lowB = ints wd := by unfold preL; rw [lw]
    by_cases hq : ((ints s).take wd.size).map lowB = ints wd
    · have hb : (strOfNums (((ints s).take wd.size).map lowB)).toList == wd.toList := HS.out.2 hq
      have hd := decide_eq_true (hp.2 hq)
      rw [hd]
      generalize strOfNums (((ints s).take wd.size).map lowB) = Y at *
      clear hq hp HS hd lw ls
      go_enter Tryd.func37, Tryd.ntmps37
      go_wp2_with fail
      refine (HL.out _).mono ?_
      rintro e w1 ⟨rfl, f1⟩
      go_wp2_with fail
      go_ret
      exact ⟨rfl, f1⟩
    · have hb : ((strOfNums (((ints s).take wd.size).map lowB)).toList == wd.toList) = false := by
        rw [Bool.eq_false_iff]; exact fun h => hq (HS.out.1 h)
      have hd := decide_eq_false (fun h => hq (hp.1 h))
      rw [hd]
      generalize strOfNums (((ints s).take wd.size).map lowB) = Y at *
      clear hq hp HS hd lw ls
      go_enter Tryd.func37, Tryd.ntmps37
      go_wp2_with fail
      refine (HL.out _).mono ?_
      rintro e w1 ⟨rfl, f1⟩
      go_wp2_with fail
      go_ret
      exact ⟨rfl, f1⟩
end Go.Proofs.YtaokmegoheofjaaDoor
