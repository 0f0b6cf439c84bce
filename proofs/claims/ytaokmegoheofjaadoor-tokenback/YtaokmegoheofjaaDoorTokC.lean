/- small, begins, power, behind, date; the map of kinds is asked. -/
import Derived.Test.YtaokmegoheofjaaDoorTokB
import Derived.Deep.QuietTactic
import Derived.BigQuiet
import Derived.WalkSmall
namespace Go.Proofs.YtaokmegoheofjaaDoor
set_option linter.unusedVariables false
set_option linter.unusedSimpArgs false
open Go.RowKit Go.Maps

theorem set_same {w : World} {a : Addr} {u v : Value} (h : w.cell? a = some u) : (w.setCell a v).cell? a = some v := World.cell?_setCell_same w a v h
theorem set_other {w : World} {b i j : Nat} {u v : Value} (hij : i ≠ j) (h : w.cell? ⟨b, j, none⟩ = some u) : (w.setCell ⟨b, i, none⟩ v).cell? ⟨b, j, none⟩ = some u := by
  rw [World.cell?_setCell_other w _ _ v (fun e => hij (by injection e))]
  exact h

/-- A token that is stored into the answer's variable. -/
theorem results_put {fn : Func} {p u1 u2 : Tmp} (h : fn.results = #[.cell p 39, .tmp u1, .tmp u2]) (tmps : Array Value) {w w1 : World} {x0 x1 x2 x3 : Value} {t : TypeId} (f : Fr (w.alloc (.cells #[x0, x1, x2, x3] t)) w1) (v0 v1 v2 v3 : Value) (hp : tmps.getD p undef = .pointer (some ⟨w.heap.size, 0, none⟩)) :
    (results fn tmps).run Tryd.prog ((((w1.setCell ⟨w.heap.size, 0, none⟩ v0).setCell ⟨w.heap.size, 1, none⟩ v1).setCell ⟨w.heap.size, 2, none⟩ v2).setCell ⟨w.heap.size, 3, none⟩ v3)
      = .ok (.tuple #[.agg #[v0, v1, v2, v3], tmps.getD u1 undef, tmps.getD u2 undef]) ((((w1.setCell ⟨w.heap.size, 0, none⟩ v0).setCell ⟨w.heap.size, 1, none⟩ v1).setCell ⟨w.heap.size, 2, none⟩ v2).setCell ⟨w.heap.size, 3, none⟩ v3) := by
  obtain ⟨c0, c1, c2, c3⟩ := four_cells f
  refine results_tok h tmps _ w.heap.size v0 v1 v2 v3 hp ?_ ?_ ?_ ?_
  · exact set_other (by decide) (set_other (by decide) (set_other (by decide) (set_same c0)))
  · exact set_other (by decide) (set_other (by decide) (set_same (set_other (by decide) c1)))
  · exact set_other (by decide) (set_same (set_other (by decide) (set_other (by decide) c2)))
  · exact set_same (set_other (by decide) (set_other (by decide) (set_other (by decide) c3)))
theorem fr_put4 {w w1 : World} {o : Obj} (f : Fr (w.alloc o) w1) (v0 v1 v2 v3 : Value) :
    Fr w ((((w1.setCell ⟨w.heap.size, 0, none⟩ v0).setCell ⟨w.heap.size, 1, none⟩ v1).setCell ⟨w.heap.size, 2, none⟩ v2).setCell ⟨w.heap.size, 3, none⟩ v3) :=
  Below.setCell (Below.setCell (Below.setCell (Below.setCell ((Fr.alloc w o).trans f) (by simp) _) (by simp) _) (by simp) _) (by simp) _

def litI : DataW Unit → Option Int
  | .lit (.int .i64 n) => some n
  | _ => none
theorem kind_look : ∀ c : Fin 128, litI ((kindD 48).atKey (.int .u8 (lowB c)) (.lit (.int .i64 0))) = some (kindB c) := by decide +kernel

theorem IsKinds.fr {w w' : World} {b : Nat} (h : IsKinds w b) (k : Fr w w') : IsKinds w' b := by
  have hlt := h.lt
  obtain ⟨es, clock, hb, rest⟩ := h
  exact ⟨es, clock, (k.block b hlt).trans hb, rest⟩

theorem low_range {c : Int} (h0 : 0 ≤ c) (h1 : c ≤ 255) : 0 ≤ lowB c ∧ lowB c ≤ 255 := by
  unfold lowB; split <;> omega
theorem wf8 {c : Int} (h0 : 0 ≤ c) (h1 : c ≤ 255) : (Lit.int .u8 c).wf = true := by
  have ht : ∀ x : Fin 256, (Lit.int .u8 (x : Nat)).wf = true := by decide +kernel
  have := ht ⟨c.toNat, by omega⟩
  rwa [show (((⟨c.toNat, by omega⟩ : Fin 256) : Nat) : Int) = c by simp; omega] at this

theorem kinds_told {w : World} {b : Nat} (h : IsKinds w b) {c : Int} (h0 : 0 ≤ c) (h1 : c < 128) :
    (Instr.lookup 46 (.map (some b)) (.int .u8 (lowB c)) false).run Tryd.prog w = .ok (.int .i64 (kindB c)) w := by
  have hr := low_range h0 (by omega)
  obtain ⟨v, hrun, hat, _⟩ := World.ownsMap.lookup_int h key8 Tryd.underlying46 Tryd.underlying37 (kindZero w) (keyOf_int_mk Tryd.underlying5 (wf8 hr.1 hr.2))
  have ht := kind_look ⟨c.toNat, by omega⟩
  rw [show (((⟨c.toNat, by omega⟩ : Fin 128) : Nat) : Int) = c by simp; omega, hat] at ht
  simp [litI] at ht
  rw [hrun, ht]
theorem kinds_any_key {w : World} {b : Nat} (h : IsKinds w b) {c : Int} (h0 : 0 ≤ c) (h1 : c ≤ 255) :
    ∃ v, (Instr.lookup 46 (.map (some b)) (.int .u8 (lowB c)) false).run Tryd.prog w = .ok (.int .i64 v) w := by
  have hr := low_range h0 h1
  obtain ⟨v, hrun, hat, _⟩ := World.ownsMap.lookup_int h key8 Tryd.underlying46 Tryd.underlying37 (kindZero w) (keyOf_int_mk Tryd.underlying5 (wf8 hr.1 hr.2))
  exact ⟨v, hrun⟩

set_option maxHeartbeats 400000 in
set_option maxRecDepth 4000 in
theorem small_any (b : Int) (w : World) (h0 : 0 ≤ b) (h1 : b ≤ 255) : Calls Tryd.prog 29 #[.int .u8 b] w fun e w' => e = .returned (.int .u8 (lowB b)) ∧ w' = w := by
  unfold lowB
  go_each [65 ≤ b, b ≤ 90] => (
    go_enter Tryd.func29, Tryd.ntmps29
    go_wp2
    go_ret
    exact ⟨by simp [*] <;> omega, rfl⟩)

/-- The k-th byte of a text. -/
def bt (s : ByteArray) (k : Nat) : Int := (ints s)[k]?.getD 0
theorem bt_at (s : ByteArray) (k : Nat) (h : k < s.size) : (s[k].toNat : Int) = bt s k := at_ints s k h
theorem bt_range (s : ByteArray) (k : Nat) (h : k < s.size) : 0 ≤ bt s k ∧ bt s k ≤ 255 := by
  have := bt_at s k h
  have := s[k].toNat_lt
  omega
theorem bt_get (s : ByteArray) (k : Nat) (h : k < s.size) : (ints s)[k]? = some (bt s k) := by
  have h' : k < (ints s).length := by rw [ints_length]; exact h
  unfold bt
  rw [List.getElem?_eq_getElem h']
  rfl
theorem take_bt (s : ByteArray) (k : Nat) (h : k < s.size) : (ints s).take (k + 1) = (ints s).take k ++ [bt s k] := by
  rw [List.take_add_one, bt_get s k h]
  rfl
theorem drop_bt (s : ByteArray) (k : Nat) (h : k < s.size) : (ints s).drop k = bt s k :: (ints s).drop (k + 1) := by
  have h' : k < (ints s).length := by rw [ints_length]; exact h
  rw [List.drop_eq_getElem_cons h']
  have := bt_get s k h
  rw [List.getElem?_eq_getElem h'] at this
  simp at this
  rw [this]

theorem pre_of (wd l : List Int) (h : (l.take wd.length).map lowB = wd.map lowB) : preL (wd.map lowB) l := by
  unfold preL
  rw [List.length_map]
  exact h

set_option maxHeartbeats 1000000 in
set_option maxRecDepth 4000 in
theorem begins_any (s wd : ByteArray) (w : World) (hs : s.size ≤ maxLen) (hw : wd.size ≤ maxLen) :
    Calls Tryd.prog 53 #[.string s, .string wd] w fun e w' => e = .returned (.bool (decide (preL ((ints wd).map lowB) (ints s)))) ∧ Fr w w' := by
  unfold maxLen at hs hw
  have lw := ints_length wd
  have ls := ints_length s
  have HLW := hide lw
  have HLS := hide ls
  by_cases h : s.size < wd.size
  · have hno : decide (preL ((ints wd).map lowB) (ints s)) = false := by
      refine decide_eq_false fun hp => ?_
      have := congrArg List.length hp
      simp only [List.length_map, List.length_take] at this
      omega
    rw [hno]
    clear hno lw ls
    go_enter Tryd.func53, Tryd.ntmps53
    go_wp2
    go_ret
    exact ⟨rfl, Fr.refl _⟩
  · clear lw ls
    go_enter Tryd.func53, Tryd.ntmps53
    go_wp2
    go_loopw [13] (fun i wr => ∃ k : Nat, k ≤ wd.size ∧ i = .int .i64 k ∧ Hid (((ints s).take k).map lowB = ((ints wd).take k).map lowB) ∧ Fr w wr) (fun i _ => wd.size - (intOf i).toNat)
    case atStart => exact ⟨0, by omega, rfl, by simp [Hid], Fr.refl _⟩
    case round =>
      obtain ⟨k, hk, rfl, HI, hF⟩ := hrel
      by_cases hlt : k < wd.size
      · have hls : k < s.size := by omega
        have qs := bt_at s k hls
        have qw := bt_at wd k hlt
        have rs := bt_range s k hls
        have rw' := bt_range wd k hlt
        have HTS := hide (take_bt s k hls)
        have HTW := hide (take_bt wd k hlt)
        have HBS := hide (bt_get s k hls)
        have HBW := hide (bt_get wd k hlt)
        generalize bt s k = x at *
        generalize bt wd k = y at *
        by_cases he : lowB x = lowB y
        · have heb : (lowB x != lowB y) = false := by simp [he]
          go_wp2_with fail
          go_quiet ((go_at_call 29; exact Calls.quiet_of_same (small_any _ _ (by omega) (by omega))))
          go_wp2_with fail
          go_roundw
          case rel =>
            refine ⟨k + 1, by omega, by go_num, hide ?_, hF.trans (Fr.drewN _ _)⟩
            rw [HTS.out, HTW.out, List.map_append, List.map_append, HI.out]
            simp [he]
          case measure => simp [intOf]; omega
        · have heb : (lowB x != lowB y) = true := by simp [he]
          have hno : Hid (decide (preL ((ints wd).map lowB) (ints s)) = false) := by
            refine decide_eq_false fun hp => ?_
            have := congrArg (fun l => l[k]?) hp
            simp only [List.length_map, HLW.out, List.getElem?_map, HBW.out] at this
            rw [List.getElem?_take_of_lt hlt, HBS.out] at this
            simp at this
            exact he this
          go_wp2_with fail
          go_quiet ((go_at_call 29; exact Calls.quiet_of_same (small_any _ _ (by omega) (by omega))))
          go_wp2_with fail
          go_ret
          exact ⟨by rw [hno.out]; rfl, hF.trans (Fr.drewN _ _)⟩
      · have hk' : k = wd.size := by omega
        have hyes : Hid (decide (preL ((ints wd).map lowB) (ints s)) = true) := by
          refine decide_eq_true (pre_of _ _ ?_)
          have := HI.out
          rw [hk', ← HLW.out, List.take_length, HLW.out] at this
          rw [HLW.out]
          exact this
        go_wp2
        go_ret
        exact ⟨by rw [hyes.out]; rfl, hF⟩
end Go.Proofs.YtaokmegoheofjaaDoor
