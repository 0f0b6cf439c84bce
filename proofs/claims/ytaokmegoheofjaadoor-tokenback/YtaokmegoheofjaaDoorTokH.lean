/- token.All. -/
import Derived.Test.YtaokmegoheofjaaDoorTokG
import Derived.Test.YtaokmegoheofjaaDoorTokR
import Derived.OwnWalk
namespace Go.Proofs.YtaokmegoheofjaaDoor
set_option linter.unusedVariables false
set_option linter.unusedSimpArgs false
open Go.RowKit

def tkCells (x : Tk) : List Value := [.int .i64 x.kind, .string (strOfNums x.text), .int .i64 x.count, .int .i64 (x.place : Int)]
def rowT (L : List Tk) : List Value := L.flatMap tkCells
theorem rowT_snoc (L : List Tk) (x : Tk) : rowT (L ++ [x]) = rowT L ++ tkCells x := by simp [rowT]

/-- What All answers. -/
def answer (l : List Int) : List Tk × Nat × Int := if 4096 < l.length then ([], 0, 14) else tall l

theorem infoTok : (Tryd.prog.info? 39).map (fun i => (i.zero, i.size, i.bytes)) = some (some (.agg #[.int .i64 0, .string ⟨#[]⟩, .int .i64 0, .int .i64 0]), 4, 40) := by kernel_rfl

theorem own_fr {w w' : World} {base size : Nat} {e : TypeId} {v : Value} {n : Nat} {xs : List Value} (h : w.ownsRow base e size v n xs) (k : Fr w w') : w'.ownsRow base e size v n xs := by
  refine ⟨h.1, ?_⟩
  rcases h.2 with h' | ⟨g, cap, cur, hv, hb, hh, rest⟩
  · exact .inl h'
  · have hg : g < w.heap.size := by
      rcases Nat.lt_or_ge g w.heap.size with k | k
      · exact k
      · simp [Array.getElem?_eq_none k] at hh
    exact .inr ⟨g, cap, cur, hv, hb, by rw [k.block g hg]; exact hh, rest⟩
theorem own_base {w : World} {b0 base size n : Nat} {e : TypeId} {v : Value} {xs : List Value} (h : w.ownsRow base e size v n xs) (hb : b0 ≤ base) : w.ownsRow b0 e size v n xs := by
  refine ⟨h.1, ?_⟩
  rcases h.2 with h' | ⟨g, cap, cur, hv, hg, rest⟩
  · exact .inl h'
  · exact .inr ⟨g, cap, cur, hv, Nat.le_trans hb hg, rest⟩
theorem own_below {w w0 : World} {size : Nat} {e : TypeId} {v : Value} {n : Nat} {xs : List Value} (h : w.ownsRow w0.heap.size e size v n xs) : ∀ k, v.ownBlock = some k → w0.heap.size ≤ k := fun k hk => (h.lt k hk).1
theorem own_form {w : World} {base size n : Nat} {e : TypeId} {v : Value} {xs : List Value} (h : w.ownsRow base e size v n xs) : ∃ a c, v = .slice a n c := by
  rcases h.2 with ⟨rfl, rfl⟩ | ⟨g, cap, cur, rfl, _⟩
  · exact ⟨_, _, rfl⟩
  · exact ⟨_, _, rfl⟩

theorem cell_four_new (w : World) (v0 v1 v2 v3 : Value) (t : TypeId) (B : Nat) (hB : B = w.heap.size) : ∀ (j : Nat) (u : Value), [v0, v1, v2, v3][j]? = some u → (w.alloc (.cells #[v0, v1, v2, v3] t)).cell? ((⟨B, 0, none⟩ : Addr).add j) = some u := by
  subst hB
  intro j u h
  match j, h with
  | 0, h => simp at h; subst h; simp [go_sem, Addr.add]
  | 1, h => simp at h; subst h; simp [go_sem, Addr.add]
  | 2, h => simp at h; subst h; simp [go_sem, Addr.add]
  | 3, h => simp at h; subst h; simp [go_sem, Addr.add]
  | j + 4, h => simp at h
theorem nxV_ok (k : Int) (t : List Int) (c : Int) (n : Nat) : nxV (.ok k t c n) = .tuple #[.agg #[.int .i64 k, .string (strOfNums t), .int .i64 c, .int .i64 0], .int .i64 n, .int .i64 0] := rfl

set_option maxHeartbeats 2000000 in
set_option maxRecDepth 4000 in
theorem tokAll_any (s : ByteArray) (w : World) (hL : Lead w) (hE : MaxOk w) (hs : s.size ≤ maxLen) :
    Calls Tryd.prog 9 #[.string s] w fun e w' => Fr w w' ∧ ∃ v, e = .returned (.tuple #[v, .int .i64 ((answer (ints s)).2.1 : Int), .int .i64 (answer (ints s)).2.2]) ∧ w'.ownsRow w.heap.size 39 4 v (answer (ints s)).1.length (rowT (answer (ints s)).1) := by
  have hs' := hs
  unfold maxLen at hs
  have hz := ints_length s
  by_cases hbig : 4096 < s.size
  · have ha : answer (ints s) = ([], 0, 14) := by unfold answer; rw [if_pos (by omega)]
    rw [ha]
    clear ha
    go_enter Tryd.func9, Tryd.ntmps9
    go_wp2_with fail
    go_ret3
    exact ⟨Fr.refl _, _, rfl, World.ownsRow_nil _ _ _ _⟩
  · have ha : answer (ints s) = tall (ints s) := by unfold answer; rw [if_neg (by omega)]
    rw [ha]
    clear ha
    have HZ := hide hz
    clear hz
    obtain ⟨i0, hi, hz0, hz1, hz2⟩ := info_parts infoTok
    go_enter Tryd.func9, Tryd.ntmps9
    go_wp2_with fail
    refine (kinds_any w).mono ?_
    rintro e w1 ⟨rfl, hK, f1⟩
    go_wp2_with fail
    go_loopw [6, 7] (fun v a wr => ∃ (T : List Tk) (k : Nat), Hid (Reach (ints s) T k) ∧ k ≤ s.size ∧ T.length ≤ k ∧ a = .int .i64 k ∧ Hid (wr.ownsRow w1.heap.size 39 4 v T.length (rowT T)) ∧ Hid (Fr w1 wr)) (fun _ a _ => s.size - (intOf a).toNat)
    case atStart => exact ⟨[], 0, hide .nil, by omega, by simp, rfl, World.ownsRow_nil _ _ _ _, Fr.refl _⟩
    case round =>
      obtain ⟨T, k, HR, hk, hTk, rfl, HO, HF⟩ := hrel
      obtain ⟨ar, cr, rfl⟩ := own_form HO.out
      have HRG := hide (ints_range s)
      by_cases hlt : k < s.size
      · have hxs : (s.extract k s.size).size = s.size - k := by
          have := ints_length (s.extract k s.size)
          rw [ints_from, List.length_drop, HZ.out] at this
          omega
        have HN := hide (next_any (s.extract k s.size) w.heap.size wr (hL.fr (f1.trans HF.out)) (hE.fr (f1.trans HF.out)) (hK.fr HF.out) (by omega) (by omega))
        rw [ints_from] at HN
        cases hn : nextN ((ints s).drop k) with
        | no o e =>
          have HNO := hide (reach_no HRG.out HR.out (by rw [HZ.out]; exact hlt) hn)
          have hob : o ≤ 4096 := by
            rcases nextN_no _ (fun x hx => HRG.out x (List.mem_of_mem_drop hx)) (by intro h; have := congrArg List.length h; rw [List.length_drop, HZ.out] at this; simp at this; omega) hn with ⟨_, h⟩ | ⟨_, h⟩ | ⟨h, _⟩
            · rw [List.length_drop, HZ.out] at h; omega
            · omega
            · rw [List.length_drop, HZ.out] at h; omega
          have he : (e == 0) = false := by
            rcases nextN_no _ (fun x hx => HRG.out x (List.mem_of_mem_drop hx)) (by intro h; have := congrArg List.length h; rw [List.length_drop, HZ.out] at this; simp at this; omega) hn with ⟨h, _⟩ | ⟨h, _⟩ | ⟨_, h⟩
            all_goals (simp only [beq_eq_false_iff_ne]; omega)
          rw [hn] at HN
          clear hn hxs
          go_wp2_with fail
          refine HN.out.mono ?_
          rintro r w2 ⟨rfl, f2⟩
          unfold nxV tkV
          rw [str_nil]
          go_wp2_with fail
          go_ret3
          rw [HNO.out]
          exact ⟨f1.trans (HF.out.trans (f2.trans (Fr.alloc _ _))), _, rfl, World.ownsRow_nil _ _ _ _⟩
        | ok kd tx ct n =>
          have HS := hide (HR.out.snoc (by rw [HZ.out]; exact hlt) hn)
          have hle := (Reach.le HRG.out HS.out).1
          have hT1 := (Reach.le HRG.out HS.out).2
          rw [HZ.out] at hle
          rw [List.length_append, List.length_singleton] at hT1
          obtain ⟨u, q, _, _, _, _, hn1, _⟩ := next_at HRG.out hn
          rw [hn] at HN
          clear hn hxs
          generalize hST : strOfNums tx = st at *
          have HST := hide hST
          go_wp2_with fail
          refine HN.out.mono ?_
          rintro r w2 ⟨rfl, f2⟩
          rw [nxV_ok, HST.out]
          clear hST
          have f3 := hide (HF.out.trans f2)
          have hO2 := hide (own_fr HO.out f2)
          go_wp2_with (at_builtin; refine wpList_append_own _ rfl _ _ 22 rfl w1.heap.size 39 i0 (.agg #[.int .i64 0, .string ⟨#[]⟩, .int .i64 0, .int .i64 0]) 4 40 Tryd.underlying22 hi hz0 hz1 hz2 rfl (by decide) _ _ _ rfl ((hO2.out.alloc _).alloc _) ⟨w2.heap.size + 1, 0, none⟩ 1 1 [.int .i64 kd, .string st, .int .i64 ct, .int .i64 (k : Int)] ?c0 rfl ?c1 ?c2 ?c3 ?c4 ?c5 ?_)
          case c0 => first | rfl | simp
          case c1 => exact cell_four_new _ _ _ _ _ _ _ (by simp)
          case c2 => intro u hu; simp at hu; rcases hu with rfl | rfl | rfl | rfl <;> rfl
          case c3 => unfold maxLen; omega
          case c4 => omega
          case c5 => have := f3.out.size; simp; omega
          intro v' w3 hown' hgrow _
          have HO3 := hide hown'
          have HF3 : Hid (Fr w1 w3) := hide (Below.grown (Below.alloc (Below.alloc f3.out f3.out.size _) (by have := f3.out.size; simp; omega) _) hgrow (by have := f3.out.size; simp; omega) (own_below HO.out))
          go_wp2_with fail
          go_roundw
          case rel =>
            refine ⟨_, k + n, HS, by omega, by simp; omega, by go_num, hide ?_, HF3⟩
            rw [rowT_snoc, List.length_append]
            simp only [tkCells]
            rw [HST.out]
            exact HO3.out
          case measure => simp [intOf]; omega
      · have hke : k = s.size := by omega
        subst hke
        have HE := hide (reach_end HRG.out HR.out (by rw [HZ.out]; exact Nat.le_refl _))
        go_wp2_with fail
        go_ret3
        rw [HE.out]
        exact ⟨f1.trans HF.out, _, rfl, own_base HO.out f1.size⟩
end Go.Proofs.YtaokmegoheofjaaDoor
