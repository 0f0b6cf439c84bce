/- Layer 13, the document's: run, Parse. -/
import Derived.Test.YtmaapdmbkhoigaaDoorCondH
import Derived.Deep.CutBlock
namespace Go.Proofs.YtmaapdmbkhoigaaDoor
set_option linter.unusedVariables false
set_option linter.unusedSimpArgs false
open Go.RowKit
open Go.Lib (hasPrefix trimPrefix trimLeftB trimRightB)

set_option maxHeartbeats 1000000 in
set_option maxRecDepth 4000 in
theorem refRun_any (l : List UInt8) (w : World) (hl : l.length ≤ 100000) :
    Calls Tryd.prog 20 #[.string (bs l)] w fun e w' => e = .returned (.bool (runD l)) ∧ w' = w := by
  have hz : (bs l).size = l.length := bs_size l
  have hdat : (bs l).data.toList = l := bs_data l
  have HR := hide (@runD_iff l)
  generalize runD l = R at *
  generalize bs l = s at *
  subst hdat
  have HZ := hide hz
  clear hz
  have hl' : s.size ≤ 100000 := by rw [HZ.out]; exact hl
  clear hl
  go_enter Tryd.func20, Tryd.ntmps20
  go_wp2_with fail
  go_loopw [3] (fun i wr => ∃ k : Nat, k ≤ s.size ∧ i = .int .i64 k ∧ Hid (AllD (s.data.toList.take k)) ∧ wr = w) (fun i _ => s.size - (intOf i).toNat)
  case atStart => exact ⟨0, by omega, rfl, hide allD_nil, rfl⟩
  case round =>
    obtain ⟨k, hk, rfl, hA, rfl⟩ := hrel
    by_cases hlt : k < s.size
    · obtain ⟨c, hc, hd⟩ := data_at s k hlt
      obtain ⟨z, hz⟩ : ∃ z : Int, (c.toNat : Int) = z := ⟨_, rfl⟩
      have hzb := byte_bd c
      rw [hz] at hzb
      have hcz : ((s[k]'hlt).toNat : Int) = z := by rw [hc, hz]
      have HD := hide hd
      have HZc := hide hz
      clear hd hz hc
      by_cases h1 : z < 48 ∨ 57 < z
      · have hno : Hid (R = false) := hide (by
          cases R with
          | false => rfl
          | true =>
            have := (HR.out.1 rfl).2.2 c (List.mem_of_getElem? HD.out)
            have := HZc.out
            omega)
        rcases h1 with h1 | h1
        · go_wp2_with fail
          go_ret
          exact ⟨by rw [hno.out]; rfl, rfl⟩
        · have h2 : ¬ z < 48 := by omega
          go_wp2_with fail
          go_ret
          exact ⟨by rw [hno.out]; rfl, rfl⟩
      · have h2 : ¬ z < 48 := by omega
        have h3 : ¬ 57 < z := by omega
        go_wp2_with fail
        go_roundw
        case rel =>
          refine ⟨k + 1, by omega, by go_num, hide ?_, trivial⟩
          rw [take_snoc HD.out, allD_append]
          refine ⟨hA.out, fun b hb => ?_⟩
          rw [List.mem_singleton.1 hb]
          have := HZc.out
          omega
        case measure => simp [intOf]; omega
    · have : k = s.size := by omega
      subst this
      have hA' : AllD s.data.toList := by have := hA.out; rwa [HZ.out, List.take_length] at this
      by_cases h1 : 1 ≤ s.size ∧ s.size ≤ 30
      · have hyes : Hid (R = true) := hide (HR.out.2 ⟨by rw [← HZ.out]; exact h1.1, by rw [← HZ.out]; exact h1.2, hA'⟩)
        have h2 : (1 : Int) ≤ s.size := by omega
        have h3 : (s.size : Int) ≤ 30 := by omega
        clear h1 hA' hA
        go_wp2_with fail
        go_ret
        exact ⟨by rw [hyes.out]; rfl, rfl⟩
      · have hno : Hid (R = false) := hide (by
          cases R with
          | false => rfl
          | true =>
            have := HR.out.1 rfl
            rw [← HZ.out] at this
            omega)
        clear hA' hA
        by_cases h2 : s.size < 1
        · have h2 : ¬ (1 : Int) ≤ s.size := by omega
          go_wp2_with fail
          go_ret
          exact ⟨by rw [hno.out]; rfl, rfl⟩
        · have h2 : (1 : Int) ≤ s.size := by omega
          have h3 : ¬ (s.size : Int) ≤ 30 := by omega
          go_wp2_with fail
          go_ret
          exact ⟨by rw [hno.out]; rfl, rfl⟩

theorem eqs (m k : List UInt8) (d : Bool) (h : (m == k) = d) : ((bs m).toList == k) = d := by
  rw [Go.Lib.toList_data, bs_data]; exact h
theorem bs_ext (l : List UInt8) (a b : Nat) : (bs l).extract a b = bs ((l.drop a).take (b - a)) := by
  apply ByteArray.ext
  apply Array.toList_inj.1
  rw [Go.Lib.extract_data, bs_data, bs_data]
theorem bs_from (l : List UInt8) (a n : Nat) (h : n = l.length) : (bs l).extract a n = bs (l.drop a) := by
  rw [bs_ext, List.take_of_length_le (by rw [List.length_drop]; omega)]
theorem bs_upto (l : List UInt8) (b : Nat) : (bs l).extract 0 b = bs (l.take b) := by
  rw [bs_ext]; rfl

set_option maxHeartbeats 1000000 in
set_option maxRecDepth 4000 in
theorem refParse_short (l : List UInt8) (w : World) (hl : l.length < 2) :
    Calls Tryd.prog 9 #[.string (bs l)] w fun e w' => e = .returned (.tuple #[cA l, .bool (okD l)]) ∧ Fr w w' := by
  have hno : okD l = false := by
    cases l with
    | nil => decide
    | cons a r =>
      cases r with
      | nil =>
        unfold okD
        have : numOk (reD [a]) = false := by
          unfold reD; split <;> exact numOk_nil
        rw [this, Bool.and_false]
      | cons b q => simp at hl; omega
  rw [cA_no hno, hno]
  have hz : ((bs l).size : Int) < 2 := by rw [bs_size]; omega
  generalize bs l = s at *
  clear hno hl
  go_enter Tryd.func9, Tryd.ntmps9
  go_upto_region 4 with fail
  obtain ⟨W3, hW3⟩ : ∃ V, V = ((w.alloc (Obj.cells #[.int .i64 0, .bool false, .string ⟨#[]⟩, .string ⟨#[]⟩] 28)).alloc (Obj.cells #[.int .i64 0, .bool false, .string ⟨#[]⟩, .string ⟨#[]⟩] 28)).alloc (Obj.cells #[.int .i64 0, .bool false, .string ⟨#[]⟩, .string ⟨#[]⟩] 28) := ⟨_, rfl⟩
  have f1 := Fr.alloc w (Obj.cells #[.int .i64 0, .bool false, .string ⟨#[]⟩, .string ⟨#[]⟩] 28)
  have f2 := f1.trans (Fr.alloc _ (Obj.cells #[.int .i64 0, .bool false, .string ⟨#[]⟩, .string ⟨#[]⟩] 28))
  have F := f2.trans (Fr.alloc _ (Obj.cells #[.int .i64 0, .bool false, .string ⟨#[]⟩, .string ⟨#[]⟩] 28))
  have Qr := ((Quad.new (Fr.refl w) (.int .i64 0) (.bool false) (.string ⟨#[]⟩) (.string ⟨#[]⟩) 28).fr (Fr.alloc _ (Obj.cells #[.int .i64 0, .bool false, .string ⟨#[]⟩, .string ⟨#[]⟩] 28))).fr (Fr.alloc _ (Obj.cells #[.int .i64 0, .bool false, .string ⟨#[]⟩, .string ⟨#[]⟩] 28))
  have Qn : Quad w (((w.alloc (Obj.cells #[.int .i64 0, .bool false, .string ⟨#[]⟩, .string ⟨#[]⟩] 28)).alloc (Obj.cells #[.int .i64 0, .bool false, .string ⟨#[]⟩, .string ⟨#[]⟩] 28)).alloc (Obj.cells #[.int .i64 0, .bool false, .string ⟨#[]⟩, .string ⟨#[]⟩] 28)) (w.heap.size + 1) (.int .i64 0) (.bool false) (.string ⟨#[]⟩) (.string ⟨#[]⟩) := by simpa using (Quad.new f1 (.int .i64 0) (.bool false) (.string ⟨#[]⟩) (.string ⟨#[]⟩) 28).fr (Fr.alloc _ (Obj.cells #[.int .i64 0, .bool false, .string ⟨#[]⟩, .string ⟨#[]⟩] 28))
  have Qc : Quad w (((w.alloc (Obj.cells #[.int .i64 0, .bool false, .string ⟨#[]⟩, .string ⟨#[]⟩] 28)).alloc (Obj.cells #[.int .i64 0, .bool false, .string ⟨#[]⟩, .string ⟨#[]⟩] 28)).alloc (Obj.cells #[.int .i64 0, .bool false, .string ⟨#[]⟩, .string ⟨#[]⟩] 28)) (w.heap.size + 1 + 1) (.int .i64 0) (.bool false) (.string ⟨#[]⟩) (.string ⟨#[]⟩) := by simpa using Quad.new f2 (.int .i64 0) (.bool false) (.string ⟨#[]⟩) (.string ⟨#[]⟩) 28
  rw [← hW3] at Qr Qn Qc F ⊢
  clear hW3 f1 f2
  have F := hide F
  have Qr := hide Qr
  have Qn := hide Qn
  have Qc := hide Qc
  obtain ⟨n0, n1, n2, n3, _, _⟩ := Qn.out
  obtain ⟨r0, r1, r2, r3, z, _⟩ := Qr.out
  have z0 := z 0
  have z1 := z 1
  have z2 := z 2
  have z3 := z 3
  have R := hide (Qr.out.set (.int .i64 0) (.bool false) (.string ⟨#[]⟩) (.string ⟨#[]⟩))
  have FR := hide (Qr.out.set_fr F.out (.int .i64 0) (.bool false) (.string ⟨#[]⟩) (.string ⟨#[]⟩))
  clear z
  go_wp2_with fail
  exact bodyPost_ret (results_cond (.inr rfl) rfl _ R.out rfl) rfl ⟨rfl, FR.out⟩

theorem Quad.put0 {W0 w : World} {b : Nat} {v0 v1 v2 v3 : Value} (h : Quad W0 w b v0 v1 v2 v3) (u : Value) : Quad W0 (w.setCell ⟨b, 0, none⟩ u) b u v1 v2 v3 := by
  obtain ⟨c0, c1, c2, c3, c4, c5⟩ := h
  exact ⟨c_same c0, c_other (by decide) c1, c_other (by decide) c2, c_other (by decide) c3, fun o => by simpa using c4 o, c5⟩
theorem Quad.put2 {W0 w : World} {b : Nat} {v0 v1 v2 v3 : Value} (h : Quad W0 w b v0 v1 v2 v3) (u : Value) : Quad W0 (w.setCell ⟨b, 2, none⟩ u) b v0 v1 u v3 := by
  obtain ⟨c0, c1, c2, c3, c4, c5⟩ := h
  exact ⟨c_other (by decide) c0, c_other (by decide) c1, c_same c2, c_other (by decide) c3, fun o => by simpa using c4 o, c5⟩
theorem Quad.put3 {W0 w : World} {b : Nat} {v0 v1 v2 v3 : Value} (h : Quad W0 w b v0 v1 v2 v3) (u : Value) : Quad W0 (w.setCell ⟨b, 3, none⟩ u) b v0 v1 v2 u := by
  obtain ⟨c0, c1, c2, c3, c4, c5⟩ := h
  exact ⟨c_other (by decide) c0, c_other (by decide) c1, c_other (by decide) c2, c_same c3, fun o => by simpa using c4 o, c5⟩
theorem Quad.fit {W0 w : World} {b : Nat} {v0 v1 v2 v3 : Value} (h : Quad W0 w b v0 v1 v2 v3) (f : Fr W0 w) (o : Nat) (u : Value) : Fr W0 (w.setCell ⟨b, o, none⟩ u) := Below.setCell f h.2.2.2.2.2 _
theorem Quad.far {W0 w : World} {b b' o : Nat} {v0 v1 v2 v3 : Value} (h : Quad W0 w b v0 v1 v2 v3) (hne : b' ≠ b) (u : Value) : Quad W0 (w.setCell ⟨b', o, none⟩ u) b v0 v1 v2 v3 := by
  obtain ⟨c0, c1, c2, c3, c4, c5⟩ := h
  have e : ∀ j, (w.setCell ⟨b', o, none⟩ u).cell? ⟨b, j, none⟩ = w.cell? ⟨b, j, none⟩ := fun j => World.cell?_setCell_other w _ _ u (fun e => hne (by injection e))
  exact ⟨by rw [e]; exact c0, by rw [e]; exact c1, by rw [e]; exact c2, by rw [e]; exact c3, fun o => by simpa using c4 o, c5⟩
def bLen : Value → Nat | .string b => b.size | _ => 0
/-- Behind the point; without one, a nought. -/
def pvD (l : List UInt8) : List UInt8 := if poD l = true then paD l else [48]
theorem numOk_pv (l : List UInt8) : numOk l = (runD (whD l) && runD (pvD l)) := by
  unfold numOk pvD
  cases poD l with
  | true => simp
  | false => rw [if_neg (by decide)]; have : runD [48] = true := by decide
             rw [this]; simp
theorem pD_pv (l : List UInt8) : pD l = trimRightB (pvD l) 48 := by
  unfold pvD pD
  cases h : poD l with
  | true => rfl
  | false =>
    unfold poD at h
    have h := of_decide_eq_false h
    have : paD l = [] := by unfold paD; exact List.drop_of_length_le (by omega)
    rw [this]; rfl
theorem pvD_le (l : List UInt8) : (pvD l).length ≤ l.length + 1 := by
  have := paD_le l
  unfold pvD; split
  · omega
  · simp

/-- How a text's first bytes stand to the six signs. -/
structure Sgs (T1 T2 : ByteArray) (op : Nat) : Prop where
  a : op ≤ 6
  t2 : (T2.toList == ([60, 61] : List UInt8)) = decide (op = 2)
  t4 : (T2.toList == ([62, 61] : List UInt8)) = decide (op = 4)
  t6 : (T2.toList == ([60, 62] : List UInt8)) = decide (op = 6)
  l1 : (T2.toList == ([60] : List UInt8)) = false
  l3 : (T2.toList == ([62] : List UInt8)) = false
  l5 : (T2.toList == ([61] : List UInt8)) = false
  s1 : (op = 0 ∨ op = 1 ∨ op = 3 ∨ op = 5) → (T1.toList == ([60] : List UInt8)) = decide (op = 1)
  s3 : (op = 0 ∨ op = 1 ∨ op = 3 ∨ op = 5) → (T1.toList == ([62] : List UInt8)) = decide (op = 3)
  s5 : (op = 0 ∨ op = 1 ∨ op = 3 ∨ op = 5) → (T1.toList == ([61] : List UInt8)) = decide (op = 5)
  s2 : (T1.toList == ([60, 61] : List UInt8)) = false
  s4 : (T1.toList == ([62, 61] : List UInt8)) = false
  s6 : (T1.toList == ([60, 62] : List UInt8)) = false
theorem sgs_of (a b : UInt8) (r : List UInt8) : Sgs (bs [a]) (bs [a, b]) (opD (a :: b :: r)) := by
  refine ⟨opD_le _, ?_, ?_, ?_, eqs [a, b] [60] _ (by simp), eqs [a, b] [62] _ (by simp), eqs [a, b] [61] _ (by simp), fun h => ?_, fun h => ?_, fun h => ?_, eqs [a] [60, 61] _ (by simp), eqs [a] [62, 61] _ (by simp), eqs [a] [60, 62] _ (by simp)⟩
  all_goals
    first
    | refine eqs [a, b] [60, 61] _ ?_
    | refine eqs [a, b] [62, 61] _ ?_
    | refine eqs [a, b] [60, 62] _ ?_
    | refine eqs [a] [60] _ ?_
    | refine eqs [a] [62] _ ?_
    | refine eqs [a] [61] _ ?_
  all_goals
    by_cases ha : a = 60
    · subst ha
      by_cases hb : b = 61
      · subst hb; first | (simp [opD] at h) | simp [opD]
      · by_cases hc : b = 62
        · subst hc; first | (simp [opD] at h) | simp [opD]
        · simp [opD, hb, hc]
    · by_cases ha2 : a = 62
      · subst ha2
        by_cases hb : b = 61
        · subst hb; first | (simp [opD] at h) | simp [opD]
        · simp [opD, hb]
      · by_cases ha3 : a = 61
        · subst ha3; simp [opD]
        · simp [opD, ha, ha2, ha3]
end Go.Proofs.YtmaapdmbkhoigaaDoor
