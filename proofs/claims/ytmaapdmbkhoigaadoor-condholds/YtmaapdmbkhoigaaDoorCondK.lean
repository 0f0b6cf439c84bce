/- Layer 13, the document's: Text, digits, CmpAt. -/
import Derived.Test.YtmaapdmbkhoigaaDoorCondI
import Derived.Test.YtmaapdmbkhoigaaDoorDecG
import Derived.Test.YtmaapdmbkhoigaaDoorPackD
import Derived.Deep.CutBlock
namespace Go.Proofs.YtmaapdmbkhoigaaDoor
set_option linter.unusedVariables false
set_option linter.unusedSimpArgs false
open Go.RowKit

attribute [local go_sem] World.cell?_alloc_some
/-- The sign of a way, or none. -/
def sgR (op : Int) : List UInt8 := if op = 1 then [60] else if op = 2 then [60, 61] else if op = 3 then [62] else if op = 4 then [62, 61] else if op = 5 then [61] else if op = 6 then [60, 62] else []
def txB (n x y : Bool) (S W P : ByteArray) : ByteArray :=
  match n, x, y with
  | false, false, true => S ++ W
  | false, true, true => S ++ ⟨#[48]⟩ ++ W
  | true, false, true => S ++ ⟨#[45]⟩ ++ W
  | true, true, true => S ++ ⟨#[45]⟩ ++ ⟨#[48]⟩ ++ W
  | false, false, false => S ++ W ++ ⟨#[46]⟩ ++ P
  | false, true, false => S ++ ⟨#[48]⟩ ++ W ++ ⟨#[46]⟩ ++ P
  | true, false, false => S ++ ⟨#[45]⟩ ++ W ++ ⟨#[46]⟩ ++ P
  | true, true, false => S ++ ⟨#[45]⟩ ++ ⟨#[48]⟩ ++ W ++ ⟨#[46]⟩ ++ P
theorem tx_bs (n : Bool) (S W P : List UInt8) : bs (S ++ nuD n W P) = txB n W.isEmpty P.isEmpty (bs S) (bs W) (bs P) := by
  have e48 : (⟨#[48]⟩ : ByteArray) = bs [48] := rfl
  have e45 : (⟨#[45]⟩ : ByteArray) = bs [45] := rfl
  have e46 : (⟨#[46]⟩ : ByteArray) = bs [46] := rfl
  unfold nuD txB
  cases n <;> cases W <;> cases P <;> simp [e48, e45, e46, bs_append]
theorem sgR_le (op : Int) : (sgR op).length ≤ 2 := by
  unfold sgR
  repeat (split; · decide)
  decide
theorem sgR_of {op : Int} (h1 : 1 ≤ op) (h6 : op ≤ 6) (n : Bool) (W P : List UInt8) : sgR op ++ nuD n W P = txD op.toNat n W P := by
  have h : op = 1 ∨ op = 2 ∨ op = 3 ∨ op = 4 ∨ op = 5 ∨ op = 6 := by omega
  rcases h with rfl | rfl | rfl | rfl | rfl | rfl <;> rfl

set_option maxHeartbeats 4000000 in
set_option maxRecDepth 4000 in
theorem refText_any13 (op : Int) (n : Bool) (W P : List UInt8) (w : World) (hW : W.length ≤ 400) (hP : P.length ≤ 400) :
    Calls Tryd.prog 13 #[.agg #[.int .i64 op, .bool n, .string (bs W), .string (bs P)]] w fun e w' => e = .returned (.string (bs (sgR op ++ nuD n W P))) ∧ Fr w w' := by
  rw [tx_bs]
  have zW : (bs W).size ≤ 400 := by rw [bs_size]; exact hW
  have zP : (bs P).size ≤ 400 := by rw [bs_size]; exact hP
  have zS : (bs (sgR op)).size ≤ 2 := by rw [bs_size]; exact sgR_le op
  have eW := bs_empty W
  have eP := bs_empty P
  have hS : Hid (bs (sgR op) = bs (if op = 1 then [60] else if op = 2 then [60, 61] else if op = 3 then [62] else if op = 4 then [62, 61] else if op = 5 then [61] else if op = 6 then [60, 62] else [])) := rfl
  generalize bs (sgR op) = S at *
  generalize W.isEmpty = x at *
  generalize P.isEmpty = y at *
  generalize bs W = W at *
  generalize bs P = P at *
  clear hW hP
  go_enter Tryd.func13, Tryd.ntmps13
  go_upto_block 0 with fail
  obtain ⟨W1, hW1⟩ : ∃ V, V = w.alloc (Obj.cells #[.int .i64 op, .bool n, .string W, .string P] 28) := ⟨_, rfl⟩
  have Q := Quad.new (Fr.refl w) (.int .i64 op) (.bool n) (.string W) (.string P) 28
  have F := Fr.alloc w (.cells #[.int .i64 op, .bool n, .string W, .string P] 28)
  rw [← hW1] at Q F ⊢
  clear hW1
  go_cut [3] (fun s3 wx => s3 = .string S ∧ W1 = wx)
  case first =>
    have hop : op = 1 ∨ op = 2 ∨ op = 3 ∨ op = 4 ∨ op = 5 ∨ op = 6 ∨ (¬ op = 1 ∧ ¬ op = 2 ∧ ¬ op = 3 ∧ ¬ op = 4 ∧ ¬ op = 5 ∧ ¬ op = 6) := by omega
    rcases hop with rfl | rfl | rfl | rfl | rfl | rfl | ⟨h1, h2, h3, h4, h5, h6⟩
    · have hs : Hid (S = _) := hS
      clear hS
      go_wp2_with fail
      go_meet
      exact ⟨by rw [hs.out]; rfl, rfl⟩
    · have hs : Hid (S = _) := hS
      clear hS
      go_wp2_with fail
      go_meet
      exact ⟨by rw [hs.out]; rfl, rfl⟩
    · have hs : Hid (S = _) := hS
      clear hS
      go_wp2_with fail
      go_meet
      exact ⟨by rw [hs.out]; rfl, rfl⟩
    · have hs : Hid (S = _) := hS
      clear hS
      go_wp2_with fail
      go_meet
      exact ⟨by rw [hs.out]; rfl, rfl⟩
    · have hs : Hid (S = _) := hS
      clear hS
      go_wp2_with fail
      go_meet
      exact ⟨by rw [hs.out]; rfl, rfl⟩
    · have hs : Hid (S = _) := hS
      clear hS
      go_wp2_with fail
      go_meet
      exact ⟨by rw [hs.out]; rfl, rfl⟩
    · have g1 : (op == 1) = false := by simpa using h1
      have g2 : (op == 2) = false := by simpa using h2
      have g3 : (op == 3) = false := by simpa using h3
      have g4 : (op == 4) = false := by simpa using h4
      have g5 : (op == 5) = false := by simpa using h5
      have g6 : (op == 6) = false := by simpa using h6
      have hs := hS.out
      rw [if_neg h1, if_neg h2, if_neg h3, if_neg h4, if_neg h5, if_neg h6] at hs
      have hs := hide hs
      clear hS h1 h2 h3 h4 h5 h6
      go_wp2_with fail
      go_meet
      exact ⟨by rw [hs.out], rfl⟩
  case rest =>
    obtain ⟨rfl, rfl⟩ := hcut
    obtain ⟨q0, q1, q2, q3, _, _⟩ := Q
    have F := hide F
    clear hS
    cases n <;> cases x <;> cases y
    all_goals
      go_wp2_with fail
      go_ret
      exact ⟨rfl, F.out⟩

/-- Digits of a text, the least significant one first. -/
theorem dg_rev {l : List UInt8} (hA : AllD l) {j k : Nat} {c : UInt8} (hj : l[j]? = some c) (hk : j + k + 1 = l.length) : dg 10 (valD l) k = c.toNat - 48 := by
  have hs : l = l.take j ++ ([c] ++ l.drop (j + 1)) := by
    conv => lhs; rw [← List.take_append_drop j l]
    have hlt := (List.getElem?_eq_some_iff.1 hj).1
    rw [List.drop_eq_getElem_cons hlt, (List.getElem?_eq_some_iff.1 hj).2]; rfl
  have hA2 := hA
  rw [hs, allD_append, allD_append] at hA2
  have hc := hA2.2.1 c (by simp)
  have hr := valD_lt _ hA2.2.2
  have hlen : (l.drop (j + 1)).length = k := by rw [List.length_drop]; omega
  unfold dg
  rw [hs, valD_append, valD_append, hlen]
  rw [hlen] at hr
  have e1 : valD [c] = c.toNat - 48 := by show 0 * 10 + (c.toNat - 48) = _; omega
  rw [e1]
  have hz : 0 < 10 ^ k := Nat.pow_pos (by decide)
  have hd9 : c.toNat - 48 ≤ 9 := by omega
  have h2 : ([c] ++ l.drop (j + 1)).length = k + 1 := by rw [List.length_append, hlen]; simp; omega
  rw [h2, Nat.pow_succ]
  generalize valD (l.take j) = A at *
  generalize valD (l.drop (j + 1)) = B at *
  generalize c.toNat - 48 = d at *
  have e : A * (10 ^ k * 10) + (d * 10 ^ k + B) = (A * 10 + d) * 10 ^ k + B := by
    rw [Nat.add_mul, Nat.mul_assoc, Nat.mul_comm 10 (10 ^ k), Nat.add_assoc]
  rw [e, Nat.mul_comm (A * 10 + d), Nat.mul_add_div hz, Nat.div_eq_of_lt hr, Nat.add_zero]
  omega

set_option maxHeartbeats 4000000 in
set_option maxRecDepth 4000 in
theorem refDigits_any13 (l : List UInt8) (x : Nat) (w : World) (hA : AllD l) (hl : l.length ≤ 200) (hx : valD l = x) :
    Calls Tryd.prog 24 #[.string (bs l)] w fun e w' => ∃ v, e = .returned v ∧ IsDec w' v x ∧ Fr w w' := by
  have hz : (bs l).size = l.length := bs_size l
  have hdat : (bs l).data.toList = l := bs_data l
  obtain ⟨n, hn⟩ : ∃ n, l.length = n := ⟨_, rfl⟩
  rw [hn] at hz hl
  have HDG := hide (fun (j k : Nat) (c : UInt8) (h1 : l[j]? = some c) (h2 : j + k + 1 = n) => (show dg 10 x k = c.toNat - 48 by rw [← hx]; exact dg_rev hA h1 (by omega)))
  have HAD := hide hA
  have HXN : Hid (x < 10 ^ n) := hide (by rw [← hx, ← hn]; exact valD_lt l hA)
  have HDA := hide hdat
  have HN := hide hn
  obtain ⟨i0, hi, hz0, hz1, hz2⟩ := info_parts info64
  clear hA hx hdat hn
  generalize bs l = s at *
  go_enter Tryd.func24, Tryd.ntmps24
  go_wp2_with fail
  go_loopw [3, 4] (fun d i wr => ∃ (r q : Nat) (ao : Option Addr) (co : Nat), r + q = n ∧ ((r = 0 ∧ i = .int .i64 (-1)) ∨ ∃ j : Nat, r = j + 1 ∧ i = .int .i64 j) ∧ d = .slice ao q co ∧ Hid (wr.ownsRow w.heap.size 3 1 (.slice ao q co) q (rowOf .i64 q (dg 10 x))) ∧ Hid (Fr w wr)) (fun _ i _ => (intOf i + 1).toNat)
  case atStart =>
    refine ⟨n, 0, none, 0, by omega, ?_, rfl, hide (World.ownsRow_nil _ _ _ _), hide (Fr.refl _)⟩
    rcases n with _ | n
    · exact .inl ⟨rfl, by go_num⟩
    · exact .inr ⟨n, rfl, by go_num⟩
  case round =>
    obtain ⟨r, q, ao, co, hrq, hri, rfl, hO, hF⟩ := hrel
    rcases hri with ⟨rfl, rfl⟩ | ⟨j, rfl, rfl⟩
    · obtain rfl : q = n := by omega
      have HNN : Hid (IsDecN wr (.slice ao q co) q x) := by
        obtain ⟨_, _, he, hc1, hc2, _⟩ := own_form hO.out
        simp only [Value.slice.injEq] at he
        obtain ⟨rfl, _, rfl⟩ := he
        exact ⟨ao, co, rfl, hc1, hc2, HXN.out, own_cs hO.out⟩
      have HAd := hide (fun wz (f : Fr wr wz) => refAdd_gen (.slice ao q co) (.slice none 0 0) x 0 q 0 wz (IsDecN.fr HNN.out f) (isDecN_nil _) (by omega) (by omega))
      clear HNN hO
      go_wp2_with fail
      refine (HAd.out _ (Fr.refl _)).mono ?_
      rintro e w5 ⟨vs, rfl, DS, f5⟩
      rw [Nat.add_zero] at DS
      have DS := hide DS
      have F := hide (hF.out.trans f5)
      clear f5
      go_wp2_with fail
      go_ret
      exact ⟨_, rfl, DS.out, F.out⟩
    · have hjx : j < s.size := by omega
      obtain ⟨c, hc, hd⟩ := data_at s j hjx
      rw [HDA.out] at hd
      obtain ⟨z, hzc⟩ : ∃ z : Int, (c.toNat : Int) = z := ⟨_, rfl⟩
      have hcz : ((s[j]'hjx).toNat : Int) = z := by rw [hc, hzc]
      have hcb := HAD.out c (List.mem_of_getElem? hd)
      have z0 : 48 ≤ z := by omega
      have z9 : z ≤ 57 := by omega
      have hdg : Hid (z - 48 = (dg 10 x q : Int)) := hide (by rw [HDG.out j q c hd (by omega)]; omega)
      have hq2 : q ≤ 200 := by omega
      clear hd hc hzc hcb
      go_wp2_with (at_builtin; refine wpList_append_own _ rfl _ _ 66 rfl w.heap.size 3 i0 (.int .i64 0) 1 8 Tryd.underlying66 hi hz0 hz1 hz2 rfl (by decide) _ _ _ rfl (hO.out.alloc _) ⟨wr.heap.size, 0, none⟩ 1 1 [.int .i64 (z - 48)] rfl rfl ?c1 ?c2 ?c3 ?c4 ?c5 ?_)
      case c1 => exact cell_one_new _ _ _
      case c2 => intro u hu; simp at hu; subst hu; rfl
      case c3 => unfold maxLen; omega
      case c4 => omega
      case c5 => have := hF.out.size; simp; omega
      intro v' w2 hown' hgrow _
      obtain ⟨a2, c2, hv2, _, _, _⟩ := own_form hown'
      rw [hv2] at hown'
      rw [hv2]
      have hF3 : Fr w w2 := Below.grown (Below.alloc hF.out hF.out.size _) hgrow (by have := hF.out.size; simp; omega) (own_below hO.out)
      have hown2 : w2.ownsRow w.heap.size 3 1 (.slice a2 (q + 1) c2) (q + 1) (rowOf .i64 (q + 1) (dg 10 x)) := by
        rw [← rowOf_snoc, ← hdg.out]; exact hown'
      have HO2 := hide hown2
      have HF3 := hide hF3
      clear hgrow hown' hv2 hown2 hF3 hO hF
      have hri : ∀ v : Value, v = .int .i64 ((j : Int) - 1) → ((j = 0 ∧ v = .int .i64 (-1)) ∨ ∃ j' : Nat, j = j' + 1 ∧ v = .int .i64 j') := by
        rintro v rfl
        rcases j with _ | j
        · exact .inl ⟨rfl, by go_num⟩
        · exact .inr ⟨j, rfl, by go_num⟩
      have HRI := hide hri
      clear hri
      go_wp2_with fail
      go_roundw
      case rel => exact ⟨j, q + 1, a2, c2, by omega, HRI.out _ (by go_num), rfl, HO2, HF3⟩
      case measure => simp [intOf]

theorem nl_ten10 {k n : Nat} (h : k ≤ n) : nlen 10 (10 ^ k) ≤ n + 1 := nlen_le ten2 (Nat.pow_lt_pow_right (by decide) (by omega))
set_option maxHeartbeats 2000000 in
set_option maxRecDepth 4000 in
theorem refCmpAt_any (va vb : Value) (x y k l : Nat) (w : World) (ha : IsDec w va x) (hb : IsDec w vb y) (hx : nlen 10 x ≤ 1000000) (hy : nlen 10 y ≤ 1000000) (hk : k ≤ 10000) (hl : l ≤ 10000) (Z : Int) (hZ : cmpZ (x * 10 ^ (l - k)) (y * 10 ^ (k - l)) = Z) :
    Calls Tryd.prog 25 #[va, .int .i64 k, vb, .int .i64 l] w fun e w' => e = .returned (.int .i64 Z) ∧ Fr w w' := by
  have T1 : Hid (∀ w, IsDec w va x → Calls Tryd.prog 38 #[va, .int .i64 ((l : Int) - (k : Int))] w fun e w' => ∃ v, e = .returned v ∧ IsDec w' v (x * 10 ^ (l - k)) ∧ Fr w w') := hide (fun w h => by
    have := refTens_any va x ((l : Int) - (k : Int)) w h hx (by omega) (by omega)
    rwa [show ((l : Int) - (k : Int)).toNat = l - k by omega] at this)
  have T2 : Hid (∀ w, IsDec w vb y → Calls Tryd.prog 38 #[vb, .int .i64 ((k : Int) - (l : Int))] w fun e w' => ∃ v, e = .returned v ∧ IsDec w' v (y * 10 ^ (k - l)) ∧ Fr w w') := hide (fun w h => by
    have := refTens_any vb y ((k : Int) - (l : Int)) w h hy (by omega) (by omega)
    rwa [show ((k : Int) - (l : Int)).toNat = k - l by omega] at this)
  have n1 : nlen 10 (x * 10 ^ (l - k)) ≤ 1100000 := by
    have h1 : nlen 10 (10 ^ (l - k)) ≤ 10001 := nl_ten10 (by omega)
    have := nlen_mul ten2 hx h1; omega
  have n2 : nlen 10 (y * 10 ^ (k - l)) ≤ 1100000 := by
    have h1 : nlen 10 (10 ^ (k - l)) ≤ 10001 := nl_ten10 (by omega)
    have := nlen_mul ten2 hy h1; omega
  have HZ := hide hZ
  have HA := hide ha
  have HB := hide hb
  clear hZ ha hb
  generalize x * 10 ^ (l - k) = A at *
  generalize y * 10 ^ (k - l) = B at *
  go_enter Tryd.func25, Tryd.ntmps25
  go_wp2_with fail
  refine (T1.out _ HA.out).mono ?_
  rintro e w1 ⟨v1, rfl, D1, f1⟩
  have D1 := hide D1
  go_wp2_with fail
  refine (T2.out _ (HB.out.fr f1)).mono ?_
  rintro e w2 ⟨v2, rfl, D2, f2⟩
  have D2 := hide D2
  have D1 := hide (D1.out.fr f2)
  have F := hide (f1.trans f2)
  clear f1 f2
  go_wp2_with fail
  refine (refCmp_any _ _ A B _ D1.out D2.out (by omega) (by omega)).mono ?_
  rintro e w3 ⟨rfl, f3⟩
  rw [HZ.out]
  have F := hide (F.out.trans f3)
  go_wp2_with fail
  go_ret
  exact ⟨rfl, F.out⟩
end Go.Proofs.YtmaapdmbkhoigaaDoor
