/- Layer 10, the document's: Number, middle, Near. -/
import Derived.Test.YtammjgieocgelaaGreatDoorShortV
import Derived.Test.YtammjgieocgelaaGreatDoorPackD
import Derived.Test.YtammjgieocgelaaGreatDoorPackF
import Derived.Test.YtammjgieocgelaaGreatDoorPackG
import Derived.Deep.DeepCutAuto
namespace Go.Proofs.YtammjgieocgelaaGreatDoor
set_option linter.unusedVariables false
set_option linter.unusedSimpArgs false
open Go.RowKit

attribute [local go_sem] World.cell?_alloc_some
/-- The digits from the end. -/
def fromEnd (l : List UInt8) (q : Nat) : Int := ((l.getD (l.length - 1 - q) 0).toNat : Int) - 48
theorem dg_valD : ∀ l, AllD l → ∀ q, q < l.length → (dg 10 (valD l) q : Int) = fromEnd l q := by
  refine snocRec (fun _ q h => by simp at h) ?_
  intro l b ih h q hq
  rw [allD_append] at h
  have hb := h.2 b (by simp)
  have e : valD (l ++ [b]) = 10 * valD l + (b.toNat - 48) := by rw [valD_snoc, Nat.mul_comm]
  rw [List.length_append, List.length_singleton] at hq
  cases q with
  | zero =>
    have e1 : dg 10 (valD (l ++ [b])) 0 = b.toNat - 48 := by
      unfold dg
      rw [Nat.pow_zero, Nat.div_one, e]
      omega
    rw [e1]
    unfold fromEnd
    rw [List.length_append, List.length_singleton, Nat.add_sub_cancel, Nat.sub_zero]
    simp
    omega
  | succ q =>
    have e1 : dg 10 (valD (l ++ [b])) (q + 1) = dg 10 (valD l) q := by
      unfold dg
      rw [Nat.pow_succ, Nat.mul_comm, ← Nat.div_div_eq_div_mul, e]
      congr 2
      omega
    rw [e1, ih h.1 q (by omega)]
    unfold fromEnd
    rw [List.length_append, List.length_singleton, Nat.add_sub_cancel]
    have h1 : l.length - (q + 1) = l.length - 1 - q := by omega
    rw [h1]
    have h2 : l.length - 1 - q < l.length := by omega
    simp only [List.getD_eq_getElem?_getD, List.getElem?_append_left h2]
theorem head_get {l : List UInt8} (h : l ≠ []) : l.head? = some (l.getD 0 0) := by
  cases l with
  | nil => exact absurd rfl h
  | cons a l => rfl
theorem nlen_valD {l : List UInt8} (hA : AllD l) (h0 : l ≠ []) (hh : l.head? ≠ some 48) : nlen 10 (valD l) = l.length := by
  have hp : 0 < l.length := List.length_pos_iff.2 h0
  refine nlen_eq ten2 (valD_lt l hA) (.inr ?_)
  refine le_of_dg ?_
  intro e
  have h1 := dg_valD l hA (l.length - 1) (by omega)
  rw [e] at h1
  unfold fromEnd at h1
  rw [Nat.sub_self] at h1
  apply hh
  rw [head_get h0]
  have : l.getD 0 0 = 48 := UInt8.toNat_inj.1 (by show (l.getD 0 0).toNat = 48; omega)
  rw [this]
theorem data_end {l : List UInt8} {q : Nat} {b : UInt8} (hq : q < l.length) (h : l[l.length - 1 - q]? = some b) : fromEnd l q = (b.toNat : Int) - 48 := by
  unfold fromEnd
  rw [List.getD_eq_getElem?_getD, h]
  rfl

set_option maxHeartbeats 1000000 in
set_option maxRecDepth 4000 in
theorem refNumber_any (s : ByteArray) (e : Int) (X k : Nat) (w : World) (hs : s.size ≤ 1000) (h0 : s.data.toList ≠ []) (hA : AllD s.data.toList) (hh : s.data.toList.head? ≠ some 48) (e0 : -100000 ≤ e) (e1 : e ≤ 100000) (hX : valD s.data.toList * 10 ^ (e - ((s.data.toList.length : Int) - 1)).toNat = X) (hk : (-(e - ((s.data.toList.length : Int) - 1))).toNat = k) :
    Calls Tryz.prog 20 #[.string s, .int .i64 e] w fun r w' => ∃ v, r = .returned (.tuple #[v, .int .i64 (k : Int)]) ∧ IsDec w' v X ∧ Fr w w' := by
  obtain ⟨i0, hi, hz0, hz1, hz2⟩ := info_parts info64
  obtain ⟨l, hl⟩ : ∃ l, s.data.toList = l := ⟨_, rfl⟩
  obtain ⟨n, hn⟩ : ∃ n, s.size = n := ⟨_, rfl⟩
  rw [hl] at h0 hA hh hX hk
  have hln : l.length = n := by rw [← hl, len_data, hn]
  have np : 0 < n := by rw [← hln]; exact List.length_pos_iff.2 h0
  have HN := hide (nlen_valD hA h0 hh)
  have HV := hide (valD_lt l hA)
  have HD := hide (dg_valD l hA)
  have HX := hide hX
  have HLN := hide hln
  have HL := hide hl
  rw [hln] at HN HV HD HX hk
  clear hl hA hh hX hln h0
  have hk' : 0 ≤ (n : Int) - 1 - e → (n : Int) - 1 - e = k := by omega
  have hk'' : (n : Int) - 1 - e < 0 → (k : Int) = 0 := by omega
  clear hk
  go_enter Tryz.func20, Tryz.ntmps20
  go_wp2_with fail
  go_loopw [6, 7] (fun d i wx => ∃ (r q : Nat) (ao : Option Addr) (co : Nat), r + q = n ∧ ((r = 0 ∧ i = .int .i64 (-1)) ∨ ∃ j : Nat, r = j + 1 ∧ i = .int .i64 j) ∧ d = .slice ao q co ∧ Hid (wx.ownsRow w.heap.size 3 1 (.slice ao q co) q (rowOf .i64 q (dg 10 (valD l)))) ∧ Hid (Fr w wx)) (fun _ i _ => (intOf i + 1).toNat)
  case atStart =>
    refine ⟨n, 0, none, 0, by omega, ?_, rfl, hide (World.ownsRow_nil _ _ _ _), hide (Fr.refl _)⟩
    exact .inr ⟨n - 1, by omega, by congr 1; omega⟩
  case round =>
    obtain ⟨r, q, ao, co, hrq, hri, rfl, hO, hF⟩ := hrel
    obtain ⟨V, rfl⟩ : ∃ V, V = wr := ⟨_, rfl⟩
    rcases hri with ⟨rfl, rfl⟩ | ⟨j, rfl, rfl⟩
    · obtain rfl : q = n := by omega
      obtain ⟨_, _, he, hc1, hc2, _⟩ := own_form hO.out
      simp only [Value.slice.injEq] at he
      obtain ⟨rfl, _, rfl⟩ := he
      have hd : Hid (IsDec V (.slice ao q co) (valD l)) := ⟨ao, co, by rw [HN.out], by rw [HN.out]; exact hc1, hc2, by rw [HN.out]; exact own_cs hO.out⟩
      by_cases hk : (q : Int) - 1 - e < 0
      · obtain rfl : k = 0 := by have := hk'' hk; omega
        have hw : IntKind.i64.wrap (-((q : Int) - 1 - e)) = -((q : Int) - 1 - e) := i64_small (by omega) (by omega)
        go_wp2_with fail
        refine (refTens_any _ (valD l) (-((q : Int) - 1 - e)) _ hd.out (by rw [HN.out]; omega) (by omega) (by omega)).mono ?_
        rintro e' w2 ⟨v2, rfl, i2, f2⟩
        have I2 : Hid (IsDec w2 v2 X) := by rw [← HX.out, show e - ((q : Int) - 1) = -((q : Int) - 1 - e) by omega]; exact i2
        have F2 := hide (hF.out.trans f2)
        clear i2 f2
        go_wp2_with fail
        go_ret2
        exact ⟨_, rfl, I2.out, F2.out⟩
      · have hk2 := hk' (by omega)
        have hx : Hid (IsDec V (.slice ao q co) X) := by
          rw [← HX.out, show (e - ((q : Int) - 1)).toNat = 0 by omega, Nat.pow_zero, Nat.mul_one]
          exact hd
        go_wp2_with fail
        go_ret2
        exact ⟨_, by first | rfl | (rw [hk2]; rfl), hx.out, hF.out⟩
    · have hlt : j < s.size := by omega
      obtain ⟨c, hc, hd⟩ := data_at s j hlt
      rw [HL.out] at hd
      have hqn : q < n := by omega
      have hfe : fromEnd l q = (c.toNat : Int) - 48 := data_end (by have := HLN.out; omega) (by rw [HLN.out, show n - 1 - q = j by omega]; exact hd)
      have hdg := HD.out q hqn
      rw [hfe] at hdg
      obtain ⟨z, hz⟩ : ∃ z : Int, (c.toNat : Int) = z := ⟨_, rfl⟩
      have hzb := byte_bd c
      rw [hz] at hzb hdg
      have hcz : ((s[j]'hlt).toNat : Int) = z := by rw [hc, hz]
      have HDG := hide hdg
      clear hd hz hc hfe hdg
      go_wp2_with (at_builtin; refine wpList_append_own _ rfl _ _ 33 rfl w.heap.size 3 i0 (.int .i64 0) 1 8 Tryz.underlying33 hi hz0 hz1 hz2 rfl (by decide) _ _ _ rfl (hO.out.alloc _) ⟨V.heap.size, 0, none⟩ 1 1 [.int .i64 (z - 48)] rfl rfl ?c1 ?c2 ?c3 ?c4 ?c5 ?_)
      case c1 => exact cell_one_new _ _ _
      case c2 => intro u hu; simp at hu; subst hu; rfl
      case c3 => unfold maxLen; omega
      case c4 => omega
      case c5 => have := hF.out.size; simp; omega
      intro v' w2 hown' hgrow _
      obtain ⟨a2, c2, hv2, _, _, _⟩ := own_form hown'
      rw [hv2] at hown'
      rw [hv2]
      have hF2 : Fr w w2 := Below.grown (Below.alloc hF.out hF.out.size _) hgrow (by have := hF.out.size; simp; omega) (own_below hO.out)
      have hown2 : w2.ownsRow w.heap.size 3 1 (.slice a2 (q + 1) c2) (q + 1) (rowOf .i64 (q + 1) (dg 10 (valD l))) := by
        rw [← rowOf_snoc, HDG.out]; exact hown'
      have HO2 := hide hown2
      have HF2 := hide hF2
      clear hgrow hown' hv2 hown2 hF2
      go_wp2_with fail
      go_roundw
      case rel =>
        refine ⟨j, q + 1, a2, c2, by omega, ?_, rfl, HO2, HF2⟩
        rcases j with _ | j
        · exact .inl ⟨rfl, by go_num⟩
        · exact .inr ⟨j, rfl, by go_num⟩
      case measure => simp [intOf]

/-- The decimals of a neighbour's value; of Infinite 2 to 1024. -/
def qDec (c : Nat) : Nat := if c = 9218868437227405312 then 4503599627370496 * 2 ^ 972 else vDec c
def qK (c : Nat) : Nat := if c = 9218868437227405312 then 0 else vK c
theorem class_inf : bC 9218868437227405312 = 2 := by decide
theorem class_fin {c : Nat} (h : c < 9218868437227405312) : bC c ≠ 2 := by
  have e0 : bE c = c / 4503599627370496 % 2048 := rfl
  unfold bC
  rw [if_neg (by omega)]
  split <;> omega
theorem nl10_sum {x y n : Nat} (hx : nlen 10 x ≤ n) (hy : nlen 10 y ≤ n) : nlen 10 (x + y) ≤ n + 1 := nlen_le ten2 (sum_lt ten2 (lt_of_nlen ten2 hx) (lt_of_nlen ten2 hy))
theorem vDec_len (b : Nat) : nlen 10 (vDec b) ≤ 2200 ∧ vK b ≤ 1074 := by
  have hx := bX_low b
  obtain ⟨h1, h2, h3, h4, h5, h6⟩ := value_facts (bM b) (bX b) (bM_lt b) hx.1 hx.2 (vNum b) (vDen b) (vDec b) rfl rfl rfl
  have hk : vK b = (-bX b).toNat := rfl
  omega
theorem tens_nat (va : Value) (x k : Nat) (w : World) (ha : IsDec w va x) (hx : nlen 10 x ≤ 1000000) (hk : k ≤ 1000000) (K : Int) (hK : (K : Int) = k) :
    Calls Tryz.prog 38 #[va, .int .i64 K] w fun e w' => ∃ v, e = .returned v ∧ IsDec w' v (x * 10 ^ k) ∧ Fr w w' := by
  subst hK
  have := refTens_any va x (k : Int) w ha hx (by omega) (by omega)
  rwa [Int.toNat_natCast] at this
/-- The document's value of bits, and its decimals. -/
theorem refOf_dec (b : Nat) (hb : b < 18446744073709551616) : ∃ (c : Nat) (g : Bool) (m : Nat) (x : Int), bC b = c ∧ bM b = m ∧ bX b = x ∧ (∀ wz, Calls Tryz.prog 8 #[.int .u64 (b : Int)] wz fun e w' => e = .returned (.agg #[.int .i64 (c : Int), .bool g, .int .u64 (m : Int), .int .i64 x]) ∧ Fr wz w') ∧
    (∀ wz, Calls Tryz.prog 13 #[.int .u64 (m : Int), .int .i64 x] wz fun r w' => ∃ v, r = .returned (.tuple #[v, .int .i64 (vK b : Int)]) ∧ IsDec w' v (vDec b) ∧ Fr wz w') := by
  have hx := bX_low b
  refine ⟨bC b, bN b, bM b, bX b, rfl, rfl, rfl, fun wz => refOf_any7 b wz hb, fun wz => ?_⟩
  exact refDecimals_any (bM b) (bX b) (vDec b) wz (by have := bM_lt b; omega) hx.1 (by omega) rfl

set_option maxHeartbeats 2000000 in
set_option maxRecDepth 4000 in
theorem refMiddle_any (va : Value) (X xk b c : Nat) (w : World) (h : IsDec w va X) (hX : nlen 10 X ≤ 3000) (hk : xk ≤ 3000) (hb : b < 9218868437227405312) (hc : c ≤ 9218868437227405312) (R : Int) (hR : cmpZ (X * 10 ^ (max (max xk (vK b)) (qK c) - xk) * 2) (vDec b * 10 ^ (max (max xk (vK b)) (qK c) - vK b) + qDec c * 10 ^ (max (max xk (vK b)) (qK c) - qK c)) = R) :
    Calls Tryz.prog 39 #[va, .int .i64 xk, .int .u64 (b : Int), .int .u64 (c : Int)] w fun e w' => e = .returned (.int .i64 R) ∧ Fr w w' := by
  have HA := hide h
  have HR := hide hR
  obtain ⟨lp, kp⟩ := vDec_len b
  obtain ⟨lc, kc⟩ := vDec_len c
  have lq : nlen 10 (qDec c) ≤ 3000 := by
    unfold qDec
    split
    · have := nlen10_pow (x := 4503599627370496) (k := 2) (n := 20) (nlen_le ten2 (by decide)) (by omega) 972
      omega
    · omega
  have kq : qK c ≤ 1074 := by unfold qK; split <;> omega
  obtain ⟨c1, g1, m1, x1, -, -, -, OB, DB⟩ := refOf_dec b (by omega)
  obtain ⟨c2, g2, m2, x2, hcl, -, -, OC, DC⟩ := refOf_dec c (by omega)
  have QC : Hid (c = 9218868437227405312 → c2 = 2 ∧ qDec c = 4503599627370496 * 2 ^ 972 ∧ qK c = 0) := by
    intro e
    subst e
    exact ⟨by rw [← hcl, class_inf], if_pos rfl, if_pos rfl⟩
  have QF : Hid (c ≠ 9218868437227405312 → c2 ≠ 2 ∧ qDec c = vDec c ∧ qK c = vK c) := by
    intro e
    exact ⟨by rw [← hcl]; exact class_fin (by omega), if_neg e, if_neg e⟩
  have DI : Hid (∀ (Q : Nat) wz, Q = 4503599627370496 * 2 ^ 972 → Calls Tryz.prog 13 #[.int .u64 4503599627370496, .int .i64 972] wz fun r w' => ∃ v, r = .returned (.tuple #[v, .int .i64 0]) ∧ IsDec w' v Q ∧ Fr wz w') := by
    intro Q wz hQ
    refine refDecimals_any 4503599627370496 972 Q wz (by omega) (by omega) (by omega) ?_
    rw [hQ]
    have k : ∀ a : Nat, a = 972 → 4503599627370496 * 2 ^ ((972 : Int)).toNat * 5 ^ (-(972 : Int)).toNat = 4503599627370496 * 2 ^ a := by
      intro a ha
      rw [show ((972 : Int)).toNat = a by omega, show (-(972 : Int)).toNat = 0 by omega, Nat.pow_zero, Nat.mul_one]
    exact k 972 rfl
  obtain ⟨P, hP⟩ : ∃ P, vDec b = P := ⟨_, rfl⟩
  obtain ⟨pk, hpk⟩ : ∃ k, vK b = k := ⟨_, rfl⟩
  obtain ⟨P2, hP2⟩ : ∃ P, vDec c = P := ⟨_, rfl⟩
  obtain ⟨pk2, hpk2⟩ : ∃ k, vK c = k := ⟨_, rfl⟩
  obtain ⟨Q, hQ⟩ : ∃ P, qDec c = P := ⟨_, rfl⟩
  obtain ⟨qk, hqk⟩ : ∃ k, qK c = k := ⟨_, rfl⟩
  simp only [hP, hpk] at HR lp kp DB
  simp only [hQ, hqk] at HR lq kq
  simp only [hP2, hpk2] at DC
  rw [hQ, hqk, hP2, hpk2] at QF
  rw [hQ, hqk] at QC
  obtain ⟨M, hM⟩ : ∃ M, max (max xk pk) qk = M := ⟨_, rfl⟩
  rw [hM] at HR
  have OB := hide OB
  have OC := hide OC
  have DB := hide DB
  have DC := hide DC
  have HM := hide hM
  have M1 : xk ≤ M := by omega
  have M2 : pk ≤ M := by omega
  have M3 : qk ≤ M := by omega
  have M4 : M ≤ 3000 := by omega
  clear hcl hP hpk hP2 hpk2 hQ hqk hM hR h lc kc
  go_enter Tryz.func39, Tryz.ntmps39
  go_wp2_with fail
  refine (OB.out _).mono ?_
  rintro e w1 ⟨rfl, f1⟩
  have HA := hide (HA.out.fr f1)
  have FW := hide f1
  clear f1 OB
  go_wp2_with fail
  obtain ⟨W1, hW1⟩ : ∃ W, W = w1.alloc (Obj.cells #[.int .i64 (c1 : Int), .bool g1, .int .u64 (m1 : Int), .int .i64 x1] 24) := ⟨_, rfl⟩
  have fy : Fr w1 W1 := by rw [hW1]; exact Fr.alloc _ _
  obtain ⟨-, -, v2, v3⟩ : W1.cell? ⟨w1.heap.size, 0, none⟩ = some (.int .i64 (c1 : Int)) ∧ W1.cell? ⟨w1.heap.size, 1, none⟩ = some (.bool g1) ∧ W1.cell? ⟨w1.heap.size, 2, none⟩ = some (.int .u64 (m1 : Int)) ∧ W1.cell? ⟨w1.heap.size, 3, none⟩ = some (.int .i64 x1) := by rw [hW1]; exact four_cells (Fr.refl _)
  rw [← hW1]
  clear hW1
  have HA := hide (HA.out.fr fy)
  have FW := hide (FW.out.trans fy)
  clear fy
  refine (OC.out _).mono ?_
  rintro e w2 ⟨rfl, fy⟩
  have HA := hide (HA.out.fr fy)
  have FW := hide (FW.out.trans fy)
  have v2 := fr_cell fy v2
  have v3 := fr_cell fy v3
  clear fy OC
  have l2 := cell_lt v2
  simp only [] at l2
  have v2 := fr_cell (Fr.alloc w2 (Obj.cells #[.int .i64 (c2 : Int), .bool g2, .int .u64 (m2 : Int), .int .i64 x2] 24)) v2
  have v3 := fr_cell (Fr.alloc w2 (Obj.cells #[.int .i64 (c2 : Int), .bool g2, .int .u64 (m2 : Int), .int .i64 x2] 24)) v3
  go_wp2_with fail
  obtain ⟨W2, hW2⟩ : ∃ W, W = w2.alloc (Obj.cells #[.int .i64 (c2 : Int), .bool g2, .int .u64 (m2 : Int), .int .i64 x2] 24) := ⟨_, rfl⟩
  have fy : Fr w2 W2 := by rw [hW2]; exact Fr.alloc _ _
  obtain ⟨u0, -, u2, u3⟩ : W2.cell? ⟨w2.heap.size, 0, none⟩ = some (.int .i64 (c2 : Int)) ∧ W2.cell? ⟨w2.heap.size, 1, none⟩ = some (.bool g2) ∧ W2.cell? ⟨w2.heap.size, 2, none⟩ = some (.int .u64 (m2 : Int)) ∧ W2.cell? ⟨w2.heap.size, 3, none⟩ = some (.int .i64 x2) := by rw [hW2]; exact four_cells (Fr.refl _)
  rw [← hW2] at v2 v3 ⊢
  clear hW2
  have HA := hide (HA.out.fr fy)
  have FW := hide (FW.out.trans fy)
  clear fy
  refine (DB.out _).mono ?_
  rintro e w3 ⟨vp, rfl, ip, fy⟩
  have IP := hide ip
  have HA := hide (HA.out.fr fy)
  have FW := hide (FW.out.trans fy)
  have u0 := fr_cell fy u0
  have u2 := fr_cell fy u2
  have u3 := fr_cell fy u3
  clear fy ip DB v2 v3
  go_wp2_with fail
  refine (DC.out _).mono ?_
  rintro e w4 ⟨vq, rfl, iq, fy⟩
  have IP := hide (IP.out.fr fy)
  have HA := hide (HA.out.fr fy)
  have FW := hide (FW.out.trans fy)
  have u0 := fr_cell fy u0
  clear fy DC u2 u3
  have IQ := hide iq
  clear iq
  go_upto_if 41 with fail
  go_cut [13, 14] (fun s13 s14 wx => s14 = .int .i64 (qk : Int) ∧ Hid (IsDec wx s13 Q) ∧ Hid (Fr w4 wx))
  case first =>
    by_cases hci : c = 9218868437227405312
    · obtain ⟨rfl, eQ, rfl⟩ := QC.out hci
      clear hci QC QF
      go_wp2_with fail
      refine (DI.out Q _ eQ).mono ?_
      rintro e w5 ⟨v5, rfl, i5, fy⟩
      have I5 := hide i5
      have F5 := hide fy
      clear i5 fy
      go_wp2_with fail
      go_meet
      exact ⟨rfl, I5, F5⟩
    · obtain ⟨h2, eQ, eK⟩ := QF.out hci
      subst eQ
      subst eK
      have h2' : ¬ (c2 : Int) = 2 := by omega
      have h2'' : ((c2 : Int) == 2) = false := by simp only [beq_eq_false_iff_ne, ne_eq]; omega
      clear hci QC QF
      go_wp2_with fail
      go_meet
      exact ⟨rfl, IQ, hide (Fr.refl _)⟩
  case rest =>
  obtain ⟨rfl, IQ2, FQ⟩ := hcut
  obtain ⟨w5, hw5⟩ : ∃ V, V = wc := ⟨_, rfl⟩
  rw [← hw5] at IQ2 FQ ⊢
  clear hw5 IQ u0 QC QF DI
  have IP := hide (IP.out.fr FQ.out)
  have HA := hide (HA.out.fr FQ.out)
  have FW := hide (FW.out.trans FQ.out)
  clear FQ
  go_upto_region 7 with fail
  have hm := HM.out
  have hmi : max (max (xk : Int) pk) qk = M := by omega
  go_cut [15] (fun s15 wx => s15 = .int .i64 (M : Int) ∧ wx = w5)
  case first =>
    go_wp2_with fail
    all_goals (go_meet; exact ⟨by congr 1; omega, rfl⟩)
  case rest =>
  obtain ⟨rfl, rfl⟩ := hcut
  clear hm hmi HM
  go_wp2_with fail
  refine (tens_nat _ P (M - pk) _ IP.out (by omega) (by omega) _ (by omega)).mono ?_
  rintro e w6 ⟨v6, rfl, i6, fy⟩
  have I6 := hide i6
  have IQ2 := hide (IQ2.out.fr fy)
  have HA := hide (HA.out.fr fy)
  have FW := hide (FW.out.trans fy)
  clear i6 fy IP
  go_wp2_with fail
  refine (tens_nat _ Q (M - qk) _ IQ2.out (by omega) (by omega) _ (by omega)).mono ?_
  rintro e w7 ⟨v7, rfl, i7, fy⟩
  have I7 := hide i7
  have I6 := hide (I6.out.fr fy)
  have HA := hide (HA.out.fr fy)
  have FW := hide (FW.out.trans fy)
  clear i7 fy IQ2
  go_wp2_with fail
  refine (tens_nat _ X (M - xk) _ HA.out (by omega) (by omega) _ (by omega)).mono ?_
  rintro e w8 ⟨v8, rfl, i8, fy⟩
  have I8 := hide i8
  have I7 := hide (I7.out.fr fy)
  have I6 := hide (I6.out.fr fy)
  have FW := hide (FW.out.trans fy)
  clear i8 fy HA
  have n6 := nl10_ten (j := M - pk) lp
  have n7 := nl10_ten (j := M - qk) lq
  have n8 := nl10_ten (j := M - xk) hX
  go_wp2_with fail
  refine (refTimes_any _ _ 2 _ I8.out (by omega) (by omega)).mono ?_
  rintro e w9 ⟨v9, rfl, i9, fy⟩
  have I9 := hide i9
  have I7 := hide (I7.out.fr fy)
  have I6 := hide (I6.out.fr fy)
  have FW := hide (FW.out.trans fy)
  clear i9 fy I8
  have n9 := nlen10_mul (k := 2) n8 (by omega)
  go_wp2_with fail
  refine (refAdd_any _ _ _ _ _ I6.out I7.out (by omega) (by omega)).mono ?_
  rintro e w10 ⟨v10, rfl, i10, fy⟩
  have I10 := hide i10
  have I9 := hide (I9.out.fr fy)
  have FW := hide (FW.out.trans fy)
  clear i10 fy I7 I6
  have n10 : nlen 10 (P * 10 ^ (M - pk) + Q * 10 ^ (M - qk)) ≤ 7000 + 1 := nl10_sum (Nat.le_trans n6 (by omega)) (Nat.le_trans n7 (by omega))
  go_wp2_with fail
  refine (refCmp_any _ _ _ _ _ I9.out I10.out (by omega) (by omega)).mono ?_
  rintro e w11 ⟨rfl, fy⟩
  have FW := hide (FW.out.trans fy)
  clear fy
  rw [HR.out]
  go_wp2_with fail
  go_ret
  exact ⟨rfl, FW.out⟩

set_option maxHeartbeats 2000000 in
set_option maxRecDepth 4000 in
theorem refNear_any (va : Value) (X xk b : Nat) (w : World) (h : IsDec w va X) (hX : nlen 10 X ≤ 3000) (hk : xk ≤ 3000) (hb0 : 0 < b) (hb : b < 9218868437227405312) (ob : Bool) (hob : ob = decide (nearN X (10 ^ xk) = b)) :
    Calls Tryz.prog 21 #[va, .int .i64 xk, .int .u64 (b : Int)] w fun e w' => e = .returned (.bool ob) ∧ Fr w w' := by
  have HA := hide h
  obtain ⟨u, rfl⟩ : ∃ u, b = u + 1 := ⟨b - 1, by omega⟩
  obtain ⟨U, hU⟩ : ∃ U, cmpZ (X * 10 ^ (max (max xk (vK (u + 1))) (qK (u + 1 + 1)) - xk) * 2) (vDec (u + 1) * 10 ^ (max (max xk (vK (u + 1))) (qK (u + 1 + 1)) - vK (u + 1)) + qDec (u + 1 + 1) * 10 ^ (max (max xk (vK (u + 1))) (qK (u + 1 + 1)) - qK (u + 1 + 1))) = U := ⟨_, rfl⟩
  obtain ⟨L, hL⟩ : ∃ U, cmpZ (X * 10 ^ (max (max xk (vK (u + 1))) (qK u) - xk) * 2) (vDec (u + 1) * 10 ^ (max (max xk (vK (u + 1))) (qK u) - vK (u + 1)) + qDec u * 10 ^ (max (max xk (vK (u + 1))) (qK u) - qK u)) = U := ⟨_, rfl⟩
  have MU : Hid (∀ wz, Fr w wz → Calls Tryz.prog 39 #[va, .int .i64 xk, .int .u64 ((u + 1 : Nat) : Int), .int .u64 (((u + 1 : Nat) : Int) + 1)] wz fun e w' => e = .returned (.int .i64 U) ∧ Fr wz w') := by
    intro wz f
    have := refMiddle_any va X xk (u + 1) (u + 1 + 1) wz (h.fr f) hX hk hb (by omega) U hU
    rwa [show ((u + 1 + 1 : Nat) : Int) = ((u + 1 : Nat) : Int) + 1 by omega] at this
  have ML : Hid (∀ wz, Fr w wz → Calls Tryz.prog 39 #[va, .int .i64 xk, .int .u64 ((u + 1 : Nat) : Int), .int .u64 (((u + 1 : Nat) : Int) - 1)] wz fun e w' => e = .returned (.int .i64 L) ∧ Fr wz w') := by
    intro wz f
    have := refMiddle_any va X xk (u + 1) u wz (h.fr f) hX hk hb (by omega) L hL
    rwa [show ((u : Nat) : Int) = ((u + 1 : Nat) : Int) - 1 by omega] at this
  have NB : Hid (((U < 0 ∨ (U = 0 ∧ (u + 1) % 2 = 0)) ∧ (0 < L ∨ (L = 0 ∧ (u + 1) % 2 = 0))) ↔ ob = true) := by
    obtain ⟨T, hT, hT0⟩ := some_T
    rw [hob, decide_eq_true_iff]
    have hq : qK u = vK u ∧ qDec u = vDec u := ⟨if_neg (by omega), if_neg (by omega)⟩
    rw [hq.1, hq.2] at hL
    refine near_doc (Q := qDec (u + 1 + 1)) (qk := qK (u + 1 + 1)) hT hT0 hb ?_ (by omega) (by omega) (by omega) (by omega) (by omega) (by omega) U L hU hL
    by_cases ci : u + 1 + 1 = 9218868437227405312
    · rw [ci]
      have e2 : qK 9218868437227405312 = 0 := if_pos rfl
      have key : ∀ a : Nat, a = 972 → qDec 9218868437227405312 = 4503599627370496 * 2 ^ a → qDec 9218868437227405312 * T = bV 9218868437227405312 * 10 ^ qK 9218868437227405312 := by
        intro a ha e
        rw [e, e2]
        exact inf_dec hT ha
      exact key 972 rfl (if_pos rfl)
    · have e1 : qDec (u + 1 + 1) = vDec (u + 1 + 1) := if_neg ci
      have e2 : qK (u + 1 + 1) = vK (u + 1 + 1) := if_neg ci
      rw [e1, e2]
      exact vDec_bV hT (by omega)
  have hpar : (u + 1) % 2 = 0 ∨ (u + 1) % 2 = 1 := by omega
  obtain ⟨B, hB⟩ : ∃ B, u + 1 = B := ⟨_, rfl⟩
  rw [hB] at MU ML NB hpar hb
  rw [hB]
  have hB0 : 1 ≤ (B : Int) := by omega
  have ER : Hid ((((U < 0 ∨ (U = 0 ∧ B % 2 = 0)) ∧ (0 < L ∨ (L = 0 ∧ B % 2 = 0))) → ob = true) ∧ (¬ ((U < 0 ∨ (U = 0 ∧ B % 2 = 0)) ∧ (0 < L ∨ (L = 0 ∧ B % 2 = 0))) → ob = false)) := by
    refine ⟨NB.out.1, fun k => ?_⟩
    cases hob : ob with
    | false => rfl
    | true => exact absurd (NB.out.2 hob) k
  clear NB hU hL hob hX hk h
  go_enter Tryz.func21, Tryz.ntmps21
  go_wp2_with fail
  refine (MU.out _ (Fr.refl _)).mono ?_
  rintro e w1 ⟨rfl, f1⟩
  go_wp2_with fail
  refine (ML.out _ f1).mono ?_
  rintro e w2 ⟨rfl, f2⟩
  have FW := hide (f1.trans f2)
  clear f1 f2 MU ML HA
  have hu : U < 0 ∨ U = 0 ∨ 0 < U := by omega
  have hl : 0 < L ∨ L = 0 ∨ L < 0 := by omega
  rcases hpar with hp | hp
  · have hp' : (B : Int) % 2 = 0 := by omega
    rcases hu with c1 | c1 | c1
    · rcases hl with c2 | c2 | c2
      · obtain rfl := ER.out.1 ⟨.inl c1, .inl c2⟩
        go_wp2_with fail
        go_ret
        exact ⟨by first | rfl | (show Ending.returned (.bool (decide (0 < L))) = _; rw [decide_eq_false (by omega)]) | (show Ending.returned (.bool (decide (0 < L))) = _; rw [decide_eq_true (by omega)]) | (show Ending.returned (.bool (decide (U < 0))) = _; rw [decide_eq_false (by omega)]) | (trace_state; sorry), FW.out⟩
      · obtain rfl := ER.out.1 ⟨.inl c1, .inr ⟨c2, hp⟩⟩
        subst c2
        go_wp2_with fail
        go_ret
        exact ⟨by first | rfl | (show Ending.returned (.bool (decide (0 < L))) = _; rw [decide_eq_false (by omega)]) | (show Ending.returned (.bool (decide (0 < L))) = _; rw [decide_eq_true (by omega)]) | (show Ending.returned (.bool (decide (U < 0))) = _; rw [decide_eq_false (by omega)]) | (trace_state; sorry), FW.out⟩
      · obtain rfl := ER.out.2 (by omega)
        have c3 : ¬ 0 < L := by omega
        have c4 : (L == 0) = false := by simp only [beq_eq_false_iff_ne, ne_eq]; omega
        go_wp2_with fail
        go_ret
        exact ⟨by first | rfl | (show Ending.returned (.bool (decide (0 < L))) = _; rw [decide_eq_false (by omega)]) | (show Ending.returned (.bool (decide (0 < L))) = _; rw [decide_eq_true (by omega)]) | (show Ending.returned (.bool (decide (U < 0))) = _; rw [decide_eq_false (by omega)]) | (trace_state; sorry), FW.out⟩
    · subst c1
      rcases hl with c2 | c2 | c2
      · obtain rfl := ER.out.1 ⟨.inr ⟨rfl, hp⟩, .inl c2⟩
        go_wp2_with fail
        go_ret
        exact ⟨by first | rfl | (show Ending.returned (.bool (decide (0 < L))) = _; rw [decide_eq_false (by omega)]) | (show Ending.returned (.bool (decide (0 < L))) = _; rw [decide_eq_true (by omega)]) | (show Ending.returned (.bool (decide (U < 0))) = _; rw [decide_eq_false (by omega)]) | (trace_state; sorry), FW.out⟩
      · obtain rfl := ER.out.1 ⟨.inr ⟨rfl, hp⟩, .inr ⟨c2, hp⟩⟩
        subst c2
        go_wp2_with fail
        go_ret
        exact ⟨by first | rfl | (show Ending.returned (.bool (decide (0 < L))) = _; rw [decide_eq_false (by omega)]) | (show Ending.returned (.bool (decide (0 < L))) = _; rw [decide_eq_true (by omega)]) | (show Ending.returned (.bool (decide (U < 0))) = _; rw [decide_eq_false (by omega)]) | (trace_state; sorry), FW.out⟩
      · obtain rfl := ER.out.2 (by omega)
        have c3 : ¬ 0 < L := by omega
        have c4 : (L == 0) = false := by simp only [beq_eq_false_iff_ne, ne_eq]; omega
        go_wp2_with fail
        go_ret
        exact ⟨by first | rfl | (show Ending.returned (.bool (decide (0 < L))) = _; rw [decide_eq_false (by omega)]) | (show Ending.returned (.bool (decide (0 < L))) = _; rw [decide_eq_true (by omega)]) | (show Ending.returned (.bool (decide (U < 0))) = _; rw [decide_eq_false (by omega)]) | (trace_state; sorry), FW.out⟩
    · obtain rfl := ER.out.2 (by omega)
      have c3 : ¬ U < 0 := by omega
      have c4 : (U == 0) = false := by simp only [beq_eq_false_iff_ne, ne_eq]; omega
      go_wp2_with fail
      go_ret
      exact ⟨by first | rfl | (show Ending.returned (.bool (decide (0 < L))) = _; rw [decide_eq_false (by omega)]) | (show Ending.returned (.bool (decide (0 < L))) = _; rw [decide_eq_true (by omega)]) | (show Ending.returned (.bool (decide (U < 0))) = _; rw [decide_eq_false (by omega)]) | (trace_state; sorry), FW.out⟩
  · have hp' : (B : Int) % 2 = 1 := by omega
    rcases hu with c1 | c1 | c1
    · rcases hl with c2 | c2 | c2
      · obtain rfl := ER.out.1 ⟨.inl c1, .inl c2⟩
        go_wp2_with fail
        go_ret
        exact ⟨by first | rfl | (show Ending.returned (.bool (decide (0 < L))) = _; rw [decide_eq_false (by omega)]) | (show Ending.returned (.bool (decide (0 < L))) = _; rw [decide_eq_true (by omega)]) | (show Ending.returned (.bool (decide (U < 0))) = _; rw [decide_eq_false (by omega)]) | (trace_state; sorry), FW.out⟩
      · obtain rfl := ER.out.2 (by omega)
        subst c2
        go_wp2_with fail
        go_ret
        exact ⟨by first | rfl | (show Ending.returned (.bool (decide (0 < L))) = _; rw [decide_eq_false (by omega)]) | (show Ending.returned (.bool (decide (0 < L))) = _; rw [decide_eq_true (by omega)]) | (show Ending.returned (.bool (decide (U < 0))) = _; rw [decide_eq_false (by omega)]) | (trace_state; sorry), FW.out⟩
      · obtain rfl := ER.out.2 (by omega)
        have c3 : ¬ 0 < L := by omega
        have c4 : (L == 0) = false := by simp only [beq_eq_false_iff_ne, ne_eq]; omega
        go_wp2_with fail
        go_ret
        exact ⟨by first | rfl | (show Ending.returned (.bool (decide (0 < L))) = _; rw [decide_eq_false (by omega)]) | (show Ending.returned (.bool (decide (0 < L))) = _; rw [decide_eq_true (by omega)]) | (show Ending.returned (.bool (decide (U < 0))) = _; rw [decide_eq_false (by omega)]) | (trace_state; sorry), FW.out⟩
    · obtain rfl := ER.out.2 (by omega)
      subst c1
      go_wp2_with fail
      go_ret
      exact ⟨by first | rfl | (show Ending.returned (.bool (decide (0 < L))) = _; rw [decide_eq_false (by omega)]) | (show Ending.returned (.bool (decide (0 < L))) = _; rw [decide_eq_true (by omega)]) | (show Ending.returned (.bool (decide (U < 0))) = _; rw [decide_eq_false (by omega)]) | (trace_state; sorry), FW.out⟩
    · obtain rfl := ER.out.2 (by omega)
      have c3 : ¬ U < 0 := by omega
      have c4 : (U == 0) = false := by simp only [beq_eq_false_iff_ne, ne_eq]; omega
      go_wp2_with fail
      go_ret
      exact ⟨by first | rfl | (show Ending.returned (.bool (decide (0 < L))) = _; rw [decide_eq_false (by omega)]) | (show Ending.returned (.bool (decide (0 < L))) = _; rw [decide_eq_true (by omega)]) | (show Ending.returned (.bool (decide (U < 0))) = _; rw [decide_eq_false (by omega)]) | (trace_state; sorry), FW.out⟩
end Go.Proofs.YtammjgieocgelaaGreatDoor
