/- Bytes that came in, as digits; the law DigitsJoin. -/
import Derived.Test.YtkdiniboponphaaDoorDigF
import Derived.Deep.RegionHeld3
namespace Go.Proofs.YtkdiniboponphaaDoor
set_option linter.unusedVariables false
set_option linter.unusedSimpArgs false
open Go.RowKit

attribute [local go_sem] World.cell?_alloc_some
theorem i64_small {n : Int} (h0 : -9223372036854775808 ≤ n) (h1 : n ≤ 9223372036854775807) : IntKind.i64.wrap n = n := by
  simp [IntKind.wrap, IntKind.bits, IntKind.signed]
  omega
theorem u8_bd {x : Int} (h : (Lit.int .u8 x).wf = true) : 0 ≤ x ∧ x ≤ 255 := by
  simp [Lit.wf, IntKind.min, IntKind.max, IntKind.signed, IntKind.bits] at h
  omega
/-- Bytes that came in. -/
theorem row_u8 {w : World} {a : Option Addr} {len cap : Nat} {zs : List Int} (h : IsRow .u8 w a len cap zs) :
    ∃ f : Nat → Nat, Cs .u8 w a len f ∧ (∀ j, f j ≤ 255) ∧ len ≤ cap ∧ cap ≤ maxLen ∧ (a = none → cap = 0) := by
  rcases h with ⟨rfl, rfl, rfl, rfl⟩ | ⟨y, rfl, hl, hm, hz, hcell, hwz⟩
  · exact ⟨fun _ => 0, .inl rfl, fun _ => Nat.zero_le _, by omega, by omega, fun _ => rfl⟩
  · have hb : ∀ j, 0 ≤ zs.getD j 0 ∧ zs.getD j 0 ≤ 255 := by
      intro j
      by_cases hj : j < zs.length
      · rw [List.getD_eq_getElem?_getD, List.getElem?_eq_getElem hj]
        exact u8_bd (hwz zs[j] (List.getElem_mem hj))
      · rw [List.getD_eq_getElem?_getD, List.getElem?_eq_none (by omega)]
        simp
    refine ⟨fun j => (zs.getD j 0).toNat, ?_, fun j => by have := hb j; show (zs.getD j 0).toNat ≤ 255; omega, hl, hm, fun e => by cases e⟩
    by_cases hk0 : len = 0
    · exact .inl hk0
    · obtain ⟨b, off, spot⟩ := y
      have hc := hcell 0 (by omega)
      have hspot : spot = none := by simpa [Addr.add] using World.cell?_spot hc
      subst hspot
      have hcs : ∀ i, i < cap → w.cell? ⟨b, off + i, none⟩ = some (.int .u8 (zs.getD i 0)) := fun i hi => by
        have := hcell i (by omega)
        have e : (⟨b, off, none⟩ : Addr).add i = ⟨b, off + i, none⟩ := by unfold Addr.add; split <;> simp_all
        rwa [e] at this
      exact .inr ⟨b, off, rfl, cell_lt (hcs 0 (by omega)), fun j hj => by rw [Int.toNat_of_nonneg (hb j).1]; exact hcs j (by omega)⟩
/-- Bytes as digits. -/
def digs (f : Nat → Nat) (k : Nat) : List UInt8 := (List.range k).map (fun j => UInt8.ofNat (48 + f j % 10))
theorem digs_zero (f : Nat → Nat) : digs f 0 = [] := rfl
theorem digs_succ (f : Nat → Nat) (k : Nat) : digs f (k + 1) = digs f k ++ [UInt8.ofNat (48 + f k % 10)] := by
  unfold digs
  rw [List.range_succ, List.map_append]
  rfl
theorem digs_len (f : Nat → Nat) (k : Nat) : (digs f k).length = k := by simp [digs]
theorem digs_all (f : Nat → Nat) (k : Nat) : AllD (digs f k) := by
  intro b hb
  obtain ⟨j, _, rfl⟩ := List.mem_map.1 hb
  rw [byte_of (Nat.mod_lt _ (by decide))]
  have := Nat.mod_lt (f j) (by decide : 0 < 10)
  omega

set_option maxHeartbeats 2000000 in
set_option maxRecDepth 4000 in
theorem digText_any (a : Option Addr) (len cap m : Nat) (f : Nat → Nat) (w : World) (h : Cs .u8 w a len f) (hf : ∀ j, f j ≤ 255) (h1 : len ≤ cap) (h2 : cap ≤ maxLen) (h3 : a = none → cap = 0) (hm : min len 80 = m) :
    Calls Tryd.prog 24 #[.slice a len cap] w fun e w' => e = .returned (.string (bs (digs f m))) ∧ Fr w w' := by
  unfold maxLen at h2
  have hmi : min (len : Int) 80 = (m : Int) := by omega
  have m1 : m ≤ len := by omega
  have m2 : m ≤ 80 := by omega
  by_cases hm0 : m = 0
  · have hl0 : len = 0 := by omega
    subst hl0
    subst hm0
    have e0 : bs (digs f 0) = ⟨#[]⟩ := rfl
    rw [e0]
    clear h hf hm hmi m1 m2 e0
    rcases a with _ | ad
    · obtain rfl := h3 rfl
      clear h3
      go_enter Tryd.func24, Tryd.ntmps24
      go_wp2_with fail
      refine wp_loop_rounds 1 ?_
      rw [rounds_succ]
      go_wp2_with fail
      go_ret
      exact ⟨rfl, Fr.refl _⟩
    · clear h3
      go_enter Tryd.func24, Tryd.ntmps24
      go_wp2_with fail
      refine wp_loop_rounds 1 ?_
      rw [rounds_succ]
      go_wp2_with fail
      go_ret
      exact ⟨rfl, Fr.refl _⟩
  · rcases h with q | ⟨b, off, rfl, hb, hcs⟩
    · omega
    · have HC := hide hcs
      have HF := hide hf
      clear hcs hf h3 hm
      go_enter Tryd.func24, Tryd.ntmps24
      go_wp2_with fail
      go_loopw [3, 12] (fun s i wr => ∃ (k : Nat) (t : ByteArray), k ≤ m ∧ s = .string t ∧ i = .int .i64 k ∧ Hid (t = bs (digs f k)) ∧ t.size = k ∧ Hid (Fr w wr)) (fun _ i _ => m - (intOf i).toNat)
      case atStart =>
        exact ⟨0, ⟨#[]⟩, by omega, rfl, rfl, hide rfl, rfl, hide (Fr.refl _)⟩
      case round =>
        obtain ⟨k, t, hk, rfl, rfl, hT, hts, hF⟩ := hrel
        by_cases hlt : k < m
        · obtain ⟨d, hd⟩ : ∃ d : Nat, f k = d := ⟨_, rfl⟩
          have hdb : d ≤ 255 := by rw [← hd]; exact HF.out k
          have hcell := fr_cell hF.out (HC.out k (by omega))
          rw [hd] at hcell
          obtain ⟨c, hc⟩ : ∃ c, UInt8.ofNat (48 + d % 10) = c := ⟨_, rfl⟩
          have hcv := conv_byte c (48 + (d : Int) % 10) (by rw [← hc, byte_of (Nat.mod_lt _ (by decide))]; omega)
          have hst := digs_succ f k
          rw [hd, hc] at hst
          have HST := hide hst
          have hsz : (bs [c]).size = 1 := bs_size [c]
          clear hd hc hst
          go_wp2_with fail
          go_roundw
          case rel =>
            have e : t ++ bs [c] = bs (digs f (k + 1)) := by rw [HST.out, ← bs_append, hT.out]
            refine ⟨k + 1, _, by omega, rfl, by go_num, hide e, ?_, hide (hF.out.trans (Fr.alloc _ _))⟩
            rw [e, bs_size, digs_len]
          case measure => simp [intOf]; omega
        · obtain rfl : k = m := by omega
          go_wp2_with fail
          go_ret
          exact ⟨by rw [← hT.out]; rfl, hF.out⟩

/-- A text that begins with a digit that is no nought: its number's decimals are it. -/
theorem lead_dec (b : UInt8) (l : List UInt8) (h1 : 49 ≤ b.toNat) (h2 : b.toNat ≤ 57) (hl : AllD l) : AllD (b :: l) ∧ Lib.decDigits (valD (b :: l)) = b :: l := by
  have hA : AllD (b :: l) := fun c hc => by
    rcases List.mem_cons.1 hc with rfl | q
    · omega
    · exact hl c q
  refine ⟨hA, dec_of_val _ hA (by simp) ?_⟩
  intro e
  simp only [List.head?_cons, Option.some.injEq] at e
  subst e
  have : (48 : UInt8).toNat = 48 := rfl
  omega

set_option maxHeartbeats 8000000 in
set_option maxRecDepth 4000 in
theorem law_DigitsJoin (a0 : Option Addr) (len0 cap0 : Nat) (z0 : List Int) (a1 : Option Addr) (len1 cap1 : Nat) (z1 : List Int) (w : World) (h0 : IsRow .u8 w a0 len0 cap0 z0) (h1 : IsRow .u8 w a1 len1 cap1 z1) (hP : PT w) :
    Calls Tryd.prog 7 #[.slice a0 len0 cap0, .slice a1 len1 cap1] w fun e w' => e = .returned (.bool true) ∧ Fr w w' := by
  obtain ⟨f, cs0, f0, p1, p2, p3⟩ := row_u8 h0
  obtain ⟨g, cs1, g0, q1, q2, q3⟩ := row_u8 h1
  obtain ⟨m0, hm0⟩ : ∃ m, min len0 80 = m := ⟨_, rfl⟩
  obtain ⟨m1, hm1⟩ : ∃ m, min len1 80 = m := ⟨_, rfl⟩
  have HL := hide (fun wz (fz : Fr w wz) => digText_any a0 len0 cap0 m0 f wz (cs0.fr fz) f0 p1 p2 p3 hm0)
  have HM := hide (fun wz (fz : Fr w wz) => digText_any a1 len1 cap1 m1 g wz (cs1.fr fz) g0 q1 q2 q3 hm1)
  have b0 : m0 ≤ 80 := by omega
  have b1 : m1 ≤ 80 := by omega
  clear h0 h1 cs0 cs1 f0 g0 p1 p2 p3 q1 q2 q3 hm0 hm1
  obtain ⟨DA, hDA⟩ : ∃ DA, bs (digs f m0) = DA := ⟨_, rfl⟩
  obtain ⟨DB, hDB⟩ : ∃ DB, bs (digs g m1) = DB := ⟨_, rfl⟩
  have zA : DA.size = m0 := by rw [← hDA, bs_size, digs_len]
  have zB : DB.size = m1 := by rw [← hDB, bs_size, digs_len]
  rw [hDA] at HL
  rw [hDB] at HM
  obtain ⟨SS, hSS⟩ : ∃ SS, (⟨#[49]⟩ : ByteArray) ++ DA = SS := ⟨_, rfl⟩
  obtain ⟨TT, hTT⟩ : ∃ TT, (⟨#[50]⟩ : ByteArray) ++ DB = TT := ⟨_, rfl⟩
  obtain ⟨ST, hST⟩ : ∃ ST, SS ++ TT = ST := ⟨_, rfl⟩
  have e49 : (⟨#[49]⟩ : ByteArray).size = 1 := rfl
  have e50 : (⟨#[50]⟩ : ByteArray).size = 1 := rfl
  have sS : SS = bs (49 :: digs f m0) := by rw [← hSS, ← hDA]; exact bs_append [49] (digs f m0)
  have sT : TT = bs (50 :: digs g m1) := by rw [← hTT, ← hDB]; exact bs_append [50] (digs g m1)
  have sST : ST = bs (49 :: (digs f m0 ++ 50 :: digs g m1)) := by rw [← hST, sS, sT, bs_append]; rfl
  have tA : AllD (50 :: digs g m1) := (lead_dec 50 _ (by decide) (by decide) (digs_all g m1)).1
  obtain ⟨x1, x2⟩ := lead_dec 49 (digs f m0) (by decide) (by decide) (digs_all f m0)
  obtain ⟨y1, y2⟩ := lead_dec 50 (digs g m1) (by decide) (by decide) (digs_all g m1)
  obtain ⟨v1, v2⟩ := lead_dec 49 (digs f m0 ++ 50 :: digs g m1) (by decide) (by decide) (allD_append.2 ⟨digs_all f m0, y1⟩)
  obtain ⟨x, hx⟩ : ∃ x, valD (49 :: digs f m0) = x := ⟨_, rfl⟩
  obtain ⟨y, hy⟩ : ∃ y, valD (50 :: digs g m1) = y := ⟨_, rfl⟩
  obtain ⟨v, hv⟩ : ∃ v, valD (49 :: (digs f m0 ++ 50 :: digs g m1)) = v := ⟨_, rfl⟩
  have dS : SS.data.toList = 49 :: digs f m0 := by rw [sS, bs_data]
  have dT : TT.data.toList = 50 :: digs g m1 := by rw [sT, bs_data]
  have dST : ST.data.toList = 49 :: (digs f m0 ++ 50 :: digs g m1) := by rw [sST, bs_data]
  have wS : SS.size = m0 + 1 := by rw [sS, bs_size, List.length_cons, digs_len]
  have wT : TT.size = m1 + 1 := by rw [sT, bs_size, List.length_cons, digs_len]
  have wST : ST.size = m0 + m1 + 2 := by rw [sST, bs_size, List.length_cons, List.length_append, List.length_cons, digs_len, digs_len]; omega
  have nx : nlen 4294967296 x ≤ 200 := by have := nl_valD x1; rw [hx, List.length_cons, digs_len] at this; omega
  have ny : nlen 4294967296 y ≤ 200 := by have := nl_valD y1; rw [hy, List.length_cons, digs_len] at this; omega
  have nv : nlen 4294967296 v ≤ 200 := by have := nl_valD v1; rw [hv, ← dST, len_data] at this; omega
  have PA := hide (fun w => parse_yes SS x w (by omega) (by rw [dS]; simp) (by rw [dS]; exact x1) (by rw [dS]; exact hx))
  have PB := hide (fun w => parse_yes TT y w (by omega) (by rw [dT]; simp) (by rw [dT]; exact y1) (by rw [dT]; exact hy))
  have PC := hide (fun w => parse_yes ST v w (by omega) (by rw [dST]; simp) (by rw [dST]; exact v1) (by rw [dST]; exact hv))
  rw [hx] at x2
  rw [hy] at y2
  rw [hv] at v2
  have TA := hide (fun w va h hP => text_any va x w h (by omega) hP)
  rw [x2, ← sS] at TA
  have TB := hide (fun w va h hP => text_any va y w h (by omega) hP)
  rw [y2, ← sT] at TB
  have TC := hide (fun w va h hP => text_any va v w h (by omega) hP)
  rw [v2, ← sST] at TC
  obtain ⟨D, hD⟩ : ∃ D : Nat, m0 + m1 + 2 = D := ⟨_, rfl⟩
  have CC := hide (fun w va h hP => count_any va v w h (by omega) hP)
  rw [v2, ← dST, len_data, wST, hD] at CC
  obtain ⟨p, hp⟩ : ∃ p, m0 + 1 = p := ⟨_, rfl⟩
  obtain ⟨q, hq⟩ : ∃ q, m1 + 1 = q := ⟨_, rfl⟩
  rw [hp] at wS
  rw [hq] at wT
  have hwr : IntKind.i64.wrap ((p : Int) + (q : Int)) = (D : Int) := by rw [i64_small (by omega) (by omega)]; omega
  have HP := hide hP
  have bp : p ≤ 81 := by omega
  have bq : q ≤ 81 := by omega
  clear hDA hDB sS sT sST tA x1 x2 y1 y2 v1 v2 hx hy hv dS dT dST hP hp hq hD wST
  go_enter Tryd.func7, Tryd.ntmps7
  go_wp2_with fail
  refine (HL.out _ (Fr.refl _)).mono ?_
  rintro e w1 ⟨rfl, f1⟩
  go_wp2_with fail
  refine (HM.out _ f1).mono ?_
  rintro e w2 ⟨rfl, f2⟩
  have F := hide (f1.trans f2)
  clear f1 f2 HL HM
  go_wp2_with fail
  refine (PA.out _).mono ?_
  rintro e w3 ⟨ax, cx, rfl, ix, _, f3⟩
  go_wp2_with fail
  obtain ⟨W3, hW3⟩ : ∃ W3, W3 = w3.alloc (Obj.cells #[Value.slice ax (nlen 4294967296 x) cx] 24) := ⟨_, rfl⟩
  have fW : Fr w3 W3 := by rw [hW3]; exact Fr.alloc _ _
  have c8 : W3.cell? ⟨w3.heap.size, 0, none⟩ = some (.slice ax (nlen 4294967296 x) cx) := by rw [hW3]; simp [go_sem]
  rw [← hW3]
  clear hW3
  have IX := hide (IsNat.fr ix fW)
  have F := hide ((F.out.trans f3).trans fW)
  clear ix f3 fW PA
  refine (PB.out _).mono ?_
  rintro e w4 ⟨ay, cy, rfl, iy, _, f4⟩
  have c8 := fr_cell f4 c8
  have IX := hide (IsNat.fr IX.out f4)
  go_wp2_with fail
  obtain ⟨W4, hW4⟩ : ∃ W4, W4 = w4.alloc (Obj.cells #[Value.slice ay (nlen 4294967296 y) cy] 24) := ⟨_, rfl⟩
  have fW : Fr w4 W4 := by rw [hW4]; exact Fr.alloc _ _
  have c10 : W4.cell? ⟨w4.heap.size, 0, none⟩ = some (.slice ay (nlen 4294967296 y) cy) := by rw [hW4]; simp [go_sem]
  rw [← hW4]
  clear hW4
  have c8 := fr_cell fW c8
  have IX := hide (IsNat.fr IX.out fW)
  have IY := hide (IsNat.fr iy fW)
  have F := hide ((F.out.trans f4).trans fW)
  clear iy f4 fW PB
  refine (PC.out _).mono ?_
  rintro e w5 ⟨av, cv, rfl, iv, _, f5⟩
  have c8 := fr_cell f5 c8
  have c10 := fr_cell f5 c10
  have IX := hide (IsNat.fr IX.out f5)
  have IY := hide (IsNat.fr IY.out f5)
  go_wp2_with fail
  obtain ⟨W, hW⟩ : ∃ W, W = w5.alloc (Obj.cells #[Value.slice av (nlen 4294967296 v) cv] 24) := ⟨_, rfl⟩
  have fW : Fr w5 W := by rw [hW]; exact Fr.alloc _ _
  have c12 : W.cell? ⟨w5.heap.size, 0, none⟩ = some (.slice av (nlen 4294967296 v) cv) := by rw [hW]; simp [go_sem]
  rw [← hW]
  clear hW
  have c8 := fr_cell fW c8
  have c10 := fr_cell fW c10
  have IX := hide (IsNat.fr IX.out fW)
  have IY := hide (IsNat.fr IY.out fW)
  have IV := hide (IsNat.fr iv fW)
  have F := hide ((F.out.trans f5).trans fW)
  clear iv f5 fW PC
  have fz := hide (Fr.drew W)
  refine wp_region_held_drew (S := (fun w' => w'.cell? ⟨w3.heap.size, 0, none⟩ = some (.slice ax (nlen 4294967296 x) cx) ∧ w'.cell? ⟨w4.heap.size, 0, none⟩ = some (.slice ay (nlen 4294967296 y) cy) ∧ w'.cell? ⟨w5.heap.size, 0, none⟩ = some (.slice av (nlen 4294967296 v) cv) ∧ Hid (Fr W w'))) (by kernel_rfl) ?_ (fun hHeld => ?_)
  · exact ⟨c8, c10, c12, Fr.drew _⟩
  refine wpAnyH_ready (rs := [0]) (by kernel_rfl) (by simp) ?_
  refine AllReadyH.cons rfl (fun K hK => ?_) AllReadyH.nil
  go_simp
  refine (wakes_any _ (PT.fr HP.out (F.out.trans fz.out))).mono ?_
  rintro e wn ⟨rfl, fy⟩
  have fz := hide (fz.out.trans fy)
  clear fy
  (try go_wp2_with fail)
  refine hK.out _ _ ?_ (fun hHeld => ?_)
  · (try dsimp only)
    exact ⟨fr_cell fz.out c8, fr_cell fz.out c10, fr_cell fz.out c12, fz⟩
  clear hK K
  (try simp only [Act.put, List.getElem_toArray, List.getElem_cons_zero, List.getElem_cons_succ, List.setIfInBounds_toArray, List.set_cons_zero, List.set_cons_succ])
  refine wpAnyH_take (i := 1) (v := ?_) rfl (by kernel_rfl) (by kernel_rfl) (by kernel_rfl) (fun _ _ _ h => h) (Or.inl ⟨by rfl, ?_⟩) (by assumption) ?_
  rotate_left
  · (intro w hSw; (try dsimp only at hSw); go_simp; try with_reducible rfl)
  (try simp only [Act.put, List.getElem_toArray, List.getElem_cons_zero, List.getElem_cons_succ, List.setIfInBounds_toArray, List.set_cons_zero, List.set_cons_succ])
  refine wpAnyH_take (i := 2) (v := ?_) rfl (by kernel_rfl) (by kernel_rfl) (by kernel_rfl) (fun _ _ _ h => h) (Or.inl ⟨by rfl, ?_⟩) (by assumption) ?_
  rotate_left
  · (intro w hSw; (try dsimp only at hSw); go_simp; try with_reducible rfl)
  (try simp only [Act.put, List.getElem_toArray, List.getElem_cons_zero, List.getElem_cons_succ, List.setIfInBounds_toArray, List.set_cons_zero, List.set_cons_succ])
  refine wpAnyH_take (i := 3) (v := ?_) rfl (by kernel_rfl) (by kernel_rfl) (by kernel_rfl) (fun _ _ _ h => h) (Or.inl ⟨by rfl, ?_⟩) (by assumption) ?_
  rotate_left
  · (intro w hSw; (try dsimp only at hSw); go_simp; try with_reducible rfl)
  (try simp only [Act.put, List.getElem_toArray, List.getElem_cons_zero, List.getElem_cons_succ, List.setIfInBounds_toArray, List.set_cons_zero, List.set_cons_succ])
  refine wpAnyH_take (i := 4) (v := ?_) rfl (by kernel_rfl) (by kernel_rfl) (by kernel_rfl) (fun _ _ _ h => h) (Or.inl ⟨by rfl, ?_⟩) (by assumption) ?_
  rotate_left
  · (intro w hSw; (try dsimp only at hSw); go_simp; try with_reducible rfl)
  (try simp only [Act.put, List.getElem_toArray, List.getElem_cons_zero, List.getElem_cons_succ, List.setIfInBounds_toArray, List.set_cons_zero, List.set_cons_succ])
  refine wpAnyH_take (i := 5) (v := ?_) rfl (by kernel_rfl) (by kernel_rfl) (by kernel_rfl) (fun _ _ _ h => h) (Or.inl ⟨by rfl, ?_⟩) (by assumption) ?_
  rotate_left
  · (intro w hSw; (try dsimp only at hSw); go_simp; try with_reducible rfl)
  (try simp only [Act.put, List.getElem_toArray, List.getElem_cons_zero, List.getElem_cons_succ, List.setIfInBounds_toArray, List.set_cons_zero, List.set_cons_succ])
  refine wpAnyH_take (i := 6) (v := ?_) rfl (by kernel_rfl) (by kernel_rfl) (by kernel_rfl) (fun _ _ _ h => h) (Or.inl ⟨by rfl, ?_⟩) (by assumption) ?_
  rotate_left
  · (intro w hSw; (try dsimp only at hSw); go_simp; try with_reducible rfl)
  (try simp only [Act.put, List.getElem_toArray, List.getElem_cons_zero, List.getElem_cons_succ, List.setIfInBounds_toArray, List.set_cons_zero, List.set_cons_succ])
  refine wpAnyH_take (i := 7) (v := ?_) rfl (by kernel_rfl) (by kernel_rfl) (by kernel_rfl) (fun _ _ _ h => h) (Or.inl ⟨by rfl, ?_⟩) (by assumption) ?_
  rotate_left
  · (intro w hSw; (try dsimp only at hSw); go_simp; try with_reducible rfl)
  (try simp only [Act.put, List.getElem_toArray, List.getElem_cons_zero, List.getElem_cons_succ, List.setIfInBounds_toArray, List.set_cons_zero, List.set_cons_succ])
  refine wpAnyH_take (i := 8) (v := ?_) rfl (by kernel_rfl) (by kernel_rfl) (by kernel_rfl) (fun _ _ _ h => h) (Or.inl ⟨by rfl, ?_⟩) (by assumption) ?_
  rotate_left
  · (intro w hSw; (try dsimp only at hSw); go_simp; try with_reducible rfl)
  (try simp only [Act.put, List.getElem_toArray, List.getElem_cons_zero, List.getElem_cons_succ, List.setIfInBounds_toArray, List.set_cons_zero, List.set_cons_succ])
  refine wpAnyH_take (i := 9) (v := ?_) rfl (by kernel_rfl) (by kernel_rfl) (by kernel_rfl) (fun _ _ _ h => h) (Or.inl ⟨by rfl, ?_⟩) (by assumption) ?_
  rotate_left
  · (intro w hSw; (try dsimp only at hSw); go_simp; try with_reducible rfl)
  (try simp only [Act.put, List.getElem_toArray, List.getElem_cons_zero, List.getElem_cons_succ, List.setIfInBounds_toArray, List.set_cons_zero, List.set_cons_succ])
  refine wpAnyH_take (i := 10) (v := ?_) rfl (by kernel_rfl) (by kernel_rfl) (by kernel_rfl) (fun _ _ _ h => h) (Or.inl ⟨by rfl, ?_⟩) (by assumption) ?_
  rotate_left
  · (intro w hSw; (try dsimp only at hSw); go_simp; try with_reducible rfl)
  (try simp only [Act.put, List.getElem_toArray, List.getElem_cons_zero, List.getElem_cons_succ, List.setIfInBounds_toArray, List.set_cons_zero, List.set_cons_succ])
  refine wpAnyH_take (i := 11) (v := ?_) rfl (by kernel_rfl) (by kernel_rfl) (by kernel_rfl) (fun _ _ _ h => h) (Or.inl ⟨by rfl, ?_⟩) (by assumption) ?_
  rotate_left
  · (intro w hSw; (try dsimp only at hSw); go_simp; try with_reducible rfl)
  (try simp only [Act.put, List.getElem_toArray, List.getElem_cons_zero, List.getElem_cons_succ, List.setIfInBounds_toArray, List.set_cons_zero, List.set_cons_succ])
  refine wpAnyH_take (i := 13) (v := ?_) rfl (by kernel_rfl) (by kernel_rfl) (by kernel_rfl) (fun _ _ _ h => h) (Or.inl ⟨by rfl, ?_⟩) (by assumption) ?_
  rotate_left
  · (intro w hSw; (try dsimp only at hSw); go_simp; try with_reducible rfl)
  (try simp only [Act.put, List.getElem_toArray, List.getElem_cons_zero, List.getElem_cons_succ, List.setIfInBounds_toArray, List.set_cons_zero, List.set_cons_succ])
  refine wpAnyH_take (i := 15) (v := ?_) rfl (by kernel_rfl) (by kernel_rfl) (by kernel_rfl) (fun _ _ _ h => h) (Or.inl ⟨by rfl, ?_⟩) (by assumption) ?_
  rotate_left
  · (intro w hSw; (try dsimp only at hSw); go_simp; try with_reducible rfl)
  (try simp only [Act.put, List.getElem_toArray, List.getElem_cons_zero, List.getElem_cons_succ, List.setIfInBounds_toArray, List.set_cons_zero, List.set_cons_succ])
  refine wpAnyH_ready (rs := [12]) (by kernel_rfl) (by simp) ?_
  refine AllReadyH.cons rfl (fun K hK => ?_) AllReadyH.nil
  go_simp
  refine (TC.out _ _ (IsNat.fr IV.out fz.out) (PT.fr HP.out (F.out.trans fz.out))).mono ?_
  rintro e wn ⟨rfl, fy⟩
  have fz := hide (fz.out.trans fy)
  clear fy
  (try go_wp2_with fail)
  refine hK.out _ _ ?_ (fun hHeld => ?_)
  · (try dsimp only)
    exact ⟨fr_cell fz.out c8, fr_cell fz.out c10, fr_cell fz.out c12, fz⟩
  clear hK K
  (try simp only [Act.put, List.getElem_toArray, List.getElem_cons_zero, List.getElem_cons_succ, List.setIfInBounds_toArray, List.set_cons_zero, List.set_cons_succ])
  refine wpAnyH_ready (rs := [14]) (by kernel_rfl) (by simp) ?_
  refine AllReadyH.cons rfl (fun K hK => ?_) AllReadyH.nil
  go_simp
  refine (TA.out _ _ (IsNat.fr IX.out fz.out) (PT.fr HP.out (F.out.trans fz.out))).mono ?_
  rintro e wn ⟨rfl, fy⟩
  have fz := hide (fz.out.trans fy)
  clear fy
  (try go_wp2_with fail)
  refine hK.out _ _ ?_ (fun hHeld => ?_)
  · (try dsimp only)
    exact ⟨fr_cell fz.out c8, fr_cell fz.out c10, fr_cell fz.out c12, fz⟩
  clear hK K
  (try simp only [Act.put, List.getElem_toArray, List.getElem_cons_zero, List.getElem_cons_succ, List.setIfInBounds_toArray, List.set_cons_zero, List.set_cons_succ])
  refine wpAnyH_ready (rs := [16]) (by kernel_rfl) (by simp) ?_
  refine AllReadyH.cons rfl (fun K hK => ?_) AllReadyH.nil
  go_simp
  refine (TB.out _ _ (IsNat.fr IY.out fz.out) (PT.fr HP.out (F.out.trans fz.out))).mono ?_
  rintro e wn ⟨rfl, fy⟩
  have fz := hide (fz.out.trans fy)
  clear fy
  (try go_wp2_with fail)
  refine hK.out _ _ ?_ (fun hHeld => ?_)
  · (try dsimp only)
    exact ⟨fr_cell fz.out c8, fr_cell fz.out c10, fr_cell fz.out c12, fz⟩
  clear hK K
  (try simp only [Act.put, List.getElem_toArray, List.getElem_cons_zero, List.getElem_cons_succ, List.setIfInBounds_toArray, List.set_cons_zero, List.set_cons_succ])
  refine wpAnyH_ready (rs := [17]) (by kernel_rfl) (by simp) ?_
  refine AllReadyH.cons rfl (fun K hK => ?_) AllReadyH.nil
  go_simp
  (try go_wp2_with fail)
  refine hK.out _ _ ?_ (fun hHeld => ?_)
  · (try dsimp only)
    exact ⟨fr_cell fz.out c8, fr_cell fz.out c10, fr_cell fz.out c12, fz⟩
  clear hK K
  (try simp only [Act.put, List.getElem_toArray, List.getElem_cons_zero, List.getElem_cons_succ, List.setIfInBounds_toArray, List.set_cons_zero, List.set_cons_succ])
  refine wpAnyH_take (i := 18) (v := ?_) rfl (by kernel_rfl) (by kernel_rfl) (by kernel_rfl) (fun _ _ _ h => h) (Or.inl ⟨by rfl, ?_⟩) (by assumption) ?_
  rotate_left
  · (intro w hSw; (try dsimp only at hSw); go_simp; try with_reducible rfl)
  (try simp only [Act.put, List.getElem_toArray, List.getElem_cons_zero, List.getElem_cons_succ, List.setIfInBounds_toArray, List.set_cons_zero, List.set_cons_succ])
  refine wpAnyH_take (i := 19) (v := ?_) rfl (by kernel_rfl) (by kernel_rfl) (by kernel_rfl) (fun _ _ _ h => h) (Or.inl ⟨by rfl, ?_⟩) (by assumption) ?_
  rotate_left
  · (intro w hSw; (try dsimp only at hSw); go_simp; try with_reducible rfl)
  (try simp only [Act.put, List.getElem_toArray, List.getElem_cons_zero, List.getElem_cons_succ, List.setIfInBounds_toArray, List.set_cons_zero, List.set_cons_succ])
  refine wpAnyH_take (i := 20) (v := ?_) rfl (by kernel_rfl) (by kernel_rfl) (by kernel_rfl) (fun _ _ _ h => h) (Or.inl ⟨by rfl, ?_⟩) (by assumption) ?_
  rotate_left
  · (intro w hSw; (try dsimp only at hSw); go_simp; try with_reducible rfl)
  (try simp only [Act.put, List.getElem_toArray, List.getElem_cons_zero, List.getElem_cons_succ, List.setIfInBounds_toArray, List.set_cons_zero, List.set_cons_succ])
  refine wpAnyH_take (i := 21) (v := ?_) rfl (by kernel_rfl) (by kernel_rfl) (by kernel_rfl) (fun _ _ _ h => h) (Or.inl ⟨by rfl, ?_⟩) (by assumption) ?_
  rotate_left
  · (intro w hSw; (try dsimp only at hSw); go_simp; try with_reducible rfl)
  (try simp only [Act.put, List.getElem_toArray, List.getElem_cons_zero, List.getElem_cons_succ, List.setIfInBounds_toArray, List.set_cons_zero, List.set_cons_succ])
  refine wpAnyH_take (i := 23) (v := ?_) rfl (by kernel_rfl) (by kernel_rfl) (by kernel_rfl) (fun _ _ _ h => h) (Or.inl ⟨by rfl, ?_⟩) (by assumption) ?_
  rotate_left
  · (intro w hSw; (try dsimp only at hSw); go_simp; try with_reducible rfl)
  (try simp only [Act.put, List.getElem_toArray, List.getElem_cons_zero, List.getElem_cons_succ, List.setIfInBounds_toArray, List.set_cons_zero, List.set_cons_succ])
  refine wpAnyH_take (i := 24) (v := ?_) rfl (by kernel_rfl) (by kernel_rfl) (by kernel_rfl) (fun _ _ _ h => h) (Or.inl ⟨by rfl, ?_⟩) (by assumption) ?_
  rotate_left
  · (intro w hSw; (try dsimp only at hSw); go_simp; try with_reducible rfl)
  (try simp only [Act.put, List.getElem_toArray, List.getElem_cons_zero, List.getElem_cons_succ, List.setIfInBounds_toArray, List.set_cons_zero, List.set_cons_succ])
  refine wpAnyH_take (i := 25) (v := ?_) rfl (by kernel_rfl) (by kernel_rfl) (by kernel_rfl) (fun _ _ _ h => h) (Or.inl ⟨by rfl, ?_⟩) (by assumption) ?_
  rotate_left
  · (intro w hSw; (try dsimp only at hSw); go_simp; try with_reducible rfl)
  (try simp only [Act.put, List.getElem_toArray, List.getElem_cons_zero, List.getElem_cons_succ, List.setIfInBounds_toArray, List.set_cons_zero, List.set_cons_succ])
  refine wpAnyH_take (i := 26) (v := ?_) rfl (by kernel_rfl) (by kernel_rfl) (by kernel_rfl) (fun _ _ _ h => h) (Or.inl ⟨by rfl, ?_⟩) (by assumption) ?_
  rotate_left
  · (intro w hSw; (try dsimp only at hSw); go_simp; try with_reducible rfl)
  (try simp only [Act.put, List.getElem_toArray, List.getElem_cons_zero, List.getElem_cons_succ, List.setIfInBounds_toArray, List.set_cons_zero, List.set_cons_succ])
  refine wpAnyH_take (i := 27) (v := ?_) rfl (by kernel_rfl) (by kernel_rfl) (by kernel_rfl) (fun _ _ _ h => h) (Or.inl ⟨by rfl, ?_⟩) (by assumption) ?_
  rotate_left
  · (intro w hSw; (try dsimp only at hSw); go_simp; try with_reducible rfl)
  (try simp only [Act.put, List.getElem_toArray, List.getElem_cons_zero, List.getElem_cons_succ, List.setIfInBounds_toArray, List.set_cons_zero, List.set_cons_succ])
  refine wpAnyH_ready (rs := [22]) (by kernel_rfl) (by simp) ?_
  refine AllReadyH.cons rfl (fun K hK => ?_) AllReadyH.nil
  go_simp
  refine (CC.out _ _ (IsNat.fr IV.out fz.out) (PT.fr HP.out (F.out.trans fz.out))).mono ?_
  rintro e wn ⟨rfl, fy⟩
  have fz := hide (fz.out.trans fy)
  clear fy
  (try go_wp2_with fail)
  refine hK.out _ _ ?_ (fun hHeld => ?_)
  · (try dsimp only)
    exact ⟨fr_cell fz.out c8, fr_cell fz.out c10, fr_cell fz.out c12, fz⟩
  clear hK K
  (try simp only [Act.put, List.getElem_toArray, List.getElem_cons_zero, List.getElem_cons_succ, List.setIfInBounds_toArray, List.set_cons_zero, List.set_cons_succ])
  refine wpAnyH_take (i := 28) (v := ?_) rfl (by kernel_rfl) (by kernel_rfl) (by kernel_rfl) (fun _ _ _ h => h) (Or.inl ⟨by rfl, ?_⟩) (by assumption) ?_
  rotate_left
  · (intro w hSw; (try dsimp only at hSw); go_simp; try with_reducible rfl)
  (try simp only [Act.put, List.getElem_toArray, List.getElem_cons_zero, List.getElem_cons_succ, List.setIfInBounds_toArray, List.set_cons_zero, List.set_cons_succ])
  refine wpAnyH_take (i := 29) (v := ?_) rfl (by kernel_rfl) (by kernel_rfl) (by kernel_rfl) (fun _ _ _ h => h) (Or.inl ⟨by rfl, ?_⟩) (by assumption) ?_
  rotate_left
  · (intro w hSw; (try dsimp only at hSw); go_simp; try with_reducible rfl)
  (try simp only [Act.put, List.getElem_toArray, List.getElem_cons_zero, List.getElem_cons_succ, List.setIfInBounds_toArray, List.set_cons_zero, List.set_cons_succ])
  refine wpAnyH_take (i := 30) (v := ?_) rfl (by kernel_rfl) (by kernel_rfl) (by kernel_rfl) (fun _ _ _ h => h) (Or.inl ⟨by rfl, ?_⟩) (by assumption) ?_
  rotate_left
  · (intro w hSw; (try dsimp only at hSw); go_simp; try with_reducible rfl)
  (try simp only [Act.put, List.getElem_toArray, List.getElem_cons_zero, List.getElem_cons_succ, List.setIfInBounds_toArray, List.set_cons_zero, List.set_cons_succ])
  refine wpAnyH_done (by kernel_rfl) ?_ _
  go_wp2_with fail
  go_ret
  exact ⟨rfl, F.out.trans fz.out⟩
end Go.Proofs.YtkdiniboponphaaDoor
