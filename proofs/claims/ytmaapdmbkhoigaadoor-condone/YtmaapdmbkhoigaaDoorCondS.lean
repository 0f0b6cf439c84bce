/- The law CondOne. -/
import Derived.Test.YtmaapdmbkhoigaaDoorCondR
import Derived.Deep.CutBlock
import Derived.Deep.DeepCutAuto
namespace Go.Proofs.YtmaapdmbkhoigaaDoor
set_option linter.unusedVariables false
set_option linter.unusedSimpArgs false
open Go.RowKit
open Go.Lib (trimLeftB trimRightB)

attribute [local go_sem] World.cell?_alloc_some
theorem eq7_false (w : World) : (Op.equalIn 10000 51 (.agg #[.bool false, .bool false, .bool false, .bool false, .bool false, .bool false, .bool false]) (.agg #[.bool false, .bool false, .bool false, .bool false, .bool false, .bool false, .bool false])).run Tryd.prog w = .ok true w := by kernel_rfl
theorem class_of (c : Int) (n : Bool) (m x : Int) (w : World) : (Instr.field 53 (.agg #[.int .i64 c, .bool n, .int .u64 m, .int .i64 x]) 0).run Tryd.prog w = .ok (.int .i64 c) w := by kernel_rfl
attribute [local go_sem] eq7_false class_of
theorem u32_nat13 {b : Int} (h : (Lit.int .u32 b).wf = true) : ∃ x : Nat, b = (x : Int) ∧ x < 4294967296 := by
  simp [Lit.wf, IntKind.min, IntKind.max, IntKind.signed, IntKind.bits] at h
  exact ⟨b.toNat, by omega, by omega⟩
theorem hV_all {n : Bool} {W P : List UInt8} {b : Nat} (hm : ∀ k, 1 ≤ k → k ≤ 6 → mayD k n W P = true) : (1 < bC b ∧ hV 1 n W P b = false ∧ hV 2 n W P b = false ∧ hV 3 n W P b = false ∧ hV 4 n W P b = false ∧ hV 5 n W P b = false ∧ hV 6 n W P b = false) ∨ (bC b ≤ 1 ∧ ((hV 1 n W P b = true ∧ hV 2 n W P b = true ∧ hV 3 n W P b = false ∧ hV 4 n W P b = false ∧ hV 5 n W P b = false ∧ hV 6 n W P b = true) ∨ (hV 1 n W P b = false ∧ hV 2 n W P b = true ∧ hV 3 n W P b = false ∧ hV 4 n W P b = true ∧ hV 5 n W P b = true ∧ hV 6 n W P b = false) ∨ (hV 1 n W P b = false ∧ hV 2 n W P b = false ∧ hV 3 n W P b = true ∧ hV 4 n W P b = true ∧ hV 5 n W P b = false ∧ hV 6 n W P b = true))) := by
  by_cases hc : 1 < bC b
  · exact .inl ⟨hc, hV_not hc 1, hV_not hc 2, hV_not hc 3, hV_not hc 4, hV_not hc 5, hV_not hc 6⟩
  · right
    obtain ⟨O, hO⟩ := hV_is (n := n) (W := W) (P := P) (b := b) hm (by omega)
    refine ⟨by omega, ?_⟩
    rw [hO 1 (by omega) (by omega), hO 2 (by omega) (by omega), hO 3 (by omega) (by omega), hO 4 (by omega) (by omega), hO 5 (by omega) (by omega), hO 6 (by omega) (by omega)]
    exact hB_three O

set_option maxHeartbeats 16000000 in
set_option maxRecDepth 4000 in
theorem law_CondOne (xi yi : Int) (g : Bool) (bi : Int) (w : World) (hxw : (Lit.int .u32 xi).wf = true) (hyw : (Lit.int .u32 yi).wf = true) (hbw : (Lit.int .u64 bi).wf = true) (hL : Led13 w) :
    Calls Tryd.prog 6 #[.agg #[.int .u32 xi, .int .u32 yi, .bool g, .int .u64 bi]] w fun e w' => e = .returned (.bool true) ∧ Fr w w' := by
  obtain ⟨x, rfl, hx⟩ := u32_nat13 hxw
  obtain ⟨y, rfl, hy⟩ := u32_nat13 hyw
  obtain ⟨b, rfl, hb⟩ := u64_nat13 hbw
  have HLL := hide (fun w' (f : Fr w w') => hL.fr f)
  have HWk := hide (fun w (h : Led13 w) => wakes_any13 w h)
  have BO := hide (fun w => of_any7 b w hb)
  have BR := hide (fun w => refOf_any7 b w hb)
  obtain ⟨n, hn⟩ : ∃ n, (g && !(dD x ++ trimRightB (dD y) 48).isEmpty) = n := ⟨_, rfl⟩
  have HV := hide (hV_all (b := b) (fun k h1 h6 => may_made k h1 h6 g x y hx hy))
  have HHo := hide (fun (k : Nat) w (h : Led13 w) => (show Calls Tryd.prog 14 #[.agg #[.int .i64 (k : Int), .bool (g && !(dD x ++ trimRightB (dD y) 48).isEmpty), .string (bs (dD x)), .string (bs (trimRightB (dD y) 48))], bval b] w fun e w' => e = .returned (.bool (hV k (g && !(dD x ++ trimRightB (dD y) 48).isEmpty) (dD x) (trimRightB (dD y) 48) b)) ∧ Fr w w' by
    have := holds_any13 (k : Int) (g && !(dD x ++ trimRightB (dD y) 48).isEmpty) (dD x) (trimRightB (dD y) 48) b w hb h.1 h.2.1 h.2.2 (by have := dD_len hx; omega) (by have := dD_len hy; have := trimRight_le (dD y); omega)
    rwa [Int.toNat_natCast] at this))
  have zX : (bs (dD x)).size ≤ 11 := by rw [bs_size]; exact dD_len hx
  have zY : (bs (dD y)).size ≤ 11 := by rw [bs_size]; exact dD_len hy
  have zP : (bs (trimRightB (dD y) 48)).size ≤ 11 := by rw [bs_size]; exact Nat.le_trans (trimRight_le _) (dD_len hy)
  have hEE := bs_add_empty (dD x) (trimRightB (dD y) 48)
  obtain ⟨XB, hXB⟩ : ∃ T, bs (dD x) = T := ⟨_, rfl⟩
  obtain ⟨YB, hYB⟩ : ∃ T, bs (dD y) = T := ⟨_, rfl⟩
  obtain ⟨PB, hPB⟩ : ∃ T, bs (trimRightB (dD y) 48) = T := ⟨_, rfl⟩
  rw [hn] at HHo HV
  rw [hXB, hPB] at HHo hEE
  rw [hXB] at zX
  rw [hYB] at zY
  rw [hPB] at zP
  have HXB := hide hXB
  have HYB := hide hYB
  have HPB := hide hPB
  obtain ⟨ee, hee⟩ : ∃ e, (dD x ++ trimRightB (dD y) 48).isEmpty = e := ⟨_, rfl⟩
  rw [hee] at hEE hn
  obtain ⟨f, hf⟩ : ∃ f : Nat → Bool, (fun k => hV k n (dD x) (trimRightB (dD y) 48) b) = f := ⟨_, rfl⟩
  have hf2 : ∀ k, hV k n (dD x) (trimRightB (dD y) 48) b = f k := fun k => by rw [← hf]
  have HV := hide (show (1 < bC b ∧ f 1 = false ∧ f 2 = false ∧ f 3 = false ∧ f 4 = false ∧ f 5 = false ∧ f 6 = false) ∨ (bC b ≤ 1 ∧ ((f 1 = true ∧ f 2 = true ∧ f 3 = false ∧ f 4 = false ∧ f 5 = false ∧ f 6 = true) ∨ (f 1 = false ∧ f 2 = true ∧ f 3 = false ∧ f 4 = true ∧ f 5 = true ∧ f 6 = false) ∨ (f 1 = false ∧ f 2 = false ∧ f 3 = true ∧ f 4 = true ∧ f 5 = false ∧ f 6 = true))) by
    have h := HV.out
    simp only [hf2] at h
    exact h)
  have HHo := hide (fun (k : Nat) w (h : Led13 w) => (show Calls Tryd.prog 14 #[.agg #[.int .i64 (k : Int), .bool n, .string XB, .string PB], bval b] w fun e w' => e = .returned (.bool (f k)) ∧ Fr w w' by
    have := HHo.out k w h
    rwa [hf2] at this))
  clear hL hxw hyw hbw hXB hYB hPB hf hf2 hee
  unfold bval at BO BR HHo
  generalize bC b = vc at *
  generalize bN b = vn at *
  generalize bM b = vm at *
  generalize bX b = vx at *
  go_enter Tryd.func6, Tryd.ntmps6
  go_wp2_with fail
  obtain ⟨W1, hW1⟩ : ∃ V, V = w.alloc (Obj.cells #[.int .u32 (x : Int), .int .u32 (y : Int), .bool g, .int .u64 (b : Int)] 49) := ⟨_, rfl⟩
  have Q := Quad.new (Fr.refl w) (.int .u32 (x : Int)) (.int .u32 (y : Int)) (.bool g) (.int .u64 (b : Int)) 49
  have F := Fr.alloc w (.cells #[.int .u32 (x : Int), .int .u32 (y : Int), .bool g, .int .u64 (b : Int)] 49)
  rw [← hW1] at Q F ⊢
  clear hW1
  obtain ⟨q0, q1, q2, q3, _, _⟩ := Q
  have F := hide F
  go_quiet (fail)
  clear q0 q1 q2 q3
  go_upto_block 0 with fail
  go_cut [7] (fun s7 wx => s7 = .string XB ∧ Hid (Fr w wx))
  case first => as_aux_lemma =>
    go_wp2_with fail
    go_loopw [7, 8] (fun sv nv wr => ∃ (u : Nat) (t : ByteArray), u < 4294967296 ∧ t.size ≤ 11 ∧ sv = .string t ∧ nv = .int .u32 u ∧ Hid (bs (dD u) ++ t = XB) ∧ Hid (Fr w wr)) (fun _ nv _ => (intOf nv).toNat)
    case atStart => exact ⟨x, ⟨#[]⟩, hx, by decide, rfl, rfl, hide (by rw [← HXB.out, show (⟨#[]⟩ : ByteArray) = bs [] from rfl, bs_append, List.append_nil]), hide (F.out.trans (below_drewN (Below.refl _ _) _))⟩
    case round =>
      obtain ⟨u, t, hu, ht, rfl, rfl, hT, hF⟩ := hrel
      by_cases h0 : u = 0
      · subst h0
        have E1 : Hid (XB = t) := hide (by
          have h := hT.out
          rw [dD_zero] at h
          rw [← h, bs_eta t, bs_append]; rfl)
        clear hT
        go_wp2_with fail
        go_meet
        exact ⟨by rw [E1.out], hF⟩
      · have hu1 : 1 ≤ u := by omega
        have hstep : Hid (bs (dD (u / 10)) ++ (bs [UInt8.ofNat (48 + u % 10)] ++ t) = XB) := hide (by
          rw [← hT.out, dD_step h0, ← bs_append, ByteArray.append_assoc])
        have hcv := conv_byte (UInt8.ofNat (48 + u % 10)) (48 + (u : Int) % 10) (by rw [byte_of (Nat.mod_lt _ (by decide))]; omega)
        obtain ⟨c, hc⟩ : ∃ c, UInt8.ofNat (48 + u % 10) = c := ⟨_, rfl⟩
        rw [hc] at hstep hcv
        have hsz : (bs [c]).size = 1 := bs_size [c]
        have hlen : Hid ((bs [c] ++ t).size ≤ 11) := hide (by
          have h := congrArg ByteArray.size hstep.out
          rw [ByteArray.size_append] at h
          omega)
        clear hT hc h0
        go_wp2_with fail
        go_roundw
        case rel => exact ⟨u / 10, _, by omega, hlen.out, rfl, by go_num, hstep, hide (hF.out.trans (Fr.alloc _ _))⟩
        case measure => simp [intOf]; omega
  case rest => as_aux_lemma =>
    obtain ⟨rfl, F⟩ := hcut
    clear HXB hx
    go_upto_block 2 with fail
    go_cut [9] (fun s9 wx => s9 = .string YB ∧ Hid (Fr w wx))
    case first => as_aux_lemma =>
      go_wp2_with fail
      go_loopw [9, 10] (fun sv nv wr => ∃ (u : Nat) (t : ByteArray), u < 4294967296 ∧ t.size ≤ 11 ∧ sv = .string t ∧ nv = .int .u32 u ∧ Hid (bs (dD u) ++ t = YB) ∧ Hid (Fr w wr)) (fun _ nv _ => (intOf nv).toNat)
      case atStart => exact ⟨y, ⟨#[]⟩, hy, by decide, rfl, rfl, hide (by rw [← HYB.out, show (⟨#[]⟩ : ByteArray) = bs [] from rfl, bs_append, List.append_nil]), F⟩
      case round =>
        obtain ⟨u, t, hu, ht, rfl, rfl, hT, hF⟩ := hrel
        by_cases h0 : u = 0
        · subst h0
          have E1 : Hid (YB = t) := hide (by
            have h := hT.out
            rw [dD_zero] at h
            rw [← h, bs_eta t, bs_append]; rfl)
          clear hT
          go_wp2_with fail
          go_meet
          exact ⟨by rw [E1.out], hF⟩
        · have hu1 : 1 ≤ u := by omega
          have hstep : Hid (bs (dD (u / 10)) ++ (bs [UInt8.ofNat (48 + u % 10)] ++ t) = YB) := hide (by
            rw [← hT.out, dD_step h0, ← bs_append, ByteArray.append_assoc])
          have hcv := conv_byte (UInt8.ofNat (48 + u % 10)) (48 + (u : Int) % 10) (by rw [byte_of (Nat.mod_lt _ (by decide))]; omega)
          obtain ⟨c, hc⟩ : ∃ c, UInt8.ofNat (48 + u % 10) = c := ⟨_, rfl⟩
          rw [hc] at hstep hcv
          have hsz : (bs [c]).size = 1 := bs_size [c]
          have hlen : Hid ((bs [c] ++ t).size ≤ 11) := hide (by
            have h := congrArg ByteArray.size hstep.out
            rw [ByteArray.size_append] at h
            omega)
          clear hT hc h0
          go_wp2_with fail
          go_roundw
          case rel => exact ⟨u / 10, _, by omega, hlen.out, rfl, by go_num, hstep, hide (hF.out.trans (Fr.alloc _ _))⟩
          case measure => simp [intOf]; omega
    case rest => as_aux_lemma =>
      obtain ⟨rfl, F⟩ := hcut
      go_upto_block 4 with fail
      go_cut [9] (fun s9 wx => s9 = .string PB ∧ Hid (Fr w wx))
      case first => as_aux_lemma =>
        go_wp2_with fail
        go_loopw [9] (fun s9 wr => ∃ t : ByteArray, s9 = .string t ∧ t.size ≤ 11 ∧ Hid (bs (trimRightB t.data.toList 48) = PB) ∧ Hid (Fr w wr)) (fun s9 _ => bLen s9)
        case atStart => exact ⟨YB, rfl, zY, hide (by rw [← HYB.out, bs_data]; exact HPB.out), F⟩
        case round =>
          obtain ⟨t, rfl, ht, hT, hF⟩ := hrel
          by_cases h0 : t.size = 0
          · have hl : t.data.toList = [] := List.length_eq_zero_iff.1 (by rw [len_data]; exact h0)
            have E1 : Hid (PB = t) := hide (by
              have h1 := hT.out
              rw [hl] at h1
              rw [bs_eta t, hl, ← h1]; rfl)
            have he : t.toList.isEmpty = true := by rw [Go.Lib.toList_data, hl]; rfl
            clear hl h0 hT
            go_wp2_with fail
            go_meet
            exact ⟨by rw [E1.out], hF⟩
          · obtain ⟨j, hj⟩ : ∃ j : Nat, (t.size : Int) - 1 = j := ⟨t.size - 1, by omega⟩
            have hlt : j < t.size := by omega
            have htj : (j : Int) ≤ t.size := by omega
            have hjt : (j : Int).toNat = j := by omega
            have hj1 := hide (show t.size = j + 1 by omega)
            obtain ⟨c, hc, hd⟩ := data_at t j hlt
            obtain ⟨z, hz⟩ : ∃ z : Int, (c.toNat : Int) = z := ⟨_, rfl⟩
            have hzb := byte_bd c
            rw [hz] at hzb
            have hcz : ((t[j]'hlt).toNat : Int) = z := by rw [hc, hz]
            have hm : t.data.toList = t.data.toList.take j ++ [c] := by
              have := take_snoc hd
              rw [← this, List.take_of_length_le (by rw [len_data, hj1.out]; omega)]
            have HD := hide hm
            have HZ := hide hz
            have he : t.toList.isEmpty = false := by rw [Go.Lib.toList_data, hm]; simp
            clear hd hz hc hm h0
            by_cases h1 : z = 48
            · have h48 : (z == 48) = true := by simpa using h1
              have hc48 : c = 48 := UInt8.toNat_inj.1 (by have := HZ.out; show c.toNat = 48; omega)
              have hx : (t.extract 0 j).data.toList = t.data.toList.take j := by rw [Go.Lib.extract_data]; rfl
              have hT2 := hide (show bs (trimRightB (t.extract 0 j).data.toList 48) = PB by
                rw [hx]
                have := hT.out
                rw [HD.out, hc48, trimRight_snoc] at this
                exact this)
              have hsz := hide (show (t.extract 0 j).size = j by
                rw [← len_data, hx, List.length_take, len_data, hj1.out]; omega)
              clear h1 hx hT
              generalize hx2 : t.extract 0 j = t2 at hT2 hsz
              go_wp2_with fail
              go_roundw
              case rel => exact ⟨t2, rfl, by rw [hsz.out]; omega, hT2, hF⟩
              case measure => simp only [bLen]; rw [hsz.out, hj1.out]; omega
            · have h48 : (z == 48) = false := by simpa using h1
              have hc48 : ¬ c = 48 := fun e => h1 (by rw [← HZ.out, e]; rfl)
              have E1 : Hid (PB = t) := hide (by
                have h2 := hT.out
                rw [HD.out] at h2
                unfold trimRightB at h2
                rw [List.reverse_append, List.reverse_singleton, List.singleton_append, List.dropWhile_cons_of_neg (by simpa using hc48), List.reverse_cons, List.reverse_reverse, ← HD.out] at h2
                rw [bs_eta t, ← h2])
              clear h1 hc48 hT
              go_wp2_with fail
              go_meet
              exact ⟨by rw [E1.out], hF⟩
      case rest => as_aux_lemma =>
        obtain ⟨rfl, F⟩ := hcut
        clear HPB HYB zY hy
        obtain ⟨A, hA⟩ : ∃ V, V = wc := ⟨_, rfl⟩
        rw [← hA] at F ⊢
        clear hA
        go_upto_region 14 with fail
        go_cut [11] (fun s11 wx => s11 = .pointer (some ⟨A.heap.size, 0, none⟩) ∧ wx = A.alloc (Obj.cells #[.int .i64 0, .bool n, .string XB, .string PB] 24))
        case first => as_aux_lemma =>
          have hge : (g = false ∧ n = false) ∨ (g = true ∧ n = !ee) := by rw [← hn]; cases g <;> simp
          rcases hge with ⟨rfl, rfl⟩ | ⟨rfl, rfl⟩
          · go_wp2_with fail
            go_meet
            exact ⟨rfl, rfl⟩
          · cases ee
            · go_wp2_with fail
              go_meet
              exact ⟨rfl, rfl⟩
            · go_wp2_with fail
              go_meet
              exact ⟨rfl, rfl⟩
        case rest => as_aux_lemma =>
          obtain ⟨rfl, rfl⟩ := hcut
          clear hEE hn
          have C := Quad.new F.out (.int .i64 0) (.bool n) (.string XB) (.string PB) 24
          have F := F.out.trans (Fr.alloc _ (.cells #[.int .i64 0, .bool n, .string XB, .string PB] 24))
          obtain ⟨A1, hA1⟩ : ∃ V, V = A.alloc (Obj.cells #[.int .i64 0, .bool n, .string XB, .string PB] 24) := ⟨_, rfl⟩
          rw [← hA1] at C F ⊢
          clear hA1
          generalize A.heap.size = cb at *
          go_wp2_with fail
          refine (BO.out _).mono ?_
          rintro e w6 ⟨rfl, f6⟩
          have C := C.fr f6
          have F := F.trans f6
          clear f6 BO
          have l1 := cell_lt C.1
          simp only [] at l1
          have V := (Quad.new F (.int .i64 (vc : Int)) (.bool vn) (.int .u64 (vm : Int)) (.int .i64 vx) 42).fr (Fr.alloc _ (.cells #[.bool false, .bool false, .bool false, .bool false, .bool false, .bool false, .bool false] 51))
          have C := (C.fr (Fr.alloc _ (.cells #[.int .i64 (vc : Int), .bool vn, .int .u64 (vm : Int), .int .i64 vx] 42))).fr (Fr.alloc _ (.cells #[.bool false, .bool false, .bool false, .bool false, .bool false, .bool false, .bool false] 51))
          have F1 := F.trans (Fr.alloc _ (.cells #[.int .i64 (vc : Int), .bool vn, .int .u64 (vm : Int), .int .i64 vx] 42))
          have H : Row7 w ((w6.alloc (Obj.cells #[.int .i64 (vc : Int), .bool vn, .int .u64 (vm : Int), .int .i64 vx] 42)).alloc (Obj.cells #[.bool false, .bool false, .bool false, .bool false, .bool false, .bool false, .bool false] 51)) (w6.heap.size + 1) (fun _ => false) := by simpa using Row7.new F1 51
          have F := F1.trans (Fr.alloc _ (.cells #[.bool false, .bool false, .bool false, .bool false, .bool false, .bool false, .bool false] 51))
          clear F1
          go_upto_block 6 with fail
          obtain ⟨A2, hA2⟩ : ∃ X, X = (w6.alloc (Obj.cells #[.int .i64 (vc : Int), .bool vn, .int .u64 (vm : Int), .int .i64 vx] 42)).alloc (Obj.cells #[.bool false, .bool false, .bool false, .bool false, .bool false, .bool false, .bool false] 51) := ⟨_, rfl⟩
          rw [← hA2] at C V F H ⊢
          clear hA2
          have C := hide C
          have V := hide V
          have H := hide H
          have F := hide F
          go_cut [14] (fun s14 wx => (∃ q : Int, Hid (Quad w wx cb (.int .i64 q) (.bool n) (.string XB) (.string PB))) ∧ Hid (Quad w wx w6.heap.size (.int .i64 (vc : Int)) (.bool vn) (.int .u64 (vm : Int)) (.int .i64 vx)) ∧ Hid (Row7 w wx (w6.heap.size + 1) (fun i => decide (1 ≤ i) && f i)) ∧ Hid (Fr w wx))
          case first => as_aux_lemma =>
            go_wp2_with fail
            go_loopw [14] (fun o wr => ∃ k : Nat, 1 ≤ k ∧ k ≤ 7 ∧ o = .int .i64 k ∧ (∃ q : Int, Hid (Quad w wr cb (.int .i64 q) (.bool n) (.string XB) (.string PB))) ∧ Hid (Quad w wr w6.heap.size (.int .i64 (vc : Int)) (.bool vn) (.int .u64 (vm : Int)) (.int .i64 vx)) ∧ Hid (Row7 w wr (w6.heap.size + 1) (fun i => decide (1 ≤ i) && decide (i < k) && f i)) ∧ Hid (Fr w wr)) (fun o _ => 7 - (intOf o).toNat)
            case atStart => exact ⟨1, by omega, by omega, rfl, ⟨0, C⟩, V, hide (H.out.same (fun i hi => by cases i with | zero => rfl | succ i => simp)), F⟩
            case round =>
              obtain ⟨k, k1, k7, rfl, ⟨q, Q⟩, V, R, F⟩ := hrel
              by_cases hk : k < 7
              · have ik6 : (k : Int) ≤ 6 := by omega
                have ik0 : (0 : Int) ≤ k := by omega
                have ik7 : (k : Int) < 7 := by omega
                have ikt : (k : Int).toNat = k := by omega
                have q0 := Q.out.1
                have z0 := Q.out.2.2.2.2.1 0
                have G := hide (And.intro (Q.out.put0 (.int .i64 (k : Int))) (And.intro (V.out.far (b' := cb) (o := 0) (by omega) (.int .i64 (k : Int))) (And.intro (R.out.far (b := cb) (o := 0) (by omega) (.int .i64 (k : Int))) (Q.out.fit F.out 0 (.int .i64 (k : Int))))))
                clear Q V R F
                go_upto_region 21 with fail
                obtain ⟨V2, hV2⟩ : ∃ X, X = wr.setCell ⟨cb, 0, none⟩ (.int .i64 (k : Int)) := ⟨_, rfl⟩
                rw [← hV2] at G ⊢
                clear hV2 q0 z0
                obtain ⟨Q, V, R, F⟩ := G.out
                have Q := hide Q
                have V := hide V
                have R := hide R
                have F := hide F
                clear G
                obtain ⟨c0, c1, c2, c3, _, _⟩ := Q.out
                obtain ⟨v0, v1, v2, v3, _, _⟩ := V.out
                go_wp2_with fail
                refine (HHo.out k _ (HLL.out _ F.out)).mono ?_
                rintro e w7 ⟨rfl, f7⟩
                have Q := hide (Q.out.fr f7)
                have V := hide (V.out.fr f7)
                have R := hide (R.out.fr f7)
                have F := hide (F.out.trans f7)
                clear f7 c0 c1 c2 c3 v0 v1 v2 v3
                have rk := R.out.1 k hk
                have zk := R.out.2.1 k
                go_wp2_with fail
                go_roundw
                case rel =>
                  exact ⟨k + 1, by omega, by omega, by go_num, ⟨_, hide (Q.out.far1 (by omega) _)⟩, hide (V.out.far1 (by omega) _), hide ((R.out.set k hk (f k)).same (fun i hi => by
                    by_cases e : i = k
                    · subst e; rw [if_pos rfl]; simp; omega
                    · rw [if_neg e]; congr 2; rw [decide_eq_decide]; omega)), hide (R.out.fit F.out k _)⟩
                case measure => simp [intOf]; omega
              · have : k = 7 := by omega
                subst this
                have R := hide (R.out.same (g := fun i => decide (1 ≤ i) && f i) (fun i hi => by rw [decide_eq_true hi, Bool.and_true]))
                go_wp2_with fail
                go_meet
                exact ⟨⟨q, Q⟩, V, R, F⟩
          case rest => as_aux_lemma =>
            obtain ⟨⟨q, C⟩, V, H, F⟩ := hcut
            obtain ⟨A3, hA3⟩ : ∃ V, V = wc := ⟨_, rfl⟩
            rw [← hA3] at C V H F ⊢
            clear hA3 C V
            have r0 : A3.cell? ⟨w6.heap.size + 1, 0, none⟩ = some (.bool false) := H.out.1 0 (by omega)
            have r1 : A3.cell? ⟨w6.heap.size + 1, 1, none⟩ = some (.bool (f 1)) := H.out.1 1 (by omega)
            have r2 : A3.cell? ⟨w6.heap.size + 1, 2, none⟩ = some (.bool (f 2)) := H.out.1 2 (by omega)
            have r3 : A3.cell? ⟨w6.heap.size + 1, 3, none⟩ = some (.bool (f 3)) := H.out.1 3 (by omega)
            have r4 : A3.cell? ⟨w6.heap.size + 1, 4, none⟩ = some (.bool (f 4)) := H.out.1 4 (by omega)
            have r5 : A3.cell? ⟨w6.heap.size + 1, 5, none⟩ = some (.bool (f 5)) := H.out.1 5 (by omega)
            have r6 : A3.cell? ⟨w6.heap.size + 1, 6, none⟩ = some (.bool (f 6)) := H.out.1 6 (by omega)
            clear H HHo
            rcases HV.out with ⟨hvc, h1, h2, h3, h4, h5, h6⟩ | ⟨hvc, hh⟩
            · have ivc : (1 : Int) < (vc : Int) := by omega
              rw [h1] at r1
              rw [h2] at r2
              rw [h3] at r3
              rw [h4] at r4
              rw [h5] at r5
              rw [h6] at r6
              clear h1 h2 h3 h4 h5 h6 HV hvc
              go_wp2_with fail
              refine (BR.out _).mono ?_
              rintro e w8 ⟨rfl, f8⟩
              have r0 := fr_cell f8 r0
              have r1 := fr_cell f8 r1
              have r2 := fr_cell f8 r2
              have r3 := fr_cell f8 r3
              have r4 := fr_cell f8 r4
              have r5 := fr_cell f8 r5
              have r6 := fr_cell f8 r6
              have F := hide (F.out.trans f8)
              clear f8
              go_wp2_with fail
              refine (HWk.out _ (HLL.out _ F.out)).mono ?_
              rintro e w9 ⟨rfl, f9⟩
              have r0 := fr_cell f9 r0
              have r1 := fr_cell f9 r1
              have r2 := fr_cell f9 r2
              have r3 := fr_cell f9 r3
              have r4 := fr_cell f9 r4
              have r5 := fr_cell f9 r5
              have r6 := fr_cell f9 r6
              have F := hide (F.out.trans f9)
              clear f9
              go_wp2_with fail
              go_ret
              exact ⟨rfl, F.out⟩
            · have ivc : ¬ (1 : Int) < (vc : Int) := by omega
              clear HV hvc
              rcases hh with ⟨h1, h2, h3, h4, h5, h6⟩ | ⟨h1, h2, h3, h4, h5, h6⟩ | ⟨h1, h2, h3, h4, h5, h6⟩
              all_goals
                rw [h1] at r1
                rw [h2] at r2
                rw [h3] at r3
                rw [h4] at r4
                rw [h5] at r5
                rw [h6] at r6
                clear h1 h2 h3 h4 h5 h6
                go_wp2_with fail
                refine (BR.out _).mono ?_
                rintro e w8 ⟨rfl, f8⟩
                have r1 := fr_cell f8 r1
                have r2 := fr_cell f8 r2
                have r3 := fr_cell f8 r3
                have r4 := fr_cell f8 r4
                have r5 := fr_cell f8 r5
                have r6 := fr_cell f8 r6
                have F := hide (F.out.trans f8)
                clear f8 r0
                go_wp2_with fail
                refine wp_loop_rounds 4 ?_
                rw [rounds_succ]
                go_wp2_with fail
                rw [rounds_succ]
                go_wp2_with fail
                rw [rounds_succ]
                go_wp2_with fail
                rw [rounds_succ]
                go_wp2_with fail
                refine (HWk.out _ (HLL.out _ (F.out.trans (Fr.alloc _ _)))).mono ?_
                rintro e w9 ⟨rfl, f9⟩
                have f10 := (Fr.alloc _ _).trans f9
                have r1 := fr_cell f10 r1
                have r2 := fr_cell f10 r2
                have r3 := fr_cell f10 r3
                have r4 := fr_cell f10 r4
                have r5 := fr_cell f10 r5
                have r6 := fr_cell f10 r6
                have F := hide (F.out.trans f10)
                clear f9 f10
                go_wp2_with fail
                go_ret
                exact ⟨rfl, F.out⟩
end Go.Proofs.YtmaapdmbkhoigaaDoor
