/- The law CondMoves. -/
import Derived.Test.YtmaapdmbkhoigaaDoorCondS
import Derived.Great.Walk
namespace Go.Proofs.YtmaapdmbkhoigaaDoor
set_option linter.unusedVariables false
set_option linter.unusedSimpArgs false
open Go.RowKit
open Go.Lib (trimLeftB trimRightB)

attribute [local go_sem] World.cell?_alloc_some
theorem u8_nat13 {b : Int} (h : (Lit.int .u8 b).wf = true) : ∃ x : Nat, b = (x : Int) ∧ x < 256 := by
  simp [Lit.wf, IntKind.min, IntKind.max, IntKind.signed, IntKind.bits] at h
  exact ⟨b.toNat, by omega, by omega⟩
/-- Two digits. -/
def twoD (z : Nat) : List UInt8 := [UInt8.ofNat (48 + z / 10 % 10), UInt8.ofNat (48 + z % 10)]
theorem twoD_all (z : Nat) : AllD (twoD z) := by
  intro b hb
  unfold twoD at hb
  rcases List.mem_cons.1 hb with rfl | hb
  · rw [byte_of (Nat.mod_lt _ (by decide))]; omega
  · rw [List.mem_singleton.1 hb, byte_of (Nat.mod_lt _ (by decide))]; omega
theorem conv_two (c d : UInt8) (y z : Int) (hc : (c.toNat : Int) = y) (hd : (d.toNat : Int) = z) (w : World) : (convert 50 9 (.slice (some ⟨w.heap.size, 0, none⟩) 2 2)).run Tryd.prog (w.alloc (.cells #[.int .u8 y, .int .u8 z] 5)) = .ok (.string (bs [c, d])) (w.alloc (.cells #[.int .u8 y, .int .u8 z] 5)) := by
  subst hc hd
  exact run_convert_bytes_back (P := Tryd.prog) (w.alloc (.cells #[.int .u8 (c.toNat : Int), .int .u8 (d.toNat : Int)] 5)) 50 9 5 ⟨w.heap.size, 0, none⟩ 2 [c, d] Tryd.underlying50 Tryd.underlying5 Tryd.underlying9 (fun j hj => by
    rw [Lib.add_plain, World.cell?_alloc_new]
    have h2 : j = 0 ∨ j = 1 := by simp at hj; omega
    rcases h2 with rfl | rfl <;> rfl)
theorem trimLeft_nought (l : List UInt8) : trimLeftB (48 :: l) 48 = trimLeftB l 48 := rfl
/-- A way's sign with a number's digits, noughts ahead of them and behind. -/
theorem moved_told (k : Nat) (hk : k < 6) (i j : Nat) (hi : 1 ≤ i) (hij : i ≤ 10) (hj : j ≤ 10) (x z : Nat) (hx : x < 4294967296) :
    okD (sg k ++ (List.replicate i 48 ++ dD x ++ 46 :: (twoD z ++ List.replicate j 48))) = true ∧ cA (sg k ++ (List.replicate i 48 ++ dD x ++ 46 :: (twoD z ++ List.replicate j 48))) = .agg #[.int .i64 ((k + 1 : Nat) : Int), .bool false, .string (bs (dD x)), .string (bs (trimRightB (twoD z) 48))] := by
  have hU : runD (List.replicate i 48 ++ dD x) = true := runD_iff.2 ⟨by rw [List.length_append, List.length_replicate]; omega, by rw [List.length_append, List.length_replicate]; have := dD_len hx; omega, allD_append.2 ⟨allD_zeros i, dD_all x⟩⟩
  have hV : runD (twoD z ++ List.replicate j 48) = true := runD_iff.2 ⟨by rw [List.length_append]; simp [twoD]; omega, by rw [List.length_append, List.length_replicate]; simp [twoD]; omega, allD_append.2 ⟨twoD_all z, allD_zeros j⟩⟩
  obtain ⟨a1, a2, a3, a4⟩ := num_of false _ (some (twoD z ++ List.replicate j 48)) hU (fun q h => by injection h with h; subst h; exact hV)
  have eT : hdD false ++ (List.replicate i 48 ++ dD x ++ tlD (some (twoD z ++ List.replicate j 48))) = List.replicate i 48 ++ dD x ++ 46 :: (twoD z ++ List.replicate j 48) := rfl
  rw [eT] at a1 a2 a3 a4
  generalize List.replicate i 48 ++ dD x ++ 46 :: (twoD z ++ List.replicate j 48) = T at *
  obtain ⟨b1, b2, b3⟩ := op_of k hk T a1
  refine ⟨b3, ?_⟩
  have tl : ∀ i, trimLeftB (List.replicate i 48 ++ dD x) 48 = dD x := by
    intro i
    induction i with
    | zero => rw [List.replicate_zero, List.nil_append]; exact dD_trim x
    | succ i ih => rw [List.replicate_succ, List.cons_append, trimLeft_nought]; exact ih
  have tr : ∀ j, trimRightB (twoD z ++ List.replicate j 48) 48 = trimRightB (twoD z) 48 := by
    intro j
    induction j with
    | zero => rw [List.replicate_zero, List.append_nil]
    | succ j ih => rw [List.replicate_succ', ← List.append_assoc, trimRight_snoc]; exact ih
  rw [cA_yes b3, b1, b2, a2, a3, tl, show ((some (twoD z ++ List.replicate j 48)).getD [] : List UInt8) = twoD z ++ List.replicate j 48 from rfl, tr]
  have hn : nD T = false := by unfold nD; rw [a4]; rfl
  rw [hn]
theorem may_moved (k : Nat) (h1 : 1 ≤ k) (h6 : k ≤ 6) (x z : Nat) (hx : x < 4294967296) : mayD k false (dD x) (trimRightB (twoD z) 48) = true :=
  may_of k _ _ _ h1 h6 (dD_all x) (trimRight_all (twoD_all z)) (Nat.le_trans (dD_len hx) (by omega)) (Nat.le_trans (trimRight_le _) (by simp [twoD])) (dD_trim x) (trimRight_twice _) (fun h => by cases h)
/-- The parts of a law's text, one behind the other. -/
theorem text_one (S X Z : List UInt8) : bs S ++ (⟨#[48]⟩ : ByteArray) ++ bs X ++ ⟨#[46]⟩ ++ bs Z = bs (S ++ (List.replicate 1 48 ++ X ++ 46 :: (Z ++ List.replicate 0 48))) := by
  rw [show (⟨#[48]⟩ : ByteArray) = bs [48] from rfl, show (⟨#[46]⟩ : ByteArray) = bs [46] from rfl]
  simp only [bs_append]
  congr 1
  simp
theorem text_three (S X Z : List UInt8) : bs S ++ (⟨#[48, 48, 48]⟩ : ByteArray) ++ bs X ++ ⟨#[46]⟩ ++ bs Z ++ ⟨#[48, 48]⟩ = bs (S ++ (List.replicate 3 48 ++ X ++ 46 :: (Z ++ List.replicate 2 48))) := by
  rw [show (⟨#[48, 48, 48]⟩ : ByteArray) = bs [48, 48, 48] from rfl, show (⟨#[46]⟩ : ByteArray) = bs [46] from rfl, show (⟨#[48, 48]⟩ : ByteArray) = bs [48, 48] from rfl]
  simp only [bs_append]
  congr 1
  simp
/-- The six signs in a row. -/
def Six (w : World) (h : Nat) : Prop := ∀ j, j < 6 → w.cell? ⟨h, j, none⟩ = some (.string (bs (sg j)))
theorem Six.fr {w w' : World} {h : Nat} (r : Six w h) (k : Fr w w') : Six w' h := fun j hj => fr_cell k (r j hj)
theorem Six.new (w : World) (t : TypeId) : Six (w.alloc (.cells #[.string ⟨#[60]⟩, .string ⟨#[60, 61]⟩, .string ⟨#[62]⟩, .string ⟨#[62, 61]⟩, .string ⟨#[61]⟩, .string ⟨#[60, 62]⟩] t)) w.heap.size := by
  intro i hi
  have hc : i = 0 ∨ i = 1 ∨ i = 2 ∨ i = 3 ∨ i = 4 ∨ i = 5 := by omega
  rcases hc with rfl | rfl | rfl | rfl | rfl | rfl <;> (rw [World.cell?_alloc_new]; rfl)
theorem Six.far {w : World} {h b o : Nat} (r : Six w h) (hne : b ≠ h) (u : Value) : Six (w.setCell ⟨b, o, none⟩ u) h := by
  intro j hj
  rw [World.cell?_setCell_other w _ _ u (fun e => hne (by injection e))]
  exact r j hj
set_option maxHeartbeats 16000000 in
set_option maxRecDepth 4000 in
theorem law_CondMoves (xi zi bi : Int) (w : World) (hxw : (Lit.int .u32 xi).wf = true) (hzw : (Lit.int .u8 zi).wf = true) (hbw : (Lit.int .u64 bi).wf = true) (hL : Led13 w) :
    Calls Tryd.prog 7 #[.int .u32 xi, .int .u8 zi, .int .u64 bi] w fun e w' => e = .returned (.bool true) ∧ Fr w w' := by
  obtain ⟨x, rfl, hx⟩ := u32_nat13 hxw
  obtain ⟨z, rfl, hz⟩ := u8_nat13 hzw
  obtain ⟨b, rfl, hb⟩ := u64_nat13 hbw
  have HLL := hide (fun w' (f : Fr w w') => hL.fr f)
  have HWk := hide (fun w (h : Led13 w) => wakes_any13 w h)
  have BO := hide (fun w => of_any7 b w hb)
  have HV := hide (hV_all (b := b) (fun k h1 h6 => may_moved k h1 h6 x z hx))
  obtain ⟨f, hf⟩ : ∃ f : Nat → Bool, (fun k => hV k false (dD x) (trimRightB (twoD z) 48) b) = f := ⟨_, rfl⟩
  have hf2 : ∀ k, hV k false (dD x) (trimRightB (twoD z) 48) b = f k := fun k => by rw [← hf]
  have HHo := hide (fun (k : Nat) w (h : Led13 w) => (show Calls Tryd.prog 14 #[.agg #[.int .i64 (k : Int), .bool false, .string (bs (dD x)), .string (bs (trimRightB (twoD z) 48))], bval b] w fun e w' => e = .returned (.bool (f k)) ∧ Fr w w' by
    have := holds_any13 (k : Int) false (dD x) (trimRightB (twoD z) 48) b w hb h.1 h.2.1 h.2.2 (by have := dD_len hx; omega) (by have := trimRight_le (twoD z); simp [twoD] at this ⊢; omega)
    rwa [Int.toNat_natCast, hf2] at this))
  have HV := hide (show (1 < bC b ∧ f 1 = false ∧ f 2 = false ∧ f 3 = false ∧ f 4 = false ∧ f 5 = false ∧ f 6 = false) ∨ (bC b ≤ 1 ∧ ((f 1 = true ∧ f 2 = true ∧ f 3 = false ∧ f 4 = false ∧ f 5 = false ∧ f 6 = true) ∨ (f 1 = false ∧ f 2 = true ∧ f 3 = false ∧ f 4 = true ∧ f 5 = true ∧ f 6 = false) ∨ (f 1 = false ∧ f 2 = false ∧ f 3 = true ∧ f 4 = true ∧ f 5 = false ∧ f 6 = true))) by
    have h := HV.out
    simp only [hf2] at h
    exact h)
  have HP1 := hide (fun (k : Nat) (hk : k < 6) w (h : Led13 w) => (show Calls Tryd.prog 8 #[.string (bs (sg k) ++ (⟨#[48]⟩ : ByteArray) ++ bs (dD x) ++ ⟨#[46]⟩ ++ bs (twoD z))] w fun e w' => e = .returned (.tuple #[.agg #[.int .i64 ((k + 1 : Nat) : Int), .bool false, .string (bs (dD x)), .string (bs (trimRightB (twoD z) 48))], .bool true]) ∧ Fr w w' by
    obtain ⟨h1, h2⟩ := moved_told k hk 1 0 (by omega) (by omega) (by omega) x z hx
    rw [text_one]
    have := parse_any13 (sg k ++ (List.replicate 1 48 ++ dD x ++ 46 :: (twoD z ++ List.replicate 0 48))) w h.2.1 h.2.2 (by have := sg_le k; have := dD_len hx; simp [twoD] at *; omega)
    rwa [h1, h2] at this))
  have HP2 := hide (fun (k : Nat) (hk : k < 6) w (h : Led13 w) => (show Calls Tryd.prog 8 #[.string (bs (sg k) ++ (⟨#[48, 48, 48]⟩ : ByteArray) ++ bs (dD x) ++ ⟨#[46]⟩ ++ bs (twoD z) ++ ⟨#[48, 48]⟩)] w fun e w' => e = .returned (.tuple #[.agg #[.int .i64 ((k + 1 : Nat) : Int), .bool false, .string (bs (dD x)), .string (bs (trimRightB (twoD z) 48))], .bool true]) ∧ Fr w w' by
    obtain ⟨h1, h2⟩ := moved_told k hk 3 2 (by omega) (by omega) (by omega) x z hx
    rw [text_three]
    have := parse_any13 (sg k ++ (List.replicate 3 48 ++ dD x ++ 46 :: (twoD z ++ List.replicate 2 48))) w h.2.1 h.2.2 (by have := sg_le k; have := dD_len hx; simp [twoD] at *; omega)
    rwa [h1, h2] at this))
  have zX : (bs (dD x)).size ≤ 11 := by rw [bs_size]; exact dD_len hx
  have zZ : (bs (twoD z)).size = 2 := by rw [bs_size]; rfl
  have hZ2 : bs (twoD z) = bs [UInt8.ofNat (48 + z / 10 % 10), UInt8.ofNat (48 + z % 10)] := rfl
  have hcv2 := conv_two (UInt8.ofNat (48 + z / 10 % 10)) (UInt8.ofNat (48 + z % 10)) (48 + (z : Int) / 10 % 10) (48 + (z : Int) % 10) (by rw [byte_of (Nat.mod_lt _ (by decide))]; omega) (by rw [byte_of (Nat.mod_lt _ (by decide))]; omega)
  rw [← hZ2] at hcv2
  have HCV2 := hide hcv2
  clear hL hxw hzw hbw hf hf2 hZ2 hcv2
  obtain ⟨XB, hXB⟩ : ∃ T, bs (dD x) = T := ⟨_, rfl⟩
  have HXB := hide hXB
  rw [hXB] at HHo HP1 HP2 zX
  generalize bs (twoD z) = ZB at *
  generalize bs (trimRightB (twoD z) 48) = PB at *
  clear hXB
  unfold bval at BO HHo
  generalize bC b = vc at *
  generalize bN b = vn at *
  generalize bM b = vm at *
  generalize bX b = vx at *
  go_enter Tryd.func7, Tryd.ntmps7
  go_upto_block 0 with fail
  go_cut [7] (fun s7 wx => s7 = .string XB ∧ Hid (Fr w wx))
  case first => as_aux_lemma =>
    go_wp2_with fail
    go_loopw [7, 8] (fun sv nv wr => ∃ (u : Nat) (t : ByteArray), u < 4294967296 ∧ t.size ≤ 11 ∧ sv = .string t ∧ nv = .int .u32 u ∧ Hid (bs (dD u) ++ t = XB) ∧ Hid (Fr w wr)) (fun _ nv _ => (intOf nv).toNat)
    case atStart => exact ⟨x, ⟨#[]⟩, hx, by decide, rfl, rfl, hide (by rw [← HXB.out, show (⟨#[]⟩ : ByteArray) = bs [] from rfl, bs_append, List.append_nil]), hide (Fr.refl _)⟩
    case round =>
      obtain ⟨u, t, hu, ht, rfl, rfl, hT, hF⟩ := hrel
      by_cases h0 : u = 0
      · subst h0
        have E1 : Hid (XB = t) := hide (by
          have h := hT.out
          rw [dD_zero] at h
          rw [← h, bs_eta t, bs_append]; rfl)
        clear hT
        go_wp2_with fail
        go_meet
        exact ⟨by rw [E1.out], hF⟩
      · have hu1 : 1 ≤ u := by omega
        have hstep : Hid (bs (dD (u / 10)) ++ (bs [UInt8.ofNat (48 + u % 10)] ++ t) = XB) := hide (by
          rw [← hT.out, dD_step h0, ← bs_append, ByteArray.append_assoc])
        have hcv := conv_byte (UInt8.ofNat (48 + u % 10)) (48 + (u : Int) % 10) (by rw [byte_of (Nat.mod_lt _ (by decide))]; omega)
        obtain ⟨c, hc⟩ : ∃ c, UInt8.ofNat (48 + u % 10) = c := ⟨_, rfl⟩
        rw [hc] at hstep hcv
        have hsz : (bs [c]).size = 1 := bs_size [c]
        have hlen : Hid ((bs [c] ++ t).size ≤ 11) := hide (by
          have h := congrArg ByteArray.size hstep.out
          rw [ByteArray.size_append] at h
          omega)
        clear hT hc h0
        go_wp2_with fail
        go_roundw
        case rel => exact ⟨u / 10, _, by omega, hlen.out, rfl, by go_num, hstep, hide (hF.out.trans (Fr.alloc _ _))⟩
        case measure => simp [intOf]; omega
  case rest => as_aux_lemma =>
    obtain ⟨rfl, F⟩ := hcut
    clear HXB hx
    have hcv2 := HCV2.out
    have iz : (z : Int) < 256 := by omega
    go_wp2_with fail
    refine (BO.out _).mono ?_
    rintro e w6 ⟨rfl, f6⟩
    have F := (F.out.trans (Fr.alloc _ (.cells #[.int .u8 (48 + (z : Int) / 10 % 10), .int .u8 (48 + (z : Int) % 10)] 5))).trans f6
    clear f6 BO hcv2 HCV2
    have F1 := F.trans (Fr.alloc _ (.cells #[.int .i64 (vc : Int), .bool vn, .int .u64 (vm : Int), .int .i64 vx] 42))
    have F2 := F1.trans (Fr.alloc _ (.cells #[.bool false, .bool false, .bool false, .bool false, .bool false, .bool false, .bool false] 51))
    have V := ((Quad.new F (.int .i64 (vc : Int)) (.bool vn) (.int .u64 (vm : Int)) (.int .i64 vx) 42).fr (Fr.alloc _ (.cells #[.bool false, .bool false, .bool false, .bool false, .bool false, .bool false, .bool false] 51))).fr (Fr.alloc _ (.cells #[.string ⟨#[60]⟩, .string ⟨#[60, 61]⟩, .string ⟨#[62]⟩, .string ⟨#[62, 61]⟩, .string ⟨#[61]⟩, .string ⟨#[60, 62]⟩] 9))
    have H : Row7 w (((w6.alloc (Obj.cells #[.int .i64 (vc : Int), .bool vn, .int .u64 (vm : Int), .int .i64 vx] 42)).alloc (Obj.cells #[.bool false, .bool false, .bool false, .bool false, .bool false, .bool false, .bool false] 51)).alloc (Obj.cells #[.string ⟨#[60]⟩, .string ⟨#[60, 61]⟩, .string ⟨#[62]⟩, .string ⟨#[62, 61]⟩, .string ⟨#[61]⟩, .string ⟨#[60, 62]⟩] 9)) (w6.heap.size + 1) (fun _ => false) := by simpa using (Row7.new F1 51).fr (Fr.alloc _ (.cells #[.string ⟨#[60]⟩, .string ⟨#[60, 61]⟩, .string ⟨#[62]⟩, .string ⟨#[62, 61]⟩, .string ⟨#[61]⟩, .string ⟨#[60, 62]⟩] 9))
    have SX : Six (((w6.alloc (Obj.cells #[.int .i64 (vc : Int), .bool vn, .int .u64 (vm : Int), .int .i64 vx] 42)).alloc (Obj.cells #[.bool false, .bool false, .bool false, .bool false, .bool false, .bool false, .bool false] 51)).alloc (Obj.cells #[.string ⟨#[60]⟩, .string ⟨#[60, 61]⟩, .string ⟨#[62]⟩, .string ⟨#[62, 61]⟩, .string ⟨#[61]⟩, .string ⟨#[60, 62]⟩] 9)) (w6.heap.size + 1 + 1) := by simpa using Six.new ((w6.alloc (Obj.cells #[.int .i64 (vc : Int), .bool vn, .int .u64 (vm : Int), .int .i64 vx] 42)).alloc (Obj.cells #[.bool false, .bool false, .bool false, .bool false, .bool false, .bool false, .bool false] 51)) 9
    have F := F2.trans (Fr.alloc _ (.cells #[.string ⟨#[60]⟩, .string ⟨#[60, 61]⟩, .string ⟨#[62]⟩, .string ⟨#[62, 61]⟩, .string ⟨#[61]⟩, .string ⟨#[60, 62]⟩] 9))
    clear F1 F2
    have V := hide V
    have H := hide H
    have SX := hide SX
    have F := hide F
    go_upto_region 9 with fail
    go_step
    refine Go.Great.wpList_buildSliceTo rfl 57 9 6 _ rfl _ rfl _ rfl Tryd.underlying57 #[.string ⟨#[60]⟩, .string ⟨#[60, 61]⟩, .string ⟨#[62]⟩, .string ⟨#[62, 61]⟩, .string ⟨#[61]⟩, .string ⟨#[60, 62]⟩] (by kernel_rfl) ?_
    go_upto_block 2 with fail
    obtain ⟨A2, hA2⟩ : ∃ X, X = ((w6.alloc (Obj.cells #[.int .i64 (vc : Int), .bool vn, .int .u64 (vm : Int), .int .i64 vx] 42)).alloc (Obj.cells #[.bool false, .bool false, .bool false, .bool false, .bool false, .bool false, .bool false] 51)).alloc (Obj.cells #[.string ⟨#[60]⟩, .string ⟨#[60, 61]⟩, .string ⟨#[62]⟩, .string ⟨#[62, 61]⟩, .string ⟨#[61]⟩, .string ⟨#[60, 62]⟩] 9) := ⟨_, rfl⟩
    rw [← hA2] at V F H SX ⊢
    clear hA2
    go_cut [44] (fun s44 wx => Hid (Row7 w wx (w6.heap.size + 1) (fun i => decide (1 ≤ i) && f i)) ∧ Hid (Fr w wx))
    case first => as_aux_lemma =>
      go_wp2_with fail
      go_loopw [44] (fun o wr => ∃ k : Nat, k ≤ 6 ∧ o = .int .i64 k ∧ Hid (Quad w wr w6.heap.size (.int .i64 (vc : Int)) (.bool vn) (.int .u64 (vm : Int)) (.int .i64 vx)) ∧ Hid (Row7 w wr (w6.heap.size + 1) (fun i => decide (1 ≤ i) && decide (i < k + 1) && f i)) ∧ Hid (Six wr (w6.heap.size + 1 + 1)) ∧ Hid (Fr w wr)) (fun o _ => 6 - (intOf o).toNat)
      case atStart => exact ⟨0, by omega, rfl, V, hide (H.out.same (fun i hi => by cases i with | zero => rfl | succ i => simp)), SX, F⟩
      case round =>
        clear V H SX F
        obtain ⟨k, k6, rfl, V, R, SX, F⟩ := hrel
        by_cases hk : k < 6
        · have sk := SX.out k hk
          have zS : (bs (sg k)).size ≤ 2 := by rw [bs_size]; exact sg_le k
          have HP1 := hide (fun w h => HP1.out k hk w h)
          have HP2 := hide (fun w h => HP2.out k hk w h)
          have HHo := hide (fun w h => HHo.out (k + 1) w h)
          obtain ⟨K, hK⟩ : ∃ K : Int, ((k + 1 : Nat) : Int) = K := ⟨_, rfl⟩
          rw [hK] at HP1 HP2 HHo
          clear hK
          have HEQ : ∀ w, (Op.equalIn 10000 24 (.agg #[.int .i64 K, .bool false, .string XB, .string PB]) (.agg #[.int .i64 K, .bool false, .string XB, .string PB])).run Tryd.prog w = .ok true w := fun w => by rw [eqIn_cond]; simp
          have ik0 : (0 : Int) ≤ k := by omega
          have ik6 : (k : Int) < 6 := by omega
          have ik7 : (k : Int) + 1 < 7 := by omega
          have ikt : (k : Int).toNat = k := by omega
          have ikt1 : ((k : Int) + 1).toNat = k + 1 := by omega
          generalize bs (sg k) = SG at sk zS HP1 HP2
          go_wp2_with fail
          refine (HP1.out _ (HLL.out _ F.out)).mono ?_
          rintro e w7 ⟨rfl, f7⟩
          have F := hide (F.out.trans f7)
          have C := hide (Quad.new F.out (.int .i64 K) (.bool false) (.string XB) (.string PB) 24)
          have G7 := hide (f7.trans (Fr.alloc _ (.cells #[.int .i64 K, .bool false, .string XB, .string PB] 24)))
          have F := hide (F.out.trans (Fr.alloc _ (.cells #[.int .i64 K, .bool false, .string XB, .string PB] 24)))
          have V := hide (V.out.fr G7.out)
          have R := hide (R.out.fr G7.out)
          have SX := hide (SX.out.fr G7.out)
          clear f7 G7 sk
          go_wp2_with fail
          refine (HP2.out _ (HLL.out _ F.out)).mono ?_
          rintro e w8 ⟨rfl, f8⟩
          have F := hide (F.out.trans f8)
          have D := hide (Quad.new F.out (.int .i64 K) (.bool false) (.string XB) (.string PB) 24)
          have G8 := hide (f8.trans (Fr.alloc _ (.cells #[.int .i64 K, .bool false, .string XB, .string PB] 24)))
          have F := hide (F.out.trans (Fr.alloc _ (.cells #[.int .i64 K, .bool false, .string XB, .string PB] 24)))
          have C := hide (C.out.fr G8.out)
          have V := hide (V.out.fr G8.out)
          have R := hide (R.out.fr G8.out)
          have SX := hide (SX.out.fr G8.out)
          clear f8 G8
          obtain ⟨W3, hW3⟩ : ∃ X, X = w8.alloc (Obj.cells #[.int .i64 K, .bool false, .string XB, .string PB] 24) := ⟨_, rfl⟩
          rw [← hW3] at F D C V R SX
          have HW3 := hide hW3
          clear hW3
          go_upto_region 14 with fail
          rw [← HW3.out]
          clear HW3
          obtain ⟨c0, c1, c2, c3, _, _⟩ := C.out
          obtain ⟨d0, d1, d2, d3, _, _⟩ := D.out
          obtain ⟨v0, v1, v2, v3, _, _⟩ := V.out
          go_wp2_with fail
          refine (HHo.out _ (HLL.out _ F.out)).mono ?_
          rintro e w9 ⟨rfl, f9⟩
          have V := hide (V.out.fr f9)
          have R := hide (R.out.fr f9)
          have SX := hide (SX.out.fr f9)
          have F := hide (F.out.trans f9)
          clear f9 c0 c1 c2 c3 d0 d1 d2 d3 v0 v1 v2 v3 C D HEQ
          have rk := R.out.1 (k + 1) (by omega)
          have zk := R.out.2.1 (k + 1)
          go_wp2_with fail
          go_roundw
          case rel =>
            exact ⟨k + 1, by omega, by go_num, hide (V.out.far1 (by omega) _), hide ((R.out.set (k + 1) (by omega) (f (k + 1))).same (fun i hi => by
              by_cases e : i = k + 1
              · subst e; rw [if_pos rfl]; simp
              · rw [if_neg e]; congr 2; rw [decide_eq_decide]; omega)), hide (SX.out.far (by omega) _), hide (R.out.fit F.out (k + 1) _)⟩
          case measure => simp [intOf]; omega
        · have : k = 6 := by omega
          subst this
          have R := hide (R.out.same (g := fun i => decide (1 ≤ i) && f i) (fun i hi => by rw [decide_eq_true (show i < 6 + 1 by omega), Bool.and_true]))
          clear HP1 HP2 HHo SX V
          go_wp2_with fail
          go_meet
          exact ⟨R, F⟩
    case rest => as_aux_lemma =>
      clear V SX F H
      obtain ⟨H, F⟩ := hcut
      obtain ⟨A3, hA3⟩ : ∃ V, V = wc := ⟨_, rfl⟩
      rw [← hA3] at H F ⊢
      clear hA3 HP1 HP2 HHo
      have r1 : A3.cell? ⟨w6.heap.size + 1, 1, none⟩ = some (.bool (f 1)) := H.out.1 1 (by omega)
      have r2 : A3.cell? ⟨w6.heap.size + 1, 2, none⟩ = some (.bool (f 2)) := H.out.1 2 (by omega)
      have r3 : A3.cell? ⟨w6.heap.size + 1, 3, none⟩ = some (.bool (f 3)) := H.out.1 3 (by omega)
      have r4 : A3.cell? ⟨w6.heap.size + 1, 4, none⟩ = some (.bool (f 4)) := H.out.1 4 (by omega)
      have r5 : A3.cell? ⟨w6.heap.size + 1, 5, none⟩ = some (.bool (f 5)) := H.out.1 5 (by omega)
      clear H
      have hh : (f 1 = false ∧ f 2 = false ∧ f 3 = false ∧ f 4 = false ∧ f 5 = false) ∨ (f 1 = true ∧ f 2 = true ∧ f 3 = false ∧ f 4 = false ∧ f 5 = false) ∨ (f 1 = false ∧ f 2 = true ∧ f 3 = false ∧ f 4 = true ∧ f 5 = true) ∨ (f 1 = false ∧ f 2 = false ∧ f 3 = true ∧ f 4 = true ∧ f 5 = false) := by
        rcases HV.out with ⟨_, h1, h2, h3, h4, h5, _⟩ | ⟨_, ⟨h1, h2, h3, h4, h5, _⟩ | ⟨h1, h2, h3, h4, h5, _⟩ | ⟨h1, h2, h3, h4, h5, _⟩⟩
        · exact .inl ⟨h1, h2, h3, h4, h5⟩
        · exact .inr (.inl ⟨h1, h2, h3, h4, h5⟩)
        · exact .inr (.inr (.inl ⟨h1, h2, h3, h4, h5⟩))
        · exact .inr (.inr (.inr ⟨h1, h2, h3, h4, h5⟩))
      clear HV
      rcases hh with ⟨h1, h2, h3, h4, h5⟩ | ⟨h1, h2, h3, h4, h5⟩ | ⟨h1, h2, h3, h4, h5⟩ | ⟨h1, h2, h3, h4, h5⟩
      all_goals
        rw [h1] at r1
        rw [h2] at r2
        rw [h3] at r3
        rw [h4] at r4
        rw [h5] at r5
        clear h1 h2 h3 h4 h5
        go_wp2_with fail
        refine (HWk.out _ (HLL.out _ F.out)).mono ?_
        rintro e w9 ⟨rfl, f9⟩
        have r1 := fr_cell f9 r1
        have r2 := fr_cell f9 r2
        have r3 := fr_cell f9 r3
        have r4 := fr_cell f9 r4
        have r5 := fr_cell f9 r5
        have F := hide (F.out.trans f9)
        clear f9
        go_wp2_with fail
        go_ret
        exact ⟨rfl, F.out⟩
end Go.Proofs.YtmaapdmbkhoigaaDoor
