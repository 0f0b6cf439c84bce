/- numerarylaw13: of, wakes; what the laws read. -/
import Derived.Test.YtmaapdmbkhoigaaDoorCondJ
import Derived.Test.YtmaapdmbkhoigaaDoorCondH
import Derived.BigQuiet
import Derived.Laws.StructEq
namespace Go.Proofs.YtmaapdmbkhoigaaDoor
set_option linter.unusedVariables false
set_option linter.unusedSimpArgs false
open Go.RowKit

attribute [local go_sem] World.cell?_alloc_some
/-- All that layer 13 reads. -/
def Led13 (w : World) : Prop := Tab w ∧ Sgn w ∧ MaxOk w
theorem Led13.fr {w w' : World} (h : Led13 w) (f : Fr w w') : Led13 w' := ⟨h.1.fr f, h.2.1.fr f, h.2.2.fr f⟩

theorem results_cond1 {fn : Func} {p : Tmp} (h : fn.results = #[.cell p 28]) (tmps : Array Value) {W0 w : World} {b : Nat} {v0 v1 v2 v3 : Value} (hq : Quad W0 w b v0 v1 v2 v3) (hp : tmps.getD p undef = .pointer (some ⟨b, 0, none⟩)) :
    (results fn tmps).run Tryd.prog w = .ok (.agg #[v0, v1, v2, v3]) w := by
  obtain ⟨h0, h1, h2, h3, _, _⟩ := hq
  have hp' : tmps[p]?.getD undef = .pointer (some ⟨b, 0, none⟩) := by simpa using hp
  simp [results, h, hp']
  go_simp

set_option maxHeartbeats 1000000 in
set_option maxRecDepth 4000 in
theorem ofc_any13 (op : Int) (n : Bool) (W P : ByteArray) (w : World) :
    Calls Tryd.prog 10 #[.agg #[.int .i64 op, .bool n, .string W, .string P]] w fun e w' => e = .returned (.agg #[.int .i64 op, .bool n, .string W, .string P]) ∧ Fr w w' := by
  go_enter Tryd.func10, Tryd.ntmps10
  go_upto_region 1 with fail
  obtain ⟨W1, hW1⟩ : ∃ V, V = (w.alloc (Obj.cells #[.int .i64 op, .bool n, .string W, .string P] 24)).alloc (Obj.cells #[.int .i64 0, .bool false, .string ⟨#[]⟩, .string ⟨#[]⟩] 28) := ⟨_, rfl⟩
  have f1 := Fr.alloc w (.cells #[.int .i64 op, .bool n, .string W, .string P] 24)
  have Q := (Quad.new (Fr.refl w) (.int .i64 op) (.bool n) (.string W) (.string P) 24).fr (Fr.alloc _ (.cells #[.int .i64 0, .bool false, .string ⟨#[]⟩, .string ⟨#[]⟩] 28))
  have R : Quad w ((w.alloc (Obj.cells #[.int .i64 op, .bool n, .string W, .string P] 24)).alloc (Obj.cells #[.int .i64 0, .bool false, .string ⟨#[]⟩, .string ⟨#[]⟩] 28)) (w.heap.size + 1) (.int .i64 0) (.bool false) (.string ⟨#[]⟩) (.string ⟨#[]⟩) := by
    simpa using Quad.new f1 (.int .i64 0) (.bool false) (.string ⟨#[]⟩) (.string ⟨#[]⟩) 28
  have F := f1.trans (Fr.alloc _ (.cells #[.int .i64 0, .bool false, .string ⟨#[]⟩, .string ⟨#[]⟩] 28))
  rw [← hW1] at Q R F ⊢
  clear hW1 f1
  have hR := hide R
  have hF := hide F
  obtain ⟨q0, q1, q2, q3, _, _⟩ := Q
  obtain ⟨r0, r1, r2, r3, z, _⟩ := R
  have z0 := z 0
  have z1 := z 1
  have z2 := z 2
  have z3 := z 3
  have S := hide (hR.out.set (.int .i64 op) (.bool n) (.string W) (.string P))
  have FS := hide (hR.out.set_fr hF.out (.int .i64 op) (.bool n) (.string W) (.string P))
  clear z F
  repeat (first | go_values | go_skip | go_guarded | go_step)
  exact bodyPost_ret (results_cond1 rfl _ S.out rfl) rfl ⟨rfl, FS.out⟩

set_option maxHeartbeats 4000000 in
set_option maxRecDepth 4000 in
theorem wakes_any13 (w : World) (hL : Led13 w) :
    Calls Tryd.prog 12 #[] w fun e w' => e = .returned (.bool true) ∧ Fr w w' := by
  have HL := hide (fun w' (f : Fr w w') => hL.fr f)
  have P1 := hide (fun w (h : Led13 w) => (show Calls Tryd.prog 8 #[.string ⟨#[60, 45, 48, 46, 53, 48]⟩] w fun e w' => e = .returned (.tuple #[.agg #[.int .i64 1, .bool true, .string ⟨#[]⟩, .string ⟨#[53]⟩], .bool true]) ∧ Fr w w' by
    have h := parse_any13 [60, 45, 48, 46, 53, 48] w h.2.1 h.2.2 (by decide)
    have e1 : okD [60, 45, 48, 46, 53, 48] = true := by decide +kernel
    have e2 : opD [60, 45, 48, 46, 53, 48] = 1 := by decide +kernel
    have e3 : nD (reD [60, 45, 48, 46, 53, 48]) = true := by decide +kernel
    have e4 : wD (reD [60, 45, 48, 46, 53, 48]) = [] := by decide +kernel
    have e5 : pD (reD [60, 45, 48, 46, 53, 48]) = [53] := by decide +kernel
    rw [cA_yes e1, e1, e2, e3, e4, e5] at h
    exact h))
  have P2 := hide (fun w (h : Led13 w) => (show Calls Tryd.prog 8 #[.string ⟨#[61, 60, 49]⟩] w fun e w' => e = .returned (.tuple #[.agg #[.int .i64 0, .bool false, .string ⟨#[]⟩, .string ⟨#[]⟩], .bool false]) ∧ Fr w w' by
    have h := parse_any13 [61, 60, 49] w h.2.1 h.2.2 (by decide)
    have e1 : okD [61, 60, 49] = false := by decide +kernel
    rw [cA_no e1, e1] at h
    exact h))
  have T1 := hide (fun w (h : Led13 w) => (show Calls Tryd.prog 11 #[.agg #[.int .i64 1, .bool true, .string ⟨#[]⟩, .string ⟨#[53]⟩]] w fun e w' => e = .returned (.tuple #[.string ⟨#[60, 45, 48, 46, 53]⟩, .bool true]) ∧ Fr w w' by
    have h := text_gen13 1 true [] [53] w h.2.1 h.2.2 (by decide) (by decide)
    have e1 : mayD (1 : Int).toNat true [] [53] = true := by decide +kernel
    rw [e1, if_pos rfl] at h
    exact h))
  have H1 := hide (fun w (h : Led13 w) => (show Calls Tryd.prog 14 #[.agg #[.int .i64 1, .bool true, .string ⟨#[]⟩, .string ⟨#[53]⟩], bval 13830554455654793216] w fun e w' => e = .returned (.bool true) ∧ Fr w w' by
    have h := holds_any13 1 true [] [53] 13830554455654793216 w (by omega) h.1 h.2.1 h.2.2 (by decide) (by decide)
    have e1 : hV (1 : Int).toNat true [] [53] 13830554455654793216 = true := by decide +kernel
    rw [e1] at h
    exact h))
  have H2 := hide (fun w (h : Led13 w) => (show Calls Tryd.prog 14 #[.agg #[.int .i64 1, .bool true, .string ⟨#[]⟩, .string ⟨#[53]⟩], bval 13826050856027422720] w fun e w' => e = .returned (.bool false) ∧ Fr w w' by
    have h := holds_any13 1 true [] [53] 13826050856027422720 w (by omega) h.1 h.2.1 h.2.2 (by decide) (by decide)
    have e1 : hV (1 : Int).toNat true [] [53] 13826050856027422720 = false := by decide +kernel
    rw [e1] at h
    exact h))
  have B1 := hide (fun w => (show Calls Tryd.prog 15 #[.int .u64 13830554455654793216] w fun e w' => e = .returned (bval 13830554455654793216) ∧ Fr w w' by
    have h := of_any7 13830554455654793216 w (by omega)
    exact h))
  have B2 := hide (fun w => (show Calls Tryd.prog 15 #[.int .u64 13826050856027422720] w fun e w' => e = .returned (bval 13826050856027422720) ∧ Fr w w' by
    have h := of_any7 13826050856027422720 w (by omega)
    exact h))
  generalize bval 13830554455654793216 = v1 at *
  generalize bval 13826050856027422720 = v2 at *
  clear hL
  go_enter Tryd.func12, Tryd.ntmps12
  go_wp2_with fail
  refine (P1.out _ (HL.out _ (Fr.refl _))).mono ?_
  rintro e w1 ⟨rfl, f1⟩
  have C1 := hide (Quad.new f1 (.int .i64 1) (.bool true) (.string ⟨#[]⟩) (.string ⟨#[53]⟩) 24)
  have F := hide (f1.trans (Fr.alloc _ (.cells #[.int .i64 1, .bool true, .string ⟨#[]⟩, .string ⟨#[53]⟩] 24)))
  clear f1 P1
  go_wp2_with fail
  refine (T1.out _ (HL.out _ F.out)).mono ?_
  rintro e w2 ⟨rfl, f2⟩
  have C1 := hide (C1.out.fr f2)
  have F := hide (F.out.trans f2)
  clear f2 T1
  go_wp2_with fail
  refine (P2.out _ (HL.out _ F.out)).mono ?_
  rintro e w3 ⟨rfl, f3⟩
  have C1 := hide (C1.out.fr (f3.trans (Fr.alloc _ (.cells #[.int .i64 0, .bool false, .string ⟨#[]⟩, .string ⟨#[]⟩] 24))))
  have F := hide (F.out.trans (f3.trans (Fr.alloc _ (.cells #[.int .i64 0, .bool false, .string ⟨#[]⟩, .string ⟨#[]⟩] 24))))
  clear f3 P2
  go_wp2_with fail
  obtain ⟨W3, hW3⟩ : ∃ W3, W3 = w3.alloc (Obj.cells #[.int .i64 0, .bool false, .string ⟨#[]⟩, .string ⟨#[]⟩] 24) := ⟨_, rfl⟩
  rw [← hW3] at C1 F ⊢
  clear hW3
  have b0 := fun p : FrBox W3 => (C1.out.fr p.fr).1
  have b1 := fun p : FrBox W3 => (C1.out.fr p.fr).2.1
  have b2 := fun p : FrBox W3 => (C1.out.fr p.fr).2.2.1
  have b3 := fun p : FrBox W3 => (C1.out.fr p.fr).2.2.2.1
  have k1 := hide (fun p : FrBox W3 => Calls.fr_of (B1.out p.now))
  have k2 := hide (fun p : FrBox W3 => Calls.fr_of (B2.out p.now))
  have k3 := hide (fun p : FrBox W3 => Calls.fr_of (H1.out p.now (HL.out _ (F.out.trans p.fr))))
  have k4 := hide (fun p : FrBox W3 => Calls.fr_of (H2.out p.now (HL.out _ (F.out.trans p.fr))))
  have nb := FrBox.some W3
  refine wp_region_fr (by kernel_rfl) (by kernel_rfl) ?_
  repeat (quiet_step (first | with_reducible exact k1.out _ | with_reducible exact k2.out _ | with_reducible exact k3.out _ | with_reducible exact k4.out _))
  refine wpQuiet_nil ?_
  intro wq hq
  obtain ⟨p, hp⟩ := hq
  have fq := p.fr
  rw [← hp] at fq
  clear hp b0 b1 b2 b3 k1 k2 k3 k4 nb p
  go_wp2_with fail
  go_ret
  exact ⟨rfl, F.out.trans fq⟩
end Go.Proofs.YtmaapdmbkhoigaaDoor
