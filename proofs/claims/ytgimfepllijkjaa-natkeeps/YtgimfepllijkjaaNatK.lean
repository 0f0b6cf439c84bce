/- The law NatKeeps. -/
import Derived.Test.YtgimfepllijkjaaNatH
namespace Go.Proofs.Ytgimfepllijkjaa
set_option linter.unusedVariables false
set_option linter.unusedSimpArgs false
open Go.RowKit
attribute [local go_sem] World.cell?_alloc_some

theorem drewN_fr (w : World) (n : Nat) : Fr w (w.drewN n) := ⟨rfl, rfl, rfl, Nat.le_refl _, fun _ _ => rfl⟩
/-- Nothing but block g has changed. -/
def Ex (g : Nat) (w w' : World) : Prop := w'.os = w.os ∧ w'.tape = w.tape ∧ w'.output = w.output ∧ w.heap.size ≤ w'.heap.size ∧ ∀ k, k < w.heap.size → k ≠ g → w'.heap[k]? = w.heap[k]?
theorem Ex.refl (g : Nat) (w : World) : Ex g w w := ⟨rfl, rfl, rfl, Nat.le_refl _, fun _ _ _ => rfl⟩
theorem Ex.set {g : Nat} {w w' : World} (h : Ex g w w') (j : Nat) (v : Value) : Ex g w (w'.setCell ⟨g, j, none⟩ v) := by
  obtain ⟨h1, h2, h3, h4, h5⟩ := h
  refine ⟨h1, h2, h3, by simpa using h4, fun k hk hg => ?_⟩
  rw [Below.heap_setCell w' _ v k hg]
  exact h5 k hk hg
theorem Ex.cell {g : Nat} {w w' : World} (h : Ex g w w') {a : Addr} {v : Value} (hc : w.cell? a = some v) (hne : a.block ≠ g) : w'.cell? a = some v := by
  have := h.2.2.2.2 a.block (cell_lt hc) hne
  unfold World.cell? at *
  rw [this]; exact hc
theorem Ex.fr {g : Nat} {w0 w w' : World} (h : Ex g w w') (f : Fr w0 w) (hg : w0.heap.size ≤ g) : Fr w0 w' :=
  ⟨h.1.trans f.os, h.2.1.trans f.tape, h.2.2.1.trans f.output, Nat.le_trans f.size h.2.2.2.1, fun k hk => (h.2.2.2.2 k (Nat.lt_of_lt_of_le hk f.size) (by omega)).trans (f.block k hk)⟩
theorem Cs.ex {g : Nat} {k : IntKind} {w w' : World} {a : Option Addr} {n : Nat} {f : Nat → Nat} (h : Cs k w a n f) (e : Ex g w w') (hne : ∀ b off s, a = some ⟨b, off, s⟩ → b < w.heap.size → b ≠ g) : Cs k w' a n f := by
  rcases h with h | ⟨b, off, h1, h2, h3⟩
  · exact .inl h
  · exact .inr ⟨b, off, h1, Nat.lt_of_lt_of_le h2 e.2.2.2.1, fun j hj => e.cell (h3 j hj) (hne _ _ _ h1 h2)⟩
theorem IsNat.ex {g : Nat} {w w' : World} {a : Option Addr} {n c x : Nat} (h : IsNat w (.agg #[.slice a n c]) x) (e : Ex g w w') (hne : ∀ b off s, a = some ⟨b, off, s⟩ → b < w.heap.size → b ≠ g) : IsNat w' (.agg #[.slice a n c]) x := by
  obtain ⟨a', c', h1, h2, h3, h4⟩ := h
  simp only [Value.agg.injEq] at h1
  have h1' : a = a' := by injection h1 with h1; injection h1 with h1; injection h1
  exact ⟨a', c', by simp only [Value.agg.injEq]; exact h1, h2, h3, h4.ex e fun b off s q r => hne b off s (h1'.trans q) r⟩

theorem add_none (b off j : Nat) : (⟨b, off, none⟩ : Addr).add j = ⟨b, off + j, none⟩ := by unfold Addr.add; split <;> simp_all

/-- A row of one's own, to be written. -/
def Mine (w : World) (g n : Nat) : Prop := ∀ q, q < n → (∃ z, w.cell? ⟨g, q, none⟩ = some (.int .u32 z)) ∧ w.frozen? ⟨g, q, none⟩ = false
theorem own_mine {w : World} {base n c lo : Nat} {a : Option Addr} {f : Nat → Nat} (h : w.ownsRow base 28 1 (.slice a n c) n (rowOf .u32 n f)) (hlo : w.heap.size ≤ lo) :
    ∃ g, (n = 0 ∨ a = some ⟨g, 0, none⟩) ∧ (base ≤ g ∧ g < w.heap.size ∨ g = lo) ∧ Mine w g n := by
  rcases h.2 with ⟨hv, hn⟩ | ⟨g, cap, cur, hv, hb, hh, _⟩
  · exact ⟨lo, .inl hn, .inr rfl, fun q hq => by omega⟩
  · simp only [Value.slice.injEq] at hv
    obtain ⟨rfl, _, rfl⟩ := hv
    refine ⟨g, .inr rfl, .inl ⟨hb, ?_⟩, fun q hq => ⟨⟨f q, ?_⟩, h.frozenAt q⟩⟩
    · rcases Nat.lt_or_ge g w.heap.size with k | k
      · exact k
      · simp [Array.getElem?_eq_none k] at hh
    · rw [h.cellAt q (by omega)]
      exact rowOf_at hq
theorem Mine.set {w : World} {g n : Nat} (h : Mine w g n) (j : Nat) (hj : j < n) (z : Int) : Mine (w.setCell ⟨g, j, none⟩ (.int .u32 z)) g n := by
  intro q hq
  obtain ⟨⟨y, hy⟩, hf⟩ := h q hq
  obtain ⟨⟨y', hy'⟩, hf'⟩ := h j hj
  refine ⟨?_, ?_⟩
  · by_cases e : q = j
    · subst e; exact ⟨z, World.cell?_setCell_same _ _ _ hy⟩
    · exact ⟨y, (World.cell?_setCell_other w _ _ _ (fun h => e (by injection h with _ h; exact h.symm))).trans hy⟩
  · simpa using hf

theorem Mine.fr {w w' : World} {g n : Nat} (h : Mine w g n) (f : Fr w w') : Mine w' g n := fun q hq => by
  obtain ⟨⟨y, hy⟩, hf⟩ := h q hq
  exact ⟨⟨y, fr_cell f hy⟩, fr_free f hy hf⟩
set_option maxHeartbeats 4000000 in
theorem law_NatKeeps (a0 : Option Addr) (len0 cap0 : Nat) (z0 : List Int) (a1 : Option Addr) (len1 cap1 : Nat) (z1 : List Int) (t : Int) (w : World) (h0 : IsRow .u32 w a0 len0 cap0 z0) (h1 : IsRow .u32 w a1 len1 cap1 z1) (h2 : (Lit.int .u32 t).wf = true) :
    Calls Try.prog 6 #[.slice a0 len0 cap0, .slice a1 len1 cap1, .int .u32 t] w fun e w' => e = .returned (.bool true) ∧ Fr w w' := by
  obtain ⟨t0, t1⟩ := u32_bd h2
  have hn0 : a0 = none → cap0 = 0 := fun e => by
    rcases h0 with ⟨_, _, h, _⟩ | ⟨x, hx, _⟩
    · exact h
    · rw [e] at hx; cases hx
  obtain ⟨k0, x, kx, kc, lx, csx, fewx, _⟩ := came h0
  obtain ⟨k1, y, ky, _, ly, _, fewy, madey⟩ := came h1
  obtain ⟨i0, hi, hz0, hz1, hz2⟩ := info_parts info32
  have FX := hide fewx
  have FY := hide fewy
  have MY := hide madey
  have CSX := hide csx
  have LX := hide lx
  have nx : nlen 4294967296 x ≤ 30 := Nat.le_trans (nlen_le b32 lx) kx
  have ny : nlen 4294967296 y ≤ 30 := Nat.le_trans (nlen_le b32 ly) ky
  clear fewx fewy madey h0 h1 h2 lx ly csx
  go_enter Try.func6, Try.ntmps6
  go_upto_region 1 with fail
  go_cut [0] (fun s0 wx => ∃ al cl, s0 = .slice al k0 cl ∧ Hid (wx.ownsRow w.heap.size 28 1 (.slice al k0 cl) k0 (rowOf .u32 k0 (dg 4294967296 x))) ∧ Hid (Fr w wx))
  case first =>
    rcases a0 with _ | ad
    · obtain rfl := hn0 rfl
      obtain rfl : k0 = 0 := by omega
      go_wp2_with fail
      refine (FX.out _).mono ?_
      rintro e w' ⟨rfl, rfl⟩
      go_wp2_with fail
      go_meet
      exact ⟨none, 0, rfl, World.ownsRow_nil _ _ _ _, Fr.refl _⟩
    · have hcell : Hid (∀ j u, (rowOf .u32 k0 (dg 4294967296 x))[j]? = some u → w.cell? (ad.add j) = some u) := by
        intro j u hu
        obtain ⟨hj, rfl⟩ := rowOf_get hu
        rcases CSX.out with h | ⟨b, off, h, _, hc⟩
        · omega
        · simp only [Option.some.injEq] at h
          subst h
          rw [add_none]
          exact hc j hj
      go_wp2_with fail
      refine (FX.out _).mono ?_
      rintro e w' ⟨rfl, rfl⟩
      go_wp2_with (at_builtin; refine wpList_append_own _ rfl _ _ 22 rfl w'.heap.size 28 i0 (.int .u32 0) 1 4 Try.underlying22 hi hz0 hz1 hz2 rfl (by decide) _ 0 [] rfl ?c0 ad k0 cap0 (rowOf .u32 k0 (dg 4294967296 x)) rfl ?c1 ?c2 ?c3 ?c4 ?c5 ?c6 ?_)
      case c0 => exact World.ownsRow_nil _ _ _ _
      case c1 => rw [rowOf_len]; omega
      case c2 => exact hcell.out
      case c3 =>
        intro u hu
        unfold rowOf at hu
        obtain ⟨j, _, rfl⟩ := List.mem_map.1 hu
        rfl
      case c4 => unfold maxLen; omega
      case c5 => omega
      case c6 => exact Nat.le_refl _
      intro v' w2 hown' hgrow _
      have hF2 : Fr w' w2 := Below.grown (Fr.refl w') hgrow (Nat.le_refl _) (by intro k hk; simp [Value.ownBlock] at hk)
      obtain ⟨al, cl, rfl, _, _, _⟩ := own_form hown'
      have HO := hide hown'
      have HF2 := hide hF2
      clear hgrow hown' hF2
      go_wp2_with fail
      go_meet
      exact ⟨al, cl, rfl, HO, HF2⟩
  case rest =>
    obtain ⟨al, cl, rfl, HO, F0⟩ := hcut
    have hcs := own_cs HO.out
    obtain ⟨_, _, he, hc1, hc2, _⟩ := own_form HO.out
    simp only [Value.slice.injEq] at he
    obtain ⟨rfl, _, rfl⟩ := he
    go_wp2_with fail
    refine (made_any k0 cl al _ x wc (by omega) hcs LX.out (fun j _ => rfl)).mono ?_
    rintro e w1 ⟨aa, ca, rfl, hla, hNa, f1⟩
    unfold natVal at hNa
    unfold natVal
    have hla : ∀ b off s, natA x aa = some ⟨b, off, s⟩ → wc.heap.size ≤ b := fun b off s e => Nat.le_of_lt (hla b off s (natA_some e))
    generalize natA x aa = ax at *
    generalize natC x ca = cx at *
    clear hcs
    go_wp2_with fail
    refine (FY.out _).mono ?_
    rintro e w' ⟨rfl, rfl⟩
    go_wp2_with fail
    refine (MY.out _ (F0.out.trans f1)).mono ?_
    rintro e w2 ⟨ay, cy, rfl, hNb, hlb, f2⟩
    go_wp2_with fail
    have f3 : Fr w2 ((w2.alloc (Obj.cells #[Value.slice ax (nlen 4294967296 x) cx] 26)).alloc (Obj.cells #[Value.slice ay (nlen 4294967296 y) cy] 26)) := (Fr.alloc _ _).trans (Fr.alloc _ _)
    refine (limbs_any _ x _ ((hNa.fr f2).fr f3) (by omega)).mono ?_
    rintro e w4 ⟨v4, rfl, hown4, f4⟩
    obtain ⟨aw, cw, rfl, _, _, hbw⟩ := own_form hown4
    have c7 : w4.cell? ⟨w2.heap.size, 0, none⟩ = some (.slice ax (nlen 4294967296 x) cx) := fr_cell f4 (by simp [go_sem])
    have c8 : w4.cell? ⟨w2.heap.size + 1, 0, none⟩ = some (.slice ay (nlen 4294967296 y) cy) := fr_cell f4 (by simp [go_sem])
    have f34 := f3.trans f4
    have hNa4 := (hNa.fr f2).fr f34
    have hNb4 := hNb.fr f34
    have hw4 := own_cs hown4
    have F4 := ((F0.out.trans f1).trans f2).trans f34
    have z1 := f1.size
    have z2 := f2.size
    have z3 := f34.size
    obtain ⟨gl, hgl, hgl2, hmine⟩ := own_mine HO.out (lo := w4.heap.size) (by omega)
    have hmine4 := hide (((hmine.fr f1).fr f2).fr f34)
    have hz0 := F0.out.size
    have hglw : w.heap.size ≤ gl := by omega
    have hne : ∀ b, wc.heap.size ≤ b → b < w4.heap.size → b ≠ gl := by intro b hb1 hb2; omega
    have HNE := hide hne
    have HW4 := hide hw4
    have HNA := hide hNa4
    have HNB := hide hNb4
    have HLA := hide hla
    have HLB := hide (fun b off s (e : ay = some ⟨b, off, s⟩) => Nat.le_trans z1 (hlb b off s e))
    have hbw' : ∀ b off s, aw = some ⟨b, off, s⟩ → wc.heap.size ≤ b := fun b off s e => by have := (hbw b off s e).1; simp at this; omega
    have HLW := hide hbw'
    have F4' := hide F4
    have C7 := hide c7
    have C8 := hide c8
    clear hne hw4 hNa4 hNb4 hla hlb hbw hbw' F4 hmine hgl2 hown4 f1 f2 f3 f4 f34 hNa hNb HO F0 c7 c8 FX FY MY CSX LX
    go_wp2_with fail
    go_loopw [27] (fun i wr => ∃ j : Nat, j ≤ k0 ∧ i = .int .i64 j ∧ Hid (Ex gl w4 wr) ∧ Hid (Mine wr gl k0)) (fun i _ => k0 - (intOf i).toNat)
    case atStart => exact ⟨0, by omega, rfl, Ex.refl _ _, hmine4⟩
    case round =>
      obtain ⟨j, hj, rfl, hEx, hMi⟩ := hrel
      by_cases c : j < k0
      · obtain ⟨⟨zv, hzv⟩, hzf⟩ := hMi.out j c
        obtain rfl : al = some ⟨gl, 0, none⟩ := by
          rcases hgl with h | h
          · omega
          · exact h
        go_wp2_with fail
        go_roundw
        case rel => exact ⟨j + 1, by omega, by go_num, hEx.out.set _ _, hMi.out.set _ c _⟩
        case measure => simp [intOf]; omega
      · have e : j = k0 := by omega
        subst e
        have c7 := hEx.out.cell C7.out (HNE.out w2.heap.size (by omega) (cell_lt C7.out))
        have c8 := hEx.out.cell C8.out (HNE.out (w2.heap.size + 1) (by omega) (cell_lt C8.out))
        have NA := hide (IsNat.ex HNA.out hEx.out fun b off s q r => HNE.out b (HLA.out b off s q) r)
        have NB := hide (IsNat.ex HNB.out hEx.out fun b off s q r => HNE.out b (HLB.out b off s q) r)
        have WT := hide (Cs.ex HW4.out hEx.out fun b off s q r => HNE.out b (HLW.out b off s q) r)
        have FR := hide (hEx.out.fr F4'.out hglw)
        clear hEx hMi hmine4 HNA HNB HW4 HLA HLB HLW HNE F4' C7 C8 hgl hglw
        generalize wr = w5 at *
        go_wp2_with fail
        refine (limbs_any _ x _ NA.out (by omega)).mono ?_
        rintro e w6 ⟨v6, rfl, hown6, f6⟩
        obtain ⟨at6, ct6, rfl, _, _, _⟩ := own_form hown6
        obtain ⟨gt, hgt, hgt2, hmine6⟩ := own_mine hown6 (lo := w6.heap.size) (Nat.le_refl _)
        have hz6 := f6.size
        have hgtw : w5.heap.size ≤ gt := by omega
        have M6 := hide hmine6
        have f6' := hide f6
        clear hown6 hmine6 hgt2 f6
        go_wp2_with fail
        go_loopw [42] (fun i wr => ∃ j : Nat, j ≤ nlen 4294967296 x ∧ i = .int .i64 j ∧ Hid (Fr w5 wr) ∧ Hid (Mine wr gt (nlen 4294967296 x))) (fun i _ => nlen 4294967296 x - (intOf i).toNat)
        case atStart => exact ⟨0, by omega, rfl, f6', M6⟩
        case round =>
          obtain ⟨q, hq, rfl, hFq, hMi⟩ := hrel
          by_cases c2 : q < nlen 4294967296 x
          · obtain ⟨⟨zv, hzv⟩, hzf⟩ := hMi.out q c2
            obtain rfl : at6 = some ⟨gt, 0, none⟩ := by
              rcases hgt with h | h
              · omega
              · exact h
            go_wp2_with fail
            go_roundw
            case rel => exact ⟨q + 1, by omega, by go_num, Below.setCell hFq.out (by simp; omega) _, hMi.out.set _ c2 _⟩
            case measure => simp [intOf]; omega
          · have c7 := fr_cell hFq.out c7
            have c8 := fr_cell hFq.out c8
            have NA := hide (NA.out.fr hFq.out)
            have NB := hide (NB.out.fr hFq.out)
            have WT := hide (WT.out.fr hFq.out)
            have FR := hide (FR.out.trans hFq.out)
            clear hFq hMi M6 f6' hgt hgtw hz6
            generalize wr = w7 at *
            go_wp2_with fail
            refine (add_any _ _ x y _ NA.out NB.out (by omega) (by omega)).mono ?_
            rintro e w8 ⟨a8, c8', rfl, _, _, f8⟩
            have c7 := fr_cell f8 c7
            have c8 := fr_cell f8 c8
            have NA := hide (NA.out.fr f8)
            have NB := hide (NB.out.fr f8)
            have WT := hide (WT.out.fr f8)
            have FR := hide (FR.out.trans f8)
            clear f8
            go_wp2_with fail
            refine (sub_any _ _ x y _ NA.out NB.out (by omega) (by omega)).mono ?_
            rintro e w9 ⟨a9, c9', rfl, _, _, f9⟩
            have c7 := fr_cell f9 c7
            have c8 := fr_cell f9 c8
            have NA := hide (NA.out.fr f9)
            have NB := hide (NB.out.fr f9)
            have WT := hide (WT.out.fr f9)
            have FR := hide (FR.out.trans f9)
            clear f9
            go_wp2_with fail
            refine (cmp_any _ _ x y _ NA.out NB.out (by omega) (by omega)).mono ?_
            rintro e w10 ⟨rfl, f10⟩
            have c7 := fr_cell f10 c7
            have NA := hide (NA.out.fr f10)
            have WT := hide (WT.out.fr f10)
            have FR := hide (FR.out.trans f10)
            clear f10
            go_wp2_with fail
            refine (limbs_any _ x _ NA.out (by omega)).mono ?_
            rintro e w11 ⟨v11, rfl, hown11, f11⟩
            obtain ⟨ag, cg, rfl, _, _, _⟩ := own_form hown11
            have hg11 := own_cs hown11
            go_wp2_with fail
            refine (wakes_any _).mono ?_
            rintro e w12 ⟨rfl, f12⟩
            have GT := hide (hg11.fr f12)
            have WT := hide ((WT.out.fr f11).fr f12)
            have FR := hide ((FR.out.trans f11).trans f12)
            clear hg11 hown11 f11 f12 c7 c8 NA NB
            go_wp2_with fail
            go_loopw [75] (fun i wr => ∃ (j q : Nat), j ≤ nlen 4294967296 x ∧ i = .int .i64 j ∧ wr = w12.drewN q) (fun i _ => nlen 4294967296 x - (intOf i).toNat)
            case atStart => exact ⟨0, 0, by omega, rfl, rfl⟩
            case round =>
              obtain ⟨j, q, hj, rfl, rfl⟩ := hrel
              by_cases c3 : j < nlen 4294967296 x
              · rcases GT.out with h | ⟨g1, o1, rfl, _, hc1⟩
                · omega
                · rcases WT.out with h | ⟨g2, o2, rfl, _, hc2⟩
                  · omega
                  · have x1 := hc1 j c3
                    have x2 := hc2 j c3
                    clear hc1 hc2
                    generalize dg 4294967296 x j = d at *
                    go_wp2_with fail
                    go_quiet (fail)
                    go_wp2_with fail
                    go_roundw
                    case rel => exact ⟨j + 1, _, by omega, by go_num, rfl⟩
                    case measure => simp [intOf]; omega
              · go_wp2_with fail
                go_ret
                exact ⟨rfl, FR.out.trans (drewN_fr _ _)⟩
end Go.Proofs.Ytgimfepllijkjaa
