/- From the listed variables' data to the cells that layer 12 reads. -/
import Derived.Test.YtiemiekkjaknfaaDoorColS
import Derived.Test.YtiemiekkjaknfaaDoorTokL
import Derived.Lib.LaidU8
import Derived.PinnedBridge
namespace Go.Proofs.YtiemiekkjaknfaaDoor
set_option linter.unusedVariables false
set_option linter.unusedSimpArgs false
open Go.RowKit Go.Lib

/-- The i-th pair of the library's table of orbits, as the row lists it. -/
def orbAt (D : DataW Unit) (i : Nat) : Option (DataW Unit) := match D with
  | .slice e _ => e[i]?
  | _ => none
def orbLen (D : DataW Unit) : Nat := match D with
  | .slice e r => e.length + 1000 * r.length
  | _ => 0
def pairD (a b : Int) : DataW Unit := .agg ([a, b].map fun z => .lit (.int .u16 z))

set_option maxRecDepth 100000 in
theorem orb_of_reads {W : World} (D : DataW Unit) (hlen0 : orbLen D = 94) (o0 : orbAt D 0 = some (pairD 75 107)) (h : VarReads Tryd.prog W "unicode.caseOrbit" D) :
    ∃ B O, W.cell? ⟨4, 0, none⟩ = some (.slice (some ⟨B, O, none⟩) 94 94) ∧ ∀ i a b, i < 94 → orbAt D i = some (pairD a b) → W.cell? ⟨B, O + 2 * i, none⟩ = some (.int .u16 a) ∧ W.cell? ⟨B, O + (2 * i + 1), none⟩ = some (.int .u16 b) := by
  obtain ⟨g, t, cs, fuel, p, hg, hty, hvar, hd⟩ := h
  obtain rfl := Option.some.inj ((show Tryd.prog.globalNamed "unicode.caseOrbit" = some 4 by kernel_rfl).symm.trans hg)
  obtain rfl := Option.some.inj ((show (Tryd.prog.globals[4]?).map (·.type) = some 102 by kernel_rfl).symm.trans hty)
  have hc2 : Tryd.prog.cellsOf 104 = 2 := by kernel_rfl
  have hc1 : Tryd.prog.cellsOf 100 = 1 := by kernel_rfl
  rcases DataW.trod_slice Tryd.underlying102 hd with ⟨_, hx⟩ | ⟨a', len, cap, el, rs, m, rfl, hc0, hx, _, hlc, _, hel, helem, hsp, _⟩
  · have h2 : D = .nil := congrArg Prod.fst hx
    rw [h2] at hlen0
    cases hlen0
  have e : D = .slice (el.map (·.1)) (rs.map (·.1)) := congrArg Prod.fst hx
  have h1 := hlen0
  rw [e] at h1
  simp only [orbLen, List.length_map] at h1
  have hr0 : rs.length = 0 := by omega
  have hlen : len = 94 := by omega
  have hrs : rs = [] := List.length_eq_zero_iff.1 hr0
  have hcap : cap = 94 := by
    have := (hsp rfl).1
    rw [hrs] at this
    simp at this
    omega
  subst hlen; subst hcap
  have hAt : ∀ i, orbAt D i = (el[i]?).map (·.1) := by
    intro i
    rw [e]
    simp [orbAt]
  have hrange : ∀ i a b, i < 94 → orbAt D i = some (pairD a b) → ∀ j, j < 2 → W.cell? ((a'.add (i * 2)).add j) = some (.int .u16 ([a, b].getD j 0)) := by
    intro i a b hi hab j hj
    have h1 := helem i hi
    rw [hc2] at h1
    obtain ⟨y, hy⟩ : ∃ y, el[i]? = some y := ⟨el[i]'(by omega), List.getElem?_eq_getElem (by omega)⟩
    rw [hy] at h1
    obtain ⟨ce, hce, hte⟩ := Option.bind_eq_some_iff.1 h1
    have hb1 : y.1 = pairD a b := by
      have := hAt i
      rw [hab, hy] at this
      injection this with this
      exact this.symm
    have hcs := ints_of_struct (zs := [a, b]) (p := y.2) Tryd.underlying104 (fun q f hq => by
      match q, hq with
      | 0, hq => simp at hq; subst hq; exact ⟨Tryd.underlying100, rfl, hc1⟩
      | 1, hq => simp at hq; subst hq; exact ⟨Tryd.underlying100, rfl, hc1⟩
      | q + 2, hq => simp at hq) (by rw [hc2]; rfl) (by
        have : (DataW.agg ([a, b].map fun z => .lit (.int .u16 z)) : DataW Unit) = y.1 := hb1.symm
        rw [this]
        exact hte)
    obtain ⟨_, _, hcc⟩ := World.cells?_some hce
    rw [hcc j hj, hcs]
    match j, hj with
    | 0, _ => rfl
    | 1, _ => rfl
  obtain ⟨R, oR, sR⟩ := a'
  obtain rfl : sR = none := by
    have h00 := hrange 0 75 107 (by omega) o0 0 (by omega)
    have : (Addr.add (Addr.add ⟨R, oR, sR⟩ (0 * 2)) 0) = ⟨R, oR, sR⟩ := by simp [Addr.add]
    rw [this] at h00
    exact cell_spot h00
  refine ⟨R, oR, ?_, fun i a b hi hab => ?_⟩
  · rw [World.var?_cell hg hvar 0, ← Array.getElem?_toList, hc0]
    rfl
  · have h0 := hrange i a b hi hab 0 (by omega)
    have h1 := hrange i a b hi hab 1 (by omega)
    have ea : ∀ (B O k : Nat), Addr.add ⟨B, O, none⟩ k = ⟨B, O + k, none⟩ := fun B O k => by
      unfold Addr.add
      split <;> simp_all
    have e0 : (Addr.add (Addr.add ⟨R, oR, none⟩ (i * 2)) 0) = ⟨R, oR + 2 * i, none⟩ := by rw [ea, ea]; congr 1; omega
    have e1 : (Addr.add (Addr.add ⟨R, oR, none⟩ (i * 2)) 1) = ⟨R, oR + (2 * i + 1), none⟩ := by rw [ea, ea]; congr 1; omega
    rw [e0] at h0
    rw [e1] at h1
    exact ⟨h0, h1⟩

def afL : List Int := (List.range 128).map fun j => af j
theorem fold_of_reads {W : World} (ha : VarReads Tryd.prog W "unicode.asciiFold" Rows.laid_unicode_asciiFold) (ho : VarReads Tryd.prog W "unicode.caseOrbit" Rows.laid_unicode_caseOrbit) : Folds W := by
  refine ⟨fun j hj => ?_, ?_⟩
  · obtain ⟨g, t, cs, fuel, p, hg, hty, hvar, hd⟩ := ha
    obtain rfl := Option.some.inj ((show Tryd.prog.globalNamed "unicode.asciiFold" = some 3 by kernel_rfl).symm.trans hg)
    obtain rfl := Option.some.inj ((show (Tryd.prog.globals[3]?).map (·.type) = some 101 by kernel_rfl).symm.trans hty)
    have hcs := cells_of_tab (zs := afL) (k := .u16) Tryd.underlying101 Tryd.underlying100 (by kernel_rfl) (by kernel_rfl) (by
      rw [show (tabData .u16 afL : DataW Unit) = Rows.laid_unicode_asciiFold by kernel_rfl]
      exact hd)
    rw [World.var?_cell hg hvar j, ← Array.getElem?_toList, hcs]
    simp [afL, hj]
  · obtain ⟨B, O, h0, hp⟩ := orb_of_reads Rows.laid_unicode_caseOrbit (by kernel_rfl) (by kernel_rfl) ho
    have p47 := hp 47 966 _ (by decide) (show orbAt Rows.laid_unicode_caseOrbit 47 = some (pairD 966 981) by kernel_rfl)
    have p71 := hp 71 7296 _ (by decide) (show orbAt Rows.laid_unicode_caseOrbit 71 = some (pairD 7296 1042) by kernel_rfl)
    have p83 := hp 83 7838 _ (by decide) (show orbAt Rows.laid_unicode_caseOrbit 83 = some (pairD 7838 223) by kernel_rfl)
    have p89 := hp 89 8491 _ (by decide) (show orbAt Rows.laid_unicode_caseOrbit 89 = some (pairD 8491 197) by kernel_rfl)
    have p86 := hp 86 8163 _ (by decide) (show orbAt Rows.laid_unicode_caseOrbit 86 = some (pairD 8163 944) by kernel_rfl)
    have p88 := hp 88 8490 _ (by decide) (show orbAt Rows.laid_unicode_caseOrbit 88 = some (pairD 8490 75) by kernel_rfl)
    have p87 := hp 87 8486 _ (by decide) (show orbAt Rows.laid_unicode_caseOrbit 87 = some (pairD 8486 937) by kernel_rfl)
    have p23 := hp 23 837 _ (by decide) (show orbAt Rows.laid_unicode_caseOrbit 23 = some (pairD 837 921) by kernel_rfl)
    have p11 := hp 11 452 _ (by decide) (show orbAt Rows.laid_unicode_caseOrbit 11 = some (pairD 452 453) by kernel_rfl)
    have p5 := hp 5 197 _ (by decide) (show orbAt Rows.laid_unicode_caseOrbit 5 = some (pairD 197 229) by kernel_rfl)
    have p8 := hp 8 304 _ (by decide) (show orbAt Rows.laid_unicode_caseOrbit 8 = some (pairD 304 304) by kernel_rfl)
    have p10 := hp 10 383 _ (by decide) (show orbAt Rows.laid_unicode_caseOrbit 10 = some (pairD 383 83) by kernel_rfl)
    have p9 := hp 9 305 _ (by decide) (show orbAt Rows.laid_unicode_caseOrbit 9 = some (pairD 305 305) by kernel_rfl)
    exact ⟨B, O, h0, p47.1, p71.1, p83.1, p89.1, p86.1, p88.1, p87.1, p88.2, p23.1, p11.1, p5.1, p8.1, p10.1, p9.1, p10.2⟩
end Go.Proofs.YtiemiekkjaknfaaDoor
