/- The law NatOrder. -/
import Derived.Test.YtgimfepllijkjaaNatI
namespace Go.Proofs.Ytgimfepllijkjaa
set_option linter.unusedVariables false
set_option linter.unusedSimpArgs false
open Go.RowKit
attribute [local go_sem] World.cell?_alloc_some

theorem cmpZ_add (x y z : Nat) : cmpZ (x + z) (y + z) = cmpZ x y := by
  unfold cmpZ
  by_cases h : x < y
  · rw [if_pos h, if_pos (by omega)]
  · rw [if_neg h, if_neg (by omega)]
    by_cases h2 : x = y
    · rw [if_pos h2, if_pos (by omega)]
    · rw [if_neg h2, if_neg (by omega)]
theorem cmpZ_bd (x y : Nat) : -1 ≤ cmpZ x y ∧ cmpZ x y ≤ 1 := by
  unfold cmpZ; split
  · omega
  · split <;> omega
theorem cmpZ_le {x y : Nat} : cmpZ x y ≤ 0 ↔ x ≤ y := by
  unfold cmpZ; split
  · omega
  · split <;> omega
theorem cmpZ_ge {x y : Nat} : 0 ≤ cmpZ x y ↔ y ≤ x := by
  unfold cmpZ; split
  · omega
  · split <;> omega

/-- The cases of the law's test. -/
theorem ord_cases (x y z : Nat) :
    ((cmpZ x y < 0 ∧ cmpZ y z ≤ 0 ∧ cmpZ x z ≤ 0 ∧ nlen 2 x ≤ nlen 2 y) ∨ (cmpZ x y < 0 ∧ 0 < cmpZ y z ∧ nlen 2 x ≤ nlen 2 y)) ∨
    ((cmpZ x y = 0 ∧ cmpZ y z < 0 ∧ cmpZ x z ≤ 0 ∧ nlen 2 x ≤ nlen 2 y) ∨ (cmpZ x y = 0 ∧ cmpZ y z = 0 ∧ cmpZ x z = 0 ∧ nlen 2 x ≤ nlen 2 y) ∨ (cmpZ x y = 0 ∧ 0 < cmpZ y z ∧ 0 ≤ cmpZ x z ∧ nlen 2 x ≤ nlen 2 y)) ∨
    ((cmpZ x y = 1 ∧ 0 ≤ cmpZ y z ∧ 0 ≤ cmpZ x z ∧ nlen 2 x ≤ nlen 2 y) ∨ (cmpZ x y = 1 ∧ cmpZ y z < 0 ∧ nlen 2 x ≤ nlen 2 y) ∨ (cmpZ x y = 1 ∧ 0 ≤ cmpZ y z ∧ 0 ≤ cmpZ x z ∧ nlen 2 y < nlen 2 x) ∨ (cmpZ x y = 1 ∧ cmpZ y z < 0 ∧ nlen 2 y < nlen 2 x)) := by
  have m : x ≤ y → nlen 2 x ≤ nlen 2 y := fun h => nlen_mono (by omega) h
  have b1 := cmpZ_bd x y
  have b2 := cmpZ_bd y z
  have b3 := cmpZ_bd x z
  have l1 := @cmpZ_le x y
  have l2 := @cmpZ_le y z
  have l3 := @cmpZ_le x z
  have g1 := @cmpZ_ge x y
  have g2 := @cmpZ_ge y z
  have g3 := @cmpZ_ge x z
  generalize cmpZ x y = p at *
  generalize cmpZ y z = q at *
  generalize cmpZ x z = r at *
  generalize nlen 2 x = bx at *
  generalize nlen 2 y = bz at *
  have t1 : p ≤ 0 → q ≤ 0 → r ≤ 0 := by omega
  have t2 : 0 ≤ p → 0 ≤ q → 0 ≤ r := by omega
  have t3 : p ≤ 0 → bx ≤ bz := fun h => m (l1.1 h)
  clear l1 l2 l3 g1 g2 g3 m
  rcases Int.lt_trichotomy p 0 with hp | hp | hp
  · refine .inl ?_
    by_cases hq : q ≤ 0
    · exact .inl ⟨hp, hq, t1 (by omega) hq, t3 (by omega)⟩
    · exact .inr ⟨hp, by omega, t3 (by omega)⟩
  · refine .inr (.inl ?_)
    rcases Int.lt_trichotomy q 0 with hq | hq | hq
    · exact .inl ⟨hp, hq, t1 (by omega) (by omega), t3 (by omega)⟩
    · have u1 := t1 (by omega) (by omega)
      have u2 := t2 (by omega) (by omega)
      exact .inr (.inl ⟨hp, hq, by omega, t3 (by omega)⟩)
    · exact .inr (.inr ⟨hp, hq, t2 (by omega) (by omega), t3 (by omega)⟩)
  · refine .inr (.inr ?_)
    have hp1 : p = 1 := by omega
    by_cases hb : bx ≤ bz
    · by_cases hq : 0 ≤ q
      · exact .inl ⟨hp1, hq, t2 (by omega) hq, hb⟩
      · exact .inr (.inl ⟨hp1, by omega, hb⟩)
    · by_cases hq : 0 ≤ q
      · exact .inr (.inr (.inl ⟨hp1, hq, t2 (by omega) hq, by omega⟩))
      · exact .inr (.inr (.inr ⟨hp1, by omega, by omega⟩))

set_option maxHeartbeats 4000000 in
theorem law_NatOrder (a0 : Option Addr) (len0 cap0 : Nat) (z0 : List Int) (a1 : Option Addr) (len1 cap1 : Nat) (z1 : List Int) (a2 : Option Addr) (len2 cap2 : Nat) (z2 : List Int) (w : World) (h0 : IsRow .u32 w a0 len0 cap0 z0) (h1 : IsRow .u32 w a1 len1 cap1 z1) (h2 : IsRow .u32 w a2 len2 cap2 z2) :
    Calls Try.prog 7 #[.slice a0 len0 cap0, .slice a1 len1 cap1, .slice a2 len2 cap2] w fun e w' => e = .returned (.bool true) ∧ Fr w w' := by
  obtain ⟨k0, x, kx, _, lx, _, fewx, madex⟩ := came h0
  obtain ⟨k1, y, ky, _, ly, _, fewy, madey⟩ := came h1
  obtain ⟨k2, z, kz, _, lz, _, fewz, madez⟩ := came h2
  have FX := hide fewx
  have FY := hide fewy
  have FZ := hide fewz
  have MX := hide madex
  have MY := hide madey
  have MZ := hide madez
  have nx := lt30 lx kx
  have ny := lt30 ly ky
  have nz := lt30 lz kz
  clear fewx fewy fewz madex madey madez h0 h1 h2 lx ly lz
  go_enter Try.func7, Try.ntmps7
  go_wp2_with fail
  refine (FX.out _).mono ?_
  rintro e w' ⟨rfl, rfl⟩
  go_wp2_with fail
  refine (MX.out _ (Fr.refl _)).mono ?_
  rintro e w1 ⟨ax, cx, rfl, hx, _, f1⟩
  go_wp2_with fail
  refine (FY.out _).mono ?_
  rintro e w' ⟨rfl, rfl⟩
  go_wp2_with fail
  refine (MY.out _ f1).mono ?_
  rintro e w2 ⟨ay, cy, rfl, hy, _, f2⟩
  go_wp2_with fail
  refine (FZ.out _).mono ?_
  rintro e w' ⟨rfl, rfl⟩
  go_wp2_with fail
  refine (MZ.out _ (f1.trans f2)).mono ?_
  rintro e w3 ⟨az, cz, rfl, hz, _, f3⟩
  have hE : Env w3 [(.agg #[.slice ax (nlen 4294967296 x) cx], x), (.agg #[.slice ay (nlen 4294967296 y) cy], y), (.agg #[.slice az (nlen 4294967296 z) cz], z)] :=
    (((Env.nil _).cons hz (by omega)).cons (hy.fr f3) (by omega)).cons ((hx.fr f2).fr f3) (by omega)
  have F3 := (f1.trans f2).trans f3
  clear FX FY FZ MX MY MZ hx hy hz f1 f2 f3
  have s1 : nlen 4294967296 (x + z) ≤ 1000 := Nat.le_trans (nl_add (by omega) (by omega)) (by omega)
  have s2 : nlen 4294967296 (y + z) ≤ 1000 := Nat.le_trans (nl_add (by omega) (by omega)) (by omega)
  go_wp2_with fail
  obtain ⟨W, hW⟩ : ∃ W, W = ((w3.alloc (Obj.cells #[Value.slice ax (nlen 4294967296 x) cx] 26)).alloc (Obj.cells #[Value.slice ay (nlen 4294967296 y) cy] 26)).alloc (Obj.cells #[Value.slice az (nlen 4294967296 z) cz] 26) := ⟨_, rfl⟩
  have fW : Fr w3 W := by rw [hW]; exact ((Fr.alloc w3 _).trans (Fr.alloc _ _)).trans (Fr.alloc _ _)
  have c7 : W.cell? ⟨w3.heap.size, 0, none⟩ = some (.slice ax (nlen 4294967296 x) cx) := by rw [hW]; simp [go_sem]
  have c8 : W.cell? ⟨w3.heap.size + 1, 0, none⟩ = some (.slice ay (nlen 4294967296 y) cy) := by rw [hW]; simp [go_sem]
  have c9 : W.cell? ⟨w3.heap.size + 1 + 1, 0, none⟩ = some (.slice az (nlen 4294967296 z) cz) := by rw [hW]; simp [go_sem]
  rw [← hW]
  clear hW
  have hE := hide (hE.fr fW)
  have FW := hide (F3.trans fW)
  clear fW F3
  have x7 : ∀ p : FrBox W, p.now.cell? ⟨w3.heap.size, 0, none⟩ = some (.slice ax (nlen 4294967296 x) cx) := fun p => fr_cell p.fr c7
  have x8 : ∀ p : FrBox W, p.now.cell? ⟨w3.heap.size + 1, 0, none⟩ = some (.slice ay (nlen 4294967296 y) cy) := fun p => fr_cell p.fr c8
  have x9 : ∀ p : FrBox W, p.now.cell? ⟨w3.heap.size + 1 + 1, 0, none⟩ = some (.slice az (nlen 4294967296 z) cz) := fun p => fr_cell p.fr c9
  have nb := FrBox.some W
  refine wp_region_fr (by kernel_rfl) (by kernel_rfl) ?_
  repeat (quiet_step (refine Calls.fr_of (cmp_env (hE.out.fr (FrBox.fr _)) (by first | exact .head _ | exact .tail _ (.head _) | exact .tail _ (.tail _ (.head _)) | exact .tail _ (.tail _ (.tail _ (.head _))) | exact .tail _ (.tail _ (.tail _ (.tail _ (.head _)))) | exact .tail _ (.tail _ (.tail _ (.tail _ (.tail _ (.head _))))) | exact .tail _ (.tail _ (.tail _ (.tail _ (.tail _ (.tail _ (.head _)))))) | exact .tail _ (.tail _ (.tail _ (.tail _ (.tail _ (.tail _ (.tail _ (.head _))))))) | exact .tail _ (.tail _ (.tail _ (.tail _ (.tail _ (.tail _ (.tail _ (.tail _ (.head _))))))))) (by first | exact .head _ | exact .tail _ (.head _) | exact .tail _ (.tail _ (.head _)) | exact .tail _ (.tail _ (.tail _ (.head _))) | exact .tail _ (.tail _ (.tail _ (.tail _ (.head _)))) | exact .tail _ (.tail _ (.tail _ (.tail _ (.tail _ (.head _))))) | exact .tail _ (.tail _ (.tail _ (.tail _ (.tail _ (.tail _ (.head _)))))) | exact .tail _ (.tail _ (.tail _ (.tail _ (.tail _ (.tail _ (.tail _ (.head _))))))) | exact .tail _ (.tail _ (.tail _ (.tail _ (.tail _ (.tail _ (.tail _ (.tail _ (.head _))))))))))))
  refine wpQuiet_nil ?_
  intro wq hq
  obtain ⟨p, hp⟩ := hq
  have fq := p.fr
  rw [← hp] at fq
  clear hp x7 x8 x9 nb p
  have c7 := fr_cell fq c7
  have c8 := fr_cell fq c8
  have c9 := fr_cell fq c9
  have hE := hide (hE.out.fr fq)
  have FW := hide (FW.out.trans fq)
  clear fq
  have oc := ord_cases x y z
  have qa := cmpZ_add x y z
  generalize hc1 : cmpZ x y = q1 at *
  generalize hc2 : cmpZ y z = q2 at *
  generalize hc3 : cmpZ x z = q3 at *
  generalize hbx : nlen 2 x = bx at *
  generalize hby : nlen 2 y = bz at *
  have QQ := hide (And.intro hbx hby)
  have QA := hide qa
  have OC := hide oc
  clear hc1 hc2 hc3 hbx hby qa oc
  have bb : Hid (∀ v, v = bx ∨ v = bz → v ≤ 100000) := by
    intro v hv
    have e : (4294967296 : Nat) = 2 ^ 32 := by decide
    have hx := lt_of_nlen (k := 30) b32 nx
    have hy := lt_of_nlen (k := 30) b32 ny
    rw [e, ← Nat.pow_mul] at hx hy
    have ux := nlen_le (B := 2) (by omega) hx
    have uy := nlen_le (B := 2) (by omega) hy
    rw [QQ.out.1] at ux
    rw [QQ.out.2] at uy
    omega
  go_wp2_with fail
  go_cut [63] (fun s63 wx => s63 = .bool false ∧ Hid (Fr wq wx))
  case first =>
    have x7 : ∀ p : FrBox wq, p.now.cell? ⟨w3.heap.size, 0, none⟩ = some (.slice ax (nlen 4294967296 x) cx) := fun p => fr_cell p.fr c7
    have x8 : ∀ p : FrBox wq, p.now.cell? ⟨w3.heap.size + 1, 0, none⟩ = some (.slice ay (nlen 4294967296 y) cy) := fun p => fr_cell p.fr c8
    have nb := FrBox.some wq
    have kx : Hid (∀ p : FrBox wq, Calls Try.prog 14 #[.agg #[.slice ax (nlen 4294967296 x) cx]] p.now fun e w'' => e = .returned (.int .i64 (bx : Int)) ∧ ∃ p : FrBox wq, w'' = p.now) := fun p => by
      have := Calls.fr_of (bits_env (hE.out.fr (FrBox.fr p)) (va := .agg #[.slice ax (nlen 4294967296 x) cx]) (x := x) (by first | exact .head _ | exact .tail _ (.head _) | exact .tail _ (.tail _ (.head _)) | exact .tail _ (.tail _ (.tail _ (.head _))) | exact .tail _ (.tail _ (.tail _ (.tail _ (.head _)))) | exact .tail _ (.tail _ (.tail _ (.tail _ (.tail _ (.head _))))) | exact .tail _ (.tail _ (.tail _ (.tail _ (.tail _ (.tail _ (.head _)))))) | exact .tail _ (.tail _ (.tail _ (.tail _ (.tail _ (.tail _ (.tail _ (.head _))))))) | exact .tail _ (.tail _ (.tail _ (.tail _ (.tail _ (.tail _ (.tail _ (.tail _ (.head _))))))))))
      rwa [QQ.out.1] at this
    have ky : Hid (∀ p : FrBox wq, Calls Try.prog 14 #[.agg #[.slice ay (nlen 4294967296 y) cy]] p.now fun e w'' => e = .returned (.int .i64 (bz : Int)) ∧ ∃ p : FrBox wq, w'' = p.now) := fun p => by
      have := Calls.fr_of (bits_env (hE.out.fr (FrBox.fr p)) (va := .agg #[.slice ay (nlen 4294967296 y) cy]) (x := y) (by first | exact .head _ | exact .tail _ (.head _) | exact .tail _ (.tail _ (.head _)) | exact .tail _ (.tail _ (.tail _ (.head _))) | exact .tail _ (.tail _ (.tail _ (.tail _ (.head _)))) | exact .tail _ (.tail _ (.tail _ (.tail _ (.tail _ (.head _))))) | exact .tail _ (.tail _ (.tail _ (.tail _ (.tail _ (.tail _ (.head _)))))) | exact .tail _ (.tail _ (.tail _ (.tail _ (.tail _ (.tail _ (.tail _ (.head _))))))) | exact .tail _ (.tail _ (.tail _ (.tail _ (.tail _ (.tail _ (.tail _ (.tail _ (.head _))))))))))
      rwa [QQ.out.2] at this
    rcases OC.out with (⟨g1, g2, g3, g4⟩ | ⟨g1, g2, g4⟩) | (⟨g1, g2, g3, g4⟩ | ⟨g1, g2, g3, g4⟩ | ⟨g1, g2, g3, g4⟩) | (⟨g1, g2, g3, g4⟩ | ⟨g1, g2, g4⟩ | ⟨g1, g2, g3, g4⟩ | ⟨g1, g2, g4⟩)
    all_goals (
      (first | have d0 : q1 ≤ 0 := by omega | have d0 : ¬ (q1 ≤ 0) := by omega | skip)
      (first | have d1 : 0 ≤ q1 := by omega | have d1 : ¬ (0 ≤ q1) := by omega | skip)
      (first | have d2 : q2 ≤ 0 := by omega | have d2 : ¬ (q2 ≤ 0) := by omega | skip)
      (first | have d3 : 0 ≤ q2 := by omega | have d3 : ¬ (0 ≤ q2) := by omega | skip)
      (first | have d4 : 0 < q3 := by omega | have d4 : ¬ (0 < q3) := by omega | skip)
      (first | have d5 : q3 < 0 := by omega | have d5 : ¬ (q3 < 0) := by omega | skip)
      (first | have d6 : bz < bx := by omega | have d6 : ¬ (bz < bx) := by omega | skip)
      clear g2 g4
      try clear g3
      first | subst g1 | clear g1
      refine wp_region_fr (by kernel_rfl) (by kernel_rfl) ?_
      repeat (quiet_step (first | with_reducible exact kx.out _ | with_reducible exact ky.out _))
      refine wpQuiet_nil ?_
      intro wt ht
      obtain ⟨p, hp⟩ := ht
      have ft := p.fr
      rw [← hp] at ft
      clear hp x7 x8 nb p kx ky
      go_wp2_with fail
      go_meet
      exact ⟨rfl, ft⟩)
  case rest =>
    obtain ⟨rfl, fc⟩ := hcut
    have c7 := fr_cell fc.out c7
    have c8 := fr_cell fc.out c8
    have c9 := fr_cell fc.out c9
    have hE := hide (hE.out.fr fc.out)
    have FW := hide (FW.out.trans fc.out)
    have hE := hide (hE.out.fr (Fr.drew wc))
    have q0 : Hid (cmpZ x x = 0) := by unfold Hid; simp [cmpZ]
    have T1 := hide s1
    have T2 := hide s2
    clear fc OC bb s1 s2
    go_wp2_with fail
    go_region_held3 (fun w' => w'.cell? ⟨w3.heap.size, 0, none⟩ = some (.slice ax (nlen 4294967296 x) cx) ∧ w'.cell? ⟨w3.heap.size + 1, 0, none⟩ = some (.slice ay (nlen 4294967296 y) cy) ∧ w'.cell? ⟨w3.heap.size + 1 + 1, 0, none⟩ = some (.slice az (nlen 4294967296 z) cz) ∧ Hid (Fr wc w'))
      (first | exact ⟨fr_cell fz.out c7, fr_cell fz.out c8, fr_cell fz.out c9, fz⟩ | exact ⟨c7, c8, c9, Fr.drew _⟩)
      (first
        | (go_at_call 13
           have hh := (by assumption : _ ∧ _ ∧ _ ∧ Hid (Fr wc _))
           refine (wakes_any _).mono ?_
           rintro e wn ⟨rfl, fy⟩
           have hE := hide (hE.out.fr fy); have fz := hide (hh.2.2.2.out.trans fy)
           clear hh fy)
        | (go_at_call 21
           have hh := (by assumption : _ ∧ _ ∧ _ ∧ Hid (Fr wc _))
           refine (cmp_env hE.out (by first | exact .head _ | exact .tail _ (.head _) | exact .tail _ (.tail _ (.head _)) | exact .tail _ (.tail _ (.tail _ (.head _))) | exact .tail _ (.tail _ (.tail _ (.tail _ (.head _)))) | exact .tail _ (.tail _ (.tail _ (.tail _ (.tail _ (.head _))))) | exact .tail _ (.tail _ (.tail _ (.tail _ (.tail _ (.tail _ (.head _)))))) | exact .tail _ (.tail _ (.tail _ (.tail _ (.tail _ (.tail _ (.tail _ (.head _))))))) | exact .tail _ (.tail _ (.tail _ (.tail _ (.tail _ (.tail _ (.tail _ (.tail _ (.head _))))))))) (by first | exact .head _ | exact .tail _ (.head _) | exact .tail _ (.tail _ (.head _)) | exact .tail _ (.tail _ (.tail _ (.head _))) | exact .tail _ (.tail _ (.tail _ (.tail _ (.head _)))) | exact .tail _ (.tail _ (.tail _ (.tail _ (.tail _ (.head _))))) | exact .tail _ (.tail _ (.tail _ (.tail _ (.tail _ (.tail _ (.head _)))))) | exact .tail _ (.tail _ (.tail _ (.tail _ (.tail _ (.tail _ (.tail _ (.head _))))))) | exact .tail _ (.tail _ (.tail _ (.tail _ (.tail _ (.tail _ (.tail _ (.tail _ (.head _)))))))))).mono ?_
           rintro e wn ⟨rfl, fy⟩
           have hE := hide (hE.out.fr fy); (first | rw [QA.out] | rw [q0.out]); have fz := hide (hh.2.2.2.out.trans fy)
           clear hh fy)
        | (go_at_call 22
           have hh := (by assumption : _ ∧ _ ∧ _ ∧ Hid (Fr wc _))
           refine (add_env hE.out (by first | exact .head _ | exact .tail _ (.head _) | exact .tail _ (.tail _ (.head _)) | exact .tail _ (.tail _ (.tail _ (.head _))) | exact .tail _ (.tail _ (.tail _ (.tail _ (.head _)))) | exact .tail _ (.tail _ (.tail _ (.tail _ (.tail _ (.head _))))) | exact .tail _ (.tail _ (.tail _ (.tail _ (.tail _ (.tail _ (.head _)))))) | exact .tail _ (.tail _ (.tail _ (.tail _ (.tail _ (.tail _ (.tail _ (.head _))))))) | exact .tail _ (.tail _ (.tail _ (.tail _ (.tail _ (.tail _ (.tail _ (.tail _ (.head _))))))))) (by first | exact .head _ | exact .tail _ (.head _) | exact .tail _ (.tail _ (.head _)) | exact .tail _ (.tail _ (.tail _ (.head _))) | exact .tail _ (.tail _ (.tail _ (.tail _ (.head _)))) | exact .tail _ (.tail _ (.tail _ (.tail _ (.tail _ (.head _))))) | exact .tail _ (.tail _ (.tail _ (.tail _ (.tail _ (.tail _ (.head _)))))) | exact .tail _ (.tail _ (.tail _ (.tail _ (.tail _ (.tail _ (.tail _ (.head _))))))) | exact .tail _ (.tail _ (.tail _ (.tail _ (.tail _ (.tail _ (.tail _ (.tail _ (.head _))))))))) (by first | exact T1.out | exact T2.out)).mono ?_
           rintro e wn ⟨an, cn, rfl, hE, fy⟩
           have hE := hide hE; have fz := hide (hh.2.2.2.out.trans fy)
           clear hh fy))
    go_wp2_with fail
    go_ret
    exact ⟨rfl, FW.out.trans fz.out⟩
end Go.Proofs.Ytgimfepllijkjaa
