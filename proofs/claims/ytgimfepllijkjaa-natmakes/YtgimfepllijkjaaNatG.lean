/- The law's wakes. -/
import Derived.Test.YtgimfepllijkjaaNatF
import Derived.Deep.RegionHeld3
import Derived.Deep.DeepCutAuto
namespace Go.Proofs.Ytgimfepllijkjaa
set_option linter.unusedVariables false
set_option linter.unusedSimpArgs false
open Go.RowKit

theorem of_int (n : Int) (w : World) (h0 : 0 ≤ n) (hn : n < 18446744073709551616) :
    Calls Try.prog 12 #[.int .u64 n] w fun e w' => ∃ a c, e = .returned (.agg #[.slice a (nlen 4294967296 n.toNat) c]) ∧ Res w w' a c n.toNat := by
  have := of_any n.toNat w (by omega)
  rwa [Int.toNat_of_nonneg h0] at this
theorem fr_free {w w' : World} {a : Addr} {v : Value} (k : Fr w w') (h : w.cell? a = some v) (hf : w.frozen? a = false) : w'.frozen? a = false := by
  have hb := k.block a.block (cell_lt h)
  unfold World.frozen? at *
  rw [hb]; exact hf
/-- What is known of a variable that was made just ahead of a call, behind it. -/
theorem var_cell_drew {w w1 : World} {v : Value} {t : TypeId} (f : Fr (w.alloc (.cells #[v] t)).drew w1) : w1.cell? ⟨w.heap.size, 0, none⟩ = some v := var_cell ((Fr.drew _).trans f)
theorem var_free_drew {w w1 : World} {v : Value} {t : TypeId} (f : Fr (w.alloc (.cells #[v] t)).drew w1) : w1.frozen? ⟨w.heap.size, 0, none⟩ = false := var_free ((Fr.drew _).trans f)

theorem fr_put {W w : World} {b : Nat} {u : Value} (f : Fr W w) (h : W.heap.size ≤ b) : Fr W (w.setCell ⟨b, 0, none⟩ u) := Below.setCell f h _

theorem nl32 : nlen 4294967296 4294967296 = 2 := nlen_eq b32 (by decide) (.inr (by decide))
theorem nl1 : nlen 4294967296 1 = 1 := nlen_eq b32 (by decide) (.inr (by decide))
theorem nl33 : nlen 4294967296 8589934592 = 2 := nlen_eq b32 (by decide) (.inr (by decide))
theorem nlm : nlen 4294967296 4294967295 = 1 := nlen_eq b32 (by decide) (.inr (by decide))
theorem nb33 : nlen 2 4294967296 = 33 := nlen_eq (by omega) (by decide) (.inr (by decide))

set_option maxHeartbeats 1000000 in
theorem wakes_any (w : World) : Calls Try.prog 13 #[] w fun e w' => e = .returned (.bool true) ∧ Fr w w' := by
  have hof : ∀ w, Calls Try.prog 12 #[.int .u64 4294967296] w fun e w' => ∃ a c, e = .returned (.agg #[.slice a 2 c]) ∧ Res w w' a c 4294967296 := fun w => by
    have := of_int 4294967296 w (by omega) (by omega)
    rwa [show (4294967296 : Int).toNat = 4294967296 from rfl, nl32] at this
  have hof1 : ∀ w, Calls Try.prog 12 #[.int .u64 1] w fun e w' => ∃ a c, e = .returned (.agg #[.slice a 1 c]) ∧ Res w w' a c 1 := fun w => by
    have := of_int 1 w (by omega) (by omega)
    rwa [show (1 : Int).toNat = 1 from rfl, nl1] at this
  have hsub : ∀ va vb w, IsNat w va 4294967296 → IsNat w vb 1 → Calls Try.prog 20 #[va, vb] w fun e w' => ∃ a c, e = .returned (.tuple #[.agg #[.slice a 1 c], .bool true]) ∧ Res w w' a c 4294967295 := fun va vb w h1 h2 => by
    have := sub_any va vb 4294967296 1 w h1 h2 (by rw [nl32]; omega) (by rw [nl1]; omega)
    rwa [show 4294967296 - 1 = 4294967295 from rfl, nlm] at this
  have Hof := hide hof
  have Hof1 := hide hof1
  have Hsub := hide hsub
  clear hof hof1 hsub
  go_enter Try.func13, Try.ntmps13
  go_wp2_with fail
  refine (Hof.out _).mono ?_
  rintro e w1 ⟨a1, c1, rfl, h1, l1, f1⟩
  rw [nl32] at h1
  go_wp2_with fail
  obtain ⟨W, hW⟩ : ∃ W, W = w1.alloc (Obj.cells #[Value.slice a1 2 c1] 26) := ⟨_, rfl⟩
  have fW : Fr w1 W := by rw [hW]; exact Fr.alloc _ _
  have hcW : W.cell? ⟨w1.heap.size, 0, none⟩ = some (.slice a1 2 c1) := by rw [hW]; simp [go_sem]
  rw [← hW]
  have F1 := f1.trans fW
  have N1 := hide (IsNat.fr h1 fW)
  clear hW fW h1 f1 l1
  go_cut [2, 3] (fun s2 s3 wx => ∃ b a3 c3, s2 = .pointer (some ⟨b, 0, none⟩) ∧ s3 = .bool true ∧ wx.cell? ⟨b, 0, none⟩ = some (.slice a3 1 c3) ∧ Hid (IsNat wx (.agg #[.slice a3 1 c3]) 4294967295) ∧ Hid (Fr W wx))
  case first =>
    go_region_held3 (fun w' => w'.cell? ⟨w1.heap.size, 0, none⟩ = some (.slice a1 2 c1) ∧ Hid (Fr W w'))
      (first | exact ⟨fr_cell fz hcW, fz⟩ | exact ⟨fr_cell (fz.trans (Fr.alloc _ _)) hcW, fz.trans (Fr.alloc _ _)⟩ | exact ⟨hcW, Fr.drew _⟩ | exact ⟨fr_cell ((Fr.alloc _ _).trans (Fr.drew _)) hcW, (Fr.alloc _ _).trans (Fr.drew _)⟩ | exact ⟨fr_cell (fr_put fz hs2) hcW, fr_put fz hs2⟩ | exact ⟨fr_cell (fr_put fz (Nat.le_refl _)) hcW, fr_put fz (Nat.le_refl _)⟩)
      (first
        | (go_at_call 12
           have hh := (by assumption : _ ∧ Hid (Fr W _))
           refine (Hof1.out _).mono ?_
           rintro e w2 ⟨a2, c2, rfl, h2, l2, fy⟩
           try (have hv := var_cell_drew fy; have hf := var_free_drew fy)
           have fz := hh.2.out.trans fy
           have hs2 := fz.size
           rw [nl1] at h2
           clear hh fy l2)
        | (go_at_call 20
           have hh := (by assumption : _ ∧ Hid (Fr W _))
           refine (Hsub.out _ _ _ (IsNat.fr N1.out hh.2.out) ?_).mono ?_
           (first | exact h2 | exact IsNat.fr h2 (Fr.alloc _ _))
           rintro e w3 ⟨a3, c3, rfl, h3, l3, fy⟩
           try (have hv' := fr_cell fy hv; have hf' := fr_free fy hv hf)
           try (have hv := var_cell fy; have hf := var_free fy)
           rw [nlm] at h3
           have fz := hh.2.out.trans fy
           clear hh fy))
    all_goals go_wp2_with fail
    all_goals go_meet
    all_goals first
      | exact ⟨w3.heap.size, a3, c3, rfl, rfl, by go_simp, IsNat.fr h3 (Fr.alloc _ _), fz.trans (Fr.alloc _ _)⟩
      | exact ⟨w2.heap.size, a3, c3, rfl, rfl, by go_simp, IsNat.put h3 _ _ (fun g off s e => by have := l3 g off s e; simp at this; simp; omega), fr_put fz hs2⟩
      | exact ⟨W.heap.size, a3, c3, rfl, rfl, by go_simp, IsNat.put h3 _ _ (fun g off s e => by have := l3 g off s e; have := cell_lt hv; simp at this; simp; omega), fr_put fz (Nat.le_refl _)⟩
  case rest =>
    obtain ⟨b, a3, c3, rfl, rfl, hcb, N3, FW⟩ := hcut
    have hca := fr_cell FW.out hcW
    have N1c := hide (IsNat.fr N1.out FW.out)
    have F2 := F1.trans FW.out
    clear N1 F1 FW hcW Hof Hof1 Hsub
    go_wp2_with fail
    refine (small_any _ _ _ N3.out).mono ?_
    rintro e w4 ⟨rfl, f4⟩
    rw [if_pos (by omega), decide_eq_true (by omega)]
    have hca4 := fr_cell f4 hca
    have hcb4 := fr_cell f4 hcb
    have N14 := hide (IsNat.fr N1c.out f4)
    have N34 := hide (IsNat.fr N3.out f4)
    have F4 := F2.trans f4
    clear hca hcb N1c N3 F2 f4
    go_wp2_with fail
    refine (add_any _ _ _ _ _ N14.out N14.out (by rw [nl32]; omega) (by rw [nl32]; omega)).mono ?_
    rintro e w5 ⟨a5, c5, rfl, h5, l5, f5⟩
    rw [show 4294967296 + 4294967296 = 8589934592 from rfl] at *
    go_wp2_with fail
    refine (limbs_any _ _ _ h5 (by rw [nl33]; omega)).mono ?_
    rintro e w6 ⟨v6, rfl, h6, f6⟩
    rw [nl33] at h6
    obtain ⟨a6, c6, rfl, _, _, _⟩ := own_form h6
    have f46 := f5.trans f6
    rcases own_cs h6 with h0 | ⟨g, off, rfl, hg, hc⟩
    · omega
    · have e0 : w6.cell? ⟨g, off, none⟩ = some (.int .u32 0) := by have := hc 0 (by omega); rw [show dg 4294967296 8589934592 0 = 0 by decide] at this; exact this
      have e1 : w6.cell? ⟨g, off + 1, none⟩ = some (.int .u32 2) := by have := hc 1 (by omega); rw [show dg 4294967296 8589934592 1 = 2 by decide] at this; exact this
      have hca6 := fr_cell f46 hca4
      have hcb6 := fr_cell f46 hcb4
      have N16 := hide (IsNat.fr N14.out f46)
      have N36 := hide (IsNat.fr N34.out f46)
      have F6 := F4.trans f46
      clear hc h5 h6 l5 f5 f6 hca4 hcb4 N14 N34 F4 f46 hg
      go_wp2_with fail
      refine (cmp_any _ _ _ _ _ N16.out N36.out (by rw [nl32]; omega) (by rw [nlm]; omega)).mono ?_
      rintro e w7 ⟨rfl, f7⟩
      rw [show cmpZ 4294967296 4294967295 = 1 by decide]
      have hca7 := fr_cell f7 hca6
      have N17 := hide (IsNat.fr N16.out f7)
      have F7 := F6.trans f7
      clear hca6 hcb6 N16 N36 F6 f7 e0 e1
      go_wp2_with fail
      refine (bits_any _ _ _ N17.out (by rw [nl32]; omega)).mono ?_
      rintro e w8 ⟨rfl, f8⟩
      rw [nb33]
      go_wp2_with fail
      go_ret
      exact ⟨rfl, F7.trans f8⟩
end Go.Proofs.Ytgimfepllijkjaa
