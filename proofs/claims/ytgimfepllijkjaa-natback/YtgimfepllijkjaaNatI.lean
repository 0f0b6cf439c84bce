/- The law NatBack. -/
import Derived.Test.YtgimfepllijkjaaNatH
namespace Go.Proofs.Ytgimfepllijkjaa
set_option linter.unusedVariables false
set_option linter.unusedSimpArgs false
open Go.RowKit

attribute [local go_sem] World.cell?_alloc_some
theorem i64_small {n : Int} (h0 : -9223372036854775808 ≤ n) (h1 : n ≤ 9223372036854775807) : IntKind.i64.wrap n = n := by
  simp [IntKind.wrap, IntKind.bits, IntKind.signed]
  omega
theorem lt30 {x k : Nat} (h : x < 4294967296 ^ k) (hk : k ≤ 30) : nlen 4294967296 x ≤ 30 := Nat.le_trans (nlen_le b32 h) hk

set_option maxHeartbeats 4000000 in
theorem law_NatBack (a0 : Option Addr) (len0 cap0 : Nat) (z0 : List Int) (a1 : Option Addr) (len1 cap1 : Nat) (z1 : List Int) (a2 : Option Addr) (len2 cap2 : Nat) (z2 : List Int) (w : World) (h0 : IsRow .u32 w a0 len0 cap0 z0) (h1 : IsRow .u32 w a1 len1 cap1 z1) (h2 : IsRow .u32 w a2 len2 cap2 z2) :
    Calls Try.prog 5 #[.slice a0 len0 cap0, .slice a1 len1 cap1, .slice a2 len2 cap2] w fun e w' => e = .returned (.bool true) ∧ Fr w w' := by
  obtain ⟨k0, x, kx, _, lx, _, fewx, madex⟩ := came h0
  obtain ⟨k1, y, ky, _, ly, _, fewy, madey⟩ := came h1
  obtain ⟨k2, z, kz, _, lz, _, fewz, madez⟩ := came h2
  have FX := hide fewx
  have FY := hide fewy
  have FZ := hide fewz
  have MX := hide madex
  have MY := hide madey
  have MZ := hide madez
  have nx := lt30 lx kx
  have ny := lt30 ly ky
  have nz := lt30 lz kz
  clear fewx fewy fewz madex madey madez h0 h1 h2 lx ly lz
  go_enter Try.func5, Try.ntmps5
  go_wp2_with fail
  refine (FX.out _).mono ?_
  rintro e w' ⟨rfl, rfl⟩
  go_wp2_with fail
  refine (MX.out _ (Fr.refl _)).mono ?_
  rintro e w1 ⟨ax, cx, rfl, hx, _, f1⟩
  go_wp2_with fail
  refine (FY.out _).mono ?_
  rintro e w' ⟨rfl, rfl⟩
  go_wp2_with fail
  refine (MY.out _ f1).mono ?_
  rintro e w2 ⟨ay, cy, rfl, hy, _, f2⟩
  go_wp2_with fail
  refine (FZ.out _).mono ?_
  rintro e w' ⟨rfl, rfl⟩
  go_wp2_with fail
  refine (MZ.out _ (f1.trans f2)).mono ?_
  rintro e w3 ⟨az, cz, rfl, hz, _, f3⟩
  have hE : Env w3 [(.agg #[.slice ax (nlen 4294967296 x) cx], x), (.agg #[.slice ay (nlen 4294967296 y) cy], y), (.agg #[.slice az (nlen 4294967296 z) cz], z)] :=
    (((Env.nil _).cons hz (by omega)).cons (hy.fr f3) (by omega)).cons ((hx.fr f2).fr f3) (by omega)
  have F3 := (f1.trans f2).trans f3
  clear FX FY FZ MX MY MZ hx hy hz f1 f2 f3
  have s1 : nlen 4294967296 (x + y) ≤ 101 := nl_add (by omega) (by omega)
  go_wp2_with fail
  have fA := ((Fr.alloc w3 (Obj.cells #[Value.slice ax (nlen 4294967296 x) cx] 26)).trans (Fr.alloc _ (Obj.cells #[Value.slice ay (nlen 4294967296 y) cy] 26))).trans (Fr.alloc _ (Obj.cells #[Value.slice az (nlen 4294967296 z) cz] 26))
  have hE := hE.fr fA
  refine (add_env hE (by first | exact .head _ | exact .tail _ (.head _) | exact .tail _ (.tail _ (.head _)) | exact .tail _ (.tail _ (.tail _ (.head _))) | exact .tail _ (.tail _ (.tail _ (.tail _ (.head _)))) | exact .tail _ (.tail _ (.tail _ (.tail _ (.tail _ (.head _))))) | exact .tail _ (.tail _ (.tail _ (.tail _ (.tail _ (.tail _ (.head _)))))) | exact .tail _ (.tail _ (.tail _ (.tail _ (.tail _ (.tail _ (.tail _ (.head _))))))) | exact .tail _ (.tail _ (.tail _ (.tail _ (.tail _ (.tail _ (.tail _ (.tail _ (.head _))))))))) (by first | exact .head _ | exact .tail _ (.head _) | exact .tail _ (.tail _ (.head _)) | exact .tail _ (.tail _ (.tail _ (.head _))) | exact .tail _ (.tail _ (.tail _ (.tail _ (.head _)))) | exact .tail _ (.tail _ (.tail _ (.tail _ (.tail _ (.head _))))) | exact .tail _ (.tail _ (.tail _ (.tail _ (.tail _ (.tail _ (.head _)))))) | exact .tail _ (.tail _ (.tail _ (.tail _ (.tail _ (.tail _ (.tail _ (.head _))))))) | exact .tail _ (.tail _ (.tail _ (.tail _ (.tail _ (.tail _ (.tail _ (.tail _ (.head _))))))))) (by omega)).mono ?_
  rintro e w4 ⟨aw, cw, rfl, hE, f4⟩
  have c7 : w4.cell? ⟨w3.heap.size, 0, none⟩ = some (.slice ax (nlen 4294967296 x) cx) := fr_cell f4 (by simp [go_sem])
  have c8 : w4.cell? ⟨w3.heap.size + 1, 0, none⟩ = some (.slice ay (nlen 4294967296 y) cy) := fr_cell f4 (by simp [go_sem])
  have c9 : w4.cell? ⟨w3.heap.size + 1 + 1, 0, none⟩ = some (.slice az (nlen 4294967296 z) cz) := fr_cell f4 (by simp [go_sem])
  have F4 := (F3.trans fA).trans f4
  clear fA f4 F3
  go_wp2_with fail
  have hE := hE.fr (Fr.alloc w4 (Obj.cells #[Value.slice aw (nlen 4294967296 (x + y)) cw] 26))
  refine (sub_env hE (by first | exact .head _ | exact .tail _ (.head _) | exact .tail _ (.tail _ (.head _)) | exact .tail _ (.tail _ (.tail _ (.head _))) | exact .tail _ (.tail _ (.tail _ (.tail _ (.head _)))) | exact .tail _ (.tail _ (.tail _ (.tail _ (.tail _ (.head _))))) | exact .tail _ (.tail _ (.tail _ (.tail _ (.tail _ (.tail _ (.head _)))))) | exact .tail _ (.tail _ (.tail _ (.tail _ (.tail _ (.tail _ (.tail _ (.head _))))))) | exact .tail _ (.tail _ (.tail _ (.tail _ (.tail _ (.tail _ (.tail _ (.tail _ (.head _))))))))) (by first | exact .head _ | exact .tail _ (.head _) | exact .tail _ (.tail _ (.head _)) | exact .tail _ (.tail _ (.tail _ (.head _))) | exact .tail _ (.tail _ (.tail _ (.tail _ (.head _)))) | exact .tail _ (.tail _ (.tail _ (.tail _ (.tail _ (.head _))))) | exact .tail _ (.tail _ (.tail _ (.tail _ (.tail _ (.tail _ (.head _)))))) | exact .tail _ (.tail _ (.tail _ (.tail _ (.tail _ (.tail _ (.tail _ (.head _))))))) | exact .tail _ (.tail _ (.tail _ (.tail _ (.tail _ (.tail _ (.tail _ (.tail _ (.head _)))))))))).mono ?_
  rintro e w5 ⟨ad, cd, rfl, hE, f5⟩
  rw [decide_eq_true (by omega)]
  rw [Nat.add_sub_cancel] at *
  have fB := (Fr.alloc w4 (Obj.cells #[Value.slice aw (nlen 4294967296 (x + y)) cw] 26)).trans f5
  have c10 : w5.cell? ⟨w4.heap.size, 0, none⟩ = some (.slice aw (nlen 4294967296 (x + y)) cw) := fr_cell f5 (by simp [go_sem])
  have c7 := fr_cell fB c7
  have c8 := fr_cell fB c8
  have c9 := fr_cell fB c9
  have F5 := F4.trans fB
  clear fB f5 F4
  go_wp2_with fail
  obtain ⟨W, hW⟩ : ∃ W, W = w5.alloc (Obj.cells #[Value.slice ad (nlen 4294967296 x) cd] 26) := ⟨_, rfl⟩
  have fW : Fr w5 W := by rw [hW]; exact Fr.alloc _ _
  have c11 : W.cell? ⟨w5.heap.size, 0, none⟩ = some (.slice ad (nlen 4294967296 x) cd) := by rw [hW]; simp [go_sem]
  rw [← hW]
  clear hW
  have c7 := fr_cell fW c7
  have c8 := fr_cell fW c8
  have c9 := fr_cell fW c9
  have c10 := fr_cell fW c10
  have hE := hide ((hE.fr fW).fr (Fr.drew W))
  have FW := hide (F5.trans fW)
  clear fW F5
  have q1 : cmpZ x x = 0 := by simp [cmpZ]
  have q2 : cmpZ (x + y) (y + x) = 0 := by simp [cmpZ, Nat.add_comm]
  have q3 : 0 ≤ cmpZ (x + y) x ∧ cmpZ (x + y) x ≤ 1 := by unfold cmpZ; rw [if_neg (by omega)]; split <;> omega
  have q4 : cmpZ (x + y + z) (x + (y + z)) = 0 := by simp [cmpZ, Nat.add_assoc]
  have t1 : nlen 4294967296 (y + x) ≤ 1000 := by rw [Nat.add_comm]; omega
  have t2 : nlen 4294967296 (x + y + z) ≤ 1000 := Nat.le_trans (nlen_le b32 (sum_lt (i := 101) b32 (lt_of_nlen b32 s1) (lt_of_nlen b32 (by omega)))) (by omega)
  have t3 : nlen 4294967296 (y + z) ≤ 1000 := Nat.le_trans (nl_add (by omega) (by omega)) (by omega)
  have t4 : nlen 4294967296 (x + (y + z)) ≤ 1000 := by rw [← Nat.add_assoc]; exact t2
  have T1 := hide t1
  have T2 := hide t2
  have T3 := hide t3
  have T4 := hide t4
  have b1 : nlen 2 x ≤ nlen 2 (x + y) := nlen_mono (by omega) (by omega)
  have b2 : nlen 2 y ≤ nlen 2 (x + y) := nlen_mono (by omega) (by omega)
  have b3 : nlen 2 (x + y) ≤ max (nlen 2 x) (nlen 2 y) + 1 := nlen_le (by omega) (sum_lt (by omega) (lt_of_nlen (by omega) (by omega)) (lt_of_nlen (by omega) (by omega)))
  have b4 : nlen 2 (x + y) ≤ 100000 := by
    have e : (4294967296 : Nat) = 2 ^ 32 := by decide
    have := lt_of_nlen b32 s1
    rw [e, ← Nat.pow_mul] at this
    exact Nat.le_trans (nlen_le (by omega) this) (by omega)
  obtain ⟨q30, q31⟩ := q3
  generalize hq : cmpZ (x + y) x = q at *
  generalize hbx : nlen 2 x = bx at *
  generalize hby : nlen 2 y = bz at *
  generalize hbs : nlen 2 (x + y) = bs at *
  have QQ := hide (And.intro q1 (And.intro q2 (And.intro q4 (And.intro hq (And.intro hbx (And.intro hby hbs))))))
  clear q1 q2 q4 hq hbx hby hbs t1 t2 t3 t4 s1
  have hI : (bx < bz ∧ (bs : Int) ≤ (bz : Int) + 1) ∨ (¬ bx < bz ∧ (bs : Int) ≤ (bx : Int) + 1) := by omega
  clear b3
  rcases hI with ⟨hb, i3⟩ | ⟨hb, i3⟩
  all_goals (
    have i1 : (bx : Int) ≤ bs := by omega
    have i2 : (bz : Int) ≤ bs := by omega
    have j1 : IntKind.i64.wrap ((bx : Int) + 1) = (bx : Int) + 1 := i64_small (by omega) (by omega)
    have j2 : IntKind.i64.wrap ((bz : Int) + 1) = (bz : Int) + 1 := i64_small (by omega) (by omega)
    go_region_held3 (fun w' => w'.cell? ⟨w3.heap.size, 0, none⟩ = some (.slice ax (nlen 4294967296 x) cx) ∧ w'.cell? ⟨w3.heap.size + 1, 0, none⟩ = some (.slice ay (nlen 4294967296 y) cy) ∧ w'.cell? ⟨w3.heap.size + 1 + 1, 0, none⟩ = some (.slice az (nlen 4294967296 z) cz) ∧ w'.cell? ⟨w4.heap.size, 0, none⟩ = some (.slice aw (nlen 4294967296 (x + y)) cw) ∧ w'.cell? ⟨w5.heap.size, 0, none⟩ = some (.slice ad (nlen 4294967296 x) cd) ∧ Hid (Fr W w'))
      (first | exact ⟨fr_cell fz.out c7, fr_cell fz.out c8, fr_cell fz.out c9, fr_cell fz.out c10, fr_cell fz.out c11, fz⟩ | exact ⟨c7, c8, c9, c10, c11, Fr.drew _⟩)
      (first
      | (go_at_call 13
         have hh := (by assumption : _ ∧ _ ∧ _ ∧ _ ∧ _ ∧ Hid (Fr W _))
         refine (wakes_any _).mono ?_
         rintro e wn ⟨rfl, fy⟩
         have hE := hide (hE.out.fr fy); have fz := hide (hh.2.2.2.2.2.out.trans fy)
         clear hh fy)
      | (go_at_call 21
         have hh := (by assumption : _ ∧ _ ∧ _ ∧ _ ∧ _ ∧ Hid (Fr W _))
         refine (cmp_env hE.out (by first | exact .head _ | exact .tail _ (.head _) | exact .tail _ (.tail _ (.head _)) | exact .tail _ (.tail _ (.tail _ (.head _))) | exact .tail _ (.tail _ (.tail _ (.tail _ (.head _)))) | exact .tail _ (.tail _ (.tail _ (.tail _ (.tail _ (.head _))))) | exact .tail _ (.tail _ (.tail _ (.tail _ (.tail _ (.tail _ (.head _)))))) | exact .tail _ (.tail _ (.tail _ (.tail _ (.tail _ (.tail _ (.tail _ (.head _))))))) | exact .tail _ (.tail _ (.tail _ (.tail _ (.tail _ (.tail _ (.tail _ (.tail _ (.head _))))))))) (by first | exact .head _ | exact .tail _ (.head _) | exact .tail _ (.tail _ (.head _)) | exact .tail _ (.tail _ (.tail _ (.head _))) | exact .tail _ (.tail _ (.tail _ (.tail _ (.head _)))) | exact .tail _ (.tail _ (.tail _ (.tail _ (.tail _ (.head _))))) | exact .tail _ (.tail _ (.tail _ (.tail _ (.tail _ (.tail _ (.head _)))))) | exact .tail _ (.tail _ (.tail _ (.tail _ (.tail _ (.tail _ (.tail _ (.head _))))))) | exact .tail _ (.tail _ (.tail _ (.tail _ (.tail _ (.tail _ (.tail _ (.tail _ (.head _)))))))))).mono ?_
         rintro e wn ⟨rfl, fy⟩
         have hE := hide (hE.out.fr fy); (first | rw [QQ.out.1] | rw [QQ.out.2.1] | rw [QQ.out.2.2.1] | rw [QQ.out.2.2.2.1]); have fz := hide (hh.2.2.2.2.2.out.trans fy)
         clear hh fy)
      | (go_at_call 22
         have hh := (by assumption : _ ∧ _ ∧ _ ∧ _ ∧ _ ∧ Hid (Fr W _))
         refine (add_env hE.out (by first | exact .head _ | exact .tail _ (.head _) | exact .tail _ (.tail _ (.head _)) | exact .tail _ (.tail _ (.tail _ (.head _))) | exact .tail _ (.tail _ (.tail _ (.tail _ (.head _)))) | exact .tail _ (.tail _ (.tail _ (.tail _ (.tail _ (.head _))))) | exact .tail _ (.tail _ (.tail _ (.tail _ (.tail _ (.tail _ (.head _)))))) | exact .tail _ (.tail _ (.tail _ (.tail _ (.tail _ (.tail _ (.tail _ (.head _))))))) | exact .tail _ (.tail _ (.tail _ (.tail _ (.tail _ (.tail _ (.tail _ (.tail _ (.head _))))))))) (by first | exact .head _ | exact .tail _ (.head _) | exact .tail _ (.tail _ (.head _)) | exact .tail _ (.tail _ (.tail _ (.head _))) | exact .tail _ (.tail _ (.tail _ (.tail _ (.head _)))) | exact .tail _ (.tail _ (.tail _ (.tail _ (.tail _ (.head _))))) | exact .tail _ (.tail _ (.tail _ (.tail _ (.tail _ (.tail _ (.head _)))))) | exact .tail _ (.tail _ (.tail _ (.tail _ (.tail _ (.tail _ (.tail _ (.head _))))))) | exact .tail _ (.tail _ (.tail _ (.tail _ (.tail _ (.tail _ (.tail _ (.tail _ (.head _))))))))) (by first | exact T1.out | exact T2.out | exact T3.out | exact T4.out)).mono ?_
         rintro e wn ⟨an, cn, rfl, hE, fy⟩
         have hE := hide hE; have fz := hide (hh.2.2.2.2.2.out.trans fy)
         clear hh fy)
      | (go_at_call 14
         have hh := (by assumption : _ ∧ _ ∧ _ ∧ _ ∧ _ ∧ Hid (Fr W _))
         refine (bits_env hE.out (by first | exact .head _ | exact .tail _ (.head _) | exact .tail _ (.tail _ (.head _)) | exact .tail _ (.tail _ (.tail _ (.head _))) | exact .tail _ (.tail _ (.tail _ (.tail _ (.head _)))) | exact .tail _ (.tail _ (.tail _ (.tail _ (.tail _ (.head _))))) | exact .tail _ (.tail _ (.tail _ (.tail _ (.tail _ (.tail _ (.head _)))))) | exact .tail _ (.tail _ (.tail _ (.tail _ (.tail _ (.tail _ (.tail _ (.head _))))))) | exact .tail _ (.tail _ (.tail _ (.tail _ (.tail _ (.tail _ (.tail _ (.tail _ (.head _)))))))))).mono ?_
         rintro e wn ⟨rfl, fy⟩
         have hE := hide (hE.out.fr fy); (first | rw [QQ.out.2.2.2.2.1] | rw [QQ.out.2.2.2.2.2.1] | rw [QQ.out.2.2.2.2.2.2]); have fz := hide (hh.2.2.2.2.2.out.trans fy)
         clear hh fy))
    go_wp2_with fail
    go_ret
    exact ⟨rfl, FW.out.trans fz.out⟩)
end Go.Proofs.Ytgimfepllijkjaa
