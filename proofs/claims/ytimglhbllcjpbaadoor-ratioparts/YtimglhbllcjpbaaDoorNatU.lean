/- What came in as limbs; Nats at hand (without Sub). -/
import Derived.Test.YtimglhbllcjpbaaDoorNatE
namespace Go.Proofs.YtimglhbllcjpbaaDoor
set_option linter.unusedVariables false
set_option linter.unusedSimpArgs false
open Go.RowKit

/-- A slice of integers that came in: nil, or a row of 'cap' numbers. -/
def IsRow (k : IntKind) (w : World) (a : Option Addr) (len cap : Nat) (zs : List Int) : Prop :=
  (a = none ∧ len = 0 ∧ cap = 0 ∧ zs = []) ∨
  ∃ x, a = some x ∧ len ≤ cap ∧ cap ≤ maxLen ∧ zs.length = cap ∧ (∀ i, i < zs.length → w.cell? (x.add i) = some (.int k (zs.getD i 0))) ∧ ∀ n ∈ zs, (Lit.int k n).wf = true

theorem u32_bd {x : Int} (h : (Lit.int .u32 x).wf = true) : 0 ≤ x ∧ x ≤ 4294967295 := by
  simp [Lit.wf, IntKind.min, IntKind.max, IntKind.signed, IntKind.bits] at h
  omega

/-- The number of the first k limbs. -/
def lnum (zs : List Int) (k : Nat) : Nat := valB 4294967296 ((zs.take k).map Int.toNat)

theorem row_take {w : World} {a : Option Addr} {len cap : Nat} {zs : List Int} (h : IsRow .u32 w a len cap zs) (k : Nat) (hk : k ≤ len) :
    Cs .u32 w a k (dg 4294967296 (lnum zs k)) ∧ lnum zs k < 4294967296 ^ k ∧ (∀ j, j < k → (zs.getD j 0) = (dg 4294967296 (lnum zs k) j : Int)) ∧ len ≤ cap ∧ cap ≤ maxLen := by
  rcases h with ⟨rfl, rfl, rfl, rfl⟩ | ⟨y, rfl, hl, hm, hz, hcell, hwz⟩
  · obtain rfl : k = 0 := by omega
    exact ⟨.inl rfl, by simp [lnum, valB], fun j hj => by omega, by omega, by omega⟩
  · have hd : ∀ d ∈ (zs.take k).map Int.toNat, d < 4294967296 := by
      intro d hd
      obtain ⟨z, hz', rfl⟩ := List.mem_map.1 hd
      have := u32_bd (hwz z (List.mem_of_mem_take hz'))
      omega
    have hlen : ((zs.take k).map Int.toNat).length = k := by rw [List.length_map, List.length_take]; omega
    have hlt := valB_lt b32 _ hd
    rw [hlen] at hlt
    have hdg : ∀ j, j < k → (zs.getD j 0) = (dg 4294967296 (lnum zs k) j : Int) := by
      intro j hj
      unfold lnum
      rw [dg_valB b32 _ j hd]
      have hj2 : j < zs.length := by omega
      have hj3 : j < (zs.take k).length := by rw [List.length_take]; omega
      have hb := u32_bd (hwz zs[j] (List.getElem_mem hj2))
      simp only [List.getD_eq_getElem?_getD, List.getElem?_map, List.getElem?_eq_getElem hj2, List.getElem?_take, hj, if_true, Option.map_some, Option.getD_some]
      omega
    refine ⟨?_, hlt, hdg, hl, hm⟩
    by_cases hk0 : k = 0
    · exact .inl hk0
    · obtain ⟨b, off, spot⟩ := y
      have hc := hcell 0 (by omega)
      have hspot : spot = none := by simpa [Addr.add] using World.cell?_spot hc
      subst hspot
      have hcs : ∀ i, i < cap → w.cell? ⟨b, off + i, none⟩ = some (.int .u32 (zs.getD i 0)) := fun i hi => by
        have := hcell i (by omega)
        have e : (⟨b, off, none⟩ : Addr).add i = ⟨b, off + i, none⟩ := by unfold Addr.add; split <;> simp_all
        rwa [e] at this
      exact .inr ⟨b, off, rfl, cell_lt (hcs 0 (by omega)), fun j hj => by rw [← hdg j hj]; exact hcs j (by omega)⟩

/-- The Nats at hand in a world. -/
def Env (w : World) (L : List (Value × Nat)) : Prop := ∀ p ∈ L, IsNat w p.1 p.2 ∧ nlen 4294967296 p.2 ≤ 1000
theorem Env.fr {w w' : World} {L : List (Value × Nat)} (h : Env w L) (f : Fr w w') : Env w' L := fun p hp => ⟨(h p hp).1.fr f, (h p hp).2⟩
theorem Env.nil (w : World) : Env w [] := fun _ h => by cases h
theorem Env.cons {w : World} {L : List (Value × Nat)} {v : Value} {x : Nat} (h : Env w L) (hv : IsNat w v x) (hx : nlen 4294967296 x ≤ 1000) : Env w ((v, x) :: L) := fun p hp => by
  rcases List.mem_cons.1 hp with rfl | hp
  · exact ⟨hv, hx⟩
  · exact h p hp
theorem nl_add {x y : Nat} (hx : nlen 4294967296 x ≤ 100) (hy : nlen 4294967296 y ≤ 100) : nlen 4294967296 (x + y) ≤ 101 :=
  nlen_le b32 (sum_lt b32 (lt_of_nlen b32 hx) (lt_of_nlen b32 hy))
theorem cmp_env {w : World} {L : List (Value × Nat)} {va vb : Value} {x y : Nat} (h : Env w L) (ha : (va, x) ∈ L) (hb : (vb, y) ∈ L) :
    Calls Tryd.prog 38 #[va, vb] w fun e w' => e = .returned (.int .i64 (cmpZ x y)) ∧ Fr w w' :=
  cmp_any va vb x y w (h _ ha).1 (h _ hb).1 (by have := (h _ ha).2; simp at this; omega) (by have := (h _ hb).2; simp at this; omega)
theorem bits_env {w : World} {L : List (Value × Nat)} {va : Value} {x : Nat} (h : Env w L) (ha : (va, x) ∈ L) :
    Calls Tryd.prog 12 #[va] w fun e w' => e = .returned (.int .i64 (nlen 2 x : Int)) ∧ Fr w w' :=
  bits_any va x w (h _ ha).1 (by have := (h _ ha).2; simp at this; omega)
theorem add_env {w : World} {L : List (Value × Nat)} {va vb : Value} {x y : Nat} (h : Env w L) (ha : (va, x) ∈ L) (hb : (vb, y) ∈ L) (hs : nlen 4294967296 (x + y) ≤ 1000) :
    Calls Tryd.prog 41 #[va, vb] w fun e w' => ∃ a c, e = .returned (.agg #[.slice a (nlen 4294967296 (x + y)) c]) ∧ Env w' ((.agg #[.slice a (nlen 4294967296 (x + y)) c], x + y) :: L) ∧ Fr w w' := by
  refine (add_any va vb x y w (h _ ha).1 (h _ hb).1 (by have := (h _ ha).2; simp at this; omega) (by have := (h _ hb).2; simp at this; omega)).mono ?_
  rintro e w' ⟨a, c, rfl, h1, h2, h3⟩
  exact ⟨a, c, rfl, (h.fr h3).cons h1 hs, h3⟩
theorem small_env {w : World} {L : List (Value × Nat)} {va : Value} {x : Nat} (h : Env w L) (ha : (va, x) ∈ L) :
    Calls Tryd.prog 9 #[va] w fun e w' => e = .returned (.tuple #[.int .u64 (if x < 18446744073709551616 then (x : Int) else 0), .bool (decide (x < 18446744073709551616))]) ∧ Fr w w' :=
  small_any va x w (h _ ha).1
end Go.Proofs.YtimglhbllcjpbaaDoor
