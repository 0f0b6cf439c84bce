/- token.All. -/
import Derived.Test.YtiemiekkjaknfaaDoorTokG
import Derived.Test.YtiemiekkjaknfaaDoorTokR
import Derived.OwnWalk
namespace Go.Proofs.YtiemiekkjaknfaaDoor
set_option linter.unusedVariables false
set_option linter.unusedSimpArgs false
open Go.RowKit

def tkCells (x : Tk) : List Value := [.int .i64 x.kind, .string (strOfNums x.text), .int .i64 x.count, .int .i64 (x.place : Int)]
def rowT (L : List Tk) : List Value := L.flatMap tkCells
theorem rowT_snoc (L : List Tk) (x : Tk) : rowT (L ++ [x]) = rowT L ++ tkCells x := by simp [rowT]

/-- What All answers. -/
def answer (l : List Int) : List Tk × Nat × Int := if 4096 < l.length then ([], 0, 14) else tall l

theorem own_fr {w w' : World} {base size : Nat} {e : TypeId} {v : Value} {n : Nat} {xs : List Value} (h : w.ownsRow base e size v n xs) (k : Fr w w') : w'.ownsRow base e size v n xs := by
  refine ⟨h.1, ?_⟩
  rcases h.2 with h' | ⟨g, cap, cur, hv, hb, hh, rest⟩
  · exact .inl h'
  · have hg : g < w.heap.size := by
      rcases Nat.lt_or_ge g w.heap.size with k | k
      · exact k
      · simp [Array.getElem?_eq_none k] at hh
    exact .inr ⟨g, cap, cur, hv, hb, by rw [k.block g hg]; exact hh, rest⟩
theorem own_base {w : World} {b0 base size n : Nat} {e : TypeId} {v : Value} {xs : List Value} (h : w.ownsRow base e size v n xs) (hb : b0 ≤ base) : w.ownsRow b0 e size v n xs := by
  refine ⟨h.1, ?_⟩
  rcases h.2 with h' | ⟨g, cap, cur, hv, hg, rest⟩
  · exact .inl h'
  · exact .inr ⟨g, cap, cur, hv, Nat.le_trans hb hg, rest⟩
theorem own_below {w w0 : World} {size : Nat} {e : TypeId} {v : Value} {n : Nat} {xs : List Value} (h : w.ownsRow w0.heap.size e size v n xs) : ∀ k, v.ownBlock = some k → w0.heap.size ≤ k := fun k hk => (h.lt k hk).1
theorem own_form {w : World} {base size n : Nat} {e : TypeId} {v : Value} {xs : List Value} (h : w.ownsRow base e size v n xs) : ∃ a c, v = .slice a n c := by
  rcases h.2 with ⟨rfl, rfl⟩ | ⟨g, cap, cur, rfl, _⟩
  · exact ⟨_, _, rfl⟩
  · exact ⟨_, _, rfl⟩

theorem cell_four_new (w : World) (v0 v1 v2 v3 : Value) (t : TypeId) (B : Nat) (hB : B = w.heap.size) : ∀ (j : Nat) (u : Value), [v0, v1, v2, v3][j]? = some u → (w.alloc (.cells #[v0, v1, v2, v3] t)).cell? ((⟨B, 0, none⟩ : Addr).add j) = some u := by
  subst hB
  intro j u h
  match j, h with
  | 0, h => simp at h; subst h; simp [go_sem, Addr.add]
  | 1, h => simp at h; subst h; simp [go_sem, Addr.add]
  | 2, h => simp at h; subst h; simp [go_sem, Addr.add]
  | 3, h => simp at h; subst h; simp [go_sem, Addr.add]
  | j + 4, h => simp at h
theorem nxV_ok (k : Int) (t : List Int) (c : Int) (n : Nat) : nxV (.ok k t c n) = .tuple #[.agg #[.int .i64 k, .string (strOfNums t), .int .i64 c, .int .i64 0], .int .i64 n, .int .i64 0] := rfl

end Go.Proofs.YtiemiekkjaknfaaDoor
