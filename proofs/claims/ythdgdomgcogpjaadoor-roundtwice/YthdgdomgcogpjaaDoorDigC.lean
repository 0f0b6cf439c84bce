/- Layer 6: number, Parse. -/
import Derived.Test.YthdgdomgcogpjaaDoorDigB
import Derived.Test.YthdgdomgcogpjaaDoorPackB
import Derived.Test.YthdgdomgcogpjaaDoorPackA
import Derived.Deep.RegionHeld3
namespace Go.Proofs.YthdgdomgcogpjaaDoor
set_option linter.unusedVariables false
set_option linter.unusedSimpArgs false
open Go.RowKit

attribute [local go_sem] World.cell?_alloc_some
theorem pow_ten_lt {x n : Nat} (h : x < 10 ^ n) : nlen 4294967296 x ≤ n := nlen_le b32 (Nat.lt_of_lt_of_le h (Nat.pow_le_pow_left (by decide) n))
theorem nl_valD {l : List UInt8} (h : AllD l) : nlen 4294967296 (valD l) ≤ l.length := pow_ten_lt (valD_lt l h)
theorem cut_data (s : ByteArray) (c : Nat) (hc : c ≤ s.size) : (s.extract 0 c).data.toList = s.data.toList.take c ∧ (s.extract c s.size).data.toList = s.data.toList.drop c ∧ (s.extract 0 c).size = c ∧ (s.extract c s.size).size = s.size - c := by
  have hl := len_data s
  have h1 : (s.extract 0 c).data.toList = s.data.toList.take c := by rw [Go.Lib.extract_data]; simp
  have h2 : (s.extract c s.size).data.toList = s.data.toList.drop c := by
    rw [Go.Lib.extract_data]
    exact List.take_of_length_le (by rw [List.length_drop, hl]; omega)
  refine ⟨h1, h2, ?_, ?_⟩
  · rw [← len_data, h1, List.length_take, hl]; omega
  · rw [← len_data, h2, List.length_drop, hl]

end Go.Proofs.YthdgdomgcogpjaaDoor
