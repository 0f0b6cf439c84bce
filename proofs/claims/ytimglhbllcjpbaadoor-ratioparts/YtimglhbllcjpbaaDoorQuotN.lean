/- Sizes of quotients, rests and sums. -/
import Derived.Test.YtimglhbllcjpbaaDoorQuotD
import Derived.Test.YtimglhbllcjpbaaDoorTimesC
import Derived.Deep.RegionHeld3
namespace Go.Proofs.YtimglhbllcjpbaaDoor
set_option linter.unusedVariables false
set_option linter.unusedSimpArgs false
open Go.RowKit

attribute [local go_sem] World.cell?_alloc_some
theorem nl_div {x y n : Nat} (h : nlen 4294967296 x ≤ n) : nlen 4294967296 (x / y) ≤ n := Nat.le_trans (nlen_mono b32 (Nat.div_le_self x y)) h
theorem nl_mod {x y n : Nat} (h : nlen 4294967296 x ≤ n) : nlen 4294967296 (x % y) ≤ n := Nat.le_trans (nlen_mono b32 (Nat.mod_le x y)) h

theorem nl_sum {x y n : Nat} (hx : nlen 4294967296 x ≤ n) (hy : nlen 4294967296 y ≤ n) : nlen 4294967296 (x + y) ≤ n + 1 := nlen_le b32 (sum_lt b32 (lt_of_nlen b32 hx) (lt_of_nlen b32 hy))

end Go.Proofs.YtimglhbllcjpbaaDoor
