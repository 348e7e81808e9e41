/- Helpers: calls of this chapter with known arguments. No condition but the hypotheses that each theorem names. -/
import Derived.Test.YtaemlmpcclfmdaaB14
import Derived.Test.YtaemlmpcclfmdaaProg
namespace Go.Proofs.Ytaemlmpcclfmdaa
open Go.RowKit
theorem w7c : PC Try.prog 11 [slI 3 [[10, 3, 4], [7, 1, 1]], agI [0, 100]] (.tup 2 (vec [slI 2 [[43, 43], [64, 64]], i64 0])) :=
  evLe_ok (by kernel_rfl) noT_ok (fuel := 300) (k := 40) (by kernel_rfl)
end Go.Proofs.Ytaemlmpcclfmdaa
