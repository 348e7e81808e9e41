/- Helpers: calls of this chapter with known arguments. No condition but the hypotheses that each theorem names. -/
import Derived.Test.YtaemlmpcclfmdaaB14
import Derived.Test.YtaemlmpcclfmdaaProg
namespace Go.Proofs.Ytaemlmpcclfmdaa
open Go.RowKit
theorem w7b : PC Try.prog 27 [slI 5 [[0, 0, 0, 100, 102], [0, 0, 10, 120, 121]], i64 5] (.tup 2 (vec [agI [110, 1, 223, 2], i64 0])) :=
  evLe_ok (by kernel_rfl) noT_ok (fuel := 300) (k := 40) (by kernel_rfl)
end Go.Proofs.Ytaemlmpcclfmdaa
