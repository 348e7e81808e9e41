/- Helpers: calls of this chapter with known arguments. No condition but the hypotheses that each theorem names. -/
import Derived.Test.YtaemlmpcclfmdaaB14
import Derived.Test.YtaemlmpcclfmdaaProg
namespace Go.Proofs.Ytaemlmpcclfmdaa
open Go.RowKit
theorem w7s012 : PC Try.prog 61 [slI 7 [[0, 0, 0, 100, 102, 1, 0], [0, 0, 10, 120, 121, 1, 10], [1, 0, 5, 20, 30, 0, 5]]] (.v (.bool true)) :=
  evLe_ok (by kernel_rfl) noT_ok (fuel := 300) (k := 40) (by kernel_rfl)
end Go.Proofs.Ytaemlmpcclfmdaa
