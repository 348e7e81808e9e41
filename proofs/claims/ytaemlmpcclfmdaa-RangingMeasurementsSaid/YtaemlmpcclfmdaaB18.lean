/- Helpers: calls of this chapter with known arguments. No condition but the hypotheses that each theorem names. -/
import Derived.Test.YtaemlmpcclfmdaaB14
import Derived.Test.YtaemlmpcclfmdaaProg
namespace Go.Proofs.Ytaemlmpcclfmdaa
open Go.RowKit
theorem w7s0 : PC Try.prog 61 [slI 7 [[0, 0, 0, 100, 102, 1, 0]]] (.v (.bool false)) :=
  evLe_ok (by kernel_rfl) noT_ok (fuel := 300) (k := 40) (by kernel_rfl)
theorem w7s1 : PC Try.prog 61 [slI 7 [[0, 0, 10, 120, 121, 1, 10]]] (.v (.bool false)) :=
  evLe_ok (by kernel_rfl) noT_ok (fuel := 300) (k := 40) (by kernel_rfl)
theorem w7s2 : PC Try.prog 61 [slI 7 [[1, 0, 5, 20, 30, 0, 5]]] (.v (.bool false)) :=
  evLe_ok (by kernel_rfl) noT_ok (fuel := 300) (k := 40) (by kernel_rfl)
theorem w7s01 : PC Try.prog 61 [slI 7 [[0, 0, 0, 100, 102, 1, 0], [0, 0, 10, 120, 121, 1, 10]]] (.v (.bool false)) :=
  evLe_ok (by kernel_rfl) noT_ok (fuel := 300) (k := 40) (by kernel_rfl)
theorem w7s02 : PC Try.prog 61 [slI 7 [[0, 0, 0, 100, 102, 1, 0], [1, 0, 5, 20, 30, 0, 5]]] (.v (.bool false)) :=
  evLe_ok (by kernel_rfl) noT_ok (fuel := 300) (k := 40) (by kernel_rfl)
theorem w7s12 : PC Try.prog 61 [slI 7 [[0, 0, 10, 120, 121, 1, 10], [1, 0, 5, 20, 30, 0, 5]]] (.v (.bool false)) :=
  evLe_ok (by kernel_rfl) noT_ok (fuel := 300) (k := 40) (by kernel_rfl)
end Go.Proofs.Ytaemlmpcclfmdaa
