/- Helpers: calls of this chapter with known arguments. No condition but the hypotheses that each theorem names. -/
import Derived.Test.YtaemlmpcclfmdaaB17
import Derived.Test.YtaemlmpcclfmdaaB18
import Derived.Test.YtaemlmpcclfmdaaProg
namespace Go.Proofs.Ytaemlmpcclfmdaa
open Go.RowKit
theorem w7x : PC Try.prog 29 [slI 5 [[0, 0, 0, 100, 102], [0, 0, 10, 120, 121], [1, 0, 5, 20, 30]]] (.tup 2 (vec [slI 1 [[0], [1], [2]], i64 0])) :=
  evLe_ok (by kernel_rfl) (knT_ok (okKn_cons w7s012 (okKn_cons w7s12 (okKn_cons w7s02 (okKn_cons w7s01 (okKn_cons w7s2 (okKn_cons w7s1 (okKn_cons w7s0 okKn_nil)))))))) (fuel := 300) (k := 40) (by kernel_rfl)
end Go.Proofs.Ytaemlmpcclfmdaa
