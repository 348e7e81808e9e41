/- Helpers: the choice of the minimum motion. -/
import Derived.Test.YtjncjoaohonmjaaGreatB10
namespace Go.Proofs.YtjncjoaohonmjaaGreat
open Go.RowKit Go.Shelf Go.Sort
attribute [local go_sem] idx3_0 idx3_1 idx3_2 old1 fro1 old2 fro2 old3 fro3 old4 fro4 old5 fro5 old6 fro6 old7 fro7 old8 fro8 old9 fro9 old10 fro10 old11 fro11 old12 fro12
set_option maxRecDepth 100000 in
set_option maxHeartbeats 2000000 in
theorem minimumMotion1_any (bd ba br : Nat) (t lo hi st ra fr a r x : Int) (w : World) (d0 : w.cell? ⟨bd, 0, none⟩ = some (.int .i64 t)) (d1 : w.cell? ⟨bd, 1, none⟩ = some (.int .i64 lo)) (d2 : w.cell? ⟨bd, 2, none⟩ = some (.int .i64 hi)) (d3 : w.cell? ⟨bd, 3, none⟩ = some (.int .i64 st)) (d4 : w.cell? ⟨bd, 4, none⟩ = some (.int .i64 ra))
    (a0 : w.cell? ⟨ba, 0, none⟩ = some (.int .i64 fr)) (r0 : w.cell? ⟨br, 0, none⟩ = some (.int .i64 x)) (h1 : -100000 ≤ a - fr) (h2 : a - fr ≤ 100000) (h3 : -1 ≤ r) (h4 : r ≤ 100000000) :
    Calls Tryz.prog 93 #[.agg #[.int .i64 a, .int .i64 r], .pointer (some ⟨bd, 0, none⟩), .pointer (some ⟨ba, 0, none⟩), .pointer (some ⟨br, 0, none⟩)] w fun e w' => e = .returned (.bool (tv ra fr a r == x)) ∧ Below w.heap.size w w' := by
  have l0 := lt_of r0
  have HT := fun W => Lib.hid (travelVia_any t lo hi st ra fr a r W h1 h2 h3 h4)
  go_enter Tryz.func93, Tryz.ntmps93
  go_wp2_with fail
  go_region_with (go_at_call 94; (with_reducible refine Calls.mono (HT _).out ?_); rintro e w1 ⟨rfl, o1, o2, rfl⟩)
  all_goals go_wp2
  all_goals go_ret
  all_goals exact ⟨rfl, by (repeat (first | with_reducible exact Below.refl _ _ | with_reducible assumption | with_reducible refine Below.alloc ?_ (by first | (simp; done) | (simp; omega) | omega) _ | with_reducible refine Below.setCell ?_ (by first | (simp; done) | (simp; omega) | omega) _ | with_reducible refine Below.drew ?_ | with_reducible refine below_drewN ?_ _))⟩
end Go.Proofs.YtjncjoaohonmjaaGreat
