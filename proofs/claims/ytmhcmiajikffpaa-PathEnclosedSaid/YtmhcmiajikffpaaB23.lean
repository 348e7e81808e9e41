/- Helpers: the law PathEnclosed, all of it. -/
import Derived.Test.YtmhcmiajikffpaaB18
import Derived.Test.YtmhcmiajikffpaaB22
namespace Go.Proofs.Ytmhcmiajikffpaa
open Go.RowKit Go.Shelf Go.Sort
attribute [local go_sem] idx3_0 idx3_1 idx3_2 old1 fro1 old2 fro2 old3 fro3 old4 fro4 old5 fro5 old6 fro6 old7 fro7 old8 fro8 old9 fro9 old10 fro10 old11 fro11 old12 fro12
def me0 : List Bool := [false, false, false, false, false, false, false, false, false, false, false, false, false, false, false, false, false, false, false, false, false, false, false, false, false, false, false, false, false, true, true, false, false, false, false, false, false, false, false, false, false, false, false, false, false, false, false, false, false, false, false, false, false, false, false, false, false, false, false, false, false, false, false, false, false, false, false, false, false, false, false, false, false, false, false, false, false, false, false, false, false, false, false, false, false, false, false, false, false, false, false, false, false, false, false, false, false, false, false, false, false, false, false, false, false, false, false, false, false, false, false, false, false, false, false, false, false, false, false, false, false, false, false, false, false, false, false, false, false, false, false, false, false, false, false, false, false, false, false, false, false, false, false, false, false, false, false, false, false, false, false, false, false, false, false, false, false, false, false, false, false, false, false, false, false, false, false, false, false, false, false, false, false, false, false, false, false, false, false, false, false, false, false, false, false, false, false, false, false, false, false, false, false, false, false, false, false, false, false, false, false, false, false, false, false, false, false, false, false, false, false, false, false, false, false, false, false, false, false, false, false, false, false, false, false, false, false, false, false, false, false, false, false, false, false, false, false, false, false, false, false, false, false, false, false, false, false, false, false, false, false, false, false, false, false, false, false, false, false, false, false, false, false, false, false, true, true, true, true, true, true, true, true, true, true, true, true, true, true, false, false, false, false, false, false, false, false, false, false, false, false, false, false, false, false, false, false, false, false, false, false, false, false, false, false, false, false, false, false, false, false, false, false, false, false, false, false, false, false, false, false, false, false, false, false, false, false, false, false, false, false, false, false]
def me1 : List Bool := [false, false, false, false, false, false, false, false, false, false, false, true, true, false, false, false, false, false, false, false, false, false, false, false, false, false, false, false, false, false, false, false, false, false, false, false, false, false, false, false, false, false, false, false, false, false, false, false, false, false, false, false, false, false, false, false, false, false, false, false, false, false, false, false, false, false, false, false, false, false, false, false, false, false, false, false, false, false, false, false, false, false, false, false, false, false, false, false, true, true, true, true, true, true, true, true, true, false, false, false, false, false, false, false, false, false, false, false, false, false, false, false, false, false, false, false, false, false, false, false, false, false, false, false, false, false, false, false, false, false, false, false, false, false, false, false, false, false, false, false, false, false, false, false, false, false, false, false, false, false, false, false, false, false, false, false, false, false, false, false, false, false, false, false, false, false, false, false, false, false, false, false, false, false, false, false, false, false, false, false, false, false, false, false, false, false, false, false, false, false, false, false, false, false, false, false, false, false, false, false, false, false, false, false, false, false, false, false, false, false, false, false, false, false, false, false, false, false, false, false, false, false, false, false, false, false, false, false, false, false, false, false, false, false, false, false, false, false, false, false, false, false, false, false, false, false, false, false, false, false, false, false, false, false, false, false, false, false, false, false, false, false, false, false, false, false, false, false, false, false, false, false, false, false, false, false, false, false, false, false, false, false, false, false, false, false, false, false, false, false, false, false, false, false, false, false, false, false, false, false, false, false, false, false, false, false, false, false, false, false, false, false, false, false, false, false, false, false, false, false, false, false, false, false, false, false, false, false, false, false, false, false, false]
def me2 : List Bool := [false, false, false, false, false, false, false, false, false, false, false, false, false, true, true, false, false, false, false, false, false, false, false, false, false, false, false, false, false, false, false, false, false, false, false, false, false, false, false, false, false, false, false, false, false, false, false, false, false, false, false, false, false, false, false, false, false, false, false, false, false, false, false, false, false, false, false, false, false, false, false, false, false, false, false, false, false, false, false, false, false, false, false, false, false, false, false, false, false, false, false, false, false, false, false, false, false, true, true, true, true, true, true, true, true, true, false, false, false, false, false, false, false, false, false, false, false, false, false, false, false, false, false, false, false, false, false, false, false, false, false, false, false, false, false, false, false, false, false, false, false, false, false, false, false, false, false, false, false, false, false, false, false, false, false, false, false, false, false, false, false, false, false, false, false, false, false, false, false, false, false, false, false, false, false, false, false, false, false, false, false, false, false, false, false, false, false, false, false, false, false, false, false, false, false, false, false, false, false, false, false, false, false, false, false, false, false, false, false, false, false, false, false, false, false, false, false, false, false, false, false, false, false, false, false, false, false, false, false, false, false, false, false, false, false, false, false, false, false, false, false, false, false, false, false, false, false, false, false, false, false, false, false, false, false, false, false, false, false, false, false, false, false, false, false, false, false, false, false, false, false, false, false, false, false, false, false, false, false, false, false, false, false, false, false, false, false, false, false, false, false, false, false, false, false, false, false, false, false, false, false, false, false, false, false, false, false, false, false, false, false, false, false, false, false, false, false, false, false, false, false, false, false, false, false, false, false, false, false, false, false, false, false]
def me3 : List Bool := [false, false, false, false, false, false, false, false, false, false, false, false, false, false, false, true, true, false, false, false, false, false, false, false, false, false, false, false, false, false, false, false, false, false, false, false, false, false, false, false, false, false, false, false, false, false, false, false, false, false, false, false, false, false, false, false, false, false, false, false, false, false, false, false, false, false, false, false, false, false, false, false, false, false, false, false, false, false, false, false, false, false, false, false, false, false, false, false, false, false, false, false, false, false, false, false, false, false, false, false, false, false, false, false, false, false, true, true, true, true, true, true, true, true, true, false, false, false, false, false, false, false, false, false, false, false, false, false, false, false, false, false, false, false, false, false, false, false, false, false, false, false, false, false, false, false, false, false, false, false, false, false, false, false, false, false, false, false, false, false, false, false, false, false, false, false, false, false, false, false, false, false, false, false, false, false, false, false, false, false, false, false, false, false, false, false, false, false, false, false, false, false, false, false, false, false, false, false, false, false, false, false, false, false, false, false, false, false, false, false, false, false, false, false, false, false, false, false, false, false, false, false, false, false, false, false, false, false, false, false, false, false, false, false, false, false, false, false, false, false, false, false, false, false, false, false, false, false, false, false, false, false, false, false, false, false, false, false, false, false, false, false, false, false, false, false, false, false, false, false, false, false, false, false, false, false, false, false, false, false, false, false, false, false, false, false, false, false, false, false, false, false, false, false, false, false, false, false, false, false, false, false, false, false, false, false, false, false, false, false, false, false, false, false, false, false, false, false, false, false, false, false, false, false, false, false, false, false, false, false, false, false, false]
def me4 : List Bool := [false, false, false, false, false, false, false, false, false, false, false, false, false, false, false, false, false, true, true, false, false, false, false, false, false, false, false, false, false, false, false, false, false, false, false, false, false, false, false, false, false, false, false, false, false, false, false, false, false, false, false, false, false, false, false, false, false, false, false, false, false, false, false, false, false, false, false, false, false, false, false, false, false, false, false, false, false, false, false, false, false, false, false, false, false, false, false, false, false, false, false, false, false, false, false, false, false, false, false, false, false, false, false, false, false, false, false, false, false, false, false, false, false, false, false, true, true, true, true, true, true, true, true, true, false, false, false, false, false, false, false, false, false, false, false, false, false, false, false, false, false, false, false, false, false, false, false, false, false, false, false, false, false, false, false, false, false, false, false, false, false, false, false, false, false, false, false, false, false, false, false, false, false, false, false, false, false, false, false, false, false, false, false, false, false, false, false, false, false, false, false, false, false, false, false, false, false, false, false, false, false, false, false, false, false, false, false, false, false, false, false, false, false, false, false, false, false, false, false, false, false, false, false, false, false, false, false, false, false, false, false, false, false, false, false, false, false, false, false, false, false, false, false, false, false, false, false, false, false, false, false, false, false, false, false, false, false, false, false, false, false, false, false, false, false, false, false, false, false, false, false, false, false, false, false, false, false, false, false, false, false, false, false, false, false, false, false, false, false, false, false, false, false, false, false, false, false, false, false, false, false, false, false, false, false, false, false, false, false, false, false, false, false, false, false, false, false, false, false, false, false, false, false, false, false, false, false, false, false, false, false, false, false]
def me5 : List Bool := [false, false, false, false, false, false, false, false, false, false, false, false, false, false, false, false, false, false, false, true, true, false, false, false, false, false, false, false, false, false, false, false, false, false, false, false, false, false, false, false, false, false, false, false, false, false, false, false, false, false, false, false, false, false, false, false, false, false, false, false, false, false, false, false, false, false, false, false, false, false, false, false, false, false, false, false, false, false, false, false, false, false, false, false, false, false, false, false, false, false, false, false, false, false, false, false, false, false, false, false, false, false, false, false, false, false, false, false, false, false, false, false, false, false, false, false, false, false, false, false, false, false, false, false, true, true, true, true, true, true, true, true, true, false, false, false, false, false, false, false, false, false, false, false, false, false, false, false, false, false, false, false, false, false, false, false, false, false, false, false, false, false, false, false, false, false, false, false, false, false, false, false, false, false, false, false, false, false, false, false, false, false, false, false, false, false, false, false, false, false, false, false, false, false, false, false, false, false, false, false, false, false, false, false, false, false, false, false, false, false, false, false, false, false, false, false, false, false, false, false, false, false, false, false, false, false, false, false, false, false, false, false, false, false, false, false, false, false, false, false, false, false, false, false, false, false, false, false, false, false, false, false, false, false, false, false, false, false, false, false, false, false, false, false, false, false, false, false, false, false, false, false, false, false, false, false, false, false, false, false, false, false, false, false, false, false, false, false, false, false, false, false, false, false, false, false, false, false, false, false, false, false, false, false, false, false, false, false, false, false, false, false, false, false, false, false, false, false, false, false, false, false, false, false, false, false, false, false, false, false, false, false, false]
def me6 : List Bool := [false, false, false, false, false, false, false, false, false, false, false, false, false, false, false, false, false, false, false, false, false, true, true, false, false, false, false, false, false, false, false, false, false, false, false, false, false, false, false, false, false, false, false, false, false, false, false, false, false, false, false, false, false, false, false, false, false, false, false, false, false, false, false, false, false, false, false, false, false, false, false, false, false, false, false, false, false, false, false, false, false, false, false, false, false, false, false, false, false, false, false, false, false, false, false, false, false, false, false, false, false, false, false, false, false, false, false, false, false, false, false, false, false, false, false, false, false, false, false, false, false, false, false, false, false, false, false, false, false, false, false, false, false, true, true, true, true, true, true, true, true, true, false, false, false, false, false, false, false, false, false, false, false, false, false, false, false, false, false, false, false, false, false, false, false, false, false, false, false, false, false, false, false, false, false, false, false, false, false, false, false, false, false, false, false, false, false, false, false, false, false, false, false, false, false, false, false, false, false, false, false, false, false, false, false, false, false, false, false, false, false, false, false, false, false, false, false, false, false, false, false, false, false, false, false, false, false, false, false, false, false, false, false, false, false, false, false, false, false, false, false, false, false, false, false, false, false, false, false, false, false, false, false, false, false, false, false, false, false, false, false, false, false, false, false, false, false, false, false, false, false, false, false, false, false, false, false, false, false, false, false, false, false, false, false, false, false, false, false, false, false, false, false, false, false, false, false, false, false, false, false, false, false, false, false, false, false, false, false, false, false, false, false, false, false, false, false, false, false, false, false, false, false, false, false, false, false, false, false, false, false, false, false]
def me7 : List Bool := [false, false, false, false, false, false, false, false, false, false, false, false, false, false, false, false, false, false, false, false, false, false, false, false, false, false, false, false, false, false, false, false, false, false, false, false, false, false, false, false, false, false, false, false, false, false, false, false, false, false, false, false, false, false, false, false, false, false, false, false, false, false, false, false, false, false, false, false, false, false, false, false, false, false, false, false, false, false, false, false, false, false, false, false, false, false, false, false, false, false, false, false, false, false, false, false, false, false, false, false, false, false, false, false, false, false, false, false, false, false, false, false, false, false, false, false, false, false, false, false, false, false, false, false, false, false, false, false, false, false, false, false, false, false, false, false, false, false, false, false, false, false, false, false, false, false, false, false, false, false, false, false, false, false, false, false, false, false, false, false, false, false, false, false, false, false, false, false, false, false, false, false, false, false, false, false, true, true, true, true, true, true, true, true, true, true, true, true, true, true, true, true, true, true, true, true, true, false, false, false, false, false, false, false, false, false, false, false, false, false, false, false, false, false, false, false, false, false, false, false, false, false, false, false, false, false, false, false, false, false, false, false, false, false, false, false, false, false, false, false, false, false, false, false, false, false, false, false, false, false, false, false, false, false, false, false, false, false, false, false, false, false, false, false, false, false, false, false, false, false, false, false, false, false, false, false, false, false, false, false, false, false, false, false, false, false, false, false, false, false, false, false, false, false, false, false, false, false, false, false, false, false, false, false, false, false, false, false, false, false, false, false, false, false, false, false, false, false, false, false, false, false, false, false, false, false, false, false, false, false, false, false, false]
def me8 : List Bool := [false, false, false, false, false, false, false, false, false, false, false, false, false, false, false, false, false, false, false, false, false, false, false, false, false, false, false, false, false, false, false, false, false, false, false, false, false, false, false, false, false, false, false, false, false, false, false, false, false, false, false, false, false, false, false, false, false, false, false, false, false, false, false, false, false, false, false, false, false, false, false, false, false, false, false, false, false, false, false, false, false, false, false, false, false, false, false, false, false, false, false, false, false, false, false, false, false, false, false, false, false, false, false, false, false, false, false, false, false, false, false, false, false, false, false, false, false, false, false, false, false, false, false, false, false, false, false, false, false, false, false, false, false, false, false, false, false, false, false, false, false, false, false, false, false, false, false, false, false, false, false, false, false, false, false, false, false, false, false, false, false, false, false, false, false, false, false, false, false, false, false, false, false, false, false, false, false, false, false, false, false, false, false, false, false, false, false, false, false, false, false, false, false, false, false, false, false, false, false, false, false, false, false, false, false, false, false, false, false, false, false, false, false, false, false, false, false, false, false, false, false, false, false, false, false, false, false, false, false, false, false, false, false, false, false, false, false, false, false, false, false, false, false, false, false, false, false, false, false, false, false, false, false, false, false, false, false, false, false, false, false, false, false, false, false, false, false, false, false, false, false, false, false, false, false, false, false, false, false, false, false, false, false, true, true, true, true, true, true, true, true, true, true, true, true, true, true, true, true, true, true, true, true, true, true, true, true, true, true, true, true, true, true, true, true, true, true, true, true, true, true, true, true, true, true, true, true, true, true, true, true, true, true]
/-- a slice of three ranges -/
def mpSix (x0 x1 x2 x3 x4 x5 : Int) : MP := ⟨fun v w => ∃ s, v = .slice (some ⟨s, 0, none⟩) 3 3 ∧ w.cell? ⟨s, 0, none⟩ = some (.int .i64 x0) ∧ w.cell? ⟨s, 1, none⟩ = some (.int .i64 x1) ∧ w.cell? ⟨s, 2, none⟩ = some (.int .i64 x2) ∧ w.cell? ⟨s, 3, none⟩ = some (.int .i64 x3) ∧ w.cell? ⟨s, 4, none⟩ = some (.int .i64 x4) ∧ w.cell? ⟨s, 5, none⟩ = some (.int .i64 x5),
  fun _ _ _ ⟨s, hv, h0, h1, h2, h3, h4, h5⟩ hb => ⟨s, hv, keep hb h0, keep hb h1, keep hb h2, keep hb h3, keep hb h4, keep hb h5⟩⟩
set_option maxRecDepth 100000 in
set_option maxHeartbeats 8000000 in
theorem pe_main (A B C : Option Addr) (na nb nc ca cb cc : Nat) (da db dc time more : Int) (ka kb kc : Nat → Knot) (w : World) (x1 x2 z1 z2 v1 v2 u1 u2 o2 b1 b2 b3 b4 b5 b6 : Int) (hA0 : A = none → na = 0 ∧ ca = 0) (hB0 : B = none → nb = 0 ∧ cb = 0) (hC0 : C = none → nc = 0 ∧ cc = 0) (hA : KA w A na ka) (hB : KA w B nb kb) (hC : KA w C nc kc) (na0 : 0 < na) (na1 : na ≤ 14) (nb1 : nb ≤ 14) (nc1 : nc ≤ 14)
    (hF2 : ∀ W, Calls Try.prog 7 #[.agg #[.slice A na ca, .int .i64 da], .agg #[.slice B nb cb, .int .i64 db]] W fun e w' => e = .returned (.bool true) ∧ Below W.heap.size W w')
    (hF1 : ∀ W, Calls Try.prog 8 #[.agg #[.slice C nc cc, .int .i64 dc]] W fun e w' => e = .returned (.bool true) ∧ Below W.heap.size W w')
    (hBE : ∀ W, KA W A na ka → KA W B nb kb → Calls Try.prog 9 #[.agg #[.slice A na ca, .int .i64 da], .agg #[.slice B nb cb, .int .i64 db]] W fun e w' => e = .returned (.int .i64 0) ∧ Below W.heap.size W w')
    (hTR : ∀ W, KA W C nc kc → Calls Try.prog 10 #[.agg #[.slice C nc cc, .int .i64 dc]] W fun e w' => e = .returned (.int .i64 0) ∧ Below W.heap.size W w')
    (hTS : ∀ W, KA W A na ka → KA W B nb kb → Calls Try.prog 11 #[.agg #[.slice A na ca, .int .i64 da], .agg #[.slice B nb cb, .int .i64 db], .int .i64 time] W fun e w' => e = .returned (.int .i64 0) ∧ Below W.heap.size W w')
    (hTC : ∀ W, KA W C nc kc → Calls Try.prog 12 #[.agg #[.slice C nc cc, .int .i64 dc], .int .i64 time] W fun e w' => e = .returned (.int .i64 0) ∧ Below W.heap.size W w')
    (d0 : 0 ≤ da) (d1 : da ≤ 1000) (m0 : 0 ≤ more) (m1 : more ≤ 1000 - da)
    (hDx : ∀ W X cx Y cy, KA W X na ka → KA W Y nb kb → Calls Try.prog 15 #[.agg #[.slice X na cx, .int .i64 da], .agg #[.slice Y nb cy, .int .i64 db], .int .i64 time] W fun e w' => e = .returned (.tuple #[.agg #[.int .i64 x1, .int .i64 x2], .int .i64 0]) ∧ Below W.heap.size W w')
    (hDy : ∀ W X cx Y cy, KA W X nb kb → KA W Y na ka → Calls Try.prog 15 #[.agg #[.slice X nb cx, .int .i64 db], .agg #[.slice Y na cy, .int .i64 da], .int .i64 time] W fun e w' => e = .returned (.tuple #[.agg #[.int .i64 x1, .int .i64 x2], .int .i64 0]) ∧ Below W.heap.size W w')
    (hDz : ∀ W X cx Y cy, KA W X na ka → KA W Y nc kc → Calls Try.prog 15 #[.agg #[.slice X na cx, .int .i64 da], .agg #[.slice Y nc cy, .int .i64 dc], .int .i64 time] W fun e w' => e = .returned (.tuple #[.agg #[.int .i64 z1, .int .i64 z2], .int .i64 0]) ∧ Below W.heap.size W w')
    (hDw : ∀ W X cx Y cy, KA W X nc kc → KA W Y nb kb → Calls Try.prog 15 #[.agg #[.slice X nc cx, .int .i64 dc], .agg #[.slice Y nb cy, .int .i64 db], .int .i64 time] W fun e w' => e = .returned (.tuple #[.agg #[.int .i64 v1, .int .i64 v2], .int .i64 0]) ∧ Below W.heap.size W w')
    (hDu : ∀ W X cx Y cy, KA W X na ka → KA W Y nb kb → Calls Try.prog 15 #[.agg #[.slice X na cx, .int .i64 (da + more)], .agg #[.slice Y nb cy, .int .i64 db], .int .i64 time] W fun e w' => e = .returned (.tuple #[.agg #[.int .i64 u1, .int .i64 u2], .int .i64 0]) ∧ Below W.heap.size W w')
    (hDo : ∀ W X cx Y cy, KA W X na ka → KA W Y na ka → Calls Try.prog 15 #[.agg #[.slice X na cx, .int .i64 da], .agg #[.slice Y na cy, .int .i64 da], .int .i64 time] W fun e w' => e = .returned (.tuple #[.agg #[.int .i64 0, .int .i64 o2], .int .i64 0]) ∧ Below W.heap.size W w')
    (hB1 : ∀ W X cx, KA W X na ka → Calls Try.prog 16 #[.agg #[.slice X na cx, .int .i64 da], .int .i64 time] W fun e w' => e = .returned (.tuple #[.agg #[.int .i64 b1, .int .i64 b2, .int .i64 b3, .int .i64 b4, .int .i64 b5, .int .i64 b6], .int .i64 0]) ∧ Below W.heap.size W w')
    (hB2 : ∀ W X cx, KA W X na ka → Calls Try.prog 16 #[.agg #[.slice X na cx, .int .i64 (da + more)], .int .i64 time] W fun e w' => e = .returned (.tuple #[.agg #[.int .i64 (b1 - more), .int .i64 (b2 + more), .int .i64 (b3 - more), .int .i64 (b4 + more), .int .i64 (b5 - more), .int .i64 (b6 + more)], .int .i64 0]) ∧ Below W.heap.size W w')
    (f1 : wi x1 0 10000000 = true) (f2 : wi x2 x1 10000000 = true) (f3 : wi z1 0 10000000 = true) (f4 : wi z2 z1 10000000 = true) (f5 : wi v1 0 10000000 = true) (f6 : wi v2 v1 10000000 = true) (f7 : wi u1 0 10000000 = true) (f8 : wi u2 u1 10000000 = true) (f9 : wi 0 0 10000000 = true) (f10 : wi o2 0 10000000 = true)
    (z20 : 0 ≤ z2) (z21 : z2 ≤ 10000000) (v20 : 0 ≤ v2) (v21 : v2 ≤ 10000000) (lb1 : -30000000000 ≤ b1) (hb1 : b1 ≤ 30000000000) (lb2 : -30000000000 ≤ b2) (hb2 : b2 ≤ 30000000000) (lb3 : -30000000000 ≤ b3) (hb3 : b3 ≤ 30000000000) (lb4 : -30000000000 ≤ b4) (hb4 : b4 ≤ 30000000000) (lb5 : -30000000000 ≤ b5) (hb5 : b5 ≤ 30000000000) (lb6 : -30000000000 ≤ b6) (hb6 : b6 ≤ 30000000000) (hwi1 : wi (b2 - b1) (2 * da) (2 * da + 1) = true) (hwi2 : wi (b4 - b3) (2 * da) (2 * da + 1) = true) (hwi3 : wi (b6 - b5) (2 * da) (2 * da + 1) = true) (c1 : x1 ≤ z2 + v2) (c2 : u1 ≤ x1) (c3 : x2 ≤ u2) (c4 : 2 * da ≤ o2) (c5 : o2 ≤ 4 * da) :
    Calls Try.prog 3 #[.agg #[.slice A na ca, .int .i64 da, .slice B nb cb, .int .i64 db, .slice C nc cc, .int .i64 dc], .int .i64 time, .int .i64 more] w fun e w' => e = .returned (.bool true) ∧ Below w.heap.size w w' := by
  have HA := Lib.hid hA
  have HB := Lib.hid hB
  have HC := Lib.hid hC
  have HA0 := Lib.hid hA0
  have HB0 := Lib.hid hB0
  have HC0 := Lib.hid hC0
  have HF2 := Lib.hid hF2
  have HF1 := Lib.hid hF1
  have HBE := Lib.hid hBE
  have HTR := Lib.hid hTR
  have HTS := Lib.hid hTS
  have HTC := Lib.hid hTC
  have HDx := Lib.hid hDx
  have HDy := Lib.hid hDy
  have HDz := Lib.hid hDz
  have HDw := Lib.hid hDw
  have HDu := Lib.hid hDu
  have HDo := Lib.hid hDo
  have HB1 := Lib.hid hB1
  have HB2 := Lib.hid hB2
  clear hA hB hC hA0 hB0 hC0 hF2 hF1 hBE hTR hTS hTC hDx hDy hDz hDw hDu hDo hB1 hB2
  go_enter Try.func3, Try.ntmps3
  go_wp2_with (first
    | (go_at_call 6; (with_reducible refine Calls.mono (awake_any _) ?_); rintro e w1 ⟨rfl, hb1⟩; have B1 := Lib.hid (thenB (show Below w.heap.size w _ by (repeat (first | with_reducible exact Below.refl _ _ | with_reducible assumption | with_reducible refine Below.alloc ?_ (by first | (simp; done) | (simp; omega) | omega) _ | with_reducible refine Below.setCell ?_ (by first | (simp; done) | (simp; omega) | omega) _ | with_reducible refine Below.drew ?_ | with_reducible refine below_drewN ?_ _))) hb1); have l0 := (hb1.cell (p := ⟨w.heap.size, 0, none⟩) (by first | (simp; done) | (simp; omega) | omega)).trans (show _ = some (.slice A na ca) by simp [go_sem]); have l1 := (hb1.cell (p := ⟨w.heap.size, 1, none⟩) (by first | (simp; done) | (simp; omega) | omega)).trans (show _ = some (.int .i64 da) by simp [go_sem]); have l2 := (hb1.cell (p := ⟨w.heap.size, 2, none⟩) (by first | (simp; done) | (simp; omega) | omega)).trans (show _ = some (.slice B nb cb) by simp [go_sem]); have l3 := (hb1.cell (p := ⟨w.heap.size, 3, none⟩) (by first | (simp; done) | (simp; omega) | omega)).trans (show _ = some (.int .i64 db) by simp [go_sem]); have l4 := (hb1.cell (p := ⟨w.heap.size, 4, none⟩) (by first | (simp; done) | (simp; omega) | omega)).trans (show _ = some (.slice C nc cc) by simp [go_sem]); have l5 := (hb1.cell (p := ⟨w.heap.size, 5, none⟩) (by first | (simp; done) | (simp; omega) | omega)).trans (show _ = some (.int .i64 dc) by simp [go_sem]); clear hb1)
    | fail)
  go_cut [7, 8, 9] from 32 to 39 (fun s7 s8 s9 wx => ∃ pa pb pc : Nat, s7 = .pointer (some ⟨pa, 0, none⟩) ∧ s8 = .pointer (some ⟨pb, 0, none⟩) ∧ s9 = .pointer (some ⟨pc, 0, none⟩) ∧ PE0 w A B C na nb nc ca cb cc da db dc pa pb pc wx)
  case first =>
    go_region_held3 (fun w' => w'.cell? ⟨w.heap.size, 0, none⟩ = some (.slice A na ca) ∧ w'.cell? ⟨w.heap.size, 1, none⟩ = some (.int .i64 da) ∧ w'.cell? ⟨w.heap.size, 2, none⟩ = some (.slice B nb cb) ∧ w'.cell? ⟨w.heap.size, 3, none⟩ = some (.int .i64 db) ∧ w'.cell? ⟨w.heap.size, 4, none⟩ = some (.slice C nc cc) ∧ w'.cell? ⟨w.heap.size, 5, none⟩ = some (.int .i64 dc)) (simp [go_sem, *]) (first | fail)
    all_goals
      go_wp2_with fail
      go_meet
      first
        | (obtain ⟨e, x0, x1, y0, y1, z0, z1⟩ := three_new B1.out (.slice A na ca) (.int .i64 da) (.slice B nb cb) (.int .i64 db) (.slice C nc cc) (.int .i64 dc) 24; refine ⟨_, _, _, rfl, rfl, rfl, ?_⟩; unfold PE0; with_reducible exact ⟨e, x0, x1, y0, y1, z0, z1⟩)
        | (obtain ⟨e, x0, x1, y0, y1, z0, z1⟩ := three_new B1.out (.slice A na ca) (.int .i64 da) (.slice C nc cc) (.int .i64 dc) (.slice B nb cb) (.int .i64 db) 24; refine ⟨_, _, _, rfl, rfl, rfl, ?_⟩; unfold PE0; with_reducible exact ⟨e, x0, x1, z0, z1, y0, y1⟩)
        | (obtain ⟨e, x0, x1, y0, y1, z0, z1⟩ := three_new B1.out (.slice B nb cb) (.int .i64 db) (.slice A na ca) (.int .i64 da) (.slice C nc cc) (.int .i64 dc) 24; refine ⟨_, _, _, rfl, rfl, rfl, ?_⟩; unfold PE0; with_reducible exact ⟨e, y0, y1, x0, x1, z0, z1⟩)
        | (obtain ⟨e, x0, x1, y0, y1, z0, z1⟩ := three_new B1.out (.slice B nb cb) (.int .i64 db) (.slice C nc cc) (.int .i64 dc) (.slice A na ca) (.int .i64 da) 24; refine ⟨_, _, _, rfl, rfl, rfl, ?_⟩; unfold PE0; with_reducible exact ⟨e, z0, z1, x0, x1, y0, y1⟩)
        | (obtain ⟨e, x0, x1, y0, y1, z0, z1⟩ := three_new B1.out (.slice C nc cc) (.int .i64 dc) (.slice A na ca) (.int .i64 da) (.slice B nb cb) (.int .i64 db) 24; refine ⟨_, _, _, rfl, rfl, rfl, ?_⟩; unfold PE0; with_reducible exact ⟨e, y0, y1, z0, z1, x0, x1⟩)
        | (obtain ⟨e, x0, x1, y0, y1, z0, z1⟩ := three_new B1.out (.slice C nc cc) (.int .i64 dc) (.slice B nb cb) (.int .i64 db) (.slice A na ca) (.int .i64 da) 24; refine ⟨_, _, _, rfl, rfl, rfl, ?_⟩; unfold PE0; with_reducible exact ⟨e, z0, z1, y0, y1, x0, x1⟩)
  case rest =>
    obtain ⟨pa, pb, pc, rfl, rfl, rfl, hP⟩ := hcut
    have B0_ := Lib.hid hP.1
    obtain ⟨_, p0_0, p1_0, p2_0, p3_0, p4_0, p5_0⟩ := hP
    have vv1 : IntKind.i64.wrap (1000 - da) = 1000 - da := IntWalk.i64_in _ (by omega)
    have vv2 : wi more 0 (1000 - da) = true := wi_t.2 ⟨m0, m1⟩
    go_wp2_with (first
      | (go_at_call 7; (with_reducible refine Calls.mono (HF2.out _) ?_); rintro e w2 ⟨rfl, hb2⟩; have B2 := Lib.hid (thenB B0_.out hb2); have p0_2 := keep hb2 p0_0; have p1_2 := keep hb2 p1_0; have p2_2 := keep hb2 p2_0; have p3_2 := keep hb2 p3_0; have p4_2 := keep hb2 p4_0; have p5_2 := keep hb2 p5_0; clear hb2)
      | (go_at_call 8; (with_reducible refine Calls.mono (HF1.out _) ?_); rintro e w3 ⟨rfl, hb3⟩; have B3 := Lib.hid (thenB B2.out hb3); have p0_3 := keep hb3 p0_2; have p1_3 := keep hb3 p1_2; have p2_3 := keep hb3 p2_2; have p3_3 := keep hb3 p3_2; have p4_3 := keep hb3 p4_2; have p5_3 := keep hb3 p5_2; clear hb3)
      | (go_at_call 9; (with_reducible refine Calls.mono (HBE.out _ (HA.out.bel B3.out) (HB.out.bel B3.out)) ?_); rintro e w4 ⟨rfl, hb4⟩; have B4 := Lib.hid (thenB B3.out hb4); have p0_4 := keep hb4 p0_3; have p1_4 := keep hb4 p1_3; have p2_4 := keep hb4 p2_3; have p3_4 := keep hb4 p3_3; have p4_4 := keep hb4 p4_3; have p5_4 := keep hb4 p5_3; clear hb4)
      | (go_at_call 10; (with_reducible refine Calls.mono (HTR.out _ (HC.out.bel B4.out)) ?_); rintro e w5 ⟨rfl, hb5⟩; have B5 := Lib.hid (thenB B4.out hb5); have p0_5 := keep hb5 p0_4; have p1_5 := keep hb5 p1_4; have p2_5 := keep hb5 p2_4; have p3_5 := keep hb5 p3_4; have p4_5 := keep hb5 p4_4; have p5_5 := keep hb5 p5_4; clear hb5)
      | (go_at_call 11; (with_reducible refine Calls.mono (HTS.out _ (HA.out.bel B5.out) (HB.out.bel B5.out)) ?_); rintro e w6 ⟨rfl, hb6⟩; have B6 := Lib.hid (thenB B5.out hb6); have p0_6 := keep hb6 p0_5; have p1_6 := keep hb6 p1_5; have p2_6 := keep hb6 p2_5; have p3_6 := keep hb6 p3_5; have p4_6 := keep hb6 p4_5; have p5_6 := keep hb6 p5_5; clear hb6)
      | (go_at_call 12; (with_reducible refine Calls.mono (HTC.out _ (HC.out.bel B6.out)) ?_); rintro e w7 ⟨rfl, hb7⟩; have B7 := Lib.hid (thenB B6.out hb7); have p0_7 := keep hb7 p0_6; have p1_7 := keep hb7 p1_6; have p2_7 := keep hb7 p2_6; have p3_7 := keep hb7 p3_6; have p4_7 := keep hb7 p4_6; have p5_7 := keep hb7 p5_6; clear hb7)
      | (go_at_call 14; (with_reducible refine Calls.mono (copyT_any A na ca da ka _ (by omega) HA0.out (HA.out.bel B7.out)) ?_); rintro e w8 ⟨A8, c8, rfl, hk8, hb8⟩; have B8 := Lib.hid (thenB B7.out hb8); have p0_8 := keep hb8 p0_7; have p1_8 := keep hb8 p1_7; have p2_8 := keep hb8 p2_7; have p3_8 := keep hb8 p3_7; have p4_8 := keep hb8 p4_7; have p5_8 := keep hb8 p5_7; have HA8 := Lib.hid hk8; clear hk8; clear hb8)
      | (go_at_call 13; (with_reducible refine (bwithin_any _ _ _ _).mono ?_); rintro e w' ⟨rfl, rfl⟩)
      | fail)
    clear vv1 vv2
    have HD0 := Lib.hid (show A8 = none → na = 0 ∧ c8 = 0 from fun h => by obtain ⟨b, off, e, _⟩ := HA8.out na0; rw [h] at e; cases e)
    have BV := Lib.hid (show Below w.heap.size w (w8.alloc (.cells #[.slice A8 na c8, .int .i64 (da + more)] 24)) by have Bq := B8.out; have Bz := Bq.size; (repeat (first | with_reducible exact Below.refl _ _ | with_reducible assumption | with_reducible refine Below.alloc ?_ (by first | (simp; done) | (simp; omega) | omega) _ | with_reducible refine Below.setCell ?_ (by first | (simp; done) | (simp; omega) | omega) _ | with_reducible refine Below.drew ?_ | with_reducible refine below_drewN ?_ _)))
    have HD_ := Lib.hid (HA8.out.bel (show Below w8.heap.size w8 (w8.alloc (.cells #[.slice A8 na c8, .int .i64 (da + more)] 24)) by (repeat (first | with_reducible exact Below.refl _ _ | with_reducible assumption | with_reducible refine Below.alloc ?_ (by first | (simp; done) | (simp; omega) | omega) _ | with_reducible refine Below.setCell ?_ (by first | (simp; done) | (simp; omega) | omega) _ | with_reducible refine Below.drew ?_ | with_reducible refine below_drewN ?_ _))))
    have HA_ := Lib.hid (HA.out.bel BV.out)
    have HB_ := Lib.hid (HB.out.bel BV.out)
    have HC_ := Lib.hid (HC.out.bel BV.out)
    have kpa0_ := keepA (.cells #[.slice A8 na c8, .int .i64 (da + more)] 24) p0_8
    have kpa1_ := keepA (.cells #[.slice A8 na c8, .int .i64 (da + more)] 24) p1_8
    have kpb0_ := keepA (.cells #[.slice A8 na c8, .int .i64 (da + more)] 24) p2_8
    have kpb1_ := keepA (.cells #[.slice A8 na c8, .int .i64 (da + more)] 24) p3_8
    have kpc0_ := keepA (.cells #[.slice A8 na c8, .int .i64 (da + more)] 24) p4_8
    have kpc1_ := keepA (.cells #[.slice A8 na c8, .int .i64 (da + more)] 24) p5_8
    obtain ⟨kpd0_, kpd1_⟩ := @two_new w8 (.slice A8 na c8) (.int .i64 (da + more)) 24
    generalize w8.alloc (.cells #[.slice A8 na c8, .int .i64 (da + more)] 24) = V at *
    generalize w8.heap.size = pd at *
    clear HA HB HC HA8 HF2 HF1 HBE HTR HTS HTC
    clear p0_0 p1_0 p2_0 p3_0 p4_0 p5_0 p0_2 p1_2 p2_2 p3_2 p4_2 p5_2 p0_3 p1_3 p2_3 p3_3 p4_3 p5_3 p0_4 p1_4 p2_4 p3_4 p4_4 p5_4 p0_5 p1_5 p2_5 p3_5 p4_5 p5_5 p0_6 p1_6 p2_6 p3_6 p4_6 p5_6 p0_7 p1_7 p2_7 p3_7 p4_7 p5_7 p0_8 p1_8 p2_8 p3_8 p4_8 p5_8 B0_ B2 B3 B4 B5 B6 B7 B8
    refine wp_region_st me1 (by kernel_rfl) [mpEq (.agg #[.slice A na ca, .int .i64 da]), mpCp na da ka, mpEq (.agg #[.slice B nb cb, .int .i64 db]), mpCp nb db kb, mpEq (.int .i64 time), mpEq (.tuple #[.agg #[.int .i64 x1, .int .i64 x2], .int .i64 0]), mpEq (.tuple #[.agg #[.int .i64 x1, .int .i64 x2], .int .i64 0]), mpEq (.agg #[.int .i64 x1, .int .i64 x2]), mpTop, mpNew (V).heap.size, mpTop, mpTop] [(fun _ => True), (fun _ => True), (fun _ => True), (fun _ => True), (fun _ => True), (fun _ => True), (· = .tuple #[.agg #[.int .i64 x1, .int .i64 x2], .int .i64 0]), (fun _ => True), (· = .int .i64 0), (fun _ => True), (fun _ => True), (· = .int .i64 0)] (mpVar (V).heap.size (x1) (x2)) 10 9 11 (by kernel_rfl) (by kernel_rfl) (by kernel_rfl) (by kernel_rfl) rfl (
      allOps_cons (rs_not (by kernel_rfl) (fun a' w' hb hs hd hp => rs_op fun K hK => by
    have e1 := (hs.get 7 (by kernel_rfl)).trans (show _ = Value.pointer (some ⟨pa, 0, none⟩) from rfl)
    have c0 := keep hb kpa0_
    have c1 := keep hb kpa1_
    clear hs hd hp
    unfold Oper.wp
    generalize a'.eval = ρ at e1 ⊢
    simp [go_sem, e1, c0, c1]
    exact hK _ _ (Below.refl _ _) rfl trivial)) <|
      allOps_cons (rs_not (by kernel_rfl) (fun a' w' hb hs hd hp => by
    exact rs_fn (φ := (mpCp na da ka).p) (ψ := (fun _ => True)) (vs := #[.agg #[.slice A na ca, .int .i64 da]]) rfl (enters_of Try.func14 (by kernel_rfl) rfl) (by simp [(show a'.eval (.tmp 89) = .agg #[.slice A na ca, .int .i64 da] from RDeps.get (hd (by kernel_rfl)) 0 89 (by kernel_rfl) (by kernel_rfl))]) ((copyT_any A na ca da ka w' (by omega) HA0.out (HA_.out.bel hb)).mono (by rintro e w1 ⟨X, c1, rfl, hk, h1⟩; exact ⟨_, rfl, h1, ⟨X, c1, rfl, hk⟩, trivial⟩)))) <|
      allOps_cons (rs_not (by kernel_rfl) (fun a' w' hb hs hd hp => rs_op fun K hK => by
    have e1 := (hs.get 8 (by kernel_rfl)).trans (show _ = Value.pointer (some ⟨pb, 0, none⟩) from rfl)
    have c0 := keep hb kpb0_
    have c1 := keep hb kpb1_
    clear hs hd hp
    unfold Oper.wp
    generalize a'.eval = ρ at e1 ⊢
    simp [go_sem, e1, c0, c1]
    exact hK _ _ (Below.refl _ _) rfl trivial)) <|
      allOps_cons (rs_not (by kernel_rfl) (fun a' w' hb hs hd hp => by
    exact rs_fn (φ := (mpCp nb db kb).p) (ψ := (fun _ => True)) (vs := #[.agg #[.slice B nb cb, .int .i64 db]]) rfl (enters_of Try.func14 (by kernel_rfl) rfl) (by simp [(show a'.eval (.tmp 91) = .agg #[.slice B nb cb, .int .i64 db] from RDeps.get (hd (by kernel_rfl)) 2 91 (by kernel_rfl) (by kernel_rfl))]) ((copyT_any B nb cb db kb w' (by omega) HB0.out (HB_.out.bel hb)).mono (by rintro e w1 ⟨X, c1, rfl, hk, h1⟩; exact ⟨_, rfl, h1, ⟨X, c1, rfl, hk⟩, trivial⟩)))) <|
      allOps_cons (rs_not (by kernel_rfl) (fun a' w' hb hs hd hp => rs_op fun K hK => by
    have e1 := (hs.get 1 (by kernel_rfl)).trans (show _ = .int .i64 time from rfl)
    clear hs hd hp
    unfold Oper.wp
    generalize a'.eval = ρ at e1 ⊢
    simp [go_sem, e1]
    exact hK _ _ (Below.refl _ _) rfl trivial)) <|
      allOps_cons (rs_not (by kernel_rfl) (fun a' w' hb hs hd hp => by
    obtain ⟨X1, c1, e1, k1⟩ := (show (mpCp na da ka).p (a'.eval (.tmp 90)) w' from RDeps.get (hd (by kernel_rfl)) 1 90 (by kernel_rfl) (by kernel_rfl))
    obtain ⟨X2, c2, e2, k2⟩ := (show (mpCp nb db kb).p (a'.eval (.tmp 92)) w' from RDeps.get (hd (by kernel_rfl)) 3 92 (by kernel_rfl) (by kernel_rfl))
    exact rs_fn (φ := (mpEq (.tuple #[.agg #[.int .i64 x1, .int .i64 x2], .int .i64 0])).p) (ψ := (fun _ => True)) (vs := #[.agg #[.slice X1 na c1, .int .i64 da], .agg #[.slice X2 nb c2, .int .i64 db], .int .i64 time]) rfl (enters_of Try.func15 (by kernel_rfl) rfl) (by simp [e1, e2, (show a'.eval (.tmp 93) = .int .i64 time from RDeps.get (hd (by kernel_rfl)) 4 93 (by kernel_rfl) (by kernel_rfl))]) ((HDx.out w' X1 c1 X2 c2 k1 k2).mono (by rintro e w1 ⟨rfl, h1⟩; exact ⟨_, rfl, h1, rfl, trivial⟩)))) <|
      allOps_cons (rs_not (by kernel_rfl) (fun a' w' hb hs hd hp => rs_op fun K hK => by
    have e1 := (show a'.eval (.tmp 94) = .tuple #[.agg #[.int .i64 x1, .int .i64 x2], .int .i64 0] from RDeps.get (hd (by kernel_rfl)) 5 94 (by kernel_rfl) (by kernel_rfl))
    clear hs hd hp
    unfold Oper.wp
    generalize a'.eval = ρ at e1 ⊢
    simp [go_sem, e1]
    exact hK _ _ (Below.refl _ _) rfl rfl)) <|
      allOps_cons (rs_not (by kernel_rfl) (fun a' w' hb hs hd hp => rs_op fun K hK => by
    have e1 := (show a'.eval (.tmp 88) = .tuple #[.agg #[.int .i64 x1, .int .i64 x2], .int .i64 0] from RDeps.get (hd (by kernel_rfl)) 6 88 (by kernel_rfl) (by kernel_rfl))
    clear hs hd hp
    unfold Oper.wp
    generalize a'.eval = ρ at e1 ⊢
    simp [go_sem, e1]
    exact hK _ _ (Below.refl _ _) rfl trivial)) <|
      allOps_cons (rs_not (by kernel_rfl) (fun a' w' hb hs hd hp => rs_op fun K hK => by
    have e1 := (show a'.eval (.tmp 88) = .tuple #[.agg #[.int .i64 x1, .int .i64 x2], .int .i64 0] from hp.get 6 88 (by kernel_rfl) (by kernel_rfl))
    clear hs hd hp
    unfold Oper.wp
    generalize a'.eval = ρ at e1 ⊢
    simp [go_sem, e1]
    exact hK _ _ (Below.refl _ _) trivial rfl)) <|
      allOps_cons (rs_not (by kernel_rfl) (fun a' w' hb hs hd hp => rs_op fun K hK => by
    have hz := hb.size
    clear hs hd hp
    unfold Oper.wp
    generalize a'.eval = ρ
    simp [go_sem]
    exact hK _ _ ((Below.refl _ _).alloc (Nat.le_refl _) _) ⟨_, rfl, hz, by simp [go_sem], by simp [go_sem], by simp [go_sem], by simp [go_sem]⟩ trivial)) <|
      allOps_cons (rs_is (by kernel_rfl) (fun a' w' hb hs hd => rs_st rfl fun K hK => by
    obtain ⟨q, e1, zq, c0, c1, f0, f1⟩ := (show (mpNew (V).heap.size).p (a'.eval (.tmp 11)) w' from hd.get 9 11 (by kernel_rfl) (by kernel_rfl))
    have e2 := (show a'.eval (.tmp 95) = .agg #[.int .i64 (x1), .int .i64 (x2)] from hd.get 7 95 (by kernel_rfl) (by kernel_rfl))
    have hz := lt_of c0
    clear hs hd
    unfold Oper.wp
    generalize a'.eval = ρ at e1 e2 hK ⊢
    simp [go_sem, e1, e2, c0, c1, f0, f1]
    exact hK _ (Below.setCell (Below.setCell hb zq _) zq _) ⟨q, e1, zq, by simp [go_sem, c0], by simp [go_sem, c1], by simp [go_sem, f0], by simp [go_sem, f1]⟩)) <|
      allOps_cons (rs_not (by kernel_rfl) (fun a' w' hb hs hd hp => rs_op fun K hK => by
    have e1 := (show a'.eval (.tmp 96) = .int .i64 0 from hp.get 8 96 (by kernel_rfl) (by kernel_rfl))
    clear hs hd hp
    unfold Oper.wp
    generalize a'.eval = ρ at e1 ⊢
    simp [go_sem, e1]
    exact hK _ _ (Below.refl _ _) trivial rfl)) <| allOps_nil) (fun Q V1 hb hall hv => ?_)
    have h8 : Q 12 = .int .i64 0 := hall.get 11 rfl (by decide)
    obtain ⟨qx, h7, -, gx0, gx1, -, -⟩ := hv
    clear hall
    simp only [me1, maskPut, Nat.reduceAdd]
    rw [h7, h8]
    clear h7 h8
    replace kpa0_ := keep hb kpa0_
    replace kpa1_ := keep hb kpa1_
    replace kpb0_ := keep hb kpb0_
    replace kpb1_ := keep hb kpb1_
    replace kpc0_ := keep hb kpc0_
    replace kpc1_ := keep hb kpc1_
    replace kpd0_ := keep hb kpd0_
    replace kpd1_ := keep hb kpd1_
    replace HA_ := Lib.hid (HA_.out.bel hb)
    replace HB_ := Lib.hid (HB_.out.bel hb)
    replace HC_ := Lib.hid (HC_.out.bel hb)
    replace HD_ := Lib.hid (HD_.out.bel hb)
    replace BV := Lib.hid (thenB BV.out hb)
    clear hb
    clear V
    go_upto_region 9 with (fail)
    refine wp_region_st me2 (by kernel_rfl) [mpEq (.agg #[.slice B nb cb, .int .i64 db]), mpCp nb db kb, mpEq (.agg #[.slice A na ca, .int .i64 da]), mpCp na da ka, mpEq (.int .i64 time), mpEq (.tuple #[.agg #[.int .i64 x1, .int .i64 x2], .int .i64 0]), mpEq (.tuple #[.agg #[.int .i64 x1, .int .i64 x2], .int .i64 0]), mpEq (.agg #[.int .i64 x1, .int .i64 x2]), mpTop, mpNew (V1).heap.size, mpTop, mpTop] [(fun _ => True), (fun _ => True), (fun _ => True), (fun _ => True), (fun _ => True), (fun _ => True), (· = .tuple #[.agg #[.int .i64 x1, .int .i64 x2], .int .i64 0]), (fun _ => True), (· = .int .i64 0), (fun _ => True), (fun _ => True), (· = .int .i64 0)] (mpVar (V1).heap.size (x1) (x2)) 10 9 13 (by kernel_rfl) (by kernel_rfl) (by kernel_rfl) (by kernel_rfl) rfl (
      allOps_cons (rs_not (by kernel_rfl) (fun a' w' hb hs hd hp => rs_op fun K hK => by
    have e1 := (hs.get 8 (by kernel_rfl)).trans (show _ = Value.pointer (some ⟨pb, 0, none⟩) from rfl)
    have c0 := keep hb kpb0_
    have c1 := keep hb kpb1_
    clear hs hd hp
    unfold Oper.wp
    generalize a'.eval = ρ at e1 ⊢
    simp [go_sem, e1, c0, c1]
    exact hK _ _ (Below.refl _ _) rfl trivial)) <|
      allOps_cons (rs_not (by kernel_rfl) (fun a' w' hb hs hd hp => by
    exact rs_fn (φ := (mpCp nb db kb).p) (ψ := (fun _ => True)) (vs := #[.agg #[.slice B nb cb, .int .i64 db]]) rfl (enters_of Try.func14 (by kernel_rfl) rfl) (by simp [(show a'.eval (.tmp 98) = .agg #[.slice B nb cb, .int .i64 db] from RDeps.get (hd (by kernel_rfl)) 0 98 (by kernel_rfl) (by kernel_rfl))]) ((copyT_any B nb cb db kb w' (by omega) HB0.out (HB_.out.bel hb)).mono (by rintro e w1 ⟨X, c1, rfl, hk, h1⟩; exact ⟨_, rfl, h1, ⟨X, c1, rfl, hk⟩, trivial⟩)))) <|
      allOps_cons (rs_not (by kernel_rfl) (fun a' w' hb hs hd hp => rs_op fun K hK => by
    have e1 := (hs.get 7 (by kernel_rfl)).trans (show _ = Value.pointer (some ⟨pa, 0, none⟩) from rfl)
    have c0 := keep hb kpa0_
    have c1 := keep hb kpa1_
    clear hs hd hp
    unfold Oper.wp
    generalize a'.eval = ρ at e1 ⊢
    simp [go_sem, e1, c0, c1]
    exact hK _ _ (Below.refl _ _) rfl trivial)) <|
      allOps_cons (rs_not (by kernel_rfl) (fun a' w' hb hs hd hp => by
    exact rs_fn (φ := (mpCp na da ka).p) (ψ := (fun _ => True)) (vs := #[.agg #[.slice A na ca, .int .i64 da]]) rfl (enters_of Try.func14 (by kernel_rfl) rfl) (by simp [(show a'.eval (.tmp 100) = .agg #[.slice A na ca, .int .i64 da] from RDeps.get (hd (by kernel_rfl)) 2 100 (by kernel_rfl) (by kernel_rfl))]) ((copyT_any A na ca da ka w' (by omega) HA0.out (HA_.out.bel hb)).mono (by rintro e w1 ⟨X, c1, rfl, hk, h1⟩; exact ⟨_, rfl, h1, ⟨X, c1, rfl, hk⟩, trivial⟩)))) <|
      allOps_cons (rs_not (by kernel_rfl) (fun a' w' hb hs hd hp => rs_op fun K hK => by
    have e1 := (hs.get 1 (by kernel_rfl)).trans (show _ = .int .i64 time from rfl)
    clear hs hd hp
    unfold Oper.wp
    generalize a'.eval = ρ at e1 ⊢
    simp [go_sem, e1]
    exact hK _ _ (Below.refl _ _) rfl trivial)) <|
      allOps_cons (rs_not (by kernel_rfl) (fun a' w' hb hs hd hp => by
    obtain ⟨X1, c1, e1, k1⟩ := (show (mpCp nb db kb).p (a'.eval (.tmp 99)) w' from RDeps.get (hd (by kernel_rfl)) 1 99 (by kernel_rfl) (by kernel_rfl))
    obtain ⟨X2, c2, e2, k2⟩ := (show (mpCp na da ka).p (a'.eval (.tmp 101)) w' from RDeps.get (hd (by kernel_rfl)) 3 101 (by kernel_rfl) (by kernel_rfl))
    exact rs_fn (φ := (mpEq (.tuple #[.agg #[.int .i64 x1, .int .i64 x2], .int .i64 0])).p) (ψ := (fun _ => True)) (vs := #[.agg #[.slice X1 nb c1, .int .i64 db], .agg #[.slice X2 na c2, .int .i64 da], .int .i64 time]) rfl (enters_of Try.func15 (by kernel_rfl) rfl) (by simp [e1, e2, (show a'.eval (.tmp 102) = .int .i64 time from RDeps.get (hd (by kernel_rfl)) 4 102 (by kernel_rfl) (by kernel_rfl))]) ((HDy.out w' X1 c1 X2 c2 k1 k2).mono (by rintro e w1 ⟨rfl, h1⟩; exact ⟨_, rfl, h1, rfl, trivial⟩)))) <|
      allOps_cons (rs_not (by kernel_rfl) (fun a' w' hb hs hd hp => rs_op fun K hK => by
    have e1 := (show a'.eval (.tmp 103) = .tuple #[.agg #[.int .i64 x1, .int .i64 x2], .int .i64 0] from RDeps.get (hd (by kernel_rfl)) 5 103 (by kernel_rfl) (by kernel_rfl))
    clear hs hd hp
    unfold Oper.wp
    generalize a'.eval = ρ at e1 ⊢
    simp [go_sem, e1]
    exact hK _ _ (Below.refl _ _) rfl rfl)) <|
      allOps_cons (rs_not (by kernel_rfl) (fun a' w' hb hs hd hp => rs_op fun K hK => by
    have e1 := (show a'.eval (.tmp 97) = .tuple #[.agg #[.int .i64 x1, .int .i64 x2], .int .i64 0] from RDeps.get (hd (by kernel_rfl)) 6 97 (by kernel_rfl) (by kernel_rfl))
    clear hs hd hp
    unfold Oper.wp
    generalize a'.eval = ρ at e1 ⊢
    simp [go_sem, e1]
    exact hK _ _ (Below.refl _ _) rfl trivial)) <|
      allOps_cons (rs_not (by kernel_rfl) (fun a' w' hb hs hd hp => rs_op fun K hK => by
    have e1 := (show a'.eval (.tmp 97) = .tuple #[.agg #[.int .i64 x1, .int .i64 x2], .int .i64 0] from hp.get 6 97 (by kernel_rfl) (by kernel_rfl))
    clear hs hd hp
    unfold Oper.wp
    generalize a'.eval = ρ at e1 ⊢
    simp [go_sem, e1]
    exact hK _ _ (Below.refl _ _) trivial rfl)) <|
      allOps_cons (rs_not (by kernel_rfl) (fun a' w' hb hs hd hp => rs_op fun K hK => by
    have hz := hb.size
    clear hs hd hp
    unfold Oper.wp
    generalize a'.eval = ρ
    simp [go_sem]
    exact hK _ _ ((Below.refl _ _).alloc (Nat.le_refl _) _) ⟨_, rfl, hz, by simp [go_sem], by simp [go_sem], by simp [go_sem], by simp [go_sem]⟩ trivial)) <|
      allOps_cons (rs_is (by kernel_rfl) (fun a' w' hb hs hd => rs_st rfl fun K hK => by
    obtain ⟨q, e1, zq, c0, c1, f0, f1⟩ := (show (mpNew (V1).heap.size).p (a'.eval (.tmp 13)) w' from hd.get 9 13 (by kernel_rfl) (by kernel_rfl))
    have e2 := (show a'.eval (.tmp 104) = .agg #[.int .i64 (x1), .int .i64 (x2)] from hd.get 7 104 (by kernel_rfl) (by kernel_rfl))
    have hz := lt_of c0
    clear hs hd
    unfold Oper.wp
    generalize a'.eval = ρ at e1 e2 hK ⊢
    simp [go_sem, e1, e2, c0, c1, f0, f1]
    exact hK _ (Below.setCell (Below.setCell hb zq _) zq _) ⟨q, e1, zq, by simp [go_sem, c0], by simp [go_sem, c1], by simp [go_sem, f0], by simp [go_sem, f1]⟩)) <|
      allOps_cons (rs_not (by kernel_rfl) (fun a' w' hb hs hd hp => rs_op fun K hK => by
    have e1 := (show a'.eval (.tmp 105) = .int .i64 0 from hp.get 8 105 (by kernel_rfl) (by kernel_rfl))
    clear hs hd hp
    unfold Oper.wp
    generalize a'.eval = ρ at e1 ⊢
    simp [go_sem, e1]
    exact hK _ _ (Below.refl _ _) trivial rfl)) <| allOps_nil) (fun Q V2 hb hall hv => ?_)
    have h8 : Q 14 = .int .i64 0 := hall.get 11 rfl (by decide)
    obtain ⟨qy, h7, -, gy0, gy1, -, -⟩ := hv
    clear hall
    simp only [me2, maskPut, Nat.reduceAdd]
    rw [h7, h8]
    clear h7 h8
    replace kpa0_ := keep hb kpa0_
    replace kpa1_ := keep hb kpa1_
    replace kpb0_ := keep hb kpb0_
    replace kpb1_ := keep hb kpb1_
    replace kpc0_ := keep hb kpc0_
    replace kpc1_ := keep hb kpc1_
    replace kpd0_ := keep hb kpd0_
    replace kpd1_ := keep hb kpd1_
    replace gx0 := keep hb gx0
    replace gx1 := keep hb gx1
    replace HA_ := Lib.hid (HA_.out.bel hb)
    replace HB_ := Lib.hid (HB_.out.bel hb)
    replace HC_ := Lib.hid (HC_.out.bel hb)
    replace HD_ := Lib.hid (HD_.out.bel hb)
    replace BV := Lib.hid (thenB BV.out hb)
    clear hb
    clear V1
    go_upto_region 10 with (fail)
    refine wp_region_st me3 (by kernel_rfl) [mpEq (.agg #[.slice A na ca, .int .i64 da]), mpCp na da ka, mpEq (.agg #[.slice C nc cc, .int .i64 dc]), mpCp nc dc kc, mpEq (.int .i64 time), mpEq (.tuple #[.agg #[.int .i64 z1, .int .i64 z2], .int .i64 0]), mpEq (.tuple #[.agg #[.int .i64 z1, .int .i64 z2], .int .i64 0]), mpEq (.agg #[.int .i64 z1, .int .i64 z2]), mpTop, mpNew (V2).heap.size, mpTop, mpTop] [(fun _ => True), (fun _ => True), (fun _ => True), (fun _ => True), (fun _ => True), (fun _ => True), (· = .tuple #[.agg #[.int .i64 z1, .int .i64 z2], .int .i64 0]), (fun _ => True), (· = .int .i64 0), (fun _ => True), (fun _ => True), (· = .int .i64 0)] (mpVar (V2).heap.size (z1) (z2)) 10 9 15 (by kernel_rfl) (by kernel_rfl) (by kernel_rfl) (by kernel_rfl) rfl (
      allOps_cons (rs_not (by kernel_rfl) (fun a' w' hb hs hd hp => rs_op fun K hK => by
    have e1 := (hs.get 7 (by kernel_rfl)).trans (show _ = Value.pointer (some ⟨pa, 0, none⟩) from rfl)
    have c0 := keep hb kpa0_
    have c1 := keep hb kpa1_
    clear hs hd hp
    unfold Oper.wp
    generalize a'.eval = ρ at e1 ⊢
    simp [go_sem, e1, c0, c1]
    exact hK _ _ (Below.refl _ _) rfl trivial)) <|
      allOps_cons (rs_not (by kernel_rfl) (fun a' w' hb hs hd hp => by
    exact rs_fn (φ := (mpCp na da ka).p) (ψ := (fun _ => True)) (vs := #[.agg #[.slice A na ca, .int .i64 da]]) rfl (enters_of Try.func14 (by kernel_rfl) rfl) (by simp [(show a'.eval (.tmp 107) = .agg #[.slice A na ca, .int .i64 da] from RDeps.get (hd (by kernel_rfl)) 0 107 (by kernel_rfl) (by kernel_rfl))]) ((copyT_any A na ca da ka w' (by omega) HA0.out (HA_.out.bel hb)).mono (by rintro e w1 ⟨X, c1, rfl, hk, h1⟩; exact ⟨_, rfl, h1, ⟨X, c1, rfl, hk⟩, trivial⟩)))) <|
      allOps_cons (rs_not (by kernel_rfl) (fun a' w' hb hs hd hp => rs_op fun K hK => by
    have e1 := (hs.get 9 (by kernel_rfl)).trans (show _ = Value.pointer (some ⟨pc, 0, none⟩) from rfl)
    have c0 := keep hb kpc0_
    have c1 := keep hb kpc1_
    clear hs hd hp
    unfold Oper.wp
    generalize a'.eval = ρ at e1 ⊢
    simp [go_sem, e1, c0, c1]
    exact hK _ _ (Below.refl _ _) rfl trivial)) <|
      allOps_cons (rs_not (by kernel_rfl) (fun a' w' hb hs hd hp => by
    exact rs_fn (φ := (mpCp nc dc kc).p) (ψ := (fun _ => True)) (vs := #[.agg #[.slice C nc cc, .int .i64 dc]]) rfl (enters_of Try.func14 (by kernel_rfl) rfl) (by simp [(show a'.eval (.tmp 109) = .agg #[.slice C nc cc, .int .i64 dc] from RDeps.get (hd (by kernel_rfl)) 2 109 (by kernel_rfl) (by kernel_rfl))]) ((copyT_any C nc cc dc kc w' (by omega) HC0.out (HC_.out.bel hb)).mono (by rintro e w1 ⟨X, c1, rfl, hk, h1⟩; exact ⟨_, rfl, h1, ⟨X, c1, rfl, hk⟩, trivial⟩)))) <|
      allOps_cons (rs_not (by kernel_rfl) (fun a' w' hb hs hd hp => rs_op fun K hK => by
    have e1 := (hs.get 1 (by kernel_rfl)).trans (show _ = .int .i64 time from rfl)
    clear hs hd hp
    unfold Oper.wp
    generalize a'.eval = ρ at e1 ⊢
    simp [go_sem, e1]
    exact hK _ _ (Below.refl _ _) rfl trivial)) <|
      allOps_cons (rs_not (by kernel_rfl) (fun a' w' hb hs hd hp => by
    obtain ⟨X1, c1, e1, k1⟩ := (show (mpCp na da ka).p (a'.eval (.tmp 108)) w' from RDeps.get (hd (by kernel_rfl)) 1 108 (by kernel_rfl) (by kernel_rfl))
    obtain ⟨X2, c2, e2, k2⟩ := (show (mpCp nc dc kc).p (a'.eval (.tmp 110)) w' from RDeps.get (hd (by kernel_rfl)) 3 110 (by kernel_rfl) (by kernel_rfl))
    exact rs_fn (φ := (mpEq (.tuple #[.agg #[.int .i64 z1, .int .i64 z2], .int .i64 0])).p) (ψ := (fun _ => True)) (vs := #[.agg #[.slice X1 na c1, .int .i64 da], .agg #[.slice X2 nc c2, .int .i64 dc], .int .i64 time]) rfl (enters_of Try.func15 (by kernel_rfl) rfl) (by simp [e1, e2, (show a'.eval (.tmp 111) = .int .i64 time from RDeps.get (hd (by kernel_rfl)) 4 111 (by kernel_rfl) (by kernel_rfl))]) ((HDz.out w' X1 c1 X2 c2 k1 k2).mono (by rintro e w1 ⟨rfl, h1⟩; exact ⟨_, rfl, h1, rfl, trivial⟩)))) <|
      allOps_cons (rs_not (by kernel_rfl) (fun a' w' hb hs hd hp => rs_op fun K hK => by
    have e1 := (show a'.eval (.tmp 112) = .tuple #[.agg #[.int .i64 z1, .int .i64 z2], .int .i64 0] from RDeps.get (hd (by kernel_rfl)) 5 112 (by kernel_rfl) (by kernel_rfl))
    clear hs hd hp
    unfold Oper.wp
    generalize a'.eval = ρ at e1 ⊢
    simp [go_sem, e1]
    exact hK _ _ (Below.refl _ _) rfl rfl)) <|
      allOps_cons (rs_not (by kernel_rfl) (fun a' w' hb hs hd hp => rs_op fun K hK => by
    have e1 := (show a'.eval (.tmp 106) = .tuple #[.agg #[.int .i64 z1, .int .i64 z2], .int .i64 0] from RDeps.get (hd (by kernel_rfl)) 6 106 (by kernel_rfl) (by kernel_rfl))
    clear hs hd hp
    unfold Oper.wp
    generalize a'.eval = ρ at e1 ⊢
    simp [go_sem, e1]
    exact hK _ _ (Below.refl _ _) rfl trivial)) <|
      allOps_cons (rs_not (by kernel_rfl) (fun a' w' hb hs hd hp => rs_op fun K hK => by
    have e1 := (show a'.eval (.tmp 106) = .tuple #[.agg #[.int .i64 z1, .int .i64 z2], .int .i64 0] from hp.get 6 106 (by kernel_rfl) (by kernel_rfl))
    clear hs hd hp
    unfold Oper.wp
    generalize a'.eval = ρ at e1 ⊢
    simp [go_sem, e1]
    exact hK _ _ (Below.refl _ _) trivial rfl)) <|
      allOps_cons (rs_not (by kernel_rfl) (fun a' w' hb hs hd hp => rs_op fun K hK => by
    have hz := hb.size
    clear hs hd hp
    unfold Oper.wp
    generalize a'.eval = ρ
    simp [go_sem]
    exact hK _ _ ((Below.refl _ _).alloc (Nat.le_refl _) _) ⟨_, rfl, hz, by simp [go_sem], by simp [go_sem], by simp [go_sem], by simp [go_sem]⟩ trivial)) <|
      allOps_cons (rs_is (by kernel_rfl) (fun a' w' hb hs hd => rs_st rfl fun K hK => by
    obtain ⟨q, e1, zq, c0, c1, f0, f1⟩ := (show (mpNew (V2).heap.size).p (a'.eval (.tmp 15)) w' from hd.get 9 15 (by kernel_rfl) (by kernel_rfl))
    have e2 := (show a'.eval (.tmp 113) = .agg #[.int .i64 (z1), .int .i64 (z2)] from hd.get 7 113 (by kernel_rfl) (by kernel_rfl))
    have hz := lt_of c0
    clear hs hd
    unfold Oper.wp
    generalize a'.eval = ρ at e1 e2 hK ⊢
    simp [go_sem, e1, e2, c0, c1, f0, f1]
    exact hK _ (Below.setCell (Below.setCell hb zq _) zq _) ⟨q, e1, zq, by simp [go_sem, c0], by simp [go_sem, c1], by simp [go_sem, f0], by simp [go_sem, f1]⟩)) <|
      allOps_cons (rs_not (by kernel_rfl) (fun a' w' hb hs hd hp => rs_op fun K hK => by
    have e1 := (show a'.eval (.tmp 114) = .int .i64 0 from hp.get 8 114 (by kernel_rfl) (by kernel_rfl))
    clear hs hd hp
    unfold Oper.wp
    generalize a'.eval = ρ at e1 ⊢
    simp [go_sem, e1]
    exact hK _ _ (Below.refl _ _) trivial rfl)) <| allOps_nil) (fun Q V3 hb hall hv => ?_)
    have h8 : Q 16 = .int .i64 0 := hall.get 11 rfl (by decide)
    obtain ⟨qz, h7, -, gz0, gz1, -, -⟩ := hv
    clear hall
    simp only [me3, maskPut, Nat.reduceAdd]
    rw [h7, h8]
    clear h7 h8
    replace kpa0_ := keep hb kpa0_
    replace kpa1_ := keep hb kpa1_
    replace kpb0_ := keep hb kpb0_
    replace kpb1_ := keep hb kpb1_
    replace kpc0_ := keep hb kpc0_
    replace kpc1_ := keep hb kpc1_
    replace kpd0_ := keep hb kpd0_
    replace kpd1_ := keep hb kpd1_
    replace gx0 := keep hb gx0
    replace gx1 := keep hb gx1
    replace gy0 := keep hb gy0
    replace gy1 := keep hb gy1
    replace HA_ := Lib.hid (HA_.out.bel hb)
    replace HB_ := Lib.hid (HB_.out.bel hb)
    replace HC_ := Lib.hid (HC_.out.bel hb)
    replace HD_ := Lib.hid (HD_.out.bel hb)
    replace BV := Lib.hid (thenB BV.out hb)
    clear hb
    clear V2
    go_upto_region 11 with (fail)
    refine wp_region_st me4 (by kernel_rfl) [mpEq (.agg #[.slice C nc cc, .int .i64 dc]), mpCp nc dc kc, mpEq (.agg #[.slice B nb cb, .int .i64 db]), mpCp nb db kb, mpEq (.int .i64 time), mpEq (.tuple #[.agg #[.int .i64 v1, .int .i64 v2], .int .i64 0]), mpEq (.tuple #[.agg #[.int .i64 v1, .int .i64 v2], .int .i64 0]), mpEq (.agg #[.int .i64 v1, .int .i64 v2]), mpTop, mpNew (V3).heap.size, mpTop, mpTop] [(fun _ => True), (fun _ => True), (fun _ => True), (fun _ => True), (fun _ => True), (fun _ => True), (· = .tuple #[.agg #[.int .i64 v1, .int .i64 v2], .int .i64 0]), (fun _ => True), (· = .int .i64 0), (fun _ => True), (fun _ => True), (· = .int .i64 0)] (mpVar (V3).heap.size (v1) (v2)) 10 9 17 (by kernel_rfl) (by kernel_rfl) (by kernel_rfl) (by kernel_rfl) rfl (
      allOps_cons (rs_not (by kernel_rfl) (fun a' w' hb hs hd hp => rs_op fun K hK => by
    have e1 := (hs.get 9 (by kernel_rfl)).trans (show _ = Value.pointer (some ⟨pc, 0, none⟩) from rfl)
    have c0 := keep hb kpc0_
    have c1 := keep hb kpc1_
    clear hs hd hp
    unfold Oper.wp
    generalize a'.eval = ρ at e1 ⊢
    simp [go_sem, e1, c0, c1]
    exact hK _ _ (Below.refl _ _) rfl trivial)) <|
      allOps_cons (rs_not (by kernel_rfl) (fun a' w' hb hs hd hp => by
    exact rs_fn (φ := (mpCp nc dc kc).p) (ψ := (fun _ => True)) (vs := #[.agg #[.slice C nc cc, .int .i64 dc]]) rfl (enters_of Try.func14 (by kernel_rfl) rfl) (by simp [(show a'.eval (.tmp 116) = .agg #[.slice C nc cc, .int .i64 dc] from RDeps.get (hd (by kernel_rfl)) 0 116 (by kernel_rfl) (by kernel_rfl))]) ((copyT_any C nc cc dc kc w' (by omega) HC0.out (HC_.out.bel hb)).mono (by rintro e w1 ⟨X, c1, rfl, hk, h1⟩; exact ⟨_, rfl, h1, ⟨X, c1, rfl, hk⟩, trivial⟩)))) <|
      allOps_cons (rs_not (by kernel_rfl) (fun a' w' hb hs hd hp => rs_op fun K hK => by
    have e1 := (hs.get 8 (by kernel_rfl)).trans (show _ = Value.pointer (some ⟨pb, 0, none⟩) from rfl)
    have c0 := keep hb kpb0_
    have c1 := keep hb kpb1_
    clear hs hd hp
    unfold Oper.wp
    generalize a'.eval = ρ at e1 ⊢
    simp [go_sem, e1, c0, c1]
    exact hK _ _ (Below.refl _ _) rfl trivial)) <|
      allOps_cons (rs_not (by kernel_rfl) (fun a' w' hb hs hd hp => by
    exact rs_fn (φ := (mpCp nb db kb).p) (ψ := (fun _ => True)) (vs := #[.agg #[.slice B nb cb, .int .i64 db]]) rfl (enters_of Try.func14 (by kernel_rfl) rfl) (by simp [(show a'.eval (.tmp 118) = .agg #[.slice B nb cb, .int .i64 db] from RDeps.get (hd (by kernel_rfl)) 2 118 (by kernel_rfl) (by kernel_rfl))]) ((copyT_any B nb cb db kb w' (by omega) HB0.out (HB_.out.bel hb)).mono (by rintro e w1 ⟨X, c1, rfl, hk, h1⟩; exact ⟨_, rfl, h1, ⟨X, c1, rfl, hk⟩, trivial⟩)))) <|
      allOps_cons (rs_not (by kernel_rfl) (fun a' w' hb hs hd hp => rs_op fun K hK => by
    have e1 := (hs.get 1 (by kernel_rfl)).trans (show _ = .int .i64 time from rfl)
    clear hs hd hp
    unfold Oper.wp
    generalize a'.eval = ρ at e1 ⊢
    simp [go_sem, e1]
    exact hK _ _ (Below.refl _ _) rfl trivial)) <|
      allOps_cons (rs_not (by kernel_rfl) (fun a' w' hb hs hd hp => by
    obtain ⟨X1, c1, e1, k1⟩ := (show (mpCp nc dc kc).p (a'.eval (.tmp 117)) w' from RDeps.get (hd (by kernel_rfl)) 1 117 (by kernel_rfl) (by kernel_rfl))
    obtain ⟨X2, c2, e2, k2⟩ := (show (mpCp nb db kb).p (a'.eval (.tmp 119)) w' from RDeps.get (hd (by kernel_rfl)) 3 119 (by kernel_rfl) (by kernel_rfl))
    exact rs_fn (φ := (mpEq (.tuple #[.agg #[.int .i64 v1, .int .i64 v2], .int .i64 0])).p) (ψ := (fun _ => True)) (vs := #[.agg #[.slice X1 nc c1, .int .i64 dc], .agg #[.slice X2 nb c2, .int .i64 db], .int .i64 time]) rfl (enters_of Try.func15 (by kernel_rfl) rfl) (by simp [e1, e2, (show a'.eval (.tmp 120) = .int .i64 time from RDeps.get (hd (by kernel_rfl)) 4 120 (by kernel_rfl) (by kernel_rfl))]) ((HDw.out w' X1 c1 X2 c2 k1 k2).mono (by rintro e w1 ⟨rfl, h1⟩; exact ⟨_, rfl, h1, rfl, trivial⟩)))) <|
      allOps_cons (rs_not (by kernel_rfl) (fun a' w' hb hs hd hp => rs_op fun K hK => by
    have e1 := (show a'.eval (.tmp 121) = .tuple #[.agg #[.int .i64 v1, .int .i64 v2], .int .i64 0] from RDeps.get (hd (by kernel_rfl)) 5 121 (by kernel_rfl) (by kernel_rfl))
    clear hs hd hp
    unfold Oper.wp
    generalize a'.eval = ρ at e1 ⊢
    simp [go_sem, e1]
    exact hK _ _ (Below.refl _ _) rfl rfl)) <|
      allOps_cons (rs_not (by kernel_rfl) (fun a' w' hb hs hd hp => rs_op fun K hK => by
    have e1 := (show a'.eval (.tmp 115) = .tuple #[.agg #[.int .i64 v1, .int .i64 v2], .int .i64 0] from RDeps.get (hd (by kernel_rfl)) 6 115 (by kernel_rfl) (by kernel_rfl))
    clear hs hd hp
    unfold Oper.wp
    generalize a'.eval = ρ at e1 ⊢
    simp [go_sem, e1]
    exact hK _ _ (Below.refl _ _) rfl trivial)) <|
      allOps_cons (rs_not (by kernel_rfl) (fun a' w' hb hs hd hp => rs_op fun K hK => by
    have e1 := (show a'.eval (.tmp 115) = .tuple #[.agg #[.int .i64 v1, .int .i64 v2], .int .i64 0] from hp.get 6 115 (by kernel_rfl) (by kernel_rfl))
    clear hs hd hp
    unfold Oper.wp
    generalize a'.eval = ρ at e1 ⊢
    simp [go_sem, e1]
    exact hK _ _ (Below.refl _ _) trivial rfl)) <|
      allOps_cons (rs_not (by kernel_rfl) (fun a' w' hb hs hd hp => rs_op fun K hK => by
    have hz := hb.size
    clear hs hd hp
    unfold Oper.wp
    generalize a'.eval = ρ
    simp [go_sem]
    exact hK _ _ ((Below.refl _ _).alloc (Nat.le_refl _) _) ⟨_, rfl, hz, by simp [go_sem], by simp [go_sem], by simp [go_sem], by simp [go_sem]⟩ trivial)) <|
      allOps_cons (rs_is (by kernel_rfl) (fun a' w' hb hs hd => rs_st rfl fun K hK => by
    obtain ⟨q, e1, zq, c0, c1, f0, f1⟩ := (show (mpNew (V3).heap.size).p (a'.eval (.tmp 17)) w' from hd.get 9 17 (by kernel_rfl) (by kernel_rfl))
    have e2 := (show a'.eval (.tmp 122) = .agg #[.int .i64 (v1), .int .i64 (v2)] from hd.get 7 122 (by kernel_rfl) (by kernel_rfl))
    have hz := lt_of c0
    clear hs hd
    unfold Oper.wp
    generalize a'.eval = ρ at e1 e2 hK ⊢
    simp [go_sem, e1, e2, c0, c1, f0, f1]
    exact hK _ (Below.setCell (Below.setCell hb zq _) zq _) ⟨q, e1, zq, by simp [go_sem, c0], by simp [go_sem, c1], by simp [go_sem, f0], by simp [go_sem, f1]⟩)) <|
      allOps_cons (rs_not (by kernel_rfl) (fun a' w' hb hs hd hp => rs_op fun K hK => by
    have e1 := (show a'.eval (.tmp 123) = .int .i64 0 from hp.get 8 123 (by kernel_rfl) (by kernel_rfl))
    clear hs hd hp
    unfold Oper.wp
    generalize a'.eval = ρ at e1 ⊢
    simp [go_sem, e1]
    exact hK _ _ (Below.refl _ _) trivial rfl)) <| allOps_nil) (fun Q V4 hb hall hv => ?_)
    have h8 : Q 18 = .int .i64 0 := hall.get 11 rfl (by decide)
    obtain ⟨qw, h7, -, gw0, gw1, -, -⟩ := hv
    clear hall
    simp only [me4, maskPut, Nat.reduceAdd]
    rw [h7, h8]
    clear h7 h8
    replace kpa0_ := keep hb kpa0_
    replace kpa1_ := keep hb kpa1_
    replace kpb0_ := keep hb kpb0_
    replace kpb1_ := keep hb kpb1_
    replace kpc0_ := keep hb kpc0_
    replace kpc1_ := keep hb kpc1_
    replace kpd0_ := keep hb kpd0_
    replace kpd1_ := keep hb kpd1_
    replace gx0 := keep hb gx0
    replace gx1 := keep hb gx1
    replace gy0 := keep hb gy0
    replace gy1 := keep hb gy1
    replace gz0 := keep hb gz0
    replace gz1 := keep hb gz1
    replace HA_ := Lib.hid (HA_.out.bel hb)
    replace HB_ := Lib.hid (HB_.out.bel hb)
    replace HC_ := Lib.hid (HC_.out.bel hb)
    replace HD_ := Lib.hid (HD_.out.bel hb)
    replace BV := Lib.hid (thenB BV.out hb)
    clear hb
    clear V3
    go_upto_region 12 with (fail)
    refine wp_region_st me5 (by kernel_rfl) [mpEq (.agg #[.slice A8 na c8, .int .i64 (da + more)]), mpCp na (da + more) ka, mpEq (.agg #[.slice B nb cb, .int .i64 db]), mpCp nb db kb, mpEq (.int .i64 time), mpEq (.tuple #[.agg #[.int .i64 u1, .int .i64 u2], .int .i64 0]), mpEq (.tuple #[.agg #[.int .i64 u1, .int .i64 u2], .int .i64 0]), mpEq (.agg #[.int .i64 u1, .int .i64 u2]), mpTop, mpNew (V4).heap.size, mpTop, mpTop] [(fun _ => True), (fun _ => True), (fun _ => True), (fun _ => True), (fun _ => True), (fun _ => True), (· = .tuple #[.agg #[.int .i64 u1, .int .i64 u2], .int .i64 0]), (fun _ => True), (· = .int .i64 0), (fun _ => True), (fun _ => True), (· = .int .i64 0)] (mpVar (V4).heap.size (u1) (u2)) 10 9 19 (by kernel_rfl) (by kernel_rfl) (by kernel_rfl) (by kernel_rfl) rfl (
      allOps_cons (rs_not (by kernel_rfl) (fun a' w' hb hs hd hp => rs_op fun K hK => by
    have e1 := (hs.get 10 (by kernel_rfl)).trans (show _ = Value.pointer (some ⟨pd, 0, none⟩) from rfl)
    have c0 := keep hb kpd0_
    have c1 := keep hb kpd1_
    clear hs hd hp
    unfold Oper.wp
    generalize a'.eval = ρ at e1 ⊢
    simp [go_sem, e1, c0, c1]
    exact hK _ _ (Below.refl _ _) rfl trivial)) <|
      allOps_cons (rs_not (by kernel_rfl) (fun a' w' hb hs hd hp => by
    exact rs_fn (φ := (mpCp na (da + more) ka).p) (ψ := (fun _ => True)) (vs := #[.agg #[.slice A8 na c8, .int .i64 (da + more)]]) rfl (enters_of Try.func14 (by kernel_rfl) rfl) (by simp [(show a'.eval (.tmp 125) = .agg #[.slice A8 na c8, .int .i64 (da + more)] from RDeps.get (hd (by kernel_rfl)) 0 125 (by kernel_rfl) (by kernel_rfl))]) ((copyT_any A8 na c8 (da + more) ka w' (by omega) HD0.out (HD_.out.bel hb)).mono (by rintro e w1 ⟨X, c1, rfl, hk, h1⟩; exact ⟨_, rfl, h1, ⟨X, c1, rfl, hk⟩, trivial⟩)))) <|
      allOps_cons (rs_not (by kernel_rfl) (fun a' w' hb hs hd hp => rs_op fun K hK => by
    have e1 := (hs.get 8 (by kernel_rfl)).trans (show _ = Value.pointer (some ⟨pb, 0, none⟩) from rfl)
    have c0 := keep hb kpb0_
    have c1 := keep hb kpb1_
    clear hs hd hp
    unfold Oper.wp
    generalize a'.eval = ρ at e1 ⊢
    simp [go_sem, e1, c0, c1]
    exact hK _ _ (Below.refl _ _) rfl trivial)) <|
      allOps_cons (rs_not (by kernel_rfl) (fun a' w' hb hs hd hp => by
    exact rs_fn (φ := (mpCp nb db kb).p) (ψ := (fun _ => True)) (vs := #[.agg #[.slice B nb cb, .int .i64 db]]) rfl (enters_of Try.func14 (by kernel_rfl) rfl) (by simp [(show a'.eval (.tmp 127) = .agg #[.slice B nb cb, .int .i64 db] from RDeps.get (hd (by kernel_rfl)) 2 127 (by kernel_rfl) (by kernel_rfl))]) ((copyT_any B nb cb db kb w' (by omega) HB0.out (HB_.out.bel hb)).mono (by rintro e w1 ⟨X, c1, rfl, hk, h1⟩; exact ⟨_, rfl, h1, ⟨X, c1, rfl, hk⟩, trivial⟩)))) <|
      allOps_cons (rs_not (by kernel_rfl) (fun a' w' hb hs hd hp => rs_op fun K hK => by
    have e1 := (hs.get 1 (by kernel_rfl)).trans (show _ = .int .i64 time from rfl)
    clear hs hd hp
    unfold Oper.wp
    generalize a'.eval = ρ at e1 ⊢
    simp [go_sem, e1]
    exact hK _ _ (Below.refl _ _) rfl trivial)) <|
      allOps_cons (rs_not (by kernel_rfl) (fun a' w' hb hs hd hp => by
    obtain ⟨X1, c1, e1, k1⟩ := (show (mpCp na (da + more) ka).p (a'.eval (.tmp 126)) w' from RDeps.get (hd (by kernel_rfl)) 1 126 (by kernel_rfl) (by kernel_rfl))
    obtain ⟨X2, c2, e2, k2⟩ := (show (mpCp nb db kb).p (a'.eval (.tmp 128)) w' from RDeps.get (hd (by kernel_rfl)) 3 128 (by kernel_rfl) (by kernel_rfl))
    exact rs_fn (φ := (mpEq (.tuple #[.agg #[.int .i64 u1, .int .i64 u2], .int .i64 0])).p) (ψ := (fun _ => True)) (vs := #[.agg #[.slice X1 na c1, .int .i64 (da + more)], .agg #[.slice X2 nb c2, .int .i64 db], .int .i64 time]) rfl (enters_of Try.func15 (by kernel_rfl) rfl) (by simp [e1, e2, (show a'.eval (.tmp 129) = .int .i64 time from RDeps.get (hd (by kernel_rfl)) 4 129 (by kernel_rfl) (by kernel_rfl))]) ((HDu.out w' X1 c1 X2 c2 k1 k2).mono (by rintro e w1 ⟨rfl, h1⟩; exact ⟨_, rfl, h1, rfl, trivial⟩)))) <|
      allOps_cons (rs_not (by kernel_rfl) (fun a' w' hb hs hd hp => rs_op fun K hK => by
    have e1 := (show a'.eval (.tmp 130) = .tuple #[.agg #[.int .i64 u1, .int .i64 u2], .int .i64 0] from RDeps.get (hd (by kernel_rfl)) 5 130 (by kernel_rfl) (by kernel_rfl))
    clear hs hd hp
    unfold Oper.wp
    generalize a'.eval = ρ at e1 ⊢
    simp [go_sem, e1]
    exact hK _ _ (Below.refl _ _) rfl rfl)) <|
      allOps_cons (rs_not (by kernel_rfl) (fun a' w' hb hs hd hp => rs_op fun K hK => by
    have e1 := (show a'.eval (.tmp 124) = .tuple #[.agg #[.int .i64 u1, .int .i64 u2], .int .i64 0] from RDeps.get (hd (by kernel_rfl)) 6 124 (by kernel_rfl) (by kernel_rfl))
    clear hs hd hp
    unfold Oper.wp
    generalize a'.eval = ρ at e1 ⊢
    simp [go_sem, e1]
    exact hK _ _ (Below.refl _ _) rfl trivial)) <|
      allOps_cons (rs_not (by kernel_rfl) (fun a' w' hb hs hd hp => rs_op fun K hK => by
    have e1 := (show a'.eval (.tmp 124) = .tuple #[.agg #[.int .i64 u1, .int .i64 u2], .int .i64 0] from hp.get 6 124 (by kernel_rfl) (by kernel_rfl))
    clear hs hd hp
    unfold Oper.wp
    generalize a'.eval = ρ at e1 ⊢
    simp [go_sem, e1]
    exact hK _ _ (Below.refl _ _) trivial rfl)) <|
      allOps_cons (rs_not (by kernel_rfl) (fun a' w' hb hs hd hp => rs_op fun K hK => by
    have hz := hb.size
    clear hs hd hp
    unfold Oper.wp
    generalize a'.eval = ρ
    simp [go_sem]
    exact hK _ _ ((Below.refl _ _).alloc (Nat.le_refl _) _) ⟨_, rfl, hz, by simp [go_sem], by simp [go_sem], by simp [go_sem], by simp [go_sem]⟩ trivial)) <|
      allOps_cons (rs_is (by kernel_rfl) (fun a' w' hb hs hd => rs_st rfl fun K hK => by
    obtain ⟨q, e1, zq, c0, c1, f0, f1⟩ := (show (mpNew (V4).heap.size).p (a'.eval (.tmp 19)) w' from hd.get 9 19 (by kernel_rfl) (by kernel_rfl))
    have e2 := (show a'.eval (.tmp 131) = .agg #[.int .i64 (u1), .int .i64 (u2)] from hd.get 7 131 (by kernel_rfl) (by kernel_rfl))
    have hz := lt_of c0
    clear hs hd
    unfold Oper.wp
    generalize a'.eval = ρ at e1 e2 hK ⊢
    simp [go_sem, e1, e2, c0, c1, f0, f1]
    exact hK _ (Below.setCell (Below.setCell hb zq _) zq _) ⟨q, e1, zq, by simp [go_sem, c0], by simp [go_sem, c1], by simp [go_sem, f0], by simp [go_sem, f1]⟩)) <|
      allOps_cons (rs_not (by kernel_rfl) (fun a' w' hb hs hd hp => rs_op fun K hK => by
    have e1 := (show a'.eval (.tmp 132) = .int .i64 0 from hp.get 8 132 (by kernel_rfl) (by kernel_rfl))
    clear hs hd hp
    unfold Oper.wp
    generalize a'.eval = ρ at e1 ⊢
    simp [go_sem, e1]
    exact hK _ _ (Below.refl _ _) trivial rfl)) <| allOps_nil) (fun Q V5 hb hall hv => ?_)
    have h8 : Q 20 = .int .i64 0 := hall.get 11 rfl (by decide)
    obtain ⟨qu, h7, -, gu0, gu1, -, -⟩ := hv
    clear hall
    simp only [me5, maskPut, Nat.reduceAdd]
    rw [h7, h8]
    clear h7 h8
    replace kpa0_ := keep hb kpa0_
    replace kpa1_ := keep hb kpa1_
    replace kpb0_ := keep hb kpb0_
    replace kpb1_ := keep hb kpb1_
    replace kpc0_ := keep hb kpc0_
    replace kpc1_ := keep hb kpc1_
    replace kpd0_ := keep hb kpd0_
    replace kpd1_ := keep hb kpd1_
    replace gx0 := keep hb gx0
    replace gx1 := keep hb gx1
    replace gy0 := keep hb gy0
    replace gy1 := keep hb gy1
    replace gz0 := keep hb gz0
    replace gz1 := keep hb gz1
    replace gw0 := keep hb gw0
    replace gw1 := keep hb gw1
    replace HA_ := Lib.hid (HA_.out.bel hb)
    replace HB_ := Lib.hid (HB_.out.bel hb)
    replace HC_ := Lib.hid (HC_.out.bel hb)
    replace HD_ := Lib.hid (HD_.out.bel hb)
    replace BV := Lib.hid (thenB BV.out hb)
    clear hb
    clear V4
    go_upto_region 13 with (fail)
    refine wp_region_st me6 (by kernel_rfl) [mpEq (.agg #[.slice A na ca, .int .i64 da]), mpCp na da ka, mpEq (.agg #[.slice A na ca, .int .i64 da]), mpCp na da ka, mpEq (.int .i64 time), mpEq (.tuple #[.agg #[.int .i64 0, .int .i64 o2], .int .i64 0]), mpEq (.tuple #[.agg #[.int .i64 0, .int .i64 o2], .int .i64 0]), mpEq (.agg #[.int .i64 0, .int .i64 o2]), mpTop, mpNew (V5).heap.size, mpTop, mpTop] [(fun _ => True), (fun _ => True), (fun _ => True), (fun _ => True), (fun _ => True), (fun _ => True), (· = .tuple #[.agg #[.int .i64 0, .int .i64 o2], .int .i64 0]), (fun _ => True), (· = .int .i64 0), (fun _ => True), (fun _ => True), (· = .int .i64 0)] (mpVar (V5).heap.size (0) (o2)) 10 9 21 (by kernel_rfl) (by kernel_rfl) (by kernel_rfl) (by kernel_rfl) rfl (
      allOps_cons (rs_not (by kernel_rfl) (fun a' w' hb hs hd hp => rs_op fun K hK => by
    have e1 := (hs.get 7 (by kernel_rfl)).trans (show _ = Value.pointer (some ⟨pa, 0, none⟩) from rfl)
    have c0 := keep hb kpa0_
    have c1 := keep hb kpa1_
    clear hs hd hp
    unfold Oper.wp
    generalize a'.eval = ρ at e1 ⊢
    simp [go_sem, e1, c0, c1]
    exact hK _ _ (Below.refl _ _) rfl trivial)) <|
      allOps_cons (rs_not (by kernel_rfl) (fun a' w' hb hs hd hp => by
    exact rs_fn (φ := (mpCp na da ka).p) (ψ := (fun _ => True)) (vs := #[.agg #[.slice A na ca, .int .i64 da]]) rfl (enters_of Try.func14 (by kernel_rfl) rfl) (by simp [(show a'.eval (.tmp 134) = .agg #[.slice A na ca, .int .i64 da] from RDeps.get (hd (by kernel_rfl)) 0 134 (by kernel_rfl) (by kernel_rfl))]) ((copyT_any A na ca da ka w' (by omega) HA0.out (HA_.out.bel hb)).mono (by rintro e w1 ⟨X, c1, rfl, hk, h1⟩; exact ⟨_, rfl, h1, ⟨X, c1, rfl, hk⟩, trivial⟩)))) <|
      allOps_cons (rs_not (by kernel_rfl) (fun a' w' hb hs hd hp => rs_op fun K hK => by
    have e1 := (hs.get 7 (by kernel_rfl)).trans (show _ = Value.pointer (some ⟨pa, 0, none⟩) from rfl)
    have c0 := keep hb kpa0_
    have c1 := keep hb kpa1_
    clear hs hd hp
    unfold Oper.wp
    generalize a'.eval = ρ at e1 ⊢
    simp [go_sem, e1, c0, c1]
    exact hK _ _ (Below.refl _ _) rfl trivial)) <|
      allOps_cons (rs_not (by kernel_rfl) (fun a' w' hb hs hd hp => by
    exact rs_fn (φ := (mpCp na da ka).p) (ψ := (fun _ => True)) (vs := #[.agg #[.slice A na ca, .int .i64 da]]) rfl (enters_of Try.func14 (by kernel_rfl) rfl) (by simp [(show a'.eval (.tmp 136) = .agg #[.slice A na ca, .int .i64 da] from RDeps.get (hd (by kernel_rfl)) 2 136 (by kernel_rfl) (by kernel_rfl))]) ((copyT_any A na ca da ka w' (by omega) HA0.out (HA_.out.bel hb)).mono (by rintro e w1 ⟨X, c1, rfl, hk, h1⟩; exact ⟨_, rfl, h1, ⟨X, c1, rfl, hk⟩, trivial⟩)))) <|
      allOps_cons (rs_not (by kernel_rfl) (fun a' w' hb hs hd hp => rs_op fun K hK => by
    have e1 := (hs.get 1 (by kernel_rfl)).trans (show _ = .int .i64 time from rfl)
    clear hs hd hp
    unfold Oper.wp
    generalize a'.eval = ρ at e1 ⊢
    simp [go_sem, e1]
    exact hK _ _ (Below.refl _ _) rfl trivial)) <|
      allOps_cons (rs_not (by kernel_rfl) (fun a' w' hb hs hd hp => by
    obtain ⟨X1, c1, e1, k1⟩ := (show (mpCp na da ka).p (a'.eval (.tmp 135)) w' from RDeps.get (hd (by kernel_rfl)) 1 135 (by kernel_rfl) (by kernel_rfl))
    obtain ⟨X2, c2, e2, k2⟩ := (show (mpCp na da ka).p (a'.eval (.tmp 137)) w' from RDeps.get (hd (by kernel_rfl)) 3 137 (by kernel_rfl) (by kernel_rfl))
    exact rs_fn (φ := (mpEq (.tuple #[.agg #[.int .i64 0, .int .i64 o2], .int .i64 0])).p) (ψ := (fun _ => True)) (vs := #[.agg #[.slice X1 na c1, .int .i64 da], .agg #[.slice X2 na c2, .int .i64 da], .int .i64 time]) rfl (enters_of Try.func15 (by kernel_rfl) rfl) (by simp [e1, e2, (show a'.eval (.tmp 138) = .int .i64 time from RDeps.get (hd (by kernel_rfl)) 4 138 (by kernel_rfl) (by kernel_rfl))]) ((HDo.out w' X1 c1 X2 c2 k1 k2).mono (by rintro e w1 ⟨rfl, h1⟩; exact ⟨_, rfl, h1, rfl, trivial⟩)))) <|
      allOps_cons (rs_not (by kernel_rfl) (fun a' w' hb hs hd hp => rs_op fun K hK => by
    have e1 := (show a'.eval (.tmp 139) = .tuple #[.agg #[.int .i64 0, .int .i64 o2], .int .i64 0] from RDeps.get (hd (by kernel_rfl)) 5 139 (by kernel_rfl) (by kernel_rfl))
    clear hs hd hp
    unfold Oper.wp
    generalize a'.eval = ρ at e1 ⊢
    simp [go_sem, e1]
    exact hK _ _ (Below.refl _ _) rfl rfl)) <|
      allOps_cons (rs_not (by kernel_rfl) (fun a' w' hb hs hd hp => rs_op fun K hK => by
    have e1 := (show a'.eval (.tmp 133) = .tuple #[.agg #[.int .i64 0, .int .i64 o2], .int .i64 0] from RDeps.get (hd (by kernel_rfl)) 6 133 (by kernel_rfl) (by kernel_rfl))
    clear hs hd hp
    unfold Oper.wp
    generalize a'.eval = ρ at e1 ⊢
    simp [go_sem, e1]
    exact hK _ _ (Below.refl _ _) rfl trivial)) <|
      allOps_cons (rs_not (by kernel_rfl) (fun a' w' hb hs hd hp => rs_op fun K hK => by
    have e1 := (show a'.eval (.tmp 133) = .tuple #[.agg #[.int .i64 0, .int .i64 o2], .int .i64 0] from hp.get 6 133 (by kernel_rfl) (by kernel_rfl))
    clear hs hd hp
    unfold Oper.wp
    generalize a'.eval = ρ at e1 ⊢
    simp [go_sem, e1]
    exact hK _ _ (Below.refl _ _) trivial rfl)) <|
      allOps_cons (rs_not (by kernel_rfl) (fun a' w' hb hs hd hp => rs_op fun K hK => by
    have hz := hb.size
    clear hs hd hp
    unfold Oper.wp
    generalize a'.eval = ρ
    simp [go_sem]
    exact hK _ _ ((Below.refl _ _).alloc (Nat.le_refl _) _) ⟨_, rfl, hz, by simp [go_sem], by simp [go_sem], by simp [go_sem], by simp [go_sem]⟩ trivial)) <|
      allOps_cons (rs_is (by kernel_rfl) (fun a' w' hb hs hd => rs_st rfl fun K hK => by
    obtain ⟨q, e1, zq, c0, c1, f0, f1⟩ := (show (mpNew (V5).heap.size).p (a'.eval (.tmp 21)) w' from hd.get 9 21 (by kernel_rfl) (by kernel_rfl))
    have e2 := (show a'.eval (.tmp 140) = .agg #[.int .i64 (0), .int .i64 (o2)] from hd.get 7 140 (by kernel_rfl) (by kernel_rfl))
    have hz := lt_of c0
    clear hs hd
    unfold Oper.wp
    generalize a'.eval = ρ at e1 e2 hK ⊢
    simp [go_sem, e1, e2, c0, c1, f0, f1]
    exact hK _ (Below.setCell (Below.setCell hb zq _) zq _) ⟨q, e1, zq, by simp [go_sem, c0], by simp [go_sem, c1], by simp [go_sem, f0], by simp [go_sem, f1]⟩)) <|
      allOps_cons (rs_not (by kernel_rfl) (fun a' w' hb hs hd hp => rs_op fun K hK => by
    have e1 := (show a'.eval (.tmp 141) = .int .i64 0 from hp.get 8 141 (by kernel_rfl) (by kernel_rfl))
    clear hs hd hp
    unfold Oper.wp
    generalize a'.eval = ρ at e1 ⊢
    simp [go_sem, e1]
    exact hK _ _ (Below.refl _ _) trivial rfl)) <| allOps_nil) (fun Q V6 hb hall hv => ?_)
    have h8 : Q 22 = .int .i64 0 := hall.get 11 rfl (by decide)
    obtain ⟨qo, h7, -, go0, go1, -, -⟩ := hv
    clear hall
    simp only [me6, maskPut, Nat.reduceAdd]
    rw [h7, h8]
    clear h7 h8
    replace kpa0_ := keep hb kpa0_
    replace kpa1_ := keep hb kpa1_
    replace kpb0_ := keep hb kpb0_
    replace kpb1_ := keep hb kpb1_
    replace kpc0_ := keep hb kpc0_
    replace kpc1_ := keep hb kpc1_
    replace kpd0_ := keep hb kpd0_
    replace kpd1_ := keep hb kpd1_
    replace gx0 := keep hb gx0
    replace gx1 := keep hb gx1
    replace gy0 := keep hb gy0
    replace gy1 := keep hb gy1
    replace gz0 := keep hb gz0
    replace gz1 := keep hb gz1
    replace gw0 := keep hb gw0
    replace gw1 := keep hb gw1
    replace gu0 := keep hb gu0
    replace gu1 := keep hb gu1
    replace HA_ := Lib.hid (HA_.out.bel hb)
    replace HB_ := Lib.hid (HB_.out.bel hb)
    replace HC_ := Lib.hid (HC_.out.bel hb)
    replace HD_ := Lib.hid (HD_.out.bel hb)
    replace BV := Lib.hid (thenB BV.out hb)
    clear hb
    clear V5
    go_wp2_with fail
    have ba := Lib.hid (show Below V6.heap.size V6 (V6.alloc (.cells #[.int .i64 x1, .int .i64 x2, .int .i64 z1, .int .i64 z2, .int .i64 v1, .int .i64 v2, .int .i64 u1, .int .i64 u2, .int .i64 0, .int .i64 o2] 36)) by (repeat (first | with_reducible exact Below.refl _ _ | with_reducible assumption | with_reducible refine Below.alloc ?_ (by first | (simp; done) | (simp; omega) | omega) _ | with_reducible refine Below.setCell ?_ (by first | (simp; done) | (simp; omega) | omega) _ | with_reducible refine Below.drew ?_ | with_reducible refine below_drewN ?_ _)))
    have al0 := (show (V6.alloc (.cells #[.int .i64 x1, .int .i64 x2, .int .i64 z1, .int .i64 z2, .int .i64 v1, .int .i64 v2, .int .i64 u1, .int .i64 u2, .int .i64 0, .int .i64 o2] 36)).cell? ⟨V6.heap.size, 0, none⟩ = some (.int .i64 x1) by simp [go_sem])
    have al1 := (show (V6.alloc (.cells #[.int .i64 x1, .int .i64 x2, .int .i64 z1, .int .i64 z2, .int .i64 v1, .int .i64 v2, .int .i64 u1, .int .i64 u2, .int .i64 0, .int .i64 o2] 36)).cell? ⟨V6.heap.size, 1, none⟩ = some (.int .i64 x2) by simp [go_sem])
    have al2 := (show (V6.alloc (.cells #[.int .i64 x1, .int .i64 x2, .int .i64 z1, .int .i64 z2, .int .i64 v1, .int .i64 v2, .int .i64 u1, .int .i64 u2, .int .i64 0, .int .i64 o2] 36)).cell? ⟨V6.heap.size, 2, none⟩ = some (.int .i64 z1) by simp [go_sem])
    have al3 := (show (V6.alloc (.cells #[.int .i64 x1, .int .i64 x2, .int .i64 z1, .int .i64 z2, .int .i64 v1, .int .i64 v2, .int .i64 u1, .int .i64 u2, .int .i64 0, .int .i64 o2] 36)).cell? ⟨V6.heap.size, 3, none⟩ = some (.int .i64 z2) by simp [go_sem])
    have al4 := (show (V6.alloc (.cells #[.int .i64 x1, .int .i64 x2, .int .i64 z1, .int .i64 z2, .int .i64 v1, .int .i64 v2, .int .i64 u1, .int .i64 u2, .int .i64 0, .int .i64 o2] 36)).cell? ⟨V6.heap.size, 4, none⟩ = some (.int .i64 v1) by simp [go_sem])
    have al5 := (show (V6.alloc (.cells #[.int .i64 x1, .int .i64 x2, .int .i64 z1, .int .i64 z2, .int .i64 v1, .int .i64 v2, .int .i64 u1, .int .i64 u2, .int .i64 0, .int .i64 o2] 36)).cell? ⟨V6.heap.size, 5, none⟩ = some (.int .i64 v2) by simp [go_sem])
    have al6 := (show (V6.alloc (.cells #[.int .i64 x1, .int .i64 x2, .int .i64 z1, .int .i64 z2, .int .i64 v1, .int .i64 v2, .int .i64 u1, .int .i64 u2, .int .i64 0, .int .i64 o2] 36)).cell? ⟨V6.heap.size, 6, none⟩ = some (.int .i64 u1) by simp [go_sem])
    have al7 := (show (V6.alloc (.cells #[.int .i64 x1, .int .i64 x2, .int .i64 z1, .int .i64 z2, .int .i64 v1, .int .i64 v2, .int .i64 u1, .int .i64 u2, .int .i64 0, .int .i64 o2] 36)).cell? ⟨V6.heap.size, 7, none⟩ = some (.int .i64 u2) by simp [go_sem])
    have al8 := (show (V6.alloc (.cells #[.int .i64 x1, .int .i64 x2, .int .i64 z1, .int .i64 z2, .int .i64 v1, .int .i64 v2, .int .i64 u1, .int .i64 u2, .int .i64 0, .int .i64 o2] 36)).cell? ⟨V6.heap.size, 8, none⟩ = some (.int .i64 0) by simp [go_sem])
    have al9 := (show (V6.alloc (.cells #[.int .i64 x1, .int .i64 x2, .int .i64 z1, .int .i64 z2, .int .i64 v1, .int .i64 v2, .int .i64 u1, .int .i64 u2, .int .i64 0, .int .i64 o2] 36)).cell? ⟨V6.heap.size, 9, none⟩ = some (.int .i64 o2) by simp [go_sem])
    replace kpa0_ := keep ba.out kpa0_
    replace kpa1_ := keep ba.out kpa1_
    replace kpb0_ := keep ba.out kpb0_
    replace kpb1_ := keep ba.out kpb1_
    replace kpc0_ := keep ba.out kpc0_
    replace kpc1_ := keep ba.out kpc1_
    replace kpd0_ := keep ba.out kpd0_
    replace kpd1_ := keep ba.out kpd1_
    replace gx0 := keep ba.out gx0
    replace gx1 := keep ba.out gx1
    replace gy0 := keep ba.out gy0
    replace gy1 := keep ba.out gy1
    replace gz0 := keep ba.out gz0
    replace gz1 := keep ba.out gz1
    replace gw0 := keep ba.out gw0
    replace gw1 := keep ba.out gw1
    replace gu0 := keep ba.out gu0
    replace gu1 := keep ba.out gu1
    replace go0 := keep ba.out go0
    replace go1 := keep ba.out go1
    replace HA_ := Lib.hid (HA_.out.bel ba.out)
    replace HB_ := Lib.hid (HB_.out.bel ba.out)
    replace HC_ := Lib.hid (HC_.out.bel ba.out)
    replace HD_ := Lib.hid (HD_.out.bel ba.out)
    replace BV := Lib.hid (thenB BV.out ba.out)
    clear ba
    generalize (V6.alloc (.cells #[.int .i64 x1, .int .i64 x2, .int .i64 z1, .int .i64 z2, .int .i64 v1, .int .i64 v2, .int .i64 u1, .int .i64 u2, .int .i64 0, .int .i64 o2] 36)) = V7 at *
    generalize V6.heap.size = pal at *
    clear V6
    go_loopw [24] (fun i wr => ∃ j : Int, 0 ≤ j ∧ j ≤ 5 ∧ i = .int .i64 j ∧ Below V7.heap.size V7 wr) (fun i _ => 5 - (intOf i).toNat)
    case atStart => exact ⟨0, by omega, by omega, rfl, Below.refl _ _⟩
    case round =>
      obtain ⟨j, hj0, hj, rfl, hb⟩ := hrel
      rcases (by omega : j = 0 ∨ j = 1 ∨ j = 2 ∨ j = 3 ∨ j = 4 ∨ j = 5) with rfl | rfl | rfl | rfl | rfl | rfl
      · replace al0 := keep hb al0
        replace al1 := keep hb al1
        have HBb := Lib.hid hb
        clear HA_ HB_ HC_ HD_ BV kpa0_ kpa1_ kpb0_ kpb1_ kpc0_ kpc1_ kpd0_ kpd1_ gx0 gx1 gy0 gy1 gz0 gz1 gw0 gw1 gu0 gu1 go0 go1 hb
        go_upto_region 20 with (fail)
        refine wp_region_gd [mpEq (.slice (some ⟨pal, 0, none⟩) 5 5), mpEq (.int .i64 0), mpEq (.pointer (some ⟨pal, 0, none⟩)), mpEq (.pointer (some ⟨pal, 0, none⟩)), mpEq (.int .i64 x1), mpEq (.bool true), mpEq (.bool false), mpEq (.bool false), mpEq (.slice (some ⟨pal, 0, none⟩) 5 5), mpEq (.int .i64 0), mpEq (.pointer (some ⟨pal, 0, none⟩)), mpEq (.pointer (some ⟨pal, 1, none⟩)), mpEq (.int .i64 x2), mpEq (.slice (some ⟨pal, 0, none⟩) 5 5), mpEq (.int .i64 0), mpEq (.pointer (some ⟨pal, 0, none⟩)), mpEq (.pointer (some ⟨pal, 0, none⟩)), mpEq (.int .i64 x1), mpEq (.bool true), mpEq (.bool false), mpEq (.bool false)] me7 (by kernel_rfl) (by kernel_rfl) (by kernel_rfl) (
      allOps_cons (fun a' w' hb hs hd => Or.inl ⟨wanted_n rfl, by
    exact op1 (φ := (mpEq (.slice (some ⟨pal, 0, none⟩) 5 5)).p) ((hs.get 23 (by kernel_rfl)).trans (show _ = Value.slice (some ⟨pal, 0, none⟩) 5 5 from rfl)) (fun ρ e c => by simp [go_sem, e]) rfl⟩) <|
      allOps_cons (fun a' w' hb hs hd => Or.inl ⟨wanted_n rfl, by
    exact op1 (φ := (mpEq (.int .i64 0)).p) ((hs.get 24 (by kernel_rfl)).trans (show _ = Value.int .i64 0 from rfl)) (fun ρ e c => by simp [go_sem, e]) rfl⟩) <|
      allOps_cons (fun a' w' hb hs hd => Or.inl ⟨wanted_n rfl, by
    exact op2 (φ := (mpEq (.pointer (some ⟨pal, 0, none⟩))).p) ((show a'.eval (.tmp 176) = .slice (some ⟨pal, 0, none⟩) 5 5 from hd.get 0 176 (by kernel_rfl) (by kernel_rfl))) ((show a'.eval (.tmp 177) = .int .i64 0 from hd.get 1 177 (by kernel_rfl) (by kernel_rfl))) (fun ρ e e' c => by simp [go_sem, e, e']) rfl⟩) <|
      allOps_cons (fun a' w' hb hs hd => Or.inl ⟨wanted_n rfl, by
    exact op1 (φ := (mpEq (.pointer (some ⟨pal, 0, none⟩))).p) ((show a'.eval (.tmp 178) = .pointer (some ⟨pal, 0, none⟩) from hd.get 2 178 (by kernel_rfl) (by kernel_rfl))) (fun ρ e c => by simp [go_sem, e]) rfl⟩) <|
      allOps_cons (fun a' w' hb hs hd => Or.inl ⟨wanted_n rfl, by
    exact op1 (φ := (mpEq (.int .i64 x1)).p) ((show a'.eval (.tmp 179) = .pointer (some ⟨pal, 0, none⟩) from hd.get 3 179 (by kernel_rfl) (by kernel_rfl))) (fun ρ e c => by simp [go_sem, e, keep hb al0]) rfl⟩) <|
      allOps_cons (fun a' w' hb hs hd => Or.inl ⟨wanted_n rfl, by
    have e0 := (show a'.eval (.tmp 180) = .int .i64 x1 from hd.get 4 180 (by kernel_rfl) (by kernel_rfl))
    have e1 := (show a'.eval (.const (.int .i64 0)) = .int .i64 0 from rfl)
    have e2 := (show a'.eval (.const (.int .i64 10000000)) = .int .i64 10000000 from rfl)
    exact rg_fn (φ := (mpEq (.bool true)).p) (vs := #[.int .i64 x1, .int .i64 0, .int .i64 10000000]) rfl (enters_of Try.func13 (by kernel_rfl) rfl) (by simp [e0, e1, e2]) (((show Calls Try.prog 13 #[.int .i64 x1, .int .i64 0, .int .i64 10000000] w' fun e w1 => e = .returned (.bool true) ∧ Below w'.heap.size w' w1 from (bwithin_any _ _ _ w').mono (by rintro e ww ⟨rfl, rfl⟩; exact ⟨ret_bool f1, Below.refl _ _⟩))).mono (by rintro e w1 ⟨rfl, h1⟩; exact ⟨_, rfl, h1, rfl⟩))⟩) <|
      allOps_cons (fun a' w' hb hs hd => Or.inl ⟨wanted_n rfl, by
    exact op1 (φ := (mpEq (.bool false)).p) ((show a'.eval (.tmp 181) = .bool true from hd.get 5 181 (by kernel_rfl) (by kernel_rfl))) (fun ρ e c => by simp [go_sem, e]) rfl⟩) <|
      allOps_cons (fun a' w' hb hs hd => Or.inl ⟨wanted_n rfl, by
    exact op1 (φ := (mpEq (.bool false)).p) ((show a'.eval (.tmp 182) = .bool false from hd.get 6 182 (by kernel_rfl) (by kernel_rfl))) (fun ρ e c => by simp [go_sem, e]) rfl⟩) <|
      allOps_cons (fun a' w' hb hs hd => Or.inl ⟨wanted_t (j := 7) (d := 183) rfl (by kernel_rfl) (show a'.eval (.tmp 183) = .bool false from hd.get 7 183 (by kernel_rfl) (by kernel_rfl)), by
    exact op1 (φ := (mpEq (.slice (some ⟨pal, 0, none⟩) 5 5)).p) ((hs.get 23 (by kernel_rfl)).trans (show _ = Value.slice (some ⟨pal, 0, none⟩) 5 5 from rfl)) (fun ρ e c => by simp [go_sem, e]) rfl⟩) <|
      allOps_cons (fun a' w' hb hs hd => Or.inl ⟨wanted_t (j := 7) (d := 183) rfl (by kernel_rfl) (show a'.eval (.tmp 183) = .bool false from hd.get 7 183 (by kernel_rfl) (by kernel_rfl)), by
    exact op1 (φ := (mpEq (.int .i64 0)).p) ((hs.get 24 (by kernel_rfl)).trans (show _ = Value.int .i64 0 from rfl)) (fun ρ e c => by simp [go_sem, e]) rfl⟩) <|
      allOps_cons (fun a' w' hb hs hd => Or.inl ⟨wanted_t (j := 7) (d := 183) rfl (by kernel_rfl) (show a'.eval (.tmp 183) = .bool false from hd.get 7 183 (by kernel_rfl) (by kernel_rfl)), by
    exact op2 (φ := (mpEq (.pointer (some ⟨pal, 0, none⟩))).p) ((show a'.eval (.tmp 184) = .slice (some ⟨pal, 0, none⟩) 5 5 from hd.get 8 184 (by kernel_rfl) (by kernel_rfl))) ((show a'.eval (.tmp 185) = .int .i64 0 from hd.get 9 185 (by kernel_rfl) (by kernel_rfl))) (fun ρ e e' c => by simp [go_sem, e, e']) rfl⟩) <|
      allOps_cons (fun a' w' hb hs hd => Or.inl ⟨wanted_t (j := 7) (d := 183) rfl (by kernel_rfl) (show a'.eval (.tmp 183) = .bool false from hd.get 7 183 (by kernel_rfl) (by kernel_rfl)), by
    exact op1 (φ := (mpEq (.pointer (some ⟨pal, 1, none⟩))).p) ((show a'.eval (.tmp 186) = .pointer (some ⟨pal, 0, none⟩) from hd.get 10 186 (by kernel_rfl) (by kernel_rfl))) (fun ρ e c => by simp [go_sem, e]) rfl⟩) <|
      allOps_cons (fun a' w' hb hs hd => Or.inl ⟨wanted_t (j := 7) (d := 183) rfl (by kernel_rfl) (show a'.eval (.tmp 183) = .bool false from hd.get 7 183 (by kernel_rfl) (by kernel_rfl)), by
    exact op1 (φ := (mpEq (.int .i64 x2)).p) ((show a'.eval (.tmp 187) = .pointer (some ⟨pal, 1, none⟩) from hd.get 11 187 (by kernel_rfl) (by kernel_rfl))) (fun ρ e c => by simp [go_sem, e, keep hb al1]) rfl⟩) <|
      allOps_cons (fun a' w' hb hs hd => Or.inl ⟨wanted_t (j := 7) (d := 183) rfl (by kernel_rfl) (show a'.eval (.tmp 183) = .bool false from hd.get 7 183 (by kernel_rfl) (by kernel_rfl)), by
    exact op1 (φ := (mpEq (.slice (some ⟨pal, 0, none⟩) 5 5)).p) ((hs.get 23 (by kernel_rfl)).trans (show _ = Value.slice (some ⟨pal, 0, none⟩) 5 5 from rfl)) (fun ρ e c => by simp [go_sem, e]) rfl⟩) <|
      allOps_cons (fun a' w' hb hs hd => Or.inl ⟨wanted_t (j := 7) (d := 183) rfl (by kernel_rfl) (show a'.eval (.tmp 183) = .bool false from hd.get 7 183 (by kernel_rfl) (by kernel_rfl)), by
    exact op1 (φ := (mpEq (.int .i64 0)).p) ((hs.get 24 (by kernel_rfl)).trans (show _ = Value.int .i64 0 from rfl)) (fun ρ e c => by simp [go_sem, e]) rfl⟩) <|
      allOps_cons (fun a' w' hb hs hd => Or.inl ⟨wanted_t (j := 7) (d := 183) rfl (by kernel_rfl) (show a'.eval (.tmp 183) = .bool false from hd.get 7 183 (by kernel_rfl) (by kernel_rfl)), by
    exact op2 (φ := (mpEq (.pointer (some ⟨pal, 0, none⟩))).p) ((show a'.eval (.tmp 189) = .slice (some ⟨pal, 0, none⟩) 5 5 from hd.get 13 189 (by kernel_rfl) (by kernel_rfl))) ((show a'.eval (.tmp 190) = .int .i64 0 from hd.get 14 190 (by kernel_rfl) (by kernel_rfl))) (fun ρ e e' c => by simp [go_sem, e, e']) rfl⟩) <|
      allOps_cons (fun a' w' hb hs hd => Or.inl ⟨wanted_t (j := 7) (d := 183) rfl (by kernel_rfl) (show a'.eval (.tmp 183) = .bool false from hd.get 7 183 (by kernel_rfl) (by kernel_rfl)), by
    exact op1 (φ := (mpEq (.pointer (some ⟨pal, 0, none⟩))).p) ((show a'.eval (.tmp 191) = .pointer (some ⟨pal, 0, none⟩) from hd.get 15 191 (by kernel_rfl) (by kernel_rfl))) (fun ρ e c => by simp [go_sem, e]) rfl⟩) <|
      allOps_cons (fun a' w' hb hs hd => Or.inl ⟨wanted_t (j := 7) (d := 183) rfl (by kernel_rfl) (show a'.eval (.tmp 183) = .bool false from hd.get 7 183 (by kernel_rfl) (by kernel_rfl)), by
    exact op1 (φ := (mpEq (.int .i64 x1)).p) ((show a'.eval (.tmp 192) = .pointer (some ⟨pal, 0, none⟩) from hd.get 16 192 (by kernel_rfl) (by kernel_rfl))) (fun ρ e c => by simp [go_sem, e, keep hb al0]) rfl⟩) <|
      allOps_cons (fun a' w' hb hs hd => Or.inl ⟨wanted_t (j := 7) (d := 183) rfl (by kernel_rfl) (show a'.eval (.tmp 183) = .bool false from hd.get 7 183 (by kernel_rfl) (by kernel_rfl)), by
    have e0 := (show a'.eval (.tmp 188) = .int .i64 x2 from hd.get 12 188 (by kernel_rfl) (by kernel_rfl))
    have e1 := (show a'.eval (.tmp 193) = .int .i64 x1 from hd.get 17 193 (by kernel_rfl) (by kernel_rfl))
    have e2 := (show a'.eval (.const (.int .i64 10000000)) = .int .i64 10000000 from rfl)
    exact rg_fn (φ := (mpEq (.bool true)).p) (vs := #[.int .i64 x2, .int .i64 x1, .int .i64 10000000]) rfl (enters_of Try.func13 (by kernel_rfl) rfl) (by simp [e0, e1, e2]) (((show Calls Try.prog 13 #[.int .i64 x2, .int .i64 x1, .int .i64 10000000] w' fun e w1 => e = .returned (.bool true) ∧ Below w'.heap.size w' w1 from (bwithin_any _ _ _ w').mono (by rintro e ww ⟨rfl, rfl⟩; exact ⟨ret_bool f2, Below.refl _ _⟩))).mono (by rintro e w1 ⟨rfl, h1⟩; exact ⟨_, rfl, h1, rfl⟩))⟩) <|
      allOps_cons (fun a' w' hb hs hd => Or.inl ⟨wanted_t (j := 7) (d := 183) rfl (by kernel_rfl) (show a'.eval (.tmp 183) = .bool false from hd.get 7 183 (by kernel_rfl) (by kernel_rfl)), by
    exact op1 (φ := (mpEq (.bool false)).p) ((show a'.eval (.tmp 194) = .bool true from hd.get 18 194 (by kernel_rfl) (by kernel_rfl))) (fun ρ e c => by simp [go_sem, e]) rfl⟩) <|
      allOps_cons (fun a' w' hb hs hd => Or.inl ⟨wanted_n rfl, by
    exact op2 (φ := (mpEq (.bool false)).p) ((show a'.eval (.tmp 183) = .bool false from hd.get 7 183 (by kernel_rfl) (by kernel_rfl))) ((show a'.eval (.tmp 195) = .bool false from hd.get 19 195 (by kernel_rfl) (by kernel_rfl))) (fun ρ e e' c => by simp [go_sem, e, e', c]) rfl⟩) <| allOps_nil) (fun Q wy hb2 hall => ?_)
        have h8 : Q 196 = .bool false := hall.get 20 rfl
        clear hall
        simp only [me7, maskPut, Nat.reduceAdd]
        rw [h8]
        clear h8
        have HB2 := Lib.hid (thenB HBb.out hb2)
        clear hb2
        go_wp2_with fail
        go_roundw
        case rel => exact ⟨1, by omega, by omega, by go_num, HB2.out⟩
        case measure => simp [intOf]
      · replace al2 := keep hb al2
        replace al3 := keep hb al3
        have HBb := Lib.hid hb
        clear HA_ HB_ HC_ HD_ BV kpa0_ kpa1_ kpb0_ kpb1_ kpc0_ kpc1_ kpd0_ kpd1_ gx0 gx1 gy0 gy1 gz0 gz1 gw0 gw1 gu0 gu1 go0 go1 hb
        go_upto_region 20 with (fail)
        refine wp_region_gd [mpEq (.slice (some ⟨pal, 0, none⟩) 5 5), mpEq (.int .i64 1), mpEq (.pointer (some ⟨pal, 2, none⟩)), mpEq (.pointer (some ⟨pal, 2, none⟩)), mpEq (.int .i64 z1), mpEq (.bool true), mpEq (.bool false), mpEq (.bool false), mpEq (.slice (some ⟨pal, 0, none⟩) 5 5), mpEq (.int .i64 1), mpEq (.pointer (some ⟨pal, 2, none⟩)), mpEq (.pointer (some ⟨pal, 3, none⟩)), mpEq (.int .i64 z2), mpEq (.slice (some ⟨pal, 0, none⟩) 5 5), mpEq (.int .i64 1), mpEq (.pointer (some ⟨pal, 2, none⟩)), mpEq (.pointer (some ⟨pal, 2, none⟩)), mpEq (.int .i64 z1), mpEq (.bool true), mpEq (.bool false), mpEq (.bool false)] me7 (by kernel_rfl) (by kernel_rfl) (by kernel_rfl) (
      allOps_cons (fun a' w' hb hs hd => Or.inl ⟨wanted_n rfl, by
    exact op1 (φ := (mpEq (.slice (some ⟨pal, 0, none⟩) 5 5)).p) ((hs.get 23 (by kernel_rfl)).trans (show _ = Value.slice (some ⟨pal, 0, none⟩) 5 5 from rfl)) (fun ρ e c => by simp [go_sem, e]) rfl⟩) <|
      allOps_cons (fun a' w' hb hs hd => Or.inl ⟨wanted_n rfl, by
    exact op1 (φ := (mpEq (.int .i64 1)).p) ((hs.get 24 (by kernel_rfl)).trans (show _ = Value.int .i64 1 from rfl)) (fun ρ e c => by simp [go_sem, e]) rfl⟩) <|
      allOps_cons (fun a' w' hb hs hd => Or.inl ⟨wanted_n rfl, by
    exact op2 (φ := (mpEq (.pointer (some ⟨pal, 2, none⟩))).p) ((show a'.eval (.tmp 176) = .slice (some ⟨pal, 0, none⟩) 5 5 from hd.get 0 176 (by kernel_rfl) (by kernel_rfl))) ((show a'.eval (.tmp 177) = .int .i64 1 from hd.get 1 177 (by kernel_rfl) (by kernel_rfl))) (fun ρ e e' c => by simp [go_sem, e, e']) rfl⟩) <|
      allOps_cons (fun a' w' hb hs hd => Or.inl ⟨wanted_n rfl, by
    exact op1 (φ := (mpEq (.pointer (some ⟨pal, 2, none⟩))).p) ((show a'.eval (.tmp 178) = .pointer (some ⟨pal, 2, none⟩) from hd.get 2 178 (by kernel_rfl) (by kernel_rfl))) (fun ρ e c => by simp [go_sem, e]) rfl⟩) <|
      allOps_cons (fun a' w' hb hs hd => Or.inl ⟨wanted_n rfl, by
    exact op1 (φ := (mpEq (.int .i64 z1)).p) ((show a'.eval (.tmp 179) = .pointer (some ⟨pal, 2, none⟩) from hd.get 3 179 (by kernel_rfl) (by kernel_rfl))) (fun ρ e c => by simp [go_sem, e, keep hb al2]) rfl⟩) <|
      allOps_cons (fun a' w' hb hs hd => Or.inl ⟨wanted_n rfl, by
    have e0 := (show a'.eval (.tmp 180) = .int .i64 z1 from hd.get 4 180 (by kernel_rfl) (by kernel_rfl))
    have e1 := (show a'.eval (.const (.int .i64 0)) = .int .i64 0 from rfl)
    have e2 := (show a'.eval (.const (.int .i64 10000000)) = .int .i64 10000000 from rfl)
    exact rg_fn (φ := (mpEq (.bool true)).p) (vs := #[.int .i64 z1, .int .i64 0, .int .i64 10000000]) rfl (enters_of Try.func13 (by kernel_rfl) rfl) (by simp [e0, e1, e2]) (((show Calls Try.prog 13 #[.int .i64 z1, .int .i64 0, .int .i64 10000000] w' fun e w1 => e = .returned (.bool true) ∧ Below w'.heap.size w' w1 from (bwithin_any _ _ _ w').mono (by rintro e ww ⟨rfl, rfl⟩; exact ⟨ret_bool f3, Below.refl _ _⟩))).mono (by rintro e w1 ⟨rfl, h1⟩; exact ⟨_, rfl, h1, rfl⟩))⟩) <|
      allOps_cons (fun a' w' hb hs hd => Or.inl ⟨wanted_n rfl, by
    exact op1 (φ := (mpEq (.bool false)).p) ((show a'.eval (.tmp 181) = .bool true from hd.get 5 181 (by kernel_rfl) (by kernel_rfl))) (fun ρ e c => by simp [go_sem, e]) rfl⟩) <|
      allOps_cons (fun a' w' hb hs hd => Or.inl ⟨wanted_n rfl, by
    exact op1 (φ := (mpEq (.bool false)).p) ((show a'.eval (.tmp 182) = .bool false from hd.get 6 182 (by kernel_rfl) (by kernel_rfl))) (fun ρ e c => by simp [go_sem, e]) rfl⟩) <|
      allOps_cons (fun a' w' hb hs hd => Or.inl ⟨wanted_t (j := 7) (d := 183) rfl (by kernel_rfl) (show a'.eval (.tmp 183) = .bool false from hd.get 7 183 (by kernel_rfl) (by kernel_rfl)), by
    exact op1 (φ := (mpEq (.slice (some ⟨pal, 0, none⟩) 5 5)).p) ((hs.get 23 (by kernel_rfl)).trans (show _ = Value.slice (some ⟨pal, 0, none⟩) 5 5 from rfl)) (fun ρ e c => by simp [go_sem, e]) rfl⟩) <|
      allOps_cons (fun a' w' hb hs hd => Or.inl ⟨wanted_t (j := 7) (d := 183) rfl (by kernel_rfl) (show a'.eval (.tmp 183) = .bool false from hd.get 7 183 (by kernel_rfl) (by kernel_rfl)), by
    exact op1 (φ := (mpEq (.int .i64 1)).p) ((hs.get 24 (by kernel_rfl)).trans (show _ = Value.int .i64 1 from rfl)) (fun ρ e c => by simp [go_sem, e]) rfl⟩) <|
      allOps_cons (fun a' w' hb hs hd => Or.inl ⟨wanted_t (j := 7) (d := 183) rfl (by kernel_rfl) (show a'.eval (.tmp 183) = .bool false from hd.get 7 183 (by kernel_rfl) (by kernel_rfl)), by
    exact op2 (φ := (mpEq (.pointer (some ⟨pal, 2, none⟩))).p) ((show a'.eval (.tmp 184) = .slice (some ⟨pal, 0, none⟩) 5 5 from hd.get 8 184 (by kernel_rfl) (by kernel_rfl))) ((show a'.eval (.tmp 185) = .int .i64 1 from hd.get 9 185 (by kernel_rfl) (by kernel_rfl))) (fun ρ e e' c => by simp [go_sem, e, e']) rfl⟩) <|
      allOps_cons (fun a' w' hb hs hd => Or.inl ⟨wanted_t (j := 7) (d := 183) rfl (by kernel_rfl) (show a'.eval (.tmp 183) = .bool false from hd.get 7 183 (by kernel_rfl) (by kernel_rfl)), by
    exact op1 (φ := (mpEq (.pointer (some ⟨pal, 3, none⟩))).p) ((show a'.eval (.tmp 186) = .pointer (some ⟨pal, 2, none⟩) from hd.get 10 186 (by kernel_rfl) (by kernel_rfl))) (fun ρ e c => by simp [go_sem, e]) rfl⟩) <|
      allOps_cons (fun a' w' hb hs hd => Or.inl ⟨wanted_t (j := 7) (d := 183) rfl (by kernel_rfl) (show a'.eval (.tmp 183) = .bool false from hd.get 7 183 (by kernel_rfl) (by kernel_rfl)), by
    exact op1 (φ := (mpEq (.int .i64 z2)).p) ((show a'.eval (.tmp 187) = .pointer (some ⟨pal, 3, none⟩) from hd.get 11 187 (by kernel_rfl) (by kernel_rfl))) (fun ρ e c => by simp [go_sem, e, keep hb al3]) rfl⟩) <|
      allOps_cons (fun a' w' hb hs hd => Or.inl ⟨wanted_t (j := 7) (d := 183) rfl (by kernel_rfl) (show a'.eval (.tmp 183) = .bool false from hd.get 7 183 (by kernel_rfl) (by kernel_rfl)), by
    exact op1 (φ := (mpEq (.slice (some ⟨pal, 0, none⟩) 5 5)).p) ((hs.get 23 (by kernel_rfl)).trans (show _ = Value.slice (some ⟨pal, 0, none⟩) 5 5 from rfl)) (fun ρ e c => by simp [go_sem, e]) rfl⟩) <|
      allOps_cons (fun a' w' hb hs hd => Or.inl ⟨wanted_t (j := 7) (d := 183) rfl (by kernel_rfl) (show a'.eval (.tmp 183) = .bool false from hd.get 7 183 (by kernel_rfl) (by kernel_rfl)), by
    exact op1 (φ := (mpEq (.int .i64 1)).p) ((hs.get 24 (by kernel_rfl)).trans (show _ = Value.int .i64 1 from rfl)) (fun ρ e c => by simp [go_sem, e]) rfl⟩) <|
      allOps_cons (fun a' w' hb hs hd => Or.inl ⟨wanted_t (j := 7) (d := 183) rfl (by kernel_rfl) (show a'.eval (.tmp 183) = .bool false from hd.get 7 183 (by kernel_rfl) (by kernel_rfl)), by
    exact op2 (φ := (mpEq (.pointer (some ⟨pal, 2, none⟩))).p) ((show a'.eval (.tmp 189) = .slice (some ⟨pal, 0, none⟩) 5 5 from hd.get 13 189 (by kernel_rfl) (by kernel_rfl))) ((show a'.eval (.tmp 190) = .int .i64 1 from hd.get 14 190 (by kernel_rfl) (by kernel_rfl))) (fun ρ e e' c => by simp [go_sem, e, e']) rfl⟩) <|
      allOps_cons (fun a' w' hb hs hd => Or.inl ⟨wanted_t (j := 7) (d := 183) rfl (by kernel_rfl) (show a'.eval (.tmp 183) = .bool false from hd.get 7 183 (by kernel_rfl) (by kernel_rfl)), by
    exact op1 (φ := (mpEq (.pointer (some ⟨pal, 2, none⟩))).p) ((show a'.eval (.tmp 191) = .pointer (some ⟨pal, 2, none⟩) from hd.get 15 191 (by kernel_rfl) (by kernel_rfl))) (fun ρ e c => by simp [go_sem, e]) rfl⟩) <|
      allOps_cons (fun a' w' hb hs hd => Or.inl ⟨wanted_t (j := 7) (d := 183) rfl (by kernel_rfl) (show a'.eval (.tmp 183) = .bool false from hd.get 7 183 (by kernel_rfl) (by kernel_rfl)), by
    exact op1 (φ := (mpEq (.int .i64 z1)).p) ((show a'.eval (.tmp 192) = .pointer (some ⟨pal, 2, none⟩) from hd.get 16 192 (by kernel_rfl) (by kernel_rfl))) (fun ρ e c => by simp [go_sem, e, keep hb al2]) rfl⟩) <|
      allOps_cons (fun a' w' hb hs hd => Or.inl ⟨wanted_t (j := 7) (d := 183) rfl (by kernel_rfl) (show a'.eval (.tmp 183) = .bool false from hd.get 7 183 (by kernel_rfl) (by kernel_rfl)), by
    have e0 := (show a'.eval (.tmp 188) = .int .i64 z2 from hd.get 12 188 (by kernel_rfl) (by kernel_rfl))
    have e1 := (show a'.eval (.tmp 193) = .int .i64 z1 from hd.get 17 193 (by kernel_rfl) (by kernel_rfl))
    have e2 := (show a'.eval (.const (.int .i64 10000000)) = .int .i64 10000000 from rfl)
    exact rg_fn (φ := (mpEq (.bool true)).p) (vs := #[.int .i64 z2, .int .i64 z1, .int .i64 10000000]) rfl (enters_of Try.func13 (by kernel_rfl) rfl) (by simp [e0, e1, e2]) (((show Calls Try.prog 13 #[.int .i64 z2, .int .i64 z1, .int .i64 10000000] w' fun e w1 => e = .returned (.bool true) ∧ Below w'.heap.size w' w1 from (bwithin_any _ _ _ w').mono (by rintro e ww ⟨rfl, rfl⟩; exact ⟨ret_bool f4, Below.refl _ _⟩))).mono (by rintro e w1 ⟨rfl, h1⟩; exact ⟨_, rfl, h1, rfl⟩))⟩) <|
      allOps_cons (fun a' w' hb hs hd => Or.inl ⟨wanted_t (j := 7) (d := 183) rfl (by kernel_rfl) (show a'.eval (.tmp 183) = .bool false from hd.get 7 183 (by kernel_rfl) (by kernel_rfl)), by
    exact op1 (φ := (mpEq (.bool false)).p) ((show a'.eval (.tmp 194) = .bool true from hd.get 18 194 (by kernel_rfl) (by kernel_rfl))) (fun ρ e c => by simp [go_sem, e]) rfl⟩) <|
      allOps_cons (fun a' w' hb hs hd => Or.inl ⟨wanted_n rfl, by
    exact op2 (φ := (mpEq (.bool false)).p) ((show a'.eval (.tmp 183) = .bool false from hd.get 7 183 (by kernel_rfl) (by kernel_rfl))) ((show a'.eval (.tmp 195) = .bool false from hd.get 19 195 (by kernel_rfl) (by kernel_rfl))) (fun ρ e e' c => by simp [go_sem, e, e', c]) rfl⟩) <| allOps_nil) (fun Q wy hb2 hall => ?_)
        have h8 : Q 196 = .bool false := hall.get 20 rfl
        clear hall
        simp only [me7, maskPut, Nat.reduceAdd]
        rw [h8]
        clear h8
        have HB2 := Lib.hid (thenB HBb.out hb2)
        clear hb2
        go_wp2_with fail
        go_roundw
        case rel => exact ⟨2, by omega, by omega, by go_num, HB2.out⟩
        case measure => simp [intOf]
      · replace al4 := keep hb al4
        replace al5 := keep hb al5
        have HBb := Lib.hid hb
        clear HA_ HB_ HC_ HD_ BV kpa0_ kpa1_ kpb0_ kpb1_ kpc0_ kpc1_ kpd0_ kpd1_ gx0 gx1 gy0 gy1 gz0 gz1 gw0 gw1 gu0 gu1 go0 go1 hb
        go_upto_region 20 with (fail)
        refine wp_region_gd [mpEq (.slice (some ⟨pal, 0, none⟩) 5 5), mpEq (.int .i64 2), mpEq (.pointer (some ⟨pal, 4, none⟩)), mpEq (.pointer (some ⟨pal, 4, none⟩)), mpEq (.int .i64 v1), mpEq (.bool true), mpEq (.bool false), mpEq (.bool false), mpEq (.slice (some ⟨pal, 0, none⟩) 5 5), mpEq (.int .i64 2), mpEq (.pointer (some ⟨pal, 4, none⟩)), mpEq (.pointer (some ⟨pal, 5, none⟩)), mpEq (.int .i64 v2), mpEq (.slice (some ⟨pal, 0, none⟩) 5 5), mpEq (.int .i64 2), mpEq (.pointer (some ⟨pal, 4, none⟩)), mpEq (.pointer (some ⟨pal, 4, none⟩)), mpEq (.int .i64 v1), mpEq (.bool true), mpEq (.bool false), mpEq (.bool false)] me7 (by kernel_rfl) (by kernel_rfl) (by kernel_rfl) (
      allOps_cons (fun a' w' hb hs hd => Or.inl ⟨wanted_n rfl, by
    exact op1 (φ := (mpEq (.slice (some ⟨pal, 0, none⟩) 5 5)).p) ((hs.get 23 (by kernel_rfl)).trans (show _ = Value.slice (some ⟨pal, 0, none⟩) 5 5 from rfl)) (fun ρ e c => by simp [go_sem, e]) rfl⟩) <|
      allOps_cons (fun a' w' hb hs hd => Or.inl ⟨wanted_n rfl, by
    exact op1 (φ := (mpEq (.int .i64 2)).p) ((hs.get 24 (by kernel_rfl)).trans (show _ = Value.int .i64 2 from rfl)) (fun ρ e c => by simp [go_sem, e]) rfl⟩) <|
      allOps_cons (fun a' w' hb hs hd => Or.inl ⟨wanted_n rfl, by
    exact op2 (φ := (mpEq (.pointer (some ⟨pal, 4, none⟩))).p) ((show a'.eval (.tmp 176) = .slice (some ⟨pal, 0, none⟩) 5 5 from hd.get 0 176 (by kernel_rfl) (by kernel_rfl))) ((show a'.eval (.tmp 177) = .int .i64 2 from hd.get 1 177 (by kernel_rfl) (by kernel_rfl))) (fun ρ e e' c => by simp [go_sem, e, e']) rfl⟩) <|
      allOps_cons (fun a' w' hb hs hd => Or.inl ⟨wanted_n rfl, by
    exact op1 (φ := (mpEq (.pointer (some ⟨pal, 4, none⟩))).p) ((show a'.eval (.tmp 178) = .pointer (some ⟨pal, 4, none⟩) from hd.get 2 178 (by kernel_rfl) (by kernel_rfl))) (fun ρ e c => by simp [go_sem, e]) rfl⟩) <|
      allOps_cons (fun a' w' hb hs hd => Or.inl ⟨wanted_n rfl, by
    exact op1 (φ := (mpEq (.int .i64 v1)).p) ((show a'.eval (.tmp 179) = .pointer (some ⟨pal, 4, none⟩) from hd.get 3 179 (by kernel_rfl) (by kernel_rfl))) (fun ρ e c => by simp [go_sem, e, keep hb al4]) rfl⟩) <|
      allOps_cons (fun a' w' hb hs hd => Or.inl ⟨wanted_n rfl, by
    have e0 := (show a'.eval (.tmp 180) = .int .i64 v1 from hd.get 4 180 (by kernel_rfl) (by kernel_rfl))
    have e1 := (show a'.eval (.const (.int .i64 0)) = .int .i64 0 from rfl)
    have e2 := (show a'.eval (.const (.int .i64 10000000)) = .int .i64 10000000 from rfl)
    exact rg_fn (φ := (mpEq (.bool true)).p) (vs := #[.int .i64 v1, .int .i64 0, .int .i64 10000000]) rfl (enters_of Try.func13 (by kernel_rfl) rfl) (by simp [e0, e1, e2]) (((show Calls Try.prog 13 #[.int .i64 v1, .int .i64 0, .int .i64 10000000] w' fun e w1 => e = .returned (.bool true) ∧ Below w'.heap.size w' w1 from (bwithin_any _ _ _ w').mono (by rintro e ww ⟨rfl, rfl⟩; exact ⟨ret_bool f5, Below.refl _ _⟩))).mono (by rintro e w1 ⟨rfl, h1⟩; exact ⟨_, rfl, h1, rfl⟩))⟩) <|
      allOps_cons (fun a' w' hb hs hd => Or.inl ⟨wanted_n rfl, by
    exact op1 (φ := (mpEq (.bool false)).p) ((show a'.eval (.tmp 181) = .bool true from hd.get 5 181 (by kernel_rfl) (by kernel_rfl))) (fun ρ e c => by simp [go_sem, e]) rfl⟩) <|
      allOps_cons (fun a' w' hb hs hd => Or.inl ⟨wanted_n rfl, by
    exact op1 (φ := (mpEq (.bool false)).p) ((show a'.eval (.tmp 182) = .bool false from hd.get 6 182 (by kernel_rfl) (by kernel_rfl))) (fun ρ e c => by simp [go_sem, e]) rfl⟩) <|
      allOps_cons (fun a' w' hb hs hd => Or.inl ⟨wanted_t (j := 7) (d := 183) rfl (by kernel_rfl) (show a'.eval (.tmp 183) = .bool false from hd.get 7 183 (by kernel_rfl) (by kernel_rfl)), by
    exact op1 (φ := (mpEq (.slice (some ⟨pal, 0, none⟩) 5 5)).p) ((hs.get 23 (by kernel_rfl)).trans (show _ = Value.slice (some ⟨pal, 0, none⟩) 5 5 from rfl)) (fun ρ e c => by simp [go_sem, e]) rfl⟩) <|
      allOps_cons (fun a' w' hb hs hd => Or.inl ⟨wanted_t (j := 7) (d := 183) rfl (by kernel_rfl) (show a'.eval (.tmp 183) = .bool false from hd.get 7 183 (by kernel_rfl) (by kernel_rfl)), by
    exact op1 (φ := (mpEq (.int .i64 2)).p) ((hs.get 24 (by kernel_rfl)).trans (show _ = Value.int .i64 2 from rfl)) (fun ρ e c => by simp [go_sem, e]) rfl⟩) <|
      allOps_cons (fun a' w' hb hs hd => Or.inl ⟨wanted_t (j := 7) (d := 183) rfl (by kernel_rfl) (show a'.eval (.tmp 183) = .bool false from hd.get 7 183 (by kernel_rfl) (by kernel_rfl)), by
    exact op2 (φ := (mpEq (.pointer (some ⟨pal, 4, none⟩))).p) ((show a'.eval (.tmp 184) = .slice (some ⟨pal, 0, none⟩) 5 5 from hd.get 8 184 (by kernel_rfl) (by kernel_rfl))) ((show a'.eval (.tmp 185) = .int .i64 2 from hd.get 9 185 (by kernel_rfl) (by kernel_rfl))) (fun ρ e e' c => by simp [go_sem, e, e']) rfl⟩) <|
      allOps_cons (fun a' w' hb hs hd => Or.inl ⟨wanted_t (j := 7) (d := 183) rfl (by kernel_rfl) (show a'.eval (.tmp 183) = .bool false from hd.get 7 183 (by kernel_rfl) (by kernel_rfl)), by
    exact op1 (φ := (mpEq (.pointer (some ⟨pal, 5, none⟩))).p) ((show a'.eval (.tmp 186) = .pointer (some ⟨pal, 4, none⟩) from hd.get 10 186 (by kernel_rfl) (by kernel_rfl))) (fun ρ e c => by simp [go_sem, e]) rfl⟩) <|
      allOps_cons (fun a' w' hb hs hd => Or.inl ⟨wanted_t (j := 7) (d := 183) rfl (by kernel_rfl) (show a'.eval (.tmp 183) = .bool false from hd.get 7 183 (by kernel_rfl) (by kernel_rfl)), by
    exact op1 (φ := (mpEq (.int .i64 v2)).p) ((show a'.eval (.tmp 187) = .pointer (some ⟨pal, 5, none⟩) from hd.get 11 187 (by kernel_rfl) (by kernel_rfl))) (fun ρ e c => by simp [go_sem, e, keep hb al5]) rfl⟩) <|
      allOps_cons (fun a' w' hb hs hd => Or.inl ⟨wanted_t (j := 7) (d := 183) rfl (by kernel_rfl) (show a'.eval (.tmp 183) = .bool false from hd.get 7 183 (by kernel_rfl) (by kernel_rfl)), by
    exact op1 (φ := (mpEq (.slice (some ⟨pal, 0, none⟩) 5 5)).p) ((hs.get 23 (by kernel_rfl)).trans (show _ = Value.slice (some ⟨pal, 0, none⟩) 5 5 from rfl)) (fun ρ e c => by simp [go_sem, e]) rfl⟩) <|
      allOps_cons (fun a' w' hb hs hd => Or.inl ⟨wanted_t (j := 7) (d := 183) rfl (by kernel_rfl) (show a'.eval (.tmp 183) = .bool false from hd.get 7 183 (by kernel_rfl) (by kernel_rfl)), by
    exact op1 (φ := (mpEq (.int .i64 2)).p) ((hs.get 24 (by kernel_rfl)).trans (show _ = Value.int .i64 2 from rfl)) (fun ρ e c => by simp [go_sem, e]) rfl⟩) <|
      allOps_cons (fun a' w' hb hs hd => Or.inl ⟨wanted_t (j := 7) (d := 183) rfl (by kernel_rfl) (show a'.eval (.tmp 183) = .bool false from hd.get 7 183 (by kernel_rfl) (by kernel_rfl)), by
    exact op2 (φ := (mpEq (.pointer (some ⟨pal, 4, none⟩))).p) ((show a'.eval (.tmp 189) = .slice (some ⟨pal, 0, none⟩) 5 5 from hd.get 13 189 (by kernel_rfl) (by kernel_rfl))) ((show a'.eval (.tmp 190) = .int .i64 2 from hd.get 14 190 (by kernel_rfl) (by kernel_rfl))) (fun ρ e e' c => by simp [go_sem, e, e']) rfl⟩) <|
      allOps_cons (fun a' w' hb hs hd => Or.inl ⟨wanted_t (j := 7) (d := 183) rfl (by kernel_rfl) (show a'.eval (.tmp 183) = .bool false from hd.get 7 183 (by kernel_rfl) (by kernel_rfl)), by
    exact op1 (φ := (mpEq (.pointer (some ⟨pal, 4, none⟩))).p) ((show a'.eval (.tmp 191) = .pointer (some ⟨pal, 4, none⟩) from hd.get 15 191 (by kernel_rfl) (by kernel_rfl))) (fun ρ e c => by simp [go_sem, e]) rfl⟩) <|
      allOps_cons (fun a' w' hb hs hd => Or.inl ⟨wanted_t (j := 7) (d := 183) rfl (by kernel_rfl) (show a'.eval (.tmp 183) = .bool false from hd.get 7 183 (by kernel_rfl) (by kernel_rfl)), by
    exact op1 (φ := (mpEq (.int .i64 v1)).p) ((show a'.eval (.tmp 192) = .pointer (some ⟨pal, 4, none⟩) from hd.get 16 192 (by kernel_rfl) (by kernel_rfl))) (fun ρ e c => by simp [go_sem, e, keep hb al4]) rfl⟩) <|
      allOps_cons (fun a' w' hb hs hd => Or.inl ⟨wanted_t (j := 7) (d := 183) rfl (by kernel_rfl) (show a'.eval (.tmp 183) = .bool false from hd.get 7 183 (by kernel_rfl) (by kernel_rfl)), by
    have e0 := (show a'.eval (.tmp 188) = .int .i64 v2 from hd.get 12 188 (by kernel_rfl) (by kernel_rfl))
    have e1 := (show a'.eval (.tmp 193) = .int .i64 v1 from hd.get 17 193 (by kernel_rfl) (by kernel_rfl))
    have e2 := (show a'.eval (.const (.int .i64 10000000)) = .int .i64 10000000 from rfl)
    exact rg_fn (φ := (mpEq (.bool true)).p) (vs := #[.int .i64 v2, .int .i64 v1, .int .i64 10000000]) rfl (enters_of Try.func13 (by kernel_rfl) rfl) (by simp [e0, e1, e2]) (((show Calls Try.prog 13 #[.int .i64 v2, .int .i64 v1, .int .i64 10000000] w' fun e w1 => e = .returned (.bool true) ∧ Below w'.heap.size w' w1 from (bwithin_any _ _ _ w').mono (by rintro e ww ⟨rfl, rfl⟩; exact ⟨ret_bool f6, Below.refl _ _⟩))).mono (by rintro e w1 ⟨rfl, h1⟩; exact ⟨_, rfl, h1, rfl⟩))⟩) <|
      allOps_cons (fun a' w' hb hs hd => Or.inl ⟨wanted_t (j := 7) (d := 183) rfl (by kernel_rfl) (show a'.eval (.tmp 183) = .bool false from hd.get 7 183 (by kernel_rfl) (by kernel_rfl)), by
    exact op1 (φ := (mpEq (.bool false)).p) ((show a'.eval (.tmp 194) = .bool true from hd.get 18 194 (by kernel_rfl) (by kernel_rfl))) (fun ρ e c => by simp [go_sem, e]) rfl⟩) <|
      allOps_cons (fun a' w' hb hs hd => Or.inl ⟨wanted_n rfl, by
    exact op2 (φ := (mpEq (.bool false)).p) ((show a'.eval (.tmp 183) = .bool false from hd.get 7 183 (by kernel_rfl) (by kernel_rfl))) ((show a'.eval (.tmp 195) = .bool false from hd.get 19 195 (by kernel_rfl) (by kernel_rfl))) (fun ρ e e' c => by simp [go_sem, e, e', c]) rfl⟩) <| allOps_nil) (fun Q wy hb2 hall => ?_)
        have h8 : Q 196 = .bool false := hall.get 20 rfl
        clear hall
        simp only [me7, maskPut, Nat.reduceAdd]
        rw [h8]
        clear h8
        have HB2 := Lib.hid (thenB HBb.out hb2)
        clear hb2
        go_wp2_with fail
        go_roundw
        case rel => exact ⟨3, by omega, by omega, by go_num, HB2.out⟩
        case measure => simp [intOf]
      · replace al6 := keep hb al6
        replace al7 := keep hb al7
        have HBb := Lib.hid hb
        clear HA_ HB_ HC_ HD_ BV kpa0_ kpa1_ kpb0_ kpb1_ kpc0_ kpc1_ kpd0_ kpd1_ gx0 gx1 gy0 gy1 gz0 gz1 gw0 gw1 gu0 gu1 go0 go1 hb
        go_upto_region 20 with (fail)
        refine wp_region_gd [mpEq (.slice (some ⟨pal, 0, none⟩) 5 5), mpEq (.int .i64 3), mpEq (.pointer (some ⟨pal, 6, none⟩)), mpEq (.pointer (some ⟨pal, 6, none⟩)), mpEq (.int .i64 u1), mpEq (.bool true), mpEq (.bool false), mpEq (.bool false), mpEq (.slice (some ⟨pal, 0, none⟩) 5 5), mpEq (.int .i64 3), mpEq (.pointer (some ⟨pal, 6, none⟩)), mpEq (.pointer (some ⟨pal, 7, none⟩)), mpEq (.int .i64 u2), mpEq (.slice (some ⟨pal, 0, none⟩) 5 5), mpEq (.int .i64 3), mpEq (.pointer (some ⟨pal, 6, none⟩)), mpEq (.pointer (some ⟨pal, 6, none⟩)), mpEq (.int .i64 u1), mpEq (.bool true), mpEq (.bool false), mpEq (.bool false)] me7 (by kernel_rfl) (by kernel_rfl) (by kernel_rfl) (
      allOps_cons (fun a' w' hb hs hd => Or.inl ⟨wanted_n rfl, by
    exact op1 (φ := (mpEq (.slice (some ⟨pal, 0, none⟩) 5 5)).p) ((hs.get 23 (by kernel_rfl)).trans (show _ = Value.slice (some ⟨pal, 0, none⟩) 5 5 from rfl)) (fun ρ e c => by simp [go_sem, e]) rfl⟩) <|
      allOps_cons (fun a' w' hb hs hd => Or.inl ⟨wanted_n rfl, by
    exact op1 (φ := (mpEq (.int .i64 3)).p) ((hs.get 24 (by kernel_rfl)).trans (show _ = Value.int .i64 3 from rfl)) (fun ρ e c => by simp [go_sem, e]) rfl⟩) <|
      allOps_cons (fun a' w' hb hs hd => Or.inl ⟨wanted_n rfl, by
    exact op2 (φ := (mpEq (.pointer (some ⟨pal, 6, none⟩))).p) ((show a'.eval (.tmp 176) = .slice (some ⟨pal, 0, none⟩) 5 5 from hd.get 0 176 (by kernel_rfl) (by kernel_rfl))) ((show a'.eval (.tmp 177) = .int .i64 3 from hd.get 1 177 (by kernel_rfl) (by kernel_rfl))) (fun ρ e e' c => by simp [go_sem, e, e']) rfl⟩) <|
      allOps_cons (fun a' w' hb hs hd => Or.inl ⟨wanted_n rfl, by
    exact op1 (φ := (mpEq (.pointer (some ⟨pal, 6, none⟩))).p) ((show a'.eval (.tmp 178) = .pointer (some ⟨pal, 6, none⟩) from hd.get 2 178 (by kernel_rfl) (by kernel_rfl))) (fun ρ e c => by simp [go_sem, e]) rfl⟩) <|
      allOps_cons (fun a' w' hb hs hd => Or.inl ⟨wanted_n rfl, by
    exact op1 (φ := (mpEq (.int .i64 u1)).p) ((show a'.eval (.tmp 179) = .pointer (some ⟨pal, 6, none⟩) from hd.get 3 179 (by kernel_rfl) (by kernel_rfl))) (fun ρ e c => by simp [go_sem, e, keep hb al6]) rfl⟩) <|
      allOps_cons (fun a' w' hb hs hd => Or.inl ⟨wanted_n rfl, by
    have e0 := (show a'.eval (.tmp 180) = .int .i64 u1 from hd.get 4 180 (by kernel_rfl) (by kernel_rfl))
    have e1 := (show a'.eval (.const (.int .i64 0)) = .int .i64 0 from rfl)
    have e2 := (show a'.eval (.const (.int .i64 10000000)) = .int .i64 10000000 from rfl)
    exact rg_fn (φ := (mpEq (.bool true)).p) (vs := #[.int .i64 u1, .int .i64 0, .int .i64 10000000]) rfl (enters_of Try.func13 (by kernel_rfl) rfl) (by simp [e0, e1, e2]) (((show Calls Try.prog 13 #[.int .i64 u1, .int .i64 0, .int .i64 10000000] w' fun e w1 => e = .returned (.bool true) ∧ Below w'.heap.size w' w1 from (bwithin_any _ _ _ w').mono (by rintro e ww ⟨rfl, rfl⟩; exact ⟨ret_bool f7, Below.refl _ _⟩))).mono (by rintro e w1 ⟨rfl, h1⟩; exact ⟨_, rfl, h1, rfl⟩))⟩) <|
      allOps_cons (fun a' w' hb hs hd => Or.inl ⟨wanted_n rfl, by
    exact op1 (φ := (mpEq (.bool false)).p) ((show a'.eval (.tmp 181) = .bool true from hd.get 5 181 (by kernel_rfl) (by kernel_rfl))) (fun ρ e c => by simp [go_sem, e]) rfl⟩) <|
      allOps_cons (fun a' w' hb hs hd => Or.inl ⟨wanted_n rfl, by
    exact op1 (φ := (mpEq (.bool false)).p) ((show a'.eval (.tmp 182) = .bool false from hd.get 6 182 (by kernel_rfl) (by kernel_rfl))) (fun ρ e c => by simp [go_sem, e]) rfl⟩) <|
      allOps_cons (fun a' w' hb hs hd => Or.inl ⟨wanted_t (j := 7) (d := 183) rfl (by kernel_rfl) (show a'.eval (.tmp 183) = .bool false from hd.get 7 183 (by kernel_rfl) (by kernel_rfl)), by
    exact op1 (φ := (mpEq (.slice (some ⟨pal, 0, none⟩) 5 5)).p) ((hs.get 23 (by kernel_rfl)).trans (show _ = Value.slice (some ⟨pal, 0, none⟩) 5 5 from rfl)) (fun ρ e c => by simp [go_sem, e]) rfl⟩) <|
      allOps_cons (fun a' w' hb hs hd => Or.inl ⟨wanted_t (j := 7) (d := 183) rfl (by kernel_rfl) (show a'.eval (.tmp 183) = .bool false from hd.get 7 183 (by kernel_rfl) (by kernel_rfl)), by
    exact op1 (φ := (mpEq (.int .i64 3)).p) ((hs.get 24 (by kernel_rfl)).trans (show _ = Value.int .i64 3 from rfl)) (fun ρ e c => by simp [go_sem, e]) rfl⟩) <|
      allOps_cons (fun a' w' hb hs hd => Or.inl ⟨wanted_t (j := 7) (d := 183) rfl (by kernel_rfl) (show a'.eval (.tmp 183) = .bool false from hd.get 7 183 (by kernel_rfl) (by kernel_rfl)), by
    exact op2 (φ := (mpEq (.pointer (some ⟨pal, 6, none⟩))).p) ((show a'.eval (.tmp 184) = .slice (some ⟨pal, 0, none⟩) 5 5 from hd.get 8 184 (by kernel_rfl) (by kernel_rfl))) ((show a'.eval (.tmp 185) = .int .i64 3 from hd.get 9 185 (by kernel_rfl) (by kernel_rfl))) (fun ρ e e' c => by simp [go_sem, e, e']) rfl⟩) <|
      allOps_cons (fun a' w' hb hs hd => Or.inl ⟨wanted_t (j := 7) (d := 183) rfl (by kernel_rfl) (show a'.eval (.tmp 183) = .bool false from hd.get 7 183 (by kernel_rfl) (by kernel_rfl)), by
    exact op1 (φ := (mpEq (.pointer (some ⟨pal, 7, none⟩))).p) ((show a'.eval (.tmp 186) = .pointer (some ⟨pal, 6, none⟩) from hd.get 10 186 (by kernel_rfl) (by kernel_rfl))) (fun ρ e c => by simp [go_sem, e]) rfl⟩) <|
      allOps_cons (fun a' w' hb hs hd => Or.inl ⟨wanted_t (j := 7) (d := 183) rfl (by kernel_rfl) (show a'.eval (.tmp 183) = .bool false from hd.get 7 183 (by kernel_rfl) (by kernel_rfl)), by
    exact op1 (φ := (mpEq (.int .i64 u2)).p) ((show a'.eval (.tmp 187) = .pointer (some ⟨pal, 7, none⟩) from hd.get 11 187 (by kernel_rfl) (by kernel_rfl))) (fun ρ e c => by simp [go_sem, e, keep hb al7]) rfl⟩) <|
      allOps_cons (fun a' w' hb hs hd => Or.inl ⟨wanted_t (j := 7) (d := 183) rfl (by kernel_rfl) (show a'.eval (.tmp 183) = .bool false from hd.get 7 183 (by kernel_rfl) (by kernel_rfl)), by
    exact op1 (φ := (mpEq (.slice (some ⟨pal, 0, none⟩) 5 5)).p) ((hs.get 23 (by kernel_rfl)).trans (show _ = Value.slice (some ⟨pal, 0, none⟩) 5 5 from rfl)) (fun ρ e c => by simp [go_sem, e]) rfl⟩) <|
      allOps_cons (fun a' w' hb hs hd => Or.inl ⟨wanted_t (j := 7) (d := 183) rfl (by kernel_rfl) (show a'.eval (.tmp 183) = .bool false from hd.get 7 183 (by kernel_rfl) (by kernel_rfl)), by
    exact op1 (φ := (mpEq (.int .i64 3)).p) ((hs.get 24 (by kernel_rfl)).trans (show _ = Value.int .i64 3 from rfl)) (fun ρ e c => by simp [go_sem, e]) rfl⟩) <|
      allOps_cons (fun a' w' hb hs hd => Or.inl ⟨wanted_t (j := 7) (d := 183) rfl (by kernel_rfl) (show a'.eval (.tmp 183) = .bool false from hd.get 7 183 (by kernel_rfl) (by kernel_rfl)), by
    exact op2 (φ := (mpEq (.pointer (some ⟨pal, 6, none⟩))).p) ((show a'.eval (.tmp 189) = .slice (some ⟨pal, 0, none⟩) 5 5 from hd.get 13 189 (by kernel_rfl) (by kernel_rfl))) ((show a'.eval (.tmp 190) = .int .i64 3 from hd.get 14 190 (by kernel_rfl) (by kernel_rfl))) (fun ρ e e' c => by simp [go_sem, e, e']) rfl⟩) <|
      allOps_cons (fun a' w' hb hs hd => Or.inl ⟨wanted_t (j := 7) (d := 183) rfl (by kernel_rfl) (show a'.eval (.tmp 183) = .bool false from hd.get 7 183 (by kernel_rfl) (by kernel_rfl)), by
    exact op1 (φ := (mpEq (.pointer (some ⟨pal, 6, none⟩))).p) ((show a'.eval (.tmp 191) = .pointer (some ⟨pal, 6, none⟩) from hd.get 15 191 (by kernel_rfl) (by kernel_rfl))) (fun ρ e c => by simp [go_sem, e]) rfl⟩) <|
      allOps_cons (fun a' w' hb hs hd => Or.inl ⟨wanted_t (j := 7) (d := 183) rfl (by kernel_rfl) (show a'.eval (.tmp 183) = .bool false from hd.get 7 183 (by kernel_rfl) (by kernel_rfl)), by
    exact op1 (φ := (mpEq (.int .i64 u1)).p) ((show a'.eval (.tmp 192) = .pointer (some ⟨pal, 6, none⟩) from hd.get 16 192 (by kernel_rfl) (by kernel_rfl))) (fun ρ e c => by simp [go_sem, e, keep hb al6]) rfl⟩) <|
      allOps_cons (fun a' w' hb hs hd => Or.inl ⟨wanted_t (j := 7) (d := 183) rfl (by kernel_rfl) (show a'.eval (.tmp 183) = .bool false from hd.get 7 183 (by kernel_rfl) (by kernel_rfl)), by
    have e0 := (show a'.eval (.tmp 188) = .int .i64 u2 from hd.get 12 188 (by kernel_rfl) (by kernel_rfl))
    have e1 := (show a'.eval (.tmp 193) = .int .i64 u1 from hd.get 17 193 (by kernel_rfl) (by kernel_rfl))
    have e2 := (show a'.eval (.const (.int .i64 10000000)) = .int .i64 10000000 from rfl)
    exact rg_fn (φ := (mpEq (.bool true)).p) (vs := #[.int .i64 u2, .int .i64 u1, .int .i64 10000000]) rfl (enters_of Try.func13 (by kernel_rfl) rfl) (by simp [e0, e1, e2]) (((show Calls Try.prog 13 #[.int .i64 u2, .int .i64 u1, .int .i64 10000000] w' fun e w1 => e = .returned (.bool true) ∧ Below w'.heap.size w' w1 from (bwithin_any _ _ _ w').mono (by rintro e ww ⟨rfl, rfl⟩; exact ⟨ret_bool f8, Below.refl _ _⟩))).mono (by rintro e w1 ⟨rfl, h1⟩; exact ⟨_, rfl, h1, rfl⟩))⟩) <|
      allOps_cons (fun a' w' hb hs hd => Or.inl ⟨wanted_t (j := 7) (d := 183) rfl (by kernel_rfl) (show a'.eval (.tmp 183) = .bool false from hd.get 7 183 (by kernel_rfl) (by kernel_rfl)), by
    exact op1 (φ := (mpEq (.bool false)).p) ((show a'.eval (.tmp 194) = .bool true from hd.get 18 194 (by kernel_rfl) (by kernel_rfl))) (fun ρ e c => by simp [go_sem, e]) rfl⟩) <|
      allOps_cons (fun a' w' hb hs hd => Or.inl ⟨wanted_n rfl, by
    exact op2 (φ := (mpEq (.bool false)).p) ((show a'.eval (.tmp 183) = .bool false from hd.get 7 183 (by kernel_rfl) (by kernel_rfl))) ((show a'.eval (.tmp 195) = .bool false from hd.get 19 195 (by kernel_rfl) (by kernel_rfl))) (fun ρ e e' c => by simp [go_sem, e, e', c]) rfl⟩) <| allOps_nil) (fun Q wy hb2 hall => ?_)
        have h8 : Q 196 = .bool false := hall.get 20 rfl
        clear hall
        simp only [me7, maskPut, Nat.reduceAdd]
        rw [h8]
        clear h8
        have HB2 := Lib.hid (thenB HBb.out hb2)
        clear hb2
        go_wp2_with fail
        go_roundw
        case rel => exact ⟨4, by omega, by omega, by go_num, HB2.out⟩
        case measure => simp [intOf]
      · replace al8 := keep hb al8
        replace al9 := keep hb al9
        have HBb := Lib.hid hb
        clear HA_ HB_ HC_ HD_ BV kpa0_ kpa1_ kpb0_ kpb1_ kpc0_ kpc1_ kpd0_ kpd1_ gx0 gx1 gy0 gy1 gz0 gz1 gw0 gw1 gu0 gu1 go0 go1 hb
        go_upto_region 20 with (fail)
        refine wp_region_gd [mpEq (.slice (some ⟨pal, 0, none⟩) 5 5), mpEq (.int .i64 4), mpEq (.pointer (some ⟨pal, 8, none⟩)), mpEq (.pointer (some ⟨pal, 8, none⟩)), mpEq (.int .i64 0), mpEq (.bool true), mpEq (.bool false), mpEq (.bool false), mpEq (.slice (some ⟨pal, 0, none⟩) 5 5), mpEq (.int .i64 4), mpEq (.pointer (some ⟨pal, 8, none⟩)), mpEq (.pointer (some ⟨pal, 9, none⟩)), mpEq (.int .i64 o2), mpEq (.slice (some ⟨pal, 0, none⟩) 5 5), mpEq (.int .i64 4), mpEq (.pointer (some ⟨pal, 8, none⟩)), mpEq (.pointer (some ⟨pal, 8, none⟩)), mpEq (.int .i64 0), mpEq (.bool true), mpEq (.bool false), mpEq (.bool false)] me7 (by kernel_rfl) (by kernel_rfl) (by kernel_rfl) (
      allOps_cons (fun a' w' hb hs hd => Or.inl ⟨wanted_n rfl, by
    exact op1 (φ := (mpEq (.slice (some ⟨pal, 0, none⟩) 5 5)).p) ((hs.get 23 (by kernel_rfl)).trans (show _ = Value.slice (some ⟨pal, 0, none⟩) 5 5 from rfl)) (fun ρ e c => by simp [go_sem, e]) rfl⟩) <|
      allOps_cons (fun a' w' hb hs hd => Or.inl ⟨wanted_n rfl, by
    exact op1 (φ := (mpEq (.int .i64 4)).p) ((hs.get 24 (by kernel_rfl)).trans (show _ = Value.int .i64 4 from rfl)) (fun ρ e c => by simp [go_sem, e]) rfl⟩) <|
      allOps_cons (fun a' w' hb hs hd => Or.inl ⟨wanted_n rfl, by
    exact op2 (φ := (mpEq (.pointer (some ⟨pal, 8, none⟩))).p) ((show a'.eval (.tmp 176) = .slice (some ⟨pal, 0, none⟩) 5 5 from hd.get 0 176 (by kernel_rfl) (by kernel_rfl))) ((show a'.eval (.tmp 177) = .int .i64 4 from hd.get 1 177 (by kernel_rfl) (by kernel_rfl))) (fun ρ e e' c => by simp [go_sem, e, e']) rfl⟩) <|
      allOps_cons (fun a' w' hb hs hd => Or.inl ⟨wanted_n rfl, by
    exact op1 (φ := (mpEq (.pointer (some ⟨pal, 8, none⟩))).p) ((show a'.eval (.tmp 178) = .pointer (some ⟨pal, 8, none⟩) from hd.get 2 178 (by kernel_rfl) (by kernel_rfl))) (fun ρ e c => by simp [go_sem, e]) rfl⟩) <|
      allOps_cons (fun a' w' hb hs hd => Or.inl ⟨wanted_n rfl, by
    exact op1 (φ := (mpEq (.int .i64 0)).p) ((show a'.eval (.tmp 179) = .pointer (some ⟨pal, 8, none⟩) from hd.get 3 179 (by kernel_rfl) (by kernel_rfl))) (fun ρ e c => by simp [go_sem, e, keep hb al8]) rfl⟩) <|
      allOps_cons (fun a' w' hb hs hd => Or.inl ⟨wanted_n rfl, by
    have e0 := (show a'.eval (.tmp 180) = .int .i64 0 from hd.get 4 180 (by kernel_rfl) (by kernel_rfl))
    have e1 := (show a'.eval (.const (.int .i64 0)) = .int .i64 0 from rfl)
    have e2 := (show a'.eval (.const (.int .i64 10000000)) = .int .i64 10000000 from rfl)
    exact rg_fn (φ := (mpEq (.bool true)).p) (vs := #[.int .i64 0, .int .i64 0, .int .i64 10000000]) rfl (enters_of Try.func13 (by kernel_rfl) rfl) (by simp [e0, e1, e2]) (((show Calls Try.prog 13 #[.int .i64 0, .int .i64 0, .int .i64 10000000] w' fun e w1 => e = .returned (.bool true) ∧ Below w'.heap.size w' w1 from (bwithin_any _ _ _ w').mono (by rintro e ww ⟨rfl, rfl⟩; exact ⟨ret_bool f9, Below.refl _ _⟩))).mono (by rintro e w1 ⟨rfl, h1⟩; exact ⟨_, rfl, h1, rfl⟩))⟩) <|
      allOps_cons (fun a' w' hb hs hd => Or.inl ⟨wanted_n rfl, by
    exact op1 (φ := (mpEq (.bool false)).p) ((show a'.eval (.tmp 181) = .bool true from hd.get 5 181 (by kernel_rfl) (by kernel_rfl))) (fun ρ e c => by simp [go_sem, e]) rfl⟩) <|
      allOps_cons (fun a' w' hb hs hd => Or.inl ⟨wanted_n rfl, by
    exact op1 (φ := (mpEq (.bool false)).p) ((show a'.eval (.tmp 182) = .bool false from hd.get 6 182 (by kernel_rfl) (by kernel_rfl))) (fun ρ e c => by simp [go_sem, e]) rfl⟩) <|
      allOps_cons (fun a' w' hb hs hd => Or.inl ⟨wanted_t (j := 7) (d := 183) rfl (by kernel_rfl) (show a'.eval (.tmp 183) = .bool false from hd.get 7 183 (by kernel_rfl) (by kernel_rfl)), by
    exact op1 (φ := (mpEq (.slice (some ⟨pal, 0, none⟩) 5 5)).p) ((hs.get 23 (by kernel_rfl)).trans (show _ = Value.slice (some ⟨pal, 0, none⟩) 5 5 from rfl)) (fun ρ e c => by simp [go_sem, e]) rfl⟩) <|
      allOps_cons (fun a' w' hb hs hd => Or.inl ⟨wanted_t (j := 7) (d := 183) rfl (by kernel_rfl) (show a'.eval (.tmp 183) = .bool false from hd.get 7 183 (by kernel_rfl) (by kernel_rfl)), by
    exact op1 (φ := (mpEq (.int .i64 4)).p) ((hs.get 24 (by kernel_rfl)).trans (show _ = Value.int .i64 4 from rfl)) (fun ρ e c => by simp [go_sem, e]) rfl⟩) <|
      allOps_cons (fun a' w' hb hs hd => Or.inl ⟨wanted_t (j := 7) (d := 183) rfl (by kernel_rfl) (show a'.eval (.tmp 183) = .bool false from hd.get 7 183 (by kernel_rfl) (by kernel_rfl)), by
    exact op2 (φ := (mpEq (.pointer (some ⟨pal, 8, none⟩))).p) ((show a'.eval (.tmp 184) = .slice (some ⟨pal, 0, none⟩) 5 5 from hd.get 8 184 (by kernel_rfl) (by kernel_rfl))) ((show a'.eval (.tmp 185) = .int .i64 4 from hd.get 9 185 (by kernel_rfl) (by kernel_rfl))) (fun ρ e e' c => by simp [go_sem, e, e']) rfl⟩) <|
      allOps_cons (fun a' w' hb hs hd => Or.inl ⟨wanted_t (j := 7) (d := 183) rfl (by kernel_rfl) (show a'.eval (.tmp 183) = .bool false from hd.get 7 183 (by kernel_rfl) (by kernel_rfl)), by
    exact op1 (φ := (mpEq (.pointer (some ⟨pal, 9, none⟩))).p) ((show a'.eval (.tmp 186) = .pointer (some ⟨pal, 8, none⟩) from hd.get 10 186 (by kernel_rfl) (by kernel_rfl))) (fun ρ e c => by simp [go_sem, e]) rfl⟩) <|
      allOps_cons (fun a' w' hb hs hd => Or.inl ⟨wanted_t (j := 7) (d := 183) rfl (by kernel_rfl) (show a'.eval (.tmp 183) = .bool false from hd.get 7 183 (by kernel_rfl) (by kernel_rfl)), by
    exact op1 (φ := (mpEq (.int .i64 o2)).p) ((show a'.eval (.tmp 187) = .pointer (some ⟨pal, 9, none⟩) from hd.get 11 187 (by kernel_rfl) (by kernel_rfl))) (fun ρ e c => by simp [go_sem, e, keep hb al9]) rfl⟩) <|
      allOps_cons (fun a' w' hb hs hd => Or.inl ⟨wanted_t (j := 7) (d := 183) rfl (by kernel_rfl) (show a'.eval (.tmp 183) = .bool false from hd.get 7 183 (by kernel_rfl) (by kernel_rfl)), by
    exact op1 (φ := (mpEq (.slice (some ⟨pal, 0, none⟩) 5 5)).p) ((hs.get 23 (by kernel_rfl)).trans (show _ = Value.slice (some ⟨pal, 0, none⟩) 5 5 from rfl)) (fun ρ e c => by simp [go_sem, e]) rfl⟩) <|
      allOps_cons (fun a' w' hb hs hd => Or.inl ⟨wanted_t (j := 7) (d := 183) rfl (by kernel_rfl) (show a'.eval (.tmp 183) = .bool false from hd.get 7 183 (by kernel_rfl) (by kernel_rfl)), by
    exact op1 (φ := (mpEq (.int .i64 4)).p) ((hs.get 24 (by kernel_rfl)).trans (show _ = Value.int .i64 4 from rfl)) (fun ρ e c => by simp [go_sem, e]) rfl⟩) <|
      allOps_cons (fun a' w' hb hs hd => Or.inl ⟨wanted_t (j := 7) (d := 183) rfl (by kernel_rfl) (show a'.eval (.tmp 183) = .bool false from hd.get 7 183 (by kernel_rfl) (by kernel_rfl)), by
    exact op2 (φ := (mpEq (.pointer (some ⟨pal, 8, none⟩))).p) ((show a'.eval (.tmp 189) = .slice (some ⟨pal, 0, none⟩) 5 5 from hd.get 13 189 (by kernel_rfl) (by kernel_rfl))) ((show a'.eval (.tmp 190) = .int .i64 4 from hd.get 14 190 (by kernel_rfl) (by kernel_rfl))) (fun ρ e e' c => by simp [go_sem, e, e']) rfl⟩) <|
      allOps_cons (fun a' w' hb hs hd => Or.inl ⟨wanted_t (j := 7) (d := 183) rfl (by kernel_rfl) (show a'.eval (.tmp 183) = .bool false from hd.get 7 183 (by kernel_rfl) (by kernel_rfl)), by
    exact op1 (φ := (mpEq (.pointer (some ⟨pal, 8, none⟩))).p) ((show a'.eval (.tmp 191) = .pointer (some ⟨pal, 8, none⟩) from hd.get 15 191 (by kernel_rfl) (by kernel_rfl))) (fun ρ e c => by simp [go_sem, e]) rfl⟩) <|
      allOps_cons (fun a' w' hb hs hd => Or.inl ⟨wanted_t (j := 7) (d := 183) rfl (by kernel_rfl) (show a'.eval (.tmp 183) = .bool false from hd.get 7 183 (by kernel_rfl) (by kernel_rfl)), by
    exact op1 (φ := (mpEq (.int .i64 0)).p) ((show a'.eval (.tmp 192) = .pointer (some ⟨pal, 8, none⟩) from hd.get 16 192 (by kernel_rfl) (by kernel_rfl))) (fun ρ e c => by simp [go_sem, e, keep hb al8]) rfl⟩) <|
      allOps_cons (fun a' w' hb hs hd => Or.inl ⟨wanted_t (j := 7) (d := 183) rfl (by kernel_rfl) (show a'.eval (.tmp 183) = .bool false from hd.get 7 183 (by kernel_rfl) (by kernel_rfl)), by
    have e0 := (show a'.eval (.tmp 188) = .int .i64 o2 from hd.get 12 188 (by kernel_rfl) (by kernel_rfl))
    have e1 := (show a'.eval (.tmp 193) = .int .i64 0 from hd.get 17 193 (by kernel_rfl) (by kernel_rfl))
    have e2 := (show a'.eval (.const (.int .i64 10000000)) = .int .i64 10000000 from rfl)
    exact rg_fn (φ := (mpEq (.bool true)).p) (vs := #[.int .i64 o2, .int .i64 0, .int .i64 10000000]) rfl (enters_of Try.func13 (by kernel_rfl) rfl) (by simp [e0, e1, e2]) (((show Calls Try.prog 13 #[.int .i64 o2, .int .i64 0, .int .i64 10000000] w' fun e w1 => e = .returned (.bool true) ∧ Below w'.heap.size w' w1 from (bwithin_any _ _ _ w').mono (by rintro e ww ⟨rfl, rfl⟩; exact ⟨ret_bool f10, Below.refl _ _⟩))).mono (by rintro e w1 ⟨rfl, h1⟩; exact ⟨_, rfl, h1, rfl⟩))⟩) <|
      allOps_cons (fun a' w' hb hs hd => Or.inl ⟨wanted_t (j := 7) (d := 183) rfl (by kernel_rfl) (show a'.eval (.tmp 183) = .bool false from hd.get 7 183 (by kernel_rfl) (by kernel_rfl)), by
    exact op1 (φ := (mpEq (.bool false)).p) ((show a'.eval (.tmp 194) = .bool true from hd.get 18 194 (by kernel_rfl) (by kernel_rfl))) (fun ρ e c => by simp [go_sem, e]) rfl⟩) <|
      allOps_cons (fun a' w' hb hs hd => Or.inl ⟨wanted_n rfl, by
    exact op2 (φ := (mpEq (.bool false)).p) ((show a'.eval (.tmp 183) = .bool false from hd.get 7 183 (by kernel_rfl) (by kernel_rfl))) ((show a'.eval (.tmp 195) = .bool false from hd.get 19 195 (by kernel_rfl) (by kernel_rfl))) (fun ρ e e' c => by simp [go_sem, e, e', c]) rfl⟩) <| allOps_nil) (fun Q wy hb2 hall => ?_)
        have h8 : Q 196 = .bool false := hall.get 20 rfl
        clear hall
        simp only [me7, maskPut, Nat.reduceAdd]
        rw [h8]
        clear h8
        have HB2 := Lib.hid (thenB HBb.out hb2)
        clear hb2
        go_wp2_with fail
        go_roundw
        case rel => exact ⟨5, by omega, by omega, by go_num, HB2.out⟩
        case measure => simp [intOf]
      · clear al0 al1 al2 al3 al4 al5 al6 al7 al8 al9
        replace gx0 := keep hb gx0
        replace gx1 := keep hb gx1
        replace gy0 := keep hb gy0
        replace gy1 := keep hb gy1
        replace gz0 := keep hb gz0
        replace gz1 := keep hb gz1
        replace gw0 := keep hb gw0
        replace gw1 := keep hb gw1
        replace gu0 := keep hb gu0
        replace gu1 := keep hb gu1
        replace go0 := keep hb go0
        replace go1 := keep hb go1
        replace kpa0_ := keep hb kpa0_
        replace kpa1_ := keep hb kpa1_
        replace kpb0_ := keep hb kpb0_
        replace kpb1_ := keep hb kpb1_
        replace kpc0_ := keep hb kpc0_
        replace kpc1_ := keep hb kpc1_
        replace kpd0_ := keep hb kpd0_
        replace kpd1_ := keep hb kpd1_
        replace HA_ := Lib.hid (HA_.out.bel hb)
        replace HB_ := Lib.hid (HB_.out.bel hb)
        replace HC_ := Lib.hid (HC_.out.bel hb)
        replace HD_ := Lib.hid (HD_.out.bel hb)
        replace BV := Lib.hid (thenB BV.out hb)
        clear hb
        have e1 := Int.not_lt.2 c1
        have e2 := Int.not_lt.2 c2
        have e3 := Int.not_lt.2 c3
        have e4 := Int.not_lt.2 c4
        have e5 := Int.not_lt.2 c5
        clear f1 f2 f3 f4 f5 f6 f7 f8 f9 f10 c1 c2 c3 c4 c5
        have Bw0 := Lib.hid (Below.refl wr.heap.size wr)
        go_wp2_with (first
          | (go_at_call 14; have Dt := B22.out; clear Dt; (with_reducible refine Calls.mono (copyT_any A8 na c8 (da + more) ka _ (by omega) HD0.out (HD_.out.bel (by have Bq := B22.out; have Bz := Bq.size; (repeat (first | with_reducible exact Below.refl _ _ | with_reducible assumption | with_reducible refine Below.alloc ?_ (by first | (simp; done) | (simp; omega) | omega) _ | with_reducible refine Below.setCell ?_ (by first | (simp; done) | (simp; omega) | omega) _ | with_reducible refine Below.drew ?_ | with_reducible refine below_drewN ?_ _))))) ?_); rintro e w23 ⟨X23, c23, rfl, hk23, hb23⟩; have B23 := Lib.hid (thenB (show Below wr.heap.size wr _ by have Bq := B22.out; have Bz := Bq.size; (repeat (first | with_reducible exact Below.refl _ _ | with_reducible assumption | with_reducible refine Below.alloc ?_ (by first | (simp; done) | (simp; omega) | omega) _ | with_reducible refine Below.setCell ?_ (by first | (simp; done) | (simp; omega) | omega) _ | with_reducible refine Below.drew ?_ | with_reducible refine below_drewN ?_ _))) hb23); have kpa0_23 := keep hb23 (keepA (.cells #[.int .i64 b1, .int .i64 b2, .int .i64 b3, .int .i64 b4, .int .i64 b5, .int .i64 b6] 42) kpa0_22); have kpa1_23 := keep hb23 (keepA (.cells #[.int .i64 b1, .int .i64 b2, .int .i64 b3, .int .i64 b4, .int .i64 b5, .int .i64 b6] 42) kpa1_22); have bb0_23 := (hb23.cell (p := ⟨w22.heap.size, 0, none⟩) (by first | (simp; done) | (simp; omega) | omega)).trans (show _ = some (.int .i64 b1) by simp [go_sem]); have bb1_23 := (hb23.cell (p := ⟨w22.heap.size, 1, none⟩) (by first | (simp; done) | (simp; omega) | omega)).trans (show _ = some (.int .i64 b2) by simp [go_sem]); have bb2_23 := (hb23.cell (p := ⟨w22.heap.size, 2, none⟩) (by first | (simp; done) | (simp; omega) | omega)).trans (show _ = some (.int .i64 b3) by simp [go_sem]); have bb3_23 := (hb23.cell (p := ⟨w22.heap.size, 3, none⟩) (by first | (simp; done) | (simp; omega) | omega)).trans (show _ = some (.int .i64 b4) by simp [go_sem]); have bb4_23 := (hb23.cell (p := ⟨w22.heap.size, 4, none⟩) (by first | (simp; done) | (simp; omega) | omega)).trans (show _ = some (.int .i64 b5) by simp [go_sem]); have bb5_23 := (hb23.cell (p := ⟨w22.heap.size, 5, none⟩) (by first | (simp; done) | (simp; omega) | omega)).trans (show _ = some (.int .i64 b6) by simp [go_sem]); have HX23 := Lib.hid hk23; clear hk23 hb23)
          | (go_at_call 14; (with_reducible refine Calls.mono (copyT_any A na ca da ka _ (by omega) HA0.out (HA_.out.bel Bw0.out)) ?_); rintro e w21 ⟨X21, c21, rfl, hk21, hb21⟩; have B21 := Lib.hid (thenB Bw0.out hb21); have kpa0_21 := keep hb21 kpa0_; have kpa1_21 := keep hb21 kpa1_; have kpd0_21 := keep hb21 kpd0_; have kpd1_21 := keep hb21 kpd1_; have HX21 := Lib.hid hk21; clear hk21; clear hb21)
          | (go_at_call 16; (with_reducible refine Calls.mono (HB1.out _ X21 c21 HX21.out) ?_); rintro e w22 ⟨rfl, hb22⟩; have B22 := Lib.hid (thenB B21.out hb22); have kpa0_22 := keep hb22 kpa0_21; have kpa1_22 := keep hb22 kpa1_21; have kpd0_22 := keep hb22 kpd0_21; have kpd1_22 := keep hb22 kpd1_21; clear hb22)
          | (go_at_call 16; (with_reducible refine Calls.mono (HB2.out _ X23 c23 HX23.out) ?_); rintro e w24 ⟨rfl, hb24⟩; have B24 := Lib.hid (thenB B23.out hb24); have kpa0_24 := keep hb24 kpa0_23; have kpa1_24 := keep hb24 kpa1_23; have bb0_24 := keep hb24 bb0_23; have bb1_24 := keep hb24 bb1_23; have bb2_24 := keep hb24 bb2_23; have bb3_24 := keep hb24 bb3_23; have bb4_24 := keep hb24 bb4_23; have bb5_24 := keep hb24 bb5_23; clear hb24)
          | fail)
        have bd := Lib.hid (show Below w24.heap.size w24 (w24.alloc (.cells #[.int .i64 (b1 - more), .int .i64 (b2 + more), .int .i64 (b3 - more), .int .i64 (b4 + more), .int .i64 (b5 - more), .int .i64 (b6 + more)] 42)) by (repeat (first | with_reducible exact Below.refl _ _ | with_reducible assumption | with_reducible refine Below.alloc ?_ (by first | (simp; done) | (simp; omega) | omega) _ | with_reducible refine Below.setCell ?_ (by first | (simp; done) | (simp; omega) | omega) _ | with_reducible refine Below.drew ?_ | with_reducible refine below_drewN ?_ _)))
        have bb0_ := keep bd.out bb0_24
        have bb1_ := keep bd.out bb1_24
        have bb2_ := keep bd.out bb2_24
        have bb3_ := keep bd.out bb3_24
        have bb4_ := keep bd.out bb4_24
        have bb5_ := keep bd.out bb5_24
        have cc0_ := (show (w24.alloc (.cells #[.int .i64 (b1 - more), .int .i64 (b2 + more), .int .i64 (b3 - more), .int .i64 (b4 + more), .int .i64 (b5 - more), .int .i64 (b6 + more)] 42)).cell? ⟨w24.heap.size, 0, none⟩ = some (.int .i64 (b1 - more)) by simp [go_sem])
        have cc1_ := (show (w24.alloc (.cells #[.int .i64 (b1 - more), .int .i64 (b2 + more), .int .i64 (b3 - more), .int .i64 (b4 + more), .int .i64 (b5 - more), .int .i64 (b6 + more)] 42)).cell? ⟨w24.heap.size, 1, none⟩ = some (.int .i64 (b2 + more)) by simp [go_sem])
        have cc2_ := (show (w24.alloc (.cells #[.int .i64 (b1 - more), .int .i64 (b2 + more), .int .i64 (b3 - more), .int .i64 (b4 + more), .int .i64 (b5 - more), .int .i64 (b6 + more)] 42)).cell? ⟨w24.heap.size, 2, none⟩ = some (.int .i64 (b3 - more)) by simp [go_sem])
        have cc3_ := (show (w24.alloc (.cells #[.int .i64 (b1 - more), .int .i64 (b2 + more), .int .i64 (b3 - more), .int .i64 (b4 + more), .int .i64 (b5 - more), .int .i64 (b6 + more)] 42)).cell? ⟨w24.heap.size, 3, none⟩ = some (.int .i64 (b4 + more)) by simp [go_sem])
        have cc4_ := (show (w24.alloc (.cells #[.int .i64 (b1 - more), .int .i64 (b2 + more), .int .i64 (b3 - more), .int .i64 (b4 + more), .int .i64 (b5 - more), .int .i64 (b6 + more)] 42)).cell? ⟨w24.heap.size, 4, none⟩ = some (.int .i64 (b5 - more)) by simp [go_sem])
        have cc5_ := (show (w24.alloc (.cells #[.int .i64 (b1 - more), .int .i64 (b2 + more), .int .i64 (b3 - more), .int .i64 (b4 + more), .int .i64 (b5 - more), .int .i64 (b6 + more)] 42)).cell? ⟨w24.heap.size, 5, none⟩ = some (.int .i64 (b6 + more)) by simp [go_sem])
        have kd_ := keep bd.out kpa1_24
        replace BV := Lib.hid (thenB BV.out (show Below wr.heap.size wr (w24.alloc (.cells #[.int .i64 (b1 - more), .int .i64 (b2 + more), .int .i64 (b3 - more), .int .i64 (b4 + more), .int .i64 (b5 - more), .int .i64 (b6 + more)] 42)) by have Bq := B24.out; have Bz := Bq.size; (repeat (first | with_reducible exact Below.refl _ _ | with_reducible assumption | with_reducible refine Below.alloc ?_ (by first | (simp; done) | (simp; omega) | omega) _ | with_reducible refine Below.setCell ?_ (by first | (simp; done) | (simp; omega) | omega) _ | with_reducible refine Below.drew ?_ | with_reducible refine below_drewN ?_ _))))
        clear bd
        generalize (w24.alloc (.cells #[.int .i64 (b1 - more), .int .i64 (b2 + more), .int .i64 (b3 - more), .int .i64 (b4 + more), .int .i64 (b5 - more), .int .i64 (b6 + more)] 42)) = V8 at *
        generalize w24.heap.size = pq at *
        generalize w22.heap.size = pp at *
        clear kpa0_21 kpa1_21 kpd0_21 kpd1_21 kpa0_22 kpa1_22 kpd0_22 kpd1_22 kpa0_23 kpa1_23 kpa0_24 kpa1_24 bb0_23 bb0_24 bb1_23 bb1_24 bb2_23 bb2_24 bb3_23 bb3_24 bb4_23 bb4_24 bb5_23 bb5_24 gx0 gx1 gy0 gy1 gz0 gz1 gw0 gw1 gu0 gu1 go0 go1 kpa0_ kpa1_ kpb0_ kpb1_ kpc0_ kpc1_ kpd0_ kpd1_
        refine wp_region_mp [mpEq (.pointer (some ⟨pp, 0, none⟩)), mpEq (.agg #[.int .i64 b1, .int .i64 b2]), mpEq (.pointer (some ⟨pp, 2, none⟩)), mpEq (.agg #[.int .i64 b3, .int .i64 b4]), mpEq (.pointer (some ⟨pp, 4, none⟩)), mpEq (.agg #[.int .i64 b5, .int .i64 b6]), mpSix (b1) (b2) (b3) (b4) (b5) (b6), mpEq (.pointer (some ⟨pq, 0, none⟩)), mpEq (.agg #[.int .i64 (b1 - more), .int .i64 (b2 + more)]), mpEq (.pointer (some ⟨pq, 2, none⟩)), mpEq (.agg #[.int .i64 (b3 - more), .int .i64 (b4 + more)]), mpEq (.pointer (some ⟨pq, 4, none⟩)), mpEq (.agg #[.int .i64 (b5 - more), .int .i64 (b6 + more)]), mpSix ((b1 - more)) ((b2 + more)) ((b3 - more)) ((b4 + more)) ((b5 - more)) ((b6 + more)), mpSix (b1) (b2) (b3) (b4) (b5) (b6), mpSix ((b1 - more)) ((b2 + more)) ((b3 - more)) ((b4 + more)) ((b5 - more)) ((b6 + more))] me0 (by kernel_rfl) (by kernel_rfl) (by kernel_rfl) (
          allOps_cons (fun a' w' hb hs hd => rg_op fun K hK => by
        have e1 := (hs.get 25 (by kernel_rfl)).trans (show _ = Value.pointer (some ⟨pp, 0, none⟩) from rfl)
        clear hs hd
        unfold Oper.wp
        generalize a'.eval = ρ at e1 ⊢
        simp [go_sem, e1]
        exact hK _ _ (Below.refl _ _) rfl) <|
          allOps_cons (fun a' w' hb hs hd => rg_op fun K hK => by
        have e1 := (show a'.eval (.tmp 265) = .pointer (some ⟨pp, 0, none⟩) from hd.get 0 265 (by kernel_rfl) (by kernel_rfl))
        have c0 := keep hb bb0_
        have c1 := keep hb bb1_
        clear hs hd
        unfold Oper.wp
        generalize a'.eval = ρ at e1 ⊢
        simp [go_sem, e1, c0, c1]
        exact hK _ _ (Below.refl _ _) rfl) <|
          allOps_cons (fun a' w' hb hs hd => rg_op fun K hK => by
        have e1 := (hs.get 25 (by kernel_rfl)).trans (show _ = Value.pointer (some ⟨pp, 0, none⟩) from rfl)
        clear hs hd
        unfold Oper.wp
        generalize a'.eval = ρ at e1 ⊢
        simp [go_sem, e1]
        exact hK _ _ (Below.refl _ _) rfl) <|
          allOps_cons (fun a' w' hb hs hd => rg_op fun K hK => by
        have e1 := (show a'.eval (.tmp 267) = .pointer (some ⟨pp, 2, none⟩) from hd.get 2 267 (by kernel_rfl) (by kernel_rfl))
        have c0 := keep hb bb2_
        have c1 := keep hb bb3_
        clear hs hd
        unfold Oper.wp
        generalize a'.eval = ρ at e1 ⊢
        simp [go_sem, e1, c0, c1]
        exact hK _ _ (Below.refl _ _) rfl) <|
          allOps_cons (fun a' w' hb hs hd => rg_op fun K hK => by
        have e1 := (hs.get 25 (by kernel_rfl)).trans (show _ = Value.pointer (some ⟨pp, 0, none⟩) from rfl)
        clear hs hd
        unfold Oper.wp
        generalize a'.eval = ρ at e1 ⊢
        simp [go_sem, e1]
        exact hK _ _ (Below.refl _ _) rfl) <|
          allOps_cons (fun a' w' hb hs hd => rg_op fun K hK => by
        have e1 := (show a'.eval (.tmp 269) = .pointer (some ⟨pp, 4, none⟩) from hd.get 4 269 (by kernel_rfl) (by kernel_rfl))
        have c0 := keep hb bb4_
        have c1 := keep hb bb5_
        clear hs hd
        unfold Oper.wp
        generalize a'.eval = ρ at e1 ⊢
        simp [go_sem, e1, c0, c1]
        exact hK _ _ (Below.refl _ _) rfl) <|
          allOps_cons (fun a' w' hb hs hd => rg_op fun K hK => by
        have e0 := (show a'.eval (.tmp 266) = .agg #[.int .i64 b1, .int .i64 b2] from hd.get 1 266 (by kernel_rfl) (by kernel_rfl))
        have e1 := (show a'.eval (.tmp 268) = .agg #[.int .i64 b3, .int .i64 b4] from hd.get 3 268 (by kernel_rfl) (by kernel_rfl))
        have e2 := (show a'.eval (.tmp 270) = .agg #[.int .i64 b5, .int .i64 b6] from hd.get 5 270 (by kernel_rfl) (by kernel_rfl))
        clear hs hd
        unfold Oper.wp
        generalize a'.eval = ρ at e0 e1 e2 ⊢
        simp [go_sem, e0, e1, e2]
        exact hK _ _ ((Below.refl _ _).alloc (Nat.le_refl _) _) ⟨_, rfl, by simp [go_sem], by simp [go_sem], by simp [go_sem], by simp [go_sem], by simp [go_sem], by simp [go_sem]⟩) <|
          allOps_cons (fun a' w' hb hs hd => rg_op fun K hK => by
        have e1 := (hs.get 27 (by kernel_rfl)).trans (show _ = Value.pointer (some ⟨pq, 0, none⟩) from rfl)
        clear hs hd
        unfold Oper.wp
        generalize a'.eval = ρ at e1 ⊢
        simp [go_sem, e1]
        exact hK _ _ (Below.refl _ _) rfl) <|
          allOps_cons (fun a' w' hb hs hd => rg_op fun K hK => by
        have e1 := (show a'.eval (.tmp 272) = .pointer (some ⟨pq, 0, none⟩) from hd.get 7 272 (by kernel_rfl) (by kernel_rfl))
        have c0 := keep hb cc0_
        have c1 := keep hb cc1_
        clear hs hd
        unfold Oper.wp
        generalize a'.eval = ρ at e1 ⊢
        simp [go_sem, e1, c0, c1]
        exact hK _ _ (Below.refl _ _) rfl) <|
          allOps_cons (fun a' w' hb hs hd => rg_op fun K hK => by
        have e1 := (hs.get 27 (by kernel_rfl)).trans (show _ = Value.pointer (some ⟨pq, 0, none⟩) from rfl)
        clear hs hd
        unfold Oper.wp
        generalize a'.eval = ρ at e1 ⊢
        simp [go_sem, e1]
        exact hK _ _ (Below.refl _ _) rfl) <|
          allOps_cons (fun a' w' hb hs hd => rg_op fun K hK => by
        have e1 := (show a'.eval (.tmp 274) = .pointer (some ⟨pq, 2, none⟩) from hd.get 9 274 (by kernel_rfl) (by kernel_rfl))
        have c0 := keep hb cc2_
        have c1 := keep hb cc3_
        clear hs hd
        unfold Oper.wp
        generalize a'.eval = ρ at e1 ⊢
        simp [go_sem, e1, c0, c1]
        exact hK _ _ (Below.refl _ _) rfl) <|
          allOps_cons (fun a' w' hb hs hd => rg_op fun K hK => by
        have e1 := (hs.get 27 (by kernel_rfl)).trans (show _ = Value.pointer (some ⟨pq, 0, none⟩) from rfl)
        clear hs hd
        unfold Oper.wp
        generalize a'.eval = ρ at e1 ⊢
        simp [go_sem, e1]
        exact hK _ _ (Below.refl _ _) rfl) <|
          allOps_cons (fun a' w' hb hs hd => rg_op fun K hK => by
        have e1 := (show a'.eval (.tmp 276) = .pointer (some ⟨pq, 4, none⟩) from hd.get 11 276 (by kernel_rfl) (by kernel_rfl))
        have c0 := keep hb cc4_
        have c1 := keep hb cc5_
        clear hs hd
        unfold Oper.wp
        generalize a'.eval = ρ at e1 ⊢
        simp [go_sem, e1, c0, c1]
        exact hK _ _ (Below.refl _ _) rfl) <|
          allOps_cons (fun a' w' hb hs hd => rg_op fun K hK => by
        have e0 := (show a'.eval (.tmp 273) = .agg #[.int .i64 (b1 - more), .int .i64 (b2 + more)] from hd.get 8 273 (by kernel_rfl) (by kernel_rfl))
        have e1 := (show a'.eval (.tmp 275) = .agg #[.int .i64 (b3 - more), .int .i64 (b4 + more)] from hd.get 10 275 (by kernel_rfl) (by kernel_rfl))
        have e2 := (show a'.eval (.tmp 277) = .agg #[.int .i64 (b5 - more), .int .i64 (b6 + more)] from hd.get 12 277 (by kernel_rfl) (by kernel_rfl))
        clear hs hd
        unfold Oper.wp
        generalize a'.eval = ρ at e0 e1 e2 ⊢
        simp [go_sem, e0, e1, e2]
        exact hK _ _ ((Below.refl _ _).alloc (Nat.le_refl _) _) ⟨_, rfl, by simp [go_sem], by simp [go_sem], by simp [go_sem], by simp [go_sem], by simp [go_sem], by simp [go_sem]⟩) <|
          allOps_cons (fun a' w' hb hs hd => rg_op fun K hK => by
        have k1 := (show (mpSix (b1) (b2) (b3) (b4) (b5) (b6)).p (a'.eval (.tmp 271)) w' from hd.get 6 271 (by kernel_rfl) (by kernel_rfl))
        clear hs hd
        unfold Oper.wp
        generalize a'.eval = ρ at k1 ⊢
        simp [go_sem]
        exact hK _ _ (Below.refl _ _) k1) <|
          allOps_cons (fun a' w' hb hs hd => rg_op fun K hK => by
        have k1 := (show (mpSix ((b1 - more)) ((b2 + more)) ((b3 - more)) ((b4 + more)) ((b5 - more)) ((b6 + more))).p (a'.eval (.tmp 278)) w' from hd.get 13 278 (by kernel_rfl) (by kernel_rfl))
        clear hs hd
        unfold Oper.wp
        generalize a'.eval = ρ at k1 ⊢
        simp [go_sem]
        exact hK _ _ (Below.refl _ _) k1) <| allOps_nil) (fun Q V9 hb hall => ?_)
        obtain ⟨s, h29, s0, s1, s2, s3, s4, s5⟩ := (show (mpSix (b1) (b2) (b3) (b4) (b5) (b6)).p (Q 29) V9 from hall.get 14 rfl)
        obtain ⟨t, h30, t0, t1, t2, t3, t4, t5⟩ := (show (mpSix ((b1 - more)) ((b2 + more)) ((b3 - more)) ((b4 + more)) ((b5 - more)) ((b6 + more))).p (Q 30) V9 from hall.get 15 rfl)
        clear hall
        simp only [me0, maskPut, Nat.reduceAdd]
        rw [h29, h30]
        clear h29 h30
        replace kd_ := keep hb kd_
        replace BV := Lib.hid (thenB BV.out hb)
        clear hb bb0_ bb1_ bb2_ bb3_ bb4_ bb5_ cc0_ cc1_ cc2_ cc3_ cc4_ cc5_
        clear V8
        go_wp2_with fail
        go_loopw [31] (fun i wr => ∃ j : Int, 0 ≤ j ∧ j ≤ 3 ∧ i = .int .i64 j ∧ Below V9.heap.size V9 wr) (fun i _ => 3 - (intOf i).toNat)
        case atStart => exact ⟨0, by omega, by omega, rfl, Below.refl _ _⟩
        case round =>
          obtain ⟨j, hj0, hj, rfl, hb⟩ := hrel
          rcases (by omega : j = 0 ∨ j = 1 ∨ j = 2 ∨ j = 3) with rfl | rfl | rfl | rfl
          · replace s0 := keep hb s0
            replace s1 := keep hb s1
            replace t0 := keep hb t0
            replace t1 := keep hb t1
            replace kd_ := keep hb kd_
            have HBb := Lib.hid hb
            clear hb
            have sA : IntKind.i64.wrap (b1 - more) = b1 - more := IntWalk.i64_in _ (by omega)
            have sB : IntKind.i64.wrap (b2 + more) = b2 + more := IntWalk.i64_in _ (by omega)
            have sC : IntKind.i64.wrap (b2 - b1) = b2 - b1 := IntWalk.i64_in _ (by omega)
            have sD : IntKind.i64.wrap (2 * da) = 2 * da := IntWalk.i64_in _ (by omega)
            have sE : IntKind.i64.wrap (2 * da + 1) = 2 * da + 1 := IntWalk.i64_in _ (by omega)
            go_upto_region 32 with (fail)
            refine wp_region_gd [mpEq (.slice (some ⟨t, 0, none⟩) 3 3), mpEq (.int .i64 0), mpEq (.pointer (some ⟨t, 0, none⟩)), mpEq (.pointer (some ⟨t, 0, none⟩)), mpEq (.int .i64 (b1 - more)), mpEq (.slice (some ⟨s, 0, none⟩) 3 3), mpEq (.int .i64 0), mpEq (.pointer (some ⟨s, 0, none⟩)), mpEq (.pointer (some ⟨s, 0, none⟩)), mpEq (.int .i64 b1), mpEq (.int .i64 more), mpEq (.int .i64 (b1 - more)), mpEq (.bool false), mpEq (.bool false), mpEq (.slice (some ⟨t, 0, none⟩) 3 3), mpEq (.int .i64 0), mpEq (.pointer (some ⟨t, 0, none⟩)), mpEq (.pointer (some ⟨t, 1, none⟩)), mpEq (.int .i64 (b2 + more)), mpEq (.slice (some ⟨s, 0, none⟩) 3 3), mpEq (.int .i64 0), mpEq (.pointer (some ⟨s, 0, none⟩)), mpEq (.pointer (some ⟨s, 1, none⟩)), mpEq (.int .i64 b2), mpEq (.int .i64 more), mpEq (.int .i64 (b2 + more)), mpEq (.bool false), mpEq (.bool false), mpEq (.bool false), mpEq (.slice (some ⟨s, 0, none⟩) 3 3), mpEq (.int .i64 0), mpEq (.pointer (some ⟨s, 0, none⟩)), mpEq (.pointer (some ⟨s, 1, none⟩)), mpEq (.int .i64 b2), mpEq (.slice (some ⟨s, 0, none⟩) 3 3), mpEq (.int .i64 0), mpEq (.pointer (some ⟨s, 0, none⟩)), mpEq (.pointer (some ⟨s, 0, none⟩)), mpEq (.int .i64 b1), mpEq (.int .i64 (b2 - b1)), mpEq (.pointer (some ⟨pa, 1, none⟩)), mpEq (.int .i64 da), mpEq (.int .i64 (2 * da)), mpEq (.pointer (some ⟨pa, 1, none⟩)), mpEq (.int .i64 da), mpEq (.int .i64 (2 * da)), mpEq (.int .i64 (2 * da + 1)), mpEq (.bool true), mpEq (.bool false), mpEq (.bool false)] me8 (by kernel_rfl) (by kernel_rfl) (by kernel_rfl) (
          allOps_cons (fun a' w' hb hs hd => Or.inl ⟨wanted_n rfl, by
        exact op1 (φ := (mpEq (.slice (some ⟨t, 0, none⟩) 3 3)).p) ((hs.get 30 (by kernel_rfl)).trans (show _ = Value.slice (some ⟨t, 0, none⟩) 3 3 from rfl)) (fun ρ e c => by simp [go_sem, e]) rfl⟩) <|
          allOps_cons (fun a' w' hb hs hd => Or.inl ⟨wanted_n rfl, by
        exact op1 (φ := (mpEq (.int .i64 0)).p) ((hs.get 31 (by kernel_rfl)).trans (show _ = Value.int .i64 0 from rfl)) (fun ρ e c => by simp [go_sem, e]) rfl⟩) <|
          allOps_cons (fun a' w' hb hs hd => Or.inl ⟨wanted_n rfl, by
        exact op2 (φ := (mpEq (.pointer (some ⟨t, 0, none⟩))).p) ((show a'.eval (.tmp 283) = .slice (some ⟨t, 0, none⟩) 3 3 from hd.get 0 283 (by kernel_rfl) (by kernel_rfl))) ((show a'.eval (.tmp 284) = .int .i64 0 from hd.get 1 284 (by kernel_rfl) (by kernel_rfl))) (fun ρ e e' c => by simp [go_sem, e, e']) rfl⟩) <|
          allOps_cons (fun a' w' hb hs hd => Or.inl ⟨wanted_n rfl, by
        exact op1 (φ := (mpEq (.pointer (some ⟨t, 0, none⟩))).p) ((show a'.eval (.tmp 285) = .pointer (some ⟨t, 0, none⟩) from hd.get 2 285 (by kernel_rfl) (by kernel_rfl))) (fun ρ e c => by simp [go_sem, e]) rfl⟩) <|
          allOps_cons (fun a' w' hb hs hd => Or.inl ⟨wanted_n rfl, by
        exact op1 (φ := (mpEq (.int .i64 (b1 - more))).p) ((show a'.eval (.tmp 286) = .pointer (some ⟨t, 0, none⟩) from hd.get 3 286 (by kernel_rfl) (by kernel_rfl))) (fun ρ e c => by simp [go_sem, e, keep hb t0]) rfl⟩) <|
          allOps_cons (fun a' w' hb hs hd => Or.inl ⟨wanted_n rfl, by
        exact op1 (φ := (mpEq (.slice (some ⟨s, 0, none⟩) 3 3)).p) ((hs.get 29 (by kernel_rfl)).trans (show _ = Value.slice (some ⟨s, 0, none⟩) 3 3 from rfl)) (fun ρ e c => by simp [go_sem, e]) rfl⟩) <|
          allOps_cons (fun a' w' hb hs hd => Or.inl ⟨wanted_n rfl, by
        exact op1 (φ := (mpEq (.int .i64 0)).p) ((hs.get 31 (by kernel_rfl)).trans (show _ = Value.int .i64 0 from rfl)) (fun ρ e c => by simp [go_sem, e]) rfl⟩) <|
          allOps_cons (fun a' w' hb hs hd => Or.inl ⟨wanted_n rfl, by
        exact op2 (φ := (mpEq (.pointer (some ⟨s, 0, none⟩))).p) ((show a'.eval (.tmp 288) = .slice (some ⟨s, 0, none⟩) 3 3 from hd.get 5 288 (by kernel_rfl) (by kernel_rfl))) ((show a'.eval (.tmp 289) = .int .i64 0 from hd.get 6 289 (by kernel_rfl) (by kernel_rfl))) (fun ρ e e' c => by simp [go_sem, e, e']) rfl⟩) <|
          allOps_cons (fun a' w' hb hs hd => Or.inl ⟨wanted_n rfl, by
        exact op1 (φ := (mpEq (.pointer (some ⟨s, 0, none⟩))).p) ((show a'.eval (.tmp 290) = .pointer (some ⟨s, 0, none⟩) from hd.get 7 290 (by kernel_rfl) (by kernel_rfl))) (fun ρ e c => by simp [go_sem, e]) rfl⟩) <|
          allOps_cons (fun a' w' hb hs hd => Or.inl ⟨wanted_n rfl, by
        exact op1 (φ := (mpEq (.int .i64 b1)).p) ((show a'.eval (.tmp 291) = .pointer (some ⟨s, 0, none⟩) from hd.get 8 291 (by kernel_rfl) (by kernel_rfl))) (fun ρ e c => by simp [go_sem, e, keep hb s0]) rfl⟩) <|
          allOps_cons (fun a' w' hb hs hd => Or.inl ⟨wanted_n rfl, by
        exact op1 (φ := (mpEq (.int .i64 more)).p) ((hs.get 2 (by kernel_rfl)).trans (show _ = Value.int .i64 more from rfl)) (fun ρ e c => by simp [go_sem, e]) rfl⟩) <|
          allOps_cons (fun a' w' hb hs hd => Or.inl ⟨wanted_n rfl, by
        exact op2 (φ := (mpEq (.int .i64 (b1 - more))).p) ((show a'.eval (.tmp 292) = .int .i64 b1 from hd.get 9 292 (by kernel_rfl) (by kernel_rfl))) ((show a'.eval (.tmp 293) = .int .i64 more from hd.get 10 293 (by kernel_rfl) (by kernel_rfl))) (fun ρ e e' c => by simp [go_sem, e, e', sA]) rfl⟩) <|
          allOps_cons (fun a' w' hb hs hd => Or.inl ⟨wanted_n rfl, by
        exact op2 (φ := (mpEq (.bool false)).p) ((show a'.eval (.tmp 287) = .int .i64 (b1 - more) from hd.get 4 287 (by kernel_rfl) (by kernel_rfl))) ((show a'.eval (.tmp 294) = .int .i64 (b1 - more) from hd.get 11 294 (by kernel_rfl) (by kernel_rfl))) (fun ρ e e' c => by simp [go_sem, e, e']) rfl⟩) <|
          allOps_cons (fun a' w' hb hs hd => Or.inl ⟨wanted_n rfl, by
        exact op1 (φ := (mpEq (.bool false)).p) ((show a'.eval (.tmp 295) = .bool false from hd.get 12 295 (by kernel_rfl) (by kernel_rfl))) (fun ρ e c => by simp [go_sem, e]) rfl⟩) <|
          allOps_cons (fun a' w' hb hs hd => Or.inl ⟨wanted_t (j := 13) (d := 296) rfl (by kernel_rfl) (show a'.eval (.tmp 296) = .bool false from hd.get 13 296 (by kernel_rfl) (by kernel_rfl)), by
        exact op1 (φ := (mpEq (.slice (some ⟨t, 0, none⟩) 3 3)).p) ((hs.get 30 (by kernel_rfl)).trans (show _ = Value.slice (some ⟨t, 0, none⟩) 3 3 from rfl)) (fun ρ e c => by simp [go_sem, e]) rfl⟩) <|
          allOps_cons (fun a' w' hb hs hd => Or.inl ⟨wanted_t (j := 13) (d := 296) rfl (by kernel_rfl) (show a'.eval (.tmp 296) = .bool false from hd.get 13 296 (by kernel_rfl) (by kernel_rfl)), by
        exact op1 (φ := (mpEq (.int .i64 0)).p) ((hs.get 31 (by kernel_rfl)).trans (show _ = Value.int .i64 0 from rfl)) (fun ρ e c => by simp [go_sem, e]) rfl⟩) <|
          allOps_cons (fun a' w' hb hs hd => Or.inl ⟨wanted_t (j := 13) (d := 296) rfl (by kernel_rfl) (show a'.eval (.tmp 296) = .bool false from hd.get 13 296 (by kernel_rfl) (by kernel_rfl)), by
        exact op2 (φ := (mpEq (.pointer (some ⟨t, 0, none⟩))).p) ((show a'.eval (.tmp 297) = .slice (some ⟨t, 0, none⟩) 3 3 from hd.get 14 297 (by kernel_rfl) (by kernel_rfl))) ((show a'.eval (.tmp 298) = .int .i64 0 from hd.get 15 298 (by kernel_rfl) (by kernel_rfl))) (fun ρ e e' c => by simp [go_sem, e, e']) rfl⟩) <|
          allOps_cons (fun a' w' hb hs hd => Or.inl ⟨wanted_t (j := 13) (d := 296) rfl (by kernel_rfl) (show a'.eval (.tmp 296) = .bool false from hd.get 13 296 (by kernel_rfl) (by kernel_rfl)), by
        exact op1 (φ := (mpEq (.pointer (some ⟨t, 1, none⟩))).p) ((show a'.eval (.tmp 299) = .pointer (some ⟨t, 0, none⟩) from hd.get 16 299 (by kernel_rfl) (by kernel_rfl))) (fun ρ e c => by simp [go_sem, e]) rfl⟩) <|
          allOps_cons (fun a' w' hb hs hd => Or.inl ⟨wanted_t (j := 13) (d := 296) rfl (by kernel_rfl) (show a'.eval (.tmp 296) = .bool false from hd.get 13 296 (by kernel_rfl) (by kernel_rfl)), by
        exact op1 (φ := (mpEq (.int .i64 (b2 + more))).p) ((show a'.eval (.tmp 300) = .pointer (some ⟨t, 1, none⟩) from hd.get 17 300 (by kernel_rfl) (by kernel_rfl))) (fun ρ e c => by simp [go_sem, e, keep hb t1]) rfl⟩) <|
          allOps_cons (fun a' w' hb hs hd => Or.inl ⟨wanted_t (j := 13) (d := 296) rfl (by kernel_rfl) (show a'.eval (.tmp 296) = .bool false from hd.get 13 296 (by kernel_rfl) (by kernel_rfl)), by
        exact op1 (φ := (mpEq (.slice (some ⟨s, 0, none⟩) 3 3)).p) ((hs.get 29 (by kernel_rfl)).trans (show _ = Value.slice (some ⟨s, 0, none⟩) 3 3 from rfl)) (fun ρ e c => by simp [go_sem, e]) rfl⟩) <|
          allOps_cons (fun a' w' hb hs hd => Or.inl ⟨wanted_t (j := 13) (d := 296) rfl (by kernel_rfl) (show a'.eval (.tmp 296) = .bool false from hd.get 13 296 (by kernel_rfl) (by kernel_rfl)), by
        exact op1 (φ := (mpEq (.int .i64 0)).p) ((hs.get 31 (by kernel_rfl)).trans (show _ = Value.int .i64 0 from rfl)) (fun ρ e c => by simp [go_sem, e]) rfl⟩) <|
          allOps_cons (fun a' w' hb hs hd => Or.inl ⟨wanted_t (j := 13) (d := 296) rfl (by kernel_rfl) (show a'.eval (.tmp 296) = .bool false from hd.get 13 296 (by kernel_rfl) (by kernel_rfl)), by
        exact op2 (φ := (mpEq (.pointer (some ⟨s, 0, none⟩))).p) ((show a'.eval (.tmp 302) = .slice (some ⟨s, 0, none⟩) 3 3 from hd.get 19 302 (by kernel_rfl) (by kernel_rfl))) ((show a'.eval (.tmp 303) = .int .i64 0 from hd.get 20 303 (by kernel_rfl) (by kernel_rfl))) (fun ρ e e' c => by simp [go_sem, e, e']) rfl⟩) <|
          allOps_cons (fun a' w' hb hs hd => Or.inl ⟨wanted_t (j := 13) (d := 296) rfl (by kernel_rfl) (show a'.eval (.tmp 296) = .bool false from hd.get 13 296 (by kernel_rfl) (by kernel_rfl)), by
        exact op1 (φ := (mpEq (.pointer (some ⟨s, 1, none⟩))).p) ((show a'.eval (.tmp 304) = .pointer (some ⟨s, 0, none⟩) from hd.get 21 304 (by kernel_rfl) (by kernel_rfl))) (fun ρ e c => by simp [go_sem, e]) rfl⟩) <|
          allOps_cons (fun a' w' hb hs hd => Or.inl ⟨wanted_t (j := 13) (d := 296) rfl (by kernel_rfl) (show a'.eval (.tmp 296) = .bool false from hd.get 13 296 (by kernel_rfl) (by kernel_rfl)), by
        exact op1 (φ := (mpEq (.int .i64 b2)).p) ((show a'.eval (.tmp 305) = .pointer (some ⟨s, 1, none⟩) from hd.get 22 305 (by kernel_rfl) (by kernel_rfl))) (fun ρ e c => by simp [go_sem, e, keep hb s1]) rfl⟩) <|
          allOps_cons (fun a' w' hb hs hd => Or.inl ⟨wanted_t (j := 13) (d := 296) rfl (by kernel_rfl) (show a'.eval (.tmp 296) = .bool false from hd.get 13 296 (by kernel_rfl) (by kernel_rfl)), by
        exact op1 (φ := (mpEq (.int .i64 more)).p) ((hs.get 2 (by kernel_rfl)).trans (show _ = Value.int .i64 more from rfl)) (fun ρ e c => by simp [go_sem, e]) rfl⟩) <|
          allOps_cons (fun a' w' hb hs hd => Or.inl ⟨wanted_t (j := 13) (d := 296) rfl (by kernel_rfl) (show a'.eval (.tmp 296) = .bool false from hd.get 13 296 (by kernel_rfl) (by kernel_rfl)), by
        exact op2 (φ := (mpEq (.int .i64 (b2 + more))).p) ((show a'.eval (.tmp 306) = .int .i64 b2 from hd.get 23 306 (by kernel_rfl) (by kernel_rfl))) ((show a'.eval (.tmp 307) = .int .i64 more from hd.get 24 307 (by kernel_rfl) (by kernel_rfl))) (fun ρ e e' c => by simp [go_sem, e, e', sB]) rfl⟩) <|
          allOps_cons (fun a' w' hb hs hd => Or.inl ⟨wanted_t (j := 13) (d := 296) rfl (by kernel_rfl) (show a'.eval (.tmp 296) = .bool false from hd.get 13 296 (by kernel_rfl) (by kernel_rfl)), by
        exact op2 (φ := (mpEq (.bool false)).p) ((show a'.eval (.tmp 301) = .int .i64 (b2 + more) from hd.get 18 301 (by kernel_rfl) (by kernel_rfl))) ((show a'.eval (.tmp 308) = .int .i64 (b2 + more) from hd.get 25 308 (by kernel_rfl) (by kernel_rfl))) (fun ρ e e' c => by simp [go_sem, e, e']) rfl⟩) <|
          allOps_cons (fun a' w' hb hs hd => Or.inl ⟨wanted_n rfl, by
        exact op2 (φ := (mpEq (.bool false)).p) ((show a'.eval (.tmp 296) = .bool false from hd.get 13 296 (by kernel_rfl) (by kernel_rfl))) ((show a'.eval (.tmp 309) = .bool false from hd.get 26 309 (by kernel_rfl) (by kernel_rfl))) (fun ρ e e' c => by simp [go_sem, e, e', c]) rfl⟩) <|
          allOps_cons (fun a' w' hb hs hd => Or.inl ⟨wanted_n rfl, by
        exact op1 (φ := (mpEq (.bool false)).p) ((show a'.eval (.tmp 310) = .bool false from hd.get 27 310 (by kernel_rfl) (by kernel_rfl))) (fun ρ e c => by simp [go_sem, e]) rfl⟩) <|
          allOps_cons (fun a' w' hb hs hd => Or.inl ⟨wanted_t (j := 28) (d := 311) rfl (by kernel_rfl) (show a'.eval (.tmp 311) = .bool false from hd.get 28 311 (by kernel_rfl) (by kernel_rfl)), by
        exact op1 (φ := (mpEq (.slice (some ⟨s, 0, none⟩) 3 3)).p) ((hs.get 29 (by kernel_rfl)).trans (show _ = Value.slice (some ⟨s, 0, none⟩) 3 3 from rfl)) (fun ρ e c => by simp [go_sem, e]) rfl⟩) <|
          allOps_cons (fun a' w' hb hs hd => Or.inl ⟨wanted_t (j := 28) (d := 311) rfl (by kernel_rfl) (show a'.eval (.tmp 311) = .bool false from hd.get 28 311 (by kernel_rfl) (by kernel_rfl)), by
        exact op1 (φ := (mpEq (.int .i64 0)).p) ((hs.get 31 (by kernel_rfl)).trans (show _ = Value.int .i64 0 from rfl)) (fun ρ e c => by simp [go_sem, e]) rfl⟩) <|
          allOps_cons (fun a' w' hb hs hd => Or.inl ⟨wanted_t (j := 28) (d := 311) rfl (by kernel_rfl) (show a'.eval (.tmp 311) = .bool false from hd.get 28 311 (by kernel_rfl) (by kernel_rfl)), by
        exact op2 (φ := (mpEq (.pointer (some ⟨s, 0, none⟩))).p) ((show a'.eval (.tmp 312) = .slice (some ⟨s, 0, none⟩) 3 3 from hd.get 29 312 (by kernel_rfl) (by kernel_rfl))) ((show a'.eval (.tmp 313) = .int .i64 0 from hd.get 30 313 (by kernel_rfl) (by kernel_rfl))) (fun ρ e e' c => by simp [go_sem, e, e']) rfl⟩) <|
          allOps_cons (fun a' w' hb hs hd => Or.inl ⟨wanted_t (j := 28) (d := 311) rfl (by kernel_rfl) (show a'.eval (.tmp 311) = .bool false from hd.get 28 311 (by kernel_rfl) (by kernel_rfl)), by
        exact op1 (φ := (mpEq (.pointer (some ⟨s, 1, none⟩))).p) ((show a'.eval (.tmp 314) = .pointer (some ⟨s, 0, none⟩) from hd.get 31 314 (by kernel_rfl) (by kernel_rfl))) (fun ρ e c => by simp [go_sem, e]) rfl⟩) <|
          allOps_cons (fun a' w' hb hs hd => Or.inl ⟨wanted_t (j := 28) (d := 311) rfl (by kernel_rfl) (show a'.eval (.tmp 311) = .bool false from hd.get 28 311 (by kernel_rfl) (by kernel_rfl)), by
        exact op1 (φ := (mpEq (.int .i64 b2)).p) ((show a'.eval (.tmp 315) = .pointer (some ⟨s, 1, none⟩) from hd.get 32 315 (by kernel_rfl) (by kernel_rfl))) (fun ρ e c => by simp [go_sem, e, keep hb s1]) rfl⟩) <|
          allOps_cons (fun a' w' hb hs hd => Or.inl ⟨wanted_t (j := 28) (d := 311) rfl (by kernel_rfl) (show a'.eval (.tmp 311) = .bool false from hd.get 28 311 (by kernel_rfl) (by kernel_rfl)), by
        exact op1 (φ := (mpEq (.slice (some ⟨s, 0, none⟩) 3 3)).p) ((hs.get 29 (by kernel_rfl)).trans (show _ = Value.slice (some ⟨s, 0, none⟩) 3 3 from rfl)) (fun ρ e c => by simp [go_sem, e]) rfl⟩) <|
          allOps_cons (fun a' w' hb hs hd => Or.inl ⟨wanted_t (j := 28) (d := 311) rfl (by kernel_rfl) (show a'.eval (.tmp 311) = .bool false from hd.get 28 311 (by kernel_rfl) (by kernel_rfl)), by
        exact op1 (φ := (mpEq (.int .i64 0)).p) ((hs.get 31 (by kernel_rfl)).trans (show _ = Value.int .i64 0 from rfl)) (fun ρ e c => by simp [go_sem, e]) rfl⟩) <|
          allOps_cons (fun a' w' hb hs hd => Or.inl ⟨wanted_t (j := 28) (d := 311) rfl (by kernel_rfl) (show a'.eval (.tmp 311) = .bool false from hd.get 28 311 (by kernel_rfl) (by kernel_rfl)), by
        exact op2 (φ := (mpEq (.pointer (some ⟨s, 0, none⟩))).p) ((show a'.eval (.tmp 317) = .slice (some ⟨s, 0, none⟩) 3 3 from hd.get 34 317 (by kernel_rfl) (by kernel_rfl))) ((show a'.eval (.tmp 318) = .int .i64 0 from hd.get 35 318 (by kernel_rfl) (by kernel_rfl))) (fun ρ e e' c => by simp [go_sem, e, e']) rfl⟩) <|
          allOps_cons (fun a' w' hb hs hd => Or.inl ⟨wanted_t (j := 28) (d := 311) rfl (by kernel_rfl) (show a'.eval (.tmp 311) = .bool false from hd.get 28 311 (by kernel_rfl) (by kernel_rfl)), by
        exact op1 (φ := (mpEq (.pointer (some ⟨s, 0, none⟩))).p) ((show a'.eval (.tmp 319) = .pointer (some ⟨s, 0, none⟩) from hd.get 36 319 (by kernel_rfl) (by kernel_rfl))) (fun ρ e c => by simp [go_sem, e]) rfl⟩) <|
          allOps_cons (fun a' w' hb hs hd => Or.inl ⟨wanted_t (j := 28) (d := 311) rfl (by kernel_rfl) (show a'.eval (.tmp 311) = .bool false from hd.get 28 311 (by kernel_rfl) (by kernel_rfl)), by
        exact op1 (φ := (mpEq (.int .i64 b1)).p) ((show a'.eval (.tmp 320) = .pointer (some ⟨s, 0, none⟩) from hd.get 37 320 (by kernel_rfl) (by kernel_rfl))) (fun ρ e c => by simp [go_sem, e, keep hb s0]) rfl⟩) <|
          allOps_cons (fun a' w' hb hs hd => Or.inl ⟨wanted_t (j := 28) (d := 311) rfl (by kernel_rfl) (show a'.eval (.tmp 311) = .bool false from hd.get 28 311 (by kernel_rfl) (by kernel_rfl)), by
        exact op2 (φ := (mpEq (.int .i64 (b2 - b1))).p) ((show a'.eval (.tmp 316) = .int .i64 b2 from hd.get 33 316 (by kernel_rfl) (by kernel_rfl))) ((show a'.eval (.tmp 321) = .int .i64 b1 from hd.get 38 321 (by kernel_rfl) (by kernel_rfl))) (fun ρ e e' c => by simp [go_sem, e, e', sC]) rfl⟩) <|
          allOps_cons (fun a' w' hb hs hd => Or.inl ⟨wanted_t (j := 28) (d := 311) rfl (by kernel_rfl) (show a'.eval (.tmp 311) = .bool false from hd.get 28 311 (by kernel_rfl) (by kernel_rfl)), by
        exact op1 (φ := (mpEq (.pointer (some ⟨pa, 1, none⟩))).p) ((hs.get 7 (by kernel_rfl)).trans (show _ = Value.pointer (some ⟨pa, 0, none⟩) from rfl)) (fun ρ e c => by simp [go_sem, e]) rfl⟩) <|
          allOps_cons (fun a' w' hb hs hd => Or.inl ⟨wanted_t (j := 28) (d := 311) rfl (by kernel_rfl) (show a'.eval (.tmp 311) = .bool false from hd.get 28 311 (by kernel_rfl) (by kernel_rfl)), by
        exact op1 (φ := (mpEq (.int .i64 da)).p) ((show a'.eval (.tmp 323) = .pointer (some ⟨pa, 1, none⟩) from hd.get 40 323 (by kernel_rfl) (by kernel_rfl))) (fun ρ e c => by simp [go_sem, e, keep hb kd_]) rfl⟩) <|
          allOps_cons (fun a' w' hb hs hd => Or.inl ⟨wanted_t (j := 28) (d := 311) rfl (by kernel_rfl) (show a'.eval (.tmp 311) = .bool false from hd.get 28 311 (by kernel_rfl) (by kernel_rfl)), by
        exact op1 (φ := (mpEq (.int .i64 (2 * da))).p) ((show a'.eval (.tmp 324) = .int .i64 da from hd.get 41 324 (by kernel_rfl) (by kernel_rfl))) (fun ρ e c => by simp [go_sem, e, c, sD]) rfl⟩) <|
          allOps_cons (fun a' w' hb hs hd => Or.inl ⟨wanted_t (j := 28) (d := 311) rfl (by kernel_rfl) (show a'.eval (.tmp 311) = .bool false from hd.get 28 311 (by kernel_rfl) (by kernel_rfl)), by
        exact op1 (φ := (mpEq (.pointer (some ⟨pa, 1, none⟩))).p) ((hs.get 7 (by kernel_rfl)).trans (show _ = Value.pointer (some ⟨pa, 0, none⟩) from rfl)) (fun ρ e c => by simp [go_sem, e]) rfl⟩) <|
          allOps_cons (fun a' w' hb hs hd => Or.inl ⟨wanted_t (j := 28) (d := 311) rfl (by kernel_rfl) (show a'.eval (.tmp 311) = .bool false from hd.get 28 311 (by kernel_rfl) (by kernel_rfl)), by
        exact op1 (φ := (mpEq (.int .i64 da)).p) ((show a'.eval (.tmp 326) = .pointer (some ⟨pa, 1, none⟩) from hd.get 43 326 (by kernel_rfl) (by kernel_rfl))) (fun ρ e c => by simp [go_sem, e, keep hb kd_]) rfl⟩) <|
          allOps_cons (fun a' w' hb hs hd => Or.inl ⟨wanted_t (j := 28) (d := 311) rfl (by kernel_rfl) (show a'.eval (.tmp 311) = .bool false from hd.get 28 311 (by kernel_rfl) (by kernel_rfl)), by
        exact op1 (φ := (mpEq (.int .i64 (2 * da))).p) ((show a'.eval (.tmp 327) = .int .i64 da from hd.get 44 327 (by kernel_rfl) (by kernel_rfl))) (fun ρ e c => by simp [go_sem, e, c, sD]) rfl⟩) <|
          allOps_cons (fun a' w' hb hs hd => Or.inl ⟨wanted_t (j := 28) (d := 311) rfl (by kernel_rfl) (show a'.eval (.tmp 311) = .bool false from hd.get 28 311 (by kernel_rfl) (by kernel_rfl)), by
        exact op1 (φ := (mpEq (.int .i64 (2 * da + 1))).p) ((show a'.eval (.tmp 328) = .int .i64 (2 * da) from hd.get 45 328 (by kernel_rfl) (by kernel_rfl))) (fun ρ e c => by simp [go_sem, e, c, sE]) rfl⟩) <|
          allOps_cons (fun a' w' hb hs hd => Or.inl ⟨wanted_t (j := 28) (d := 311) rfl (by kernel_rfl) (show a'.eval (.tmp 311) = .bool false from hd.get 28 311 (by kernel_rfl) (by kernel_rfl)), by
        have e0 := (show a'.eval (.tmp 322) = .int .i64 (b2 - b1) from hd.get 39 322 (by kernel_rfl) (by kernel_rfl))
        have e1 := (show a'.eval (.tmp 325) = .int .i64 (2 * da) from hd.get 42 325 (by kernel_rfl) (by kernel_rfl))
        have e2 := (show a'.eval (.tmp 329) = .int .i64 (2 * da + 1) from hd.get 46 329 (by kernel_rfl) (by kernel_rfl))
        exact rg_fn (φ := (mpEq (.bool true)).p) (vs := #[.int .i64 (b2 - b1), .int .i64 (2 * da), .int .i64 (2 * da + 1)]) rfl (enters_of Try.func13 (by kernel_rfl) rfl) (by simp [e0, e1, e2]) (((show Calls Try.prog 13 #[.int .i64 (b2 - b1), .int .i64 (2 * da), .int .i64 (2 * da + 1)] w' fun e w1 => e = .returned (.bool true) ∧ Below w'.heap.size w' w1 from (bwithin_any _ _ _ w').mono (by rintro e ww ⟨rfl, rfl⟩; exact ⟨ret_bool hwi1, Below.refl _ _⟩))).mono (by rintro e w1 ⟨rfl, h1⟩; exact ⟨_, rfl, h1, rfl⟩))⟩) <|
          allOps_cons (fun a' w' hb hs hd => Or.inl ⟨wanted_t (j := 28) (d := 311) rfl (by kernel_rfl) (show a'.eval (.tmp 311) = .bool false from hd.get 28 311 (by kernel_rfl) (by kernel_rfl)), by
        exact op1 (φ := (mpEq (.bool false)).p) ((show a'.eval (.tmp 330) = .bool true from hd.get 47 330 (by kernel_rfl) (by kernel_rfl))) (fun ρ e c => by simp [go_sem, e]) rfl⟩) <|
          allOps_cons (fun a' w' hb hs hd => Or.inl ⟨wanted_n rfl, by
        exact op2 (φ := (mpEq (.bool false)).p) ((show a'.eval (.tmp 311) = .bool false from hd.get 28 311 (by kernel_rfl) (by kernel_rfl))) ((show a'.eval (.tmp 331) = .bool false from hd.get 48 331 (by kernel_rfl) (by kernel_rfl))) (fun ρ e e' c => by simp [go_sem, e, e', c]) rfl⟩) <| allOps_nil) (fun Q wy hb2 hall => ?_)
            have h8 : Q 332 = .bool false := hall.get 49 rfl
            clear hall
            simp only [me8, maskPut, Nat.reduceAdd]
            rw [h8]
            clear h8
            have HB2 := Lib.hid (thenB HBb.out hb2)
            clear hb2 sA sB sC sD sE
            go_wp2_with fail
            go_roundw
            case rel => exact ⟨1, by omega, by omega, by go_num, HB2.out⟩
            case measure => simp [intOf]
          · replace s2 := keep hb s2
            replace s3 := keep hb s3
            replace t2 := keep hb t2
            replace t3 := keep hb t3
            replace kd_ := keep hb kd_
            have HBb := Lib.hid hb
            clear hb
            have sA : IntKind.i64.wrap (b3 - more) = b3 - more := IntWalk.i64_in _ (by omega)
            have sB : IntKind.i64.wrap (b4 + more) = b4 + more := IntWalk.i64_in _ (by omega)
            have sC : IntKind.i64.wrap (b4 - b3) = b4 - b3 := IntWalk.i64_in _ (by omega)
            have sD : IntKind.i64.wrap (2 * da) = 2 * da := IntWalk.i64_in _ (by omega)
            have sE : IntKind.i64.wrap (2 * da + 1) = 2 * da + 1 := IntWalk.i64_in _ (by omega)
            go_upto_region 32 with (fail)
            refine wp_region_gd [mpEq (.slice (some ⟨t, 0, none⟩) 3 3), mpEq (.int .i64 1), mpEq (.pointer (some ⟨t, 2, none⟩)), mpEq (.pointer (some ⟨t, 2, none⟩)), mpEq (.int .i64 (b3 - more)), mpEq (.slice (some ⟨s, 0, none⟩) 3 3), mpEq (.int .i64 1), mpEq (.pointer (some ⟨s, 2, none⟩)), mpEq (.pointer (some ⟨s, 2, none⟩)), mpEq (.int .i64 b3), mpEq (.int .i64 more), mpEq (.int .i64 (b3 - more)), mpEq (.bool false), mpEq (.bool false), mpEq (.slice (some ⟨t, 0, none⟩) 3 3), mpEq (.int .i64 1), mpEq (.pointer (some ⟨t, 2, none⟩)), mpEq (.pointer (some ⟨t, 3, none⟩)), mpEq (.int .i64 (b4 + more)), mpEq (.slice (some ⟨s, 0, none⟩) 3 3), mpEq (.int .i64 1), mpEq (.pointer (some ⟨s, 2, none⟩)), mpEq (.pointer (some ⟨s, 3, none⟩)), mpEq (.int .i64 b4), mpEq (.int .i64 more), mpEq (.int .i64 (b4 + more)), mpEq (.bool false), mpEq (.bool false), mpEq (.bool false), mpEq (.slice (some ⟨s, 0, none⟩) 3 3), mpEq (.int .i64 1), mpEq (.pointer (some ⟨s, 2, none⟩)), mpEq (.pointer (some ⟨s, 3, none⟩)), mpEq (.int .i64 b4), mpEq (.slice (some ⟨s, 0, none⟩) 3 3), mpEq (.int .i64 1), mpEq (.pointer (some ⟨s, 2, none⟩)), mpEq (.pointer (some ⟨s, 2, none⟩)), mpEq (.int .i64 b3), mpEq (.int .i64 (b4 - b3)), mpEq (.pointer (some ⟨pa, 1, none⟩)), mpEq (.int .i64 da), mpEq (.int .i64 (2 * da)), mpEq (.pointer (some ⟨pa, 1, none⟩)), mpEq (.int .i64 da), mpEq (.int .i64 (2 * da)), mpEq (.int .i64 (2 * da + 1)), mpEq (.bool true), mpEq (.bool false), mpEq (.bool false)] me8 (by kernel_rfl) (by kernel_rfl) (by kernel_rfl) (
          allOps_cons (fun a' w' hb hs hd => Or.inl ⟨wanted_n rfl, by
        exact op1 (φ := (mpEq (.slice (some ⟨t, 0, none⟩) 3 3)).p) ((hs.get 30 (by kernel_rfl)).trans (show _ = Value.slice (some ⟨t, 0, none⟩) 3 3 from rfl)) (fun ρ e c => by simp [go_sem, e]) rfl⟩) <|
          allOps_cons (fun a' w' hb hs hd => Or.inl ⟨wanted_n rfl, by
        exact op1 (φ := (mpEq (.int .i64 1)).p) ((hs.get 31 (by kernel_rfl)).trans (show _ = Value.int .i64 1 from rfl)) (fun ρ e c => by simp [go_sem, e]) rfl⟩) <|
          allOps_cons (fun a' w' hb hs hd => Or.inl ⟨wanted_n rfl, by
        exact op2 (φ := (mpEq (.pointer (some ⟨t, 2, none⟩))).p) ((show a'.eval (.tmp 283) = .slice (some ⟨t, 0, none⟩) 3 3 from hd.get 0 283 (by kernel_rfl) (by kernel_rfl))) ((show a'.eval (.tmp 284) = .int .i64 1 from hd.get 1 284 (by kernel_rfl) (by kernel_rfl))) (fun ρ e e' c => by simp [go_sem, e, e']) rfl⟩) <|
          allOps_cons (fun a' w' hb hs hd => Or.inl ⟨wanted_n rfl, by
        exact op1 (φ := (mpEq (.pointer (some ⟨t, 2, none⟩))).p) ((show a'.eval (.tmp 285) = .pointer (some ⟨t, 2, none⟩) from hd.get 2 285 (by kernel_rfl) (by kernel_rfl))) (fun ρ e c => by simp [go_sem, e]) rfl⟩) <|
          allOps_cons (fun a' w' hb hs hd => Or.inl ⟨wanted_n rfl, by
        exact op1 (φ := (mpEq (.int .i64 (b3 - more))).p) ((show a'.eval (.tmp 286) = .pointer (some ⟨t, 2, none⟩) from hd.get 3 286 (by kernel_rfl) (by kernel_rfl))) (fun ρ e c => by simp [go_sem, e, keep hb t2]) rfl⟩) <|
          allOps_cons (fun a' w' hb hs hd => Or.inl ⟨wanted_n rfl, by
        exact op1 (φ := (mpEq (.slice (some ⟨s, 0, none⟩) 3 3)).p) ((hs.get 29 (by kernel_rfl)).trans (show _ = Value.slice (some ⟨s, 0, none⟩) 3 3 from rfl)) (fun ρ e c => by simp [go_sem, e]) rfl⟩) <|
          allOps_cons (fun a' w' hb hs hd => Or.inl ⟨wanted_n rfl, by
        exact op1 (φ := (mpEq (.int .i64 1)).p) ((hs.get 31 (by kernel_rfl)).trans (show _ = Value.int .i64 1 from rfl)) (fun ρ e c => by simp [go_sem, e]) rfl⟩) <|
          allOps_cons (fun a' w' hb hs hd => Or.inl ⟨wanted_n rfl, by
        exact op2 (φ := (mpEq (.pointer (some ⟨s, 2, none⟩))).p) ((show a'.eval (.tmp 288) = .slice (some ⟨s, 0, none⟩) 3 3 from hd.get 5 288 (by kernel_rfl) (by kernel_rfl))) ((show a'.eval (.tmp 289) = .int .i64 1 from hd.get 6 289 (by kernel_rfl) (by kernel_rfl))) (fun ρ e e' c => by simp [go_sem, e, e']) rfl⟩) <|
          allOps_cons (fun a' w' hb hs hd => Or.inl ⟨wanted_n rfl, by
        exact op1 (φ := (mpEq (.pointer (some ⟨s, 2, none⟩))).p) ((show a'.eval (.tmp 290) = .pointer (some ⟨s, 2, none⟩) from hd.get 7 290 (by kernel_rfl) (by kernel_rfl))) (fun ρ e c => by simp [go_sem, e]) rfl⟩) <|
          allOps_cons (fun a' w' hb hs hd => Or.inl ⟨wanted_n rfl, by
        exact op1 (φ := (mpEq (.int .i64 b3)).p) ((show a'.eval (.tmp 291) = .pointer (some ⟨s, 2, none⟩) from hd.get 8 291 (by kernel_rfl) (by kernel_rfl))) (fun ρ e c => by simp [go_sem, e, keep hb s2]) rfl⟩) <|
          allOps_cons (fun a' w' hb hs hd => Or.inl ⟨wanted_n rfl, by
        exact op1 (φ := (mpEq (.int .i64 more)).p) ((hs.get 2 (by kernel_rfl)).trans (show _ = Value.int .i64 more from rfl)) (fun ρ e c => by simp [go_sem, e]) rfl⟩) <|
          allOps_cons (fun a' w' hb hs hd => Or.inl ⟨wanted_n rfl, by
        exact op2 (φ := (mpEq (.int .i64 (b3 - more))).p) ((show a'.eval (.tmp 292) = .int .i64 b3 from hd.get 9 292 (by kernel_rfl) (by kernel_rfl))) ((show a'.eval (.tmp 293) = .int .i64 more from hd.get 10 293 (by kernel_rfl) (by kernel_rfl))) (fun ρ e e' c => by simp [go_sem, e, e', sA]) rfl⟩) <|
          allOps_cons (fun a' w' hb hs hd => Or.inl ⟨wanted_n rfl, by
        exact op2 (φ := (mpEq (.bool false)).p) ((show a'.eval (.tmp 287) = .int .i64 (b3 - more) from hd.get 4 287 (by kernel_rfl) (by kernel_rfl))) ((show a'.eval (.tmp 294) = .int .i64 (b3 - more) from hd.get 11 294 (by kernel_rfl) (by kernel_rfl))) (fun ρ e e' c => by simp [go_sem, e, e']) rfl⟩) <|
          allOps_cons (fun a' w' hb hs hd => Or.inl ⟨wanted_n rfl, by
        exact op1 (φ := (mpEq (.bool false)).p) ((show a'.eval (.tmp 295) = .bool false from hd.get 12 295 (by kernel_rfl) (by kernel_rfl))) (fun ρ e c => by simp [go_sem, e]) rfl⟩) <|
          allOps_cons (fun a' w' hb hs hd => Or.inl ⟨wanted_t (j := 13) (d := 296) rfl (by kernel_rfl) (show a'.eval (.tmp 296) = .bool false from hd.get 13 296 (by kernel_rfl) (by kernel_rfl)), by
        exact op1 (φ := (mpEq (.slice (some ⟨t, 0, none⟩) 3 3)).p) ((hs.get 30 (by kernel_rfl)).trans (show _ = Value.slice (some ⟨t, 0, none⟩) 3 3 from rfl)) (fun ρ e c => by simp [go_sem, e]) rfl⟩) <|
          allOps_cons (fun a' w' hb hs hd => Or.inl ⟨wanted_t (j := 13) (d := 296) rfl (by kernel_rfl) (show a'.eval (.tmp 296) = .bool false from hd.get 13 296 (by kernel_rfl) (by kernel_rfl)), by
        exact op1 (φ := (mpEq (.int .i64 1)).p) ((hs.get 31 (by kernel_rfl)).trans (show _ = Value.int .i64 1 from rfl)) (fun ρ e c => by simp [go_sem, e]) rfl⟩) <|
          allOps_cons (fun a' w' hb hs hd => Or.inl ⟨wanted_t (j := 13) (d := 296) rfl (by kernel_rfl) (show a'.eval (.tmp 296) = .bool false from hd.get 13 296 (by kernel_rfl) (by kernel_rfl)), by
        exact op2 (φ := (mpEq (.pointer (some ⟨t, 2, none⟩))).p) ((show a'.eval (.tmp 297) = .slice (some ⟨t, 0, none⟩) 3 3 from hd.get 14 297 (by kernel_rfl) (by kernel_rfl))) ((show a'.eval (.tmp 298) = .int .i64 1 from hd.get 15 298 (by kernel_rfl) (by kernel_rfl))) (fun ρ e e' c => by simp [go_sem, e, e']) rfl⟩) <|
          allOps_cons (fun a' w' hb hs hd => Or.inl ⟨wanted_t (j := 13) (d := 296) rfl (by kernel_rfl) (show a'.eval (.tmp 296) = .bool false from hd.get 13 296 (by kernel_rfl) (by kernel_rfl)), by
        exact op1 (φ := (mpEq (.pointer (some ⟨t, 3, none⟩))).p) ((show a'.eval (.tmp 299) = .pointer (some ⟨t, 2, none⟩) from hd.get 16 299 (by kernel_rfl) (by kernel_rfl))) (fun ρ e c => by simp [go_sem, e]) rfl⟩) <|
          allOps_cons (fun a' w' hb hs hd => Or.inl ⟨wanted_t (j := 13) (d := 296) rfl (by kernel_rfl) (show a'.eval (.tmp 296) = .bool false from hd.get 13 296 (by kernel_rfl) (by kernel_rfl)), by
        exact op1 (φ := (mpEq (.int .i64 (b4 + more))).p) ((show a'.eval (.tmp 300) = .pointer (some ⟨t, 3, none⟩) from hd.get 17 300 (by kernel_rfl) (by kernel_rfl))) (fun ρ e c => by simp [go_sem, e, keep hb t3]) rfl⟩) <|
          allOps_cons (fun a' w' hb hs hd => Or.inl ⟨wanted_t (j := 13) (d := 296) rfl (by kernel_rfl) (show a'.eval (.tmp 296) = .bool false from hd.get 13 296 (by kernel_rfl) (by kernel_rfl)), by
        exact op1 (φ := (mpEq (.slice (some ⟨s, 0, none⟩) 3 3)).p) ((hs.get 29 (by kernel_rfl)).trans (show _ = Value.slice (some ⟨s, 0, none⟩) 3 3 from rfl)) (fun ρ e c => by simp [go_sem, e]) rfl⟩) <|
          allOps_cons (fun a' w' hb hs hd => Or.inl ⟨wanted_t (j := 13) (d := 296) rfl (by kernel_rfl) (show a'.eval (.tmp 296) = .bool false from hd.get 13 296 (by kernel_rfl) (by kernel_rfl)), by
        exact op1 (φ := (mpEq (.int .i64 1)).p) ((hs.get 31 (by kernel_rfl)).trans (show _ = Value.int .i64 1 from rfl)) (fun ρ e c => by simp [go_sem, e]) rfl⟩) <|
          allOps_cons (fun a' w' hb hs hd => Or.inl ⟨wanted_t (j := 13) (d := 296) rfl (by kernel_rfl) (show a'.eval (.tmp 296) = .bool false from hd.get 13 296 (by kernel_rfl) (by kernel_rfl)), by
        exact op2 (φ := (mpEq (.pointer (some ⟨s, 2, none⟩))).p) ((show a'.eval (.tmp 302) = .slice (some ⟨s, 0, none⟩) 3 3 from hd.get 19 302 (by kernel_rfl) (by kernel_rfl))) ((show a'.eval (.tmp 303) = .int .i64 1 from hd.get 20 303 (by kernel_rfl) (by kernel_rfl))) (fun ρ e e' c => by simp [go_sem, e, e']) rfl⟩) <|
          allOps_cons (fun a' w' hb hs hd => Or.inl ⟨wanted_t (j := 13) (d := 296) rfl (by kernel_rfl) (show a'.eval (.tmp 296) = .bool false from hd.get 13 296 (by kernel_rfl) (by kernel_rfl)), by
        exact op1 (φ := (mpEq (.pointer (some ⟨s, 3, none⟩))).p) ((show a'.eval (.tmp 304) = .pointer (some ⟨s, 2, none⟩) from hd.get 21 304 (by kernel_rfl) (by kernel_rfl))) (fun ρ e c => by simp [go_sem, e]) rfl⟩) <|
          allOps_cons (fun a' w' hb hs hd => Or.inl ⟨wanted_t (j := 13) (d := 296) rfl (by kernel_rfl) (show a'.eval (.tmp 296) = .bool false from hd.get 13 296 (by kernel_rfl) (by kernel_rfl)), by
        exact op1 (φ := (mpEq (.int .i64 b4)).p) ((show a'.eval (.tmp 305) = .pointer (some ⟨s, 3, none⟩) from hd.get 22 305 (by kernel_rfl) (by kernel_rfl))) (fun ρ e c => by simp [go_sem, e, keep hb s3]) rfl⟩) <|
          allOps_cons (fun a' w' hb hs hd => Or.inl ⟨wanted_t (j := 13) (d := 296) rfl (by kernel_rfl) (show a'.eval (.tmp 296) = .bool false from hd.get 13 296 (by kernel_rfl) (by kernel_rfl)), by
        exact op1 (φ := (mpEq (.int .i64 more)).p) ((hs.get 2 (by kernel_rfl)).trans (show _ = Value.int .i64 more from rfl)) (fun ρ e c => by simp [go_sem, e]) rfl⟩) <|
          allOps_cons (fun a' w' hb hs hd => Or.inl ⟨wanted_t (j := 13) (d := 296) rfl (by kernel_rfl) (show a'.eval (.tmp 296) = .bool false from hd.get 13 296 (by kernel_rfl) (by kernel_rfl)), by
        exact op2 (φ := (mpEq (.int .i64 (b4 + more))).p) ((show a'.eval (.tmp 306) = .int .i64 b4 from hd.get 23 306 (by kernel_rfl) (by kernel_rfl))) ((show a'.eval (.tmp 307) = .int .i64 more from hd.get 24 307 (by kernel_rfl) (by kernel_rfl))) (fun ρ e e' c => by simp [go_sem, e, e', sB]) rfl⟩) <|
          allOps_cons (fun a' w' hb hs hd => Or.inl ⟨wanted_t (j := 13) (d := 296) rfl (by kernel_rfl) (show a'.eval (.tmp 296) = .bool false from hd.get 13 296 (by kernel_rfl) (by kernel_rfl)), by
        exact op2 (φ := (mpEq (.bool false)).p) ((show a'.eval (.tmp 301) = .int .i64 (b4 + more) from hd.get 18 301 (by kernel_rfl) (by kernel_rfl))) ((show a'.eval (.tmp 308) = .int .i64 (b4 + more) from hd.get 25 308 (by kernel_rfl) (by kernel_rfl))) (fun ρ e e' c => by simp [go_sem, e, e']) rfl⟩) <|
          allOps_cons (fun a' w' hb hs hd => Or.inl ⟨wanted_n rfl, by
        exact op2 (φ := (mpEq (.bool false)).p) ((show a'.eval (.tmp 296) = .bool false from hd.get 13 296 (by kernel_rfl) (by kernel_rfl))) ((show a'.eval (.tmp 309) = .bool false from hd.get 26 309 (by kernel_rfl) (by kernel_rfl))) (fun ρ e e' c => by simp [go_sem, e, e', c]) rfl⟩) <|
          allOps_cons (fun a' w' hb hs hd => Or.inl ⟨wanted_n rfl, by
        exact op1 (φ := (mpEq (.bool false)).p) ((show a'.eval (.tmp 310) = .bool false from hd.get 27 310 (by kernel_rfl) (by kernel_rfl))) (fun ρ e c => by simp [go_sem, e]) rfl⟩) <|
          allOps_cons (fun a' w' hb hs hd => Or.inl ⟨wanted_t (j := 28) (d := 311) rfl (by kernel_rfl) (show a'.eval (.tmp 311) = .bool false from hd.get 28 311 (by kernel_rfl) (by kernel_rfl)), by
        exact op1 (φ := (mpEq (.slice (some ⟨s, 0, none⟩) 3 3)).p) ((hs.get 29 (by kernel_rfl)).trans (show _ = Value.slice (some ⟨s, 0, none⟩) 3 3 from rfl)) (fun ρ e c => by simp [go_sem, e]) rfl⟩) <|
          allOps_cons (fun a' w' hb hs hd => Or.inl ⟨wanted_t (j := 28) (d := 311) rfl (by kernel_rfl) (show a'.eval (.tmp 311) = .bool false from hd.get 28 311 (by kernel_rfl) (by kernel_rfl)), by
        exact op1 (φ := (mpEq (.int .i64 1)).p) ((hs.get 31 (by kernel_rfl)).trans (show _ = Value.int .i64 1 from rfl)) (fun ρ e c => by simp [go_sem, e]) rfl⟩) <|
          allOps_cons (fun a' w' hb hs hd => Or.inl ⟨wanted_t (j := 28) (d := 311) rfl (by kernel_rfl) (show a'.eval (.tmp 311) = .bool false from hd.get 28 311 (by kernel_rfl) (by kernel_rfl)), by
        exact op2 (φ := (mpEq (.pointer (some ⟨s, 2, none⟩))).p) ((show a'.eval (.tmp 312) = .slice (some ⟨s, 0, none⟩) 3 3 from hd.get 29 312 (by kernel_rfl) (by kernel_rfl))) ((show a'.eval (.tmp 313) = .int .i64 1 from hd.get 30 313 (by kernel_rfl) (by kernel_rfl))) (fun ρ e e' c => by simp [go_sem, e, e']) rfl⟩) <|
          allOps_cons (fun a' w' hb hs hd => Or.inl ⟨wanted_t (j := 28) (d := 311) rfl (by kernel_rfl) (show a'.eval (.tmp 311) = .bool false from hd.get 28 311 (by kernel_rfl) (by kernel_rfl)), by
        exact op1 (φ := (mpEq (.pointer (some ⟨s, 3, none⟩))).p) ((show a'.eval (.tmp 314) = .pointer (some ⟨s, 2, none⟩) from hd.get 31 314 (by kernel_rfl) (by kernel_rfl))) (fun ρ e c => by simp [go_sem, e]) rfl⟩) <|
          allOps_cons (fun a' w' hb hs hd => Or.inl ⟨wanted_t (j := 28) (d := 311) rfl (by kernel_rfl) (show a'.eval (.tmp 311) = .bool false from hd.get 28 311 (by kernel_rfl) (by kernel_rfl)), by
        exact op1 (φ := (mpEq (.int .i64 b4)).p) ((show a'.eval (.tmp 315) = .pointer (some ⟨s, 3, none⟩) from hd.get 32 315 (by kernel_rfl) (by kernel_rfl))) (fun ρ e c => by simp [go_sem, e, keep hb s3]) rfl⟩) <|
          allOps_cons (fun a' w' hb hs hd => Or.inl ⟨wanted_t (j := 28) (d := 311) rfl (by kernel_rfl) (show a'.eval (.tmp 311) = .bool false from hd.get 28 311 (by kernel_rfl) (by kernel_rfl)), by
        exact op1 (φ := (mpEq (.slice (some ⟨s, 0, none⟩) 3 3)).p) ((hs.get 29 (by kernel_rfl)).trans (show _ = Value.slice (some ⟨s, 0, none⟩) 3 3 from rfl)) (fun ρ e c => by simp [go_sem, e]) rfl⟩) <|
          allOps_cons (fun a' w' hb hs hd => Or.inl ⟨wanted_t (j := 28) (d := 311) rfl (by kernel_rfl) (show a'.eval (.tmp 311) = .bool false from hd.get 28 311 (by kernel_rfl) (by kernel_rfl)), by
        exact op1 (φ := (mpEq (.int .i64 1)).p) ((hs.get 31 (by kernel_rfl)).trans (show _ = Value.int .i64 1 from rfl)) (fun ρ e c => by simp [go_sem, e]) rfl⟩) <|
          allOps_cons (fun a' w' hb hs hd => Or.inl ⟨wanted_t (j := 28) (d := 311) rfl (by kernel_rfl) (show a'.eval (.tmp 311) = .bool false from hd.get 28 311 (by kernel_rfl) (by kernel_rfl)), by
        exact op2 (φ := (mpEq (.pointer (some ⟨s, 2, none⟩))).p) ((show a'.eval (.tmp 317) = .slice (some ⟨s, 0, none⟩) 3 3 from hd.get 34 317 (by kernel_rfl) (by kernel_rfl))) ((show a'.eval (.tmp 318) = .int .i64 1 from hd.get 35 318 (by kernel_rfl) (by kernel_rfl))) (fun ρ e e' c => by simp [go_sem, e, e']) rfl⟩) <|
          allOps_cons (fun a' w' hb hs hd => Or.inl ⟨wanted_t (j := 28) (d := 311) rfl (by kernel_rfl) (show a'.eval (.tmp 311) = .bool false from hd.get 28 311 (by kernel_rfl) (by kernel_rfl)), by
        exact op1 (φ := (mpEq (.pointer (some ⟨s, 2, none⟩))).p) ((show a'.eval (.tmp 319) = .pointer (some ⟨s, 2, none⟩) from hd.get 36 319 (by kernel_rfl) (by kernel_rfl))) (fun ρ e c => by simp [go_sem, e]) rfl⟩) <|
          allOps_cons (fun a' w' hb hs hd => Or.inl ⟨wanted_t (j := 28) (d := 311) rfl (by kernel_rfl) (show a'.eval (.tmp 311) = .bool false from hd.get 28 311 (by kernel_rfl) (by kernel_rfl)), by
        exact op1 (φ := (mpEq (.int .i64 b3)).p) ((show a'.eval (.tmp 320) = .pointer (some ⟨s, 2, none⟩) from hd.get 37 320 (by kernel_rfl) (by kernel_rfl))) (fun ρ e c => by simp [go_sem, e, keep hb s2]) rfl⟩) <|
          allOps_cons (fun a' w' hb hs hd => Or.inl ⟨wanted_t (j := 28) (d := 311) rfl (by kernel_rfl) (show a'.eval (.tmp 311) = .bool false from hd.get 28 311 (by kernel_rfl) (by kernel_rfl)), by
        exact op2 (φ := (mpEq (.int .i64 (b4 - b3))).p) ((show a'.eval (.tmp 316) = .int .i64 b4 from hd.get 33 316 (by kernel_rfl) (by kernel_rfl))) ((show a'.eval (.tmp 321) = .int .i64 b3 from hd.get 38 321 (by kernel_rfl) (by kernel_rfl))) (fun ρ e e' c => by simp [go_sem, e, e', sC]) rfl⟩) <|
          allOps_cons (fun a' w' hb hs hd => Or.inl ⟨wanted_t (j := 28) (d := 311) rfl (by kernel_rfl) (show a'.eval (.tmp 311) = .bool false from hd.get 28 311 (by kernel_rfl) (by kernel_rfl)), by
        exact op1 (φ := (mpEq (.pointer (some ⟨pa, 1, none⟩))).p) ((hs.get 7 (by kernel_rfl)).trans (show _ = Value.pointer (some ⟨pa, 0, none⟩) from rfl)) (fun ρ e c => by simp [go_sem, e]) rfl⟩) <|
          allOps_cons (fun a' w' hb hs hd => Or.inl ⟨wanted_t (j := 28) (d := 311) rfl (by kernel_rfl) (show a'.eval (.tmp 311) = .bool false from hd.get 28 311 (by kernel_rfl) (by kernel_rfl)), by
        exact op1 (φ := (mpEq (.int .i64 da)).p) ((show a'.eval (.tmp 323) = .pointer (some ⟨pa, 1, none⟩) from hd.get 40 323 (by kernel_rfl) (by kernel_rfl))) (fun ρ e c => by simp [go_sem, e, keep hb kd_]) rfl⟩) <|
          allOps_cons (fun a' w' hb hs hd => Or.inl ⟨wanted_t (j := 28) (d := 311) rfl (by kernel_rfl) (show a'.eval (.tmp 311) = .bool false from hd.get 28 311 (by kernel_rfl) (by kernel_rfl)), by
        exact op1 (φ := (mpEq (.int .i64 (2 * da))).p) ((show a'.eval (.tmp 324) = .int .i64 da from hd.get 41 324 (by kernel_rfl) (by kernel_rfl))) (fun ρ e c => by simp [go_sem, e, c, sD]) rfl⟩) <|
          allOps_cons (fun a' w' hb hs hd => Or.inl ⟨wanted_t (j := 28) (d := 311) rfl (by kernel_rfl) (show a'.eval (.tmp 311) = .bool false from hd.get 28 311 (by kernel_rfl) (by kernel_rfl)), by
        exact op1 (φ := (mpEq (.pointer (some ⟨pa, 1, none⟩))).p) ((hs.get 7 (by kernel_rfl)).trans (show _ = Value.pointer (some ⟨pa, 0, none⟩) from rfl)) (fun ρ e c => by simp [go_sem, e]) rfl⟩) <|
          allOps_cons (fun a' w' hb hs hd => Or.inl ⟨wanted_t (j := 28) (d := 311) rfl (by kernel_rfl) (show a'.eval (.tmp 311) = .bool false from hd.get 28 311 (by kernel_rfl) (by kernel_rfl)), by
        exact op1 (φ := (mpEq (.int .i64 da)).p) ((show a'.eval (.tmp 326) = .pointer (some ⟨pa, 1, none⟩) from hd.get 43 326 (by kernel_rfl) (by kernel_rfl))) (fun ρ e c => by simp [go_sem, e, keep hb kd_]) rfl⟩) <|
          allOps_cons (fun a' w' hb hs hd => Or.inl ⟨wanted_t (j := 28) (d := 311) rfl (by kernel_rfl) (show a'.eval (.tmp 311) = .bool false from hd.get 28 311 (by kernel_rfl) (by kernel_rfl)), by
        exact op1 (φ := (mpEq (.int .i64 (2 * da))).p) ((show a'.eval (.tmp 327) = .int .i64 da from hd.get 44 327 (by kernel_rfl) (by kernel_rfl))) (fun ρ e c => by simp [go_sem, e, c, sD]) rfl⟩) <|
          allOps_cons (fun a' w' hb hs hd => Or.inl ⟨wanted_t (j := 28) (d := 311) rfl (by kernel_rfl) (show a'.eval (.tmp 311) = .bool false from hd.get 28 311 (by kernel_rfl) (by kernel_rfl)), by
        exact op1 (φ := (mpEq (.int .i64 (2 * da + 1))).p) ((show a'.eval (.tmp 328) = .int .i64 (2 * da) from hd.get 45 328 (by kernel_rfl) (by kernel_rfl))) (fun ρ e c => by simp [go_sem, e, c, sE]) rfl⟩) <|
          allOps_cons (fun a' w' hb hs hd => Or.inl ⟨wanted_t (j := 28) (d := 311) rfl (by kernel_rfl) (show a'.eval (.tmp 311) = .bool false from hd.get 28 311 (by kernel_rfl) (by kernel_rfl)), by
        have e0 := (show a'.eval (.tmp 322) = .int .i64 (b4 - b3) from hd.get 39 322 (by kernel_rfl) (by kernel_rfl))
        have e1 := (show a'.eval (.tmp 325) = .int .i64 (2 * da) from hd.get 42 325 (by kernel_rfl) (by kernel_rfl))
        have e2 := (show a'.eval (.tmp 329) = .int .i64 (2 * da + 1) from hd.get 46 329 (by kernel_rfl) (by kernel_rfl))
        exact rg_fn (φ := (mpEq (.bool true)).p) (vs := #[.int .i64 (b4 - b3), .int .i64 (2 * da), .int .i64 (2 * da + 1)]) rfl (enters_of Try.func13 (by kernel_rfl) rfl) (by simp [e0, e1, e2]) (((show Calls Try.prog 13 #[.int .i64 (b4 - b3), .int .i64 (2 * da), .int .i64 (2 * da + 1)] w' fun e w1 => e = .returned (.bool true) ∧ Below w'.heap.size w' w1 from (bwithin_any _ _ _ w').mono (by rintro e ww ⟨rfl, rfl⟩; exact ⟨ret_bool hwi2, Below.refl _ _⟩))).mono (by rintro e w1 ⟨rfl, h1⟩; exact ⟨_, rfl, h1, rfl⟩))⟩) <|
          allOps_cons (fun a' w' hb hs hd => Or.inl ⟨wanted_t (j := 28) (d := 311) rfl (by kernel_rfl) (show a'.eval (.tmp 311) = .bool false from hd.get 28 311 (by kernel_rfl) (by kernel_rfl)), by
        exact op1 (φ := (mpEq (.bool false)).p) ((show a'.eval (.tmp 330) = .bool true from hd.get 47 330 (by kernel_rfl) (by kernel_rfl))) (fun ρ e c => by simp [go_sem, e]) rfl⟩) <|
          allOps_cons (fun a' w' hb hs hd => Or.inl ⟨wanted_n rfl, by
        exact op2 (φ := (mpEq (.bool false)).p) ((show a'.eval (.tmp 311) = .bool false from hd.get 28 311 (by kernel_rfl) (by kernel_rfl))) ((show a'.eval (.tmp 331) = .bool false from hd.get 48 331 (by kernel_rfl) (by kernel_rfl))) (fun ρ e e' c => by simp [go_sem, e, e', c]) rfl⟩) <| allOps_nil) (fun Q wy hb2 hall => ?_)
            have h8 : Q 332 = .bool false := hall.get 49 rfl
            clear hall
            simp only [me8, maskPut, Nat.reduceAdd]
            rw [h8]
            clear h8
            have HB2 := Lib.hid (thenB HBb.out hb2)
            clear hb2 sA sB sC sD sE
            go_wp2_with fail
            go_roundw
            case rel => exact ⟨2, by omega, by omega, by go_num, HB2.out⟩
            case measure => simp [intOf]
          · replace s4 := keep hb s4
            replace s5 := keep hb s5
            replace t4 := keep hb t4
            replace t5 := keep hb t5
            replace kd_ := keep hb kd_
            have HBb := Lib.hid hb
            clear hb
            have sA : IntKind.i64.wrap (b5 - more) = b5 - more := IntWalk.i64_in _ (by omega)
            have sB : IntKind.i64.wrap (b6 + more) = b6 + more := IntWalk.i64_in _ (by omega)
            have sC : IntKind.i64.wrap (b6 - b5) = b6 - b5 := IntWalk.i64_in _ (by omega)
            have sD : IntKind.i64.wrap (2 * da) = 2 * da := IntWalk.i64_in _ (by omega)
            have sE : IntKind.i64.wrap (2 * da + 1) = 2 * da + 1 := IntWalk.i64_in _ (by omega)
            go_upto_region 32 with (fail)
            refine wp_region_gd [mpEq (.slice (some ⟨t, 0, none⟩) 3 3), mpEq (.int .i64 2), mpEq (.pointer (some ⟨t, 4, none⟩)), mpEq (.pointer (some ⟨t, 4, none⟩)), mpEq (.int .i64 (b5 - more)), mpEq (.slice (some ⟨s, 0, none⟩) 3 3), mpEq (.int .i64 2), mpEq (.pointer (some ⟨s, 4, none⟩)), mpEq (.pointer (some ⟨s, 4, none⟩)), mpEq (.int .i64 b5), mpEq (.int .i64 more), mpEq (.int .i64 (b5 - more)), mpEq (.bool false), mpEq (.bool false), mpEq (.slice (some ⟨t, 0, none⟩) 3 3), mpEq (.int .i64 2), mpEq (.pointer (some ⟨t, 4, none⟩)), mpEq (.pointer (some ⟨t, 5, none⟩)), mpEq (.int .i64 (b6 + more)), mpEq (.slice (some ⟨s, 0, none⟩) 3 3), mpEq (.int .i64 2), mpEq (.pointer (some ⟨s, 4, none⟩)), mpEq (.pointer (some ⟨s, 5, none⟩)), mpEq (.int .i64 b6), mpEq (.int .i64 more), mpEq (.int .i64 (b6 + more)), mpEq (.bool false), mpEq (.bool false), mpEq (.bool false), mpEq (.slice (some ⟨s, 0, none⟩) 3 3), mpEq (.int .i64 2), mpEq (.pointer (some ⟨s, 4, none⟩)), mpEq (.pointer (some ⟨s, 5, none⟩)), mpEq (.int .i64 b6), mpEq (.slice (some ⟨s, 0, none⟩) 3 3), mpEq (.int .i64 2), mpEq (.pointer (some ⟨s, 4, none⟩)), mpEq (.pointer (some ⟨s, 4, none⟩)), mpEq (.int .i64 b5), mpEq (.int .i64 (b6 - b5)), mpEq (.pointer (some ⟨pa, 1, none⟩)), mpEq (.int .i64 da), mpEq (.int .i64 (2 * da)), mpEq (.pointer (some ⟨pa, 1, none⟩)), mpEq (.int .i64 da), mpEq (.int .i64 (2 * da)), mpEq (.int .i64 (2 * da + 1)), mpEq (.bool true), mpEq (.bool false), mpEq (.bool false)] me8 (by kernel_rfl) (by kernel_rfl) (by kernel_rfl) (
          allOps_cons (fun a' w' hb hs hd => Or.inl ⟨wanted_n rfl, by
        exact op1 (φ := (mpEq (.slice (some ⟨t, 0, none⟩) 3 3)).p) ((hs.get 30 (by kernel_rfl)).trans (show _ = Value.slice (some ⟨t, 0, none⟩) 3 3 from rfl)) (fun ρ e c => by simp [go_sem, e]) rfl⟩) <|
          allOps_cons (fun a' w' hb hs hd => Or.inl ⟨wanted_n rfl, by
        exact op1 (φ := (mpEq (.int .i64 2)).p) ((hs.get 31 (by kernel_rfl)).trans (show _ = Value.int .i64 2 from rfl)) (fun ρ e c => by simp [go_sem, e]) rfl⟩) <|
          allOps_cons (fun a' w' hb hs hd => Or.inl ⟨wanted_n rfl, by
        exact op2 (φ := (mpEq (.pointer (some ⟨t, 4, none⟩))).p) ((show a'.eval (.tmp 283) = .slice (some ⟨t, 0, none⟩) 3 3 from hd.get 0 283 (by kernel_rfl) (by kernel_rfl))) ((show a'.eval (.tmp 284) = .int .i64 2 from hd.get 1 284 (by kernel_rfl) (by kernel_rfl))) (fun ρ e e' c => by simp [go_sem, e, e']) rfl⟩) <|
          allOps_cons (fun a' w' hb hs hd => Or.inl ⟨wanted_n rfl, by
        exact op1 (φ := (mpEq (.pointer (some ⟨t, 4, none⟩))).p) ((show a'.eval (.tmp 285) = .pointer (some ⟨t, 4, none⟩) from hd.get 2 285 (by kernel_rfl) (by kernel_rfl))) (fun ρ e c => by simp [go_sem, e]) rfl⟩) <|
          allOps_cons (fun a' w' hb hs hd => Or.inl ⟨wanted_n rfl, by
        exact op1 (φ := (mpEq (.int .i64 (b5 - more))).p) ((show a'.eval (.tmp 286) = .pointer (some ⟨t, 4, none⟩) from hd.get 3 286 (by kernel_rfl) (by kernel_rfl))) (fun ρ e c => by simp [go_sem, e, keep hb t4]) rfl⟩) <|
          allOps_cons (fun a' w' hb hs hd => Or.inl ⟨wanted_n rfl, by
        exact op1 (φ := (mpEq (.slice (some ⟨s, 0, none⟩) 3 3)).p) ((hs.get 29 (by kernel_rfl)).trans (show _ = Value.slice (some ⟨s, 0, none⟩) 3 3 from rfl)) (fun ρ e c => by simp [go_sem, e]) rfl⟩) <|
          allOps_cons (fun a' w' hb hs hd => Or.inl ⟨wanted_n rfl, by
        exact op1 (φ := (mpEq (.int .i64 2)).p) ((hs.get 31 (by kernel_rfl)).trans (show _ = Value.int .i64 2 from rfl)) (fun ρ e c => by simp [go_sem, e]) rfl⟩) <|
          allOps_cons (fun a' w' hb hs hd => Or.inl ⟨wanted_n rfl, by
        exact op2 (φ := (mpEq (.pointer (some ⟨s, 4, none⟩))).p) ((show a'.eval (.tmp 288) = .slice (some ⟨s, 0, none⟩) 3 3 from hd.get 5 288 (by kernel_rfl) (by kernel_rfl))) ((show a'.eval (.tmp 289) = .int .i64 2 from hd.get 6 289 (by kernel_rfl) (by kernel_rfl))) (fun ρ e e' c => by simp [go_sem, e, e']) rfl⟩) <|
          allOps_cons (fun a' w' hb hs hd => Or.inl ⟨wanted_n rfl, by
        exact op1 (φ := (mpEq (.pointer (some ⟨s, 4, none⟩))).p) ((show a'.eval (.tmp 290) = .pointer (some ⟨s, 4, none⟩) from hd.get 7 290 (by kernel_rfl) (by kernel_rfl))) (fun ρ e c => by simp [go_sem, e]) rfl⟩) <|
          allOps_cons (fun a' w' hb hs hd => Or.inl ⟨wanted_n rfl, by
        exact op1 (φ := (mpEq (.int .i64 b5)).p) ((show a'.eval (.tmp 291) = .pointer (some ⟨s, 4, none⟩) from hd.get 8 291 (by kernel_rfl) (by kernel_rfl))) (fun ρ e c => by simp [go_sem, e, keep hb s4]) rfl⟩) <|
          allOps_cons (fun a' w' hb hs hd => Or.inl ⟨wanted_n rfl, by
        exact op1 (φ := (mpEq (.int .i64 more)).p) ((hs.get 2 (by kernel_rfl)).trans (show _ = Value.int .i64 more from rfl)) (fun ρ e c => by simp [go_sem, e]) rfl⟩) <|
          allOps_cons (fun a' w' hb hs hd => Or.inl ⟨wanted_n rfl, by
        exact op2 (φ := (mpEq (.int .i64 (b5 - more))).p) ((show a'.eval (.tmp 292) = .int .i64 b5 from hd.get 9 292 (by kernel_rfl) (by kernel_rfl))) ((show a'.eval (.tmp 293) = .int .i64 more from hd.get 10 293 (by kernel_rfl) (by kernel_rfl))) (fun ρ e e' c => by simp [go_sem, e, e', sA]) rfl⟩) <|
          allOps_cons (fun a' w' hb hs hd => Or.inl ⟨wanted_n rfl, by
        exact op2 (φ := (mpEq (.bool false)).p) ((show a'.eval (.tmp 287) = .int .i64 (b5 - more) from hd.get 4 287 (by kernel_rfl) (by kernel_rfl))) ((show a'.eval (.tmp 294) = .int .i64 (b5 - more) from hd.get 11 294 (by kernel_rfl) (by kernel_rfl))) (fun ρ e e' c => by simp [go_sem, e, e']) rfl⟩) <|
          allOps_cons (fun a' w' hb hs hd => Or.inl ⟨wanted_n rfl, by
        exact op1 (φ := (mpEq (.bool false)).p) ((show a'.eval (.tmp 295) = .bool false from hd.get 12 295 (by kernel_rfl) (by kernel_rfl))) (fun ρ e c => by simp [go_sem, e]) rfl⟩) <|
          allOps_cons (fun a' w' hb hs hd => Or.inl ⟨wanted_t (j := 13) (d := 296) rfl (by kernel_rfl) (show a'.eval (.tmp 296) = .bool false from hd.get 13 296 (by kernel_rfl) (by kernel_rfl)), by
        exact op1 (φ := (mpEq (.slice (some ⟨t, 0, none⟩) 3 3)).p) ((hs.get 30 (by kernel_rfl)).trans (show _ = Value.slice (some ⟨t, 0, none⟩) 3 3 from rfl)) (fun ρ e c => by simp [go_sem, e]) rfl⟩) <|
          allOps_cons (fun a' w' hb hs hd => Or.inl ⟨wanted_t (j := 13) (d := 296) rfl (by kernel_rfl) (show a'.eval (.tmp 296) = .bool false from hd.get 13 296 (by kernel_rfl) (by kernel_rfl)), by
        exact op1 (φ := (mpEq (.int .i64 2)).p) ((hs.get 31 (by kernel_rfl)).trans (show _ = Value.int .i64 2 from rfl)) (fun ρ e c => by simp [go_sem, e]) rfl⟩) <|
          allOps_cons (fun a' w' hb hs hd => Or.inl ⟨wanted_t (j := 13) (d := 296) rfl (by kernel_rfl) (show a'.eval (.tmp 296) = .bool false from hd.get 13 296 (by kernel_rfl) (by kernel_rfl)), by
        exact op2 (φ := (mpEq (.pointer (some ⟨t, 4, none⟩))).p) ((show a'.eval (.tmp 297) = .slice (some ⟨t, 0, none⟩) 3 3 from hd.get 14 297 (by kernel_rfl) (by kernel_rfl))) ((show a'.eval (.tmp 298) = .int .i64 2 from hd.get 15 298 (by kernel_rfl) (by kernel_rfl))) (fun ρ e e' c => by simp [go_sem, e, e']) rfl⟩) <|
          allOps_cons (fun a' w' hb hs hd => Or.inl ⟨wanted_t (j := 13) (d := 296) rfl (by kernel_rfl) (show a'.eval (.tmp 296) = .bool false from hd.get 13 296 (by kernel_rfl) (by kernel_rfl)), by
        exact op1 (φ := (mpEq (.pointer (some ⟨t, 5, none⟩))).p) ((show a'.eval (.tmp 299) = .pointer (some ⟨t, 4, none⟩) from hd.get 16 299 (by kernel_rfl) (by kernel_rfl))) (fun ρ e c => by simp [go_sem, e]) rfl⟩) <|
          allOps_cons (fun a' w' hb hs hd => Or.inl ⟨wanted_t (j := 13) (d := 296) rfl (by kernel_rfl) (show a'.eval (.tmp 296) = .bool false from hd.get 13 296 (by kernel_rfl) (by kernel_rfl)), by
        exact op1 (φ := (mpEq (.int .i64 (b6 + more))).p) ((show a'.eval (.tmp 300) = .pointer (some ⟨t, 5, none⟩) from hd.get 17 300 (by kernel_rfl) (by kernel_rfl))) (fun ρ e c => by simp [go_sem, e, keep hb t5]) rfl⟩) <|
          allOps_cons (fun a' w' hb hs hd => Or.inl ⟨wanted_t (j := 13) (d := 296) rfl (by kernel_rfl) (show a'.eval (.tmp 296) = .bool false from hd.get 13 296 (by kernel_rfl) (by kernel_rfl)), by
        exact op1 (φ := (mpEq (.slice (some ⟨s, 0, none⟩) 3 3)).p) ((hs.get 29 (by kernel_rfl)).trans (show _ = Value.slice (some ⟨s, 0, none⟩) 3 3 from rfl)) (fun ρ e c => by simp [go_sem, e]) rfl⟩) <|
          allOps_cons (fun a' w' hb hs hd => Or.inl ⟨wanted_t (j := 13) (d := 296) rfl (by kernel_rfl) (show a'.eval (.tmp 296) = .bool false from hd.get 13 296 (by kernel_rfl) (by kernel_rfl)), by
        exact op1 (φ := (mpEq (.int .i64 2)).p) ((hs.get 31 (by kernel_rfl)).trans (show _ = Value.int .i64 2 from rfl)) (fun ρ e c => by simp [go_sem, e]) rfl⟩) <|
          allOps_cons (fun a' w' hb hs hd => Or.inl ⟨wanted_t (j := 13) (d := 296) rfl (by kernel_rfl) (show a'.eval (.tmp 296) = .bool false from hd.get 13 296 (by kernel_rfl) (by kernel_rfl)), by
        exact op2 (φ := (mpEq (.pointer (some ⟨s, 4, none⟩))).p) ((show a'.eval (.tmp 302) = .slice (some ⟨s, 0, none⟩) 3 3 from hd.get 19 302 (by kernel_rfl) (by kernel_rfl))) ((show a'.eval (.tmp 303) = .int .i64 2 from hd.get 20 303 (by kernel_rfl) (by kernel_rfl))) (fun ρ e e' c => by simp [go_sem, e, e']) rfl⟩) <|
          allOps_cons (fun a' w' hb hs hd => Or.inl ⟨wanted_t (j := 13) (d := 296) rfl (by kernel_rfl) (show a'.eval (.tmp 296) = .bool false from hd.get 13 296 (by kernel_rfl) (by kernel_rfl)), by
        exact op1 (φ := (mpEq (.pointer (some ⟨s, 5, none⟩))).p) ((show a'.eval (.tmp 304) = .pointer (some ⟨s, 4, none⟩) from hd.get 21 304 (by kernel_rfl) (by kernel_rfl))) (fun ρ e c => by simp [go_sem, e]) rfl⟩) <|
          allOps_cons (fun a' w' hb hs hd => Or.inl ⟨wanted_t (j := 13) (d := 296) rfl (by kernel_rfl) (show a'.eval (.tmp 296) = .bool false from hd.get 13 296 (by kernel_rfl) (by kernel_rfl)), by
        exact op1 (φ := (mpEq (.int .i64 b6)).p) ((show a'.eval (.tmp 305) = .pointer (some ⟨s, 5, none⟩) from hd.get 22 305 (by kernel_rfl) (by kernel_rfl))) (fun ρ e c => by simp [go_sem, e, keep hb s5]) rfl⟩) <|
          allOps_cons (fun a' w' hb hs hd => Or.inl ⟨wanted_t (j := 13) (d := 296) rfl (by kernel_rfl) (show a'.eval (.tmp 296) = .bool false from hd.get 13 296 (by kernel_rfl) (by kernel_rfl)), by
        exact op1 (φ := (mpEq (.int .i64 more)).p) ((hs.get 2 (by kernel_rfl)).trans (show _ = Value.int .i64 more from rfl)) (fun ρ e c => by simp [go_sem, e]) rfl⟩) <|
          allOps_cons (fun a' w' hb hs hd => Or.inl ⟨wanted_t (j := 13) (d := 296) rfl (by kernel_rfl) (show a'.eval (.tmp 296) = .bool false from hd.get 13 296 (by kernel_rfl) (by kernel_rfl)), by
        exact op2 (φ := (mpEq (.int .i64 (b6 + more))).p) ((show a'.eval (.tmp 306) = .int .i64 b6 from hd.get 23 306 (by kernel_rfl) (by kernel_rfl))) ((show a'.eval (.tmp 307) = .int .i64 more from hd.get 24 307 (by kernel_rfl) (by kernel_rfl))) (fun ρ e e' c => by simp [go_sem, e, e', sB]) rfl⟩) <|
          allOps_cons (fun a' w' hb hs hd => Or.inl ⟨wanted_t (j := 13) (d := 296) rfl (by kernel_rfl) (show a'.eval (.tmp 296) = .bool false from hd.get 13 296 (by kernel_rfl) (by kernel_rfl)), by
        exact op2 (φ := (mpEq (.bool false)).p) ((show a'.eval (.tmp 301) = .int .i64 (b6 + more) from hd.get 18 301 (by kernel_rfl) (by kernel_rfl))) ((show a'.eval (.tmp 308) = .int .i64 (b6 + more) from hd.get 25 308 (by kernel_rfl) (by kernel_rfl))) (fun ρ e e' c => by simp [go_sem, e, e']) rfl⟩) <|
          allOps_cons (fun a' w' hb hs hd => Or.inl ⟨wanted_n rfl, by
        exact op2 (φ := (mpEq (.bool false)).p) ((show a'.eval (.tmp 296) = .bool false from hd.get 13 296 (by kernel_rfl) (by kernel_rfl))) ((show a'.eval (.tmp 309) = .bool false from hd.get 26 309 (by kernel_rfl) (by kernel_rfl))) (fun ρ e e' c => by simp [go_sem, e, e', c]) rfl⟩) <|
          allOps_cons (fun a' w' hb hs hd => Or.inl ⟨wanted_n rfl, by
        exact op1 (φ := (mpEq (.bool false)).p) ((show a'.eval (.tmp 310) = .bool false from hd.get 27 310 (by kernel_rfl) (by kernel_rfl))) (fun ρ e c => by simp [go_sem, e]) rfl⟩) <|
          allOps_cons (fun a' w' hb hs hd => Or.inl ⟨wanted_t (j := 28) (d := 311) rfl (by kernel_rfl) (show a'.eval (.tmp 311) = .bool false from hd.get 28 311 (by kernel_rfl) (by kernel_rfl)), by
        exact op1 (φ := (mpEq (.slice (some ⟨s, 0, none⟩) 3 3)).p) ((hs.get 29 (by kernel_rfl)).trans (show _ = Value.slice (some ⟨s, 0, none⟩) 3 3 from rfl)) (fun ρ e c => by simp [go_sem, e]) rfl⟩) <|
          allOps_cons (fun a' w' hb hs hd => Or.inl ⟨wanted_t (j := 28) (d := 311) rfl (by kernel_rfl) (show a'.eval (.tmp 311) = .bool false from hd.get 28 311 (by kernel_rfl) (by kernel_rfl)), by
        exact op1 (φ := (mpEq (.int .i64 2)).p) ((hs.get 31 (by kernel_rfl)).trans (show _ = Value.int .i64 2 from rfl)) (fun ρ e c => by simp [go_sem, e]) rfl⟩) <|
          allOps_cons (fun a' w' hb hs hd => Or.inl ⟨wanted_t (j := 28) (d := 311) rfl (by kernel_rfl) (show a'.eval (.tmp 311) = .bool false from hd.get 28 311 (by kernel_rfl) (by kernel_rfl)), by
        exact op2 (φ := (mpEq (.pointer (some ⟨s, 4, none⟩))).p) ((show a'.eval (.tmp 312) = .slice (some ⟨s, 0, none⟩) 3 3 from hd.get 29 312 (by kernel_rfl) (by kernel_rfl))) ((show a'.eval (.tmp 313) = .int .i64 2 from hd.get 30 313 (by kernel_rfl) (by kernel_rfl))) (fun ρ e e' c => by simp [go_sem, e, e']) rfl⟩) <|
          allOps_cons (fun a' w' hb hs hd => Or.inl ⟨wanted_t (j := 28) (d := 311) rfl (by kernel_rfl) (show a'.eval (.tmp 311) = .bool false from hd.get 28 311 (by kernel_rfl) (by kernel_rfl)), by
        exact op1 (φ := (mpEq (.pointer (some ⟨s, 5, none⟩))).p) ((show a'.eval (.tmp 314) = .pointer (some ⟨s, 4, none⟩) from hd.get 31 314 (by kernel_rfl) (by kernel_rfl))) (fun ρ e c => by simp [go_sem, e]) rfl⟩) <|
          allOps_cons (fun a' w' hb hs hd => Or.inl ⟨wanted_t (j := 28) (d := 311) rfl (by kernel_rfl) (show a'.eval (.tmp 311) = .bool false from hd.get 28 311 (by kernel_rfl) (by kernel_rfl)), by
        exact op1 (φ := (mpEq (.int .i64 b6)).p) ((show a'.eval (.tmp 315) = .pointer (some ⟨s, 5, none⟩) from hd.get 32 315 (by kernel_rfl) (by kernel_rfl))) (fun ρ e c => by simp [go_sem, e, keep hb s5]) rfl⟩) <|
          allOps_cons (fun a' w' hb hs hd => Or.inl ⟨wanted_t (j := 28) (d := 311) rfl (by kernel_rfl) (show a'.eval (.tmp 311) = .bool false from hd.get 28 311 (by kernel_rfl) (by kernel_rfl)), by
        exact op1 (φ := (mpEq (.slice (some ⟨s, 0, none⟩) 3 3)).p) ((hs.get 29 (by kernel_rfl)).trans (show _ = Value.slice (some ⟨s, 0, none⟩) 3 3 from rfl)) (fun ρ e c => by simp [go_sem, e]) rfl⟩) <|
          allOps_cons (fun a' w' hb hs hd => Or.inl ⟨wanted_t (j := 28) (d := 311) rfl (by kernel_rfl) (show a'.eval (.tmp 311) = .bool false from hd.get 28 311 (by kernel_rfl) (by kernel_rfl)), by
        exact op1 (φ := (mpEq (.int .i64 2)).p) ((hs.get 31 (by kernel_rfl)).trans (show _ = Value.int .i64 2 from rfl)) (fun ρ e c => by simp [go_sem, e]) rfl⟩) <|
          allOps_cons (fun a' w' hb hs hd => Or.inl ⟨wanted_t (j := 28) (d := 311) rfl (by kernel_rfl) (show a'.eval (.tmp 311) = .bool false from hd.get 28 311 (by kernel_rfl) (by kernel_rfl)), by
        exact op2 (φ := (mpEq (.pointer (some ⟨s, 4, none⟩))).p) ((show a'.eval (.tmp 317) = .slice (some ⟨s, 0, none⟩) 3 3 from hd.get 34 317 (by kernel_rfl) (by kernel_rfl))) ((show a'.eval (.tmp 318) = .int .i64 2 from hd.get 35 318 (by kernel_rfl) (by kernel_rfl))) (fun ρ e e' c => by simp [go_sem, e, e']) rfl⟩) <|
          allOps_cons (fun a' w' hb hs hd => Or.inl ⟨wanted_t (j := 28) (d := 311) rfl (by kernel_rfl) (show a'.eval (.tmp 311) = .bool false from hd.get 28 311 (by kernel_rfl) (by kernel_rfl)), by
        exact op1 (φ := (mpEq (.pointer (some ⟨s, 4, none⟩))).p) ((show a'.eval (.tmp 319) = .pointer (some ⟨s, 4, none⟩) from hd.get 36 319 (by kernel_rfl) (by kernel_rfl))) (fun ρ e c => by simp [go_sem, e]) rfl⟩) <|
          allOps_cons (fun a' w' hb hs hd => Or.inl ⟨wanted_t (j := 28) (d := 311) rfl (by kernel_rfl) (show a'.eval (.tmp 311) = .bool false from hd.get 28 311 (by kernel_rfl) (by kernel_rfl)), by
        exact op1 (φ := (mpEq (.int .i64 b5)).p) ((show a'.eval (.tmp 320) = .pointer (some ⟨s, 4, none⟩) from hd.get 37 320 (by kernel_rfl) (by kernel_rfl))) (fun ρ e c => by simp [go_sem, e, keep hb s4]) rfl⟩) <|
          allOps_cons (fun a' w' hb hs hd => Or.inl ⟨wanted_t (j := 28) (d := 311) rfl (by kernel_rfl) (show a'.eval (.tmp 311) = .bool false from hd.get 28 311 (by kernel_rfl) (by kernel_rfl)), by
        exact op2 (φ := (mpEq (.int .i64 (b6 - b5))).p) ((show a'.eval (.tmp 316) = .int .i64 b6 from hd.get 33 316 (by kernel_rfl) (by kernel_rfl))) ((show a'.eval (.tmp 321) = .int .i64 b5 from hd.get 38 321 (by kernel_rfl) (by kernel_rfl))) (fun ρ e e' c => by simp [go_sem, e, e', sC]) rfl⟩) <|
          allOps_cons (fun a' w' hb hs hd => Or.inl ⟨wanted_t (j := 28) (d := 311) rfl (by kernel_rfl) (show a'.eval (.tmp 311) = .bool false from hd.get 28 311 (by kernel_rfl) (by kernel_rfl)), by
        exact op1 (φ := (mpEq (.pointer (some ⟨pa, 1, none⟩))).p) ((hs.get 7 (by kernel_rfl)).trans (show _ = Value.pointer (some ⟨pa, 0, none⟩) from rfl)) (fun ρ e c => by simp [go_sem, e]) rfl⟩) <|
          allOps_cons (fun a' w' hb hs hd => Or.inl ⟨wanted_t (j := 28) (d := 311) rfl (by kernel_rfl) (show a'.eval (.tmp 311) = .bool false from hd.get 28 311 (by kernel_rfl) (by kernel_rfl)), by
        exact op1 (φ := (mpEq (.int .i64 da)).p) ((show a'.eval (.tmp 323) = .pointer (some ⟨pa, 1, none⟩) from hd.get 40 323 (by kernel_rfl) (by kernel_rfl))) (fun ρ e c => by simp [go_sem, e, keep hb kd_]) rfl⟩) <|
          allOps_cons (fun a' w' hb hs hd => Or.inl ⟨wanted_t (j := 28) (d := 311) rfl (by kernel_rfl) (show a'.eval (.tmp 311) = .bool false from hd.get 28 311 (by kernel_rfl) (by kernel_rfl)), by
        exact op1 (φ := (mpEq (.int .i64 (2 * da))).p) ((show a'.eval (.tmp 324) = .int .i64 da from hd.get 41 324 (by kernel_rfl) (by kernel_rfl))) (fun ρ e c => by simp [go_sem, e, c, sD]) rfl⟩) <|
          allOps_cons (fun a' w' hb hs hd => Or.inl ⟨wanted_t (j := 28) (d := 311) rfl (by kernel_rfl) (show a'.eval (.tmp 311) = .bool false from hd.get 28 311 (by kernel_rfl) (by kernel_rfl)), by
        exact op1 (φ := (mpEq (.pointer (some ⟨pa, 1, none⟩))).p) ((hs.get 7 (by kernel_rfl)).trans (show _ = Value.pointer (some ⟨pa, 0, none⟩) from rfl)) (fun ρ e c => by simp [go_sem, e]) rfl⟩) <|
          allOps_cons (fun a' w' hb hs hd => Or.inl ⟨wanted_t (j := 28) (d := 311) rfl (by kernel_rfl) (show a'.eval (.tmp 311) = .bool false from hd.get 28 311 (by kernel_rfl) (by kernel_rfl)), by
        exact op1 (φ := (mpEq (.int .i64 da)).p) ((show a'.eval (.tmp 326) = .pointer (some ⟨pa, 1, none⟩) from hd.get 43 326 (by kernel_rfl) (by kernel_rfl))) (fun ρ e c => by simp [go_sem, e, keep hb kd_]) rfl⟩) <|
          allOps_cons (fun a' w' hb hs hd => Or.inl ⟨wanted_t (j := 28) (d := 311) rfl (by kernel_rfl) (show a'.eval (.tmp 311) = .bool false from hd.get 28 311 (by kernel_rfl) (by kernel_rfl)), by
        exact op1 (φ := (mpEq (.int .i64 (2 * da))).p) ((show a'.eval (.tmp 327) = .int .i64 da from hd.get 44 327 (by kernel_rfl) (by kernel_rfl))) (fun ρ e c => by simp [go_sem, e, c, sD]) rfl⟩) <|
          allOps_cons (fun a' w' hb hs hd => Or.inl ⟨wanted_t (j := 28) (d := 311) rfl (by kernel_rfl) (show a'.eval (.tmp 311) = .bool false from hd.get 28 311 (by kernel_rfl) (by kernel_rfl)), by
        exact op1 (φ := (mpEq (.int .i64 (2 * da + 1))).p) ((show a'.eval (.tmp 328) = .int .i64 (2 * da) from hd.get 45 328 (by kernel_rfl) (by kernel_rfl))) (fun ρ e c => by simp [go_sem, e, c, sE]) rfl⟩) <|
          allOps_cons (fun a' w' hb hs hd => Or.inl ⟨wanted_t (j := 28) (d := 311) rfl (by kernel_rfl) (show a'.eval (.tmp 311) = .bool false from hd.get 28 311 (by kernel_rfl) (by kernel_rfl)), by
        have e0 := (show a'.eval (.tmp 322) = .int .i64 (b6 - b5) from hd.get 39 322 (by kernel_rfl) (by kernel_rfl))
        have e1 := (show a'.eval (.tmp 325) = .int .i64 (2 * da) from hd.get 42 325 (by kernel_rfl) (by kernel_rfl))
        have e2 := (show a'.eval (.tmp 329) = .int .i64 (2 * da + 1) from hd.get 46 329 (by kernel_rfl) (by kernel_rfl))
        exact rg_fn (φ := (mpEq (.bool true)).p) (vs := #[.int .i64 (b6 - b5), .int .i64 (2 * da), .int .i64 (2 * da + 1)]) rfl (enters_of Try.func13 (by kernel_rfl) rfl) (by simp [e0, e1, e2]) (((show Calls Try.prog 13 #[.int .i64 (b6 - b5), .int .i64 (2 * da), .int .i64 (2 * da + 1)] w' fun e w1 => e = .returned (.bool true) ∧ Below w'.heap.size w' w1 from (bwithin_any _ _ _ w').mono (by rintro e ww ⟨rfl, rfl⟩; exact ⟨ret_bool hwi3, Below.refl _ _⟩))).mono (by rintro e w1 ⟨rfl, h1⟩; exact ⟨_, rfl, h1, rfl⟩))⟩) <|
          allOps_cons (fun a' w' hb hs hd => Or.inl ⟨wanted_t (j := 28) (d := 311) rfl (by kernel_rfl) (show a'.eval (.tmp 311) = .bool false from hd.get 28 311 (by kernel_rfl) (by kernel_rfl)), by
        exact op1 (φ := (mpEq (.bool false)).p) ((show a'.eval (.tmp 330) = .bool true from hd.get 47 330 (by kernel_rfl) (by kernel_rfl))) (fun ρ e c => by simp [go_sem, e]) rfl⟩) <|
          allOps_cons (fun a' w' hb hs hd => Or.inl ⟨wanted_n rfl, by
        exact op2 (φ := (mpEq (.bool false)).p) ((show a'.eval (.tmp 311) = .bool false from hd.get 28 311 (by kernel_rfl) (by kernel_rfl))) ((show a'.eval (.tmp 331) = .bool false from hd.get 48 331 (by kernel_rfl) (by kernel_rfl))) (fun ρ e e' c => by simp [go_sem, e, e', c]) rfl⟩) <| allOps_nil) (fun Q wy hb2 hall => ?_)
            have h8 : Q 332 = .bool false := hall.get 49 rfl
            clear hall
            simp only [me8, maskPut, Nat.reduceAdd]
            rw [h8]
            clear h8
            have HB2 := Lib.hid (thenB HBb.out hb2)
            clear hb2 sA sB sC sD sE
            go_wp2_with fail
            go_roundw
            case rel => exact ⟨3, by omega, by omega, by go_num, HB2.out⟩
            case measure => simp [intOf]
          · go_wp2_with fail
            go_ret
            exact ⟨rfl, thenB BV.out hb⟩
end Go.Proofs.Ytmhcmiajikffpaa
