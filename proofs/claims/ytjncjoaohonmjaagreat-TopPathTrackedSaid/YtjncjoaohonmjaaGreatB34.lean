/- Helpers: the law TopPathTracked, its main way. No condition but the hypotheses. -/
import Derived.Test.YtjncjoaohonmjaaGreatB32
import Derived.Test.YtjncjoaohonmjaaGreatB33
import Derived.Test.YtjncjoaohonmjaaGreatB02
import Derived.Test.YtjncjoaohonmjaaGreatB21
namespace Go.Proofs.YtjncjoaohonmjaaGreat
open Go.RowKit Go.Shelf Go.Sort
attribute [local go_sem] idx3_0 idx3_1 idx3_2 old1 fro1 old2 fro2 old3 fro3 old4 fro4 old5 fro5 old6 fro6 old7 fro7 old8 fro8 old9 fro9 old10 fro10 old11 fro11 old12 fro12
def mu0 : List Bool := [false, false, false, false, false, false, false, false, false, false, false, false, false, false, false, false, false, false, false, false, false, false, false, false, false, false, false, false, false, false, false, false, false, false, false, false, false, false, false, false, false, false, false, false, false, false, false, false, false, false, false, false, false, false, false, false, false, false, false, false, false, false, false, false, false, false, false, false, false, false, false, false, false, false, false, false, false, false, true, true, true, true, true, true, true, true, true, true, false, false, false, false, false, false, false, false, false, false, false, false, false, false, false, false, false, false, false, false, false, false, false, false, false, false, false, false, false, false, false, false, false, false, false, false, false, false, false, false, false, false, false, false, false, false, false, false, false, false, false, false, false, false, false, false, false, false, false, false, false, false, false, false, false, false, false, false, false, false, false, false, false, false, false, false, false, false, false, false, false, false, false, false, false, false, false, false, false, false, false, false, false, false, false, false, false, false, false, false, false, false, false, false, false, false, false, false, false, false, false, false, false, false, false, false, false, false, false, false, false, false, false, false, false, false, false, false, false, false, false, false, false, false, false, false, false, false, false, false, false, false, false, false, false, false, false, false, false, false, false, false, false, false, false, false, false, false, false, false, false, false, false, false, false, false, false, false, false, false, false, false, false, false, false, false, false, false, false, false, false, false, false, false, false, false, false, false]
def mu1 : List Bool := [false, false, false, false, false, false, false, false, false, true, true, false, false, false, false, false, false, false, false, false, false, false, false, false, false, false, false, false, false, false, false, false, false, false, false, false, false, false, false, false, false, false, false, false, false, false, false, false, false, false, false, false, false, false, false, false, false, false, false, false, false, false, false, false, false, false, false, false, false, false, false, false, false, false, false, false, false, false, false, false, false, false, false, false, false, false, false, false, true, true, true, true, true, true, true, true, true, true, true, false, false, false, false, false, false, false, false, false, false, false, false, false, false, false, false, false, false, false, false, false, false, false, false, false, false, false, false, false, false, false, false, false, false, false, false, false, false, false, false, false, false, false, false, false, false, false, false, false, false, false, false, false, false, false, false, false, false, false, false, false, false, false, false, false, false, false, false, false, false, false, false, false, false, false, false, false, false, false, false, false, false, false, false, false, false, false, false, false, false, false, false, false, false, false, false, false, false, false, false, false, false, false, false, false, false, false, false, false, false, false, false, false, false, false, false, false, false, false, false, false, false, false, false, false, false, false, false, false, false, false, false, false, false, false, false, false, false, false, false, false, false, false, false, false, false, false, false, false, false, false, false, false, false, false, false, false, false, false, false, false, false, false, false, false, false, false, false, false, false, false, false, false, false, false, false, false]
def mu2 : List Bool := [false, false, false, false, false, false, false, false, false, false, false, true, true, false, false, false, false, false, false, false, false, false, false, false, false, false, false, false, false, false, false, false, false, false, false, false, false, false, false, false, false, false, false, false, false, false, false, false, false, false, false, false, false, false, false, false, false, false, false, false, false, false, false, false, false, false, false, false, false, false, false, false, false, false, false, false, false, false, false, false, false, false, false, false, false, false, false, false, false, false, false, false, false, false, false, false, false, false, false, true, true, true, true, true, true, true, true, true, true, true, false, false, false, false, false, false, false, false, false, false, false, false, false, false, false, false, false, false, false, false, false, false, false, false, false, false, false, false, false, false, false, false, false, false, false, false, false, false, false, false, false, false, false, false, false, false, false, false, false, false, false, false, false, false, false, false, false, false, false, false, false, false, false, false, false, false, false, false, false, false, false, false, false, false, false, false, false, false, false, false, false, false, false, false, false, false, false, false, false, false, false, false, false, false, false, false, false, false, false, false, false, false, false, false, false, false, false, false, false, false, false, false, false, false, false, false, false, false, false, false, false, false, false, false, false, false, false, false, false, false, false, false, false, false, false, false, false, false, false, false, false, false, false, false, false, false, false, false, false, false, false, false, false, false, false, false, false, false, false, false, false, false, false, false, false, false]
def mu3 : List Bool := [false, false, false, false, false, false, false, false, false, false, false, false, false, false, false, false, false, false, false, false, false, false, false, false, false, false, false, false, false, false, false, false, false, false, false, false, false, false, false, false, false, false, false, false, false, false, false, false, false, false, false, false, false, false, false, false, false, false, false, false, false, false, false, false, false, false, false, false, false, false, false, false, false, false, false, false, false, false, false, false, false, false, false, false, false, false, false, false, false, false, false, false, false, false, false, false, false, false, false, false, false, false, false, false, false, false, false, false, false, false, true, true, true, true, true, true, true, true, true, true, true, true, true, true, true, true, true, true, true, true, true, true, true, true, true, true, true, true, false, false, false, false, false, false, false, false, false, false, false, false, false, false, false, false, false, false, false, false, false, false, false, false, false, false, false, false, false, false, false, false, false, false, false, false, false, false, false, false, false, false, false, false, false, false, false, false, false, false, false, false, false, false, false, false, false, false, false, false, false, false, false, false, false, false, false, false, false, false, false, false, false, false, false, false, false, false, false, false, false, false, false, false, false, false, false, false, false, false, false, false, false, false, false, false, false, false, false, false, false, false, false, false, false, false, false, false, false, false, false, false, false, false, false, false, false, false, false, false, false, false, false, false, false, false, false, false, false, false, false, false, false, false, false, false, false, false]
def mu4 : List Bool := [false, false, false, false, false, false, false, false, false, false, false, false, false, true, true, false, false, false, false, false, false, false, false, false, false, false, false, false, false, false, false, false, false, false, false, false, false, false, false, false, false, false, false, false, false, false, false, false, false, false, false, false, false, false, false, false, false, false, false, false, false, false, false, false, false, false, false, false, false, false, false, false, false, false, false, false, false, false, false, false, false, false, false, false, false, false, false, false, false, false, false, false, false, false, false, false, false, false, false, false, false, false, false, false, false, false, false, false, false, false, false, false, false, false, false, false, false, false, false, false, false, false, false, false, false, false, false, false, false, false, false, false, false, false, false, false, false, false, false, false, false, false, false, false, false, false, false, false, false, false, false, false, false, false, false, false, true, true, true, true, true, true, true, true, true, true, false, false, false, false, false, false, false, false, false, false, false, false, false, false, false, false, false, false, false, false, false, false, false, false, false, false, false, false, false, false, false, false, false, false, false, false, false, false, false, false, false, false, false, false, false, false, false, false, false, false, false, false, false, false, false, false, false, false, false, false, false, false, false, false, false, false, false, false, false, false, false, false, false, false, false, false, false, false, false, false, false, false, false, false, false, false, false, false, false, false, false, false, false, false, false, false, false, false, false, false, false, false, false, false, false, false, false, false, false, false]
def mu5 : List Bool := [false, false, false, false, false, false, false, false, false, false, false, false, false, false, false, true, true, true, false, false, false, false, false, false, false, false, false, false, false, false, false, false, false, false, false, false, false, false, false, false, false, false, false, false, false, false, false, false, false, false, false, false, false, false, false, false, false, false, false, false, false, false, false, false, false, false, false, false, false, false, false, false, false, false, false, false, false, false, false, false, false, false, false, false, false, false, false, false, false, false, false, false, false, false, false, false, false, false, false, false, false, false, false, false, false, false, false, false, false, false, false, false, false, false, false, false, false, false, false, false, false, false, false, false, false, false, false, false, false, false, false, false, false, false, false, false, false, false, false, false, false, false, false, false, false, false, false, false, false, false, false, false, false, false, false, false, false, false, false, false, false, false, false, false, false, false, false, false, false, false, false, false, false, false, false, false, false, false, false, false, false, false, false, false, false, false, false, false, false, false, false, false, false, false, true, true, true, true, true, true, true, true, false, false, false, false, false, false, false, false, false, false, false, false, false, false, false, false, false, false, false, false, false, false, false, false, false, false, false, false, false, false, false, false, false, false, false, false, false, false, false, false, false, false, false, false, false, false, false, false, false, false, false, false, false, false, false, false, false, false, false, false, false, false, false, false, false, false, false, false, false, false, false, false, false, false]
def mu6 : List Bool := [false, false, false, false, false, false, false, false, false, false, false, false, false, false, false, false, false, false, true, true, false, false, false, false, false, false, false, false, false, false, false, false, false, false, false, false, false, false, false, false, false, false, false, false, false, false, false, false, false, false, false, false, false, false, false, false, false, false, false, false, false, false, false, false, false, false, false, false, false, false, false, false, false, false, false, false, false, false, false, false, false, false, false, false, false, false, false, false, false, false, false, false, false, false, false, false, false, false, false, false, false, false, false, false, false, false, false, false, false, false, false, false, false, false, false, false, false, false, false, false, false, false, false, false, false, false, false, false, false, false, false, false, false, false, false, false, false, false, false, false, false, false, false, false, false, false, false, false, false, false, false, false, false, false, false, false, false, false, false, false, false, false, false, false, false, false, false, false, false, false, false, false, false, false, false, false, false, false, false, false, false, false, false, false, false, false, false, false, false, false, false, false, false, false, false, false, false, false, false, false, false, false, true, true, true, true, true, true, true, false, false, false, false, false, false, false, false, false, false, false, false, false, false, false, false, false, false, false, false, false, false, false, false, false, false, false, false, false, false, false, false, false, false, false, false, false, false, false, false, false, false, false, false, false, false, false, false, false, false, false, false, false, false, false, false, false, false, false, false, false, false, false, false, false, false, false]
def mu7 : List Bool := [false, false, false, false, false, false, false, false, false, false, false, false, false, false, false, false, false, false, false, false, true, true, false, false, false, false, false, false, false, false, false, false, false, false, false, false, false, false, false, false, false, false, false, false, false, false, false, false, false, false, false, false, false, false, false, false, false, false, false, false, false, false, false, false, false, false, false, false, false, false, false, false, false, false, false, false, false, false, false, false, false, false, false, false, false, false, false, false, false, false, false, false, false, false, false, false, false, false, false, false, false, false, false, false, false, false, false, false, false, false, false, false, false, false, false, false, false, false, false, false, false, false, false, false, false, false, false, false, false, false, false, false, false, false, false, false, false, false, false, false, false, false, false, false, false, false, false, false, false, false, false, false, false, false, false, false, false, false, false, false, false, false, false, false, false, false, false, false, false, false, false, false, false, false, false, false, false, false, false, false, false, false, false, false, false, false, false, false, false, false, false, false, false, false, false, false, false, false, false, false, false, false, false, false, false, false, false, false, false, false, false, false, false, false, false, false, false, false, false, false, false, false, false, false, false, false, false, true, true, true, true, true, true, true, true, true, false, false, false, false, false, false, false, false, false, false, false, false, false, false, false, false, false, false, false, false, false, false, false, false, false, false, false, false, false, false, false, false, false, false, false, false, false, false, false, false]
/-- a new box, in a block from B on -/
def mpNew6 (B : Nat) : MP := ⟨fun v w => ∃ q, v = .pointer (some ⟨q, 0, none⟩) ∧ B ≤ q ∧ w.cell? ⟨q, 0, none⟩ = some (.int .i64 0) ∧ w.cell? ⟨q, 1, none⟩ = some (.int .i64 0) ∧ w.cell? ⟨q, 2, none⟩ = some (.int .i64 0) ∧ w.cell? ⟨q, 3, none⟩ = some (.int .i64 0) ∧ w.cell? ⟨q, 4, none⟩ = some (.int .i64 0) ∧ w.cell? ⟨q, 5, none⟩ = some (.int .i64 0) ∧ w.frozen? ⟨q, 0, none⟩ = false ∧ w.frozen? ⟨q, 1, none⟩ = false ∧ w.frozen? ⟨q, 2, none⟩ = false ∧ w.frozen? ⟨q, 3, none⟩ = false ∧ w.frozen? ⟨q, 4, none⟩ = false ∧ w.frozen? ⟨q, 5, none⟩ = false,
  fun _ _ _ ⟨q, hv, hB, h0, h1, h2, h3, h4, h5, f0, f1, f2, f3, f4, f5⟩ hb => ⟨q, hv, hB, keep hb h0, keep hb h1, keep hb h2, keep hb h3, keep hb h4, keep hb h5, (hb.frozen (p := ⟨q, 0, none⟩) (lt_of h0)).trans f0, (hb.frozen (p := ⟨q, 1, none⟩) (lt_of h1)).trans f1, (hb.frozen (p := ⟨q, 2, none⟩) (lt_of h2)).trans f2, (hb.frozen (p := ⟨q, 3, none⟩) (lt_of h3)).trans f3, (hb.frozen (p := ⟨q, 4, none⟩) (lt_of h4)).trans f4, (hb.frozen (p := ⟨q, 5, none⟩) (lt_of h5)).trans f5⟩⟩
/-- a box in a block from B on -/
def mpVar6 (B : Nat) (x0 x1 x2 x3 x4 x5 : Int) : MP := ⟨fun v w => ∃ q, v = .pointer (some ⟨q, 0, none⟩) ∧ B ≤ q ∧ w.cell? ⟨q, 0, none⟩ = some (.int .i64 x0) ∧ w.cell? ⟨q, 1, none⟩ = some (.int .i64 x1) ∧ w.cell? ⟨q, 2, none⟩ = some (.int .i64 x2) ∧ w.cell? ⟨q, 3, none⟩ = some (.int .i64 x3) ∧ w.cell? ⟨q, 4, none⟩ = some (.int .i64 x4) ∧ w.cell? ⟨q, 5, none⟩ = some (.int .i64 x5) ∧ w.frozen? ⟨q, 0, none⟩ = false ∧ w.frozen? ⟨q, 1, none⟩ = false ∧ w.frozen? ⟨q, 2, none⟩ = false ∧ w.frozen? ⟨q, 3, none⟩ = false ∧ w.frozen? ⟨q, 4, none⟩ = false ∧ w.frozen? ⟨q, 5, none⟩ = false,
  fun _ _ _ ⟨q, hv, hB, h0, h1, h2, h3, h4, h5, f0, f1, f2, f3, f4, f5⟩ hb => ⟨q, hv, hB, keep hb h0, keep hb h1, keep hb h2, keep hb h3, keep hb h4, keep hb h5, (hb.frozen (p := ⟨q, 0, none⟩) (lt_of h0)).trans f0, (hb.frozen (p := ⟨q, 1, none⟩) (lt_of h1)).trans f1, (hb.frozen (p := ⟨q, 2, none⟩) (lt_of h2)).trans f2, (hb.frozen (p := ⟨q, 3, none⟩) (lt_of h3)).trans f3, (hb.frozen (p := ⟨q, 4, none⟩) (lt_of h4)).trans f4, (hb.frozen (p := ⟨q, 5, none⟩) (lt_of h5)).trans f5⟩⟩
def mpV2 (ux uy uz : Int) (n : Nat) (k : Nat → Cone) (na : Nat) (ka : Nat → Knot) (da : Int) (nb : Nat) (kb : Nat → Knot) (db : Int) : MP :=
  ⟨fun v w => ∃ X cX Y cY Z cZ, v = .agg #[.int .i64 ux, .int .i64 uy, .int .i64 uz, .slice X n cX, .slice Y na cY, .int .i64 da, .slice Z nb cZ, .int .i64 db] ∧ KC w X n k ∧ KA w Y na ka ∧ KA w Z nb kb, fun _ _ _ ⟨X, cX, Y, cY, Z, cZ, hv, h1, h2, h3⟩ hb => ⟨X, cX, Y, cY, Z, cZ, hv, h1.bel hb, h2.bel hb, h3.bel hb⟩⟩
def mpI2 (n : Nat) (xs : Nat → Int) : MP := ⟨fun v w => ∃ A c, v = .slice A n c ∧ IA w A n xs, fun _ _ _ ⟨A, c, hv, h⟩ hb => ⟨A, c, hv, h.below hb⟩⟩
def mpT2 (m : Nat) (ys : Nat → Int) (T F : Int) : MP := ⟨fun v w => ∃ A c, v = .tuple #[.slice A m c, .int .i64 T, .int .i64 F] ∧ IA w A m ys ∧ (A = none → m = 0 ∧ c = 0), fun _ _ _ ⟨A, c, hv, h, h0⟩ hb => ⟨A, c, hv, h.below hb, h0⟩⟩
def mpI3 (n : Nat) (xs : Nat → Int) : MP := ⟨fun v w => ∃ A c, v = .slice A n c ∧ IA w A n xs ∧ (A = none → n = 0 ∧ c = 0), fun _ _ _ ⟨A, c, hv, h, h0⟩ hb => ⟨A, c, hv, h.below hb, h0⟩⟩
theorem row_open {w : World} {base n : Nat} {v : Value} {xs : Nat → Int} (h : w.ownsRow base 3 1 v n (intsV n xs)) : ∃ T c, v = .slice T n c ∧ IA w T n xs ∧ (T = none → n = 0 ∧ c = 0) := by
  obtain ⟨e1, e2⟩ := own_intsV h
  refine ⟨sA v, sC v, e1, e2, fun hz => ?_⟩
  rcases h.2 with ⟨rfl, hn0⟩ | ⟨g, cap, cur, rfl, _⟩
  · exact ⟨hn0, rfl⟩
  · cases hz
set_option maxRecDepth 100000 in
set_option maxHeartbeats 8000000 in
theorem tt_main (ux uy uz : Int) (C SA SB TA : Option Addr) (n c na ca nb cb tn tc : Nat) (da db t lo hi st ra : Int) (k : Nat → Cone) (ka kb : Nat → Knot) (ts : Nat → Int) (w : World) (hC : KC w C n k) (hA : KA w SA na ka) (hB : KA w SB nb kb) (hT : IA w TA tn ts) (hF1 : ∀ W, Calls Tryz.prog 5 #[.agg #[.slice SA na ca, .int .i64 da]] W fun e w' => e = .returned (.bool true) ∧ Below W.heap.size W w') (hF2 : ∀ W, Calls Tryz.prog 5 #[.agg #[.slice SB nb cb, .int .i64 db]] W fun e w' => e = .returned (.bool true) ∧ Below W.heap.size W w') (h4 : decide ((4 : Int) < (n : Int)) = false) (hVE : ∀ W, KC W C n k → KA W SA na ka → KA W SB nb kb → Calls Tryz.prog 6 #[.agg #[.int .i64 ux, .int .i64 uy, .int .i64 uz, .slice C n c, .slice SA na ca, .int .i64 da, .slice SB nb cb, .int .i64 db]] W fun e w' => e = .returned (.int .i64 0) ∧ Below W.heap.size W w') (h12 : decide ((12 : Int) < (tn : Int)) = false) (hDE : ∀ W, Calls Tryz.prog 7 #[.agg #[.int .i64 t, .int .i64 lo, .int .i64 hi, .int .i64 st, .int .i64 ra]] W fun e w' => e = .returned (.int .i64 0) ∧ Below W.heap.size W w') (ht4 : (t != 4) = false) {hl : Int} (hL : IntKind.i64.wrap (hi - lo) = hl) (h40 : decide (40 < hl) = false) (hA0 : SA = none → na = 0 ∧ ca = 0) (hB0 : SB = none → nb = 0 ∧ cb = 0) (hna : na ≤ 14) (hnb : nb ≤ 14) {E f : Nat → Int} {P Q_ : Nat → Nat → Int} (_ : Nat → Int) (hTE : ∀ j : Nat, j < tn → ∀ W, KA W SA na ka → KA W SB nb kb → Calls Tryz.prog 8 #[.agg #[.slice SA na ca, .int .i64 da], .agg #[.slice SB nb cb, .int .i64 db], .int .i64 (ts j)] W fun e w' => e = .returned (.int .i64 (E j)) ∧ Below W.heap.size W w') (hBA : ∀ j : Nat, j < tn → E j = 0 → ∀ W Y cY, KA W Y na ka → Calls Tryz.prog 9 #[.agg #[.slice Y na cY, .int .i64 da], .int .i64 (ts j)] W fun e w' => e = .returned (.tuple #[.agg #[.int .i64 (P j 0), .int .i64 (P j 1), .int .i64 (P j 2), .int .i64 (P j 3), .int .i64 (P j 4), .int .i64 (P j 5)], .int .i64 0]) ∧ Below W.heap.size W w') (hBB : ∀ j : Nat, j < tn → E j = 0 → ∀ W Y cY, KA W Y nb kb → Calls Tryz.prog 9 #[.agg #[.slice Y nb cY, .int .i64 db], .int .i64 (ts j)] W fun e w' => e = .returned (.tuple #[.agg #[.int .i64 (Q_ j 0), .int .i64 (Q_ j 1), .int .i64 (Q_ j 2), .int .i64 (Q_ j 3), .int .i64 (Q_ j 4), .int .i64 (Q_ j 5)], .int .i64 0]) ∧ Below W.heap.size W w') (hRA : ∀ j : Nat, j < tn → E j = 0 → ∀ W, KA W SA na ka → Calls Tryz.prog 11 #[.agg #[.slice SA na ca, .int .i64 da], .int .i64 (ts j)] W fun e w' => e = .returned (.agg #[.int .i64 (P j 0), .int .i64 (P j 1), .int .i64 (P j 2), .int .i64 (P j 3), .int .i64 (P j 4), .int .i64 (P j 5)]) ∧ Below W.heap.size W w') (hRB : ∀ j : Nat, j < tn → E j = 0 → ∀ W, KA W SB nb kb → Calls Tryz.prog 11 #[.agg #[.slice SB nb cb, .int .i64 db], .int .i64 (ts j)] W fun e w' => e = .returned (.agg #[.int .i64 (Q_ j 0), .int .i64 (Q_ j 1), .int .i64 (Q_ j 2), .int .i64 (Q_ j 3), .int .i64 (Q_ j 4), .int .i64 (Q_ j 5)]) ∧ Below W.heap.size W w') (hwx : ∀ j : Nat, j < tn → E j = 0 → IntKind.i64.wrap (Q_ j 0 - P j 0) = Q_ j 0 - P j 0) (hwy : ∀ j : Nat, j < tn → E j = 0 → IntKind.i64.wrap (Q_ j 2 - P j 2) = Q_ j 2 - P j 2) (hQU : ∀ j : Nat, j < tn → E j = 0 → ∀ W, Calls Tryz.prog 12 #[.int .i64 (Q_ j 0 - P j 0), .int .i64 (Q_ j 2 - P j 2)] W fun e w' => e = .returned (.int .i64 (f j)) ∧ Below W.heap.size W w') {yy : Nat → Int} (hVI : ∀ j : Nat, j < tn → E j = 0 → ∀ W X cX Y cY Z cZ, KC W X n k → KA W Y na ka → KA W Z nb kb → Calls Tryz.prog 13 #[.agg #[.int .i64 ux, .int .i64 uy, .int .i64 uz, .slice X n cX, .slice Y na cY, .int .i64 da, .slice Z nb cZ, .int .i64 db], .int .i64 (ts j)] W fun e w' => e = .returned (.tuple #[.int .i64 (yy j), .int .i64 0]) ∧ Below W.heap.size W w') (hY : ∀ j : Nat, j < tn → E j = 0 → yy j = 0 ∨ yy j = 1 ∨ yy j = 2) (hPR : ∀ j : Nat, j < tn → E j = 0 → yy j = 2 → ∃ plo phi : Int, 0 ≤ phi ∧ ∀ W, Calls Tryz.prog 15 #[.agg #[.int .i64 ux, .int .i64 uy, .int .i64 uz], .agg #[.int .i64 (P j 0), .int .i64 (P j 1), .int .i64 (P j 2), .int .i64 (P j 3), .int .i64 (P j 4), .int .i64 (P j 5)], .agg #[.int .i64 (Q_ j 0), .int .i64 (Q_ j 1), .int .i64 (Q_ j 2), .int .i64 (Q_ j 3), .int .i64 (Q_ j 4), .int .i64 (Q_ j 5)]] W fun e w' => e = .returned (.agg #[.int .i64 plo, .int .i64 phi]) ∧ Below W.heap.size W w') {m : Nat} {ys : Nat → Int} {T F rr G : Int} (hFG : (F = 12 ∧ (G = 12 ∨ G = 0 ∧ ra < rr)) ∨ (F = 0 ∧ G = 0 ∧ rr ≤ ra ∧ tn = m ∧ (∀ i, i < tn → ys i % 4 = f i) ∧ (∀ i, i < tn → -1000000000 ≤ ys i ∧ ys i ≤ 1000000000))) (hCP : F = 0 → ∀ W A1 c1 A2 c2, IA W A1 tn f → IA W A2 tn ys → Calls Tryz.prog 19 #[.agg #[.int .i64 t, .int .i64 lo, .int .i64 hi, .int .i64 st, .int .i64 ra], .slice A1 tn c1, .slice A2 tn c2] W fun e w' => e = .returned (.tuple #[.int .i64 T, .int .i64 0]) ∧ Below W.heap.size W w') (hPT : (∀ i, i < tn → E i = 0) → ∀ W A' c', IA W A' tn f → Calls Tryz.prog 16 #[.agg #[.int .i64 t, .int .i64 lo, .int .i64 hi, .int .i64 st, .int .i64 ra], .slice A' tn c'] W fun e w' => ∃ A2 c2, e = .returned (.tuple #[.slice A2 m c2, .int .i64 T, .int .i64 F]) ∧ IA w' A2 m ys ∧ (A2 = none → m = 0 ∧ c2 = 0) ∧ Below W.heap.size W w') (hMR : (∀ i, i < tn → E i = 0) → ∀ W A' c', IA W A' tn f → Calls Tryz.prog 18 #[.agg #[.int .i64 t, .int .i64 lo, .int .i64 hi, .int .i64 st, .int .i64 ra], .slice A' tn c'] W fun e w' => e = .returned (.tuple #[.int .i64 rr, .int .i64 G]) ∧ Below W.heap.size W w') (hCX : ∀ W, KC W C n k → KA W SA na ka → KA W SB nb kb → Calls Tryz.prog 14 #[.agg #[.int .i64 ux, .int .i64 uy, .int .i64 uz, .slice C n c, .slice SA na ca, .int .i64 da, .slice SB nb cb, .int .i64 db]] W fun e w' => ∃ X cX Y cY Z cZ, e = .returned (.agg #[.int .i64 ux, .int .i64 uy, .int .i64 uz, .slice X n cX, .slice Y na cY, .int .i64 da, .slice Z nb cZ, .int .i64 db]) ∧ KC w' X n k ∧ (0 < n → ∃ g, X = some ⟨g, 0, none⟩ ∧ n ≤ cX) ∧ KA w' Y na ka ∧ KA w' Z nb kb ∧ Below W.heap.size W w') :
    Calls Tryz.prog 3 #[.agg #[.int .i64 ux, .int .i64 uy, .int .i64 uz, .slice C n c, .slice SA na ca, .int .i64 da, .slice SB nb cb, .int .i64 db], .agg #[.int .i64 t, .int .i64 lo, .int .i64 hi, .int .i64 st, .int .i64 ra], .slice TA tn tc] w fun e w' => e = .returned (.bool true) ∧ Below w.heap.size w w' := by
  have h4n : decide (4 < n) = false := by rw [← h4]; exact decide_eq_decide.2 (by omega)
  have h12n : decide (12 < tn) = false := by rw [← h12]; exact decide_eq_decide.2 (by omega)
  have ht4e : (t == 4) = true := by revert ht4; cases h : (t == 4) <;> simp [bne, h]
  have HC := Lib.hid hC
  have HA := Lib.hid hA
  have HB := Lib.hid hB
  have HT := Lib.hid hT
  have HF1 := Lib.hid hF1
  have HF2 := Lib.hid hF2
  have HVE := Lib.hid hVE
  have HDE := Lib.hid hDE
  clear hC hA hB hT hF1 hF2 hVE hDE
  have HTE0 := Lib.hid hTE
  have HBA0 := Lib.hid hBA
  have HBB0 := Lib.hid hBB
  have HRA0 := Lib.hid hRA
  have HRB0 := Lib.hid hRB
  have HQU0 := Lib.hid hQU
  have HVI0 := Lib.hid hVI
  have HPR0 := Lib.hid hPR
  have HPT0 := Lib.hid hPT
  have HMR0 := Lib.hid hMR
  have HCP0 := Lib.hid hCP
  have HCX := Lib.hid hCX
  have HA0 := Lib.hid hA0
  have HB0 := Lib.hid hB0
  clear hA0 hB0 hTE hBA hBB hRA hRB hQU hVI hPR hPT hMR hCP hCX
  obtain ⟨k0, kk0, kz0, kz1, kz2⟩ := info_parts infoInt
  have htn : tn ≤ 12 := by simpa using h12n
  go_enter Tryz.func3, Tryz.ntmps3
  go_wp2_with (first
    | (go_at_call 4; (with_reducible refine Calls.mono (pathAwake_any _) ?_); rintro e w1 ⟨rfl, hb1⟩; have BV := Lib.hid (belowT (show Below w.heap.size w _ by (repeat (first | with_reducible exact Below.refl _ _ | with_reducible assumption | with_reducible refine Below.alloc ?_ (by first | (simp; done) | (simp; omega) | omega) _ | with_reducible refine Below.setCell ?_ (by first | (simp; done) | (simp; omega) | omega) _ | with_reducible refine Below.drew ?_ | with_reducible refine below_drewN ?_ _))) hb1); have l0 := keep hb1 (b := w.heap.size) (o := 0) (v := .int .i64 ux) (by simp [go_sem]); have l1 := keep hb1 (b := w.heap.size) (o := 1) (v := .int .i64 uy) (by simp [go_sem]); have l2 := keep hb1 (b := w.heap.size) (o := 2) (v := .int .i64 uz) (by simp [go_sem]); have l3 := keep hb1 (b := w.heap.size) (o := 3) (v := .slice C n c) (by simp [go_sem]); have l4 := keep hb1 (b := w.heap.size) (o := 4) (v := .slice SA na ca) (by simp [go_sem]); have l5 := keep hb1 (b := w.heap.size) (o := 5) (v := .int .i64 da) (by simp [go_sem]); have l6 := keep hb1 (b := w.heap.size) (o := 6) (v := .slice SB nb cb) (by simp [go_sem]); have l7 := keep hb1 (b := w.heap.size) (o := 7) (v := .int .i64 db) (by simp [go_sem]); have m0 := keep hb1 (b := w.heap.size + 1) (o := 0) (v := .int .i64 t) (by simp [go_sem]); have m1 := keep hb1 (b := w.heap.size + 1) (o := 1) (v := .int .i64 lo) (by simp [go_sem]); have m2 := keep hb1 (b := w.heap.size + 1) (o := 2) (v := .int .i64 hi) (by simp [go_sem]); have m3 := keep hb1 (b := w.heap.size + 1) (o := 3) (v := .int .i64 st) (by simp [go_sem]); have m4 := keep hb1 (b := w.heap.size + 1) (o := 4) (v := .int .i64 ra) (by simp [go_sem]); replace HC := Lib.hid (HC.out.bel BV.out); replace HA := Lib.hid (HA.out.bel BV.out); replace HB := Lib.hid (HB.out.bel BV.out); replace HT := Lib.hid (HT.out.bel BV.out); have hsw := (show w.heap.size + 2 ≤ w1.heap.size by have := hb1.size; simp at this; omega); clear hb1)
    | (go_at_call 5; (with_reducible refine Calls.mono (HF1.out _) ?_); rintro e w2 ⟨rfl, hb2⟩; replace l0 := keep hb2 l0; replace l1 := keep hb2 l1; replace l2 := keep hb2 l2; replace l3 := keep hb2 l3; replace l4 := keep hb2 l4; replace l5 := keep hb2 l5; replace l6 := keep hb2 l6; replace l7 := keep hb2 l7; replace m0 := keep hb2 m0; replace m1 := keep hb2 m1; replace m2 := keep hb2 m2; replace m3 := keep hb2 m3; replace m4 := keep hb2 m4; replace HC := Lib.hid (HC.out.bel hb2); replace HA := Lib.hid (HA.out.bel hb2); replace HB := Lib.hid (HB.out.bel hb2); replace HT := Lib.hid (HT.out.bel hb2); replace BV := Lib.hid (belowT BV.out hb2); clear hb2)
    | (go_at_call 5; (with_reducible refine Calls.mono (HF2.out _) ?_); rintro e w3 ⟨rfl, hb3⟩; replace l0 := keep hb3 l0; replace l1 := keep hb3 l1; replace l2 := keep hb3 l2; replace l3 := keep hb3 l3; replace l4 := keep hb3 l4; replace l5 := keep hb3 l5; replace l6 := keep hb3 l6; replace l7 := keep hb3 l7; replace m0 := keep hb3 m0; replace m1 := keep hb3 m1; replace m2 := keep hb3 m2; replace m3 := keep hb3 m3; replace m4 := keep hb3 m4; replace HC := Lib.hid (HC.out.bel hb3); replace HA := Lib.hid (HA.out.bel hb3); replace HB := Lib.hid (HB.out.bel hb3); replace HT := Lib.hid (HT.out.bel hb3); replace BV := Lib.hid (belowT BV.out hb3); clear hb3)
    | (go_at_call 6; (with_reducible refine Calls.mono (HVE.out _ HC.out HA.out HB.out) ?_); rintro e w4 ⟨rfl, hb4⟩; replace l0 := keep hb4 l0; replace l1 := keep hb4 l1; replace l2 := keep hb4 l2; replace l3 := keep hb4 l3; replace l4 := keep hb4 l4; replace l5 := keep hb4 l5; replace l6 := keep hb4 l6; replace l7 := keep hb4 l7; replace m0 := keep hb4 m0; replace m1 := keep hb4 m1; replace m2 := keep hb4 m2; replace m3 := keep hb4 m3; replace m4 := keep hb4 m4; replace HC := Lib.hid (HC.out.bel hb4); replace HA := Lib.hid (HA.out.bel hb4); replace HB := Lib.hid (HB.out.bel hb4); replace HT := Lib.hid (HT.out.bel hb4); replace BV := Lib.hid (belowT BV.out hb4); clear hb4)
    | (go_at_call 7; (with_reducible refine Calls.mono (HDE.out _) ?_); rintro e w5 ⟨rfl, hb5⟩; replace l0 := keep hb5 l0; replace l1 := keep hb5 l1; replace l2 := keep hb5 l2; replace l3 := keep hb5 l3; replace l4 := keep hb5 l4; replace l5 := keep hb5 l5; replace l6 := keep hb5 l6; replace l7 := keep hb5 l7; replace m0 := keep hb5 m0; replace m1 := keep hb5 m1; replace m2 := keep hb5 m2; replace m3 := keep hb5 m3; replace m4 := keep hb5 m4; replace HC := Lib.hid (HC.out.bel hb5); replace HA := Lib.hid (HA.out.bel hb5); replace HB := Lib.hid (HB.out.bel hb5); replace HT := Lib.hid (HT.out.bel hb5); replace BV := Lib.hid (belowT BV.out hb5); clear hb5)
    | fail)
  have HL5 : Hid ((w5.cell? ⟨w.heap.size, 0, none⟩ = some (.int .i64 ux) ∧ w5.cell? ⟨w.heap.size, 1, none⟩ = some (.int .i64 uy) ∧ w5.cell? ⟨w.heap.size, 2, none⟩ = some (.int .i64 uz) ∧ w5.cell? ⟨w.heap.size, 3, none⟩ = some (.slice C n c) ∧ w5.cell? ⟨w.heap.size, 4, none⟩ = some (.slice SA na ca) ∧ w5.cell? ⟨w.heap.size, 5, none⟩ = some (.int .i64 da) ∧ w5.cell? ⟨w.heap.size, 6, none⟩ = some (.slice SB nb cb) ∧ w5.cell? ⟨w.heap.size, 7, none⟩ = some (.int .i64 db) ∧ w5.cell? ⟨w.heap.size + 1, 0, none⟩ = some (.int .i64 t) ∧ w5.cell? ⟨w.heap.size + 1, 1, none⟩ = some (.int .i64 lo) ∧ w5.cell? ⟨w.heap.size + 1, 2, none⟩ = some (.int .i64 hi) ∧ w5.cell? ⟨w.heap.size + 1, 3, none⟩ = some (.int .i64 st) ∧ w5.cell? ⟨w.heap.size + 1, 4, none⟩ = some (.int .i64 ra)) ∧ KC w5 C n k ∧ KA w5 SA na ka ∧ KA w5 SB nb kb ∧ ∀ tb tq, TA = some ⟨tb, tq, none⟩ → ∀ j, j < tn → w5.cell? ⟨tb, tq + j, none⟩ = some (.int .i64 (ts j))) := ⟨⟨l0, l1, l2, l3, l4, l5, l6, l7, m0, m1, m2, m3, m4⟩, HC.out, HA.out, HB.out, fun tb tq e j hj => by
    obtain ⟨b, o, e2, h⟩ := HT.out (by omega)
    rw [e] at e2
    cases e2
    exact h j hj⟩
  clear l0 l1 l2 l3 l4 l5 l6 l7 m0 m1 m2 m3 m4 HC HA HB
  go_loopw [7, 8] (fun s7 s8 wr => ∃ j : Nat, j ≤ tn ∧ s8 = .int .i64 j ∧ Hid (wr.ownsRow w5.heap.size 3 1 s7 j (intsV j f)) ∧ Below w5.heap.size w5 wr ∧ Hid (∀ i, i < j → E i = 0)) (fun _ i _ => tn - (intOf i).toNat)
  case atStart => exact ⟨0, Nat.zero_le _, rfl, World.ownsRow_nil _ _ _ _, Below.refl _ _, fun i hi => absurd hi (Nat.not_lt_zero _)⟩
  case round =>
    obtain ⟨j, hj, rfl, HR, hbx, HE⟩ := hrel
    have B5 := Lib.hid hbx
    obtain ⟨⟨l0, l1, l2, l3, l4, l5, l6, l7, m0, m1, m2, m3, m4⟩, hC5, hA5, hB5, hct0⟩ := HL5.out
    replace l0 := keep hbx l0
    replace l1 := keep hbx l1
    replace l2 := keep hbx l2
    replace l3 := keep hbx l3
    replace l4 := keep hbx l4
    replace l5 := keep hbx l5
    replace l6 := keep hbx l6
    replace l7 := keep hbx l7
    replace m0 := keep hbx m0
    replace m1 := keep hbx m1
    replace m2 := keep hbx m2
    replace m3 := keep hbx m3
    replace m4 := keep hbx m4
    have HC := Lib.hid (hC5.bel hbx)
    have HA := Lib.hid (hA5.bel hbx)
    have HB := Lib.hid (hB5.bel hbx)
    clear hC5 hA5 hB5
    have hq0 : ∀ q, u7.ownBlock = some q → q < wr.heap.size := fun q hq => (HR.out.lt q hq).2
    by_cases hlt : j < tn
    · obtain ⟨tb, tq, rfl, _⟩ := HT.out (by omega)
      have hct := keep hbx (hct0 tb tq rfl j hlt)
      clear hct0 hbx
      have p1 : (0 : Int) ≤ (j : Int) := by omega
      have p2 : (j : Int) < (tn : Int) := by omega
      by_cases he : E j = 0
      · have HTE := Lib.hid (HTE0.out j hlt)
        rw [he] at HTE
        have HBA := Lib.hid (HBA0.out j hlt he)
        have HBB := Lib.hid (HBB0.out j hlt he)
        have HRA := Lib.hid (HRA0.out j hlt he)
        have HRB := Lib.hid (HRB0.out j hlt he)
        have HQU := Lib.hid (HQU0.out j hlt he)
        have wx := hwx j hlt he
        have wy := hwy j hlt he
        have HO1 : Hid (intsV (j + 1) f = intsV j f ++ [.int .i64 (f j)]) := intsV_s _ _
        go_wp2_with fail
        refine wp_region_mp [mpEq (.pointer (some ⟨w.heap.size, 4, none⟩)), mpEq (.agg #[.slice SA na ca, .int .i64 da]), mpEq (.pointer (some ⟨w.heap.size, 6, none⟩)), mpEq (.agg #[.slice SB nb cb, .int .i64 db]), mpEq (Value.slice (some ⟨tb, tq, none⟩) tn tc), mpEq (Value.int .i64 ↑j), mpEq (.pointer (some ⟨tb, tq + j, none⟩)), mpEq (.int .i64 (ts j)), mpEq (.int .i64 0), mpEq (.bool false)] mu0 (by kernel_rfl) (by kernel_rfl) (by kernel_rfl) (
            allOps_cons (fun a' w' hb hs hd => rg_op fun K hK => by
          have e1 := (hs.get 3 (by kernel_rfl)).trans (show _ = Value.pointer (some ⟨w.heap.size, 0, none⟩) from rfl)
          clear hs hd
          unfold Oper.wp
          generalize a'.eval = ρ at e1 ⊢
          simp [go_sem, e1]
          exact hK _ _ (Below.refl _ _) rfl) <|
            allOps_cons (fun a' w' hb hs hd => rg_op fun K hK => by
          have e0 := (show a'.eval (.tmp 78) = .pointer (some ⟨w.heap.size, 4, none⟩) from hd.get 0 78 (by kernel_rfl) (by kernel_rfl))
          have ec : ∀ v, a'.eval (.const v) = v := fun _ => rfl
          have c0 := keep hb l4
          have c1 := keep hb l5
          clear hs hd
          unfold Oper.wp
          generalize a'.eval = ρ at e0 ec ⊢
          simp [go_sem, e0, c0, c1]
          exact hK _ _ (Below.refl _ _) rfl) <|
            allOps_cons (fun a' w' hb hs hd => rg_op fun K hK => by
          have e1 := (hs.get 3 (by kernel_rfl)).trans (show _ = Value.pointer (some ⟨w.heap.size, 0, none⟩) from rfl)
          clear hs hd
          unfold Oper.wp
          generalize a'.eval = ρ at e1 ⊢
          simp [go_sem, e1]
          exact hK _ _ (Below.refl _ _) rfl) <|
            allOps_cons (fun a' w' hb hs hd => rg_op fun K hK => by
          have e0 := (show a'.eval (.tmp 80) = .pointer (some ⟨w.heap.size, 6, none⟩) from hd.get 2 80 (by kernel_rfl) (by kernel_rfl))
          have ec : ∀ v, a'.eval (.const v) = v := fun _ => rfl
          have c0 := keep hb l6
          have c1 := keep hb l7
          clear hs hd
          unfold Oper.wp
          generalize a'.eval = ρ at e0 ec ⊢
          simp [go_sem, e0, c0, c1]
          exact hK _ _ (Below.refl _ _) rfl) <|
            allOps_cons (fun a' w' hb hs hd => rg_op fun K hK => by
          have e1 := (hs.get 2 (by kernel_rfl)).trans (show _ = Value.slice (some ⟨tb, tq, none⟩) tn tc from rfl)
          clear hs hd
          unfold Oper.wp
          generalize a'.eval = ρ at e1 ⊢
          simp [go_sem, e1]
          exact hK _ _ (Below.refl _ _) rfl) <|
            allOps_cons (fun a' w' hb hs hd => rg_op fun K hK => by
          have e1 := (hs.get 8 (by kernel_rfl)).trans (show _ = Value.int .i64 ↑j from rfl)
          clear hs hd
          unfold Oper.wp
          generalize a'.eval = ρ at e1 ⊢
          simp [go_sem, e1]
          exact hK _ _ (Below.refl _ _) rfl) <|
            allOps_cons (fun a' w' hb hs hd => rg_op fun K hK => by
          have e0 := (show a'.eval (.tmp 82) = Value.slice (some ⟨tb, tq, none⟩) tn tc from hd.get 4 82 (by kernel_rfl) (by kernel_rfl))
          have e1 := (show a'.eval (.tmp 83) = Value.int .i64 ↑j from hd.get 5 83 (by kernel_rfl) (by kernel_rfl))
          have ec : ∀ v, a'.eval (.const v) = v := fun _ => rfl
          clear hs hd
          unfold Oper.wp
          generalize a'.eval = ρ at e0 e1 ec ⊢
          simp [go_sem, e0, e1, p1, p2]
          exact hK _ _ (Below.refl _ _) rfl) <|
            allOps_cons (fun a' w' hb hs hd => rg_op fun K hK => by
          have e0 := (show a'.eval (.tmp 84) = .pointer (some ⟨tb, tq + j, none⟩) from hd.get 6 84 (by kernel_rfl) (by kernel_rfl))
          have ec : ∀ v, a'.eval (.const v) = v := fun _ => rfl
          have c0 := keep hb hct
          clear hs hd
          unfold Oper.wp
          generalize a'.eval = ρ at e0 ec ⊢
          simp [go_sem, e0, c0]
          exact hK _ _ (Below.refl _ _) rfl) <|
            allOps_cons (fun a' w' hb hs hd => by
          exact rg_fn (φ := (mpEq (.int .i64 0)).p) (vs := #[.agg #[.slice SA na ca, .int .i64 da], .agg #[.slice SB nb cb, .int .i64 db], .int .i64 (ts j)]) rfl (enters_of Tryz.func8 (by kernel_rfl) rfl) (by simp [(show a'.eval (.tmp 79) = .agg #[.slice SA na ca, .int .i64 da] from hd.get 1 79 (by kernel_rfl) (by kernel_rfl)), (show a'.eval (.tmp 81) = .agg #[.slice SB nb cb, .int .i64 db] from hd.get 3 81 (by kernel_rfl) (by kernel_rfl)), (show a'.eval (.tmp 85) = .int .i64 (ts j) from hd.get 7 85 (by kernel_rfl) (by kernel_rfl))]) ((HTE.out w' (HA.out.bel hb) (HB.out.bel hb)).mono (by rintro e w1 ⟨rfl, h1⟩; exact ⟨_, rfl, h1, rfl⟩))) <|
            allOps_cons (fun a' w' hb hs hd => rg_op fun K hK => by
          have e0 := (show a'.eval (.tmp 86) = .int .i64 0 from hd.get 8 86 (by kernel_rfl) (by kernel_rfl))
          have ec : ∀ v, a'.eval (.const v) = v := fun _ => rfl
          clear hs hd
          unfold Oper.wp
          generalize a'.eval = ρ at e0 ec ⊢
          simp [go_sem, e0, ec]
          exact hK _ _ (Below.refl _ _) rfl) <| allOps_nil) (fun Z9 w9 hb9 hall => ?_)
        have hx0 : Z9 87 = .bool false := hall.get 9 rfl
        clear hall
        simp only [mu0, maskPut, Nat.reduceAdd]
        rw [hx0]
        clear hx0
        have hs9 := hb9.size
        replace l0 := keep hb9 l0
        replace l1 := keep hb9 l1
        replace l2 := keep hb9 l2
        replace l3 := keep hb9 l3
        replace l4 := keep hb9 l4
        replace l5 := keep hb9 l5
        replace l6 := keep hb9 l6
        replace l7 := keep hb9 l7
        replace m0 := keep hb9 m0
        replace m1 := keep hb9 m1
        replace m2 := keep hb9 m2
        replace m3 := keep hb9 m3
        replace m4 := keep hb9 m4
        replace hct := keep hb9 hct
        replace HC := Lib.hid (HC.out.bel hb9)
        replace HA := Lib.hid (HA.out.bel hb9)
        replace HB := Lib.hid (HB.out.bel hb9)
        replace HR := Lib.hid (own_below HR.out hb9)
        replace B5 := Lib.hid (belowT B5.out hb9)
        clear hb9
        go_wp2_with fail
        refine wp_region_st mu1 (by kernel_rfl) [mpEq (.pointer (some ⟨w.heap.size, 4, none⟩)), mpEq (.agg #[.slice SA na ca, .int .i64 da]), mpCp na da ka, mpEq (Value.slice (some ⟨tb, tq, none⟩) tn tc), mpEq (Value.int .i64 ↑j), mpEq (.pointer (some ⟨tb, tq + j, none⟩)), mpEq (.int .i64 (ts j)), mpEq (.tuple #[.agg #[.int .i64 (P j 0), .int .i64 (P j 1), .int .i64 (P j 2), .int .i64 (P j 3), .int .i64 (P j 4), .int .i64 (P j 5)], .int .i64 0]), mpEq (.tuple #[.agg #[.int .i64 (P j 0), .int .i64 (P j 1), .int .i64 (P j 2), .int .i64 (P j 3), .int .i64 (P j 4), .int .i64 (P j 5)], .int .i64 0]), mpEq (.agg #[.int .i64 (P j 0), .int .i64 (P j 1), .int .i64 (P j 2), .int .i64 (P j 3), .int .i64 (P j 4), .int .i64 (P j 5)]), mpTop, mpNew6 (w9).heap.size, mpTop, mpTop] [(fun _ => True), (fun _ => True), (fun _ => True), (fun _ => True), (fun _ => True), (fun _ => True), (fun _ => True), (fun _ => True), (· = .tuple #[.agg #[.int .i64 (P j 0), .int .i64 (P j 1), .int .i64 (P j 2), .int .i64 (P j 3), .int .i64 (P j 4), .int .i64 (P j 5)], .int .i64 0]), (fun _ => True), (· = .int .i64 0), (fun _ => True), (fun _ => True), (· = .int .i64 0)] (mpVar6 (w9).heap.size (P j 0) (P j 1) (P j 2) (P j 3) (P j 4) (P j 5)) 12 11 9 (by kernel_rfl) (by kernel_rfl) (by kernel_rfl) (by kernel_rfl) rfl (
            allOps_cons (rs_not (by kernel_rfl) (fun a' w' hb hs hd hp => rs_op fun K hK => by
          have e1 := (hs.get 3 (by kernel_rfl)).trans (show _ = Value.pointer (some ⟨w.heap.size, 0, none⟩) from rfl)
          clear hs hd hp
          unfold Oper.wp
          generalize a'.eval = ρ at e1 ⊢
          simp [go_sem, e1]
          exact hK _ _ (Below.refl _ _) rfl trivial)) <|
            allOps_cons (rs_not (by kernel_rfl) (fun a' w' hb hs hd hp => rs_op fun K hK => by
          have e0 := (show a'.eval (.tmp 89) = .pointer (some ⟨w.heap.size, 4, none⟩) from RDeps.get (hd (by kernel_rfl)) 0 89 (by kernel_rfl) (by kernel_rfl))
          have ec : ∀ v, a'.eval (.const v) = v := fun _ => rfl
          have c0 := keep hb l4
          have c1 := keep hb l5
          clear hs hd hp
          unfold Oper.wp
          generalize a'.eval = ρ at e0 ec ⊢
          simp [go_sem, e0, c0, c1]
          exact hK _ _ (Below.refl _ _) rfl trivial)) <|
            allOps_cons (rs_not (by kernel_rfl) (fun a' w' hb hs hd hp => by
          exact rs_fn (φ := (mpCp na da ka).p) (ψ := (fun _ => True)) (vs := #[.agg #[.slice SA na ca, .int .i64 da]]) rfl (enters_of Tryz.func10 (by kernel_rfl) rfl) (by simp [(show a'.eval (.tmp 90) = .agg #[.slice SA na ca, .int .i64 da] from RDeps.get (hd (by kernel_rfl)) 1 90 (by kernel_rfl) (by kernel_rfl))]) ((copyT_any SA na ca da ka w' (by omega) HA0.out (HA.out.bel hb)).mono (by rintro e w1 ⟨X, c1, rfl, hk, h1⟩; exact ⟨_, rfl, h1, ⟨X, c1, rfl, hk⟩, trivial⟩)))) <|
            allOps_cons (rs_not (by kernel_rfl) (fun a' w' hb hs hd hp => rs_op fun K hK => by
          have e1 := (hs.get 2 (by kernel_rfl)).trans (show _ = Value.slice (some ⟨tb, tq, none⟩) tn tc from rfl)
          clear hs hd hp
          unfold Oper.wp
          generalize a'.eval = ρ at e1 ⊢
          simp [go_sem, e1]
          exact hK _ _ (Below.refl _ _) rfl trivial)) <|
            allOps_cons (rs_not (by kernel_rfl) (fun a' w' hb hs hd hp => rs_op fun K hK => by
          have e1 := (hs.get 8 (by kernel_rfl)).trans (show _ = Value.int .i64 ↑j from rfl)
          clear hs hd hp
          unfold Oper.wp
          generalize a'.eval = ρ at e1 ⊢
          simp [go_sem, e1]
          exact hK _ _ (Below.refl _ _) rfl trivial)) <|
            allOps_cons (rs_not (by kernel_rfl) (fun a' w' hb hs hd hp => rs_op fun K hK => by
          have e0 := (show a'.eval (.tmp 92) = Value.slice (some ⟨tb, tq, none⟩) tn tc from RDeps.get (hd (by kernel_rfl)) 3 92 (by kernel_rfl) (by kernel_rfl))
          have e1 := (show a'.eval (.tmp 93) = Value.int .i64 ↑j from RDeps.get (hd (by kernel_rfl)) 4 93 (by kernel_rfl) (by kernel_rfl))
          have ec : ∀ v, a'.eval (.const v) = v := fun _ => rfl
          clear hs hd hp
          unfold Oper.wp
          generalize a'.eval = ρ at e0 e1 ec ⊢
          simp [go_sem, e0, e1, p1, p2]
          exact hK _ _ (Below.refl _ _) rfl trivial)) <|
            allOps_cons (rs_not (by kernel_rfl) (fun a' w' hb hs hd hp => rs_op fun K hK => by
          have e0 := (show a'.eval (.tmp 94) = .pointer (some ⟨tb, tq + j, none⟩) from RDeps.get (hd (by kernel_rfl)) 5 94 (by kernel_rfl) (by kernel_rfl))
          have ec : ∀ v, a'.eval (.const v) = v := fun _ => rfl
          have c0 := keep hb hct
          clear hs hd hp
          unfold Oper.wp
          generalize a'.eval = ρ at e0 ec ⊢
          simp [go_sem, e0, c0]
          exact hK _ _ (Below.refl _ _) rfl trivial)) <|
            allOps_cons (rs_not (by kernel_rfl) (fun a' w' hb hs hd hp => by
          obtain ⟨X1, c1, e1, k1⟩ := (show (mpCp na da ka).p (a'.eval (.tmp 91)) w' from RDeps.get (hd (by kernel_rfl)) 2 91 (by kernel_rfl) (by kernel_rfl))
          exact rs_fn (φ := (mpEq (.tuple #[.agg #[.int .i64 (P j 0), .int .i64 (P j 1), .int .i64 (P j 2), .int .i64 (P j 3), .int .i64 (P j 4), .int .i64 (P j 5)], .int .i64 0])).p) (ψ := (fun _ => True)) (vs := #[.agg #[.slice X1 na c1, .int .i64 da], .int .i64 (ts j)]) rfl (enters_of Tryz.func9 (by kernel_rfl) rfl) (by simp [e1, (show a'.eval (.tmp 95) = .int .i64 (ts j) from RDeps.get (hd (by kernel_rfl)) 6 95 (by kernel_rfl) (by kernel_rfl))]) ((HBA.out w' X1 c1 k1).mono (by rintro e w1 ⟨rfl, h1⟩; exact ⟨_, rfl, h1, rfl, trivial⟩)))) <|
            allOps_cons (rs_not (by kernel_rfl) (fun a' w' hb hs hd hp => rs_op fun K hK => by
          have e1 := (show a'.eval (.tmp 96) = .tuple #[.agg #[.int .i64 (P j 0), .int .i64 (P j 1), .int .i64 (P j 2), .int .i64 (P j 3), .int .i64 (P j 4), .int .i64 (P j 5)], .int .i64 0] from RDeps.get (hd (by kernel_rfl)) 7 96 (by kernel_rfl) (by kernel_rfl))
          clear hs hd hp
          unfold Oper.wp
          generalize a'.eval = ρ at e1 ⊢
          simp [go_sem, e1]
          exact hK _ _ (Below.refl _ _) rfl rfl)) <|
            allOps_cons (rs_not (by kernel_rfl) (fun a' w' hb hs hd hp => rs_op fun K hK => by
          have e1 := (show a'.eval (.tmp 88) = .tuple #[.agg #[.int .i64 (P j 0), .int .i64 (P j 1), .int .i64 (P j 2), .int .i64 (P j 3), .int .i64 (P j 4), .int .i64 (P j 5)], .int .i64 0] from RDeps.get (hd (by kernel_rfl)) 8 88 (by kernel_rfl) (by kernel_rfl))
          clear hs hd hp
          unfold Oper.wp
          generalize a'.eval = ρ at e1 ⊢
          simp [go_sem, e1]
          exact hK _ _ (Below.refl _ _) rfl trivial)) <|
            allOps_cons (rs_not (by kernel_rfl) (fun a' w' hb hs hd hp => rs_op fun K hK => by
          have e1 := (show a'.eval (.tmp 88) = .tuple #[.agg #[.int .i64 (P j 0), .int .i64 (P j 1), .int .i64 (P j 2), .int .i64 (P j 3), .int .i64 (P j 4), .int .i64 (P j 5)], .int .i64 0] from hp.get 8 88 (by kernel_rfl) (by kernel_rfl))
          clear hs hd hp
          unfold Oper.wp
          generalize a'.eval = ρ at e1 ⊢
          simp [go_sem, e1]
          exact hK _ _ (Below.refl _ _) trivial rfl)) <|
            allOps_cons (rs_not (by kernel_rfl) (fun a' w' hb hs hd hp => rs_op fun K hK => by
          have hz := hb.size
          clear hs hd hp
          unfold Oper.wp
          generalize a'.eval = ρ
          simp [go_sem]
          exact hK _ _ ((Below.refl _ _).alloc (Nat.le_refl _) _) ⟨_, rfl, hz, by simp [go_sem], by simp [go_sem], by simp [go_sem], by simp [go_sem], by simp [go_sem], by simp [go_sem], by simp [go_sem], by simp [go_sem], by simp [go_sem], by simp [go_sem], by simp [go_sem], by simp [go_sem]⟩ trivial)) <|
            allOps_cons (rs_is (by kernel_rfl) (fun a' w' hb hs hd => rs_st rfl fun K hK => by
          obtain ⟨q, e1, zq, c0, c1, c2, c3, c4, c5, f0, f1, f2, f3, f4, f5⟩ := (show (mpNew6 (w9).heap.size).p (a'.eval (.tmp 9)) w' from hd.get 11 9 (by kernel_rfl) (by kernel_rfl))
          have e2 := (show a'.eval (.tmp 97) = .agg #[.int .i64 (P j 0), .int .i64 (P j 1), .int .i64 (P j 2), .int .i64 (P j 3), .int .i64 (P j 4), .int .i64 (P j 5)] from hd.get 9 97 (by kernel_rfl) (by kernel_rfl))
          have hz := lt_of c0
          clear hs hd
          unfold Oper.wp
          generalize a'.eval = ρ at e1 e2 hK ⊢
          simp [go_sem, e1, e2, c0, c1, c2, c3, c4, c5, f0, f1, f2, f3, f4, f5]
          exact hK _ (Below.setCell (Below.setCell (Below.setCell (Below.setCell (Below.setCell (Below.setCell hb zq _) zq _) zq _) zq _) zq _) zq _) ⟨q, e1, zq, by simp [go_sem, c0], by simp [go_sem, c1], by simp [go_sem, c2], by simp [go_sem, c3], by simp [go_sem, c4], by simp [go_sem, c5], by simp [go_sem, f0], by simp [go_sem, f1], by simp [go_sem, f2], by simp [go_sem, f3], by simp [go_sem, f4], by simp [go_sem, f5]⟩)) <|
            allOps_cons (rs_not (by kernel_rfl) (fun a' w' hb hs hd hp => rs_op fun K hK => by
          have e1 := (show a'.eval (.tmp 98) = .int .i64 0 from hp.get 10 98 (by kernel_rfl) (by kernel_rfl))
          clear hs hd hp
          unfold Oper.wp
          generalize a'.eval = ρ at e1 ⊢
          simp [go_sem, e1]
          exact hK _ _ (Below.refl _ _) trivial rfl)) <| allOps_nil) (fun Z11 w11 hb11 hall hv => ?_)
        have hx0 : Z11 10 = .int .i64 0 := hall.get 13 rfl (by decide)
        clear hall
        simp only [mu1, maskPut, Nat.reduceAdd]
        obtain ⟨qa, hva, zqa, a0, a1, a2, a3, a4, a5, -, -, -, -, -, -⟩ := hv
        rw [hx0, hva]
        clear hx0 hva
        have hs11 := hb11.size
        replace l0 := keep hb11 l0
        replace l1 := keep hb11 l1
        replace l2 := keep hb11 l2
        replace l3 := keep hb11 l3
        replace l4 := keep hb11 l4
        replace l5 := keep hb11 l5
        replace l6 := keep hb11 l6
        replace l7 := keep hb11 l7
        replace m0 := keep hb11 m0
        replace m1 := keep hb11 m1
        replace m2 := keep hb11 m2
        replace m3 := keep hb11 m3
        replace m4 := keep hb11 m4
        replace hct := keep hb11 hct
        replace HC := Lib.hid (HC.out.bel hb11)
        replace HA := Lib.hid (HA.out.bel hb11)
        replace HB := Lib.hid (HB.out.bel hb11)
        replace HR := Lib.hid (own_below HR.out hb11)
        replace B5 := Lib.hid (belowT B5.out hb11)
        clear hb11
        go_wp2_with fail
        refine wp_region_st mu2 (by kernel_rfl) [mpEq (.pointer (some ⟨w.heap.size, 6, none⟩)), mpEq (.agg #[.slice SB nb cb, .int .i64 db]), mpCp nb db kb, mpEq (Value.slice (some ⟨tb, tq, none⟩) tn tc), mpEq (Value.int .i64 ↑j), mpEq (.pointer (some ⟨tb, tq + j, none⟩)), mpEq (.int .i64 (ts j)), mpEq (.tuple #[.agg #[.int .i64 (Q_ j 0), .int .i64 (Q_ j 1), .int .i64 (Q_ j 2), .int .i64 (Q_ j 3), .int .i64 (Q_ j 4), .int .i64 (Q_ j 5)], .int .i64 0]), mpEq (.tuple #[.agg #[.int .i64 (Q_ j 0), .int .i64 (Q_ j 1), .int .i64 (Q_ j 2), .int .i64 (Q_ j 3), .int .i64 (Q_ j 4), .int .i64 (Q_ j 5)], .int .i64 0]), mpEq (.agg #[.int .i64 (Q_ j 0), .int .i64 (Q_ j 1), .int .i64 (Q_ j 2), .int .i64 (Q_ j 3), .int .i64 (Q_ j 4), .int .i64 (Q_ j 5)]), mpTop, mpNew6 (w11).heap.size, mpTop, mpTop] [(fun _ => True), (fun _ => True), (fun _ => True), (fun _ => True), (fun _ => True), (fun _ => True), (fun _ => True), (fun _ => True), (· = .tuple #[.agg #[.int .i64 (Q_ j 0), .int .i64 (Q_ j 1), .int .i64 (Q_ j 2), .int .i64 (Q_ j 3), .int .i64 (Q_ j 4), .int .i64 (Q_ j 5)], .int .i64 0]), (fun _ => True), (· = .int .i64 0), (fun _ => True), (fun _ => True), (· = .int .i64 0)] (mpVar6 (w11).heap.size (Q_ j 0) (Q_ j 1) (Q_ j 2) (Q_ j 3) (Q_ j 4) (Q_ j 5)) 12 11 11 (by kernel_rfl) (by kernel_rfl) (by kernel_rfl) (by kernel_rfl) rfl (
            allOps_cons (rs_not (by kernel_rfl) (fun a' w' hb hs hd hp => rs_op fun K hK => by
          have e1 := (hs.get 3 (by kernel_rfl)).trans (show _ = Value.pointer (some ⟨w.heap.size, 0, none⟩) from rfl)
          clear hs hd hp
          unfold Oper.wp
          generalize a'.eval = ρ at e1 ⊢
          simp [go_sem, e1]
          exact hK _ _ (Below.refl _ _) rfl trivial)) <|
            allOps_cons (rs_not (by kernel_rfl) (fun a' w' hb hs hd hp => rs_op fun K hK => by
          have e0 := (show a'.eval (.tmp 100) = .pointer (some ⟨w.heap.size, 6, none⟩) from RDeps.get (hd (by kernel_rfl)) 0 100 (by kernel_rfl) (by kernel_rfl))
          have ec : ∀ v, a'.eval (.const v) = v := fun _ => rfl
          have c0 := keep hb l6
          have c1 := keep hb l7
          clear hs hd hp
          unfold Oper.wp
          generalize a'.eval = ρ at e0 ec ⊢
          simp [go_sem, e0, c0, c1]
          exact hK _ _ (Below.refl _ _) rfl trivial)) <|
            allOps_cons (rs_not (by kernel_rfl) (fun a' w' hb hs hd hp => by
          exact rs_fn (φ := (mpCp nb db kb).p) (ψ := (fun _ => True)) (vs := #[.agg #[.slice SB nb cb, .int .i64 db]]) rfl (enters_of Tryz.func10 (by kernel_rfl) rfl) (by simp [(show a'.eval (.tmp 101) = .agg #[.slice SB nb cb, .int .i64 db] from RDeps.get (hd (by kernel_rfl)) 1 101 (by kernel_rfl) (by kernel_rfl))]) ((copyT_any SB nb cb db kb w' (by omega) HB0.out (HB.out.bel hb)).mono (by rintro e w1 ⟨X, c1, rfl, hk, h1⟩; exact ⟨_, rfl, h1, ⟨X, c1, rfl, hk⟩, trivial⟩)))) <|
            allOps_cons (rs_not (by kernel_rfl) (fun a' w' hb hs hd hp => rs_op fun K hK => by
          have e1 := (hs.get 2 (by kernel_rfl)).trans (show _ = Value.slice (some ⟨tb, tq, none⟩) tn tc from rfl)
          clear hs hd hp
          unfold Oper.wp
          generalize a'.eval = ρ at e1 ⊢
          simp [go_sem, e1]
          exact hK _ _ (Below.refl _ _) rfl trivial)) <|
            allOps_cons (rs_not (by kernel_rfl) (fun a' w' hb hs hd hp => rs_op fun K hK => by
          have e1 := (hs.get 8 (by kernel_rfl)).trans (show _ = Value.int .i64 ↑j from rfl)
          clear hs hd hp
          unfold Oper.wp
          generalize a'.eval = ρ at e1 ⊢
          simp [go_sem, e1]
          exact hK _ _ (Below.refl _ _) rfl trivial)) <|
            allOps_cons (rs_not (by kernel_rfl) (fun a' w' hb hs hd hp => rs_op fun K hK => by
          have e0 := (show a'.eval (.tmp 103) = Value.slice (some ⟨tb, tq, none⟩) tn tc from RDeps.get (hd (by kernel_rfl)) 3 103 (by kernel_rfl) (by kernel_rfl))
          have e1 := (show a'.eval (.tmp 104) = Value.int .i64 ↑j from RDeps.get (hd (by kernel_rfl)) 4 104 (by kernel_rfl) (by kernel_rfl))
          have ec : ∀ v, a'.eval (.const v) = v := fun _ => rfl
          clear hs hd hp
          unfold Oper.wp
          generalize a'.eval = ρ at e0 e1 ec ⊢
          simp [go_sem, e0, e1, p1, p2]
          exact hK _ _ (Below.refl _ _) rfl trivial)) <|
            allOps_cons (rs_not (by kernel_rfl) (fun a' w' hb hs hd hp => rs_op fun K hK => by
          have e0 := (show a'.eval (.tmp 105) = .pointer (some ⟨tb, tq + j, none⟩) from RDeps.get (hd (by kernel_rfl)) 5 105 (by kernel_rfl) (by kernel_rfl))
          have ec : ∀ v, a'.eval (.const v) = v := fun _ => rfl
          have c0 := keep hb hct
          clear hs hd hp
          unfold Oper.wp
          generalize a'.eval = ρ at e0 ec ⊢
          simp [go_sem, e0, c0]
          exact hK _ _ (Below.refl _ _) rfl trivial)) <|
            allOps_cons (rs_not (by kernel_rfl) (fun a' w' hb hs hd hp => by
          obtain ⟨X1, c1, e1, k1⟩ := (show (mpCp nb db kb).p (a'.eval (.tmp 102)) w' from RDeps.get (hd (by kernel_rfl)) 2 102 (by kernel_rfl) (by kernel_rfl))
          exact rs_fn (φ := (mpEq (.tuple #[.agg #[.int .i64 (Q_ j 0), .int .i64 (Q_ j 1), .int .i64 (Q_ j 2), .int .i64 (Q_ j 3), .int .i64 (Q_ j 4), .int .i64 (Q_ j 5)], .int .i64 0])).p) (ψ := (fun _ => True)) (vs := #[.agg #[.slice X1 nb c1, .int .i64 db], .int .i64 (ts j)]) rfl (enters_of Tryz.func9 (by kernel_rfl) rfl) (by simp [e1, (show a'.eval (.tmp 106) = .int .i64 (ts j) from RDeps.get (hd (by kernel_rfl)) 6 106 (by kernel_rfl) (by kernel_rfl))]) ((HBB.out w' X1 c1 k1).mono (by rintro e w1 ⟨rfl, h1⟩; exact ⟨_, rfl, h1, rfl, trivial⟩)))) <|
            allOps_cons (rs_not (by kernel_rfl) (fun a' w' hb hs hd hp => rs_op fun K hK => by
          have e1 := (show a'.eval (.tmp 107) = .tuple #[.agg #[.int .i64 (Q_ j 0), .int .i64 (Q_ j 1), .int .i64 (Q_ j 2), .int .i64 (Q_ j 3), .int .i64 (Q_ j 4), .int .i64 (Q_ j 5)], .int .i64 0] from RDeps.get (hd (by kernel_rfl)) 7 107 (by kernel_rfl) (by kernel_rfl))
          clear hs hd hp
          unfold Oper.wp
          generalize a'.eval = ρ at e1 ⊢
          simp [go_sem, e1]
          exact hK _ _ (Below.refl _ _) rfl rfl)) <|
            allOps_cons (rs_not (by kernel_rfl) (fun a' w' hb hs hd hp => rs_op fun K hK => by
          have e1 := (show a'.eval (.tmp 99) = .tuple #[.agg #[.int .i64 (Q_ j 0), .int .i64 (Q_ j 1), .int .i64 (Q_ j 2), .int .i64 (Q_ j 3), .int .i64 (Q_ j 4), .int .i64 (Q_ j 5)], .int .i64 0] from RDeps.get (hd (by kernel_rfl)) 8 99 (by kernel_rfl) (by kernel_rfl))
          clear hs hd hp
          unfold Oper.wp
          generalize a'.eval = ρ at e1 ⊢
          simp [go_sem, e1]
          exact hK _ _ (Below.refl _ _) rfl trivial)) <|
            allOps_cons (rs_not (by kernel_rfl) (fun a' w' hb hs hd hp => rs_op fun K hK => by
          have e1 := (show a'.eval (.tmp 99) = .tuple #[.agg #[.int .i64 (Q_ j 0), .int .i64 (Q_ j 1), .int .i64 (Q_ j 2), .int .i64 (Q_ j 3), .int .i64 (Q_ j 4), .int .i64 (Q_ j 5)], .int .i64 0] from hp.get 8 99 (by kernel_rfl) (by kernel_rfl))
          clear hs hd hp
          unfold Oper.wp
          generalize a'.eval = ρ at e1 ⊢
          simp [go_sem, e1]
          exact hK _ _ (Below.refl _ _) trivial rfl)) <|
            allOps_cons (rs_not (by kernel_rfl) (fun a' w' hb hs hd hp => rs_op fun K hK => by
          have hz := hb.size
          clear hs hd hp
          unfold Oper.wp
          generalize a'.eval = ρ
          simp [go_sem]
          exact hK _ _ ((Below.refl _ _).alloc (Nat.le_refl _) _) ⟨_, rfl, hz, by simp [go_sem], by simp [go_sem], by simp [go_sem], by simp [go_sem], by simp [go_sem], by simp [go_sem], by simp [go_sem], by simp [go_sem], by simp [go_sem], by simp [go_sem], by simp [go_sem], by simp [go_sem]⟩ trivial)) <|
            allOps_cons (rs_is (by kernel_rfl) (fun a' w' hb hs hd => rs_st rfl fun K hK => by
          obtain ⟨q, e1, zq, c0, c1, c2, c3, c4, c5, f0, f1, f2, f3, f4, f5⟩ := (show (mpNew6 (w11).heap.size).p (a'.eval (.tmp 11)) w' from hd.get 11 11 (by kernel_rfl) (by kernel_rfl))
          have e2 := (show a'.eval (.tmp 108) = .agg #[.int .i64 (Q_ j 0), .int .i64 (Q_ j 1), .int .i64 (Q_ j 2), .int .i64 (Q_ j 3), .int .i64 (Q_ j 4), .int .i64 (Q_ j 5)] from hd.get 9 108 (by kernel_rfl) (by kernel_rfl))
          have hz := lt_of c0
          clear hs hd
          unfold Oper.wp
          generalize a'.eval = ρ at e1 e2 hK ⊢
          simp [go_sem, e1, e2, c0, c1, c2, c3, c4, c5, f0, f1, f2, f3, f4, f5]
          exact hK _ (Below.setCell (Below.setCell (Below.setCell (Below.setCell (Below.setCell (Below.setCell hb zq _) zq _) zq _) zq _) zq _) zq _) ⟨q, e1, zq, by simp [go_sem, c0], by simp [go_sem, c1], by simp [go_sem, c2], by simp [go_sem, c3], by simp [go_sem, c4], by simp [go_sem, c5], by simp [go_sem, f0], by simp [go_sem, f1], by simp [go_sem, f2], by simp [go_sem, f3], by simp [go_sem, f4], by simp [go_sem, f5]⟩)) <|
            allOps_cons (rs_not (by kernel_rfl) (fun a' w' hb hs hd hp => rs_op fun K hK => by
          have e1 := (show a'.eval (.tmp 109) = .int .i64 0 from hp.get 10 109 (by kernel_rfl) (by kernel_rfl))
          clear hs hd hp
          unfold Oper.wp
          generalize a'.eval = ρ at e1 ⊢
          simp [go_sem, e1]
          exact hK _ _ (Below.refl _ _) trivial rfl)) <| allOps_nil) (fun Z12 w12 hb12 hall hv => ?_)
        have hx0 : Z12 12 = .int .i64 0 := hall.get 13 rfl (by decide)
        clear hall
        simp only [mu2, maskPut, Nat.reduceAdd]
        obtain ⟨qb, hvb, zqb, b0, b1, b2, b3, b4, b5, -, -, -, -, -, -⟩ := hv
        rw [hx0, hvb]
        clear hx0 hvb
        have hs12 := hb12.size
        replace l0 := keep hb12 l0
        replace l1 := keep hb12 l1
        replace l2 := keep hb12 l2
        replace l3 := keep hb12 l3
        replace l4 := keep hb12 l4
        replace l5 := keep hb12 l5
        replace l6 := keep hb12 l6
        replace l7 := keep hb12 l7
        replace m0 := keep hb12 m0
        replace m1 := keep hb12 m1
        replace m2 := keep hb12 m2
        replace m3 := keep hb12 m3
        replace m4 := keep hb12 m4
        replace hct := keep hb12 hct
        replace a0 := keep hb12 a0
        replace a1 := keep hb12 a1
        replace a2 := keep hb12 a2
        replace a3 := keep hb12 a3
        replace a4 := keep hb12 a4
        replace a5 := keep hb12 a5
        replace HC := Lib.hid (HC.out.bel hb12)
        replace HA := Lib.hid (HA.out.bel hb12)
        replace HB := Lib.hid (HB.out.bel hb12)
        replace HR := Lib.hid (own_below HR.out hb12)
        replace B5 := Lib.hid (belowT B5.out hb12)
        clear hb12
        go_wp2_with fail
        refine wp_region_gd [mpEq (.int .i64 0), mpEq (.bool false), mpEq (.bool false), mpEq (.int .i64 0), mpEq (.bool false), mpEq (.bool false), mpEq (.bool false), mpEq (.agg #[.int .i64 (P j 0), .int .i64 (P j 1), .int .i64 (P j 2), .int .i64 (P j 3), .int .i64 (P j 4), .int .i64 (P j 5)]), mpEq (.pointer (some ⟨w.heap.size, 4, none⟩)), mpEq (.agg #[.slice SA na ca, .int .i64 da]), mpEq (.slice (some ⟨tb, tq, none⟩) tn tc), mpEq (.int .i64 ↑j), mpEq (.pointer (some ⟨tb, tq + j, none⟩)), mpEq (.int .i64 (ts j)), mpEq (.agg #[.int .i64 (P j 0), .int .i64 (P j 1), .int .i64 (P j 2), .int .i64 (P j 3), .int .i64 (P j 4), .int .i64 (P j 5)]), mpEq (.bool false), mpEq (.bool false), mpEq (.bool false), mpEq (.agg #[.int .i64 (Q_ j 0), .int .i64 (Q_ j 1), .int .i64 (Q_ j 2), .int .i64 (Q_ j 3), .int .i64 (Q_ j 4), .int .i64 (Q_ j 5)]), mpEq (.pointer (some ⟨w.heap.size, 6, none⟩)), mpEq (.agg #[.slice SB nb cb, .int .i64 db]), mpEq (.slice (some ⟨tb, tq, none⟩) tn tc), mpEq (.int .i64 ↑j), mpEq (.pointer (some ⟨tb, tq + j, none⟩)), mpEq (.int .i64 (ts j)), mpEq (.agg #[.int .i64 (Q_ j 0), .int .i64 (Q_ j 1), .int .i64 (Q_ j 2), .int .i64 (Q_ j 3), .int .i64 (Q_ j 4), .int .i64 (Q_ j 5)]), mpEq (.bool false), mpEq (.bool false)] mu3 (by kernel_rfl) (by kernel_rfl) (by kernel_rfl) (
            allOps_cons (fun a' w' hb hs hd => Or.inl ⟨wanted_n rfl, by
          exact op1 (φ := (mpEq (.int .i64 0)).p) ((hs.get 10 (by kernel_rfl)).trans (show _ = Value.int .i64 0 from rfl)) (fun ρ e c => by simp [go_sem, e]) rfl⟩) <|
            allOps_cons (fun a' w' hb hs hd => Or.inl ⟨wanted_n rfl, by
          exact op1 (φ := (mpEq (.bool false)).p) ((show a'.eval (.tmp 110) = .int .i64 0 from hd.get 0 110 (by kernel_rfl) (by kernel_rfl))) (fun ρ e c => by simp [go_sem, e, c]) rfl⟩) <|
            allOps_cons (fun a' w' hb hs hd => Or.inl ⟨wanted_n rfl, by
          exact op1 (φ := (mpEq (.bool false)).p) ((show a'.eval (.tmp 111) = .bool false from hd.get 1 111 (by kernel_rfl) (by kernel_rfl))) (fun ρ e c => by simp [go_sem, e]) rfl⟩) <|
            allOps_cons (fun a' w' hb hs hd => Or.inl ⟨wanted_t (j := 2) (d := 112) rfl (by kernel_rfl) (show a'.eval (.tmp 112) = .bool false from hd.get 2 112 (by kernel_rfl) (by kernel_rfl)), by
          exact op1 (φ := (mpEq (.int .i64 0)).p) ((hs.get 12 (by kernel_rfl)).trans (show _ = Value.int .i64 0 from rfl)) (fun ρ e c => by simp [go_sem, e]) rfl⟩) <|
            allOps_cons (fun a' w' hb hs hd => Or.inl ⟨wanted_t (j := 2) (d := 112) rfl (by kernel_rfl) (show a'.eval (.tmp 112) = .bool false from hd.get 2 112 (by kernel_rfl) (by kernel_rfl)), by
          exact op1 (φ := (mpEq (.bool false)).p) ((show a'.eval (.tmp 113) = .int .i64 0 from hd.get 3 113 (by kernel_rfl) (by kernel_rfl))) (fun ρ e c => by simp [go_sem, e, c]) rfl⟩) <|
            allOps_cons (fun a' w' hb hs hd => Or.inl ⟨wanted_n rfl, by
          exact op2 (φ := (mpEq (.bool false)).p) ((show a'.eval (.tmp 112) = .bool false from hd.get 2 112 (by kernel_rfl) (by kernel_rfl))) ((show a'.eval (.tmp 114) = .bool false from hd.get 4 114 (by kernel_rfl) (by kernel_rfl))) (fun ρ e e' c => by simp [go_sem, e, e', c]) rfl⟩) <|
            allOps_cons (fun a' w' hb hs hd => Or.inl ⟨wanted_n rfl, by
          exact op1 (φ := (mpEq (.bool false)).p) ((show a'.eval (.tmp 115) = .bool false from hd.get 5 115 (by kernel_rfl) (by kernel_rfl))) (fun ρ e c => by simp [go_sem, e]) rfl⟩) <|
            allOps_cons (fun a' w' hb hs hd => Or.inl ⟨wanted_t (j := 6) (d := 116) rfl (by kernel_rfl) (show a'.eval (.tmp 116) = .bool false from hd.get 6 116 (by kernel_rfl) (by kernel_rfl)), by
          exact op1 (φ := (mpEq (.agg #[.int .i64 (P j 0), .int .i64 (P j 1), .int .i64 (P j 2), .int .i64 (P j 3), .int .i64 (P j 4), .int .i64 (P j 5)])).p) ((hs.get 9 (by kernel_rfl)).trans (show _ = Value.pointer (some ⟨qa, 0, none⟩) from rfl)) (fun ρ e c => by simp [go_sem, e, keep hb a0, keep hb a1, keep hb a2, keep hb a3, keep hb a4, keep hb a5]) rfl⟩) <|
            allOps_cons (fun a' w' hb hs hd => Or.inl ⟨wanted_t (j := 6) (d := 116) rfl (by kernel_rfl) (show a'.eval (.tmp 116) = .bool false from hd.get 6 116 (by kernel_rfl) (by kernel_rfl)), by
          exact op1 (φ := (mpEq (.pointer (some ⟨w.heap.size, 4, none⟩))).p) ((hs.get 3 (by kernel_rfl)).trans (show _ = Value.pointer (some ⟨w.heap.size, 0, none⟩) from rfl)) (fun ρ e c => by simp [go_sem, e]) rfl⟩) <|
            allOps_cons (fun a' w' hb hs hd => Or.inl ⟨wanted_t (j := 6) (d := 116) rfl (by kernel_rfl) (show a'.eval (.tmp 116) = .bool false from hd.get 6 116 (by kernel_rfl) (by kernel_rfl)), by
          exact op1 (φ := (mpEq (.agg #[.slice SA na ca, .int .i64 da])).p) ((show a'.eval (.tmp 118) = .pointer (some ⟨w.heap.size, 4, none⟩) from hd.get 8 118 (by kernel_rfl) (by kernel_rfl))) (fun ρ e c => by simp [go_sem, e, keep hb l4, keep hb l5]) rfl⟩) <|
            allOps_cons (fun a' w' hb hs hd => Or.inl ⟨wanted_t (j := 6) (d := 116) rfl (by kernel_rfl) (show a'.eval (.tmp 116) = .bool false from hd.get 6 116 (by kernel_rfl) (by kernel_rfl)), by
          exact op1 (φ := (mpEq (.slice (some ⟨tb, tq, none⟩) tn tc)).p) ((hs.get 2 (by kernel_rfl)).trans (show _ = Value.slice (some ⟨tb, tq, none⟩) tn tc from rfl)) (fun ρ e c => by simp [go_sem, e]) rfl⟩) <|
            allOps_cons (fun a' w' hb hs hd => Or.inl ⟨wanted_t (j := 6) (d := 116) rfl (by kernel_rfl) (show a'.eval (.tmp 116) = .bool false from hd.get 6 116 (by kernel_rfl) (by kernel_rfl)), by
          exact op1 (φ := (mpEq (.int .i64 ↑j)).p) ((hs.get 8 (by kernel_rfl)).trans (show _ = Value.int .i64 ↑j from rfl)) (fun ρ e c => by simp [go_sem, e]) rfl⟩) <|
            allOps_cons (fun a' w' hb hs hd => Or.inl ⟨wanted_t (j := 6) (d := 116) rfl (by kernel_rfl) (show a'.eval (.tmp 116) = .bool false from hd.get 6 116 (by kernel_rfl) (by kernel_rfl)), by
          exact op2 (φ := (mpEq (.pointer (some ⟨tb, tq + j, none⟩))).p) ((show a'.eval (.tmp 120) = .slice (some ⟨tb, tq, none⟩) tn tc from hd.get 10 120 (by kernel_rfl) (by kernel_rfl))) ((show a'.eval (.tmp 121) = .int .i64 ↑j from hd.get 11 121 (by kernel_rfl) (by kernel_rfl))) (fun ρ e e' c => by simp [go_sem, e, e', p1, p2]) rfl⟩) <|
            allOps_cons (fun a' w' hb hs hd => Or.inl ⟨wanted_t (j := 6) (d := 116) rfl (by kernel_rfl) (show a'.eval (.tmp 116) = .bool false from hd.get 6 116 (by kernel_rfl) (by kernel_rfl)), by
          exact op1 (φ := (mpEq (.int .i64 (ts j))).p) ((show a'.eval (.tmp 122) = .pointer (some ⟨tb, tq + j, none⟩) from hd.get 12 122 (by kernel_rfl) (by kernel_rfl))) (fun ρ e c => by simp [go_sem, e, keep hb hct]) rfl⟩) <|
            allOps_cons (fun a' w' hb hs hd => Or.inl ⟨wanted_t (j := 6) (d := 116) rfl (by kernel_rfl) (show a'.eval (.tmp 116) = .bool false from hd.get 6 116 (by kernel_rfl) (by kernel_rfl)), by
          have e0 := (show a'.eval (.tmp 119) = .agg #[.slice SA na ca, .int .i64 da] from hd.get 9 119 (by kernel_rfl) (by kernel_rfl))
          have e1 := (show a'.eval (.tmp 123) = .int .i64 (ts j) from hd.get 13 123 (by kernel_rfl) (by kernel_rfl))
          exact rg_fn (φ := (mpEq (.agg #[.int .i64 (P j 0), .int .i64 (P j 1), .int .i64 (P j 2), .int .i64 (P j 3), .int .i64 (P j 4), .int .i64 (P j 5)])).p) (vs := #[.agg #[.slice SA na ca, .int .i64 da], .int .i64 (ts j)]) rfl (enters_of Tryz.func11 (by kernel_rfl) rfl) (by simp [e0, e1]) (((HRA.out w' (HA.out.bel hb))).mono (by rintro e w1 ⟨rfl, h1⟩; exact ⟨_, rfl, h1, rfl⟩))⟩) <|
            allOps_cons (fun a' w' hb hs hd => Or.inl ⟨wanted_t (j := 6) (d := 116) rfl (by kernel_rfl) (show a'.eval (.tmp 116) = .bool false from hd.get 6 116 (by kernel_rfl) (by kernel_rfl)), by
          exact op2 (φ := (mpEq (.bool false)).p) ((show a'.eval (.tmp 117) = .agg #[.int .i64 (P j 0), .int .i64 (P j 1), .int .i64 (P j 2), .int .i64 (P j 3), .int .i64 (P j 4), .int .i64 (P j 5)] from hd.get 7 117 (by kernel_rfl) (by kernel_rfl))) ((show a'.eval (.tmp 124) = .agg #[.int .i64 (P j 0), .int .i64 (P j 1), .int .i64 (P j 2), .int .i64 (P j 3), .int .i64 (P j 4), .int .i64 (P j 5)] from hd.get 14 124 (by kernel_rfl) (by kernel_rfl))) (fun ρ e e' c => by simp [go_sem, e, e']) rfl⟩) <|
            allOps_cons (fun a' w' hb hs hd => Or.inl ⟨wanted_n rfl, by
          exact op2 (φ := (mpEq (.bool false)).p) ((show a'.eval (.tmp 116) = .bool false from hd.get 6 116 (by kernel_rfl) (by kernel_rfl))) ((show a'.eval (.tmp 125) = .bool false from hd.get 15 125 (by kernel_rfl) (by kernel_rfl))) (fun ρ e e' c => by simp [go_sem, e, e', c]) rfl⟩) <|
            allOps_cons (fun a' w' hb hs hd => Or.inl ⟨wanted_n rfl, by
          exact op1 (φ := (mpEq (.bool false)).p) ((show a'.eval (.tmp 126) = .bool false from hd.get 16 126 (by kernel_rfl) (by kernel_rfl))) (fun ρ e c => by simp [go_sem, e]) rfl⟩) <|
            allOps_cons (fun a' w' hb hs hd => Or.inl ⟨wanted_t (j := 17) (d := 127) rfl (by kernel_rfl) (show a'.eval (.tmp 127) = .bool false from hd.get 17 127 (by kernel_rfl) (by kernel_rfl)), by
          exact op1 (φ := (mpEq (.agg #[.int .i64 (Q_ j 0), .int .i64 (Q_ j 1), .int .i64 (Q_ j 2), .int .i64 (Q_ j 3), .int .i64 (Q_ j 4), .int .i64 (Q_ j 5)])).p) ((hs.get 11 (by kernel_rfl)).trans (show _ = Value.pointer (some ⟨qb, 0, none⟩) from rfl)) (fun ρ e c => by simp [go_sem, e, keep hb b0, keep hb b1, keep hb b2, keep hb b3, keep hb b4, keep hb b5]) rfl⟩) <|
            allOps_cons (fun a' w' hb hs hd => Or.inl ⟨wanted_t (j := 17) (d := 127) rfl (by kernel_rfl) (show a'.eval (.tmp 127) = .bool false from hd.get 17 127 (by kernel_rfl) (by kernel_rfl)), by
          exact op1 (φ := (mpEq (.pointer (some ⟨w.heap.size, 6, none⟩))).p) ((hs.get 3 (by kernel_rfl)).trans (show _ = Value.pointer (some ⟨w.heap.size, 0, none⟩) from rfl)) (fun ρ e c => by simp [go_sem, e]) rfl⟩) <|
            allOps_cons (fun a' w' hb hs hd => Or.inl ⟨wanted_t (j := 17) (d := 127) rfl (by kernel_rfl) (show a'.eval (.tmp 127) = .bool false from hd.get 17 127 (by kernel_rfl) (by kernel_rfl)), by
          exact op1 (φ := (mpEq (.agg #[.slice SB nb cb, .int .i64 db])).p) ((show a'.eval (.tmp 129) = .pointer (some ⟨w.heap.size, 6, none⟩) from hd.get 19 129 (by kernel_rfl) (by kernel_rfl))) (fun ρ e c => by simp [go_sem, e, keep hb l6, keep hb l7]) rfl⟩) <|
            allOps_cons (fun a' w' hb hs hd => Or.inl ⟨wanted_t (j := 17) (d := 127) rfl (by kernel_rfl) (show a'.eval (.tmp 127) = .bool false from hd.get 17 127 (by kernel_rfl) (by kernel_rfl)), by
          exact op1 (φ := (mpEq (.slice (some ⟨tb, tq, none⟩) tn tc)).p) ((hs.get 2 (by kernel_rfl)).trans (show _ = Value.slice (some ⟨tb, tq, none⟩) tn tc from rfl)) (fun ρ e c => by simp [go_sem, e]) rfl⟩) <|
            allOps_cons (fun a' w' hb hs hd => Or.inl ⟨wanted_t (j := 17) (d := 127) rfl (by kernel_rfl) (show a'.eval (.tmp 127) = .bool false from hd.get 17 127 (by kernel_rfl) (by kernel_rfl)), by
          exact op1 (φ := (mpEq (.int .i64 ↑j)).p) ((hs.get 8 (by kernel_rfl)).trans (show _ = Value.int .i64 ↑j from rfl)) (fun ρ e c => by simp [go_sem, e]) rfl⟩) <|
            allOps_cons (fun a' w' hb hs hd => Or.inl ⟨wanted_t (j := 17) (d := 127) rfl (by kernel_rfl) (show a'.eval (.tmp 127) = .bool false from hd.get 17 127 (by kernel_rfl) (by kernel_rfl)), by
          exact op2 (φ := (mpEq (.pointer (some ⟨tb, tq + j, none⟩))).p) ((show a'.eval (.tmp 131) = .slice (some ⟨tb, tq, none⟩) tn tc from hd.get 21 131 (by kernel_rfl) (by kernel_rfl))) ((show a'.eval (.tmp 132) = .int .i64 ↑j from hd.get 22 132 (by kernel_rfl) (by kernel_rfl))) (fun ρ e e' c => by simp [go_sem, e, e', p1, p2]) rfl⟩) <|
            allOps_cons (fun a' w' hb hs hd => Or.inl ⟨wanted_t (j := 17) (d := 127) rfl (by kernel_rfl) (show a'.eval (.tmp 127) = .bool false from hd.get 17 127 (by kernel_rfl) (by kernel_rfl)), by
          exact op1 (φ := (mpEq (.int .i64 (ts j))).p) ((show a'.eval (.tmp 133) = .pointer (some ⟨tb, tq + j, none⟩) from hd.get 23 133 (by kernel_rfl) (by kernel_rfl))) (fun ρ e c => by simp [go_sem, e, keep hb hct]) rfl⟩) <|
            allOps_cons (fun a' w' hb hs hd => Or.inl ⟨wanted_t (j := 17) (d := 127) rfl (by kernel_rfl) (show a'.eval (.tmp 127) = .bool false from hd.get 17 127 (by kernel_rfl) (by kernel_rfl)), by
          have e0 := (show a'.eval (.tmp 130) = .agg #[.slice SB nb cb, .int .i64 db] from hd.get 20 130 (by kernel_rfl) (by kernel_rfl))
          have e1 := (show a'.eval (.tmp 134) = .int .i64 (ts j) from hd.get 24 134 (by kernel_rfl) (by kernel_rfl))
          exact rg_fn (φ := (mpEq (.agg #[.int .i64 (Q_ j 0), .int .i64 (Q_ j 1), .int .i64 (Q_ j 2), .int .i64 (Q_ j 3), .int .i64 (Q_ j 4), .int .i64 (Q_ j 5)])).p) (vs := #[.agg #[.slice SB nb cb, .int .i64 db], .int .i64 (ts j)]) rfl (enters_of Tryz.func11 (by kernel_rfl) rfl) (by simp [e0, e1]) (((HRB.out w' (HB.out.bel hb))).mono (by rintro e w1 ⟨rfl, h1⟩; exact ⟨_, rfl, h1, rfl⟩))⟩) <|
            allOps_cons (fun a' w' hb hs hd => Or.inl ⟨wanted_t (j := 17) (d := 127) rfl (by kernel_rfl) (show a'.eval (.tmp 127) = .bool false from hd.get 17 127 (by kernel_rfl) (by kernel_rfl)), by
          exact op2 (φ := (mpEq (.bool false)).p) ((show a'.eval (.tmp 128) = .agg #[.int .i64 (Q_ j 0), .int .i64 (Q_ j 1), .int .i64 (Q_ j 2), .int .i64 (Q_ j 3), .int .i64 (Q_ j 4), .int .i64 (Q_ j 5)] from hd.get 18 128 (by kernel_rfl) (by kernel_rfl))) ((show a'.eval (.tmp 135) = .agg #[.int .i64 (Q_ j 0), .int .i64 (Q_ j 1), .int .i64 (Q_ j 2), .int .i64 (Q_ j 3), .int .i64 (Q_ j 4), .int .i64 (Q_ j 5)] from hd.get 25 135 (by kernel_rfl) (by kernel_rfl))) (fun ρ e e' c => by simp [go_sem, e, e']) rfl⟩) <|
            allOps_cons (fun a' w' hb hs hd => Or.inl ⟨wanted_n rfl, by
          exact op2 (φ := (mpEq (.bool false)).p) ((show a'.eval (.tmp 127) = .bool false from hd.get 17 127 (by kernel_rfl) (by kernel_rfl))) ((show a'.eval (.tmp 136) = .bool false from hd.get 26 136 (by kernel_rfl) (by kernel_rfl))) (fun ρ e e' c => by simp [go_sem, e, e', c]) rfl⟩) <| allOps_nil) (fun Z13 w13 hb13 hall => ?_)
        have hx0 : Z13 137 = .bool false := hall.get 27 rfl
        clear hall
        simp only [mu3, maskPut, Nat.reduceAdd]
        rw [hx0]
        clear hx0
        have hs13 := hb13.size
        replace l0 := keep hb13 l0
        replace l1 := keep hb13 l1
        replace l2 := keep hb13 l2
        replace l3 := keep hb13 l3
        replace l4 := keep hb13 l4
        replace l5 := keep hb13 l5
        replace l6 := keep hb13 l6
        replace l7 := keep hb13 l7
        replace m0 := keep hb13 m0
        replace m1 := keep hb13 m1
        replace m2 := keep hb13 m2
        replace m3 := keep hb13 m3
        replace m4 := keep hb13 m4
        replace hct := keep hb13 hct
        replace a0 := keep hb13 a0
        replace a1 := keep hb13 a1
        replace a2 := keep hb13 a2
        replace a3 := keep hb13 a3
        replace a4 := keep hb13 a4
        replace a5 := keep hb13 a5
        replace b0 := keep hb13 b0
        replace b1 := keep hb13 b1
        replace b2 := keep hb13 b2
        replace b3 := keep hb13 b3
        replace b4 := keep hb13 b4
        replace b5 := keep hb13 b5
        replace HC := Lib.hid (HC.out.bel hb13)
        replace HA := Lib.hid (HA.out.bel hb13)
        replace HB := Lib.hid (HB.out.bel hb13)
        replace HR := Lib.hid (own_below HR.out hb13)
        replace B5 := Lib.hid (belowT B5.out hb13)
        clear hb13
        go_wp2_with (first
          | (go_at_call 12; (with_reducible refine Calls.mono (HQU.out _) ?_); rintro e w14 ⟨rfl, hb14⟩; have hs14 := Nat.le_trans B5.out.size hb14.size; replace l0 := keep hb14 l0; replace l1 := keep hb14 l1; replace l2 := keep hb14 l2; replace l3 := keep hb14 l3; replace l4 := keep hb14 l4; replace l5 := keep hb14 l5; replace l6 := keep hb14 l6; replace l7 := keep hb14 l7; replace m0 := keep hb14 m0; replace m1 := keep hb14 m1; replace m2 := keep hb14 m2; replace m3 := keep hb14 m3; replace m4 := keep hb14 m4; replace hct := keep hb14 hct; replace a0 := keep hb14 a0; replace a1 := keep hb14 a1; replace a2 := keep hb14 a2; replace a3 := keep hb14 a3; replace a4 := keep hb14 a4; replace a5 := keep hb14 a5; replace b0 := keep hb14 b0; replace b1 := keep hb14 b1; replace b2 := keep hb14 b2; replace b3 := keep hb14 b3; replace b4 := keep hb14 b4; replace b5 := keep hb14 b5; replace HC := Lib.hid (HC.out.bel hb14); replace HA := Lib.hid (HA.out.bel hb14); replace HB := Lib.hid (HB.out.bel hb14); replace HR := Lib.hid (own_below HR.out hb14); replace B5 := Lib.hid (belowT B5.out hb14); clear hb14)
          | (at_builtin; go_loud (refine wpList_append_own_at _ rfl _ _ 36 rfl w5.heap.size 3 k0 _ 1 8 undInts kk0 kz0 kz1 kz2 rfl (by decide) u7 _ _ rfl (HR.out.alloc _) ⟨w14.heap.size, 0, none⟩ 1 1 [.int .i64 (f j)] rfl rfl (by simpa using news1 w14 _ _) (by simp [Value.oneCell']) (by unfold maxLen; omega) (by omega) (by simp; omega) ?_; intro v' w15 hown' hgrow hnil hloc; rw [← HO1.out] at hown'; have HR2 := Lib.hid hown'; have hb15 := Lib.hid ((B5.out.alloc hs14 _).grown hgrow (by simp; omega) (fun q hq => (HR.out.lt q hq).1)); have na0 := (hgrow.cell_far ⟨qa, 0, none⟩ (lt_of (keepC _ a0)) (fun e => by have := hq0 qa e.symm; omega)).trans (keepC _ a0); have na1 := (hgrow.cell_far ⟨qa, 1, none⟩ (lt_of (keepC _ a1)) (fun e => by have := hq0 qa e.symm; omega)).trans (keepC _ a1); have na2 := (hgrow.cell_far ⟨qa, 2, none⟩ (lt_of (keepC _ a2)) (fun e => by have := hq0 qa e.symm; omega)).trans (keepC _ a2); have na3 := (hgrow.cell_far ⟨qa, 3, none⟩ (lt_of (keepC _ a3)) (fun e => by have := hq0 qa e.symm; omega)).trans (keepC _ a3); have na4 := (hgrow.cell_far ⟨qa, 4, none⟩ (lt_of (keepC _ a4)) (fun e => by have := hq0 qa e.symm; omega)).trans (keepC _ a4); have na5 := (hgrow.cell_far ⟨qa, 5, none⟩ (lt_of (keepC _ a5)) (fun e => by have := hq0 qa e.symm; omega)).trans (keepC _ a5); have nb0 := (hgrow.cell_far ⟨qb, 0, none⟩ (lt_of (keepC _ b0)) (fun e => by have := hq0 qb e.symm; omega)).trans (keepC _ b0); have nb1 := (hgrow.cell_far ⟨qb, 1, none⟩ (lt_of (keepC _ b1)) (fun e => by have := hq0 qb e.symm; omega)).trans (keepC _ b1); have nb2 := (hgrow.cell_far ⟨qb, 2, none⟩ (lt_of (keepC _ b2)) (fun e => by have := hq0 qb e.symm; omega)).trans (keepC _ b2); have nb3 := (hgrow.cell_far ⟨qb, 3, none⟩ (lt_of (keepC _ b3)) (fun e => by have := hq0 qb e.symm; omega)).trans (keepC _ b3); have nb4 := (hgrow.cell_far ⟨qb, 4, none⟩ (lt_of (keepC _ b4)) (fun e => by have := hq0 qb e.symm; omega)).trans (keepC _ b4); have nb5 := (hgrow.cell_far ⟨qb, 5, none⟩ (lt_of (keepC _ b5)) (fun e => by have := hq0 qb e.symm; omega)).trans (keepC _ b5); clear hown' hgrow hnil hloc))
          | fail)
        clear HR a0 a1 a2 a3 a4 a5 b0 b1 b2 b3 b4 b5 l0 l1 l2 l3 l4 l5 l6 l7 m0 m1 m2 m3 m4 hct HC HA HB
        replace B5 := hb15
        clear hb15
        have a0 := na0
        clear na0
        have a1 := na1
        clear na1
        have a2 := na2
        clear na2
        have a3 := na3
        clear na3
        have a4 := na4
        clear na4
        have a5 := na5
        clear na5
        have b0 := nb0
        clear nb0
        have b1 := nb1
        clear nb1
        have b2 := nb2
        clear nb2
        have b3 := nb3
        clear nb3
        have b4 := nb4
        clear nb4
        have b5 := nb5
        clear nb5
        obtain ⟨⟨l0, l1, l2, l3, l4, l5, l6, l7, m0, m1, m2, m3, m4⟩, hC5, hA5, hB5, hct⟩ := HL5.out
        replace l0 := keep B5.out l0
        replace l1 := keep B5.out l1
        replace l2 := keep B5.out l2
        replace l3 := keep B5.out l3
        replace l4 := keep B5.out l4
        replace l5 := keep B5.out l5
        replace l6 := keep B5.out l6
        replace l7 := keep B5.out l7
        replace m0 := keep B5.out m0
        replace m1 := keep B5.out m1
        replace m2 := keep B5.out m2
        replace m3 := keep B5.out m3
        replace m4 := keep B5.out m4
        replace hct := keep B5.out (hct tb tq rfl j hlt)
        have HC := Lib.hid (hC5.bel B5.out)
        have HA := Lib.hid (hA5.bel B5.out)
        have HB := Lib.hid (hB5.bel B5.out)
        clear hC5 hA5 hB5
        have HR := HR2
        clear HR2
        have HVI := Lib.hid (HVI0.out j hlt he)
        have HY3 := hY j hlt he
        have HPR := HPR0.out j hlt he
        generalize yy j = y at HVI HY3 HPR
        go_wp2_with fail
        refine wp_region_mp [mpEq (.agg #[.int .i64 ux, .int .i64 uy, .int .i64 uz, .slice C n c, .slice SA na ca, .int .i64 da, .slice SB nb cb, .int .i64 db]), mpV2 ux uy uz n k na ka da nb kb db, mpEq (Value.slice (some ⟨tb, tq, none⟩) tn tc), mpEq (Value.int .i64 ↑j), mpEq (.pointer (some ⟨tb, tq + j, none⟩)), mpEq (.int .i64 (ts j)), mpEq (.tuple #[.int .i64 y, .int .i64 0]), mpEq (.tuple #[.int .i64 y, .int .i64 0]), mpEq (.int .i64 y), mpEq (.int .i64 0), mpEq (.int .i64 y), mpEq (.int .i64 0)] mu4 (by kernel_rfl) (by kernel_rfl) (by kernel_rfl) (
            allOps_cons (fun a' w' hb hs hd => rg_op fun K hK => by
          have e1 := (hs.get 3 (by kernel_rfl)).trans (show _ = Value.pointer (some ⟨w.heap.size, 0, none⟩) from rfl)
          have c0 := keep hb l0
          have c1 := keep hb l1
          have c2 := keep hb l2
          have c3 := keep hb l3
          have c4 := keep hb l4
          have c5 := keep hb l5
          have c6 := keep hb l6
          have c7 := keep hb l7
          clear hs hd
          unfold Oper.wp
          generalize a'.eval = ρ at e1 ⊢
          simp [go_sem, e1, c0, c1, c2, c3, c4, c5, c6, c7]
          exact hK _ _ (Below.refl _ _) rfl) <|
            allOps_cons (fun a' w' hb hs hd => by
          exact rg_fn (φ := (mpV2 ux uy uz n k na ka da nb kb db).p) (vs := #[.agg #[.int .i64 ux, .int .i64 uy, .int .i64 uz, .slice C n c, .slice SA na ca, .int .i64 da, .slice SB nb cb, .int .i64 db]]) rfl (enters_of Tryz.func14 (by kernel_rfl) rfl) (by simp [(show a'.eval (.tmp 157) = .agg #[.int .i64 ux, .int .i64 uy, .int .i64 uz, .slice C n c, .slice SA na ca, .int .i64 da, .slice SB nb cb, .int .i64 db] from hd.get 0 157 (by kernel_rfl) (by kernel_rfl))]) ((HCX.out _ (HC.out.bel hb) (HA.out.bel hb) (HB.out.bel hb)).mono (by rintro e w1 ⟨X, cX, Y, cY, Z, cZ, rfl, h1, _, h2, h3, h4⟩; exact ⟨_, rfl, h4, X, cX, Y, cY, Z, cZ, rfl, h1, h2, h3⟩))) <|
            allOps_cons (fun a' w' hb hs hd => rg_op fun K hK => by
          have e1 := (hs.get 2 (by kernel_rfl)).trans (show _ = Value.slice (some ⟨tb, tq, none⟩) tn tc from rfl)
          clear hs hd
          unfold Oper.wp
          generalize a'.eval = ρ at e1 ⊢
          simp [go_sem, e1]
          exact hK _ _ (Below.refl _ _) rfl) <|
            allOps_cons (fun a' w' hb hs hd => rg_op fun K hK => by
          have e1 := (hs.get 8 (by kernel_rfl)).trans (show _ = Value.int .i64 ↑j from rfl)
          clear hs hd
          unfold Oper.wp
          generalize a'.eval = ρ at e1 ⊢
          simp [go_sem, e1]
          exact hK _ _ (Below.refl _ _) rfl) <|
            allOps_cons (fun a' w' hb hs hd => rg_op fun K hK => by
          have e0 := (show a'.eval (.tmp 159) = Value.slice (some ⟨tb, tq, none⟩) tn tc from hd.get 2 159 (by kernel_rfl) (by kernel_rfl))
          have e1 := (show a'.eval (.tmp 160) = Value.int .i64 ↑j from hd.get 3 160 (by kernel_rfl) (by kernel_rfl))
          have ec : ∀ v, a'.eval (.const v) = v := fun _ => rfl
          clear hs hd
          unfold Oper.wp
          generalize a'.eval = ρ at e0 e1 ec ⊢
          simp [go_sem, e0, e1, p1, p2]
          exact hK _ _ (Below.refl _ _) rfl) <|
            allOps_cons (fun a' w' hb hs hd => rg_op fun K hK => by
          have e0 := (show a'.eval (.tmp 161) = .pointer (some ⟨tb, tq + j, none⟩) from hd.get 4 161 (by kernel_rfl) (by kernel_rfl))
          have ec : ∀ v, a'.eval (.const v) = v := fun _ => rfl
          have c0 := keep hb hct
          clear hs hd
          unfold Oper.wp
          generalize a'.eval = ρ at e0 ec ⊢
          simp [go_sem, e0, c0]
          exact hK _ _ (Below.refl _ _) rfl) <|
            allOps_cons (fun a' w' hb hs hd => by
          exact rg_fn (φ := (mpEq (.tuple #[.int .i64 y, .int .i64 0])).p) (vs := #[a'.eval (.tmp 158), .int .i64 (ts j)]) rfl (enters_of Tryz.func13 (by kernel_rfl) rfl) (by simp [(show a'.eval (.tmp 162) = .int .i64 (ts j) from hd.get 5 162 (by kernel_rfl) (by kernel_rfl))]) (by obtain ⟨X, cX, Y, cY, Z, cZ, hv, h1, h2, h3⟩ := (show (mpV2 ux uy uz n k na ka da nb kb db).p (a'.eval (.tmp 158)) w' from hd.get 1 158 (by kernel_rfl) (by kernel_rfl)); rw [hv]; exact (HVI.out _ X cX Y cY Z cZ h1 h2 h3).mono (by rintro e w1 ⟨rfl, h1⟩; exact ⟨_, rfl, h1, rfl⟩))) <|
            allOps_cons (fun a' w' hb hs hd => rg_op fun K hK => by
          have e1 := (show a'.eval (.tmp 163) = .tuple #[.int .i64 y, .int .i64 0] from hd.get 6 163 (by kernel_rfl) (by kernel_rfl))
          clear hs hd
          unfold Oper.wp
          generalize a'.eval = ρ at e1 ⊢
          simp [go_sem, e1]
          exact hK _ _ (Below.refl _ _) rfl) <|
            allOps_cons (fun a' w' hb hs hd => rg_op fun K hK => by
          have e1 := (show a'.eval (.tmp 156) = .tuple #[.int .i64 y, .int .i64 0] from hd.get 7 156 (by kernel_rfl) (by kernel_rfl))
          clear hs hd
          unfold Oper.wp
          generalize a'.eval = ρ at e1 ⊢
          simp [go_sem, e1]
          exact hK _ _ (Below.refl _ _) rfl) <|
            allOps_cons (fun a' w' hb hs hd => rg_op fun K hK => by
          have e1 := (show a'.eval (.tmp 156) = .tuple #[.int .i64 y, .int .i64 0] from hd.get 7 156 (by kernel_rfl) (by kernel_rfl))
          clear hs hd
          unfold Oper.wp
          generalize a'.eval = ρ at e1 ⊢
          simp [go_sem, e1]
          exact hK _ _ (Below.refl _ _) rfl) <|
            allOps_cons (fun a' w' hb hs hd => rg_op fun K hK => by
          have e1 := (show a'.eval (.tmp 164) = .int .i64 y from hd.get 8 164 (by kernel_rfl) (by kernel_rfl))
          clear hs hd
          unfold Oper.wp
          generalize a'.eval = ρ at e1 ⊢
          simp [go_sem, e1]
          exact hK _ _ (Below.refl _ _) rfl) <|
            allOps_cons (fun a' w' hb hs hd => rg_op fun K hK => by
          have e1 := (show a'.eval (.tmp 165) = .int .i64 0 from hd.get 9 165 (by kernel_rfl) (by kernel_rfl))
          clear hs hd
          unfold Oper.wp
          generalize a'.eval = ρ at e1 ⊢
          simp [go_sem, e1]
          exact hK _ _ (Below.refl _ _) rfl) <| allOps_nil) (fun Z16 w16 hb16 hall => ?_)
        have hx0 : Z16 13 = .int .i64 y := hall.get 10 rfl
        have hx1 : Z16 14 = .int .i64 0 := hall.get 11 rfl
        clear hall
        simp only [mu4, maskPut, Nat.reduceAdd]
        rw [hx0, hx1]
        clear hx0 hx1
        replace l0 := keep hb16 l0
        replace l1 := keep hb16 l1
        replace l2 := keep hb16 l2
        replace l3 := keep hb16 l3
        replace l4 := keep hb16 l4
        replace l5 := keep hb16 l5
        replace l6 := keep hb16 l6
        replace l7 := keep hb16 l7
        replace m0 := keep hb16 m0
        replace m1 := keep hb16 m1
        replace m2 := keep hb16 m2
        replace m3 := keep hb16 m3
        replace m4 := keep hb16 m4
        replace hct := keep hb16 hct
        replace a0 := keep hb16 a0
        replace a1 := keep hb16 a1
        replace a2 := keep hb16 a2
        replace a3 := keep hb16 a3
        replace a4 := keep hb16 a4
        replace a5 := keep hb16 a5
        replace b0 := keep hb16 b0
        replace b1 := keep hb16 b1
        replace b2 := keep hb16 b2
        replace b3 := keep hb16 b3
        replace b4 := keep hb16 b4
        replace b5 := keep hb16 b5
        replace HC := Lib.hid (HC.out.bel hb16)
        replace HA := Lib.hid (HA.out.bel hb16)
        replace HB := Lib.hid (HB.out.bel hb16)
        replace HR := Lib.hid (own_below HR.out hb16)
        replace B5 := Lib.hid (belowT B5.out hb16)
        clear hb16
        have HEn : Hid (∀ i, i < j + 1 → E i = 0) := fun i hi => by
          rcases Nat.lt_or_eq_of_le (Nat.le_of_lt_succ hi) with h | h
          · exact HE.out i h
          · rw [h]; exact he
        clear HE he HVI HTE HBA HBB HRA HRB HQU
        rcases HY3 with rfl | rfl | rfl
        · go_wp2_with fail
          go_roundw
          case rel => exact ⟨j + 1, by omega, by go_num, HR, B5.out, HEn⟩
          case measure => simp [intOf]; omega
        · go_wp2_with fail
          go_roundw
          case rel => exact ⟨j + 1, by omega, by go_num, HR, B5.out, HEn⟩
          case measure => simp [intOf]; omega
        · obtain ⟨plo, phi, hph, hPW⟩ := HPR rfl
          have HPW := Lib.hid hPW
          have hneg : decide (phi < 0) = false := by simp; omega
          clear hPW HPR
          have hfd : ∀ W, (Instr.field 33 (.agg #[.int .i64 plo, .int .i64 phi]) 1).run Tryz.prog W = .ok (.int .i64 phi) W := fun _ => by kernel_rfl
          go_wp2_with (first
            | (go_at_call 15; (with_reducible refine Calls.mono (HPW.out _) ?_); rintro e w17 ⟨rfl, hb17⟩; replace HR := Lib.hid (own_below HR.out hb17); replace B5 := Lib.hid (belowT B5.out hb17); clear hb17)
            | fail)
          go_roundw
          case rel => exact ⟨j + 1, by omega, by go_num, HR, B5.out, HEn⟩
          case measure => simp [intOf]; omega
      · have HTE := Lib.hid (HTE0.out j hlt)
        have g0 : (E j == 0) = false := by simp [he]
        have g1 : (E j != 0) = true := by simp [he]
        clear he
        generalize E j = D at HTE g0 g1
        go_wp2_with fail
        refine wp_region_mp [mpEq (.pointer (some ⟨w.heap.size, 4, none⟩)), mpEq (.agg #[.slice SA na ca, .int .i64 da]), mpEq (.pointer (some ⟨w.heap.size, 6, none⟩)), mpEq (.agg #[.slice SB nb cb, .int .i64 db]), mpEq (Value.slice (some ⟨tb, tq, none⟩) tn tc), mpEq (Value.int .i64 ↑j), mpEq (.pointer (some ⟨tb, tq + j, none⟩)), mpEq (.int .i64 (ts j)), mpEq (.int .i64 D), mpEq (.bool true)] mu0 (by kernel_rfl) (by kernel_rfl) (by kernel_rfl) (
            allOps_cons (fun a' w' hb hs hd => rg_op fun K hK => by
          have e1 := (hs.get 3 (by kernel_rfl)).trans (show _ = Value.pointer (some ⟨w.heap.size, 0, none⟩) from rfl)
          clear hs hd
          unfold Oper.wp
          generalize a'.eval = ρ at e1 ⊢
          simp [go_sem, e1]
          exact hK _ _ (Below.refl _ _) rfl) <|
            allOps_cons (fun a' w' hb hs hd => rg_op fun K hK => by
          have e0 := (show a'.eval (.tmp 78) = .pointer (some ⟨w.heap.size, 4, none⟩) from hd.get 0 78 (by kernel_rfl) (by kernel_rfl))
          have ec : ∀ v, a'.eval (.const v) = v := fun _ => rfl
          have c0 := keep hb l4
          have c1 := keep hb l5
          clear hs hd
          unfold Oper.wp
          generalize a'.eval = ρ at e0 ec ⊢
          simp [go_sem, e0, c0, c1]
          exact hK _ _ (Below.refl _ _) rfl) <|
            allOps_cons (fun a' w' hb hs hd => rg_op fun K hK => by
          have e1 := (hs.get 3 (by kernel_rfl)).trans (show _ = Value.pointer (some ⟨w.heap.size, 0, none⟩) from rfl)
          clear hs hd
          unfold Oper.wp
          generalize a'.eval = ρ at e1 ⊢
          simp [go_sem, e1]
          exact hK _ _ (Below.refl _ _) rfl) <|
            allOps_cons (fun a' w' hb hs hd => rg_op fun K hK => by
          have e0 := (show a'.eval (.tmp 80) = .pointer (some ⟨w.heap.size, 6, none⟩) from hd.get 2 80 (by kernel_rfl) (by kernel_rfl))
          have ec : ∀ v, a'.eval (.const v) = v := fun _ => rfl
          have c0 := keep hb l6
          have c1 := keep hb l7
          clear hs hd
          unfold Oper.wp
          generalize a'.eval = ρ at e0 ec ⊢
          simp [go_sem, e0, c0, c1]
          exact hK _ _ (Below.refl _ _) rfl) <|
            allOps_cons (fun a' w' hb hs hd => rg_op fun K hK => by
          have e1 := (hs.get 2 (by kernel_rfl)).trans (show _ = Value.slice (some ⟨tb, tq, none⟩) tn tc from rfl)
          clear hs hd
          unfold Oper.wp
          generalize a'.eval = ρ at e1 ⊢
          simp [go_sem, e1]
          exact hK _ _ (Below.refl _ _) rfl) <|
            allOps_cons (fun a' w' hb hs hd => rg_op fun K hK => by
          have e1 := (hs.get 8 (by kernel_rfl)).trans (show _ = Value.int .i64 ↑j from rfl)
          clear hs hd
          unfold Oper.wp
          generalize a'.eval = ρ at e1 ⊢
          simp [go_sem, e1]
          exact hK _ _ (Below.refl _ _) rfl) <|
            allOps_cons (fun a' w' hb hs hd => rg_op fun K hK => by
          have e0 := (show a'.eval (.tmp 82) = Value.slice (some ⟨tb, tq, none⟩) tn tc from hd.get 4 82 (by kernel_rfl) (by kernel_rfl))
          have e1 := (show a'.eval (.tmp 83) = Value.int .i64 ↑j from hd.get 5 83 (by kernel_rfl) (by kernel_rfl))
          have ec : ∀ v, a'.eval (.const v) = v := fun _ => rfl
          clear hs hd
          unfold Oper.wp
          generalize a'.eval = ρ at e0 e1 ec ⊢
          simp [go_sem, e0, e1, p1, p2]
          exact hK _ _ (Below.refl _ _) rfl) <|
            allOps_cons (fun a' w' hb hs hd => rg_op fun K hK => by
          have e0 := (show a'.eval (.tmp 84) = .pointer (some ⟨tb, tq + j, none⟩) from hd.get 6 84 (by kernel_rfl) (by kernel_rfl))
          have ec : ∀ v, a'.eval (.const v) = v := fun _ => rfl
          have c0 := keep hb hct
          clear hs hd
          unfold Oper.wp
          generalize a'.eval = ρ at e0 ec ⊢
          simp [go_sem, e0, c0]
          exact hK _ _ (Below.refl _ _) rfl) <|
            allOps_cons (fun a' w' hb hs hd => by
          exact rg_fn (φ := (mpEq (.int .i64 D)).p) (vs := #[.agg #[.slice SA na ca, .int .i64 da], .agg #[.slice SB nb cb, .int .i64 db], .int .i64 (ts j)]) rfl (enters_of Tryz.func8 (by kernel_rfl) rfl) (by simp [(show a'.eval (.tmp 79) = .agg #[.slice SA na ca, .int .i64 da] from hd.get 1 79 (by kernel_rfl) (by kernel_rfl)), (show a'.eval (.tmp 81) = .agg #[.slice SB nb cb, .int .i64 db] from hd.get 3 81 (by kernel_rfl) (by kernel_rfl)), (show a'.eval (.tmp 85) = .int .i64 (ts j) from hd.get 7 85 (by kernel_rfl) (by kernel_rfl))]) ((HTE.out w' (HA.out.bel hb) (HB.out.bel hb)).mono (by rintro e w1 ⟨rfl, h1⟩; exact ⟨_, rfl, h1, rfl⟩))) <|
            allOps_cons (fun a' w' hb hs hd => rg_op fun K hK => by
          have e0 := (show a'.eval (.tmp 86) = .int .i64 D from hd.get 8 86 (by kernel_rfl) (by kernel_rfl))
          have ec : ∀ v, a'.eval (.const v) = v := fun _ => rfl
          clear hs hd
          unfold Oper.wp
          generalize a'.eval = ρ at e0 ec ⊢
          simp [go_sem, e0, ec, g1]
          exact hK _ _ (Below.refl _ _) rfl) <| allOps_nil) (fun Z9 w9 hb9 hall => ?_)
        have hx0 : Z9 87 = .bool true := hall.get 9 rfl
        clear hall
        simp only [mu0, maskPut, Nat.reduceAdd]
        rw [hx0]
        clear hx0
        replace B5 := Lib.hid (belowT B5.out hb9)
        go_wp2_with fail
        go_ret
        exact ⟨rfl, belowT BV.out B5.out⟩
    · have hjt : j = tn := by omega
      have hE9 : ∀ i, i < tn → E i = 0 := fun i hi => HE.out i (by omega)
      rw [hjt] at HR
      obtain ⟨T7, c7, h7, hI7, hn7⟩ := row_open HR.out
      have HI7 := Lib.hid hI7
      have HCI := Lib.hid (fun W hW => copyInts_any T7 tn c7 f W (by omega) hn7 hW)
      have HPT := Lib.hid (HPT0.out hE9)
      have HMR := Lib.hid (HMR0.out hE9)
      clear HR hI7 hn7 HE hE9 hq0 hct0 hbx l0 l1 l2 l3 l4 l5 l6 l7 HC HA HB
      subst h7
      go_wp2_with fail
      refine wp_region_mp [mpEq (.agg #[.int .i64 t, .int .i64 lo, .int .i64 hi, .int .i64 st, .int .i64 ra]), mpEq (.slice T7 tn c7), mpI2 tn f, mpT2 m ys T F, mpT2 m ys T F, mpI3 m ys, mpEq (.int .i64 T), mpEq (.int .i64 F), mpI3 m ys, mpEq (.int .i64 T), mpEq (.int .i64 F)] mu5 (by kernel_rfl) (by kernel_rfl) (by kernel_rfl) (
          allOps_cons (fun a' w' hb hs hd => rg_op fun K hK => by
        have e1 := (hs.get 4 (by kernel_rfl)).trans (show _ = Value.pointer (some ⟨w.heap.size + 1, 0, none⟩) from rfl)
        have c0 := keep hb m0
        have c1 := keep hb m1
        have c2 := keep hb m2
        have c3 := keep hb m3
        have c4 := keep hb m4
        clear hs hd
        unfold Oper.wp
        generalize a'.eval = ρ at e1 ⊢
        simp [go_sem, e1, c0, c1, c2, c3, c4]
        exact hK _ _ (Below.refl _ _) rfl) <|
          allOps_cons (fun a' w' hb hs hd => rg_op fun K hK => by
        have e1 := (hs.get 7 (by kernel_rfl)).trans (show _ = .slice T7 tn c7 from rfl)
        clear hs hd
        unfold Oper.wp
        generalize a'.eval = ρ at e1 ⊢
        simp [go_sem, e1]
        exact hK _ _ (Below.refl _ _) rfl) <|
          allOps_cons (fun a' w' hb hs hd => by
        exact rg_fn (φ := (mpI2 tn f).p) (vs := #[.slice T7 tn c7]) rfl (enters_of Tryz.func17 (by kernel_rfl) rfl) (by simp [(show a'.eval (.tmp 196) = .slice T7 tn c7 from hd.get 1 196 (by kernel_rfl) (by kernel_rfl))]) ((HCI.out w' (HI7.out.below hb)).mono (by rintro e w1 ⟨A1, c1, rfl, h1, h2⟩; exact ⟨_, rfl, h2, A1, c1, rfl, h1⟩))) <|
          allOps_cons (fun a' w' hb hs hd => by
        exact rg_fn (φ := (mpT2 m ys T F).p) (vs := #[.agg #[.int .i64 t, .int .i64 lo, .int .i64 hi, .int .i64 st, .int .i64 ra], a'.eval (.tmp 197)]) rfl (enters_of Tryz.func16 (by kernel_rfl) rfl) (by simp [(show a'.eval (.tmp 195) = .agg #[.int .i64 t, .int .i64 lo, .int .i64 hi, .int .i64 st, .int .i64 ra] from hd.get 0 195 (by kernel_rfl) (by kernel_rfl))]) (by obtain ⟨A1, c1, hv, h1⟩ := (show (mpI2 tn f).p (a'.eval (.tmp 197)) w' from hd.get 2 197 (by kernel_rfl) (by kernel_rfl)); rw [hv]; exact (HPT.out w' A1 c1 h1).mono (by rintro e w1 ⟨A2, c2, rfl, h2, h0, h3⟩; exact ⟨_, rfl, h3, A2, c2, rfl, h2, h0⟩))) <|
          allOps_cons (fun a' w' hb hs hd => rg_op fun K hK => by
        have e1 := (show (mpT2 m ys T F).p (a'.eval (.tmp 198)) w' from hd.get 3 198 (by kernel_rfl) (by kernel_rfl))
        clear hs hd
        unfold Oper.wp
        generalize a'.eval = ρ at e1 ⊢
        obtain ⟨A, c, e2, e3⟩ := e1
        simp [go_sem, e2]
        exact hK _ _ (Below.refl _ _) ⟨A, c, rfl, e3⟩) <|
          allOps_cons (fun a' w' hb hs hd => rg_op fun K hK => by
        have e1 := (show (mpT2 m ys T F).p (a'.eval (.tmp 194)) w' from hd.get 4 194 (by kernel_rfl) (by kernel_rfl))
        clear hs hd
        unfold Oper.wp
        generalize a'.eval = ρ at e1 ⊢
        obtain ⟨A, c, e2, e3⟩ := e1
        simp [go_sem, e2]
        exact hK _ _ (Below.refl _ _) ⟨A, c, rfl, e3⟩) <|
          allOps_cons (fun a' w' hb hs hd => rg_op fun K hK => by
        have e1 := (show (mpT2 m ys T F).p (a'.eval (.tmp 194)) w' from hd.get 4 194 (by kernel_rfl) (by kernel_rfl))
        clear hs hd
        unfold Oper.wp
        generalize a'.eval = ρ at e1 ⊢
        obtain ⟨A, c, e2, e3⟩ := e1
        simp [go_sem, e2]
        exact hK _ _ (Below.refl _ _) rfl) <|
          allOps_cons (fun a' w' hb hs hd => rg_op fun K hK => by
        have e1 := (show (mpT2 m ys T F).p (a'.eval (.tmp 194)) w' from hd.get 4 194 (by kernel_rfl) (by kernel_rfl))
        clear hs hd
        unfold Oper.wp
        generalize a'.eval = ρ at e1 ⊢
        obtain ⟨A, c, e2, e3⟩ := e1
        simp [go_sem, e2]
        exact hK _ _ (Below.refl _ _) rfl) <|
          allOps_cons (fun a' w' hb hs hd => rg_op fun K hK => by
        have e1 := (show (mpI3 m ys).p (a'.eval (.tmp 199)) w' from hd.get 5 199 (by kernel_rfl) (by kernel_rfl))
        clear hs hd
        unfold Oper.wp
        generalize a'.eval = ρ at e1 ⊢
        obtain ⟨A, c, e2, e3⟩ := e1
        simp [go_sem, e2]
        exact hK _ _ (Below.refl _ _) ⟨A, c, rfl, e3⟩) <|
          allOps_cons (fun a' w' hb hs hd => rg_op fun K hK => by
        have e1 := (show a'.eval (.tmp 200) = .int .i64 T from hd.get 6 200 (by kernel_rfl) (by kernel_rfl))
        clear hs hd
        unfold Oper.wp
        generalize a'.eval = ρ at e1 ⊢
        simp [go_sem, e1]
        exact hK _ _ (Below.refl _ _) rfl) <|
          allOps_cons (fun a' w' hb hs hd => rg_op fun K hK => by
        have e1 := (show a'.eval (.tmp 201) = .int .i64 F from hd.get 7 201 (by kernel_rfl) (by kernel_rfl))
        clear hs hd
        unfold Oper.wp
        generalize a'.eval = ρ at e1 ⊢
        simp [go_sem, e1]
        exact hK _ _ (Below.refl _ _) rfl) <| allOps_nil) (fun Z19 w19 hb19 hall => ?_)
      obtain ⟨Am, cm, h15, him, hm0⟩ := (show (mpI3 m ys).p (Z19 15) w19 from hall.get 8 rfl)
      have HM := Lib.hid him
      have hx0 : Z19 16 = .int .i64 T := hall.get 9 rfl
      have hx1 : Z19 17 = .int .i64 F := hall.get 10 rfl
      clear hall
      simp only [mu5, maskPut, Nat.reduceAdd]
      rw [hx0, hx1, h15]
      clear hx0 hx1 h15
      clear him
      replace m0 := keep hb19 m0
      replace m1 := keep hb19 m1
      replace m2 := keep hb19 m2
      replace m3 := keep hb19 m3
      replace m4 := keep hb19 m4
      replace HI7 := Lib.hid (HI7.out.below hb19)
      replace B5 := Lib.hid (belowT B5.out hb19)
      clear hb19
      go_wp2_with fail
      refine wp_region_mp [mpEq (.agg #[.int .i64 t, .int .i64 lo, .int .i64 hi, .int .i64 st, .int .i64 ra]), mpEq (.slice T7 tn c7), mpI2 tn f, mpEq (.tuple #[.int .i64 rr, .int .i64 G]), mpEq (.tuple #[.int .i64 rr, .int .i64 G]), mpEq (.int .i64 rr), mpEq (.int .i64 G), mpEq (.int .i64 rr), mpEq (.int .i64 G)] mu6 (by kernel_rfl) (by kernel_rfl) (by kernel_rfl) (
          allOps_cons (fun a' w' hb hs hd => rg_op fun K hK => by
        have e1 := (hs.get 4 (by kernel_rfl)).trans (show _ = Value.pointer (some ⟨w.heap.size + 1, 0, none⟩) from rfl)
        have c0 := keep hb m0
        have c1 := keep hb m1
        have c2 := keep hb m2
        have c3 := keep hb m3
        have c4 := keep hb m4
        clear hs hd
        unfold Oper.wp
        generalize a'.eval = ρ at e1 ⊢
        simp [go_sem, e1, c0, c1, c2, c3, c4]
        exact hK _ _ (Below.refl _ _) rfl) <|
          allOps_cons (fun a' w' hb hs hd => rg_op fun K hK => by
        have e1 := (hs.get 7 (by kernel_rfl)).trans (show _ = .slice T7 tn c7 from rfl)
        clear hs hd
        unfold Oper.wp
        generalize a'.eval = ρ at e1 ⊢
        simp [go_sem, e1]
        exact hK _ _ (Below.refl _ _) rfl) <|
          allOps_cons (fun a' w' hb hs hd => by
        exact rg_fn (φ := (mpI2 tn f).p) (vs := #[.slice T7 tn c7]) rfl (enters_of Tryz.func17 (by kernel_rfl) rfl) (by simp [(show a'.eval (.tmp 204) = .slice T7 tn c7 from hd.get 1 204 (by kernel_rfl) (by kernel_rfl))]) ((HCI.out w' (HI7.out.below hb)).mono (by rintro e w1 ⟨A1, c1, rfl, h1, h2⟩; exact ⟨_, rfl, h2, A1, c1, rfl, h1⟩))) <|
          allOps_cons (fun a' w' hb hs hd => by
        exact rg_fn (φ := (mpEq (.tuple #[.int .i64 rr, .int .i64 G])).p) (vs := #[.agg #[.int .i64 t, .int .i64 lo, .int .i64 hi, .int .i64 st, .int .i64 ra], a'.eval (.tmp 205)]) rfl (enters_of Tryz.func18 (by kernel_rfl) rfl) (by simp [(show a'.eval (.tmp 203) = .agg #[.int .i64 t, .int .i64 lo, .int .i64 hi, .int .i64 st, .int .i64 ra] from hd.get 0 203 (by kernel_rfl) (by kernel_rfl))]) (by obtain ⟨A1, c1, hv, h1⟩ := (show (mpI2 tn f).p (a'.eval (.tmp 205)) w' from hd.get 2 205 (by kernel_rfl) (by kernel_rfl)); rw [hv]; exact (HMR.out w' A1 c1 h1).mono (by rintro e w1 ⟨rfl, h1⟩; exact ⟨_, rfl, h1, rfl⟩))) <|
          allOps_cons (fun a' w' hb hs hd => rg_op fun K hK => by
        have e1 := (show a'.eval (.tmp 206) = .tuple #[.int .i64 rr, .int .i64 G] from hd.get 3 206 (by kernel_rfl) (by kernel_rfl))
        clear hs hd
        unfold Oper.wp
        generalize a'.eval = ρ at e1 ⊢
        simp [go_sem, e1]
        exact hK _ _ (Below.refl _ _) rfl) <|
          allOps_cons (fun a' w' hb hs hd => rg_op fun K hK => by
        have e1 := (show a'.eval (.tmp 202) = .tuple #[.int .i64 rr, .int .i64 G] from hd.get 4 202 (by kernel_rfl) (by kernel_rfl))
        clear hs hd
        unfold Oper.wp
        generalize a'.eval = ρ at e1 ⊢
        simp [go_sem, e1]
        exact hK _ _ (Below.refl _ _) rfl) <|
          allOps_cons (fun a' w' hb hs hd => rg_op fun K hK => by
        have e1 := (show a'.eval (.tmp 202) = .tuple #[.int .i64 rr, .int .i64 G] from hd.get 4 202 (by kernel_rfl) (by kernel_rfl))
        clear hs hd
        unfold Oper.wp
        generalize a'.eval = ρ at e1 ⊢
        simp [go_sem, e1]
        exact hK _ _ (Below.refl _ _) rfl) <|
          allOps_cons (fun a' w' hb hs hd => rg_op fun K hK => by
        have e1 := (show a'.eval (.tmp 207) = .int .i64 rr from hd.get 5 207 (by kernel_rfl) (by kernel_rfl))
        clear hs hd
        unfold Oper.wp
        generalize a'.eval = ρ at e1 ⊢
        simp [go_sem, e1]
        exact hK _ _ (Below.refl _ _) rfl) <|
          allOps_cons (fun a' w' hb hs hd => rg_op fun K hK => by
        have e1 := (show a'.eval (.tmp 208) = .int .i64 G from hd.get 6 208 (by kernel_rfl) (by kernel_rfl))
        clear hs hd
        unfold Oper.wp
        generalize a'.eval = ρ at e1 ⊢
        simp [go_sem, e1]
        exact hK _ _ (Below.refl _ _) rfl) <| allOps_nil) (fun Z20 w20 hb20 hall => ?_)
      have hx0 : Z20 18 = .int .i64 rr := hall.get 7 rfl
      have hx1 : Z20 19 = .int .i64 G := hall.get 8 rfl
      clear hall
      simp only [mu6, maskPut, Nat.reduceAdd]
      rw [hx0, hx1]
      clear hx0 hx1
      replace m0 := keep hb20 m0
      replace m1 := keep hb20 m1
      replace m2 := keep hb20 m2
      replace m3 := keep hb20 m3
      replace m4 := keep hb20 m4
      replace HI7 := Lib.hid (HI7.out.below hb20)
      replace HM := Lib.hid (HM.out.below hb20)
      replace B5 := Lib.hid (belowT B5.out hb20)
      clear hb20
      rcases hFG with ⟨rfl, rfl | ⟨rfl, hlt2⟩⟩ | ⟨rfl, rfl, hle, rfl, hmod, hbd⟩
      · go_wp2_with fail
        go_ret
        exact ⟨ret_bool (by simp), belowT BV.out B5.out⟩
      · have hdl : decide (ra < rr) = true := by simpa using hlt2
        go_wp2_with fail
        go_ret
        exact ⟨ret_bool (by simp), belowT BV.out B5.out⟩
      · have HCJ := Lib.hid (fun W hW => copyInts_any Am tn cm ys W (by omega) hm0 hW)
        have HCPT := Lib.hid (HCP0.out rfl)
        have hdl : decide (ra < rr) = false := by simp; omega
        go_wp2_with fail
        refine wp_region_mp [mpEq (.agg #[.int .i64 t, .int .i64 lo, .int .i64 hi, .int .i64 st, .int .i64 ra]), mpEq (.slice T7 tn c7), mpI2 tn f, mpEq (.slice Am tn cm), mpI2 tn ys, mpEq (.tuple #[.int .i64 T, .int .i64 0]), mpEq (.tuple #[.int .i64 T, .int .i64 0]), mpEq (.int .i64 T), mpEq (.int .i64 0), mpEq (.int .i64 T), mpEq (.int .i64 0)] mu7 (by kernel_rfl) (by kernel_rfl) (by kernel_rfl) (
            allOps_cons (fun a' w' hb hs hd => rg_op fun K hK => by
          have e1 := (hs.get 4 (by kernel_rfl)).trans (show _ = Value.pointer (some ⟨w.heap.size + 1, 0, none⟩) from rfl)
          have c0 := keep hb m0
          have c1 := keep hb m1
          have c2 := keep hb m2
          have c3 := keep hb m3
          have c4 := keep hb m4
          clear hs hd
          unfold Oper.wp
          generalize a'.eval = ρ at e1 ⊢
          simp [go_sem, e1, c0, c1, c2, c3, c4]
          exact hK _ _ (Below.refl _ _) rfl) <|
            allOps_cons (fun a' w' hb hs hd => rg_op fun K hK => by
          have e1 := (hs.get 7 (by kernel_rfl)).trans (show _ = .slice T7 tn c7 from rfl)
          clear hs hd
          unfold Oper.wp
          generalize a'.eval = ρ at e1 ⊢
          simp [go_sem, e1]
          exact hK _ _ (Below.refl _ _) rfl) <|
            allOps_cons (fun a' w' hb hs hd => by
          exact rg_fn (φ := (mpI2 tn f).p) (vs := #[.slice T7 tn c7]) rfl (enters_of Tryz.func17 (by kernel_rfl) rfl) (by simp [(show a'.eval (.tmp 229) = .slice T7 tn c7 from hd.get 1 229 (by kernel_rfl) (by kernel_rfl))]) ((HCI.out w' (HI7.out.below hb)).mono (by rintro e w1 ⟨A1, c1, rfl, h1, h2⟩; exact ⟨_, rfl, h2, A1, c1, rfl, h1⟩))) <|
            allOps_cons (fun a' w' hb hs hd => rg_op fun K hK => by
          have e1 := (hs.get 15 (by kernel_rfl)).trans (show _ = .slice Am tn cm from rfl)
          clear hs hd
          unfold Oper.wp
          generalize a'.eval = ρ at e1 ⊢
          simp [go_sem, e1]
          exact hK _ _ (Below.refl _ _) rfl) <|
            allOps_cons (fun a' w' hb hs hd => by
          exact rg_fn (φ := (mpI2 tn ys).p) (vs := #[.slice Am tn cm]) rfl (enters_of Tryz.func17 (by kernel_rfl) rfl) (by simp [(show a'.eval (.tmp 231) = .slice Am tn cm from hd.get 3 231 (by kernel_rfl) (by kernel_rfl))]) ((HCJ.out w' (HM.out.below hb)).mono (by rintro e w1 ⟨A1, c1, rfl, h1, h2⟩; exact ⟨_, rfl, h2, A1, c1, rfl, h1⟩))) <|
            allOps_cons (fun a' w' hb hs hd => by
          exact rg_fn (φ := (mpEq (.tuple #[.int .i64 T, .int .i64 0])).p) (vs := #[.agg #[.int .i64 t, .int .i64 lo, .int .i64 hi, .int .i64 st, .int .i64 ra], a'.eval (.tmp 230), a'.eval (.tmp 232)]) rfl (enters_of Tryz.func19 (by kernel_rfl) rfl) (by simp [(show a'.eval (.tmp 228) = .agg #[.int .i64 t, .int .i64 lo, .int .i64 hi, .int .i64 st, .int .i64 ra] from hd.get 0 228 (by kernel_rfl) (by kernel_rfl))]) (by obtain ⟨A1, c1, hv, h1⟩ := (show (mpI2 tn f).p (a'.eval (.tmp 230)) w' from hd.get 2 230 (by kernel_rfl) (by kernel_rfl)); obtain ⟨A2, c2, hv2, h2⟩ := (show (mpI2 tn ys).p (a'.eval (.tmp 232)) w' from hd.get 4 232 (by kernel_rfl) (by kernel_rfl)); rw [hv, hv2]; exact (HCPT.out w' A1 c1 A2 c2 h1 h2).mono (by rintro e w1 ⟨rfl, h1⟩; exact ⟨_, rfl, h1, rfl⟩))) <|
            allOps_cons (fun a' w' hb hs hd => rg_op fun K hK => by
          have e1 := (show a'.eval (.tmp 233) = .tuple #[.int .i64 T, .int .i64 0] from hd.get 5 233 (by kernel_rfl) (by kernel_rfl))
          clear hs hd
          unfold Oper.wp
          generalize a'.eval = ρ at e1 ⊢
          simp [go_sem, e1]
          exact hK _ _ (Below.refl _ _) rfl) <|
            allOps_cons (fun a' w' hb hs hd => rg_op fun K hK => by
          have e1 := (show a'.eval (.tmp 227) = .tuple #[.int .i64 T, .int .i64 0] from hd.get 6 227 (by kernel_rfl) (by kernel_rfl))
          clear hs hd
          unfold Oper.wp
          generalize a'.eval = ρ at e1 ⊢
          simp [go_sem, e1]
          exact hK _ _ (Below.refl _ _) rfl) <|
            allOps_cons (fun a' w' hb hs hd => rg_op fun K hK => by
          have e1 := (show a'.eval (.tmp 227) = .tuple #[.int .i64 T, .int .i64 0] from hd.get 6 227 (by kernel_rfl) (by kernel_rfl))
          clear hs hd
          unfold Oper.wp
          generalize a'.eval = ρ at e1 ⊢
          simp [go_sem, e1]
          exact hK _ _ (Below.refl _ _) rfl) <|
            allOps_cons (fun a' w' hb hs hd => rg_op fun K hK => by
          have e1 := (show a'.eval (.tmp 234) = .int .i64 T from hd.get 7 234 (by kernel_rfl) (by kernel_rfl))
          clear hs hd
          unfold Oper.wp
          generalize a'.eval = ρ at e1 ⊢
          simp [go_sem, e1]
          exact hK _ _ (Below.refl _ _) rfl) <|
            allOps_cons (fun a' w' hb hs hd => rg_op fun K hK => by
          have e1 := (show a'.eval (.tmp 235) = .int .i64 0 from hd.get 8 235 (by kernel_rfl) (by kernel_rfl))
          clear hs hd
          unfold Oper.wp
          generalize a'.eval = ρ at e1 ⊢
          simp [go_sem, e1]
          exact hK _ _ (Below.refl _ _) rfl) <| allOps_nil) (fun Z23 w23 hb23 hall => ?_)
        have hx0 : Z23 20 = .int .i64 T := hall.get 9 rfl
        have hx1 : Z23 21 = .int .i64 0 := hall.get 10 rfl
        clear hall
        simp only [mu7, maskPut, Nat.reduceAdd]
        rw [hx0, hx1]
        clear hx0 hx1
        replace m0 := keep hb23 m0
        replace m1 := keep hb23 m1
        replace m2 := keep hb23 m2
        replace m3 := keep hb23 m3
        replace m4 := keep hb23 m4
        replace HI7 := Lib.hid (HI7.out.below hb23)
        replace HM := Lib.hid (HM.out.below hb23)
        replace B5 := Lib.hid (belowT B5.out hb23)
        clear hb23
        clear HCI HCJ HCPT
        go_wp2_with fail
        go_loopw [22] (fun i wr2 => ∃ p : Nat, p ≤ tn ∧ i = .int .i64 p ∧ Below w23.heap.size w23 wr2) (fun i _ => tn - (intOf i).toNat)
        case atStart => exact ⟨0, Nat.zero_le _, rfl, Below.refl _ _⟩
        case round =>
          obtain ⟨p, hp, rfl, hb2⟩ := hrel
          by_cases hlp : p < tn
          · obtain ⟨r1, o1, rfl, hc1⟩ := HI7.out (by omega)
            obtain ⟨r2, o2, rfl, hc2⟩ := HM.out (by omega)
            have q1 := keep hb2 (hc1 p hlp)
            have q2 := keep hb2 (hc2 p hlp)
            have z1 : (0 : Int) ≤ (p : Int) := by omega
            have z2 : (p : Int) < (tn : Int) := by omega
            obtain ⟨y1, y2⟩ := hbd p hlp
            have HMD : ∀ W, Hid (Calls Tryz.prog 20 #[.int .i64 (ys p), .int .i64 4] W fun e w' => e = .returned (.int .i64 (f p)) ∧ W = w') := fun W => by
              have := bmod_any (ys p) 4 (by omega) (by omega) y1 y2 W
              rw [hmod p hlp] at this
              exact this
            clear hbd hmod hc1 hc2
            go_wp2_with fail
            go_quiet ((go_at_call 20; exact Calls.quiet_of_same ((HMD _).out.mono (fun _ _ h => ⟨h.1, h.2.symm⟩))))
            go_wp2_with fail
            go_roundw
            case rel => exact ⟨p + 1, by omega, by go_num, by first | exact hb2 | exact below_drewN hb2 _⟩
            case measure => simp [intOf]; omega
          · go_wp2_with fail
            go_ret
            exact ⟨rfl, belowT BV.out (belowT B5.out hb2)⟩
end Go.Proofs.YtjncjoaohonmjaaGreat
