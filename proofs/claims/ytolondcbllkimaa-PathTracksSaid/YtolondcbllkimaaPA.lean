/- Helpers: the document's own arithmetic (rounding, squares, ticks) and its error of a knot. -/
import Derived.Test.YtolondcbllkimaaZ0
import Derived.Test.YtolondcbllkimaaX
import Derived.Test.YtolondcbllkimaaC2
namespace Go.Proofs.Ytolondcbllkimaa
open Go.RowKit Go.Shelf Go.Sort
attribute [local go_sem] idx3_0 idx3_1 idx3_2 old1 fro1 old2 fro2 old3 fro3 old4 fro4 old5 fro5 old6 fro6 old7 fro7 old8 fro8 old9 fro9 old10 fro10 old11 fro11 old12 fro12
set_option maxRecDepth 100000 in
set_option maxHeartbeats 400000 in
theorem bfloor_any (num den : Int) (hd : 0 < den) (hd2 : den ≤ 4611686018427387904) (h1 : -4611686018427387904 ≤ num) (h2 : num ≤ 4611686018427387904) (w : World) :
    Calls Try.prog 98 #[.int .i64 num, .int .i64 den] w fun e w' => e = .returned (.int .i64 (num / den)) ∧ w = w' := by
  obtain ⟨q1, q2, q3, q4⟩ := tdiv_bd num den hd h1 h2
  have hne : ¬ den = 0 := by omega
  have e1 := Int.tdiv_mul_add_tmod num den
  have e2 := Int.mul_ediv_add_emod num den
  have u1 : IntKind.i64.wrap (num.tdiv den) = num.tdiv den := IntWalk.i64_in _ (by omega)
  have u2 : IntKind.i64.wrap (num.tdiv den - 1) = num.tdiv den - 1 := IntWalk.i64_in _ (by omega)
  rcases mod_parts num den (by omega) with ⟨a, b, c⟩ | ⟨a, b, c⟩
  · have u3 : IntKind.i64.wrap (num.tmod den) = num.tmod den := IntWalk.i64_in _ (by omega)
    have HR : Hid (num.tdiv den - 1 = num / den) := by
      show num.tdiv den - 1 = num / den
      rw [← b] at e2
      have e3 : num.tdiv den * den = den * num.tdiv den := Int.mul_comm _ _
      have e4 : den * (num / den) = den * (num.tdiv den - 1) := by rw [Int.mul_sub, Int.mul_one]; omega
      exact (Int.eq_of_mul_eq_mul_left hne e4).symm
    have HP := Lib.hid a
    have p1 : num.tmod den < 0 := a
    clear e1 e2 a b c
    go_enter Try.func98, Try.ntmps98
    go_wp2
    go_ret
    exact ⟨ret_int HR.out, rfl⟩
  · have u3 : IntKind.i64.wrap (num.tmod den) = num.tmod den := IntWalk.i64_in _ (by omega)
    have HR : Hid (num.tdiv den = num / den) := by
      show num.tdiv den = num / den
      rw [← b] at e2
      have e3 : num.tdiv den * den = den * num.tdiv den := Int.mul_comm _ _
      have e4 : den * (num / den) = den * num.tdiv den := by omega
      exact (Int.eq_of_mul_eq_mul_left hne e4).symm
    have p1 : ¬ num.tmod den < 0 := by omega
    clear e1 e2 a b c
    go_enter Try.func98, Try.ntmps98
    go_wp2
    go_ret
    exact ⟨ret_int HR.out, rfl⟩
set_option maxRecDepth 100000 in
set_option maxHeartbeats 400000 in
theorem bceil_any (num den : Int) (hd : 0 < den) (hd2 : den ≤ 4611686018427387904) (h1 : -4611686018427387904 ≤ num) (h2 : num ≤ 4611686018427387904) (w : World) :
    Calls Try.prog 99 #[.int .i64 num, .int .i64 den] w fun e w' => e = .returned (.int .i64 (-(-num / den))) ∧ w = w' := by
  have hb : -4611686018427387904 ≤ -num / den ∧ -num / den ≤ 4611686018427387904 := by
    have := floor_plain (-num) den hd
    have := tdiv_bd (-num) den hd (by omega) (by omega)
    have h1 : -num ≤ -num / den ∨ 0 ≤ -num / den := by
      by_cases h : 0 ≤ -num
      · right; exact Int.ediv_nonneg h (by omega)
      · left; exact (Int.le_ediv_iff_mul_le hd).2 (by have := Int.mul_le_mul_of_nonpos_left (show -num ≤ 0 by omega) (show 1 ≤ den by omega); omega)
    omega
  obtain ⟨b1, b2⟩ := hb
  go_enter Try.func99, Try.ntmps99
  go_wp2_with (go_at_call 98; refine (bfloor_any _ _ hd hd2 (by omega) (by omega) _).mono ?_; rintro e w' ⟨rfl, rfl⟩)
  go_ret
  exact ⟨rfl, rfl⟩
set_option maxRecDepth 100000 in
set_option maxHeartbeats 400000 in
theorem btick_any (x : Int) (w : World) : Calls Try.prog 93 #[.int .i64 x] w fun e w' => e = .returned (.bool (wi x 0 1000000000000)) ∧ w = w' := by
  go_enter Try.func93, Try.ntmps93
  go_wp2_with (go_at_call 26; (with_reducible refine (bwithin_any _ _ _ _).mono ?_); rintro e w' ⟨rfl, rfl⟩)
  go_ret
  exact ⟨rfl, rfl⟩
set_option maxRecDepth 100000 in
set_option maxHeartbeats 800000 in
theorem bminus_any (x y z x0 y0 z0 : Int) (a1 : -1000000 ≤ x) (a2 : x ≤ 1000000) (a3 : -1000000 ≤ y) (a4 : y ≤ 1000000) (a5 : -1000000 ≤ z) (a6 : z ≤ 1000000) (b1 : -1000000 ≤ x0) (b2 : x0 ≤ 1000000) (b3 : -1000000 ≤ y0) (b4 : y0 ≤ 1000000) (b5 : -1000000 ≤ z0) (b6 : z0 ≤ 1000000) (w : World) :
    Calls Try.prog 95 #[.agg #[.int .i64 x, .int .i64 y, .int .i64 z], .agg #[.int .i64 x0, .int .i64 y0, .int .i64 z0]] w fun e w' => e = .returned (.agg #[.int .i64 (x - x0), .int .i64 (y - y0), .int .i64 (z - z0)]) ∧ Below w.heap.size w w' := by
  have u1 : IntKind.i64.wrap (x - x0) = x - x0 := IntWalk.i64_in _ (by omega)
  have u2 : IntKind.i64.wrap (y - y0) = y - y0 := IntWalk.i64_in _ (by omega)
  have u3 : IntKind.i64.wrap (z - z0) = z - z0 := IntWalk.i64_in _ (by omega)
  go_enter Try.func95, Try.ntmps95
  go_wp2_with fail
  refine bodyPost_ret (v := .agg #[.int .i64 (x - x0), .int .i64 (y - y0), .int .i64 (z - z0)]) (by simp [results, Try.results95, go_sem]) rfl ⟨rfl, by (repeat (first | with_reducible exact Below.refl _ _ | with_reducible assumption | with_reducible refine Below.alloc ?_ (by first | (simp; done) | (simp; omega) | omega) _ | with_reducible refine Below.setCell ?_ (by first | (simp; done) | (simp; omega) | omega) _ | with_reducible refine Below.drew ?_ | with_reducible refine below_drewN ?_ _))⟩
def sq3 (x y z : Int) : Int := x * x + y * y + z * z
theorem sq3_bd {x y z : Int} (a1 : -2000000 ≤ x) (a2 : x ≤ 2000000) (a3 : -2000000 ≤ y) (a4 : y ≤ 2000000) (a5 : -2000000 ≤ z) (a6 : z ≤ 2000000) : (0 ≤ x * x ∧ x * x ≤ 4000000000000) ∧ (0 ≤ y * y ∧ y * y ≤ 4000000000000) ∧ (0 ≤ z * z ∧ z * z ≤ 4000000000000) :=
  ⟨⟨sq_nn x, by have := sq_bd a1 a2; omega⟩, ⟨sq_nn y, by have := sq_bd a3 a4; omega⟩, ⟨sq_nn z, by have := sq_bd a5 a6; omega⟩⟩
set_option maxRecDepth 100000 in
set_option maxHeartbeats 800000 in
theorem bdot_any (x y z : Int) (a1 : -2000000 ≤ x) (a2 : x ≤ 2000000) (a3 : -2000000 ≤ y) (a4 : y ≤ 2000000) (a5 : -2000000 ≤ z) (a6 : z ≤ 2000000) (w : World) :
    Calls Try.prog 123 #[.agg #[.int .i64 x, .int .i64 y, .int .i64 z], .agg #[.int .i64 x, .int .i64 y, .int .i64 z]] w fun e w' => e = .returned (.int .i64 (sq3 x y z)) ∧ Below w.heap.size w w' := by
  obtain ⟨⟨p1, p2⟩, ⟨p3, p4⟩, ⟨p5, p6⟩⟩ := sq3_bd a1 a2 a3 a4 a5 a6
  have u1 : IntKind.i64.wrap (x * x) = x * x := IntWalk.i64_in _ (by omega)
  have u2 : IntKind.i64.wrap (y * y) = y * y := IntWalk.i64_in _ (by omega)
  have u3 : IntKind.i64.wrap (z * z) = z * z := IntWalk.i64_in _ (by omega)
  have u4 : IntKind.i64.wrap (x * x + y * y) = x * x + y * y := IntWalk.i64_in _ (by omega)
  have u5 : IntKind.i64.wrap (x * x + y * y + z * z) = x * x + y * y + z * z := IntWalk.i64_in _ (by omega)
  clear p1 p2 p3 p4 p5 p6
  go_enter Try.func123, Try.ntmps123
  go_wp2_with fail
  go_ret
  exact ⟨rfl, by (repeat (first | with_reducible exact Below.refl _ _ | with_reducible assumption | with_reducible refine Below.alloc ?_ (by first | (simp; done) | (simp; omega) | omega) _ | with_reducible refine Below.setCell ?_ (by first | (simp; done) | (simp; omega) | omega) _ | with_reducible refine Below.drew ?_ | with_reducible refine below_drewN ?_ _))⟩
set_option maxRecDepth 100000 in
set_option maxHeartbeats 800000 in
theorem bsquare_any (x y z : Int) (a1 : -2000000 ≤ x) (a2 : x ≤ 2000000) (a3 : -2000000 ≤ y) (a4 : y ≤ 2000000) (a5 : -2000000 ≤ z) (a6 : z ≤ 2000000) (w : World) :
    Calls Try.prog 94 #[.agg #[.int .i64 x, .int .i64 y, .int .i64 z]] w fun e w' => e = .returned (.int .i64 (sq3 x y z)) ∧ Below w.heap.size w w' := by
  go_enter Try.func94, Try.ntmps94
  go_wp2_with (go_at_call 123; (with_reducible refine Calls.mono (bdot_any x y z a1 a2 a3 a4 a5 a6 _) ?_); rintro e w1 ⟨rfl, hb1⟩; have B1 := thenB (show Below w.heap.size w _ by (repeat (first | with_reducible exact Below.refl _ _ | with_reducible assumption | with_reducible refine Below.alloc ?_ (by first | (simp; done) | (simp; omega) | omega) _ | with_reducible refine Below.setCell ?_ (by first | (simp; done) | (simp; omega) | omega) _ | with_reducible refine Below.drew ?_ | with_reducible refine below_drewN ?_ _))) hb1)
  go_ret
  exact ⟨rfl, B1⟩
theorem psum_sq3 (x y z x0 y0 z0 : Int) : psum x y z x0 y0 z0 3 = 4 * sq3 (x - x0) (y - y0) (z - z0) := by
  simp only [psum, sq3, show (0 : Int) < 3 by decide, show (1 : Int) < 3 by decide, show (2 : Int) < 3 by decide, if_true]
  generalize x - x0 = a
  generalize y - y0 = b
  generalize z - z0 = c
  rw [show 2 * a * (2 * a) = 4 * (a * a) by rw [Int.mul_assoc, Int.mul_left_comm a 2 a, ← Int.mul_assoc]; rfl, show 2 * b * (2 * b) = 4 * (b * b) by rw [Int.mul_assoc, Int.mul_left_comm b 2 b, ← Int.mul_assoc]; rfl, show 2 * c * (2 * c) = 4 * (c * c) by rw [Int.mul_assoc, Int.mul_left_comm c 2 c, ← Int.mul_assoc]; rfl]
  omega
end Go.Proofs.Ytolondcbllkimaa
