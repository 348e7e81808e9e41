/- Helpers: contracts of the smallest functions that the statements of this seat reach (numbers, squares, comparisons). No condition but the bounds that each theorem names. -/
import Derived.Test.YtjncjoaohonmjaaGreatRows
import Derived.WalkKit
import Derived.WalkSpells
import Derived.WalkLawsBesides
import Derived.Shelf.Bits.Mul64
import Derived.Laws.Externs
import Derived.Deep.QuietTactic
import Derived.BigQuiet
import Derived.Lib.Hide
import Derived.Deep.RegionHeld3
import Derived.Deep.LoopGhost
import Derived.Shelf.SlSorted.Search
namespace Go.Proofs
open Go.Shelf
def Tryz.lays264_ren : Go.Shelf.Ren := ⟨fun | 264 => 118 | n => n, fun | 53 => 119 | 46 => 145 | n => n, fun | n => n⟩
theorem Tryz.lays264 : Go.Proofs.Lays.n264 Tryz.prog Tryz.lays264_ren := {
  mixed := by kernel_rfl
  f264 := Tryz.func118.trans (congrArg some (by kernel_rfl))
  t46 := Tryz.underlying145
  a46 := Tryz.isAgg145
  z46 := Tryz.sizeOf145
  v46 := Tryz.zeroValue145
  t53 := Tryz.underlying119
  a53 := Tryz.isAgg119
  z53 := Tryz.sizeOf119
  v53 := Tryz.zeroValue119 }
end Go.Proofs
namespace Go.Proofs.YtjncjoaohonmjaaGreat
open Go.RowKit Go.Shelf

/-! ### plain words -/
def wi (x lo hi : Int) : Bool := decide (lo ≤ x ∧ x ≤ hi)
theorem wi_t {x lo hi : Int} : wi x lo hi = true ↔ lo ≤ x ∧ x ≤ hi := by simp [wi]
theorem wi_f {x lo hi : Int} : wi x lo hi = false ↔ ¬ (lo ≤ x ∧ x ≤ hi) := by simp [wi]
def siz (x : Int) : Int := (x.natAbs : Int)
theorem siz_nn (x : Int) : 0 ≤ siz x := by unfold siz; omega
theorem siz_le {x b : Int} (h1 : -b ≤ x) (h2 : x ≤ b) : siz x ≤ b := by unfold siz; omega
theorem siz_sq (x : Int) : siz x * siz x = x * x := by unfold siz; exact Int.natAbs_mul_self' x
theorem siz_of (x : Int) : siz x = x ∨ siz x = -x := by unfold siz; omega
theorem sq_nn (x : Int) : 0 ≤ x * x := by
  rcases Int.le_total 0 x with h | h
  · exact Int.mul_nonneg h h
  · exact Int.mul_nonneg_of_nonpos_of_nonpos h h
theorem sq_bd {x b : Int} (h1 : -b ≤ x) (h2 : x ≤ b) : x * x ≤ b * b := by
  rw [← siz_sq x]
  exact Int.mul_le_mul (siz_le h1 h2) (siz_le h1 h2) (siz_nn x) (by omega)
def sqh (n : Int) : Int := n / 18446744073709551616
def sql (n : Int) : Int := n % 18446744073709551616
theorem sqh_0 : (0 : Int) = sqh 0 := by decide
theorem sql_0 : (0 : Int) = sql 0 := by decide
theorem sqh_nn {n : Int} (h : 0 ≤ n) : 0 ≤ sqh n := by unfold sqh; omega
theorem sqh_lt {n : Int} (h : n < 340282366920938463463374607431768211456) : sqh n < 18446744073709551616 := by unfold sqh; omega
theorem sql_nn (n : Int) : 0 ≤ sql n := by unfold sql; omega
theorem sql_lt (n : Int) : sql n < 18446744073709551616 := by unfold sql; omega
theorem ret_int {k : IntKind} {a b : Int} (h : a = b) : Ending.returned (.int k a) = .returned (.int k b) := by rw [h]
theorem ret_bool {a b : Bool} (h : a = b) : Ending.returned (.bool a) = .returned (.bool b) := by rw [h]
theorem bcell {W w1 : World} {B : Nat} (hb : Below B W w1) : (∀ b o, b < B → w1.cell? ⟨b, o, none⟩ = W.cell? ⟨b, o, none⟩) ∧ (∀ b o, b < B → w1.frozen? ⟨b, o, none⟩ = W.frozen? ⟨b, o, none⟩) :=
  ⟨fun b o h => hb.cell (p := ⟨b, o, none⟩) h, fun b o h => hb.frozen (p := ⟨b, o, none⟩) h⟩
theorem old1 {w : World} {a : Addr} {p1 : Obj} (h : (w.cell? a).isSome = true) : (w.alloc p1).cell? a = w.cell? a := World.cell?_alloc_some w a p1 h
theorem fro1 {w : World} {a : Addr} {p1 : Obj} (h : (w.cell? a).isSome = true) : (w.alloc p1).frozen? a = w.frozen? a := by
  obtain ⟨v, hv⟩ := Option.isSome_iff_exists.1 h
  exact World.frozen?_alloc_old _ _ _ (by have := World.block_lt_of_cell? _ _ hv; omega)
theorem old2 {w : World} {a : Addr} {p1 p2 : Obj} (h : (w.cell? a).isSome = true) : ((w.alloc p1).alloc p2).cell? a = w.cell? a := by rw [old1 (by rw [old1 h]; exact h), old1 h]
theorem fro2 {w : World} {a : Addr} {p1 p2 : Obj} (h : (w.cell? a).isSome = true) : ((w.alloc p1).alloc p2).frozen? a = w.frozen? a := by rw [fro1 (by rw [old1 h]; exact h), fro1 h]
theorem old3 {w : World} {a : Addr} {p1 p2 p3 : Obj} (h : (w.cell? a).isSome = true) : (((w.alloc p1).alloc p2).alloc p3).cell? a = w.cell? a := by rw [old1 (by rw [old2 h]; exact h), old2 h]
theorem fro3 {w : World} {a : Addr} {p1 p2 p3 : Obj} (h : (w.cell? a).isSome = true) : (((w.alloc p1).alloc p2).alloc p3).frozen? a = w.frozen? a := by rw [fro1 (by rw [old2 h]; exact h), fro2 h]
theorem old4 {w : World} {a : Addr} {p1 p2 p3 p4 : Obj} (h : (w.cell? a).isSome = true) : ((((w.alloc p1).alloc p2).alloc p3).alloc p4).cell? a = w.cell? a := by rw [old1 (by rw [old3 h]; exact h), old3 h]
theorem fro4 {w : World} {a : Addr} {p1 p2 p3 p4 : Obj} (h : (w.cell? a).isSome = true) : ((((w.alloc p1).alloc p2).alloc p3).alloc p4).frozen? a = w.frozen? a := by rw [fro1 (by rw [old3 h]; exact h), fro3 h]
theorem old5 {w : World} {a : Addr} {p1 p2 p3 p4 p5 : Obj} (h : (w.cell? a).isSome = true) : (((((w.alloc p1).alloc p2).alloc p3).alloc p4).alloc p5).cell? a = w.cell? a := by rw [old1 (by rw [old4 h]; exact h), old4 h]
theorem fro5 {w : World} {a : Addr} {p1 p2 p3 p4 p5 : Obj} (h : (w.cell? a).isSome = true) : (((((w.alloc p1).alloc p2).alloc p3).alloc p4).alloc p5).frozen? a = w.frozen? a := by rw [fro1 (by rw [old4 h]; exact h), fro4 h]
theorem old6 {w : World} {a : Addr} {p1 p2 p3 p4 p5 p6 : Obj} (h : (w.cell? a).isSome = true) : ((((((w.alloc p1).alloc p2).alloc p3).alloc p4).alloc p5).alloc p6).cell? a = w.cell? a := by rw [old1 (by rw [old5 h]; exact h), old5 h]
theorem fro6 {w : World} {a : Addr} {p1 p2 p3 p4 p5 p6 : Obj} (h : (w.cell? a).isSome = true) : ((((((w.alloc p1).alloc p2).alloc p3).alloc p4).alloc p5).alloc p6).frozen? a = w.frozen? a := by rw [fro1 (by rw [old5 h]; exact h), fro5 h]
theorem old7 {w : World} {a : Addr} {p1 p2 p3 p4 p5 p6 p7 : Obj} (h : (w.cell? a).isSome = true) : (((((((w.alloc p1).alloc p2).alloc p3).alloc p4).alloc p5).alloc p6).alloc p7).cell? a = w.cell? a := by rw [old1 (by rw [old6 h]; exact h), old6 h]
theorem fro7 {w : World} {a : Addr} {p1 p2 p3 p4 p5 p6 p7 : Obj} (h : (w.cell? a).isSome = true) : (((((((w.alloc p1).alloc p2).alloc p3).alloc p4).alloc p5).alloc p6).alloc p7).frozen? a = w.frozen? a := by rw [fro1 (by rw [old6 h]; exact h), fro6 h]
theorem old8 {w : World} {a : Addr} {p1 p2 p3 p4 p5 p6 p7 p8 : Obj} (h : (w.cell? a).isSome = true) : ((((((((w.alloc p1).alloc p2).alloc p3).alloc p4).alloc p5).alloc p6).alloc p7).alloc p8).cell? a = w.cell? a := by rw [old1 (by rw [old7 h]; exact h), old7 h]
theorem fro8 {w : World} {a : Addr} {p1 p2 p3 p4 p5 p6 p7 p8 : Obj} (h : (w.cell? a).isSome = true) : ((((((((w.alloc p1).alloc p2).alloc p3).alloc p4).alloc p5).alloc p6).alloc p7).alloc p8).frozen? a = w.frozen? a := by rw [fro1 (by rw [old7 h]; exact h), fro7 h]
theorem old9 {w : World} {a : Addr} {p1 p2 p3 p4 p5 p6 p7 p8 p9 : Obj} (h : (w.cell? a).isSome = true) : (((((((((w.alloc p1).alloc p2).alloc p3).alloc p4).alloc p5).alloc p6).alloc p7).alloc p8).alloc p9).cell? a = w.cell? a := by rw [old1 (by rw [old8 h]; exact h), old8 h]
theorem fro9 {w : World} {a : Addr} {p1 p2 p3 p4 p5 p6 p7 p8 p9 : Obj} (h : (w.cell? a).isSome = true) : (((((((((w.alloc p1).alloc p2).alloc p3).alloc p4).alloc p5).alloc p6).alloc p7).alloc p8).alloc p9).frozen? a = w.frozen? a := by rw [fro1 (by rw [old8 h]; exact h), fro8 h]
theorem old10 {w : World} {a : Addr} {p1 p2 p3 p4 p5 p6 p7 p8 p9 p10 : Obj} (h : (w.cell? a).isSome = true) : ((((((((((w.alloc p1).alloc p2).alloc p3).alloc p4).alloc p5).alloc p6).alloc p7).alloc p8).alloc p9).alloc p10).cell? a = w.cell? a := by rw [old1 (by rw [old9 h]; exact h), old9 h]
theorem fro10 {w : World} {a : Addr} {p1 p2 p3 p4 p5 p6 p7 p8 p9 p10 : Obj} (h : (w.cell? a).isSome = true) : ((((((((((w.alloc p1).alloc p2).alloc p3).alloc p4).alloc p5).alloc p6).alloc p7).alloc p8).alloc p9).alloc p10).frozen? a = w.frozen? a := by rw [fro1 (by rw [old9 h]; exact h), fro9 h]
theorem old11 {w : World} {a : Addr} {p1 p2 p3 p4 p5 p6 p7 p8 p9 p10 p11 : Obj} (h : (w.cell? a).isSome = true) : (((((((((((w.alloc p1).alloc p2).alloc p3).alloc p4).alloc p5).alloc p6).alloc p7).alloc p8).alloc p9).alloc p10).alloc p11).cell? a = w.cell? a := by rw [old1 (by rw [old10 h]; exact h), old10 h]
theorem fro11 {w : World} {a : Addr} {p1 p2 p3 p4 p5 p6 p7 p8 p9 p10 p11 : Obj} (h : (w.cell? a).isSome = true) : (((((((((((w.alloc p1).alloc p2).alloc p3).alloc p4).alloc p5).alloc p6).alloc p7).alloc p8).alloc p9).alloc p10).alloc p11).frozen? a = w.frozen? a := by rw [fro1 (by rw [old10 h]; exact h), fro10 h]
theorem old12 {w : World} {a : Addr} {p1 p2 p3 p4 p5 p6 p7 p8 p9 p10 p11 p12 : Obj} (h : (w.cell? a).isSome = true) : ((((((((((((w.alloc p1).alloc p2).alloc p3).alloc p4).alloc p5).alloc p6).alloc p7).alloc p8).alloc p9).alloc p10).alloc p11).alloc p12).cell? a = w.cell? a := by rw [old1 (by rw [old11 h]; exact h), old11 h]
theorem fro12 {w : World} {a : Addr} {p1 p2 p3 p4 p5 p6 p7 p8 p9 p10 p11 p12 : Obj} (h : (w.cell? a).isSome = true) : ((((((((((((w.alloc p1).alloc p2).alloc p3).alloc p4).alloc p5).alloc p6).alloc p7).alloc p8).alloc p9).alloc p10).alloc p11).alloc p12).frozen? a = w.frozen? a := by rw [fro1 (by rw [old11 h]; exact h), fro11 h]
theorem below_drewN {B : Nat} {a w : World} (h : Below B a w) (n : Nat) : Below B a (w.drewN n) := ⟨h.os, h.tape, h.output, h.size, h.block⟩

/-! ### bits.Mul64, bits.Add64 -/
theorem mul64 (x y : Int) (hx0 : 0 ≤ x) (hx : x < 18446744073709551616) (hy0 : 0 ≤ y) (hy : y < 18446744073709551616) (w : World) :
    Calls Tryz.prog 118 #[.int .u64 x, .int .u64 y] w fun e w' => e = .returned (.tuple #[.int .u64 (sqh (x * y)), .int .u64 (sql (x * y))]) ∧ w = w' := by
  obtain ⟨x, rfl⟩ := Int.eq_ofNat_of_zero_le hx0
  obtain ⟨y, rfl⟩ := Int.eq_ofNat_of_zero_le hy0
  refine (Any.bits_Mul64 Tryz.lays264 x y (by omega) (by omega) w).mono ?_
  rintro e w' ⟨rfl, rfl⟩
  refine ⟨?_, rfl⟩
  unfold sqh sql
  congr 5
theorem add64 (x y c : Int) (hx : 0 ≤ x) (hy : 0 ≤ y) (hc0 : 0 ≤ c) (hc : c ≤ 1) (w : World) : (callFunc 119 #[.int .u64 x, .int .u64 y, .int .u64 c]).run Tryz.prog w =
    .ok (.value (.tuple #[.int .u64 (sql (x + y + c)), .int .u64 (sqh (x + y + c))])) w := by
  rw [run_callFunc_extern Tryz.func119 (by kernel_rfl) (by kernel_rfl) (by kernel_rfl) (e := add64Entry) (by kernel_rfl), run_add64 x y c hx hy hc0 hc]
  rfl
theorem add64_0 (x y : Int) (hx : 0 ≤ x) (hy : 0 ≤ y) (w : World) : (callFunc 119 #[.int .u64 x, .int .u64 y, .int .u64 0]).run Tryz.prog w =
    .ok (.value (.tuple #[.int .u64 (sql (x + y)), .int .u64 (sqh (x + y))])) w := by
  simpa using add64 x y 0 hx hy (Int.le_refl 0) (by decide) w

theorem idx3_0 (x y z : Int) (w : World) : (Instr.index 73 (.agg #[.int .i64 x, .int .i64 y, .int .i64 z]) (.int .i64 0)).run Tryz.prog w = .ok (.int .i64 x) w := by kernel_rfl
theorem idx3_1 (x y z : Int) (w : World) : (Instr.index 73 (.agg #[.int .i64 x, .int .i64 y, .int .i64 z]) (.int .i64 1)).run Tryz.prog w = .ok (.int .i64 y) w := by kernel_rfl
theorem idx3_2 (x y z : Int) (w : World) : (Instr.index 73 (.agg #[.int .i64 x, .int .i64 y, .int .i64 z]) (.int .i64 2)).run Tryz.prog w = .ok (.int .i64 z) w := by kernel_rfl

/-! ### leaves -/
set_option maxRecDepth 100000 in
set_option maxHeartbeats 400000 in
theorem within_any (x lo hi : Int) (w : World) :
    Calls Tryz.prog 48 #[.int .i64 x, .int .i64 lo, .int .i64 hi] w fun e w' => e = .returned (.bool (wi x lo hi)) ∧ w = w' := by
  by_cases h : lo ≤ x
  · go_enter Tryz.func48, Tryz.ntmps48
    go_wp2
    go_ret
    exact ⟨by simp [wi, h], rfl⟩
  · go_enter Tryz.func48, Tryz.ntmps48
    go_wp2
    go_ret
    exact ⟨ret_bool (wi_f.2 (by omega)).symm, rfl⟩
set_option maxRecDepth 100000 in
set_option maxHeartbeats 400000 in
theorem size_any (x : Int) (h1 : -9223372036854775807 ≤ x) (h2 : x ≤ 9223372036854775807) (w : World) :
    Calls Tryz.prog 51 #[.int .i64 x] w fun e w' => e = .returned (.int .i64 (siz x)) ∧ w = w' := by
  go_enter Tryz.func51, Tryz.ntmps51
  go_wp2
  all_goals (go_ret; exact ⟨ret_int (by unfold siz; omega), rfl⟩)
theorem floor_plain (num den : Int) (hd : 0 < den) : num.tdiv den * den ≤ num ∧ num.tdiv den = num / den ∨ num < num.tdiv den * den ∧ num.tdiv den - 1 = num / den := by
  have e1 := Int.tdiv_mul_add_tmod num den
  have e2 := Int.mul_ediv_add_emod num den
  have h3 := Int.emod_nonneg num (show den ≠ 0 by omega)
  have h4 := Int.emod_lt_of_pos num hd
  rcases Int.lt_or_le num 0 with h | h
  · have h5 : num.tmod den ≤ 0 := (by have := Int.neg_tmod (-num) den; have := Int.tmod_nonneg (a := -num) den (by omega); rw [Int.neg_neg] at *; omega)
    have h6 : -den < num.tmod den := by have := Int.lt_tmod_of_pos num hd; exact this
    by_cases h7 : num.tmod den = 0
    · left
      refine ⟨by omega, ?_⟩
      have h8 : num = num.tdiv den * den := by omega
      have h9 : num / den = (num.tdiv den * den) / den := by rw [← h8]
      rw [h9, Int.mul_ediv_cancel _ (by omega)]
    · right
      refine ⟨by omega, ?_⟩
      have h8 : num = num.tmod den + den + den * (num.tdiv den - 1) := by
        rw [Int.mul_sub, Int.mul_one, Int.mul_comm]; omega
      have h9 : num / den = (num.tmod den + den + den * (num.tdiv den - 1)) / den := by rw [← h8]
      rw [h9, Int.add_mul_ediv_left _ _ (by omega), Int.ediv_eq_zero_of_lt (by omega) (by omega)]
      omega
  · left
    rw [Int.tdiv_eq_ediv_of_nonneg h]
    exact ⟨by have : num / den * den = den * (num / den) := Int.mul_comm _ _; omega, rfl⟩
theorem tdiv_bd (num den : Int) (hd : 0 < den) (h1 : -4611686018427387904 ≤ num) (h2 : num ≤ 4611686018427387904) :
    -4611686018427387904 ≤ num.tdiv den ∧ num.tdiv den ≤ 4611686018427387904 ∧ -4611686018427387904 ≤ num.tdiv den * den ∧ num.tdiv den * den ≤ 4611686018427387904 := by
  have e1 := Int.tdiv_mul_add_tmod num den
  rcases Int.lt_or_le num 0 with h | h
  · have h5 : num.tmod den ≤ 0 := (by have := Int.neg_tmod (-num) den; have := Int.tmod_nonneg (a := -num) den (by omega); rw [Int.neg_neg] at *; omega)
    have h7 : num ≤ num.tdiv den := by
      have := Int.neg_tdiv num den
      have h8 : (-num).tdiv den = (-num) / den := Int.tdiv_eq_ediv_of_nonneg (by omega)
      have h9 : (-num) / den ≤ -num := Int.ediv_le_self _ (by omega)
      omega
    have h8 : num.tdiv den ≤ 0 := by
      have := Int.neg_tdiv num den
      have h8 : (-num).tdiv den = (-num) / den := Int.tdiv_eq_ediv_of_nonneg (by omega)
      have h9 : 0 ≤ (-num) / den := Int.ediv_nonneg (by omega) (by omega)
      omega
    have h10 : num.tdiv den * den ≤ 0 := Int.mul_nonpos_of_nonpos_of_nonneg h8 (by omega)
    omega
  · have h5 : 0 ≤ num.tmod den := Int.tmod_nonneg _ h
    have h8 : num.tdiv den = num / den := Int.tdiv_eq_ediv_of_nonneg h
    have h9 : num / den ≤ num := Int.ediv_le_self _ h
    have h10 : 0 ≤ num / den := Int.ediv_nonneg h (by omega)
    have h11 : 0 ≤ num.tdiv den * den := by rw [h8]; exact Int.mul_nonneg h10 (by omega)
    omega
set_option maxRecDepth 100000 in
set_option maxHeartbeats 400000 in
theorem floor_any (num den : Int) (hd : 0 < den) (hd2 : den ≤ 4611686018427387904) (h1 : -4611686018427387904 ≤ num) (h2 : num ≤ 4611686018427387904) (w : World) :
    Calls Tryz.prog 34 #[.int .i64 num, .int .i64 den] w fun e w' => e = .returned (.int .i64 (num / den)) ∧ w = w' := by
  have hp := floor_plain num den hd
  obtain ⟨q1, q2, q3, q4⟩ := tdiv_bd num den hd h1 h2
  have hne : ¬ den = 0 := by omega
  have HP := Lib.hid hp
  clear hp
  go_enter Tryz.func34, Tryz.ntmps34
  go_wp2
  all_goals (go_ret; exact ⟨ret_int (by have := HP.out; omega), rfl⟩)
set_option maxRecDepth 100000 in
set_option maxHeartbeats 400000 in
theorem ceiling_any (num den : Int) (hd : 0 < den) (hd2 : den ≤ 4611686018427387904) (h1 : -4611686018427387904 ≤ num) (h2 : num ≤ 4611686018427387904) (w : World) :
    Calls Tryz.prog 35 #[.int .i64 num, .int .i64 den] w fun e w' => e = .returned (.int .i64 (-(-num / den))) ∧ w = w' := by
  have hb : -4611686018427387904 ≤ -num / den ∧ -num / den ≤ 4611686018427387904 := by
    have := floor_plain (-num) den hd
    have := tdiv_bd (-num) den hd (by omega) (by omega)
    have h1 : -num ≤ -num / den ∨ 0 ≤ -num / den := by
      by_cases h : 0 ≤ -num
      · right; exact Int.ediv_nonneg h (by omega)
      · left; exact (Int.le_ediv_iff_mul_le hd).2 (by have := Int.mul_le_mul_of_nonpos_left (show -num ≤ 0 by omega) (show 1 ≤ den by omega); omega)
    omega
  obtain ⟨b1, b2⟩ := hb
  go_enter Tryz.func35, Tryz.ntmps35
  go_wp2_with (go_at_call 34; refine (floor_any _ _ hd hd2 (by omega) (by omega) _).mono ?_; rintro e w' ⟨rfl, rfl⟩)
  go_ret
  exact ⟨rfl, rfl⟩
set_option maxRecDepth 100000 in
set_option maxHeartbeats 400000 in
theorem squareOf_any (x : Int) (h1 : -9223372036854775807 ≤ x) (h2 : x ≤ 9223372036854775807) (w : World) :
    Calls Tryz.prog 108 #[.int .i64 x] w fun e w' => e = .returned (.agg #[.int .u64 (sqh (x * x)), .int .u64 (sql (x * x))]) ∧ ∃ o1, w' = w.alloc o1 := by
  have hs := siz_nn x
  have hs2 := siz_le h1 h2
  go_enter Tryz.func108, Tryz.ntmps108
  go_wp2_with (first | (go_at_call 51; refine (size_any _ (by omega) (by omega) _).mono ?_; rintro e w' ⟨rfl, rfl⟩) | (go_at_call 118; refine (mul64 _ _ (by omega) (by omega) (by omega) (by omega) _).mono ?_; rintro e w' ⟨rfl, rfl⟩))
  refine bodyPost_ret (v := .agg #[.int .u64 (sqh (siz x * siz x)), .int .u64 (sql (siz x * siz x))]) (by simp [results, Tryz.results108, go_sem]) rfl ⟨by rw [siz_sq], _, rfl⟩
set_option maxRecDepth 100000 in
set_option maxHeartbeats 400000 in
theorem components_any (x y z : Int) (w : World) :
    Calls Tryz.prog 71 #[.agg #[.int .i64 x, .int .i64 y, .int .i64 z]] w fun e w' => e = .returned (.agg #[.int .i64 x, .int .i64 y, .int .i64 z]) ∧ ∃ o1 o2, w' = (w.alloc o1).alloc o2 := by
  go_enter Tryz.func71, Tryz.ntmps71
  go_wp2
  refine bodyPost_ret (v := .agg #[.int .i64 x, .int .i64 y, .int .i64 z]) (by simp [results, Tryz.results71, go_sem]) rfl ⟨rfl, _, _, rfl⟩
theorem sum_plain (a b : Int) : sqh (a + b) = sqh a + sqh b + sqh (sql a + sql b) ∧ sql (a + b) = sql (sql a + sql b) := by unfold sqh sql; omega
set_option maxRecDepth 100000 in
set_option maxHeartbeats 400000 in
theorem plus_any (a b : Int) (ha : 0 ≤ a) (hb : 0 ≤ b) (hab : a + b < 340282366920938463463374607431768211456) (w : World) :
    Calls Tryz.prog 109 #[.agg #[.int .u64 (sqh a), .int .u64 (sql a)], .agg #[.int .u64 (sqh b), .int .u64 (sql b)]] w fun e w' => e = .returned (.agg #[.int .u64 (sqh (a+b)), .int .u64 (sql (a+b))]) ∧ ∃ o1 o2 o3, w' = ((w.alloc o1).alloc o2).alloc o3 := by
  have a1 := sqh_nn ha
  have b1 := sqh_nn hb
  have a2 := sql_nn a
  have b2 := sql_nn b
  have c1 : 0 ≤ sqh (sql a + sql b) := sqh_nn (by omega)
  have c2 : sqh (sql a + sql b) ≤ 1 := by have := sql_lt a; have := sql_lt b; unfold sqh; omega
  have E := Lib.hid (sum_plain a b)
  have E2 : Hid (sql (sqh a + sqh b + sqh (sql a + sql b)) = sqh (a + b)) := by
    have h1 := sqh_lt hab
    have h2 := sqh_nn (show 0 ≤ a + b by omega)
    rw [← E.out.1]
    show sql (sqh (a + b)) = _
    unfold sql; exact Int.emod_eq_of_lt h2 h1
  go_enter Tryz.func109, Tryz.ntmps109
  go_wp2_with (first | simp only [add64_0 _ _ a2 b2] | simp only [add64 _ _ _ a1 b1 c1 c2])
  refine bodyPost_ret (v := .agg #[.int .u64 (sql (sqh a + sqh b + sqh (sql a + sql b))), .int .u64 (sql (sql a + sql b))]) (by simp [results, Tryz.results109, go_sem]) rfl ⟨by rw [E2.out, E.out.2], _, _, _, rfl⟩
theorem plus_of (a b ah al bh bl : Int) (e1 : ah = sqh a) (e2 : al = sql a) (e3 : bh = sqh b) (e4 : bl = sql b) (ha : 0 ≤ a) (hb : 0 ≤ b) (hab : a + b < 340282366920938463463374607431768211456) (w : World) :
    Calls Tryz.prog 109 #[.agg #[.int .u64 ah, .int .u64 al], .agg #[.int .u64 bh, .int .u64 bl]] w fun e w' => e = .returned (.agg #[.int .u64 (sqh (a+b)), .int .u64 (sql (a+b))]) ∧ ∃ o1 o2 o3, w' = ((w.alloc o1).alloc o2).alloc o3 := by
  subst e1 e2 e3 e4
  exact plus_any a b ha hb hab w
def cmp (a b : Int) : Int := if a < b then -1 else if b < a then 1 else 0
set_option maxRecDepth 100000 in
set_option maxHeartbeats 400000 in
theorem cmp_any (a b : Int) (w : World) :
    Calls Tryz.prog 120 #[.int .u64 a, .int .u64 b] w fun e w' => e = .returned (.int .i64 (cmp a b)) ∧ w = w' := by
  go_enter Tryz.func120, Tryz.ntmps120
  go_wp2
  all_goals (go_ret; exact ⟨ret_int (by unfold cmp; split <;> (try split) <;> omega), rfl⟩)
def cmp2 (a1 a2 b1 b2 : Int) : Int := if cmp a1 b1 = 0 then cmp a2 b2 else cmp a1 b1
theorem cmp2_a {a1 a2 b1 b2 : Int} (h : (cmp a1 b1 != 0) = true) : cmp a1 b1 = cmp2 a1 a2 b1 b2 := by unfold cmp2; rw [if_neg (by simpa using h)]
theorem cmp2_b {a1 a2 b1 b2 : Int} (h : (cmp a1 b1 != 0) = false) : cmp a2 b2 = cmp2 a1 a2 b1 b2 := by unfold cmp2; rw [if_pos (by simpa using h)]
set_option maxRecDepth 100000 in
set_option maxHeartbeats 400000 in
theorem compare_any (a1 a2 b1 b2 : Int) (x y : Nat) (w : World) (h1 : w.cell? ⟨x, 0, none⟩ = some (.int .u64 a1)) (h2 : w.cell? ⟨x, 1, none⟩ = some (.int .u64 a2))
    (h3 : w.cell? ⟨y, 0, none⟩ = some (.int .u64 b1)) (h4 : w.cell? ⟨y, 1, none⟩ = some (.int .u64 b2)) :
    Calls Tryz.prog 115 #[.slice (some ⟨x, 0, none⟩) 2 2, .slice (some ⟨y, 0, none⟩) 2 2] w fun e w' => e = .returned (.int .i64 (cmp2 a1 a2 b1 b2)) ∧ w' = w := by
  go_enter Tryz.func115, Tryz.ntmps115
  go_wp2_with fail
  refine wp_loop_rounds 3 ?_
  rw [rounds_succ]
  go_wp2_with (go_at_call 120; refine (cmp_any _ _ _).mono ?_; rintro e w' ⟨rfl, rfl⟩)
  · go_ret
    exact ⟨ret_int (cmp2_a ‹_›), rfl⟩
  · rw [rounds_succ]
    go_wp2_with (go_at_call 120; refine (cmp_any _ _ _).mono ?_; rintro e w' ⟨rfl, rfl⟩)
    · go_ret
      exact ⟨ret_int (cmp2_b ‹_›), rfl⟩
    · have e0 : cmp a2 b2 = 0 := by have h : (cmp a2 b2 != 0) = false := by assumption
                                    simpa using h
      have E := Lib.hid e0
      clear e0
      rw [rounds_succ]
      go_wp2
      go_ret
      exact ⟨ret_int (by rw [← E.out]; exact cmp2_b ‹_›), rfl⟩
theorem lt_plain (a b : Int) : cmp2 (sqh a) (sql a) (sqh b) (sql b) < 0 ↔ a < b := by
  unfold cmp2 cmp sqh sql
  split <;> (try split) <;> (try split) <;> omega
set_option maxRecDepth 100000 in
set_option maxHeartbeats 400000 in
theorem less_any (a b : Int) (w : World) :
    Calls Tryz.prog 99 #[.agg #[.int .u64 (sqh a), .int .u64 (sql a)], .agg #[.int .u64 (sqh b), .int .u64 (sql b)]] w fun e w' => e = .returned (.bool (decide (a < b))) ∧ ∃ q o1 o2, w' = ((w.alloc o1).alloc o2).drewN q := by
  go_enter Tryz.func99, Tryz.ntmps99
  go_wp2_with fail
  go_quiet ((go_at_call 115; exact Calls.quiet_of_same (compare_any (sqh a) (sql a) (sqh b) (sql b) _ _ _ (by simp [go_sem]) (by simp [go_sem]) (by simp [go_sem]) (by simp [go_sem]))))
  go_wp2
  go_ret
  exact ⟨ret_bool (decide_eq_decide.2 (lt_plain a b)), _, _, _, rfl⟩
end Go.Proofs.YtjncjoaohonmjaaGreat
namespace Go.Proofs.YtjncjoaohonmjaaGreat
open Go.RowKit Go.Shelf Go.Sort

/-! ### first index -/
def fidx (p : Nat → Bool) (n : Nat) : Int := match (List.range n).find? p with | some i => (i : Int) | none => -1
theorem fidx_hit {p : Nat → Bool} {n k : Nat} (hk : k < n) (hp : p k = true) (hb : ∀ j, j < k → p j = false) : fidx p n = (k : Int) := by
  have h : (List.range n).find? p = some k := by
    rw [List.find?_range_eq_some]
    exact ⟨hp, by simpa using hk, fun j hj => by simp [hb j hj]⟩
  simp [fidx, h]
theorem fidx_miss {p : Nat → Bool} {n : Nat} (hb : ∀ j, j < n → p j = false) : fidx p n = -1 := by
  have h : (List.range n).find? p = none := by
    rw [List.find?_range_eq_none]
    intro j hj; simp [hb j hj]
  simp [fidx, h]
theorem fidx_nn {p : Nat → Bool} {n : Nat} : decide (0 ≤ fidx p n) = (List.range n).any p := by
  unfold fidx
  cases h : (List.range n).find? p with
  | none =>
    simp only [List.find?_eq_none] at h
    have : (List.range n).any p = false := by
      rw [List.any_eq_false]; intro x hx; exact h x hx
    rw [this]; simp
  | some i =>
    have h1 := List.find?_some h
    have h2 := List.mem_of_find?_eq_some h
    have : (List.range n).any p = true := List.any_eq_true.2 ⟨i, h2, h1⟩
    rw [this]; simp

/-! ### slices.IndexFunc, ContainsFunc over []int -/
set_option maxRecDepth 100000 in
set_option maxHeartbeats 400000 in
theorem indexFunc_int (g : Nat) (cb : Array Value) (n c : Nat) (b off : Nat) (xs : Nat → Int) (p : Nat → Bool) (w : World) (eg : ∀ args w, (callFunc g args).run Tryz.prog w = .ok (.enter g args) w) (hn : n ≤ 1000000)
    (hc : ∀ i, i < n → w.cell? ⟨b, off + i, none⟩ = some (.int .i64 (xs i)))
    (hf : ∀ (i : Nat), i < n → Calls Tryz.prog g (#[.int .i64 (xs i)] ++ cb) w fun e w' => e = .returned (.bool (p i)) ∧ w = w') :
    Calls Tryz.prog 113 #[.slice (some ⟨b, off, none⟩) n c, .func (.func g) #[] cb] w fun e w' => e = .returned (.int .i64 (fidx p n)) ∧ w = w' := by
  have HF := Lib.hid hf
  have HC := Lib.hid hc
  clear hf hc
  go_enter Tryz.func113, Tryz.ntmps113
  go_wp2
  go_loop [8] (fun i => ∃ k : Nat, k ≤ n ∧ i = .int .i64 k ∧ Hid (∀ j, j < k → p j = false)) (fun i => n - (intOf i).toNat)
  case atStart => exact ⟨0, Nat.zero_le _, rfl, fun j hj => absurd hj (Nat.not_lt_zero _)⟩
  case round =>
    obtain ⟨k, hk, rfl, H⟩ := hrel
    by_cases hlt : k < n
    · have hcell := HC.out k hlt
      have hcon := HF.out k hlt
      cases hp : p k <;> rw [hp] at hcon <;> have HP := Lib.hid hp <;> clear hp
      · go_wp2_with (go_at_fn g; refine hcon.mono ?_; rintro e w1 ⟨rfl, rfl⟩)
        go_round
        case rel => exact ⟨k + 1, by omega, by go_num, fun j hj => (by
          rcases Nat.lt_or_eq_of_le (Nat.le_of_lt_succ hj) with h | h
          · exact H.out j h
          · rw [h]; exact HP.out)⟩
        case measure => simp [intOf]; omega
      · go_wp2_with (go_at_fn g; refine hcon.mono ?_; rintro e w1 ⟨rfl, rfl⟩)
        go_ret
        exact ⟨ret_int (fidx_hit hlt HP.out H.out).symm, rfl⟩
    · obtain rfl : k = n := by omega
      go_wp2
      go_ret
      exact ⟨ret_int (fidx_miss H.out).symm, rfl⟩
set_option maxRecDepth 100000 in
set_option maxHeartbeats 400000 in
theorem containsFunc_int (g : Nat) (cb : Array Value) (n c : Nat) (b off : Nat) (xs : Nat → Int) (p : Nat → Bool) (w : World) (eg : ∀ args w, (callFunc g args).run Tryz.prog w = .ok (.enter g args) w) (hn : n ≤ 1000000)
    (hc : ∀ i, i < n → w.cell? ⟨b, off + i, none⟩ = some (.int .i64 (xs i)))
    (hf : ∀ (i : Nat), i < n → Calls Tryz.prog g (#[.int .i64 (xs i)] ++ cb) w fun e w' => e = .returned (.bool (p i)) ∧ w = w') :
    Calls Tryz.prog 88 #[.slice (some ⟨b, off, none⟩) n c, .func (.func g) #[] cb] w fun e w' => e = .returned (.bool ((List.range n).any p)) ∧ w = w' := by
  have HC := Lib.hid (indexFunc_int g cb n c b off xs p w eg hn hc hf)
  clear hf hc eg
  generalize hr : fidx p n = r at HC
  have HR := Lib.hid hr
  clear hr
  go_enter Tryz.func88, Tryz.ntmps88
  go_wp2_with (go_at_call 113; refine HC.out.mono ?_; rintro e w1 ⟨rfl, rfl⟩)
  go_ret
  exact ⟨ret_bool (by rw [← fidx_nn, HR.out]), rfl⟩

/-! ### triples that exceed -/
set_option maxRecDepth 100000 in
set_option maxHeartbeats 400000 in
theorem exceeds1_any (x l : Int) (b : Nat) (w : World) (h : w.cell? ⟨b, 0, none⟩ = some (.int .i64 l)) (h1 : 0 ≤ l) (h2 : l ≤ 1000000) :
    Calls Tryz.prog 123 #[.int .i64 x, .pointer (some ⟨b, 0, none⟩)] w fun e w' => e = .returned (.bool (!wi x (-l) l)) ∧ w = w' := by
  go_enter Tryz.func123, Tryz.ntmps123
  go_wp2_with (go_at_call 48; refine (within_any _ _ _ _).mono ?_; rintro e w' ⟨rfl, rfl⟩)
  go_ret
  exact ⟨rfl, rfl⟩
def exc (x y z l : Int) : Bool := !(wi x (-l) l && wi y (-l) l && wi z (-l) l)
theorem exc_plain (x y z l : Int) : (List.range 3).any (fun i => !wi ([x, y, z].getD i 0) (-l) l) = exc x y z l := by
  simp [exc, List.range, List.range.loop, Bool.not_and, Bool.or_assoc]
set_option maxRecDepth 100000 in
set_option maxHeartbeats 400000 in
theorem exceeds_any (x y z l : Int) (w : World) (h1 : 0 ≤ l) (h2 : l ≤ 1000000) :
    Calls Tryz.prog 117 #[.agg #[.int .i64 x, .int .i64 y, .int .i64 z], .int .i64 l] w fun e w' => e = .returned (.bool (exc x y z l)) ∧ ∃ o1 o2, w' = (w.alloc o1).alloc o2 := by
  have HC := Lib.hid (containsFunc_int 123 #[.pointer (some ⟨w.heap.size + 1, 0, none⟩)] 3 3 w.heap.size 0 (fun i => [x, y, z].getD i 0) (fun i => !wi ([x, y, z].getD i 0) (-l) l)
    ((w.alloc (.cells #[.int .i64 x, .int .i64 y, .int .i64 z] 73)).alloc (.cells #[.int .i64 l] 3)) (enters_of Tryz.func123 (by kernel_rfl) rfl) (by omega)
    (fun i hi => by rcases i with _ | _ | _ | i <;> first | omega | simp [go_sem])
    (fun i hi => exceeds1_any _ l _ _ (by simp [go_sem]) h1 h2))
  rw [exc_plain] at HC
  go_enter Tryz.func117, Tryz.ntmps117
  go_wp2_with (go_at_call 88; refine HC.out.mono ?_; rintro e w1 ⟨rfl, rfl⟩)
  go_ret
  exact ⟨rfl, _, _, rfl⟩
end Go.Proofs.YtjncjoaohonmjaaGreat
