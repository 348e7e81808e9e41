/- Helpers: plain words, memory that stays, and the contracts of the smallest functions on numbers. No condition but the bounds that each theorem names. -/
import Derived.Test.YtpkacfgmojblbaaRows
import Derived.WalkKit
import Derived.WalkSpells
import Derived.WalkLawsBesides
import Derived.Laws.Externs
import Derived.Deep.QuietTactic
import Derived.BigQuiet
import Derived.Lib.Hide
import Derived.Deep.RegionHeld3
import Derived.Below
import Derived.Shelf.Abstract
import Derived.RegionTactic
namespace Go.Proofs.Ytpkacfgmojblbaa
open Go.RowKit
def intOf : Value → Int | .int _ q => q | _ => 0
def wi (x lo hi : Int) : Bool := decide (lo ≤ x ∧ x ≤ hi)
theorem wi_t {x lo hi : Int} : wi x lo hi = true ↔ lo ≤ x ∧ x ≤ hi := by simp [wi]
theorem wi_f {x lo hi : Int} : wi x lo hi = false ↔ ¬ (lo ≤ x ∧ x ≤ hi) := by simp [wi]
def siz (x : Int) : Int := (x.natAbs : Int)
theorem siz_nn (x : Int) : 0 ≤ siz x := by unfold siz; omega
theorem siz_le {x b : Int} (h1 : -b ≤ x) (h2 : x ≤ b) : siz x ≤ b := by unfold siz; omega
theorem siz_of (x : Int) : siz x = x ∨ siz x = -x := by unfold siz; omega
theorem sq_nn (x : Int) : 0 ≤ x * x := by
  rcases Int.le_total 0 x with h | h
  · exact Int.mul_nonneg h h
  · exact Int.mul_nonneg_of_nonpos_of_nonpos h h
theorem ret_int {k : IntKind} {a b : Int} (h : a = b) : Ending.returned (.int k a) = .returned (.int k b) := by rw [h]
theorem ret_bool {a b : Bool} (h : a = b) : Ending.returned (.bool a) = .returned (.bool b) := by rw [h]
theorem bcell {W w1 : World} {B : Nat} (hb : Below B W w1) : (∀ b o, b < B → w1.cell? ⟨b, o, none⟩ = W.cell? ⟨b, o, none⟩) ∧ (∀ b o, b < B → w1.frozen? ⟨b, o, none⟩ = W.frozen? ⟨b, o, none⟩) :=
  ⟨fun b o h => hb.cell (p := ⟨b, o, none⟩) h, fun b o h => hb.frozen (p := ⟨b, o, none⟩) h⟩
theorem old1 {w : World} {a : Addr} {p1 : Obj} (h : (w.cell? a).isSome = true) : (w.alloc p1).cell? a = w.cell? a := World.cell?_alloc_some w a p1 h
theorem fro1 {w : World} {a : Addr} {p1 : Obj} (h : (w.cell? a).isSome = true) : (w.alloc p1).frozen? a = w.frozen? a := by
  obtain ⟨v, hv⟩ := Option.isSome_iff_exists.1 h
  exact World.frozen?_alloc_old _ _ _ (by have := World.block_lt_of_cell? _ _ hv; omega)
theorem old2 {w : World} {a : Addr} {p1 p2 : Obj} (h : (w.cell? a).isSome = true) : ((w.alloc p1).alloc p2).cell? a = w.cell? a := by rw [old1 (by rw [old1 h]; exact h), old1 h]
theorem fro2 {w : World} {a : Addr} {p1 p2 : Obj} (h : (w.cell? a).isSome = true) : ((w.alloc p1).alloc p2).frozen? a = w.frozen? a := by rw [fro1 (by rw [old1 h]; exact h), fro1 h]
theorem old3 {w : World} {a : Addr} {p1 p2 p3 : Obj} (h : (w.cell? a).isSome = true) : (((w.alloc p1).alloc p2).alloc p3).cell? a = w.cell? a := by rw [old1 (by rw [old2 h]; exact h), old2 h]
theorem fro3 {w : World} {a : Addr} {p1 p2 p3 : Obj} (h : (w.cell? a).isSome = true) : (((w.alloc p1).alloc p2).alloc p3).frozen? a = w.frozen? a := by rw [fro1 (by rw [old2 h]; exact h), fro2 h]
theorem old4 {w : World} {a : Addr} {p1 p2 p3 p4 : Obj} (h : (w.cell? a).isSome = true) : ((((w.alloc p1).alloc p2).alloc p3).alloc p4).cell? a = w.cell? a := by rw [old1 (by rw [old3 h]; exact h), old3 h]
theorem fro4 {w : World} {a : Addr} {p1 p2 p3 p4 : Obj} (h : (w.cell? a).isSome = true) : ((((w.alloc p1).alloc p2).alloc p3).alloc p4).frozen? a = w.frozen? a := by rw [fro1 (by rw [old3 h]; exact h), fro3 h]
theorem old5 {w : World} {a : Addr} {p1 p2 p3 p4 p5 : Obj} (h : (w.cell? a).isSome = true) : (((((w.alloc p1).alloc p2).alloc p3).alloc p4).alloc p5).cell? a = w.cell? a := by rw [old1 (by rw [old4 h]; exact h), old4 h]
theorem fro5 {w : World} {a : Addr} {p1 p2 p3 p4 p5 : Obj} (h : (w.cell? a).isSome = true) : (((((w.alloc p1).alloc p2).alloc p3).alloc p4).alloc p5).frozen? a = w.frozen? a := by rw [fro1 (by rw [old4 h]; exact h), fro4 h]
theorem old6 {w : World} {a : Addr} {p1 p2 p3 p4 p5 p6 : Obj} (h : (w.cell? a).isSome = true) : ((((((w.alloc p1).alloc p2).alloc p3).alloc p4).alloc p5).alloc p6).cell? a = w.cell? a := by rw [old1 (by rw [old5 h]; exact h), old5 h]
theorem fro6 {w : World} {a : Addr} {p1 p2 p3 p4 p5 p6 : Obj} (h : (w.cell? a).isSome = true) : ((((((w.alloc p1).alloc p2).alloc p3).alloc p4).alloc p5).alloc p6).frozen? a = w.frozen? a := by rw [fro1 (by rw [old5 h]; exact h), fro5 h]
theorem old7 {w : World} {a : Addr} {p1 p2 p3 p4 p5 p6 p7 : Obj} (h : (w.cell? a).isSome = true) : (((((((w.alloc p1).alloc p2).alloc p3).alloc p4).alloc p5).alloc p6).alloc p7).cell? a = w.cell? a := by rw [old1 (by rw [old6 h]; exact h), old6 h]
theorem fro7 {w : World} {a : Addr} {p1 p2 p3 p4 p5 p6 p7 : Obj} (h : (w.cell? a).isSome = true) : (((((((w.alloc p1).alloc p2).alloc p3).alloc p4).alloc p5).alloc p6).alloc p7).frozen? a = w.frozen? a := by rw [fro1 (by rw [old6 h]; exact h), fro6 h]
theorem old8 {w : World} {a : Addr} {p1 p2 p3 p4 p5 p6 p7 p8 : Obj} (h : (w.cell? a).isSome = true) : ((((((((w.alloc p1).alloc p2).alloc p3).alloc p4).alloc p5).alloc p6).alloc p7).alloc p8).cell? a = w.cell? a := by rw [old1 (by rw [old7 h]; exact h), old7 h]
theorem fro8 {w : World} {a : Addr} {p1 p2 p3 p4 p5 p6 p7 p8 : Obj} (h : (w.cell? a).isSome = true) : ((((((((w.alloc p1).alloc p2).alloc p3).alloc p4).alloc p5).alloc p6).alloc p7).alloc p8).frozen? a = w.frozen? a := by rw [fro1 (by rw [old7 h]; exact h), fro7 h]
theorem old9 {w : World} {a : Addr} {p1 p2 p3 p4 p5 p6 p7 p8 p9 : Obj} (h : (w.cell? a).isSome = true) : (((((((((w.alloc p1).alloc p2).alloc p3).alloc p4).alloc p5).alloc p6).alloc p7).alloc p8).alloc p9).cell? a = w.cell? a := by rw [old1 (by rw [old8 h]; exact h), old8 h]
theorem fro9 {w : World} {a : Addr} {p1 p2 p3 p4 p5 p6 p7 p8 p9 : Obj} (h : (w.cell? a).isSome = true) : (((((((((w.alloc p1).alloc p2).alloc p3).alloc p4).alloc p5).alloc p6).alloc p7).alloc p8).alloc p9).frozen? a = w.frozen? a := by rw [fro1 (by rw [old8 h]; exact h), fro8 h]
theorem old10 {w : World} {a : Addr} {p1 p2 p3 p4 p5 p6 p7 p8 p9 p10 : Obj} (h : (w.cell? a).isSome = true) : ((((((((((w.alloc p1).alloc p2).alloc p3).alloc p4).alloc p5).alloc p6).alloc p7).alloc p8).alloc p9).alloc p10).cell? a = w.cell? a := by rw [old1 (by rw [old9 h]; exact h), old9 h]
theorem fro10 {w : World} {a : Addr} {p1 p2 p3 p4 p5 p6 p7 p8 p9 p10 : Obj} (h : (w.cell? a).isSome = true) : ((((((((((w.alloc p1).alloc p2).alloc p3).alloc p4).alloc p5).alloc p6).alloc p7).alloc p8).alloc p9).alloc p10).frozen? a = w.frozen? a := by rw [fro1 (by rw [old9 h]; exact h), fro9 h]
theorem old11 {w : World} {a : Addr} {p1 p2 p3 p4 p5 p6 p7 p8 p9 p10 p11 : Obj} (h : (w.cell? a).isSome = true) : (((((((((((w.alloc p1).alloc p2).alloc p3).alloc p4).alloc p5).alloc p6).alloc p7).alloc p8).alloc p9).alloc p10).alloc p11).cell? a = w.cell? a := by rw [old1 (by rw [old10 h]; exact h), old10 h]
theorem fro11 {w : World} {a : Addr} {p1 p2 p3 p4 p5 p6 p7 p8 p9 p10 p11 : Obj} (h : (w.cell? a).isSome = true) : (((((((((((w.alloc p1).alloc p2).alloc p3).alloc p4).alloc p5).alloc p6).alloc p7).alloc p8).alloc p9).alloc p10).alloc p11).frozen? a = w.frozen? a := by rw [fro1 (by rw [old10 h]; exact h), fro10 h]
theorem old12 {w : World} {a : Addr} {p1 p2 p3 p4 p5 p6 p7 p8 p9 p10 p11 p12 : Obj} (h : (w.cell? a).isSome = true) : ((((((((((((w.alloc p1).alloc p2).alloc p3).alloc p4).alloc p5).alloc p6).alloc p7).alloc p8).alloc p9).alloc p10).alloc p11).alloc p12).cell? a = w.cell? a := by rw [old1 (by rw [old11 h]; exact h), old11 h]
theorem fro12 {w : World} {a : Addr} {p1 p2 p3 p4 p5 p6 p7 p8 p9 p10 p11 p12 : Obj} (h : (w.cell? a).isSome = true) : ((((((((((((w.alloc p1).alloc p2).alloc p3).alloc p4).alloc p5).alloc p6).alloc p7).alloc p8).alloc p9).alloc p10).alloc p11).alloc p12).frozen? a = w.frozen? a := by rw [fro1 (by rw [old11 h]; exact h), fro11 h]
theorem below_drewN {B : Nat} {a w : World} (h : Below B a w) (n : Nat) : Below B a (w.drewN n) := ⟨h.os, h.tape, h.output, h.size, h.block⟩
set_option maxRecDepth 100000 in
set_option maxHeartbeats 400000 in
theorem within_any (x lo hi : Int) (w : World) :
    Calls Try.prog 127 #[.int .i64 x, .int .i64 lo, .int .i64 hi] w fun e w' => e = .returned (.bool (wi x lo hi)) ∧ w = w' := by
  by_cases h : lo ≤ x
  · go_enter Try.func127, Try.ntmps127
    go_wp2
    go_ret
    exact ⟨by simp [wi, h], rfl⟩
  · go_enter Try.func127, Try.ntmps127
    go_wp2
    go_ret
    exact ⟨ret_bool (wi_f.2 (by omega)).symm, rfl⟩
set_option maxRecDepth 100000 in
set_option maxHeartbeats 400000 in
theorem size_any (x : Int) (h1 : -9223372036854775807 ≤ x) (h2 : x ≤ 9223372036854775807) (w : World) :
    Calls Try.prog 109 #[.int .i64 x] w fun e w' => e = .returned (.int .i64 (siz x)) ∧ w = w' := by
  go_enter Try.func109, Try.ntmps109
  go_wp2
  all_goals (go_ret; exact ⟨ret_int (by unfold siz; omega), rfl⟩)
theorem floor_plain (num den : Int) (hd : 0 < den) : num.tdiv den * den ≤ num ∧ num.tdiv den = num / den ∨ num < num.tdiv den * den ∧ num.tdiv den - 1 = num / den := by
  have e1 := Int.tdiv_mul_add_tmod num den
  have e2 := Int.mul_ediv_add_emod num den
  have h3 := Int.emod_nonneg num (show den ≠ 0 by omega)
  have h4 := Int.emod_lt_of_pos num hd
  rcases Int.lt_or_le num 0 with h | h
  · have h5 : num.tmod den ≤ 0 := (by have := Int.neg_tmod (-num) den; have := Int.tmod_nonneg (a := -num) den (by omega); rw [Int.neg_neg] at *; omega)
    have h6 : -den < num.tmod den := by have := Int.lt_tmod_of_pos num hd; exact this
    by_cases h7 : num.tmod den = 0
    · left
      refine ⟨by omega, ?_⟩
      have h8 : num = num.tdiv den * den := by omega
      have h9 : num / den = (num.tdiv den * den) / den := by rw [← h8]
      rw [h9, Int.mul_ediv_cancel _ (by omega)]
    · right
      refine ⟨by omega, ?_⟩
      have h8 : num = num.tmod den + den + den * (num.tdiv den - 1) := by
        rw [Int.mul_sub, Int.mul_one, Int.mul_comm]; omega
      have h9 : num / den = (num.tmod den + den + den * (num.tdiv den - 1)) / den := by rw [← h8]
      rw [h9, Int.add_mul_ediv_left _ _ (by omega), Int.ediv_eq_zero_of_lt (by omega) (by omega)]
      omega
  · left
    rw [Int.tdiv_eq_ediv_of_nonneg h]
    exact ⟨by have : num / den * den = den * (num / den) := Int.mul_comm _ _; omega, rfl⟩
theorem tdiv_bd (num den : Int) (hd : 0 < den) (h1 : -4611686018427387904 ≤ num) (h2 : num ≤ 4611686018427387904) :
    -4611686018427387904 ≤ num.tdiv den ∧ num.tdiv den ≤ 4611686018427387904 ∧ -4611686018427387904 ≤ num.tdiv den * den ∧ num.tdiv den * den ≤ 4611686018427387904 := by
  have e1 := Int.tdiv_mul_add_tmod num den
  rcases Int.lt_or_le num 0 with h | h
  · have h5 : num.tmod den ≤ 0 := (by have := Int.neg_tmod (-num) den; have := Int.tmod_nonneg (a := -num) den (by omega); rw [Int.neg_neg] at *; omega)
    have h7 : num ≤ num.tdiv den := by
      have := Int.neg_tdiv num den
      have h8 : (-num).tdiv den = (-num) / den := Int.tdiv_eq_ediv_of_nonneg (by omega)
      have h9 : (-num) / den ≤ -num := Int.ediv_le_self _ (by omega)
      omega
    have h8 : num.tdiv den ≤ 0 := by
      have := Int.neg_tdiv num den
      have h8 : (-num).tdiv den = (-num) / den := Int.tdiv_eq_ediv_of_nonneg (by omega)
      have h9 : 0 ≤ (-num) / den := Int.ediv_nonneg (by omega) (by omega)
      omega
    have h10 : num.tdiv den * den ≤ 0 := Int.mul_nonpos_of_nonpos_of_nonneg h8 (by omega)
    omega
  · have h5 : 0 ≤ num.tmod den := Int.tmod_nonneg _ h
    have h8 : num.tdiv den = num / den := Int.tdiv_eq_ediv_of_nonneg h
    have h9 : num / den ≤ num := Int.ediv_le_self _ h
    have h10 : 0 ≤ num / den := Int.ediv_nonneg h (by omega)
    have h11 : 0 ≤ num.tdiv den * den := by rw [h8]; exact Int.mul_nonneg h10 (by omega)
    omega
set_option maxRecDepth 100000 in
set_option maxHeartbeats 400000 in
theorem floor_any (num den : Int) (hd : 0 < den) (hd2 : den ≤ 4611686018427387904) (h1 : -4611686018427387904 ≤ num) (h2 : num ≤ 4611686018427387904) (w : World) :
    Calls Try.prog 141 #[.int .i64 num, .int .i64 den] w fun e w' => e = .returned (.int .i64 (num / den)) ∧ w = w' := by
  have hp := floor_plain num den hd
  obtain ⟨q1, q2, q3, q4⟩ := tdiv_bd num den hd h1 h2
  have hne : ¬ den = 0 := by omega
  have HP := Lib.hid hp
  clear hp
  go_enter Try.func141, Try.ntmps141
  go_wp2
  all_goals (go_ret; exact ⟨ret_int (by have := HP.out; omega), rfl⟩)
set_option maxRecDepth 100000 in
set_option maxHeartbeats 400000 in
theorem ceiling_any (num den : Int) (hd : 0 < den) (hd2 : den ≤ 4611686018427387904) (h1 : -4611686018427387904 ≤ num) (h2 : num ≤ 4611686018427387904) (w : World) :
    Calls Try.prog 123 #[.int .i64 num, .int .i64 den] w fun e w' => e = .returned (.int .i64 (-(-num / den))) ∧ w = w' := by
  have hb : -4611686018427387904 ≤ -num / den ∧ -num / den ≤ 4611686018427387904 := by
    have := floor_plain (-num) den hd
    have := tdiv_bd (-num) den hd (by omega) (by omega)
    have h1 : -num ≤ -num / den ∨ 0 ≤ -num / den := by
      by_cases h : 0 ≤ -num
      · right; exact Int.ediv_nonneg h (by omega)
      · left; exact (Int.le_ediv_iff_mul_le hd).2 (by have := Int.mul_le_mul_of_nonpos_left (show -num ≤ 0 by omega) (show 1 ≤ den by omega); omega)
    omega
  obtain ⟨b1, b2⟩ := hb
  go_enter Try.func123, Try.ntmps123
  go_wp2_with (go_at_call 141; refine (floor_any _ _ hd hd2 (by omega) (by omega) _).mono ?_; rintro e w' ⟨rfl, rfl⟩)
  go_ret
  exact ⟨rfl, rfl⟩
end Go.Proofs.Ytpkacfgmojblbaa
namespace Go.Proofs.Ytpkacfgmojblbaa
open Go.RowKit
theorem belowB {B : Nat} {a b c : World} (hB : B ≤ b.heap.size) (h : Below B a b) (k : Below b.heap.size b c) : Below B a c := h.trans (k.mono hB)
theorem belowT {a b c : World} (h : Below a.heap.size a b) (k : Below b.heap.size b c) : Below a.heap.size a c := h.trans (k.mono h.size)
theorem filter_len_lt {p q : Nat → Bool} {i : Nat} (hpq : ∀ x, q x = true → p x = true) (hp : p i = true) (hq : q i = false) : ∀ {l : List Nat}, i ∈ l → (l.filter q).length < (l.filter p).length
  | [], h => by cases h
  | x :: l, h => by
    have le : ∀ l : List Nat, (l.filter q).length ≤ (l.filter p).length := by
      intro l
      induction l with
      | nil => simp
      | cons y l ih =>
        cases hy : q y with
        | true => simp [hy, hpq y hy]; exact ih
        | false =>
          cases hz : p y with
          | true => simp [hy, hz]; omega
          | false => simp [hy, hz]; exact ih
    rcases List.mem_cons.1 h with rfl | h
    · simp [hp, hq]
      have := le l
      omega
    · have ih := filter_len_lt hpq hp hq h
      cases hy : q x with
      | true => simp [hy, hpq x hy]; exact ih
      | false =>
        cases hz : p x with
        | true => simp [hy, hz]; omega
        | false => simp [hy, hz]; exact ih
def rgMissing (listed : Array Bool) (n : Nat) : Nat := ((List.range n).filter fun i => !listed.getD i true).length
def rgLow (ops : Array Oper) (n : Nat) : Prop := ∀ (i : Nat) (o : Oper), ops[i]? = some o → o.guard = none ∧ (∀ e ∈ o.after, Region.binds .any e = true → e.on < i) ∧ ∃ d, o.dst = some d ∧ d < n ∧ ∀ (j : Nat) (o' : Oper), ops[j]? = some o' → j ≠ i → o'.dst ≠ some d
structure RInv (ops : Array Oper) (φ : Nat → Value → World → Prop) (a : Act) (w : World) (listed : Array Bool) (a' : Act) (w' : World) : Prop where
  sz : listed.size = ops.size
  below : Below w.heap.size w w'
  tsize : a'.tmps.size = a.tmps.size
  defs : a'.defers = a.defers
  rest : ∀ t, (∀ (i : Nat) (o : Oper), ops[i]? = some o → o.dst ≠ some t) → a'.tmps[t]? = a.tmps[t]?
  facts : ∀ (i : Nat) (o : Oper) (d : Nat), ops[i]? = some o → o.dst = some d → listed.getD i false = true → φ i (a'.tmps.getD d undef) w'
def RDeps (ops : Array Oper) (φ : Nat → Value → World → Prop) (a' : Act) (w' : World) (o : Oper) : Prop :=
  ∀ e ∈ o.after, Region.binds .any e = true → ∀ (o' : Oper) (d : Nat), ops[e.on]? = some o' → o'.dst = some d → φ e.on (a'.tmps.getD d undef) w'
def RSame (ops : Array Oper) (a a' : Act) : Prop := a'.tmps.size = a.tmps.size ∧ a'.defers = a.defers ∧ ∀ t, (∀ (i : Nat) (o : Oper), ops[i]? = some o → o.dst ≠ some t) → a'.tmps[t]? = a.tmps[t]?
theorem rg_put_get {a : Act} {d t : Nat} {v : Value} (h : d ≠ t) : (a.put (some d) v).tmps[t]? = a.tmps[t]? := by
  show (a.tmps.setIfInBounds d v)[t]? = _
  rw [Array.getElem?_setIfInBounds, if_neg h]
theorem rg_getD {a : Act} {t : Nat} : a.tmps.getD t undef = (a.tmps[t]?).getD undef := by simp [Array.getD_eq_getD_getElem?]
theorem rg_put_getD {a : Act} {d t : Nat} {v : Value} (h : d ≠ t) : (a.put (some d) v).tmps.getD t undef = a.tmps.getD t undef := by rw [rg_getD, rg_getD, rg_put_get h]
theorem rg_put_own {a : Act} {d : Nat} {v : Value} (h : d < a.tmps.size) : (a.put (some d) v).tmps.getD d undef = v := by
  rw [rg_getD]
  show ((a.tmps.setIfInBounds d v)[d]?).getD undef = v
  rw [Array.getElem?_setIfInBounds, if_pos rfl, if_pos h]
  rfl
theorem wpAny_phi {P : Program} {ops : Array Oper} {Q : Exit → Act → World → Prop} (φ : Nat → Value → World → Prop) (a : Act) (w : World) (hl : rgLow ops a.tmps.size)
    (hmono : ∀ i v w1 w2, φ i v w1 → Below w1.heap.size w1 w2 → φ i v w2)
    (hstep : ∀ (i : Nat) (o : Oper), ops[i]? = some o → ∀ a' w', Below w.heap.size w w' → RSame ops a a' → RDeps ops φ a' w' o → o.wp P a' w' (fun a'' w'' => ∃ v, a'' = a'.put o.dst v ∧ Below w'.heap.size w' w'' ∧ φ i v w'') Q)
    (hend : ∀ a' w', Below w.heap.size w w' → RSame ops a a' → (∀ (i : Nat) (o : Oper) (d : Nat), ops[i]? = some o → o.dst = some d → φ i (a'.tmps.getD d undef) w') → Q .normal a' w') :
    ∀ (fuel : Nat) (listed : Array Bool) (a' : Act) (w' : World), RInv ops φ a w listed a' w' → rgMissing listed ops.size ≤ fuel → wpAny P .any ops Q fuel listed a' w' := by
  have full : ∀ (listed : Array Bool) (a' : Act) (w' : World), RInv ops φ a w listed a' w' → Region.ready .any ops listed = [] → Q .normal a' w' := by
    intro listed a' w' h hr
    have all : ∀ n i, i < n → i < ops.size → listed.getD i false = true := by
      intro n
      induction n with
      | zero => intro i hi; omega
      | succ n ih =>
        intro i hi hs
        rcases Nat.lt_or_eq_of_le (Nat.le_of_lt_succ hi) with h1 | rfl
        · exact ih i h1 hs
        · have ho : ops[i]? = some ops[i] := Array.getElem?_eq_getElem hs
          cases hc : listed.getD i false with
          | true => rfl
          | false =>
            exfalso
            have hm : i ∈ Region.ready .any ops listed := by
              unfold Region.ready
              refine List.mem_filter.2 ⟨List.mem_range.2 hs, ?_⟩
              have h2 : listed.getD i true = false := by
                have hsz : i < listed.size := by rw [h.sz]; exact hs
                simp [Array.getD, hsz] at hc ⊢
                exact hc
              rw [h2, ho]
              simp only [Bool.not_false, Bool.true_and, Option.map_some, Option.getD_some]
              rw [Array.all_eq_true_iff_forall_mem]
              intro e he
              cases hbd : Region.binds .any e with
              | false => simp
              | true =>
                have := ih e.on ((hl i _ ho).2.1 e he hbd) (by have := (hl i _ ho).2.1 e he hbd; omega)
                simp [this]
            rw [hr] at hm
            cases hm
    refine hend a' w' h.below ⟨h.tsize, h.defs, h.rest⟩ fun i o d ho hd => h.facts i o d ho hd ?_
    have hs : i < ops.size := by
      rcases Nat.lt_or_ge i ops.size with q | q
      · exact q
      · rw [Array.getElem?_eq_none q] at ho; cases ho
    exact all (i + 1) i (by omega) hs
  intro fuel
  induction fuel with
  | zero =>
    intro listed a' w' h hm
    have hr : Region.ready .any ops listed = [] := by
      rcases hq : Region.ready .any ops listed with _ | ⟨i, l⟩
      · rfl
      · exfalso
        have hi : i ∈ Region.ready .any ops listed := by rw [hq]; simp
        unfold Region.ready at hi
        obtain ⟨h1, h2⟩ := List.mem_filter.1 hi
        have h3 : (!listed.getD i true) = true := by
          simp only [Bool.and_eq_true] at h2
          exact h2.1
        have : i ∈ (List.range ops.size).filter fun i => !listed.getD i true := List.mem_filter.2 ⟨h1, h3⟩
        have := List.length_pos_of_mem this
        unfold rgMissing at hm
        omega
    exact ⟨hr, full _ _ _ h hr⟩
  | succ fuel ih =>
    intro listed a' w' h hm
    refine ⟨fun hr => full _ _ _ h hr, fun i hi => ?_⟩
    unfold Region.ready at hi
    obtain ⟨h1, h2⟩ := List.mem_filter.1 hi
    simp only [Bool.and_eq_true] at h2
    obtain ⟨h3, h4⟩ := h2
    have hs : i < ops.size := List.mem_range.1 h1
    have ho : ops[i]? = some ops[i] := Array.getElem?_eq_getElem hs
    obtain ⟨hg, hlow, d, hd, hdn, hdi⟩ := hl i _ ho
    rw [ho] at h4
    simp only [Option.map_some, Option.getD_some] at h4
    rw [Array.all_eq_true_iff_forall_mem] at h4
    have hdeps : RDeps ops φ a' w' ops[i] := by
      intro e he hb o' d' ho' hd'
      have := h4 e he
      rw [hb] at this
      exact h.facts _ _ _ ho' hd' (by simpa using this)
    have hw := hstep i _ ho a' w' h.below ⟨h.tsize, h.defs, h.rest⟩ hdeps
    unfold wpOp
    rw [ho]
    have hwant : Region.wanted ops[i] (yielded ops a'.tmps) = true := by simp [Region.wanted, hg]
    simp only [hwant, if_true]
    refine .inl (Oper.wp_mono ?_ hw)
    rintro a'' w'' ⟨v, rfl, hb, hv⟩
    rw [hd]
    have hsz : i < listed.size := by rw [h.sz]; exact hs
    refine ih _ _ _ ⟨by simp [h.sz], belowT h.below hb, by rw [← h.tsize]; simp [Act.put], by rw [← h.defs]; rfl, ?_, ?_⟩ ?_
    · intro t ht
      rw [rg_put_get (by intro e; exact ht i _ ho (by rw [hd, e]))]
      exact h.rest t ht
    · intro j o' d' ho' hd' hj
      by_cases hji : j = i
      · subst hji
        rw [ho] at ho'
        cases ho'
        rw [hd] at hd'
        cases hd'
        rw [rg_put_own (by rw [h.tsize]; exact hdn)]
        exact hv
      · have hne : d ≠ d' := by
          intro e
          exact hdi j o' ho' hji (by rw [hd', e])
        rw [rg_put_getD hne]
        refine hmono _ _ _ _ (h.facts j o' d' ho' hd' ?_) hb
        simp only [Array.getD_eq_getD_getElem?, Array.getElem?_setIfInBounds] at hj ⊢
        rw [if_neg (fun e => hji e.symm)] at hj
        exact hj
    · have : rgMissing (listed.setIfInBounds i true) ops.size < rgMissing listed ops.size := by
        refine filter_len_lt (i := i) ?_ h3 ?_ h1
        · intro x hx
          simp only [Array.getD_eq_getD_getElem?, Array.getElem?_setIfInBounds] at hx ⊢
          by_cases hxi : i = x
          · subst hxi
            simp [hsz] at hx
          · rw [if_neg hxi] at hx
            exact hx
        · simp [Array.getD_eq_getD_getElem?, hsz]
      omega
def AllOps (R : Nat → Oper → Prop) : Nat → List Oper → Prop
  | _, [] => True
  | i, o :: l => R i o ∧ AllOps R (i + 1) l
theorem allOps_of' {R : Nat → Oper → Prop} : ∀ {k : Nat} {l : List Oper}, AllOps R k l → ∀ (i : Nat) (o : Oper), l[i]? = some o → R (k + i) o
  | k, [], _, i, o, h => by simp at h
  | k, x :: l, ⟨h1, h2⟩, 0, o, h => by simp at h; subst h; exact h1
  | k, x :: l, ⟨h1, h2⟩, i + 1, o, h => by
    have := allOps_of' h2 i o (by simpa using h)
    rwa [show k + 1 + i = k + (i + 1) from by omega] at this
theorem allOps_of {R : Nat → Oper → Prop} {ops : Array Oper} (h : AllOps R 0 ops.toList) : ∀ (i : Nat) (o : Oper), ops[i]? = some o → R i o := fun i o ho => by
  have := allOps_of' h i o (by rw [Array.getElem?_toList]; exact ho)
  rwa [Nat.zero_add] at this
theorem allOps_mk' {R : Nat → Oper → Prop} : ∀ {k : Nat} {l : List Oper}, (∀ (i : Nat) (o : Oper), l[i]? = some o → R (k + i) o) → AllOps R k l
  | _, [], _ => trivial
  | k, x :: l, h => ⟨h 0 x rfl, allOps_mk' fun i o ho => by
    have := h (i + 1) o (by simpa using ho)
    rwa [show k + (i + 1) = k + 1 + i from by omega] at this⟩
theorem allOps_mk {R : Nat → Oper → Prop} {ops : Array Oper} (h : ∀ (i : Nat) (o : Oper), ops[i]? = some o → R i o) : AllOps R 0 ops.toList := allOps_mk' fun i o ho => by
  rw [Nat.zero_add]
  exact h i o (by rw [← Array.getElem?_toList]; exact ho)
def rgDsts (ops : List Oper) : List Nat := ops.map fun o => o.dst.getD 0
def rgCheck (n : Nat) : Nat → List Oper → Bool
  | _, [] => true
  | i, o :: l => o.guard.isNone && o.after.toList.all (fun e => !Region.binds .any e || Nat.blt e.on i) && (match o.dst with | some d => Nat.blt d n && l.all (fun o' => match o'.dst with | some d' => !(Nat.beq d d') | none => false) | none => false) && rgCheck n (i + 1) l
theorem rgCheck_of : ∀ (n k : Nat) (l : List Oper), rgCheck n k l = true → ∀ (i : Nat) (o : Oper), l[i]? = some o → o.guard = none ∧ (∀ e ∈ o.after, Region.binds .any e = true → e.on < k + i) ∧ ∃ d, o.dst = some d ∧ d < n ∧ ∀ (j : Nat) (o' : Oper), l[j]? = some o' → i < j → o'.dst ≠ some d
  | n, k, [], _, i, o, h => by simp at h
  | n, k, x :: l, hc, 0, o, h => by
    simp at h
    subst h
    simp only [rgCheck, Bool.and_eq_true] at hc
    obtain ⟨⟨⟨h1, h2⟩, h3⟩, h4⟩ := hc
    refine ⟨by simpa using h1, fun e he hbd => ?_, ?_⟩
    · have := List.all_eq_true.1 h2 e (by simpa using he)
      rw [hbd] at this
      simpa [Nat.blt_eq] using this
    · cases hd : x.dst with
      | none => rw [hd] at h3; simp at h3
      | some d =>
        rw [hd] at h3
        simp only [Bool.and_eq_true, Nat.blt_eq] at h3
        refine ⟨d, rfl, h3.1, fun j o' hj hij => ?_⟩
        obtain ⟨j, rfl⟩ : ∃ j', j = j' + 1 := ⟨j - 1, by omega⟩
        have hm : o' ∈ l := List.mem_of_getElem? (by simpa using hj)
        have := List.all_eq_true.1 h3.2 o' hm
        intro e
        rw [e] at this
        simp at this
  | n, k, x :: l, hc, i + 1, o, h => by
    simp only [rgCheck, Bool.and_eq_true] at hc
    obtain ⟨g1, g2, d, g3, g4, g5⟩ := rgCheck_of n (k + 1) l hc.2 i o (by simpa using h)
    refine ⟨g1, fun e he hbd => by have := g2 e he hbd; omega, d, g3, g4, fun j o' hj hij => ?_⟩
    obtain ⟨j, rfl⟩ : ∃ j', j = j' + 1 := ⟨j - 1, by omega⟩
    exact g5 j o' (by simpa using hj) (by omega)
theorem rgLow_of {ops : Array Oper} {n : Nat} (h : rgCheck n 0 ops.toList = true) : rgLow ops n := by
  intro i o ho
  have ho' : ops.toList[i]? = some o := by rw [Array.getElem?_toList]; exact ho
  obtain ⟨g1, g2, d, g3, g4, g5⟩ := rgCheck_of n 0 ops.toList h i o ho'
  refine ⟨g1, fun e he hbd => by have := g2 e he hbd; omega, d, g3, g4, fun j o' hj hne => ?_⟩
  have hj' : ops.toList[j]? = some o' := by rw [Array.getElem?_toList]; exact hj
  rcases Nat.lt_or_gt_of_ne hne with hlt | hgt
  · obtain ⟨_, _, d', k3, _, k5⟩ := rgCheck_of n 0 ops.toList h j o' hj'
    intro e
    have := k5 i o ho' hlt
    rw [k3] at e
    cases e
    exact this g3
  · exact g5 j o' hj' hgt
theorem foldl_put_size (V : Nat → Value) : ∀ (ds : List Nat) (b : Act), (ds.foldl (fun b d => b.put (some d) (V d)) b).tmps.size = b.tmps.size ∧ (ds.foldl (fun b d => b.put (some d) (V d)) b).defers = b.defers
  | [], _ => ⟨rfl, rfl⟩
  | d :: ds, b => by
    obtain ⟨h1, h2⟩ := foldl_put_size V ds (b.put (some d) (V d))
    exact ⟨by rw [List.foldl_cons, h1]; simp [Act.put], by rw [List.foldl_cons, h2]; rfl⟩
theorem foldl_put_out (V : Nat → Value) : ∀ (ds : List Nat) (b : Act) (t : Nat), t ∉ ds → (ds.foldl (fun b d => b.put (some d) (V d)) b).tmps[t]? = b.tmps[t]?
  | [], _, _, _ => rfl
  | d :: ds, b, t, h => by
    rw [List.foldl_cons, foldl_put_out V ds _ t (fun q => h (List.mem_cons_of_mem _ q)), rg_put_get (fun e => h (by rw [e]; simp))]
theorem foldl_put_in (V : Nat → Value) : ∀ (ds : List Nat) (b : Act) (t : Nat), t ∈ ds → t < b.tmps.size → (ds.foldl (fun b d => b.put (some d) (V d)) b).tmps[t]? = some (V t)
  | [], _, _, h, _ => by cases h
  | d :: ds, b, t, h, hs => by
    rw [List.foldl_cons]
    by_cases ht : t ∈ ds
    · exact foldl_put_in V ds _ t ht (by simpa [Act.put] using hs)
    · rcases List.mem_cons.1 h with rfl | h
      · rw [foldl_put_out V ds _ t ht]
        show (b.tmps.setIfInBounds t (V t))[t]? = _
        rw [Array.getElem?_setIfInBounds, if_pos rfl, if_pos hs]
      · exact absurd h ht
theorem act_of {ops : Array Oper} {a a' : Act} (h : RSame ops a a') : a' = (rgDsts ops.toList).foldl (fun b d => b.put (some d) (a'.tmps.getD d undef)) a := by
  have e1 := foldl_put_size (fun d => a'.tmps.getD d undef) (rgDsts ops.toList) a
  have ht : a'.tmps = ((rgDsts ops.toList).foldl (fun b d => b.put (some d) (a'.tmps.getD d undef)) a).tmps := by
    refine Array.ext_getElem? fun t => ?_
    by_cases hs : t < a.tmps.size
    · by_cases hm : t ∈ rgDsts ops.toList
      · rw [foldl_put_in _ _ _ t hm hs, rg_getD]
        have : t < a'.tmps.size := by rw [h.1]; exact hs
        rw [Array.getElem?_eq_getElem this]
        rfl
      · rw [foldl_put_out _ _ _ t hm]
        refine h.2.2 t fun i o ho e => hm ?_
        refine List.mem_map.2 ⟨o, List.mem_of_getElem? (i := i) (by rw [Array.getElem?_toList]; exact ho), by rw [e]; rfl⟩
    · rw [Array.getElem?_eq_none (by rw [h.1]; omega), Array.getElem?_eq_none (by rw [e1.1]; omega)]
  have hd : a'.defers = ((rgDsts ops.toList).foldl (fun b d => b.put (some d) (a'.tmps.getD d undef)) a).defers := by rw [e1.2, h.2.1]
  generalize (rgDsts ops.toList).foldl (fun b d => b.put (some d) (a'.tmps.getD d undef)) a = z at ht hd
  cases a'
  cases z
  simp only at ht hd
  rw [ht, hd]
/-- what a frame's slots hold behind the statement: V where the mask says so -/
def maskPut (V : Nat → Value) : Nat → List Bool → List Value → List Value
  | i, true :: m, _ :: l => V i :: maskPut V (i + 1) m l
  | i, false :: m, x :: l => x :: maskPut V (i + 1) m l
  | _, [], l => l
  | _, _ :: _, [] => []
theorem maskPut_get (V : Nat → Value) : ∀ (m : List Bool) (l : List Value) (i t : Nat), m.length = l.length → (maskPut V i m l)[t]? = if t < l.length then (if m.getD t false then some (V (i + t)) else l[t]?) else none
  | [], l, i, t, h => by
    have : l = [] := List.length_eq_zero_iff.1 h.symm
    subst this
    simp [maskPut]
  | true :: m, [], i, t, h => by simp at h
  | false :: m, [], i, t, h => by simp at h
  | true :: m, x :: l, i, 0, h => by simp [maskPut]
  | false :: m, x :: l, i, 0, h => by simp [maskPut]
  | true :: m, x :: l, i, t + 1, h => by
    have ih := maskPut_get V m l (i + 1) t (by simpa using h)
    simp only [maskPut, List.getElem?_cons_succ, ih, List.length_cons, List.getD_cons_succ]
    rw [show i + 1 + t = i + (t + 1) from by omega]
    simp
  | false :: m, x :: l, i, t + 1, h => by
    have ih := maskPut_get V m l (i + 1) t (by simpa using h)
    simp only [maskPut, List.getElem?_cons_succ, ih, List.length_cons, List.getD_cons_succ]
    rw [show i + 1 + t = i + (t + 1) from by omega]
    simp
theorem maskPut_length (V : Nat → Value) : ∀ (m : List Bool) (l : List Value) (i : Nat), m.length = l.length → (maskPut V i m l).length = l.length
  | [], l, i, h => rfl
  | true :: m, [], i, h => by simp at h
  | false :: m, [], i, h => by simp at h
  | true :: m, x :: l, i, h => by simp [maskPut, maskPut_length V m l (i + 1) (by simpa using h)]
  | false :: m, x :: l, i, h => by simp [maskPut, maskPut_length V m l (i + 1) (by simpa using h)]
def maskOf (ds : List Nat) (n : Nat) : List Bool := (List.range n).map fun t => ds.any fun d => Nat.beq d t
theorem act_mask (V : Nat → Value) (ds : List Nat) (a : Act) (m : List Bool) (hm : maskOf ds a.tmps.size = m) :
    ds.foldl (fun b d => b.put (some d) (V d)) a = ⟨(maskPut V 0 m a.tmps.toList).toArray, a.defers⟩ := by
  have hl : m.length = a.tmps.toList.length := by rw [← hm]; simp [maskOf]
  obtain ⟨e1, e2⟩ := foldl_put_size V ds a
  have ht : (ds.foldl (fun b d => b.put (some d) (V d)) a).tmps = (maskPut V 0 m a.tmps.toList).toArray := by
    refine Array.ext_getElem? fun t => ?_
    rw [show (maskPut V 0 m a.tmps.toList).toArray[t]? = (maskPut V 0 m a.tmps.toList)[t]? by simp, maskPut_get V m _ 0 t hl, Nat.zero_add]
    by_cases hs : t < a.tmps.size
    · have hmt : m.getD t false = ds.any fun d => Nat.beq d t := by
        rw [← hm]
        simp [maskOf, List.getD_eq_getElem?_getD, List.getElem?_map, List.getElem?_range hs]
      rw [if_pos (by simpa using hs), hmt]
      by_cases hd : t ∈ ds
      · rw [foldl_put_in V ds a t hd hs, if_pos (List.any_eq_true.2 ⟨t, hd, by simp⟩)]
      · rw [foldl_put_out V ds a t hd, if_neg, Array.getElem?_toList]
        intro h
        obtain ⟨d, hd1, hd2⟩ := List.any_eq_true.1 h
        exact hd (by rw [← Nat.eq_of_beq_eq_true hd2]; exact hd1)
    · rw [Array.getElem?_eq_none (by rw [e1]; omega), if_neg (by simpa using hs)]
  generalize ds.foldl (fun b d => b.put (some d) (V d)) a = z at ht e2
  cases z
  simp only at ht e2
  rw [ht, e2]
/-- The law: the structure is checked by evaluation, each operation keeps its own word, and what follows knows the words of all. -/
theorem wp_region_phi {P : Program} {id : Nat} {ops : Array Oper} {Q : Exit → Act → World → Prop} {a : Act} {w : World} (φ : Nat → Value → World → Prop) (hm : P.follows .mixedOrders = true)
    (hl : rgCheck a.tmps.size 0 ops.toList = true) (hmono : ∀ i v w1 w2, φ i v w1 → Below w1.heap.size w1 w2 → φ i v w2)
    (hstep : AllOps (fun i o => ∀ a' w', Below w.heap.size w w' → RSame ops a a' → RDeps ops φ a' w' o → o.wp P a' w' (fun a'' w'' => ∃ v, a'' = a'.put o.dst v ∧ Below w'.heap.size w' w'' ∧ φ i v w'') Q) 0 ops.toList)
    (hend : ∀ (V : Nat → Value) (w' : World), Below w.heap.size w w' → AllOps (fun i o => φ i (V (o.dst.getD 0)) w') 0 ops.toList → Q .normal ((rgDsts ops.toList).foldl (fun b d => b.put (some d) (V d)) a) w') :
    (Code.region id ops true).wp P Q a w := by
  refine wp_region_any hm ?_
  have low := rgLow_of hl
  refine wpAny_phi φ a w low hmono (allOps_of hstep) ?_ ops.size (Array.replicate ops.size false) a _ ⟨by simp, (Below.refl _ _).drew, rfl, rfl, fun _ _ => rfl, ?_⟩ ?_
  · intro a' w' hb hs hf
    have := hend (fun d => a'.tmps.getD d undef) w' hb (allOps_mk fun i o ho => by
      obtain ⟨_, _, d, hd, _⟩ := low i o ho
      rw [hd]
      exact hf i o d ho hd)
    rw [act_of hs]
    exact this
  · intro i o d ho _ h
    exfalso
    simp only [Array.getD_eq_getD_getElem?, Array.getElem?_replicate] at h
    split at h <;> cases h
  · unfold rgMissing
    refine Nat.le_trans (List.length_filter_le _ _) ?_
    simp
theorem rg_val {P : Program} {φ : Value → World → Prop} {Q : Exit → Act → World → Prop} {o : Oper} {a : Act} {w w' : World} (v : Value) (h : (execOp a.eval o).run P w = .ok (.value v) w') (hb : Below w.heap.size w w') (hv : φ v w') :
    o.wp P a w (fun a'' w'' => ∃ v, a'' = a.put o.dst v ∧ Below w.heap.size w w'' ∧ φ v w'') Q := by
  unfold Oper.wp
  rw [h]
  exact ⟨v, rfl, hb, hv⟩
theorem rg_call {P : Program} {φ : Value → World → Prop} {Q : Exit → Act → World → Prop} {o : Oper} {a : Act} {w : World} {f : FuncId} {args : Array Value} (h : (execOp a.eval o).run P w = .ok (.enter f args) w)
    (hc : Calls P f args w fun e w' => ∃ v, e = .returned v ∧ Below w.heap.size w w' ∧ φ v w') :
    o.wp P a w (fun a'' w'' => ∃ v, a'' = a.put o.dst v ∧ Below w.heap.size w w'' ∧ φ v w'') Q := by
  unfold Oper.wp
  rw [h]
  refine hc.mono ?_
  rintro e w' ⟨v, rfl, hb, hv⟩
  exact ⟨v, rfl, hb, hv⟩
/-- A word of a value in a world that stays true while memory only grows. -/
structure MP where
  p : Value → World → Prop
  on : ∀ v w1 w2, p v w1 → Below w1.heap.size w1 w2 → p v w2
def mpTop : MP := ⟨fun _ _ => True, fun _ _ _ _ _ => trivial⟩
def mpEq (x : Value) : MP := ⟨fun v _ => v = x, fun _ _ _ h _ => h⟩
def mpAt (l : List MP) (i : Nat) : MP := l.getD i mpTop
theorem allOps_nil {R : Nat → Oper → Prop} {k : Nat} : AllOps R k [] := trivial
theorem allOps_cons {R : Nat → Oper → Prop} {k : Nat} {o : Oper} {l : List Oper} (h : R k o) (hl : AllOps R (k + 1) l) : AllOps R k (o :: l) := ⟨h, hl⟩
theorem AllOps.get {R : Nat → Oper → Prop} {ops : Array Oper} (h : AllOps R 0 ops.toList) {o : Oper} (i : Nat) (ho : ops[i]? = some o) : R i o := allOps_of h i o ho
theorem RDeps.get {ops : Array Oper} {φ : Nat → Value → World → Prop} {a : Act} {w : World} {o : Oper} (h : RDeps ops φ a w o) (j d : Nat) (hj : (o.after.toList.any fun e => Nat.beq e.on j && Region.binds .any e) = true) (ho : (ops[j]?).bind (·.dst) = some d) : φ j (a.eval (.tmp d)) w := by
  show φ j (a.tmps.getD d undef) w
  obtain ⟨e, he, h2⟩ := List.any_eq_true.1 hj
  obtain ⟨h3, h4⟩ := (Bool.and_eq_true _ _).mp h2
  replace h3 := Nat.eq_of_beq_eq_true h3
  subst h3
  cases ho' : ops[e.on]? with
  | none => rw [ho'] at ho; cases ho
  | some o' =>
    rw [ho'] at ho
    exact h e (by simpa using he) h4 o' d ho' ho
theorem RSame.get {ops : Array Oper} {a a' : Act} (h : RSame ops a a') (t : Nat) (hc : (ops.toList.all fun o => match o.dst with | some d => !(Nat.beq d t) | none => true) = true) : a'.eval (.tmp t) = a.eval (.tmp t) := by
  show a'.tmps.getD t undef = a.tmps.getD t undef
  rw [rg_getD, rg_getD, h.2.2 t fun i o ho e => ?_]
  have := List.all_eq_true.1 hc o (List.mem_of_getElem? (i := i) (by rw [Array.getElem?_toList]; exact ho))
  rw [e] at this
  simp at this
theorem wp_region_mp {P : Program} {id : Nat} {ops : Array Oper} {Q : Exit → Act → World → Prop} {a : Act} {w : World} (Φ : List MP) (m : List Bool) (hmask : maskOf (rgDsts ops.toList) a.tmps.size = m) (hm : P.follows .mixedOrders = true) (hl : rgCheck a.tmps.size 0 ops.toList = true)
    (hstep : AllOps (fun i o => ∀ a' w', Below w.heap.size w w' → RSame ops a a' → RDeps ops (fun i => (mpAt Φ i).p) a' w' o → o.wp P a' w' (fun a'' w'' => ∃ v, a'' = a'.put o.dst v ∧ Below w'.heap.size w' w'' ∧ (mpAt Φ i).p v w'') Q) 0 ops.toList)
    (hend : ∀ (V : Nat → Value) (w' : World), Below w.heap.size w w' → AllOps (fun i o => (mpAt Φ i).p (V (o.dst.getD 0)) w') 0 ops.toList → Q .normal ⟨(maskPut V 0 m a.tmps.toList).toArray, a.defers⟩ w') :
    (Code.region id ops true).wp P Q a w :=
  wp_region_phi (fun i => (mpAt Φ i).p) hm hl (fun i v w1 w2 => (mpAt Φ i).on v w1 w2) hstep fun V w' hb h => by
    rw [act_mask V _ a m hmask]
    exact hend V w' hb h
theorem rg_op {P : Program} {φ : Value → World → Prop} {Q : Exit → Act → World → Prop} {o : Oper} {a : Act} {w : World} (h : ∀ K : Act → World → Prop, (∀ v w', Below w.heap.size w w' → φ v w' → K (a.put o.dst v) w') → o.wp P a w K Q) :
    o.wp P a w (fun a'' w'' => ∃ v, a'' = a.put o.dst v ∧ Below w.heap.size w w'' ∧ φ v w'') Q := h _ fun v _ hb hv => ⟨v, rfl, hb, hv⟩
theorem rg_run_call {P : Program} {ρ : Operand → Value} {dst : Option Tmp} {f : Operand} {args : Array Operand} {ats : Array TypeId} {ty : TypeId} {pos : String} {after : Array Edge} {guard : Option (Nat × Bool)} {g : FuncId} {x y : Array Value} {w : World}
    (hf : ρ f = .func (.func g) x y) (he : ∀ args w, (callFunc g args).run P w = .ok (.enter g args) w) :
    (execOp ρ ⟨dst, .call { callee := .value f, args, argTypes := ats }, ty, pos, after, guard⟩).run P w = .ok (.enter g (x ++ args.map ρ ++ y)) w := by
  have h := he (x ++ args.map ρ ++ y) w
  simp only [execOp, resolve, hf, Deferred.ofValue, invoke, pure_bind]
  exact h
theorem rg_fn {P : Program} {φ : Value → World → Prop} {Q : Exit → Act → World → Prop} {dst : Option Tmp} {f : Operand} {args : Array Operand} {ats : Array TypeId} {ty : TypeId} {pos : String} {after : Array Edge} {guard : Option (Nat × Bool)} {g : FuncId} {x y : Array Value} {a : Act} {w : World} {vs : Array Value}
    (hf : a.eval f = .func (.func g) x y) (he : ∀ args w, (callFunc g args).run P w = .ok (.enter g args) w) (hv : x ++ args.map a.eval ++ y = vs) (hc : Calls P g vs w fun e w' => ∃ v, e = .returned v ∧ Below w.heap.size w w' ∧ φ v w') :
    Oper.wp P ⟨dst, .call { callee := .value f, args, argTypes := ats }, ty, pos, after, guard⟩ a w (fun a'' w'' => ∃ v, a'' = a.put dst v ∧ Below w.heap.size w w'' ∧ φ v w'') Q := by
  subst hv
  exact rg_call (rg_run_call hf he) hc
end Go.Proofs.Ytpkacfgmojblbaa
