/- The statement PathLeastSaid: whatever the drive, the targets and the other motion, the law PathLeast returns true, and its arguments read afterwards as before. -/
import Derived.Test.YtolondcbllkimaaLH
import Derived.Test.YtolondcbllkimaaZB
namespace Go.Proofs.Ytolondcbllkimaa
open Go.ChangeShapes Go.WideShapes Go.ChangeAt Go.RowKit
attribute [local go_sem] idx3_0 idx3_1 idx3_2 old1 fro1 old2 fro2 old3 fro3 old4 fro4 old5 fro5 old6 fro6 old7 fro7 old8 fro8 old9 fro9 old10 fro10 old11 fro11 old12 fro12
set_option maxRecDepth 100000 in
set_option maxHeartbeats 2000000 in
theorem pl_e0 (t lo hi st ra : Int) (A B : Option Addr) (n c m c' : Nat) (xs : Nat → Int) (D T : Int) (q : Bool) (w : World) (_ : n ≤ 9223372036854775807) (_ : m ≤ 9223372036854775807) (hA : IA w A n xs)
    (hDE : ∀ W, Calls Try.prog 19 #[.agg #[.int .i64 t, .int .i64 lo, .int .i64 hi, .int .i64 st, .int .i64 ra]] W fun e w' => e = .returned (.int .i64 D) ∧ Below W.heap.size W w')
    (_ : ∀ W, D = 0 → Calls Try.prog 28 #[.agg #[.int .i64 t, .int .i64 lo, .int .i64 hi, .int .i64 st, .int .i64 ra]] W fun e w' => e = .returned (.bool q) ∧ Below W.heap.size W w')
    (_ : ∀ W, D = 0 → n ≤ 12 → IA W A n xs → Calls Try.prog 20 #[.agg #[.int .i64 t, .int .i64 lo, .int .i64 hi, .int .i64 st, .int .i64 ra], .slice A n c] W fun e w' => e = .returned (.int .i64 T) ∧ Below W.heap.size W w')
    (h : D ≠ 0) :
    Calls Try.prog 6 #[.agg #[.int .i64 t, .int .i64 lo, .int .i64 hi, .int .i64 st, .int .i64 ra], .slice A n c, .slice B m c'] w fun e w' => e = .returned (.bool true) ∧ Below w.heap.size w w' := by
  have HA := Lib.hid hA
  have HDE := Lib.hid hDE
  have HRM : True := trivial
  have HTE : True := trivial
  have g0 : (D == 0) = false := by simp [h]
  have g1 : (D != 0) = true := by simp [h]
  clear h
  clear hA hDE
  go_enter Try.func6, Try.ntmps6
  go_wp2_with (first
      | (go_at_call 9; (with_reducible refine Calls.mono (awake_any _) ?_); rintro e w1 ⟨rfl, hb1⟩; have B1 := Lib.hid (thenB (show Below w.heap.size w _ by (repeat (first | with_reducible exact Below.refl _ _ | with_reducible assumption | with_reducible refine Below.alloc ?_ (by first | (simp; done) | (simp; omega) | omega) _ | with_reducible refine Below.setCell ?_ (by first | (simp; done) | (simp; omega) | omega) _ | with_reducible refine Below.drew ?_ | with_reducible refine below_drewN ?_ _))) hb1); have a0 := (hb1.cell (p := ⟨w.heap.size, 0, none⟩) (by first | (simp; done) | (simp; omega) | omega)).trans (show _ = some (.int .i64 t) by simp [go_sem]); have a1 := (hb1.cell (p := ⟨w.heap.size, 1, none⟩) (by first | (simp; done) | (simp; omega) | omega)).trans (show _ = some (.int .i64 lo) by simp [go_sem]); have a2 := (hb1.cell (p := ⟨w.heap.size, 2, none⟩) (by first | (simp; done) | (simp; omega) | omega)).trans (show _ = some (.int .i64 hi) by simp [go_sem]); have a3 := (hb1.cell (p := ⟨w.heap.size, 3, none⟩) (by first | (simp; done) | (simp; omega) | omega)).trans (show _ = some (.int .i64 st) by simp [go_sem]); have a4 := (hb1.cell (p := ⟨w.heap.size, 4, none⟩) (by first | (simp; done) | (simp; omega) | omega)).trans (show _ = some (.int .i64 ra) by simp [go_sem]); have af := (hb1.frozen (p := ⟨w.heap.size, 4, none⟩) (by first | (simp; done) | (simp; omega) | omega)).trans (show _ = false by simp [go_sem]); clear hb1)
      | (go_at_call 19; (with_reducible refine Calls.mono (HDE.out _) ?_); rintro e w2 ⟨rfl, hb2⟩; have B2 := Lib.hid (thenB B1.out hb2); have b0 := keep hb2 a0; have b1 := keep hb2 a1; have b2 := keep hb2 a2; have b3 := keep hb2 a3; have b4 := keep hb2 a4; have bf := (hb2.frozen (p := ⟨w.heap.size, 4, none⟩) (lt_of a4)).trans af; have bf := (hb2.frozen (p := ⟨w.heap.size, 4, none⟩) (lt_of a4)).trans af; have bf := (hb2.frozen (p := ⟨w.heap.size, 4, none⟩) (lt_of a4)).trans af; clear hb2)
      | (go_at_call 28; (with_reducible refine Calls.mono (HRM.out _) ?_); rintro e w3 ⟨rfl, hb3⟩; have B3 := Lib.hid (thenB B2.out hb3); have d0 := keep hb3 b0; have d1 := keep hb3 b1; have d2 := keep hb3 b2; have d3 := keep hb3 b3; have d4 := keep hb3 b4; have df := (hb3.frozen (p := ⟨w.heap.size, 4, none⟩) (lt_of b4)).trans bf; have df := (hb3.frozen (p := ⟨w.heap.size, 4, none⟩) (lt_of b4)).trans bf; have df := (hb3.frozen (p := ⟨w.heap.size, 4, none⟩) (lt_of b4)).trans bf; clear hb3)
      | (go_at_call 20; (with_reducible refine Calls.mono (HTE.out _ (HA.out.below B3.out)) ?_); rintro e w4 ⟨rfl, hb4⟩; have B4 := Lib.hid (thenB B3.out hb4); have g0 := keep hb4 d0; have g1 := keep hb4 d1; have g2 := keep hb4 d2; have g3 := keep hb4 d3; have g4 := keep hb4 d4; have gf := (hb4.frozen (p := ⟨w.heap.size, 4, none⟩) (lt_of d4)).trans df; have gf := (hb4.frozen (p := ⟨w.heap.size, 4, none⟩) (lt_of d4)).trans df; have gf := (hb4.frozen (p := ⟨w.heap.size, 4, none⟩) (lt_of d4)).trans df; clear hb4)
      | fail)
  all_goals first
    | (go_ret; exact ⟨rfl, B1.out⟩)
    | (go_ret; exact ⟨rfl, B2.out⟩)
    | (go_ret; exact ⟨rfl, B3.out⟩)
    | (go_ret; exact ⟨rfl, B4.out⟩)
set_option maxRecDepth 100000 in
set_option maxHeartbeats 2000000 in
theorem pl_e1 (t lo hi st ra : Int) (A B : Option Addr) (n c m c' : Nat) (xs : Nat → Int) (D T : Int) (q : Bool) (w : World) (_ : n ≤ 9223372036854775807) (_ : m ≤ 9223372036854775807) (hA : IA w A n xs)
    (hDE : ∀ W, Calls Try.prog 19 #[.agg #[.int .i64 t, .int .i64 lo, .int .i64 hi, .int .i64 st, .int .i64 ra]] W fun e w' => e = .returned (.int .i64 D) ∧ Below W.heap.size W w')
    (hRM : ∀ W, D = 0 → Calls Try.prog 28 #[.agg #[.int .i64 t, .int .i64 lo, .int .i64 hi, .int .i64 st, .int .i64 ra]] W fun e w' => e = .returned (.bool q) ∧ Below W.heap.size W w')
    (hTE : ∀ W, D = 0 → n ≤ 12 → IA W A n xs → Calls Try.prog 20 #[.agg #[.int .i64 t, .int .i64 lo, .int .i64 hi, .int .i64 st, .int .i64 ra], .slice A n c] W fun e w' => e = .returned (.int .i64 T) ∧ Below W.heap.size W w')
    (h0 : D = 0) (h : q = false) :
    Calls Try.prog 6 #[.agg #[.int .i64 t, .int .i64 lo, .int .i64 hi, .int .i64 st, .int .i64 ra], .slice A n c, .slice B m c'] w fun e w' => e = .returned (.bool true) ∧ Below w.heap.size w w' := by
  have HA := Lib.hid hA
  have HDE := Lib.hid hDE
  subst h0 h
  have HRM := fun W => Lib.hid (hRM W rfl)
  have HRM := Lib.hid (fun W => (HRM W).out)
  have HTE : True := trivial
  clear hRM hTE
  clear hA hDE
  go_enter Try.func6, Try.ntmps6
  go_wp2_with (first
      | (go_at_call 9; (with_reducible refine Calls.mono (awake_any _) ?_); rintro e w1 ⟨rfl, hb1⟩; have B1 := Lib.hid (thenB (show Below w.heap.size w _ by (repeat (first | with_reducible exact Below.refl _ _ | with_reducible assumption | with_reducible refine Below.alloc ?_ (by first | (simp; done) | (simp; omega) | omega) _ | with_reducible refine Below.setCell ?_ (by first | (simp; done) | (simp; omega) | omega) _ | with_reducible refine Below.drew ?_ | with_reducible refine below_drewN ?_ _))) hb1); have a0 := (hb1.cell (p := ⟨w.heap.size, 0, none⟩) (by first | (simp; done) | (simp; omega) | omega)).trans (show _ = some (.int .i64 t) by simp [go_sem]); have a1 := (hb1.cell (p := ⟨w.heap.size, 1, none⟩) (by first | (simp; done) | (simp; omega) | omega)).trans (show _ = some (.int .i64 lo) by simp [go_sem]); have a2 := (hb1.cell (p := ⟨w.heap.size, 2, none⟩) (by first | (simp; done) | (simp; omega) | omega)).trans (show _ = some (.int .i64 hi) by simp [go_sem]); have a3 := (hb1.cell (p := ⟨w.heap.size, 3, none⟩) (by first | (simp; done) | (simp; omega) | omega)).trans (show _ = some (.int .i64 st) by simp [go_sem]); have a4 := (hb1.cell (p := ⟨w.heap.size, 4, none⟩) (by first | (simp; done) | (simp; omega) | omega)).trans (show _ = some (.int .i64 ra) by simp [go_sem]); have af := (hb1.frozen (p := ⟨w.heap.size, 4, none⟩) (by first | (simp; done) | (simp; omega) | omega)).trans (show _ = false by simp [go_sem]); clear hb1)
      | (go_at_call 19; (with_reducible refine Calls.mono (HDE.out _) ?_); rintro e w2 ⟨rfl, hb2⟩; have B2 := Lib.hid (thenB B1.out hb2); have b0 := keep hb2 a0; have b1 := keep hb2 a1; have b2 := keep hb2 a2; have b3 := keep hb2 a3; have b4 := keep hb2 a4; have bf := (hb2.frozen (p := ⟨w.heap.size, 4, none⟩) (lt_of a4)).trans af; have bf := (hb2.frozen (p := ⟨w.heap.size, 4, none⟩) (lt_of a4)).trans af; have bf := (hb2.frozen (p := ⟨w.heap.size, 4, none⟩) (lt_of a4)).trans af; clear hb2)
      | (go_at_call 28; (with_reducible refine Calls.mono (HRM.out _) ?_); rintro e w3 ⟨rfl, hb3⟩; have B3 := Lib.hid (thenB B2.out hb3); have d0 := keep hb3 b0; have d1 := keep hb3 b1; have d2 := keep hb3 b2; have d3 := keep hb3 b3; have d4 := keep hb3 b4; have df := (hb3.frozen (p := ⟨w.heap.size, 4, none⟩) (lt_of b4)).trans bf; have df := (hb3.frozen (p := ⟨w.heap.size, 4, none⟩) (lt_of b4)).trans bf; have df := (hb3.frozen (p := ⟨w.heap.size, 4, none⟩) (lt_of b4)).trans bf; clear hb3)
      | (go_at_call 20; (with_reducible refine Calls.mono (HTE.out _ (HA.out.below B3.out)) ?_); rintro e w4 ⟨rfl, hb4⟩; have B4 := Lib.hid (thenB B3.out hb4); have g0 := keep hb4 d0; have g1 := keep hb4 d1; have g2 := keep hb4 d2; have g3 := keep hb4 d3; have g4 := keep hb4 d4; have gf := (hb4.frozen (p := ⟨w.heap.size, 4, none⟩) (lt_of d4)).trans df; have gf := (hb4.frozen (p := ⟨w.heap.size, 4, none⟩) (lt_of d4)).trans df; have gf := (hb4.frozen (p := ⟨w.heap.size, 4, none⟩) (lt_of d4)).trans df; clear hb4)
      | fail)
  all_goals first
    | (go_ret; exact ⟨rfl, B1.out⟩)
    | (go_ret; exact ⟨rfl, B2.out⟩)
    | (go_ret; exact ⟨rfl, B3.out⟩)
    | (go_ret; exact ⟨rfl, B4.out⟩)
set_option maxRecDepth 100000 in
set_option maxHeartbeats 2000000 in
theorem pl_e2 (t lo hi st ra : Int) (A B : Option Addr) (n c m c' : Nat) (xs : Nat → Int) (D T : Int) (q : Bool) (w : World) (hn : n ≤ 9223372036854775807) (_ : m ≤ 9223372036854775807) (hA : IA w A n xs)
    (hDE : ∀ W, Calls Try.prog 19 #[.agg #[.int .i64 t, .int .i64 lo, .int .i64 hi, .int .i64 st, .int .i64 ra]] W fun e w' => e = .returned (.int .i64 D) ∧ Below W.heap.size W w')
    (hRM : ∀ W, D = 0 → Calls Try.prog 28 #[.agg #[.int .i64 t, .int .i64 lo, .int .i64 hi, .int .i64 st, .int .i64 ra]] W fun e w' => e = .returned (.bool q) ∧ Below W.heap.size W w')
    (hTE : ∀ W, D = 0 → n ≤ 12 → IA W A n xs → Calls Try.prog 20 #[.agg #[.int .i64 t, .int .i64 lo, .int .i64 hi, .int .i64 st, .int .i64 ra], .slice A n c] W fun e w' => e = .returned (.int .i64 T) ∧ Below W.heap.size W w')
    (h0 : D = 0) (h : q = true) (h1 : 12 < n) :
    Calls Try.prog 6 #[.agg #[.int .i64 t, .int .i64 lo, .int .i64 hi, .int .i64 st, .int .i64 ra], .slice A n c, .slice B m c'] w fun e w' => e = .returned (.bool true) ∧ Below w.heap.size w w' := by
  have HA := Lib.hid hA
  have HDE := Lib.hid hDE
  subst h0 h
  have HRM := Lib.hid (fun W => hRM W rfl)
  have HTE : True := trivial
  have g0 : (12 : Int) < (n : Int) := by omega
  clear hRM hTE
  clear hA hDE
  go_enter Try.func6, Try.ntmps6
  go_wp2_with (first
      | (go_at_call 9; (with_reducible refine Calls.mono (awake_any _) ?_); rintro e w1 ⟨rfl, hb1⟩; have B1 := Lib.hid (thenB (show Below w.heap.size w _ by (repeat (first | with_reducible exact Below.refl _ _ | with_reducible assumption | with_reducible refine Below.alloc ?_ (by first | (simp; done) | (simp; omega) | omega) _ | with_reducible refine Below.setCell ?_ (by first | (simp; done) | (simp; omega) | omega) _ | with_reducible refine Below.drew ?_ | with_reducible refine below_drewN ?_ _))) hb1); have a0 := (hb1.cell (p := ⟨w.heap.size, 0, none⟩) (by first | (simp; done) | (simp; omega) | omega)).trans (show _ = some (.int .i64 t) by simp [go_sem]); have a1 := (hb1.cell (p := ⟨w.heap.size, 1, none⟩) (by first | (simp; done) | (simp; omega) | omega)).trans (show _ = some (.int .i64 lo) by simp [go_sem]); have a2 := (hb1.cell (p := ⟨w.heap.size, 2, none⟩) (by first | (simp; done) | (simp; omega) | omega)).trans (show _ = some (.int .i64 hi) by simp [go_sem]); have a3 := (hb1.cell (p := ⟨w.heap.size, 3, none⟩) (by first | (simp; done) | (simp; omega) | omega)).trans (show _ = some (.int .i64 st) by simp [go_sem]); have a4 := (hb1.cell (p := ⟨w.heap.size, 4, none⟩) (by first | (simp; done) | (simp; omega) | omega)).trans (show _ = some (.int .i64 ra) by simp [go_sem]); have af := (hb1.frozen (p := ⟨w.heap.size, 4, none⟩) (by first | (simp; done) | (simp; omega) | omega)).trans (show _ = false by simp [go_sem]); clear hb1)
      | (go_at_call 19; (with_reducible refine Calls.mono (HDE.out _) ?_); rintro e w2 ⟨rfl, hb2⟩; have B2 := Lib.hid (thenB B1.out hb2); have b0 := keep hb2 a0; have b1 := keep hb2 a1; have b2 := keep hb2 a2; have b3 := keep hb2 a3; have b4 := keep hb2 a4; have bf := (hb2.frozen (p := ⟨w.heap.size, 4, none⟩) (lt_of a4)).trans af; have bf := (hb2.frozen (p := ⟨w.heap.size, 4, none⟩) (lt_of a4)).trans af; have bf := (hb2.frozen (p := ⟨w.heap.size, 4, none⟩) (lt_of a4)).trans af; clear hb2)
      | (go_at_call 28; (with_reducible refine Calls.mono (HRM.out _) ?_); rintro e w3 ⟨rfl, hb3⟩; have B3 := Lib.hid (thenB B2.out hb3); have d0 := keep hb3 b0; have d1 := keep hb3 b1; have d2 := keep hb3 b2; have d3 := keep hb3 b3; have d4 := keep hb3 b4; have df := (hb3.frozen (p := ⟨w.heap.size, 4, none⟩) (lt_of b4)).trans bf; have df := (hb3.frozen (p := ⟨w.heap.size, 4, none⟩) (lt_of b4)).trans bf; have df := (hb3.frozen (p := ⟨w.heap.size, 4, none⟩) (lt_of b4)).trans bf; clear hb3)
      | (go_at_call 20; (with_reducible refine Calls.mono (HTE.out _ (HA.out.below B3.out)) ?_); rintro e w4 ⟨rfl, hb4⟩; have B4 := Lib.hid (thenB B3.out hb4); have g0 := keep hb4 d0; have g1 := keep hb4 d1; have g2 := keep hb4 d2; have g3 := keep hb4 d3; have g4 := keep hb4 d4; have gf := (hb4.frozen (p := ⟨w.heap.size, 4, none⟩) (lt_of d4)).trans df; have gf := (hb4.frozen (p := ⟨w.heap.size, 4, none⟩) (lt_of d4)).trans df; have gf := (hb4.frozen (p := ⟨w.heap.size, 4, none⟩) (lt_of d4)).trans df; clear hb4)
      | fail)
  all_goals first
    | (go_ret; exact ⟨rfl, B1.out⟩)
    | (go_ret; exact ⟨rfl, B2.out⟩)
    | (go_ret; exact ⟨rfl, B3.out⟩)
    | (go_ret; exact ⟨rfl, B4.out⟩)
set_option maxRecDepth 100000 in
set_option maxHeartbeats 2000000 in
theorem pl_e3 (t lo hi st ra : Int) (A B : Option Addr) (n c m c' : Nat) (xs : Nat → Int) (D T : Int) (q : Bool) (w : World) (hn : n ≤ 9223372036854775807) (hm : m ≤ 9223372036854775807) (hA : IA w A n xs)
    (hDE : ∀ W, Calls Try.prog 19 #[.agg #[.int .i64 t, .int .i64 lo, .int .i64 hi, .int .i64 st, .int .i64 ra]] W fun e w' => e = .returned (.int .i64 D) ∧ Below W.heap.size W w')
    (hRM : ∀ W, D = 0 → Calls Try.prog 28 #[.agg #[.int .i64 t, .int .i64 lo, .int .i64 hi, .int .i64 st, .int .i64 ra]] W fun e w' => e = .returned (.bool q) ∧ Below W.heap.size W w')
    (hTE : ∀ W, D = 0 → n ≤ 12 → IA W A n xs → Calls Try.prog 20 #[.agg #[.int .i64 t, .int .i64 lo, .int .i64 hi, .int .i64 st, .int .i64 ra], .slice A n c] W fun e w' => e = .returned (.int .i64 T) ∧ Below W.heap.size W w')
    (h0 : D = 0) (h : q = true) (h1 : n ≤ 12) (h2 : 14 < m) :
    Calls Try.prog 6 #[.agg #[.int .i64 t, .int .i64 lo, .int .i64 hi, .int .i64 st, .int .i64 ra], .slice A n c, .slice B m c'] w fun e w' => e = .returned (.bool true) ∧ Below w.heap.size w w' := by
  have HA := Lib.hid hA
  have HDE := Lib.hid hDE
  subst h0 h
  have HRM := Lib.hid (fun W => hRM W rfl)
  have HTE : True := trivial
  have g0 : ¬ (12 : Int) < (n : Int) := by omega
  have g1 : (14 : Int) < (m : Int) := by omega
  clear hRM hTE
  clear hA hDE
  go_enter Try.func6, Try.ntmps6
  go_wp2_with (first
      | (go_at_call 9; (with_reducible refine Calls.mono (awake_any _) ?_); rintro e w1 ⟨rfl, hb1⟩; have B1 := Lib.hid (thenB (show Below w.heap.size w _ by (repeat (first | with_reducible exact Below.refl _ _ | with_reducible assumption | with_reducible refine Below.alloc ?_ (by first | (simp; done) | (simp; omega) | omega) _ | with_reducible refine Below.setCell ?_ (by first | (simp; done) | (simp; omega) | omega) _ | with_reducible refine Below.drew ?_ | with_reducible refine below_drewN ?_ _))) hb1); have a0 := (hb1.cell (p := ⟨w.heap.size, 0, none⟩) (by first | (simp; done) | (simp; omega) | omega)).trans (show _ = some (.int .i64 t) by simp [go_sem]); have a1 := (hb1.cell (p := ⟨w.heap.size, 1, none⟩) (by first | (simp; done) | (simp; omega) | omega)).trans (show _ = some (.int .i64 lo) by simp [go_sem]); have a2 := (hb1.cell (p := ⟨w.heap.size, 2, none⟩) (by first | (simp; done) | (simp; omega) | omega)).trans (show _ = some (.int .i64 hi) by simp [go_sem]); have a3 := (hb1.cell (p := ⟨w.heap.size, 3, none⟩) (by first | (simp; done) | (simp; omega) | omega)).trans (show _ = some (.int .i64 st) by simp [go_sem]); have a4 := (hb1.cell (p := ⟨w.heap.size, 4, none⟩) (by first | (simp; done) | (simp; omega) | omega)).trans (show _ = some (.int .i64 ra) by simp [go_sem]); have af := (hb1.frozen (p := ⟨w.heap.size, 4, none⟩) (by first | (simp; done) | (simp; omega) | omega)).trans (show _ = false by simp [go_sem]); clear hb1)
      | (go_at_call 19; (with_reducible refine Calls.mono (HDE.out _) ?_); rintro e w2 ⟨rfl, hb2⟩; have B2 := Lib.hid (thenB B1.out hb2); have b0 := keep hb2 a0; have b1 := keep hb2 a1; have b2 := keep hb2 a2; have b3 := keep hb2 a3; have b4 := keep hb2 a4; have bf := (hb2.frozen (p := ⟨w.heap.size, 4, none⟩) (lt_of a4)).trans af; have bf := (hb2.frozen (p := ⟨w.heap.size, 4, none⟩) (lt_of a4)).trans af; have bf := (hb2.frozen (p := ⟨w.heap.size, 4, none⟩) (lt_of a4)).trans af; clear hb2)
      | (go_at_call 28; (with_reducible refine Calls.mono (HRM.out _) ?_); rintro e w3 ⟨rfl, hb3⟩; have B3 := Lib.hid (thenB B2.out hb3); have d0 := keep hb3 b0; have d1 := keep hb3 b1; have d2 := keep hb3 b2; have d3 := keep hb3 b3; have d4 := keep hb3 b4; have df := (hb3.frozen (p := ⟨w.heap.size, 4, none⟩) (lt_of b4)).trans bf; have df := (hb3.frozen (p := ⟨w.heap.size, 4, none⟩) (lt_of b4)).trans bf; have df := (hb3.frozen (p := ⟨w.heap.size, 4, none⟩) (lt_of b4)).trans bf; clear hb3)
      | (go_at_call 20; (with_reducible refine Calls.mono (HTE.out _ (HA.out.below B3.out)) ?_); rintro e w4 ⟨rfl, hb4⟩; have B4 := Lib.hid (thenB B3.out hb4); have g0 := keep hb4 d0; have g1 := keep hb4 d1; have g2 := keep hb4 d2; have g3 := keep hb4 d3; have g4 := keep hb4 d4; have gf := (hb4.frozen (p := ⟨w.heap.size, 4, none⟩) (lt_of d4)).trans df; have gf := (hb4.frozen (p := ⟨w.heap.size, 4, none⟩) (lt_of d4)).trans df; have gf := (hb4.frozen (p := ⟨w.heap.size, 4, none⟩) (lt_of d4)).trans df; clear hb4)
      | fail)
  all_goals first
    | (go_ret; exact ⟨rfl, B1.out⟩)
    | (go_ret; exact ⟨rfl, B2.out⟩)
    | (go_ret; exact ⟨rfl, B3.out⟩)
    | (go_ret; exact ⟨rfl, B4.out⟩)
set_option maxRecDepth 100000 in
set_option maxHeartbeats 2000000 in
theorem pl_e4 (t lo hi st ra : Int) (A B : Option Addr) (n c m c' : Nat) (xs : Nat → Int) (D T : Int) (q : Bool) (w : World) (hn : n ≤ 9223372036854775807) (hm : m ≤ 9223372036854775807) (hA : IA w A n xs)
    (hDE : ∀ W, Calls Try.prog 19 #[.agg #[.int .i64 t, .int .i64 lo, .int .i64 hi, .int .i64 st, .int .i64 ra]] W fun e w' => e = .returned (.int .i64 D) ∧ Below W.heap.size W w')
    (hRM : ∀ W, D = 0 → Calls Try.prog 28 #[.agg #[.int .i64 t, .int .i64 lo, .int .i64 hi, .int .i64 st, .int .i64 ra]] W fun e w' => e = .returned (.bool q) ∧ Below W.heap.size W w')
    (hTE : ∀ W, D = 0 → n ≤ 12 → IA W A n xs → Calls Try.prog 20 #[.agg #[.int .i64 t, .int .i64 lo, .int .i64 hi, .int .i64 st, .int .i64 ra], .slice A n c] W fun e w' => e = .returned (.int .i64 T) ∧ Below W.heap.size W w')
    (h0 : D = 0) (h : q = true) (h1 : n ≤ 12) (h2 : m ≤ 14) (h3 : T ≠ 0) :
    Calls Try.prog 6 #[.agg #[.int .i64 t, .int .i64 lo, .int .i64 hi, .int .i64 st, .int .i64 ra], .slice A n c, .slice B m c'] w fun e w' => e = .returned (.bool true) ∧ Below w.heap.size w w' := by
  have HA := Lib.hid hA
  have HDE := Lib.hid hDE
  subst h0 h
  have HRM := Lib.hid (fun W => hRM W rfl)
  have HTE := Lib.hid (fun W hW => hTE W rfl h1 hW)
  have g0 : ¬ (12 : Int) < (n : Int) := by omega
  have g1 : ¬ (14 : Int) < (m : Int) := by omega
  have g2 : (T == 0) = false := by simp [h3]
  have g3 : (T != 0) = true := by simp [h3]
  clear hRM hTE h3
  clear hA hDE
  go_enter Try.func6, Try.ntmps6
  go_wp2_with (first
      | (go_at_call 9; (with_reducible refine Calls.mono (awake_any _) ?_); rintro e w1 ⟨rfl, hb1⟩; have B1 := Lib.hid (thenB (show Below w.heap.size w _ by (repeat (first | with_reducible exact Below.refl _ _ | with_reducible assumption | with_reducible refine Below.alloc ?_ (by first | (simp; done) | (simp; omega) | omega) _ | with_reducible refine Below.setCell ?_ (by first | (simp; done) | (simp; omega) | omega) _ | with_reducible refine Below.drew ?_ | with_reducible refine below_drewN ?_ _))) hb1); have a0 := (hb1.cell (p := ⟨w.heap.size, 0, none⟩) (by first | (simp; done) | (simp; omega) | omega)).trans (show _ = some (.int .i64 t) by simp [go_sem]); have a1 := (hb1.cell (p := ⟨w.heap.size, 1, none⟩) (by first | (simp; done) | (simp; omega) | omega)).trans (show _ = some (.int .i64 lo) by simp [go_sem]); have a2 := (hb1.cell (p := ⟨w.heap.size, 2, none⟩) (by first | (simp; done) | (simp; omega) | omega)).trans (show _ = some (.int .i64 hi) by simp [go_sem]); have a3 := (hb1.cell (p := ⟨w.heap.size, 3, none⟩) (by first | (simp; done) | (simp; omega) | omega)).trans (show _ = some (.int .i64 st) by simp [go_sem]); have a4 := (hb1.cell (p := ⟨w.heap.size, 4, none⟩) (by first | (simp; done) | (simp; omega) | omega)).trans (show _ = some (.int .i64 ra) by simp [go_sem]); have af := (hb1.frozen (p := ⟨w.heap.size, 4, none⟩) (by first | (simp; done) | (simp; omega) | omega)).trans (show _ = false by simp [go_sem]); clear hb1)
      | (go_at_call 19; (with_reducible refine Calls.mono (HDE.out _) ?_); rintro e w2 ⟨rfl, hb2⟩; have B2 := Lib.hid (thenB B1.out hb2); have b0 := keep hb2 a0; have b1 := keep hb2 a1; have b2 := keep hb2 a2; have b3 := keep hb2 a3; have b4 := keep hb2 a4; have bf := (hb2.frozen (p := ⟨w.heap.size, 4, none⟩) (lt_of a4)).trans af; have bf := (hb2.frozen (p := ⟨w.heap.size, 4, none⟩) (lt_of a4)).trans af; have bf := (hb2.frozen (p := ⟨w.heap.size, 4, none⟩) (lt_of a4)).trans af; clear hb2)
      | (go_at_call 28; (with_reducible refine Calls.mono (HRM.out _) ?_); rintro e w3 ⟨rfl, hb3⟩; have B3 := Lib.hid (thenB B2.out hb3); have d0 := keep hb3 b0; have d1 := keep hb3 b1; have d2 := keep hb3 b2; have d3 := keep hb3 b3; have d4 := keep hb3 b4; have df := (hb3.frozen (p := ⟨w.heap.size, 4, none⟩) (lt_of b4)).trans bf; have df := (hb3.frozen (p := ⟨w.heap.size, 4, none⟩) (lt_of b4)).trans bf; have df := (hb3.frozen (p := ⟨w.heap.size, 4, none⟩) (lt_of b4)).trans bf; clear hb3)
      | (go_at_call 20; (with_reducible refine Calls.mono (HTE.out _ (HA.out.below B3.out)) ?_); rintro e w4 ⟨rfl, hb4⟩; have B4 := Lib.hid (thenB B3.out hb4); have g0 := keep hb4 d0; have g1 := keep hb4 d1; have g2 := keep hb4 d2; have g3 := keep hb4 d3; have g4 := keep hb4 d4; have gf := (hb4.frozen (p := ⟨w.heap.size, 4, none⟩) (lt_of d4)).trans df; have gf := (hb4.frozen (p := ⟨w.heap.size, 4, none⟩) (lt_of d4)).trans df; have gf := (hb4.frozen (p := ⟨w.heap.size, 4, none⟩) (lt_of d4)).trans df; clear hb4)
      | fail)
  all_goals first
    | (go_ret; exact ⟨rfl, B1.out⟩)
    | (go_ret; exact ⟨rfl, B2.out⟩)
    | (go_ret; exact ⟨rfl, B3.out⟩)
    | (go_ret; exact ⟨rfl, B4.out⟩)
theorem pathLeast_any (t lo hi st ra : Int) (A B : Option Addr) (n c m c' : Nat) (xs ys : Nat → Int) (w : World) (hn : n ≤ 9223372036854775807) (hm : m ≤ 9223372036854775807) (hA0 : A = none → n = 0 ∧ c = 0) (hB0 : B = none → m = 0 ∧ c' = 0) (hA : IA w A n xs) (hB : IA w B m ys) :
    Calls Try.prog 6 #[.agg #[.int .i64 t, .int .i64 lo, .int .i64 hi, .int .i64 st, .int .i64 ra], .slice A n c, .slice B m c'] w fun e w' => e = .returned (.bool true) ∧ Below w.heap.size w w' := by
  have hDE := fun W => rdriveErr_any t lo hi st ra W
  have hRM : ∀ W, driveErr t lo hi st ra = 0 → _ := fun W hd => roomy_any t lo hi st ra W hd
  have hTE : ∀ W, driveErr t lo hi st ra = 0 → n ≤ 12 → IA W A n xs → _ := fun W hd h12 hW => rtargetsErr_any t lo hi st ra A n c xs W (by omega) (drive_ok hd).1.1 (drive_ok hd).1.2 hW
  by_cases hd : driveErr t lo hi st ra = 0
  · cases hq : decide ((hi - lo).tdiv t ≤ 10)
    · exact pl_e1 t lo hi st ra A B n c m c' xs _ _ _ w hn hm hA hDE hRM hTE hd hq
    · by_cases h12 : n ≤ 12
      · by_cases h14 : m ≤ 14
        · by_cases hT : tgErr n xs t = 0
          · exact pathLeast_main t lo hi st ra A B n c m c' xs ys w hA0 hB0 hA hB h12 h14 ((pe_0 hd).trans hT) (by simpa using hq)
          · exact pl_e4 t lo hi st ra A B n c m c' xs _ _ _ w hn hm hA hDE hRM hTE hd hq h12 h14 hT
        · exact pl_e3 t lo hi st ra A B n c m c' xs _ _ _ w hn hm hA hDE hRM hTE hd hq h12 (by omega)
      · exact pl_e2 t lo hi st ra A B n c m c' xs _ _ _ w hn hm hA hDE hRM hTE hd hq (by omega)
  · exact pl_e0 t lo hi st ra A B n c m c' xs _ (tgErr n xs t) (decide ((hi - lo).tdiv t ≤ 10)) w hn hm hA hDE hRM hTE hd
set_option maxRecDepth 100000 in
theorem pathLeast_lifted (os : Os) (started : os.Started) (H : Type) (enc : TypeId × Value → H) :
    ReturnsInHanded {} Try.checked os 6 .any (Rows.pathLeastSpec.pre6 enc Try.prog Try.f6 Rows.pathLeastRow.domain false) (Rows.pathLeastSpec.post enc Try.prog Try.f6 false true false false) := by
  refine returnsInHanded_of_change (C := Try.checked) own started (by kernel_rfl) Try.func6
    (ChangeSpec.witness6 (enc := enc) (C := Try.checked) false ⟨#[], #[.agg #[.int .i64 0, .int .i64 0, .int .i64 0, .int .i64 0, .int .i64 0], .slice none 0 0, .slice none 0 0], []⟩ 8 (by kernel_rfl) (by kernel_rfl) (by kernel_rfl) (by kernel_rfl)) ?_
  intro W base args ds gs before hval0 hW hcnd _
  have hval : ∀ (j : Nat) t v, Try.f6.params[j]? = some t → args[j]? = some v → Value.okWide Try.prog W .any base t v := hval0
  have hW' := hW
  obtain ⟨p, q, hA0, hV, rfl, hfz, hnd⟩ := hW
  have hA : DataW.TrodAll enc Try.prog W 0 (fun _ => true) true Try.f6.params.toList args.toList ds p := hA0
  rw [Try.params6] at hA hval
  obtain ⟨v0, vs0, d0, ds0, p0, q0, hargs, rfl, rfl, h0, r0⟩ := trodAll_cons hA
  obtain ⟨v1, vs1, d1, ds1, p1, q1, rfl, rfl, rfl, h1, r1⟩ := trodAll_cons r0
  obtain ⟨v2, vs2, d2, ds2, p2, q2, rfl, rfl, rfl, h2, r2⟩ := trodAll_cons r1
  obtain ⟨rfl, rfl, rfl⟩ := trodAll_nil r2
  obtain rfl : args = #[v0, v1, v2] := by cases args; simp_all
  obtain ⟨rfl, rfl⟩ := trodVars_none hV
  have k0 := h0
  have k1 := h1
  have k2 := h2
  have lt0 : ∀ x ∈ p0, x.block < W.heap.size := by obtain ⟨m, hm⟩ := k0; exact DataW.trod_lt m _ _ _ hm
  have lt1 : ∀ x ∈ p1, x.block < W.heap.size := by obtain ⟨m, hm⟩ := k1; exact DataW.trod_lt m _ _ _ hm
  have lt2 : ∀ x ∈ p2, x.block < W.heap.size := by obtain ⟨m, hm⟩ := k2; exact DataW.trod_lt m _ _ _ hm
  obtain ⟨t, lo, hi, st, ra, rfl⟩ := open_drive (hval 0 43 v0 rfl rfl) h0
  obtain ⟨A, n, c, xs, rfl, hn, hA1, hA2⟩ := open_list (hval 1 44 v1 rfl rfl) h1
  obtain ⟨B, m, c', ys, rfl, hm, hB1, hB2⟩ := open_list (hval 2 44 v2 rfl rfl) h2
  clear hA0 hval0
  refine (pathLeast_any t lo hi st ra A B n c m c' xs ys W hn hm hA1 hB1 hA2 hB2).mono fun e W' ⟨he, bel⟩ => ?_
  subst he
  exact ⟨_, rfl, _, _, _, [], _, [], hW', trodAll_mk1 (shut_bool Try.underlying4 _), (trodAll_cons_mk (Below.trod laidOut (by kernel_rfl) (of_decide_eq_true (by kernel_rfl)) k0 bel lt0) (trodAll_cons_mk (Below.trod laidOut (by kernel_rfl) (of_decide_eq_true (by kernel_rfl)) k1 bel lt1) (trodAll_cons_mk (Below.trod laidOut (by kernel_rfl) (of_decide_eq_true (by kernel_rfl)) k2 bel lt2) trodAll_mk0))), rfl, bel.frame _, fun h => by cases h⟩
theorem pathLeast_over : Rows.pathLeastRow.holds Try.pinned (OpenSpec.ofChange Rows.pathLeastSpec) :=
  OpenClaim.holds_of_wide 6 Try.f6 rfl rfl rfl rfl rfl rfl rfl ⟨by kernel_rfl, by kernel_rfl, by kernel_rfl, by kernel_rfl, by kernel_rfl⟩ rfl rfl rfl rfl rfl (by kernel_rfl) Try.func6 (by kernel_rfl)
    (of_decide_eq_true (by kernel_rfl)) (by unfold Func.isWrapper; first | (rw [if_pos (by decide +kernel)]; kernel_rfl) | (rw [if_neg (by decide +kernel)]; exact ⟨rfl, rfl⟩))
    (fun os started H enc _ => pathLeast_lifted os started H enc)
/-- THE STATEMENT. -/
theorem pathLeast_holds : Rows.PathLeastSaid := pathLeast_over
end Go.Proofs.Ytolondcbllkimaa
