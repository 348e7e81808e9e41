/- Helpers: numbers of any size negated, added, subtracted, compared (base.Wide). -/
import Derived.Test.YtnfoagcpgegldaaGreatB21
namespace Go.Proofs.YtnfoagcpgegldaaGreat
open Go.RowKit Go.Shelf Go.Sort
attribute [local go_sem] idx3_0 idx3_1 idx3_2 old1 fro1 old2 fro2 old3 fro3 old4 fro4 old5 fro5 old6 fro6 old7 fro7 old8 fro8 old9 fro9 old10 fro10 old11 fro11 old12 fro12
theorem dr_ne {w : World} {A : Option Addr} {n c B : Nat} {N : Int} (h : DR w A n c N) (hg : ∀ g, A = some ⟨g, 0, none⟩ → g ≠ B) (o : Nat) (u : Value) : DR (w.setCell ⟨B, o, none⟩ u) A n c N :=
  ⟨h.1, fun g e => ⟨by have := (h.2 g e).1; simpa using this, fun i hi => cell_ne ((h.2 g e).2 i hi) (fun e1 _ => by have := hg g e; omega)⟩⟩
set_option maxRecDepth 100000 in
set_option maxHeartbeats 800000 in
theorem wideNeg_any (s : Int) (A : Option Addr) (n c : Nat) (w : World) (h1 : -1 ≤ s) (h2 : s ≤ 1) :
    Calls Tryz.prog 145 #[.agg #[.int .i64 s, .slice A n c]] w fun e w' => e = .returned (.agg #[.int .i64 (-s), .slice A n c]) ∧ Below w.heap.size w w' := by
  have u : IntKind.i64.wrap (-s) = -s := IntWalk.i64_in _ (by omega)
  go_enter Tryz.func145, Tryz.ntmps145
  go_wp2_with fail
  refine bodyPost_ret (v := .agg #[.int .i64 (-s), .slice A n c]) (by simp [results, Tryz.results145, go_sem]) rfl ⟨rfl, by (repeat (first | with_reducible exact Below.refl _ _ | with_reducible assumption | with_reducible refine Below.alloc ?_ (by first | (simp; done) | (simp; omega) | omega) _ | with_reducible refine Below.setCell ?_ (by first | (simp; done) | (simp; omega) | omega) _ | with_reducible refine Below.drew ?_ | with_reducible refine below_drewN ?_ _))⟩
set_option maxRecDepth 100000 in
set_option maxHeartbeats 800000 in
theorem wadd_l (t : Int) (A B : Option Addr) (n c m c' : Nat) (w : World) :
    Calls Tryz.prog 106 #[.agg #[.int .i64 0, .slice A n c], .agg #[.int .i64 t, .slice B m c']] w fun e w' => e = .returned (.agg #[.int .i64 t, .slice B m c']) ∧ Below w.heap.size w w' := by
  go_enter Tryz.func106, Tryz.ntmps106
  go_wp2_with fail
  refine bodyPost_ret (v := .agg #[.int .i64 t, .slice B m c']) (by simp [results, Tryz.results106, go_sem]) rfl ⟨rfl, by (repeat (first | with_reducible exact Below.refl _ _ | with_reducible assumption | with_reducible refine Below.alloc ?_ (by first | (simp; done) | (simp; omega) | omega) _ | with_reducible refine Below.setCell ?_ (by first | (simp; done) | (simp; omega) | omega) _ | with_reducible refine Below.drew ?_ | with_reducible refine below_drewN ?_ _))⟩
set_option maxRecDepth 100000 in
set_option maxHeartbeats 800000 in
theorem wadd_r (s : Int) (A B : Option Addr) (n c m c' : Nat) (w : World) (hs : s ≠ 0) :
    Calls Tryz.prog 106 #[.agg #[.int .i64 s, .slice A n c], .agg #[.int .i64 0, .slice B m c']] w fun e w' => e = .returned (.agg #[.int .i64 s, .slice A n c]) ∧ Below w.heap.size w w' := by
  have g0 : (s == 0) = false := by simp [hs]
  go_enter Tryz.func106, Tryz.ntmps106
  go_wp2_with fail
  refine bodyPost_ret (v := .agg #[.int .i64 s, .slice A n c]) (by simp [results, Tryz.results106, go_sem]) rfl ⟨rfl, by (repeat (first | with_reducible exact Below.refl _ _ | with_reducible assumption | with_reducible refine Below.alloc ?_ (by first | (simp; done) | (simp; omega) | omega) _ | with_reducible refine Below.setCell ?_ (by first | (simp; done) | (simp; omega) | omega) _ | with_reducible refine Below.drew ?_ | with_reducible refine below_drewN ?_ _))⟩
set_option maxRecDepth 100000 in
set_option maxHeartbeats 4000000 in
theorem wadd_s (s t : Int) (A B : Option Addr) (c c' : Nat) (P Q : Int) (w : World) (P0 : 0 ≤ P) (P1 : P < bp 50) (Q0 : 0 ≤ Q) (Q1 : Q < bp 50) (hA : DR w A (ln P) c P) (hB : DR w B (ln Q) c' Q) (hs : s ≠ 0) (hst : s = t) :
    Calls Tryz.prog 106 #[.agg #[.int .i64 s, .slice A (ln P) c], .agg #[.int .i64 t, .slice B (ln Q) c']] w fun e w' => ∃ A' c2, e = .returned (.agg #[.int .i64 (if P + Q = 0 then 0 else s), .slice A' (ln (P + Q)) c2]) ∧ (DR w' A' (ln (P + Q)) c2 (P + Q) ∧ ∀ g, A' = some ⟨g, 0, none⟩ → w.heap.size + 1 + 1 < g) ∧ Below w.heap.size w w' := by
  subst hst
  have lP := ln_spec P0 (Int.lt_of_lt_of_le P1 (bp_mono (show 50 ≤ 60 by decide)))
  have lQ := ln_spec Q0 (Int.lt_of_lt_of_le Q1 (bp_mono (show 50 ≤ 60 by decide)))
  have nP := ln_le P0 (Int.lt_of_lt_of_le P1 (bp_mono (show 50 ≤ 60 by decide))) P1
  have nQ := ln_le Q0 (Int.lt_of_lt_of_le Q1 (bp_mono (show 50 ≤ 60 by decide))) Q1
  have X60 : P + Q < bp 60 := by
    have := bp_mono (show 51 ≤ 60 by decide)
    have : bp 51 = bp 50 * 1000000000 := bp_s 50
    have := bp_pos 50
    omega
  have X0 : 0 ≤ P + Q := by omega
  have HAD := fun W a b => Lib.hid (addDigits_any A B (ln P) (ln Q) c c' P Q W (by omega) (by omega) P0 lP.1 a Q0 lQ.1 b)
  have HW := fun W A1 k1 c1 (h1 : k1 ≤ 59) h2 h3 => Lib.hid (wideOf_any s A1 k1 c1 (P + Q) W (by omega) (by omega) h2 h3)
  generalize (if P + Q = 0 then (0 : Int) else s) = sv at *
  generalize P + Q = X at *
  have HA := Lib.hid hA
  have HB := Lib.hid hB
  have g0 : (s == 0) = false := by simp [hs]
  clear hA hB lP lQ hs P0 P1 Q0 Q1
  generalize ln P = n at *
  generalize ln Q = m at *
  go_enter Tryz.func106, Tryz.ntmps106
  go_wp2_with fail
  go_region_held3 (fun w' => w'.cell? ⟨w.heap.size, 0, none⟩ = some (.int .i64 s) ∧ w'.cell? ⟨w.heap.size, 1, none⟩ = some (.slice A n c) ∧ w'.cell? ⟨w.heap.size + 1, 0, none⟩ = some (.int .i64 s) ∧ w'.cell? ⟨w.heap.size + 1, 1, none⟩ = some (.slice B m c')) (simp [go_sem, *])
    (first
      | (go_at_call 142; (with_reducible refine Calls.mono (HAD _ (HA.out.below (show Below w.heap.size w _ by (repeat (first | with_reducible exact Below.refl _ _ | with_reducible assumption | with_reducible refine Below.alloc ?_ (by first | (simp; done) | (simp; omega) | omega) _ | with_reducible refine Below.setCell ?_ (by first | (simp; done) | (simp; omega) | omega) _ | with_reducible refine Below.drew ?_ | with_reducible refine below_drewN ?_ _)))) (HB.out.below (show Below w.heap.size w _ by (repeat (first | with_reducible exact Below.refl _ _ | with_reducible assumption | with_reducible refine Below.alloc ?_ (by first | (simp; done) | (simp; omega) | omega) _ | with_reducible refine Below.setCell ?_ (by first | (simp; done) | (simp; omega) | omega) _ | with_reducible refine Below.drew ?_ | with_reducible refine below_drewN ?_ _))))).out ?_); rintro e w1 ⟨A1, k1, c1, rfl, hk1, hn1, hd1, hb1⟩; have HK1 := Lib.hid hk1; have HN1 := Lib.hid hn1; have HD1 := Lib.hid hd1.1; have HF1 : Hid (∀ g, A1 = some ⟨g, 0, none⟩ → w.heap.size + 1 + 1 < g) := (fun g e => by have := hd1.2 g e; (try simp at this); omega); have HL : Hid (ln X ≤ k1) := ln_le X0 X60 hn1; clear hk1 hn1 hd1; have B1 := Lib.hid (thenD (show Below w.heap.size w _ by (repeat (first | with_reducible exact Below.refl _ _ | with_reducible assumption | with_reducible refine Below.alloc ?_ (by first | (simp; done) | (simp; omega) | omega) _ | with_reducible refine Below.setCell ?_ (by first | (simp; done) | (simp; omega) | omega) _ | with_reducible refine Below.drew ?_ | with_reducible refine below_drewN ?_ _))) hb1); have p0 := (hb1.cell (p := ⟨w.heap.size, 0, none⟩) (by first | (simp; done) | (simp; omega) | omega)).trans (show _ = some (.int .i64 s) by simp [go_sem]); have p1 := (hb1.cell (p := ⟨w.heap.size, 1, none⟩) (by first | (simp; done) | (simp; omega) | omega)).trans (show _ = some (.slice A n c) by simp [go_sem]); have p2 := (hb1.cell (p := ⟨w.heap.size + 1, 0, none⟩) (by first | (simp; done) | (simp; omega) | omega)).trans (show _ = some (.int .i64 s) by simp [go_sem]); have p3 := (hb1.cell (p := ⟨w.heap.size + 1, 1, none⟩) (by first | (simp; done) | (simp; omega) | omega)).trans (show _ = some (.slice B m c') by simp [go_sem]); have p4 := (hb1.cell (p := ⟨w.heap.size + 1 + 1, 0, none⟩) (by first | (simp; done) | (simp; omega) | omega)).trans (show _ = some (.int .i64 0) by simp [go_sem]); have p5 := (hb1.cell (p := ⟨w.heap.size + 1 + 1, 1, none⟩) (by first | (simp; done) | (simp; omega) | omega)).trans (show _ = some (.slice none 0 0) by simp [go_sem]); have f0 := (hb1.frozen (p := ⟨w.heap.size + 1 + 1, 0, none⟩) (by first | (simp; done) | (simp; omega) | omega)).trans (show _ = false by simp [go_sem]); have f1 := (hb1.frozen (p := ⟨w.heap.size + 1 + 1, 1, none⟩) (by first | (simp; done) | (simp; omega) | omega)).trans (show _ = false by simp [go_sem]); have hz1 := hb1.size; (try simp at hz1); clear hb1)
      | (go_at_call 141; (with_reducible refine Calls.mono (HW _ A1 k1 c1 HK1.out HN1.out HD1.out).out ?_); rintro e w2 ⟨rfl, hb2⟩; have HD2 := Lib.hid (HD1.out.below hb2); have B2 := Lib.hid (thenD B1.out hb2); have q0 := keep hb2 p0; have q1 := keep hb2 p1; have q2 := keep hb2 p2; have q3 := keep hb2 p3; have q4 := keep hb2 p4; have q5 := keep hb2 p5; have h0 := (hb2.frozen (p := ⟨w.heap.size + 1 + 1, 0, none⟩) (by first | (simp; done) | (simp; omega) | omega)).trans f0; have h1 := (hb2.frozen (p := ⟨w.heap.size + 1 + 1, 1, none⟩) (by first | (simp; done) | (simp; omega) | omega)).trans f1; clear hb2)
      | fail)
  all_goals
    go_wp2_with fail
    refine bodyPost_ret (v := .agg #[.int .i64 sv, .slice A1 (ln X) c1]) (by simp [results, Tryz.results106, go_sem, *]) rfl ⟨_, _, rfl, ⟨?_, HF1.out⟩, ?_⟩
    · exact dr_ne (dr_ne (HD2.out.less HL.out) (fun g e => by have := HF1.out g e; omega) _ _) (fun g e => by have := HF1.out g e; omega) _ _
    · have B := B2.out
      (repeat (first | with_reducible exact Below.refl _ _ | with_reducible assumption | with_reducible refine Below.alloc ?_ (by first | (simp; done) | (simp; omega) | omega) _ | with_reducible refine Below.setCell ?_ (by first | (simp; done) | (simp; omega) | omega) _ | with_reducible refine Below.drew ?_ | with_reducible refine below_drewN ?_ _))

set_option maxRecDepth 100000 in
set_option maxHeartbeats 4000000 in
theorem wadd_g (s t : Int) (A B : Option Addr) (c c' : Nat) (P Q : Int) (w : World) (P0 : 0 ≤ P) (P1 : P < bp 50) (Q0 : 0 ≤ Q) (Q1 : Q < bp 50) (hA : DR w A (ln P) c P) (hB : DR w B (ln Q) c' Q) (hs : s ≠ 0) (ht : t ≠ 0) (hst : s ≠ t) (hlt : Q < P) :
    Calls Tryz.prog 106 #[.agg #[.int .i64 s, .slice A (ln P) c], .agg #[.int .i64 t, .slice B (ln Q) c']] w fun e w' => ∃ A' c2, e = .returned (.agg #[.int .i64 (if P - Q = 0 then 0 else s), .slice A' (ln (P - Q)) c2]) ∧ (DR w' A' (ln (P - Q)) c2 (P - Q) ∧ ∀ g, A' = some ⟨g, 0, none⟩ → w.heap.size + 1 + 1 < g) ∧ Below w.heap.size w w' := by
  have lP := ln_spec P0 (Int.lt_of_lt_of_le P1 (bp_mono (show 50 ≤ 60 by decide)))
  have lQ := ln_spec Q0 (Int.lt_of_lt_of_le Q1 (bp_mono (show 50 ≤ 60 by decide)))
  have nP := ln_le P0 (Int.lt_of_lt_of_le P1 (bp_mono (show 50 ≤ 60 by decide))) P1
  have nQ := ln_le Q0 (Int.lt_of_lt_of_le Q1 (bp_mono (show 50 ≤ 60 by decide))) Q1
  have X60 : P - Q < bp 60 := by
    have := bp_mono (show 50 ≤ 60 by decide)
    omega
  have X0 : 0 ≤ P - Q := by omega
  have HC := fun W a b => Lib.hid (cmpDigits_any A B c c' P Q W P0 (by have := bp_mono (show 50 ≤ 60 by decide); omega) a Q0 (by have := bp_mono (show 50 ≤ 60 by decide); omega) b)
  rw [cmpI_gt hlt] at HC
  have HSD := fun W a b => Lib.hid (subDigits_any A B (ln P) (ln Q) c c' P Q W (by omega) (by omega) P0 lP.1 a Q0 lQ.1 b (by omega))
  have lX := ln_spec X0 X60
  have HW := fun W A1 c1 h3 => Lib.hid (wideOf_any s A1 (ln (P - Q)) c1 (P - Q) W lX.2.2 X0 lX.1 h3)
  generalize (if P - Q = 0 then (0 : Int) else s) = sv at *
  generalize P - Q = X at *
  have HA := Lib.hid hA
  have HB := Lib.hid hB
  have g0 : (s == 0) = false := by simp [hs]
  have g1 : (t == 0) = false := by simp [ht]
  have g2 : (s == t) = false := by simp [hst]
  clear hA hB lP lQ hs ht hst hlt P0 P1 Q0 Q1 lX X0 X60
  generalize ln P = n at *
  generalize ln Q = m at *
  go_enter Tryz.func106, Tryz.ntmps106
  go_wp2_with (first
    | (go_at_call 143; (with_reducible refine Calls.mono (HC _ (HA.out.below (show Below w.heap.size w _ by (repeat (first | with_reducible exact Below.refl _ _ | with_reducible assumption | with_reducible refine Below.alloc ?_ (by first | (simp; done) | (simp; omega) | omega) _ | with_reducible refine Below.setCell ?_ (by first | (simp; done) | (simp; omega) | omega) _ | with_reducible refine Below.drew ?_ | with_reducible refine below_drewN ?_ _)))) (HB.out.below (show Below w.heap.size w _ by (repeat (first | with_reducible exact Below.refl _ _ | with_reducible assumption | with_reducible refine Below.alloc ?_ (by first | (simp; done) | (simp; omega) | omega) _ | with_reducible refine Below.setCell ?_ (by first | (simp; done) | (simp; omega) | omega) _ | with_reducible refine Below.drew ?_ | with_reducible refine below_drewN ?_ _))))).out ?_); rintro e w8 ⟨rfl, hb8⟩; have B8 := Lib.hid (thenD (show Below w.heap.size w _ by (repeat (first | with_reducible exact Below.refl _ _ | with_reducible assumption | with_reducible refine Below.alloc ?_ (by first | (simp; done) | (simp; omega) | omega) _ | with_reducible refine Below.setCell ?_ (by first | (simp; done) | (simp; omega) | omega) _ | with_reducible refine Below.drew ?_ | with_reducible refine below_drewN ?_ _))) hb8); have r0 := (hb8.cell (p := ⟨w.heap.size, 0, none⟩) (by first | (simp; done) | (simp; omega) | omega)).trans (show _ = some (.int .i64 s) by simp [go_sem]); have r1 := (hb8.cell (p := ⟨w.heap.size, 1, none⟩) (by first | (simp; done) | (simp; omega) | omega)).trans (show _ = some (.slice A n c) by simp [go_sem]); have r2 := (hb8.cell (p := ⟨w.heap.size + 1, 0, none⟩) (by first | (simp; done) | (simp; omega) | omega)).trans (show _ = some (.int .i64 t) by simp [go_sem]); have r3 := (hb8.cell (p := ⟨w.heap.size + 1, 1, none⟩) (by first | (simp; done) | (simp; omega) | omega)).trans (show _ = some (.slice B m c') by simp [go_sem]); have r4 := (hb8.cell (p := ⟨w.heap.size + 1 + 1, 0, none⟩) (by first | (simp; done) | (simp; omega) | omega)).trans (show _ = some (.int .i64 0) by simp [go_sem]); have r5 := (hb8.cell (p := ⟨w.heap.size + 1 + 1, 1, none⟩) (by first | (simp; done) | (simp; omega) | omega)).trans (show _ = some (.slice none 0 0) by simp [go_sem]); have f8 := (hb8.frozen (p := ⟨w.heap.size + 1 + 1, 0, none⟩) (by first | (simp; done) | (simp; omega) | omega)).trans (show _ = false by simp [go_sem]); have f9 := (hb8.frozen (p := ⟨w.heap.size + 1 + 1, 1, none⟩) (by first | (simp; done) | (simp; omega) | omega)).trans (show _ = false by simp [go_sem]); have hz8 := hb8.size; (try simp at hz8); (try replace hz8 := Nat.lt_of_succ_le hz8); clear hb8)
    | fail)
  go_region_held3 (fun w' => w'.cell? ⟨w.heap.size, 0, none⟩ = some (.int .i64 s) ∧ w'.cell? ⟨w.heap.size, 1, none⟩ = some (.slice A n c) ∧ w'.cell? ⟨w.heap.size + 1, 0, none⟩ = some (.int .i64 t) ∧ w'.cell? ⟨w.heap.size + 1, 1, none⟩ = some (.slice B m c')) (simp [go_sem, *])
    (first
      | (go_at_call 144; (with_reducible refine Calls.mono (HSD _ (HA.out.below (show Below w.heap.size w _ by have B := B8.out; (repeat (first | with_reducible exact Below.refl _ _ | with_reducible assumption | with_reducible refine Below.alloc ?_ (by first | (simp; done) | (simp; omega) | omega) _ | with_reducible refine Below.setCell ?_ (by first | (simp; done) | (simp; omega) | omega) _ | with_reducible refine Below.drew ?_ | with_reducible refine below_drewN ?_ _)))) (HB.out.below (show Below w.heap.size w _ by have B := B8.out; (repeat (first | with_reducible exact Below.refl _ _ | with_reducible assumption | with_reducible refine Below.alloc ?_ (by first | (simp; done) | (simp; omega) | omega) _ | with_reducible refine Below.setCell ?_ (by first | (simp; done) | (simp; omega) | omega) _ | with_reducible refine Below.drew ?_ | with_reducible refine below_drewN ?_ _))))).out ?_); rintro e w1 ⟨A1, c1, rfl, hd1, hb1⟩; have HD1 := Lib.hid hd1.1; have HF1 : Hid (∀ g, A1 = some ⟨g, 0, none⟩ → w.heap.size + 1 + 1 < g) := (fun g e => by have := hd1.2 g e; (try simp at this); omega); have HL : Hid (ln X ≤ ln X) := Nat.le_refl _; clear hd1; have B1 := Lib.hid (thenD (show Below w.heap.size w _ by have B := B8.out; (repeat (first | with_reducible exact Below.refl _ _ | with_reducible assumption | with_reducible refine Below.alloc ?_ (by first | (simp; done) | (simp; omega) | omega) _ | with_reducible refine Below.setCell ?_ (by first | (simp; done) | (simp; omega) | omega) _ | with_reducible refine Below.drew ?_ | with_reducible refine below_drewN ?_ _))) hb1); have p0 := (hb1.cell (p := ⟨w.heap.size, 0, none⟩) (by first | (simp; done) | (simp; omega) | omega)).trans (show _ = some (.int .i64 s) by simp [go_sem, *]); have p1 := (hb1.cell (p := ⟨w.heap.size, 1, none⟩) (by first | (simp; done) | (simp; omega) | omega)).trans (show _ = some (.slice A n c) by simp [go_sem, *]); have p2 := (hb1.cell (p := ⟨w.heap.size + 1, 0, none⟩) (by first | (simp; done) | (simp; omega) | omega)).trans (show _ = some (.int .i64 t) by simp [go_sem, *]); have p3 := (hb1.cell (p := ⟨w.heap.size + 1, 1, none⟩) (by first | (simp; done) | (simp; omega) | omega)).trans (show _ = some (.slice B m c') by simp [go_sem, *]); have p4 := (hb1.cell (p := ⟨w.heap.size + 1 + 1, 0, none⟩) (by first | (simp; done) | (simp; omega) | omega)).trans (show _ = some (.int .i64 0) by simp [go_sem, *]); have p5 := (hb1.cell (p := ⟨w.heap.size + 1 + 1, 1, none⟩) (by first | (simp; done) | (simp; omega) | omega)).trans (show _ = some (.slice none 0 0) by simp [go_sem, *]); have f0 := (hb1.frozen (p := ⟨w.heap.size + 1 + 1, 0, none⟩) (by first | (simp; done) | (simp; omega) | omega)).trans (show _ = false by simp [go_sem, *]); have f1 := (hb1.frozen (p := ⟨w.heap.size + 1 + 1, 1, none⟩) (by first | (simp; done) | (simp; omega) | omega)).trans (show _ = false by simp [go_sem, *]); have hz1 := hb1.size; (try simp at hz1); clear hb1)
      | (go_at_call 141; (with_reducible refine Calls.mono (HW _ A1 c1 HD1.out).out ?_); rintro e w2 ⟨rfl, hb2⟩; have HD2 := Lib.hid (HD1.out.below hb2); have B2 := Lib.hid (thenD B1.out hb2); have q0 := keep hb2 p0; have q1 := keep hb2 p1; have q2 := keep hb2 p2; have q3 := keep hb2 p3; have q4 := keep hb2 p4; have q5 := keep hb2 p5; have h0 := (hb2.frozen (p := ⟨w.heap.size + 1 + 1, 0, none⟩) (by first | (simp; done) | (simp; omega) | omega)).trans f0; have h1 := (hb2.frozen (p := ⟨w.heap.size + 1 + 1, 1, none⟩) (by first | (simp; done) | (simp; omega) | omega)).trans f1; clear hb2)
      | fail)
  all_goals
    go_wp2_with fail
    refine bodyPost_ret (v := .agg #[.int .i64 sv, .slice A1 (ln X) c1]) (by simp [results, Tryz.results106, go_sem, *]) rfl ⟨_, _, rfl, ⟨?_, HF1.out⟩, ?_⟩
    · exact dr_ne (dr_ne (HD2.out.less HL.out) (fun g e => by have := HF1.out g e; omega) _ _) (fun g e => by have := HF1.out g e; omega) _ _
    · have B := B2.out
      (repeat (first | with_reducible exact Below.refl _ _ | with_reducible assumption | with_reducible refine Below.alloc ?_ (by first | (simp; done) | (simp; omega) | omega) _ | with_reducible refine Below.setCell ?_ (by first | (simp; done) | (simp; omega) | omega) _ | with_reducible refine Below.drew ?_ | with_reducible refine below_drewN ?_ _))
set_option maxRecDepth 100000 in
set_option maxHeartbeats 4000000 in
theorem wadd_m (s t : Int) (A B : Option Addr) (c c' : Nat) (P Q : Int) (w : World) (P0 : 0 ≤ P) (P1 : P < bp 50) (Q0 : 0 ≤ Q) (Q1 : Q < bp 50) (hA : DR w A (ln P) c P) (hB : DR w B (ln Q) c' Q) (hs : s ≠ 0) (ht : t ≠ 0) (hst : s ≠ t) (hlt : P < Q) :
    Calls Tryz.prog 106 #[.agg #[.int .i64 s, .slice A (ln P) c], .agg #[.int .i64 t, .slice B (ln Q) c']] w fun e w' => ∃ A' c2, e = .returned (.agg #[.int .i64 (if Q - P = 0 then 0 else t), .slice A' (ln (Q - P)) c2]) ∧ (DR w' A' (ln (Q - P)) c2 (Q - P) ∧ ∀ g, A' = some ⟨g, 0, none⟩ → w.heap.size + 1 + 1 < g) ∧ Below w.heap.size w w' := by
  have lP := ln_spec P0 (Int.lt_of_lt_of_le P1 (bp_mono (show 50 ≤ 60 by decide)))
  have lQ := ln_spec Q0 (Int.lt_of_lt_of_le Q1 (bp_mono (show 50 ≤ 60 by decide)))
  have nP := ln_le P0 (Int.lt_of_lt_of_le P1 (bp_mono (show 50 ≤ 60 by decide))) P1
  have nQ := ln_le Q0 (Int.lt_of_lt_of_le Q1 (bp_mono (show 50 ≤ 60 by decide))) Q1
  have X60 : Q - P < bp 60 := by
    have := bp_mono (show 50 ≤ 60 by decide)
    omega
  have X0 : 0 ≤ Q - P := by omega
  have HC := fun W a b => Lib.hid (cmpDigits_any A B c c' P Q W P0 (by have := bp_mono (show 50 ≤ 60 by decide); omega) a Q0 (by have := bp_mono (show 50 ≤ 60 by decide); omega) b)
  rw [cmpI_lt hlt] at HC
  have HSD := fun W a b => Lib.hid (subDigits_any B A (ln Q) (ln P) c' c Q P W (by omega) (by omega) Q0 lQ.1 a P0 lP.1 b (by omega))
  have lX := ln_spec X0 X60
  have HW := fun W A1 c1 h3 => Lib.hid (wideOf_any t A1 (ln (Q - P)) c1 (Q - P) W lX.2.2 X0 lX.1 h3)
  generalize (if Q - P = 0 then (0 : Int) else t) = sv at *
  generalize Q - P = X at *
  have HA := Lib.hid hA
  have HB := Lib.hid hB
  have g0 : (s == 0) = false := by simp [hs]
  have g1 : (t == 0) = false := by simp [ht]
  have g2 : (s == t) = false := by simp [hst]
  clear hA hB lP lQ hs ht hst hlt P0 P1 Q0 Q1 lX X0 X60
  generalize ln P = n at *
  generalize ln Q = m at *
  go_enter Tryz.func106, Tryz.ntmps106
  go_wp2_with (first
    | (go_at_call 143; (with_reducible refine Calls.mono (HC _ (HA.out.below (show Below w.heap.size w _ by (repeat (first | with_reducible exact Below.refl _ _ | with_reducible assumption | with_reducible refine Below.alloc ?_ (by first | (simp; done) | (simp; omega) | omega) _ | with_reducible refine Below.setCell ?_ (by first | (simp; done) | (simp; omega) | omega) _ | with_reducible refine Below.drew ?_ | with_reducible refine below_drewN ?_ _)))) (HB.out.below (show Below w.heap.size w _ by (repeat (first | with_reducible exact Below.refl _ _ | with_reducible assumption | with_reducible refine Below.alloc ?_ (by first | (simp; done) | (simp; omega) | omega) _ | with_reducible refine Below.setCell ?_ (by first | (simp; done) | (simp; omega) | omega) _ | with_reducible refine Below.drew ?_ | with_reducible refine below_drewN ?_ _))))).out ?_); rintro e w8 ⟨rfl, hb8⟩; have B8 := Lib.hid (thenD (show Below w.heap.size w _ by (repeat (first | with_reducible exact Below.refl _ _ | with_reducible assumption | with_reducible refine Below.alloc ?_ (by first | (simp; done) | (simp; omega) | omega) _ | with_reducible refine Below.setCell ?_ (by first | (simp; done) | (simp; omega) | omega) _ | with_reducible refine Below.drew ?_ | with_reducible refine below_drewN ?_ _))) hb8); have r0 := (hb8.cell (p := ⟨w.heap.size, 0, none⟩) (by first | (simp; done) | (simp; omega) | omega)).trans (show _ = some (.int .i64 s) by simp [go_sem]); have r1 := (hb8.cell (p := ⟨w.heap.size, 1, none⟩) (by first | (simp; done) | (simp; omega) | omega)).trans (show _ = some (.slice A n c) by simp [go_sem]); have r2 := (hb8.cell (p := ⟨w.heap.size + 1, 0, none⟩) (by first | (simp; done) | (simp; omega) | omega)).trans (show _ = some (.int .i64 t) by simp [go_sem]); have r3 := (hb8.cell (p := ⟨w.heap.size + 1, 1, none⟩) (by first | (simp; done) | (simp; omega) | omega)).trans (show _ = some (.slice B m c') by simp [go_sem]); have r4 := (hb8.cell (p := ⟨w.heap.size + 1 + 1, 0, none⟩) (by first | (simp; done) | (simp; omega) | omega)).trans (show _ = some (.int .i64 0) by simp [go_sem]); have r5 := (hb8.cell (p := ⟨w.heap.size + 1 + 1, 1, none⟩) (by first | (simp; done) | (simp; omega) | omega)).trans (show _ = some (.slice none 0 0) by simp [go_sem]); have f8 := (hb8.frozen (p := ⟨w.heap.size + 1 + 1, 0, none⟩) (by first | (simp; done) | (simp; omega) | omega)).trans (show _ = false by simp [go_sem]); have f9 := (hb8.frozen (p := ⟨w.heap.size + 1 + 1, 1, none⟩) (by first | (simp; done) | (simp; omega) | omega)).trans (show _ = false by simp [go_sem]); have hz8 := hb8.size; (try simp at hz8); (try replace hz8 := Nat.lt_of_succ_le hz8); clear hb8)
    | fail)
  go_region_held3 (fun w' => w'.cell? ⟨w.heap.size, 0, none⟩ = some (.int .i64 s) ∧ w'.cell? ⟨w.heap.size, 1, none⟩ = some (.slice A n c) ∧ w'.cell? ⟨w.heap.size + 1, 0, none⟩ = some (.int .i64 t) ∧ w'.cell? ⟨w.heap.size + 1, 1, none⟩ = some (.slice B m c')) (simp [go_sem, *])
    (first
      | (go_at_call 144; (with_reducible refine Calls.mono (HSD _ (HB.out.below (show Below w.heap.size w _ by have B := B8.out; (repeat (first | with_reducible exact Below.refl _ _ | with_reducible assumption | with_reducible refine Below.alloc ?_ (by first | (simp; done) | (simp; omega) | omega) _ | with_reducible refine Below.setCell ?_ (by first | (simp; done) | (simp; omega) | omega) _ | with_reducible refine Below.drew ?_ | with_reducible refine below_drewN ?_ _)))) (HA.out.below (show Below w.heap.size w _ by have B := B8.out; (repeat (first | with_reducible exact Below.refl _ _ | with_reducible assumption | with_reducible refine Below.alloc ?_ (by first | (simp; done) | (simp; omega) | omega) _ | with_reducible refine Below.setCell ?_ (by first | (simp; done) | (simp; omega) | omega) _ | with_reducible refine Below.drew ?_ | with_reducible refine below_drewN ?_ _))))).out ?_); rintro e w1 ⟨A1, c1, rfl, hd1, hb1⟩; have HD1 := Lib.hid hd1.1; have HF1 : Hid (∀ g, A1 = some ⟨g, 0, none⟩ → w.heap.size + 1 + 1 < g) := (fun g e => by have := hd1.2 g e; (try simp at this); omega); have HL : Hid (ln X ≤ ln X) := Nat.le_refl _; clear hd1; have B1 := Lib.hid (thenD (show Below w.heap.size w _ by have B := B8.out; (repeat (first | with_reducible exact Below.refl _ _ | with_reducible assumption | with_reducible refine Below.alloc ?_ (by first | (simp; done) | (simp; omega) | omega) _ | with_reducible refine Below.setCell ?_ (by first | (simp; done) | (simp; omega) | omega) _ | with_reducible refine Below.drew ?_ | with_reducible refine below_drewN ?_ _))) hb1); have p0 := (hb1.cell (p := ⟨w.heap.size, 0, none⟩) (by first | (simp; done) | (simp; omega) | omega)).trans (show _ = some (.int .i64 s) by simp [go_sem, *]); have p1 := (hb1.cell (p := ⟨w.heap.size, 1, none⟩) (by first | (simp; done) | (simp; omega) | omega)).trans (show _ = some (.slice A n c) by simp [go_sem, *]); have p2 := (hb1.cell (p := ⟨w.heap.size + 1, 0, none⟩) (by first | (simp; done) | (simp; omega) | omega)).trans (show _ = some (.int .i64 t) by simp [go_sem, *]); have p3 := (hb1.cell (p := ⟨w.heap.size + 1, 1, none⟩) (by first | (simp; done) | (simp; omega) | omega)).trans (show _ = some (.slice B m c') by simp [go_sem, *]); have p4 := (hb1.cell (p := ⟨w.heap.size + 1 + 1, 0, none⟩) (by first | (simp; done) | (simp; omega) | omega)).trans (show _ = some (.int .i64 0) by simp [go_sem, *]); have p5 := (hb1.cell (p := ⟨w.heap.size + 1 + 1, 1, none⟩) (by first | (simp; done) | (simp; omega) | omega)).trans (show _ = some (.slice none 0 0) by simp [go_sem, *]); have f0 := (hb1.frozen (p := ⟨w.heap.size + 1 + 1, 0, none⟩) (by first | (simp; done) | (simp; omega) | omega)).trans (show _ = false by simp [go_sem, *]); have f1 := (hb1.frozen (p := ⟨w.heap.size + 1 + 1, 1, none⟩) (by first | (simp; done) | (simp; omega) | omega)).trans (show _ = false by simp [go_sem, *]); have hz1 := hb1.size; (try simp at hz1); clear hb1)
      | (go_at_call 141; (with_reducible refine Calls.mono (HW _ A1 c1 HD1.out).out ?_); rintro e w2 ⟨rfl, hb2⟩; have HD2 := Lib.hid (HD1.out.below hb2); have B2 := Lib.hid (thenD B1.out hb2); have q0 := keep hb2 p0; have q1 := keep hb2 p1; have q2 := keep hb2 p2; have q3 := keep hb2 p3; have q4 := keep hb2 p4; have q5 := keep hb2 p5; have h0 := (hb2.frozen (p := ⟨w.heap.size + 1 + 1, 0, none⟩) (by first | (simp; done) | (simp; omega) | omega)).trans f0; have h1 := (hb2.frozen (p := ⟨w.heap.size + 1 + 1, 1, none⟩) (by first | (simp; done) | (simp; omega) | omega)).trans f1; clear hb2)
      | fail)
  all_goals
    go_wp2_with fail
    refine bodyPost_ret (v := .agg #[.int .i64 sv, .slice A1 (ln X) c1]) (by simp [results, Tryz.results106, go_sem, *]) rfl ⟨_, _, rfl, ⟨?_, HF1.out⟩, ?_⟩
    · exact dr_ne (dr_ne (HD2.out.less HL.out) (fun g e => by have := HF1.out g e; omega) _ _) (fun g e => by have := HF1.out g e; omega) _ _
    · have B := B2.out
      (repeat (first | with_reducible exact Below.refl _ _ | with_reducible assumption | with_reducible refine Below.alloc ?_ (by first | (simp; done) | (simp; omega) | omega) _ | with_reducible refine Below.setCell ?_ (by first | (simp; done) | (simp; omega) | omega) _ | with_reducible refine Below.drew ?_ | with_reducible refine below_drewN ?_ _))
set_option maxRecDepth 100000 in
set_option maxHeartbeats 4000000 in
theorem wadd_e (s t : Int) (A B : Option Addr) (c c' : Nat) (P Q : Int) (w : World) (P0 : 0 ≤ P) (P1 : P < bp 50) (Q0 : 0 ≤ Q) (_ : Q < bp 50) (hA : DR w A (ln P) c P) (hB : DR w B (ln Q) c' Q) (hs : s ≠ 0) (ht : t ≠ 0) (hst : s ≠ t) (hlt : P = Q) :
    Calls Tryz.prog 106 #[.agg #[.int .i64 s, .slice A (ln P) c], .agg #[.int .i64 t, .slice B (ln Q) c']] w fun e w' => e = .returned (.agg #[.int .i64 0, .slice none 0 0]) ∧ Below w.heap.size w w' := by
  have HC := fun W a b => Lib.hid (cmpDigits_any A B c c' P Q W P0 (by have := bp_mono (show 50 ≤ 60 by decide); omega) a Q0 (by have := bp_mono (show 50 ≤ 60 by decide); omega) b)
  rw [cmpI_eq hlt] at HC
  have HA := Lib.hid hA
  have HB := Lib.hid hB
  have g0 : (s == 0) = false := by simp [hs]
  have g1 : (t == 0) = false := by simp [ht]
  have g2 : (s == t) = false := by simp [hst]
  clear hA hB hs ht hst hlt P0 P1 Q0
  generalize ln P = n at *
  generalize ln Q = m at *
  go_enter Tryz.func106, Tryz.ntmps106
  go_wp2_with (first
    | (go_at_call 143; (with_reducible refine Calls.mono (HC _ (HA.out.below (show Below w.heap.size w _ by (repeat (first | with_reducible exact Below.refl _ _ | with_reducible assumption | with_reducible refine Below.alloc ?_ (by first | (simp; done) | (simp; omega) | omega) _ | with_reducible refine Below.setCell ?_ (by first | (simp; done) | (simp; omega) | omega) _ | with_reducible refine Below.drew ?_ | with_reducible refine below_drewN ?_ _)))) (HB.out.below (show Below w.heap.size w _ by (repeat (first | with_reducible exact Below.refl _ _ | with_reducible assumption | with_reducible refine Below.alloc ?_ (by first | (simp; done) | (simp; omega) | omega) _ | with_reducible refine Below.setCell ?_ (by first | (simp; done) | (simp; omega) | omega) _ | with_reducible refine Below.drew ?_ | with_reducible refine below_drewN ?_ _))))).out ?_); rintro e w8 ⟨rfl, hb8⟩; have B8 := Lib.hid (thenD (show Below w.heap.size w _ by (repeat (first | with_reducible exact Below.refl _ _ | with_reducible assumption | with_reducible refine Below.alloc ?_ (by first | (simp; done) | (simp; omega) | omega) _ | with_reducible refine Below.setCell ?_ (by first | (simp; done) | (simp; omega) | omega) _ | with_reducible refine Below.drew ?_ | with_reducible refine below_drewN ?_ _))) hb8); have r0 := (hb8.cell (p := ⟨w.heap.size, 0, none⟩) (by first | (simp; done) | (simp; omega) | omega)).trans (show _ = some (.int .i64 s) by simp [go_sem]); have r1 := (hb8.cell (p := ⟨w.heap.size, 1, none⟩) (by first | (simp; done) | (simp; omega) | omega)).trans (show _ = some (.slice A n c) by simp [go_sem]); have r2 := (hb8.cell (p := ⟨w.heap.size + 1, 0, none⟩) (by first | (simp; done) | (simp; omega) | omega)).trans (show _ = some (.int .i64 t) by simp [go_sem]); have r3 := (hb8.cell (p := ⟨w.heap.size + 1, 1, none⟩) (by first | (simp; done) | (simp; omega) | omega)).trans (show _ = some (.slice B m c') by simp [go_sem]); have r4 := (hb8.cell (p := ⟨w.heap.size + 1 + 1, 0, none⟩) (by first | (simp; done) | (simp; omega) | omega)).trans (show _ = some (.int .i64 0) by simp [go_sem]); have r5 := (hb8.cell (p := ⟨w.heap.size + 1 + 1, 1, none⟩) (by first | (simp; done) | (simp; omega) | omega)).trans (show _ = some (.slice none 0 0) by simp [go_sem]); have f8 := (hb8.frozen (p := ⟨w.heap.size + 1 + 1, 0, none⟩) (by first | (simp; done) | (simp; omega) | omega)).trans (show _ = false by simp [go_sem]); have f9 := (hb8.frozen (p := ⟨w.heap.size + 1 + 1, 1, none⟩) (by first | (simp; done) | (simp; omega) | omega)).trans (show _ = false by simp [go_sem]); have hz8 := hb8.size; (try simp at hz8); (try replace hz8 := Nat.lt_of_succ_le hz8); clear hb8)
    | fail)
  refine bodyPost_ret (v := .agg #[.int .i64 0, .slice none 0 0]) (by simp [results, Tryz.results106, go_sem, *]) rfl ⟨rfl, ?_⟩
  have B := B8.out
  (repeat (first | with_reducible exact Below.refl _ _ | with_reducible assumption | with_reducible refine Below.alloc ?_ (by first | (simp; done) | (simp; omega) | omega) _ | with_reducible refine Below.setCell ?_ (by first | (simp; done) | (simp; omega) | omega) _ | with_reducible refine Below.drew ?_ | with_reducible refine below_drewN ?_ _))
end Go.Proofs.YtnfoagcpgegldaaGreat
namespace Go.Proofs.YtnfoagcpgegldaaGreat
open Go.RowKit Go.Shelf Go.Sort
attribute [local go_sem] idx3_0 idx3_1 idx3_2 old1 fro1 old2 fro2 old3 fro3 old4 fro4 old5 fro5 old6 fro6 old7 fro7 old8 fro8 old9 fro9 old10 fro10 old11 fro11 old12 fro12
theorem siz_p {x : Int} (h : 0 ≤ x) : siz x = x := by unfold siz; omega
theorem siz_n {x : Int} (h : x ≤ 0) : siz x = -x := by unfold siz; omega
theorem sgn_neg (x : Int) : sgn (-x) = -sgn x := by
  rcases Int.lt_trichotomy x 0 with h | h | h
  · rw [sgn_n h, sgn_p (by omega)]; rfl
  · subst h; rfl
  · rw [sgn_p h, sgn_n (by omega)]
theorem siz_neg2 (x : Int) : siz (-x) = siz x := by unfold siz; omega
theorem sgn_bd (x : Int) : -1 ≤ sgn x ∧ sgn x ≤ 1 := by
  rcases Int.lt_trichotomy x 0 with h | h | h
  · rw [sgn_n h]; decide
  · subst h; decide
  · rw [sgn_p h]; decide
/-- What an addition leaves. -/
def SomeSum (N : Int) (A B : Option Addr) (w : World) (e : Ending) (w' : World) : Prop :=
  ∃ A' c2, e = .returned (WV N A' c2) ∧ DR w' A' (ln (siz N)) c2 (siz N) ∧ (∀ g, A' = some ⟨g, 0, none⟩ → w.heap.size ≤ g ∨ A' = A ∨ A' = B) ∧ Below w.heap.size w w'
theorem WideAdd_any (N M : Int) (A B : Option Addr) (c c' : Nat) (w : World) (hN : siz N < bp 50) (hM : siz M < bp 50) (hA : DR w A (ln (siz N)) c (siz N)) (hB : DR w B (ln (siz M)) c' (siz M)) :
    Calls Tryz.prog 106 #[WV N A c, WV M B c'] w (SomeSum (N + M) A B w) := by
  have nN := siz_nn N
  have nM := siz_nn M
  by_cases h0 : N = 0
  · subst h0
    refine (wadd_l (sgn M) A B _ c _ c' w).mono ?_
    rintro e w' ⟨rfl, hb⟩
    rw [Int.zero_add]
    exact ⟨B, c', rfl, hB.below hb, fun g _ => .inr (.inr rfl), hb⟩
  by_cases h1 : M = 0
  · subst h1
    have hs : sgn N ≠ 0 := by
      rcases Int.lt_trichotomy N 0 with h | h | h
      · rw [sgn_n h]; decide
      · exact absurd h h0
      · rw [sgn_p h]; decide
    refine (wadd_r (sgn N) A B _ c _ c' w hs).mono ?_
    rintro e w' ⟨rfl, hb⟩
    rw [Int.add_zero]
    exact ⟨A, c, rfl, hA.below hb, fun g _ => .inr (.inl rfl), hb⟩
  have s0 : sgn N ≠ 0 := by
    rcases Int.lt_trichotomy N 0 with h | h | h
    · rw [sgn_n h]; decide
    · exact absurd h h0
    · rw [sgn_p h]; decide
  have s1 : sgn M ≠ 0 := by
    rcases Int.lt_trichotomy M 0 with h | h | h
    · rw [sgn_n h]; decide
    · exact absurd h h1
    · rw [sgn_p h]; decide
  by_cases hst : sgn N = sgn M
  · refine (wadd_s (sgn N) (sgn M) A B c c' (siz N) (siz M) w nN hN nM hM hA hB s0 hst).mono ?_
    rintro e w' ⟨A', c2, rfl, ⟨hd, hg⟩, hb⟩
    have hz : siz N + siz M = siz (N + M) ∧ sgn (N + M) = sgn N ∧ siz N + siz M ≠ 0 := by
      rcases Int.lt_trichotomy N 0 with h | h | h
      · rcases Int.lt_trichotomy M 0 with q | q | q
        · rw [siz_n (by omega), siz_n (by omega), siz_n (by omega), sgn_n h, sgn_n (by omega)]
          exact ⟨by omega, rfl, by omega⟩
        · exact absurd q h1
        · rw [sgn_n h, sgn_p q] at hst; cases hst
      · exact absurd h h0
      · rcases Int.lt_trichotomy M 0 with q | q | q
        · rw [sgn_p h, sgn_n q] at hst; cases hst
        · exact absurd q h1
        · rw [siz_p (by omega), siz_p (by omega), siz_p (by omega), sgn_p h, sgn_p (by omega)]
          exact ⟨by omega, rfl, by omega⟩
    rw [if_neg hz.2.2]
    refine ⟨A', c2, ?_, by rw [← hz.1]; exact hd, fun g e => .inl (by have := hg g e; omega), hb⟩
    unfold WV
    rw [hz.1, hz.2.1]
  rcases Int.lt_trichotomy (siz M) (siz N) with hl | hl | hl
  · refine (wadd_g (sgn N) (sgn M) A B c c' (siz N) (siz M) w nN hN nM hM hA hB s0 s1 hst hl).mono ?_
    rintro e w' ⟨A', c2, rfl, ⟨hd, hg⟩, hb⟩
    have hz : siz N - siz M = siz (N + M) ∧ sgn (N + M) = sgn N ∧ siz N - siz M ≠ 0 := by
      rcases Int.lt_trichotomy N 0 with h | h | h
      · rcases Int.lt_trichotomy M 0 with q | q | q
        · rw [sgn_n h, sgn_n q] at hst; exact absurd rfl hst
        · exact absurd q h1
        · rw [siz_n (x := N) (by omega), siz_p (x := M) (by omega)] at hl ⊢
          rw [siz_n (x := N + M) (by omega), sgn_n h, sgn_n (by omega)]
          exact ⟨by omega, rfl, by omega⟩
      · exact absurd h h0
      · rcases Int.lt_trichotomy M 0 with q | q | q
        · rw [siz_p (x := N) (by omega), siz_n (x := M) (by omega)] at hl ⊢
          rw [siz_p (x := N + M) (by omega), sgn_p h, sgn_p (by omega)]
          exact ⟨by omega, rfl, by omega⟩
        · exact absurd q h1
        · rw [sgn_p h, sgn_p q] at hst; exact absurd rfl hst
    rw [if_neg hz.2.2]
    refine ⟨A', c2, ?_, by rw [← hz.1]; exact hd, fun g e => .inl (by have := hg g e; omega), hb⟩
    unfold WV
    rw [hz.1, hz.2.1]
  · refine (wadd_e (sgn N) (sgn M) A B c c' (siz N) (siz M) w nN hN nM hM hA hB s0 s1 hst hl.symm).mono ?_
    rintro e w' ⟨rfl, hb⟩
    have hz : N + M = 0 := by
      rcases Int.lt_trichotomy N 0 with h | h | h
      · rcases Int.lt_trichotomy M 0 with q | q | q
        · rw [sgn_n h, sgn_n q] at hst; exact absurd rfl hst
        · exact absurd q h1
        · rw [siz_n (x := N) (by omega), siz_p (x := M) (by omega)] at hl; omega
      · exact absurd h h0
      · rcases Int.lt_trichotomy M 0 with q | q | q
        · rw [siz_p (x := N) (by omega), siz_n (x := M) (by omega)] at hl; omega
        · exact absurd q h1
        · rw [sgn_p h, sgn_p q] at hst; exact absurd rfl hst
    rw [hz]
    exact ⟨none, 0, rfl, ⟨.inl ⟨rfl, rfl, rfl⟩, fun g e => by cases e⟩, fun g e => (by cases e), hb⟩
  · refine (wadd_m (sgn N) (sgn M) A B c c' (siz N) (siz M) w nN hN nM hM hA hB s0 s1 hst hl).mono ?_
    rintro e w' ⟨A', c2, rfl, ⟨hd, hg⟩, hb⟩
    have hz : siz M - siz N = siz (N + M) ∧ sgn (N + M) = sgn M ∧ siz M - siz N ≠ 0 := by
      rcases Int.lt_trichotomy N 0 with h | h | h
      · rcases Int.lt_trichotomy M 0 with q | q | q
        · rw [sgn_n h, sgn_n q] at hst; exact absurd rfl hst
        · exact absurd q h1
        · rw [siz_n (x := N) (by omega), siz_p (x := M) (by omega)] at hl ⊢
          rw [siz_p (x := N + M) (by omega), sgn_p q, sgn_p (by omega)]
          exact ⟨by omega, rfl, by omega⟩
      · exact absurd h h0
      · rcases Int.lt_trichotomy M 0 with q | q | q
        · rw [siz_p (x := N) (by omega), siz_n (x := M) (by omega)] at hl ⊢
          rw [siz_n (x := N + M) (by omega), sgn_n q, sgn_n (by omega)]
          exact ⟨by omega, rfl, by omega⟩
        · exact absurd q h1
        · rw [sgn_p h, sgn_p q] at hst; exact absurd rfl hst
    rw [if_neg hz.2.2]
    refine ⟨A', c2, ?_, by rw [← hz.1]; exact hd, fun g e => .inl (by have := hg g e; omega), hb⟩
    unfold WV
    rw [hz.1, hz.2.1]
set_option maxRecDepth 100000 in
set_option maxHeartbeats 4000000 in
theorem wideSub_any (N M : Int) (A B : Option Addr) (c c' : Nat) (w : World) (hN : siz N < bp 50) (hM : siz M < bp 50) (hA : DR w A (ln (siz N)) c (siz N)) (hB : DR w B (ln (siz M)) c' (siz M)) :
    Calls Tryz.prog 109 #[WV N A c, WV M B c'] w fun e w' => ∃ A' n2 c2, e = .returned (.agg #[.int .i64 (sgn (N - M)), .slice A' n2 c2]) ∧ Below w.heap.size w w' := by
  have HADD : ∀ W, DR W A (ln (siz N)) c (siz N) → DR W B (ln (siz M)) c' (siz M) → Hid (Calls Tryz.prog 106 #[.agg #[.int .i64 (sgn N), .slice A (ln (siz N)) c], .agg #[.int .i64 (-sgn M), .slice B (ln (siz M)) c']] W fun e w' => ∃ A' n2 c2, e = .returned (.agg #[.int .i64 (sgn (N - M)), .slice A' n2 c2]) ∧ Below W.heap.size W w') := by
    intro W a b
    have := WideAdd_any N (-M) A B c c' W hN (by rw [siz_neg2]; exact hM) a (by rw [siz_neg2]; exact b)
    unfold WV at this
    rw [siz_neg2, sgn_neg] at this
    refine this.mono ?_
    rintro e w' ⟨A', c2, rfl, _, _, hb⟩
    unfold WV
    rw [show N + -M = N - M by omega]
    exact ⟨A', _, c2, rfl, hb⟩
  have hs := sgn_bd M
  have HA := Lib.hid hA
  have HB := Lib.hid hB
  clear hA hB hN hM
  unfold WV
  generalize sgn N = s at *
  generalize sgn M = t at *
  generalize sgn (N - M) = u at *
  generalize ln (siz N) = n at *
  generalize ln (siz M) = m at *
  obtain ⟨hs1, hs2⟩ := hs
  go_enter Tryz.func109, Tryz.ntmps109
  go_wp2_with fail
  go_region_held3 (fun w' => w'.cell? ⟨w.heap.size, 0, none⟩ = some (.int .i64 s) ∧ w'.cell? ⟨w.heap.size, 1, none⟩ = some (.slice A n c) ∧ w'.cell? ⟨w.heap.size + 1, 0, none⟩ = some (.int .i64 t) ∧ w'.cell? ⟨w.heap.size + 1, 1, none⟩ = some (.slice B m c')) (simp [go_sem, *])
    (first
      | (go_at_call 145; (with_reducible refine Calls.mono (wideNeg_any t B m c' _ hs1 hs2) ?_); rintro e w1 ⟨rfl, hb1⟩; have B1 := Lib.hid (thenD (show Below w.heap.size w _ by (repeat (first | with_reducible exact Below.refl _ _ | with_reducible assumption | with_reducible refine Below.alloc ?_ (by first | (simp; done) | (simp; omega) | omega) _ | with_reducible refine Below.setCell ?_ (by first | (simp; done) | (simp; omega) | omega) _ | with_reducible refine Below.drew ?_ | with_reducible refine below_drewN ?_ _))) hb1); have p0 := (hb1.cell (p := ⟨w.heap.size, 0, none⟩) (by first | (simp; done) | (simp; omega) | omega)).trans (show _ = some (.int .i64 s) by simp [go_sem]); have p1 := (hb1.cell (p := ⟨w.heap.size, 1, none⟩) (by first | (simp; done) | (simp; omega) | omega)).trans (show _ = some (.slice A n c) by simp [go_sem]); have p2 := (hb1.cell (p := ⟨w.heap.size + 1, 0, none⟩) (by first | (simp; done) | (simp; omega) | omega)).trans (show _ = some (.int .i64 t) by simp [go_sem]); have p3 := (hb1.cell (p := ⟨w.heap.size + 1, 1, none⟩) (by first | (simp; done) | (simp; omega) | omega)).trans (show _ = some (.slice B m c') by simp [go_sem]); have p4 := (hb1.cell (p := ⟨w.heap.size + 1 + 1, 0, none⟩) (by first | (simp; done) | (simp; omega) | omega)).trans (show _ = some (.int .i64 0) by simp [go_sem]); have p5 := (hb1.cell (p := ⟨w.heap.size + 1 + 1, 1, none⟩) (by first | (simp; done) | (simp; omega) | omega)).trans (show _ = some (.slice none 0 0) by simp [go_sem]); have f0 := (hb1.frozen (p := ⟨w.heap.size + 1 + 1, 0, none⟩) (by first | (simp; done) | (simp; omega) | omega)).trans (show _ = false by simp [go_sem]); have f1 := (hb1.frozen (p := ⟨w.heap.size + 1 + 1, 1, none⟩) (by first | (simp; done) | (simp; omega) | omega)).trans (show _ = false by simp [go_sem]); clear hb1)
      | (go_at_call 106; (with_reducible refine Calls.mono (HADD _ (HA.out.below (show Below w.heap.size w _ by have B := B1.out; (repeat (first | with_reducible exact Below.refl _ _ | with_reducible assumption | with_reducible refine Below.alloc ?_ (by first | (simp; done) | (simp; omega) | omega) _ | with_reducible refine Below.setCell ?_ (by first | (simp; done) | (simp; omega) | omega) _ | with_reducible refine Below.drew ?_ | with_reducible refine below_drewN ?_ _)))) (HB.out.below (show Below w.heap.size w _ by have B := B1.out; (repeat (first | with_reducible exact Below.refl _ _ | with_reducible assumption | with_reducible refine Below.alloc ?_ (by first | (simp; done) | (simp; omega) | omega) _ | with_reducible refine Below.setCell ?_ (by first | (simp; done) | (simp; omega) | omega) _ | with_reducible refine Below.drew ?_ | with_reducible refine below_drewN ?_ _))))).out ?_); rintro e w2 ⟨A2, n2, c2, rfl, hb2⟩; have B2 := Lib.hid (thenD (show Below w.heap.size w _ by have B := B1.out; (repeat (first | with_reducible exact Below.refl _ _ | with_reducible assumption | with_reducible refine Below.alloc ?_ (by first | (simp; done) | (simp; omega) | omega) _ | with_reducible refine Below.setCell ?_ (by first | (simp; done) | (simp; omega) | omega) _ | with_reducible refine Below.drew ?_ | with_reducible refine below_drewN ?_ _))) hb2); have q0 := keep hb2 p0; have q1 := keep hb2 p1; have q2 := keep hb2 p2; have q3 := keep hb2 p3; have q4 := keep hb2 p4; have q5 := keep hb2 p5; have h0 := (hb2.frozen (p := ⟨w.heap.size + 1 + 1, 0, none⟩) (lt_of p4)).trans f0; have h1 := (hb2.frozen (p := ⟨w.heap.size + 1 + 1, 1, none⟩) (lt_of p5)).trans f1; clear hb2)
      | fail)
  all_goals
    go_wp2_with fail
    refine bodyPost_ret (v := .agg #[.int .i64 u, .slice A2 n2 c2]) (by simp [results, Tryz.results109, go_sem, *]) rfl ⟨_, _, _, rfl, ?_⟩
    have B := B2.out
    (repeat (first | with_reducible exact Below.refl _ _ | with_reducible assumption | with_reducible refine Below.alloc ?_ (by first | (simp; done) | (simp; omega) | omega) _ | with_reducible refine Below.setCell ?_ (by first | (simp; done) | (simp; omega) | omega) _ | with_reducible refine Below.drew ?_ | with_reducible refine below_drewN ?_ _))
set_option maxRecDepth 100000 in
set_option maxHeartbeats 2000000 in
theorem wideCmp_any (N M : Int) (A B : Option Addr) (c c' : Nat) (w : World) (hN : siz N < bp 50) (hM : siz M < bp 50) (hA : DR w A (ln (siz N)) c (siz N)) (hB : DR w B (ln (siz M)) c' (siz M)) :
    Calls Tryz.prog 74 #[WV N A c, WV M B c'] w fun e w' => e = .returned (.int .i64 (sgn (N - M))) ∧ Below w.heap.size w w' := by
  have HS := fun W a b => Lib.hid (wideSub_any N M A B c c' W hN hM a b)
  have HA := Lib.hid hA
  have HB := Lib.hid hB
  clear hA hB hN hM
  unfold WV at *
  generalize sgn N = s at *
  generalize sgn M = t at *
  generalize sgn (N - M) = u at *
  generalize ln (siz N) = n at *
  generalize ln (siz M) = m at *
  have hfd : ∀ (A1 : Option Addr) (n1 c1 : Nat) (W : World), (Instr.field 107 (.agg #[.int .i64 u, .slice A1 n1 c1]) 0).run Tryz.prog W = .ok (.int .i64 u) W := fun _ _ _ _ => by kernel_rfl
  go_enter Tryz.func74, Tryz.ntmps74
  go_wp2_with (first
    | (go_at_call 109; go_loud ((with_reducible refine Calls.mono (HS _ (HA.out.below (show Below w.heap.size w _ by (repeat (first | with_reducible exact Below.refl _ _ | with_reducible assumption | with_reducible refine Below.alloc ?_ (by first | (simp; done) | (simp; omega) | omega) _ | with_reducible refine Below.setCell ?_ (by first | (simp; done) | (simp; omega) | omega) _ | with_reducible refine Below.drew ?_ | with_reducible refine below_drewN ?_ _)))) (HB.out.below (show Below w.heap.size w _ by (repeat (first | with_reducible exact Below.refl _ _ | with_reducible assumption | with_reducible refine Below.alloc ?_ (by first | (simp; done) | (simp; omega) | omega) _ | with_reducible refine Below.setCell ?_ (by first | (simp; done) | (simp; omega) | omega) _ | with_reducible refine Below.drew ?_ | with_reducible refine below_drewN ?_ _))))).out ?_); rintro e w1 ⟨A1, n1, c1, rfl, hb1⟩; have B1 := Lib.hid (thenD (show Below w.heap.size w _ by (repeat (first | with_reducible exact Below.refl _ _ | with_reducible assumption | with_reducible refine Below.alloc ?_ (by first | (simp; done) | (simp; omega) | omega) _ | with_reducible refine Below.setCell ?_ (by first | (simp; done) | (simp; omega) | omega) _ | with_reducible refine Below.drew ?_ | with_reducible refine below_drewN ?_ _))) hb1); clear hb1))
    | fail)
  go_ret
  exact ⟨rfl, B1.out⟩
end Go.Proofs.YtnfoagcpgegldaaGreat
