/- Helpers: RoundTrip, by three calls of ReceivedAt. -/
import Derived.Test.YtnfoagcpgegldaaGreatB18
import Derived.Test.YtnfoagcpgegldaaGreatB15
import Derived.Test.YtnfoagcpgegldaaGreatB17
namespace Go.Proofs.YtnfoagcpgegldaaGreat
open Go.RowKit Go.Shelf Go.Sort
attribute [local go_sem] idx3_0 idx3_1 idx3_2 old1 fro1 old2 fro2 old3 fro3 old4 fro4 old5 fro5 old6 fro6 old7 fro7 old8 fro8 old9 fro9 old10 fro10 old11 fro11 old12 fro12
set_option maxRecDepth 100000 in
set_option maxHeartbeats 4000000 in
theorem trip_1 (sa sb : Option Addr) (na ca nb cb : Nat) (da db s E1 L1 U1 : Int) (w : World)
    (h1 : ∀ W, Below w.heap.size w W → Calls Tryz.prog 20 #[.agg #[.slice sa na ca, .int .i64 da], .agg #[.slice sb nb cb, .int .i64 db], .int .i64 s] W fun e w' => e = .returned (.tuple #[.agg #[.int .i64 L1, .int .i64 U1], .int .i64 E1]) ∧ Below W.heap.size W w')
    (hE : (E1 != 0) = true) :
    Calls Tryz.prog 31 #[.agg #[.slice sa na ca, .int .i64 da], .agg #[.slice sb nb cb, .int .i64 db], .int .i64 s] w fun e w' => e = .returned (.tuple #[.agg #[.int .i64 0, .int .i64 0], .int .i64 E1]) ∧ Below w.heap.size w w' := by
  have H1 := Lib.hid h1
  clear h1
  go_enter Tryz.func31, Tryz.ntmps31
  go_wp2_with (first
    | (go_at_call 20; (with_reducible refine Calls.mono (H1.out _ (show Below w.heap.size w _ by (repeat (first | with_reducible exact Below.refl _ _ | with_reducible assumption | with_reducible refine Below.alloc ?_ (by first | (simp; done) | (simp; omega) | omega) _ | with_reducible refine Below.setCell ?_ (by first | (simp; done) | (simp; omega) | omega) _ | with_reducible refine Below.drew ?_ | with_reducible refine below_drewN ?_ _)))) ?_); rintro e w1 ⟨rfl, hb1⟩; have B1 := Lib.hid (thenB (show Below w.heap.size w _ by (repeat (first | with_reducible exact Below.refl _ _ | with_reducible assumption | with_reducible refine Below.alloc ?_ (by first | (simp; done) | (simp; omega) | omega) _ | with_reducible refine Below.setCell ?_ (by first | (simp; done) | (simp; omega) | omega) _ | with_reducible refine Below.drew ?_ | with_reducible refine below_drewN ?_ _))) hb1); go_must (have a0_1 := keep hb1 (b := w.heap.size) (o := 0) (v := .slice sa na ca) (by simp [go_sem, *])); go_must (have a1_1 := keep hb1 (b := w.heap.size) (o := 1) (v := .int .i64 da) (by simp [go_sem, *])); go_must (have b0_1 := keep hb1 (b := w.heap.size + 1) (o := 0) (v := .slice sb nb cb) (by simp [go_sem, *])); go_must (have b1_1 := keep hb1 (b := w.heap.size + 1) (o := 1) (v := .int .i64 db) (by simp [go_sem, *])); go_must (have r0_1 := keep hb1 (b := w.heap.size + 1 + 1) (o := 0) (v := .int .i64 0) (by simp [go_sem, *])); go_must (have r1_1 := keep hb1 (b := w.heap.size + 1 + 1) (o := 1) (v := .int .i64 0) (by simp [go_sem, *])); go_must (have q0_1 := (hb1.frozen (p := ⟨w.heap.size + 1 + 1, 0, none⟩) (by first | (simp; done) | (simp; omega) | omega)).trans (show _ = false by simp [go_sem, *])); go_must (have q1_1 := (hb1.frozen (p := ⟨w.heap.size + 1 + 1, 1, none⟩) (by first | (simp; done) | (simp; omega) | omega)).trans (show _ = false by simp [go_sem, *])); have z1 := lt_of r0_1; clear hb1)
    | fail)
  refine bodyPost_ret (v := .tuple #[.agg #[.int .i64 0, .int .i64 0], .int .i64 E1]) (by simp [results, Tryz.results31, go_sem, *]) rfl ⟨rfl, ?_⟩
  have Bq := B1.out
  have Bz := Bq.size
  (repeat (first | with_reducible exact Below.refl _ _ | with_reducible assumption | with_reducible refine Below.alloc ?_ (by first | (simp; done) | (simp; omega) | omega) _ | with_reducible refine Below.setCell ?_ (by first | (simp; done) | (simp; omega) | omega) _ | with_reducible refine Below.drew ?_ | with_reducible refine below_drewN ?_ _))
set_option maxRecDepth 100000 in
set_option maxHeartbeats 4000000 in
theorem trip_2 (sa sb : Option Addr) (na ca nb cb : Nat) (da db s E2 L1 U1 L2 U2 : Int) (w : World)
    (h1 : ∀ W, Below w.heap.size w W → Calls Tryz.prog 20 #[.agg #[.slice sa na ca, .int .i64 da], .agg #[.slice sb nb cb, .int .i64 db], .int .i64 s] W fun e w' => e = .returned (.tuple #[.agg #[.int .i64 L1, .int .i64 U1], .int .i64 0]) ∧ Below W.heap.size W w')
    (h2 : ∀ W, Below w.heap.size w W → Calls Tryz.prog 20 #[.agg #[.slice sb nb cb, .int .i64 db], .agg #[.slice sa na ca, .int .i64 da], .int .i64 L1] W fun e w' => e = .returned (.tuple #[.agg #[.int .i64 L2, .int .i64 U2], .int .i64 E2]) ∧ Below W.heap.size W w')
    (hE : (E2 != 0) = true) :
    Calls Tryz.prog 31 #[.agg #[.slice sa na ca, .int .i64 da], .agg #[.slice sb nb cb, .int .i64 db], .int .i64 s] w fun e w' => e = .returned (.tuple #[.agg #[.int .i64 0, .int .i64 0], .int .i64 E2]) ∧ Below w.heap.size w w' := by
  have H1 := Lib.hid h1
  have H2 := Lib.hid h2
  clear h1 h2
  go_enter Tryz.func31, Tryz.ntmps31
  go_wp2_with (first
    | (go_at_call 20; (with_reducible refine Calls.mono (H1.out _ (show Below w.heap.size w _ by (repeat (first | with_reducible exact Below.refl _ _ | with_reducible assumption | with_reducible refine Below.alloc ?_ (by first | (simp; done) | (simp; omega) | omega) _ | with_reducible refine Below.setCell ?_ (by first | (simp; done) | (simp; omega) | omega) _ | with_reducible refine Below.drew ?_ | with_reducible refine below_drewN ?_ _)))) ?_); rintro e w1 ⟨rfl, hb1⟩; have B1 := Lib.hid (thenB (show Below w.heap.size w _ by (repeat (first | with_reducible exact Below.refl _ _ | with_reducible assumption | with_reducible refine Below.alloc ?_ (by first | (simp; done) | (simp; omega) | omega) _ | with_reducible refine Below.setCell ?_ (by first | (simp; done) | (simp; omega) | omega) _ | with_reducible refine Below.drew ?_ | with_reducible refine below_drewN ?_ _))) hb1); go_must (have a0_1 := keep hb1 (b := w.heap.size) (o := 0) (v := .slice sa na ca) (by simp [go_sem, *])); go_must (have a1_1 := keep hb1 (b := w.heap.size) (o := 1) (v := .int .i64 da) (by simp [go_sem, *])); go_must (have b0_1 := keep hb1 (b := w.heap.size + 1) (o := 0) (v := .slice sb nb cb) (by simp [go_sem, *])); go_must (have b1_1 := keep hb1 (b := w.heap.size + 1) (o := 1) (v := .int .i64 db) (by simp [go_sem, *])); go_must (have r0_1 := keep hb1 (b := w.heap.size + 1 + 1) (o := 0) (v := .int .i64 0) (by simp [go_sem, *])); go_must (have r1_1 := keep hb1 (b := w.heap.size + 1 + 1) (o := 1) (v := .int .i64 0) (by simp [go_sem, *])); go_must (have q0_1 := (hb1.frozen (p := ⟨w.heap.size + 1 + 1, 0, none⟩) (by first | (simp; done) | (simp; omega) | omega)).trans (show _ = false by simp [go_sem, *])); go_must (have q1_1 := (hb1.frozen (p := ⟨w.heap.size + 1 + 1, 1, none⟩) (by first | (simp; done) | (simp; omega) | omega)).trans (show _ = false by simp [go_sem, *])); have z1 := lt_of r0_1; clear hb1)
    | (go_at_call 20; (with_reducible refine Calls.mono (H2.out _ (show Below w.heap.size w _ by have Bq := B1.out; have Bz := Bq.size; (repeat (first | with_reducible exact Below.refl _ _ | with_reducible assumption | with_reducible refine Below.alloc ?_ (by first | (simp; done) | (simp; omega) | omega) _ | with_reducible refine Below.setCell ?_ (by first | (simp; done) | (simp; omega) | omega) _ | with_reducible refine Below.drew ?_ | with_reducible refine below_drewN ?_ _)))) ?_); rintro e w2 ⟨rfl, hb2⟩; have B2 := Lib.hid (thenB (show Below w.heap.size w _ by have Bq := B1.out; have Bz := Bq.size; (repeat (first | with_reducible exact Below.refl _ _ | with_reducible assumption | with_reducible refine Below.alloc ?_ (by first | (simp; done) | (simp; omega) | omega) _ | with_reducible refine Below.setCell ?_ (by first | (simp; done) | (simp; omega) | omega) _ | with_reducible refine Below.drew ?_ | with_reducible refine below_drewN ?_ _))) hb2); go_must (have a0_2 := keep hb2 (b := w.heap.size) (o := 0) (v := .slice sa na ca) (by simp [go_sem, *])); go_must (have a1_2 := keep hb2 (b := w.heap.size) (o := 1) (v := .int .i64 da) (by simp [go_sem, *])); go_must (have b0_2 := keep hb2 (b := w.heap.size + 1) (o := 0) (v := .slice sb nb cb) (by simp [go_sem, *])); go_must (have b1_2 := keep hb2 (b := w.heap.size + 1) (o := 1) (v := .int .i64 db) (by simp [go_sem, *])); go_must (have r0_2 := keep hb2 (b := w.heap.size + 1 + 1) (o := 0) (v := .int .i64 0) (by simp [go_sem, *])); go_must (have r1_2 := keep hb2 (b := w.heap.size + 1 + 1) (o := 1) (v := .int .i64 0) (by simp [go_sem, *])); go_must (have x0_2 := keep hb2 (b := w1.heap.size) (o := 0) (v := .int .i64 L1) (by simp [go_sem, *])); go_must (have x1_2 := keep hb2 (b := w1.heap.size) (o := 1) (v := .int .i64 U1) (by simp [go_sem, *])); go_must (have q0_2 := (hb2.frozen (p := ⟨w.heap.size + 1 + 1, 0, none⟩) (by first | (simp; done) | (simp; omega) | omega)).trans (show _ = false by simp [go_sem, *])); go_must (have q1_2 := (hb2.frozen (p := ⟨w.heap.size + 1 + 1, 1, none⟩) (by first | (simp; done) | (simp; omega) | omega)).trans (show _ = false by simp [go_sem, *])); have z2 := lt_of r0_2; clear hb2)
    | fail)
  refine bodyPost_ret (v := .tuple #[.agg #[.int .i64 0, .int .i64 0], .int .i64 E2]) (by simp [results, Tryz.results31, go_sem, *]) rfl ⟨rfl, ?_⟩
  have Bq := B2.out
  have Bz := Bq.size
  (repeat (first | with_reducible exact Below.refl _ _ | with_reducible assumption | with_reducible refine Below.alloc ?_ (by first | (simp; done) | (simp; omega) | omega) _ | with_reducible refine Below.setCell ?_ (by first | (simp; done) | (simp; omega) | omega) _ | with_reducible refine Below.drew ?_ | with_reducible refine below_drewN ?_ _))
set_option maxRecDepth 100000 in
set_option maxHeartbeats 4000000 in
theorem trip_3 (sa sb : Option Addr) (na ca nb cb : Nat) (da db s E3 L1 U1 L2 U2 L3 U3 : Int) (w : World)
    (h1 : ∀ W, Below w.heap.size w W → Calls Tryz.prog 20 #[.agg #[.slice sa na ca, .int .i64 da], .agg #[.slice sb nb cb, .int .i64 db], .int .i64 s] W fun e w' => e = .returned (.tuple #[.agg #[.int .i64 L1, .int .i64 U1], .int .i64 0]) ∧ Below W.heap.size W w')
    (h2 : ∀ W, Below w.heap.size w W → Calls Tryz.prog 20 #[.agg #[.slice sb nb cb, .int .i64 db], .agg #[.slice sa na ca, .int .i64 da], .int .i64 L1] W fun e w' => e = .returned (.tuple #[.agg #[.int .i64 L2, .int .i64 U2], .int .i64 0]) ∧ Below W.heap.size W w')
    (h3 : ∀ W, Below w.heap.size w W → Calls Tryz.prog 20 #[.agg #[.slice sb nb cb, .int .i64 db], .agg #[.slice sa na ca, .int .i64 da], .int .i64 U1] W fun e w' => e = .returned (.tuple #[.agg #[.int .i64 L3, .int .i64 U3], .int .i64 E3]) ∧ Below W.heap.size W w')
    (hE : (E3 != 0) = true) :
    Calls Tryz.prog 31 #[.agg #[.slice sa na ca, .int .i64 da], .agg #[.slice sb nb cb, .int .i64 db], .int .i64 s] w fun e w' => e = .returned (.tuple #[.agg #[.int .i64 0, .int .i64 0], .int .i64 E3]) ∧ Below w.heap.size w w' := by
  have H1 := Lib.hid h1
  have H2 := Lib.hid h2
  have H3 := Lib.hid h3
  clear h1 h2 h3
  go_enter Tryz.func31, Tryz.ntmps31
  go_wp2_with (first
    | (go_at_call 20; (with_reducible refine Calls.mono (H1.out _ (show Below w.heap.size w _ by (repeat (first | with_reducible exact Below.refl _ _ | with_reducible assumption | with_reducible refine Below.alloc ?_ (by first | (simp; done) | (simp; omega) | omega) _ | with_reducible refine Below.setCell ?_ (by first | (simp; done) | (simp; omega) | omega) _ | with_reducible refine Below.drew ?_ | with_reducible refine below_drewN ?_ _)))) ?_); rintro e w1 ⟨rfl, hb1⟩; have B1 := Lib.hid (thenB (show Below w.heap.size w _ by (repeat (first | with_reducible exact Below.refl _ _ | with_reducible assumption | with_reducible refine Below.alloc ?_ (by first | (simp; done) | (simp; omega) | omega) _ | with_reducible refine Below.setCell ?_ (by first | (simp; done) | (simp; omega) | omega) _ | with_reducible refine Below.drew ?_ | with_reducible refine below_drewN ?_ _))) hb1); go_must (have a0_1 := keep hb1 (b := w.heap.size) (o := 0) (v := .slice sa na ca) (by simp [go_sem, *])); go_must (have a1_1 := keep hb1 (b := w.heap.size) (o := 1) (v := .int .i64 da) (by simp [go_sem, *])); go_must (have b0_1 := keep hb1 (b := w.heap.size + 1) (o := 0) (v := .slice sb nb cb) (by simp [go_sem, *])); go_must (have b1_1 := keep hb1 (b := w.heap.size + 1) (o := 1) (v := .int .i64 db) (by simp [go_sem, *])); go_must (have r0_1 := keep hb1 (b := w.heap.size + 1 + 1) (o := 0) (v := .int .i64 0) (by simp [go_sem, *])); go_must (have r1_1 := keep hb1 (b := w.heap.size + 1 + 1) (o := 1) (v := .int .i64 0) (by simp [go_sem, *])); go_must (have q0_1 := (hb1.frozen (p := ⟨w.heap.size + 1 + 1, 0, none⟩) (by first | (simp; done) | (simp; omega) | omega)).trans (show _ = false by simp [go_sem, *])); go_must (have q1_1 := (hb1.frozen (p := ⟨w.heap.size + 1 + 1, 1, none⟩) (by first | (simp; done) | (simp; omega) | omega)).trans (show _ = false by simp [go_sem, *])); have z1 := lt_of r0_1; clear hb1)
    | (go_at_call 20; (with_reducible refine Calls.mono (H2.out _ (show Below w.heap.size w _ by have Bq := B1.out; have Bz := Bq.size; (repeat (first | with_reducible exact Below.refl _ _ | with_reducible assumption | with_reducible refine Below.alloc ?_ (by first | (simp; done) | (simp; omega) | omega) _ | with_reducible refine Below.setCell ?_ (by first | (simp; done) | (simp; omega) | omega) _ | with_reducible refine Below.drew ?_ | with_reducible refine below_drewN ?_ _)))) ?_); rintro e w2 ⟨rfl, hb2⟩; have B2 := Lib.hid (thenB (show Below w.heap.size w _ by have Bq := B1.out; have Bz := Bq.size; (repeat (first | with_reducible exact Below.refl _ _ | with_reducible assumption | with_reducible refine Below.alloc ?_ (by first | (simp; done) | (simp; omega) | omega) _ | with_reducible refine Below.setCell ?_ (by first | (simp; done) | (simp; omega) | omega) _ | with_reducible refine Below.drew ?_ | with_reducible refine below_drewN ?_ _))) hb2); go_must (have a0_2 := keep hb2 (b := w.heap.size) (o := 0) (v := .slice sa na ca) (by simp [go_sem, *])); go_must (have a1_2 := keep hb2 (b := w.heap.size) (o := 1) (v := .int .i64 da) (by simp [go_sem, *])); go_must (have b0_2 := keep hb2 (b := w.heap.size + 1) (o := 0) (v := .slice sb nb cb) (by simp [go_sem, *])); go_must (have b1_2 := keep hb2 (b := w.heap.size + 1) (o := 1) (v := .int .i64 db) (by simp [go_sem, *])); go_must (have r0_2 := keep hb2 (b := w.heap.size + 1 + 1) (o := 0) (v := .int .i64 0) (by simp [go_sem, *])); go_must (have r1_2 := keep hb2 (b := w.heap.size + 1 + 1) (o := 1) (v := .int .i64 0) (by simp [go_sem, *])); go_must (have x0_2 := keep hb2 (b := w1.heap.size) (o := 0) (v := .int .i64 L1) (by simp [go_sem, *])); go_must (have x1_2 := keep hb2 (b := w1.heap.size) (o := 1) (v := .int .i64 U1) (by simp [go_sem, *])); go_must (have q0_2 := (hb2.frozen (p := ⟨w.heap.size + 1 + 1, 0, none⟩) (by first | (simp; done) | (simp; omega) | omega)).trans (show _ = false by simp [go_sem, *])); go_must (have q1_2 := (hb2.frozen (p := ⟨w.heap.size + 1 + 1, 1, none⟩) (by first | (simp; done) | (simp; omega) | omega)).trans (show _ = false by simp [go_sem, *])); have z2 := lt_of r0_2; clear hb2)
    | (go_at_call 20; (with_reducible refine Calls.mono (H3.out _ (show Below w.heap.size w _ by have Bq := B2.out; have Bz := Bq.size; (repeat (first | with_reducible exact Below.refl _ _ | with_reducible assumption | with_reducible refine Below.alloc ?_ (by first | (simp; done) | (simp; omega) | omega) _ | with_reducible refine Below.setCell ?_ (by first | (simp; done) | (simp; omega) | omega) _ | with_reducible refine Below.drew ?_ | with_reducible refine below_drewN ?_ _)))) ?_); rintro e w3 ⟨rfl, hb3⟩; have B3 := Lib.hid (thenB (show Below w.heap.size w _ by have Bq := B2.out; have Bz := Bq.size; (repeat (first | with_reducible exact Below.refl _ _ | with_reducible assumption | with_reducible refine Below.alloc ?_ (by first | (simp; done) | (simp; omega) | omega) _ | with_reducible refine Below.setCell ?_ (by first | (simp; done) | (simp; omega) | omega) _ | with_reducible refine Below.drew ?_ | with_reducible refine below_drewN ?_ _))) hb3); go_must (have a0_3 := keep hb3 (b := w.heap.size) (o := 0) (v := .slice sa na ca) (by simp [go_sem, *])); go_must (have a1_3 := keep hb3 (b := w.heap.size) (o := 1) (v := .int .i64 da) (by simp [go_sem, *])); go_must (have b0_3 := keep hb3 (b := w.heap.size + 1) (o := 0) (v := .slice sb nb cb) (by simp [go_sem, *])); go_must (have b1_3 := keep hb3 (b := w.heap.size + 1) (o := 1) (v := .int .i64 db) (by simp [go_sem, *])); go_must (have r0_3 := keep hb3 (b := w.heap.size + 1 + 1) (o := 0) (v := .int .i64 0) (by simp [go_sem, *])); go_must (have r1_3 := keep hb3 (b := w.heap.size + 1 + 1) (o := 1) (v := .int .i64 0) (by simp [go_sem, *])); go_must (have x0_3 := keep hb3 (b := w1.heap.size) (o := 0) (v := .int .i64 L1) (by simp [go_sem, *])); go_must (have x1_3 := keep hb3 (b := w1.heap.size) (o := 1) (v := .int .i64 U1) (by simp [go_sem, *])); go_must (have y0_3 := keep hb3 (b := w2.heap.size) (o := 0) (v := .int .i64 L2) (by simp [go_sem, *])); go_must (have y1_3 := keep hb3 (b := w2.heap.size) (o := 1) (v := .int .i64 U2) (by simp [go_sem, *])); go_must (have q0_3 := (hb3.frozen (p := ⟨w.heap.size + 1 + 1, 0, none⟩) (by first | (simp; done) | (simp; omega) | omega)).trans (show _ = false by simp [go_sem, *])); go_must (have q1_3 := (hb3.frozen (p := ⟨w.heap.size + 1 + 1, 1, none⟩) (by first | (simp; done) | (simp; omega) | omega)).trans (show _ = false by simp [go_sem, *])); have z3 := lt_of r0_3; clear hb3)
    | fail)
  refine bodyPost_ret (v := .tuple #[.agg #[.int .i64 0, .int .i64 0], .int .i64 E3]) (by simp [results, Tryz.results31, go_sem, *]) rfl ⟨rfl, ?_⟩
  have Bq := B3.out
  have Bz := Bq.size
  (repeat (first | with_reducible exact Below.refl _ _ | with_reducible assumption | with_reducible refine Below.alloc ?_ (by first | (simp; done) | (simp; omega) | omega) _ | with_reducible refine Below.setCell ?_ (by first | (simp; done) | (simp; omega) | omega) _ | with_reducible refine Below.drew ?_ | with_reducible refine below_drewN ?_ _))
set_option maxRecDepth 100000 in
set_option maxHeartbeats 4000000 in
theorem trip_4 (sa sb : Option Addr) (na ca nb cb : Nat) (da db s  L1 U1 L2 U2 L3 U3 : Int) (w : World)
    (h1 : ∀ W, Below w.heap.size w W → Calls Tryz.prog 20 #[.agg #[.slice sa na ca, .int .i64 da], .agg #[.slice sb nb cb, .int .i64 db], .int .i64 s] W fun e w' => e = .returned (.tuple #[.agg #[.int .i64 L1, .int .i64 U1], .int .i64 0]) ∧ Below W.heap.size W w')
    (h2 : ∀ W, Below w.heap.size w W → Calls Tryz.prog 20 #[.agg #[.slice sb nb cb, .int .i64 db], .agg #[.slice sa na ca, .int .i64 da], .int .i64 L1] W fun e w' => e = .returned (.tuple #[.agg #[.int .i64 L2, .int .i64 U2], .int .i64 0]) ∧ Below W.heap.size W w')
    (h3 : ∀ W, Below w.heap.size w W → Calls Tryz.prog 20 #[.agg #[.slice sb nb cb, .int .i64 db], .agg #[.slice sa na ca, .int .i64 da], .int .i64 U1] W fun e w' => e = .returned (.tuple #[.agg #[.int .i64 L3, .int .i64 U3], .int .i64 0]) ∧ Below W.heap.size W w') :
    Calls Tryz.prog 31 #[.agg #[.slice sa na ca, .int .i64 da], .agg #[.slice sb nb cb, .int .i64 db], .int .i64 s] w fun e w' => e = .returned (.tuple #[.agg #[.int .i64 L2, .int .i64 U3], .int .i64 0]) ∧ Below w.heap.size w w' := by
  have H1 := Lib.hid h1
  have H2 := Lib.hid h2
  have H3 := Lib.hid h3
  clear h1 h2 h3
  go_enter Tryz.func31, Tryz.ntmps31
  go_wp2_with (first
    | (go_at_call 20; (with_reducible refine Calls.mono (H1.out _ (show Below w.heap.size w _ by (repeat (first | with_reducible exact Below.refl _ _ | with_reducible assumption | with_reducible refine Below.alloc ?_ (by first | (simp; done) | (simp; omega) | omega) _ | with_reducible refine Below.setCell ?_ (by first | (simp; done) | (simp; omega) | omega) _ | with_reducible refine Below.drew ?_ | with_reducible refine below_drewN ?_ _)))) ?_); rintro e w1 ⟨rfl, hb1⟩; have B1 := Lib.hid (thenB (show Below w.heap.size w _ by (repeat (first | with_reducible exact Below.refl _ _ | with_reducible assumption | with_reducible refine Below.alloc ?_ (by first | (simp; done) | (simp; omega) | omega) _ | with_reducible refine Below.setCell ?_ (by first | (simp; done) | (simp; omega) | omega) _ | with_reducible refine Below.drew ?_ | with_reducible refine below_drewN ?_ _))) hb1); go_must (have a0_1 := keep hb1 (b := w.heap.size) (o := 0) (v := .slice sa na ca) (by simp [go_sem, *])); go_must (have a1_1 := keep hb1 (b := w.heap.size) (o := 1) (v := .int .i64 da) (by simp [go_sem, *])); go_must (have b0_1 := keep hb1 (b := w.heap.size + 1) (o := 0) (v := .slice sb nb cb) (by simp [go_sem, *])); go_must (have b1_1 := keep hb1 (b := w.heap.size + 1) (o := 1) (v := .int .i64 db) (by simp [go_sem, *])); go_must (have r0_1 := keep hb1 (b := w.heap.size + 1 + 1) (o := 0) (v := .int .i64 0) (by simp [go_sem, *])); go_must (have r1_1 := keep hb1 (b := w.heap.size + 1 + 1) (o := 1) (v := .int .i64 0) (by simp [go_sem, *])); go_must (have q0_1 := (hb1.frozen (p := ⟨w.heap.size + 1 + 1, 0, none⟩) (by first | (simp; done) | (simp; omega) | omega)).trans (show _ = false by simp [go_sem, *])); go_must (have q1_1 := (hb1.frozen (p := ⟨w.heap.size + 1 + 1, 1, none⟩) (by first | (simp; done) | (simp; omega) | omega)).trans (show _ = false by simp [go_sem, *])); have z1 := lt_of r0_1; clear hb1)
    | (go_at_call 20; (with_reducible refine Calls.mono (H2.out _ (show Below w.heap.size w _ by have Bq := B1.out; have Bz := Bq.size; (repeat (first | with_reducible exact Below.refl _ _ | with_reducible assumption | with_reducible refine Below.alloc ?_ (by first | (simp; done) | (simp; omega) | omega) _ | with_reducible refine Below.setCell ?_ (by first | (simp; done) | (simp; omega) | omega) _ | with_reducible refine Below.drew ?_ | with_reducible refine below_drewN ?_ _)))) ?_); rintro e w2 ⟨rfl, hb2⟩; have B2 := Lib.hid (thenB (show Below w.heap.size w _ by have Bq := B1.out; have Bz := Bq.size; (repeat (first | with_reducible exact Below.refl _ _ | with_reducible assumption | with_reducible refine Below.alloc ?_ (by first | (simp; done) | (simp; omega) | omega) _ | with_reducible refine Below.setCell ?_ (by first | (simp; done) | (simp; omega) | omega) _ | with_reducible refine Below.drew ?_ | with_reducible refine below_drewN ?_ _))) hb2); go_must (have a0_2 := keep hb2 (b := w.heap.size) (o := 0) (v := .slice sa na ca) (by simp [go_sem, *])); go_must (have a1_2 := keep hb2 (b := w.heap.size) (o := 1) (v := .int .i64 da) (by simp [go_sem, *])); go_must (have b0_2 := keep hb2 (b := w.heap.size + 1) (o := 0) (v := .slice sb nb cb) (by simp [go_sem, *])); go_must (have b1_2 := keep hb2 (b := w.heap.size + 1) (o := 1) (v := .int .i64 db) (by simp [go_sem, *])); go_must (have r0_2 := keep hb2 (b := w.heap.size + 1 + 1) (o := 0) (v := .int .i64 0) (by simp [go_sem, *])); go_must (have r1_2 := keep hb2 (b := w.heap.size + 1 + 1) (o := 1) (v := .int .i64 0) (by simp [go_sem, *])); go_must (have x0_2 := keep hb2 (b := w1.heap.size) (o := 0) (v := .int .i64 L1) (by simp [go_sem, *])); go_must (have x1_2 := keep hb2 (b := w1.heap.size) (o := 1) (v := .int .i64 U1) (by simp [go_sem, *])); go_must (have q0_2 := (hb2.frozen (p := ⟨w.heap.size + 1 + 1, 0, none⟩) (by first | (simp; done) | (simp; omega) | omega)).trans (show _ = false by simp [go_sem, *])); go_must (have q1_2 := (hb2.frozen (p := ⟨w.heap.size + 1 + 1, 1, none⟩) (by first | (simp; done) | (simp; omega) | omega)).trans (show _ = false by simp [go_sem, *])); have z2 := lt_of r0_2; clear hb2)
    | (go_at_call 20; (with_reducible refine Calls.mono (H3.out _ (show Below w.heap.size w _ by have Bq := B2.out; have Bz := Bq.size; (repeat (first | with_reducible exact Below.refl _ _ | with_reducible assumption | with_reducible refine Below.alloc ?_ (by first | (simp; done) | (simp; omega) | omega) _ | with_reducible refine Below.setCell ?_ (by first | (simp; done) | (simp; omega) | omega) _ | with_reducible refine Below.drew ?_ | with_reducible refine below_drewN ?_ _)))) ?_); rintro e w3 ⟨rfl, hb3⟩; have B3 := Lib.hid (thenB (show Below w.heap.size w _ by have Bq := B2.out; have Bz := Bq.size; (repeat (first | with_reducible exact Below.refl _ _ | with_reducible assumption | with_reducible refine Below.alloc ?_ (by first | (simp; done) | (simp; omega) | omega) _ | with_reducible refine Below.setCell ?_ (by first | (simp; done) | (simp; omega) | omega) _ | with_reducible refine Below.drew ?_ | with_reducible refine below_drewN ?_ _))) hb3); go_must (have a0_3 := keep hb3 (b := w.heap.size) (o := 0) (v := .slice sa na ca) (by simp [go_sem, *])); go_must (have a1_3 := keep hb3 (b := w.heap.size) (o := 1) (v := .int .i64 da) (by simp [go_sem, *])); go_must (have b0_3 := keep hb3 (b := w.heap.size + 1) (o := 0) (v := .slice sb nb cb) (by simp [go_sem, *])); go_must (have b1_3 := keep hb3 (b := w.heap.size + 1) (o := 1) (v := .int .i64 db) (by simp [go_sem, *])); go_must (have r0_3 := keep hb3 (b := w.heap.size + 1 + 1) (o := 0) (v := .int .i64 0) (by simp [go_sem, *])); go_must (have r1_3 := keep hb3 (b := w.heap.size + 1 + 1) (o := 1) (v := .int .i64 0) (by simp [go_sem, *])); go_must (have x0_3 := keep hb3 (b := w1.heap.size) (o := 0) (v := .int .i64 L1) (by simp [go_sem, *])); go_must (have x1_3 := keep hb3 (b := w1.heap.size) (o := 1) (v := .int .i64 U1) (by simp [go_sem, *])); go_must (have y0_3 := keep hb3 (b := w2.heap.size) (o := 0) (v := .int .i64 L2) (by simp [go_sem, *])); go_must (have y1_3 := keep hb3 (b := w2.heap.size) (o := 1) (v := .int .i64 U2) (by simp [go_sem, *])); go_must (have q0_3 := (hb3.frozen (p := ⟨w.heap.size + 1 + 1, 0, none⟩) (by first | (simp; done) | (simp; omega) | omega)).trans (show _ = false by simp [go_sem, *])); go_must (have q1_3 := (hb3.frozen (p := ⟨w.heap.size + 1 + 1, 1, none⟩) (by first | (simp; done) | (simp; omega) | omega)).trans (show _ = false by simp [go_sem, *])); have z3 := lt_of r0_3; clear hb3)
    | fail)
  refine bodyPost_ret (v := .tuple #[.agg #[.int .i64 L2, .int .i64 U3], .int .i64 0]) (by simp [results, Tryz.results31, go_sem, *]) rfl ⟨rfl, ?_⟩
  have Bq := B3.out
  have Bz := Bq.size
  (repeat (first | with_reducible exact Below.refl _ _ | with_reducible assumption | with_reducible refine Below.alloc ?_ (by first | (simp; done) | (simp; omega) | omega) _ | with_reducible refine Below.setCell ?_ (by first | (simp; done) | (simp; omega) | omega) _ | with_reducible refine Below.drew ?_ | with_reducible refine below_drewN ?_ _))
def tripE (A B : TV) (s : Int) : Int := if rvE A B s = 0 then (if rvE B A (rvLo A B s) = 0 then rvE B A (rvHi A B s) else rvE B A (rvLo A B s)) else rvE A B s
def tripLo (A B : TV) (s : Int) : Int := if tripE A B s = 0 then rvLo B A (rvLo A B s) else 0
def tripHi (A B : TV) (s : Int) : Int := if tripE A B s = 0 then rvHi B A (rvHi A B s) else 0
/-- RoundTrip, by its numbers. -/
theorem roundTrip_n (A B : TV) (s : Int) (w : World) (hA : A.At w) (hB : B.At w) :
    Calls Tryz.prog 31 #[.agg #[.slice A.a A.n A.c, .int .i64 A.d], .agg #[.slice B.a B.n B.c, .int .i64 B.d], .int .i64 s] w fun e w' => e = .returned (.tuple #[.agg #[.int .i64 (tripLo A B s), .int .i64 (tripHi A B s)], .int .i64 (tripE A B s)]) ∧ Below w.heap.size w w' := by
  have h1 := fun W (hb : Below w.heap.size w W) => receivedAt_n A B s W (hA.below hb) (hB.below hb)
  have h2 := fun W (hb : Below w.heap.size w W) => receivedAt_n B A (rvLo A B s) W (hB.below hb) (hA.below hb)
  have h3 := fun W (hb : Below w.heap.size w W) => receivedAt_n B A (rvHi A B s) W (hB.below hb) (hA.below hb)
  by_cases e1 : rvE A B s = 0
  · rw [e1] at h1
    by_cases e2 : rvE B A (rvLo A B s) = 0
    · rw [e2] at h2
      have et : tripE A B s = rvE B A (rvHi A B s) := by unfold tripE; rw [if_pos e1, if_pos e2]
      by_cases e3 : rvE B A (rvHi A B s) = 0
      · rw [e3] at h3
        unfold tripLo tripHi
        rw [et, e3, if_pos rfl, if_pos rfl]
        exact trip_4 _ _ _ _ _ _ _ _ _ _ _ _ _ _ _ w h1 h2 h3
      · unfold tripLo tripHi
        rw [et, if_neg e3, if_neg e3]
        exact trip_3 _ _ _ _ _ _ _ _ _ _ _ _ _ _ _ _ w h1 h2 h3 (by simpa using e3)
    · have et : tripE A B s = rvE B A (rvLo A B s) := by unfold tripE; rw [if_pos e1, if_neg e2]
      unfold tripLo tripHi
      rw [et, if_neg e2, if_neg e2]
      exact trip_2 _ _ _ _ _ _ _ _ _ _ _ _ _ _ w h1 h2 (by simpa using e2)
  · have et : tripE A B s = rvE A B s := by unfold tripE; rw [if_neg e1]
    unfold tripLo tripHi
    rw [et, if_neg e1, if_neg e1]
    exact trip_1 _ _ _ _ _ _ _ _ _ _ _ _ w h1 (by simpa using e1)
end Go.Proofs.YtnfoagcpgegldaaGreat
namespace Go.Proofs.YtnfoagcpgegldaaGreat
open Go.RowKit Go.Shelf Go.Sort
attribute [local go_sem] idx3_0 idx3_1 idx3_2 old1 fro1 old2 fro2 old3 fro3 old4 fro4 old5 fro5 old6 fro6 old7 fro7 old8 fro8 old9 fro9 old10 fro10 old11 fro11 old12 fro12
def RX (w : World) (sa sb : Option Addr) (na ca nb cb : Nat) (da db : Int) (wx : World) : Prop :=
  Below w.heap.size w wx ∧ (wx.cell? ⟨w.heap.size, 0, none⟩ = some (.slice sa na ca) ∧ wx.cell? ⟨w.heap.size, 1, none⟩ = some (.int .i64 da)) ∧ (wx.cell? ⟨w.heap.size + 1, 0, none⟩ = some (.slice sb nb cb) ∧ wx.cell? ⟨w.heap.size + 1, 1, none⟩ = some (.int .i64 db)) ∧
  (wx.cell? ⟨w.heap.size + 1 + 1, 0, none⟩ = some (.int .i64 0) ∧ wx.cell? ⟨w.heap.size + 1 + 1, 1, none⟩ = some (.int .i64 0)) ∧ (wx.frozen? ⟨w.heap.size + 1 + 1, 0, none⟩ = false ∧ wx.frozen? ⟨w.heap.size + 1 + 1, 1, none⟩ = false)
theorem RX.to {w wx wy : World} {sa sb : Option Addr} {na ca nb cb : Nat} {da db : Int} (h : RX w sa sb na ca nb cb da db wx) (hb : Below wx.heap.size wx wy) : RX w sa sb na ca nb cb da db wy := by
  obtain ⟨p, ⟨a0, a1⟩, ⟨b0, b1⟩, ⟨r0, r1⟩, ⟨q0, q1⟩⟩ := h
  exact ⟨thenB p hb, ⟨keep hb a0, keep hb a1⟩, ⟨keep hb b0, keep hb b1⟩, ⟨keep hb r0, keep hb r1⟩, ⟨(hb.frozen (p := ⟨w.heap.size + 1 + 1, 0, none⟩) (lt_of r0)).trans q0, (hb.frozen (p := ⟨w.heap.size + 1 + 1, 1, none⟩) (lt_of r0)).trans q1⟩⟩
theorem RX.set {w wx : World} {sa sb : Option Addr} {na ca nb cb : Nat} {da db : Int} {D o : Nat} {v : Value} (h : RX w sa sb na ca nb cb da db wx) (hD : w.heap.size + 1 + 1 < D) (_ : D < wx.heap.size) : RX w sa sb na ca nb cb da db (wx.setCell ⟨D, o, none⟩ v) := by
  obtain ⟨p, ⟨a0, a1⟩, ⟨b0, b1⟩, ⟨r0, r1⟩, ⟨q0, q1⟩⟩ := h
  have n1 : w.heap.size ≠ D := by omega
  have n2 : w.heap.size + 1 ≠ D := by omega
  have n3 : w.heap.size + 1 + 1 ≠ D := by omega
  have n4 : D ≠ w.heap.size := by omega
  have n5 : D ≠ w.heap.size + 1 := by omega
  have n6 : D ≠ w.heap.size + 1 + 1 := by omega
  refine ⟨p.setCell (by show w.heap.size ≤ D; omega) _, ⟨?_, ?_⟩, ⟨?_, ?_⟩, ⟨?_, ?_⟩, ⟨?_, ?_⟩⟩
  all_goals simp [go_sem, *]
set_option maxRecDepth 100000 in
set_option maxHeartbeats 4000000 in
theorem rrec_no (ba oa na ca bb ob nb cb : Nat) (da db s T : Int) (w : World) (hn : 0 < nb) (hn2 : nb ≤ 100)
    (hL : ∀ W, Below w.heap.size w W → W.cell? ⟨bb, ob + (nb - 1) * 4, none⟩ = some (.int .i64 T))
    (hY : ∀ W, Below w.heap.size w W → Calls Tryz.prog 28 #[.agg #[.slice (some ⟨ba, oa, none⟩) na ca, .int .i64 da], .agg #[.slice (some ⟨bb, ob, none⟩) nb cb, .int .i64 db], .int .i64 s, .int .i64 T] W fun e w' => e = .returned (.bool false) ∧ Below W.heap.size W w') :
    Calls Tryz.prog 22 #[.agg #[.slice (some ⟨ba, oa, none⟩) na ca, .int .i64 da], .agg #[.slice (some ⟨bb, ob, none⟩) nb cb, .int .i64 db], .int .i64 s] w fun e w' => e = .returned (.tuple #[.agg #[.int .i64 0, .int .i64 0], .bool false]) ∧ Below w.heap.size w w' := by
  have HL := Lib.hid hL
  have HY := Lib.hid hY
  clear hL hY
  go_enter Tryz.func22, Tryz.ntmps22
  go_wp2_with fail
  go_region_held3 (fun w' => w'.cell? ⟨w.heap.size, 0, none⟩ = some (.slice (some ⟨ba, oa, none⟩) na ca) ∧ w'.cell? ⟨w.heap.size, 1, none⟩ = some (.int .i64 da) ∧ w'.cell? ⟨w.heap.size + 1, 0, none⟩ = some (.slice (some ⟨bb, ob, none⟩) nb cb) ∧ w'.cell? ⟨w.heap.size + 1, 1, none⟩ = some (.int .i64 db)) (simp [go_sem, *])
    (first | (go_at_call 27; (with_reducible refine Calls.mono (rlast_any bb ob nb cb db T _ hn hn2 (HL.out _ (by (repeat (first | with_reducible exact Below.refl _ _ | with_reducible assumption | with_reducible refine Below.alloc ?_ (by first | (simp; done) | (simp; omega) | omega) _ | with_reducible refine Below.setCell ?_ (by first | (simp; done) | (simp; omega) | omega) _ | with_reducible refine Below.drew ?_ | with_reducible refine below_drewN ?_ _))))) ?_); rintro e w1 ⟨rfl, o1, rfl⟩) | (go_at_call 28; (with_reducible refine Calls.mono (HY.out _ (show Below w.heap.size w _ by (repeat (first | with_reducible exact Below.refl _ _ | with_reducible assumption | with_reducible refine Below.alloc ?_ (by first | (simp; done) | (simp; omega) | omega) _ | with_reducible refine Below.setCell ?_ (by first | (simp; done) | (simp; omega) | omega) _ | with_reducible refine Below.drew ?_ | with_reducible refine below_drewN ?_ _)))) ?_); rintro e w2 ⟨rfl, hb2⟩; have B2 := Lib.hid (thenB (show Below w.heap.size w _ by (repeat (first | with_reducible exact Below.refl _ _ | with_reducible assumption | with_reducible refine Below.alloc ?_ (by first | (simp; done) | (simp; omega) | omega) _ | with_reducible refine Below.setCell ?_ (by first | (simp; done) | (simp; omega) | omega) _ | with_reducible refine Below.drew ?_ | with_reducible refine below_drewN ?_ _))) hb2); go_must (have a0 := keep hb2 (b := w.heap.size) (o := 0) (v := .slice (some ⟨ba, oa, none⟩) na ca) (by simp [go_sem, *])); go_must (have a1 := keep hb2 (b := w.heap.size) (o := 1) (v := .int .i64 da) (by simp [go_sem, *])); go_must (have b0 := keep hb2 (b := w.heap.size + 1) (o := 0) (v := .slice (some ⟨bb, ob, none⟩) nb cb) (by simp [go_sem, *])); go_must (have b1 := keep hb2 (b := w.heap.size + 1) (o := 1) (v := .int .i64 db) (by simp [go_sem, *])); go_must (have r0 := keep hb2 (b := w.heap.size + 1 + 1) (o := 0) (v := .int .i64 0) (by simp [go_sem, *])); go_must (have r1 := keep hb2 (b := w.heap.size + 1 + 1) (o := 1) (v := .int .i64 0) (by simp [go_sem, *])); go_must (have q0 := (hb2.frozen (p := ⟨w.heap.size + 1 + 1, 0, none⟩) (by first | (simp; done) | (simp; omega) | omega)).trans (show _ = false by simp [go_sem, *])); go_must (have q1 := (hb2.frozen (p := ⟨w.heap.size + 1 + 1, 1, none⟩) (by first | (simp; done) | (simp; omega) | omega)).trans (show _ = false by simp [go_sem, *])); have sz2 := lt_of r0; clear hb2) | fail)
  all_goals
    go_wp2_with fail
    refine bodyPost_ret (v := .tuple #[.agg #[.int .i64 0, .int .i64 0], .bool false]) (by simp [results, Tryz.results22, go_sem, *]) rfl ⟨rfl, ?_⟩
    have Bq := B2.out
    (repeat (first | with_reducible exact Below.refl _ _ | with_reducible assumption | with_reducible refine Below.alloc ?_ (by first | (simp; done) | (simp; omega) | omega) _ | with_reducible refine Below.setCell ?_ (by first | (simp; done) | (simp; omega) | omega) _ | with_reducible refine Below.drew ?_ | with_reducible refine below_drewN ?_ _))
set_option maxRecDepth 100000 in
set_option maxHeartbeats 4000000 in
theorem rrec_yes (ba oa na ca bb ob nb cb : Nat) (da db s T : Int) (fA fW : Int → Bool) (Lo Hi : Int) (w : World) (hn : 0 < nb) (hn2 : nb ≤ 100) (s0 : 0 ≤ s) (sT : s ≤ T) (T1 : T ≤ 1000000000000)
    (hL : ∀ W, Below w.heap.size w W → W.cell? ⟨bb, ob + (nb - 1) * 4, none⟩ = some (.int .i64 T)) (hT : fA T = true)
    (hA : ∀ W r, Below w.heap.size w W → s ≤ r → r ≤ T → Calls Tryz.prog 28 #[.agg #[.slice (some ⟨ba, oa, none⟩) na ca, .int .i64 da], .agg #[.slice (some ⟨bb, ob, none⟩) nb cb, .int .i64 db], .int .i64 s, .int .i64 r] W fun e w' => e = .returned (.bool (fA r)) ∧ Below W.heap.size W w')
    (hW : ∀ W r, Below w.heap.size w W → s ≤ r → r ≤ T → Calls Tryz.prog 29 #[.agg #[.slice (some ⟨ba, oa, none⟩) na ca, .int .i64 da], .agg #[.slice (some ⟨bb, ob, none⟩) nb cb, .int .i64 db], .int .i64 s, .int .i64 r] W fun e w' => e = .returned (.bool (fW r)) ∧ Below W.heap.size W w')
    (hHi : ∀ x, s ≤ x → x ≤ T → (x = s ∨ fA (x - 1) = false) → fA x = true → x = Hi)
    (hLo : ∀ x, s ≤ x → x ≤ Hi → (x = s ∨ fW x = true) → (x = Hi ∨ fW (x + 1) = false) → x = Lo) :
    Calls Tryz.prog 22 #[.agg #[.slice (some ⟨ba, oa, none⟩) na ca, .int .i64 da], .agg #[.slice (some ⟨bb, ob, none⟩) nb cb, .int .i64 db], .int .i64 s] w fun e w' => e = .returned (.tuple #[.agg #[.int .i64 Lo, .int .i64 Hi], .bool true]) ∧ Below w.heap.size w w' := by
  have HY : Hid (∀ W, Below w.heap.size w W → Calls Tryz.prog 28 #[.agg #[.slice (some ⟨ba, oa, none⟩) na ca, .int .i64 da], .agg #[.slice (some ⟨bb, ob, none⟩) nb cb, .int .i64 db], .int .i64 s, .int .i64 T] W fun e w' => e = .returned (.bool true) ∧ Below W.heap.size W w') := Lib.hid (fun W hb => by have := hA W T hb sT (Int.le_refl _); rwa [hT] at this)
  have HL := Lib.hid hL
  have HT := Lib.hid hT
  have HA := Lib.hid hA
  have HW := Lib.hid hW
  have HHI := Lib.hid hHi
  have HLO := Lib.hid hLo
  clear hL hA hW hHi hLo hT
  go_enter Tryz.func22, Tryz.ntmps22
  go_wp2_with fail
  go_region_held3 (fun w' => w'.cell? ⟨w.heap.size, 0, none⟩ = some (.slice (some ⟨ba, oa, none⟩) na ca) ∧ w'.cell? ⟨w.heap.size, 1, none⟩ = some (.int .i64 da) ∧ w'.cell? ⟨w.heap.size + 1, 0, none⟩ = some (.slice (some ⟨bb, ob, none⟩) nb cb) ∧ w'.cell? ⟨w.heap.size + 1, 1, none⟩ = some (.int .i64 db)) (simp [go_sem, *])
    (first | (go_at_call 27; (with_reducible refine Calls.mono (rlast_any bb ob nb cb db T _ hn hn2 (HL.out _ (by (repeat (first | with_reducible exact Below.refl _ _ | with_reducible assumption | with_reducible refine Below.alloc ?_ (by first | (simp; done) | (simp; omega) | omega) _ | with_reducible refine Below.setCell ?_ (by first | (simp; done) | (simp; omega) | omega) _ | with_reducible refine Below.drew ?_ | with_reducible refine below_drewN ?_ _))))) ?_); rintro e w1 ⟨rfl, o1, rfl⟩) | (go_at_call 28; (with_reducible refine Calls.mono (HY.out _ (show Below w.heap.size w _ by (repeat (first | with_reducible exact Below.refl _ _ | with_reducible assumption | with_reducible refine Below.alloc ?_ (by first | (simp; done) | (simp; omega) | omega) _ | with_reducible refine Below.setCell ?_ (by first | (simp; done) | (simp; omega) | omega) _ | with_reducible refine Below.drew ?_ | with_reducible refine below_drewN ?_ _)))) ?_); rintro e w2 ⟨rfl, hb2⟩; have B2 := Lib.hid (thenB (show Below w.heap.size w _ by (repeat (first | with_reducible exact Below.refl _ _ | with_reducible assumption | with_reducible refine Below.alloc ?_ (by first | (simp; done) | (simp; omega) | omega) _ | with_reducible refine Below.setCell ?_ (by first | (simp; done) | (simp; omega) | omega) _ | with_reducible refine Below.drew ?_ | with_reducible refine below_drewN ?_ _))) hb2); go_must (have a0 := keep hb2 (b := w.heap.size) (o := 0) (v := .slice (some ⟨ba, oa, none⟩) na ca) (by simp [go_sem, *])); go_must (have a1 := keep hb2 (b := w.heap.size) (o := 1) (v := .int .i64 da) (by simp [go_sem, *])); go_must (have b0 := keep hb2 (b := w.heap.size + 1) (o := 0) (v := .slice (some ⟨bb, ob, none⟩) nb cb) (by simp [go_sem, *])); go_must (have b1 := keep hb2 (b := w.heap.size + 1) (o := 1) (v := .int .i64 db) (by simp [go_sem, *])); go_must (have r0 := keep hb2 (b := w.heap.size + 1 + 1) (o := 0) (v := .int .i64 0) (by simp [go_sem, *])); go_must (have r1 := keep hb2 (b := w.heap.size + 1 + 1) (o := 1) (v := .int .i64 0) (by simp [go_sem, *])); go_must (have q0 := (hb2.frozen (p := ⟨w.heap.size + 1 + 1, 0, none⟩) (by first | (simp; done) | (simp; omega) | omega)).trans (show _ = false by simp [go_sem, *])); go_must (have q1 := (hb2.frozen (p := ⟨w.heap.size + 1 + 1, 1, none⟩) (by first | (simp; done) | (simp; omega) | omega)).trans (show _ = false by simp [go_sem, *])); have sz2 := lt_of r0; clear hb2) | fail)
  all_goals
    go_wp2_with (go_at_call 27; (with_reducible refine Calls.mono (rlast_any bb ob nb cb db T _ hn hn2 (HL.out _ (by have Bq := B2.out; have Bz := Bq.size; (repeat (first | with_reducible exact Below.refl _ _ | with_reducible assumption | with_reducible refine Below.alloc ?_ (by first | (simp; done) | (simp; omega) | omega) _ | with_reducible refine Below.setCell ?_ (by first | (simp; done) | (simp; omega) | omega) _ | with_reducible refine Below.drew ?_ | with_reducible refine below_drewN ?_ _))))) ?_); rintro e w1 ⟨rfl, o1, rfl⟩)
    have hRX : RX w (some ⟨ba, oa, none⟩) (some ⟨bb, ob, none⟩) na ca nb cb da db w2 := ⟨B2.out, ⟨a0, a1⟩, ⟨b0, b1⟩, ⟨r0, r1⟩, ⟨q0, q1⟩⟩
    clear a0 a1 b0 b1 r0 r1 q0 q1
    go_loopw [8, 9] (fun s8 s9 wr => ∃ lo hi : Int, s8 = .int .i64 lo ∧ s9 = .int .i64 hi ∧ s ≤ lo ∧ lo ≤ hi ∧ hi ≤ T ∧ RX w (some ⟨ba, oa, none⟩) (some ⟨bb, ob, none⟩) na ca nb cb da db wr ∧ Hid ((lo = s ∨ fA (lo - 1) = false) ∧ fA hi = true)) (fun s8 s9 _ => (intOf s9 - intOf s8).toNat)
    case atStart => exact ⟨s, T, rfl, rfl, Int.le_refl _, sT, Int.le_refl _, hRX.to (show Below w2.heap.size w2 _ by (repeat (first | with_reducible exact Below.refl _ _ | with_reducible assumption | with_reducible refine Below.alloc ?_ (by first | (simp; done) | (simp; omega) | omega) _ | with_reducible refine Below.setCell ?_ (by first | (simp; done) | (simp; omega) | omega) _ | with_reducible refine Below.drew ?_ | with_reducible refine below_drewN ?_ _))), ⟨.inl rfl, HT.out⟩⟩
    case round =>
      clear hRX
      obtain ⟨lo, hi, rfl, rfl, l1, l2, l3, hrx, I⟩ := hrel
      by_cases hlt : lo < hi
      · have HX := Lib.hid hrx
        obtain ⟨p, ⟨a0, a1⟩, ⟨b0, b1⟩, ⟨r0, r1⟩, ⟨q0, q1⟩⟩ := hrx
        have hc := HA.out wr ((lo + hi) / 2) p (by omega) (by omega)
        clear p
        cases hp : fA ((lo + hi) / 2) <;> rw [hp] at hc <;> have HP := Lib.hid hp <;> clear hp
        · go_wp2_with (go_at_call 28; (with_reducible refine Calls.mono hc ?_); rintro e w3 ⟨rfl, hb3⟩)
          go_roundw
          case rel => exact ⟨(lo + hi) / 2 + 1, hi, rfl, rfl, by omega, by omega, l3, HX.out.to hb3, ⟨.inr (by rw [Int.add_sub_cancel]; exact HP.out), I.out.2⟩⟩
          case measure => simp [intOf]; omega
        · go_wp2_with (go_at_call 28; (with_reducible refine Calls.mono hc ?_); rintro e w3 ⟨rfl, hb3⟩)
          go_roundw
          case rel => exact ⟨lo, (lo + hi) / 2, rfl, rfl, l1, by omega, by omega, HX.out.to hb3, ⟨I.out.1, HP.out⟩⟩
          case measure => simp [intOf]; omega
      · obtain rfl : hi = lo := by omega
        obtain rfl : hi = Hi := HHI.out hi l1 l3 I.out.1 I.out.2
        obtain ⟨wo, rfl⟩ : ∃ wo : World, wo = wr := ⟨_, rfl⟩
        have HX := Lib.hid hrx
        obtain ⟨p, ⟨a0, a1⟩, ⟨b0, b1⟩, ⟨r0, r1⟩, ⟨q0, q1⟩⟩ := hrx
        have pz := p.size
        have HPp := Lib.hid p
        have sr := lt_of r0
        clear p
        go_wp2_with fail
        go_loopw [12] (fun s12 wr => ∃ L t : Int, s12 = .int .i64 t ∧ s ≤ L ∧ L ≤ t ∧ t ≤ hi ∧ RX w (some ⟨ba, oa, none⟩) (some ⟨bb, ob, none⟩) na ca nb cb da db wr ∧ (wo.heap.size < wr.heap.size ∧ wr.cell? ⟨wo.heap.size, 0, none⟩ = some (.int .i64 L) ∧ wr.cell? ⟨wo.heap.size, 1, none⟩ = some (.int .i64 hi) ∧ wr.frozen? ⟨wo.heap.size, 0, none⟩ = false) ∧ Hid ((L = s ∨ fW L = true) ∧ (t = hi ∨ fW (t + 1) = false))) (fun s12 wr => (intOf s12 - intOf ((wr.cell? ⟨wo.heap.size, 0, none⟩).getD (.int .i64 0))).toNat)
        case atStart => exact ⟨s, hi, rfl, Int.le_refl _, l1, Int.le_refl _, HX.out.to (show Below wo.heap.size wo _ by (repeat (first | with_reducible exact Below.refl _ _ | with_reducible assumption | with_reducible refine Below.alloc ?_ (by first | (simp; done) | (simp; omega) | omega) _ | with_reducible refine Below.setCell ?_ (by first | (simp; done) | (simp; omega) | omega) _ | with_reducible refine Below.drew ?_ | with_reducible refine below_drewN ?_ _))), ⟨by simp, by simp [go_sem, *], by simp [go_sem, *], by simp [go_sem, *]⟩, ⟨.inl rfl, .inl rfl⟩⟩
        case round =>
          clear a0 a1 b0 b1 r0 r1 q0 q1
          obtain ⟨L, t, rfl, m1, m2, m3, hrx, ⟨d0, d1, d2, d3⟩, J⟩ := hrel
          have HX2 := Lib.hid hrx
          obtain ⟨p, ⟨a0, a1⟩, ⟨b0, b1⟩, ⟨r0, r1⟩, ⟨q0, q1⟩⟩ := hrx
          by_cases hlt2 : L < t
          · have hc := HW.out wr ((L + t + 1) / 2) p (by omega) (by omega)
            have HPq := Lib.hid p
            clear p
            cases hp : fW ((L + t + 1) / 2) <;> rw [hp] at hc <;> have HP := Lib.hid hp <;> clear hp
            · go_wp2_with (go_at_call 29; (with_reducible refine Calls.mono hc ?_); rintro e w3 ⟨rfl, hb3⟩)
              go_roundw
              case rel => exact ⟨L, (L + t + 1) / 2 - 1, rfl, m1, by omega, by omega, HX2.out.to hb3, ⟨Nat.lt_of_lt_of_le d0 hb3.size, keep hb3 d1, keep hb3 d2, (hb3.frozen (p := ⟨wo.heap.size, 0, none⟩) d0).trans d3⟩, ⟨J.out.1, .inr (by rw [Int.sub_add_cancel]; exact HP.out)⟩⟩
              case measure => rw [keep hb3 d1, d1]; simp [intOf]; omega
            · go_wp2_with (go_at_call 29; (with_reducible refine Calls.mono hc ?_); rintro e w3 ⟨rfl, hb3⟩; have e0 := keep hb3 d1; have e2 := keep hb3 d2; have e3 := (hb3.frozen (p := ⟨wo.heap.size, 0, none⟩) d0).trans d3; have ez := Nat.lt_of_lt_of_le d0 hb3.size; have HB3 := Lib.hid hb3; clear hb3)
              go_roundw
              case rel => exact ⟨(L + t + 1) / 2, t, rfl, by omega, by omega, m3, (HX2.out.to HB3.out).set (by omega) ez, ⟨by simpa [World.setCell] using ez, by simp [go_sem, *], by simp [go_sem, *], by simp [go_sem, *]⟩, ⟨.inr HP.out, J.out.2⟩⟩
              case measure => rw [d1]; simp [go_sem, intOf, *]; omega
          · obtain rfl : t = L := by omega
            obtain rfl : t = Lo := HLO.out t m1 m3 J.out.1 J.out.2
            have HPq := Lib.hid p
            clear p
            go_wp2_with fail
            refine bodyPost_ret (v := .tuple #[.agg #[.int .i64 t, .int .i64 hi], .bool true]) (by simp [results, Tryz.results22, go_sem, *]) rfl ⟨rfl, ?_⟩
            have Bq := HPq.out
            (repeat (first | with_reducible exact Below.refl _ _ | with_reducible assumption | with_reducible refine Below.alloc ?_ (by first | (simp; done) | (simp; omega) | omega) _ | with_reducible refine Below.setCell ?_ (by first | (simp; done) | (simp; omega) | omega) _ | with_reducible refine Below.drew ?_ | with_reducible refine below_drewN ?_ _))
end Go.Proofs.YtnfoagcpgegldaaGreat
