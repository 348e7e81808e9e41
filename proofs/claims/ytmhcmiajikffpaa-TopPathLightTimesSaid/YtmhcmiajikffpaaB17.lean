/- Helpers: RoundTrip, by three calls of ReceivedAt. -/
import Derived.Test.YtmhcmiajikffpaaB16
import Derived.Test.YtmhcmiajikffpaaB15
import Derived.Test.YtmhcmiajikffpaaB07
namespace Go.Proofs.Ytmhcmiajikffpaa
open Go.RowKit Go.Shelf Go.Sort
attribute [local go_sem] idx3_0 idx3_1 idx3_2 old1 fro1 old2 fro2 old3 fro3 old4 fro4 old5 fro5 old6 fro6 old7 fro7 old8 fro8 old9 fro9 old10 fro10 old11 fro11 old12 fro12
set_option maxRecDepth 100000 in
set_option maxHeartbeats 4000000 in
theorem trip_1 (sa sb : Option Addr) (na ca nb cb : Nat) (da db s E1 L1 U1 : Int) (w : World)
    (h1 : ∀ W, Below w.heap.size w W → Calls Try.prog 30 #[.agg #[.slice sa na ca, .int .i64 da], .agg #[.slice sb nb cb, .int .i64 db], .int .i64 s] W fun e w' => e = .returned (.tuple #[.agg #[.int .i64 L1, .int .i64 U1], .int .i64 E1]) ∧ Below W.heap.size W w')
    (hE : (E1 != 0) = true) :
    Calls Try.prog 31 #[.agg #[.slice sa na ca, .int .i64 da], .agg #[.slice sb nb cb, .int .i64 db], .int .i64 s] w fun e w' => e = .returned (.tuple #[.agg #[.int .i64 0, .int .i64 0], .int .i64 E1]) ∧ Below w.heap.size w w' := by
  have H1 := Lib.hid h1
  clear h1
  go_enter Try.func31, Try.ntmps31
  go_wp2_with (first
    | (go_at_call 30; (with_reducible refine Calls.mono (H1.out _ (show Below w.heap.size w _ by (repeat (first | with_reducible exact Below.refl _ _ | with_reducible assumption | with_reducible refine Below.alloc ?_ (by first | (simp; done) | (simp; omega) | omega) _ | with_reducible refine Below.setCell ?_ (by first | (simp; done) | (simp; omega) | omega) _ | with_reducible refine Below.drew ?_ | with_reducible refine below_drewN ?_ _)))) ?_); rintro e w1 ⟨rfl, hb1⟩; have B1 := Lib.hid (thenB (show Below w.heap.size w _ by (repeat (first | with_reducible exact Below.refl _ _ | with_reducible assumption | with_reducible refine Below.alloc ?_ (by first | (simp; done) | (simp; omega) | omega) _ | with_reducible refine Below.setCell ?_ (by first | (simp; done) | (simp; omega) | omega) _ | with_reducible refine Below.drew ?_ | with_reducible refine below_drewN ?_ _))) hb1); go_must (have a0_1 := keep hb1 (b := w.heap.size) (o := 0) (v := .slice sa na ca) (by simp [go_sem, *])); go_must (have a1_1 := keep hb1 (b := w.heap.size) (o := 1) (v := .int .i64 da) (by simp [go_sem, *])); go_must (have b0_1 := keep hb1 (b := w.heap.size + 1) (o := 0) (v := .slice sb nb cb) (by simp [go_sem, *])); go_must (have b1_1 := keep hb1 (b := w.heap.size + 1) (o := 1) (v := .int .i64 db) (by simp [go_sem, *])); go_must (have r0_1 := keep hb1 (b := w.heap.size + 1 + 1) (o := 0) (v := .int .i64 0) (by simp [go_sem, *])); go_must (have r1_1 := keep hb1 (b := w.heap.size + 1 + 1) (o := 1) (v := .int .i64 0) (by simp [go_sem, *])); go_must (have q0_1 := (hb1.frozen (p := ⟨w.heap.size + 1 + 1, 0, none⟩) (by first | (simp; done) | (simp; omega) | omega)).trans (show _ = false by simp [go_sem, *])); go_must (have q1_1 := (hb1.frozen (p := ⟨w.heap.size + 1 + 1, 1, none⟩) (by first | (simp; done) | (simp; omega) | omega)).trans (show _ = false by simp [go_sem, *])); have z1 := lt_of r0_1; clear hb1)
    | fail)
  refine bodyPost_ret (v := .tuple #[.agg #[.int .i64 0, .int .i64 0], .int .i64 E1]) (by simp [results, Try.results31, go_sem, *]) rfl ⟨rfl, ?_⟩
  have Bq := B1.out
  have Bz := Bq.size
  (repeat (first | with_reducible exact Below.refl _ _ | with_reducible assumption | with_reducible refine Below.alloc ?_ (by first | (simp; done) | (simp; omega) | omega) _ | with_reducible refine Below.setCell ?_ (by first | (simp; done) | (simp; omega) | omega) _ | with_reducible refine Below.drew ?_ | with_reducible refine below_drewN ?_ _))
set_option maxRecDepth 100000 in
set_option maxHeartbeats 4000000 in
theorem trip_2 (sa sb : Option Addr) (na ca nb cb : Nat) (da db s E2 L1 U1 L2 U2 : Int) (w : World)
    (h1 : ∀ W, Below w.heap.size w W → Calls Try.prog 30 #[.agg #[.slice sa na ca, .int .i64 da], .agg #[.slice sb nb cb, .int .i64 db], .int .i64 s] W fun e w' => e = .returned (.tuple #[.agg #[.int .i64 L1, .int .i64 U1], .int .i64 0]) ∧ Below W.heap.size W w')
    (h2 : ∀ W, Below w.heap.size w W → Calls Try.prog 30 #[.agg #[.slice sb nb cb, .int .i64 db], .agg #[.slice sa na ca, .int .i64 da], .int .i64 L1] W fun e w' => e = .returned (.tuple #[.agg #[.int .i64 L2, .int .i64 U2], .int .i64 E2]) ∧ Below W.heap.size W w')
    (hE : (E2 != 0) = true) :
    Calls Try.prog 31 #[.agg #[.slice sa na ca, .int .i64 da], .agg #[.slice sb nb cb, .int .i64 db], .int .i64 s] w fun e w' => e = .returned (.tuple #[.agg #[.int .i64 0, .int .i64 0], .int .i64 E2]) ∧ Below w.heap.size w w' := by
  have H1 := Lib.hid h1
  have H2 := Lib.hid h2
  clear h1 h2
  go_enter Try.func31, Try.ntmps31
  go_wp2_with (first
    | (go_at_call 30; (with_reducible refine Calls.mono (H1.out _ (show Below w.heap.size w _ by (repeat (first | with_reducible exact Below.refl _ _ | with_reducible assumption | with_reducible refine Below.alloc ?_ (by first | (simp; done) | (simp; omega) | omega) _ | with_reducible refine Below.setCell ?_ (by first | (simp; done) | (simp; omega) | omega) _ | with_reducible refine Below.drew ?_ | with_reducible refine below_drewN ?_ _)))) ?_); rintro e w1 ⟨rfl, hb1⟩; have B1 := Lib.hid (thenB (show Below w.heap.size w _ by (repeat (first | with_reducible exact Below.refl _ _ | with_reducible assumption | with_reducible refine Below.alloc ?_ (by first | (simp; done) | (simp; omega) | omega) _ | with_reducible refine Below.setCell ?_ (by first | (simp; done) | (simp; omega) | omega) _ | with_reducible refine Below.drew ?_ | with_reducible refine below_drewN ?_ _))) hb1); go_must (have a0_1 := keep hb1 (b := w.heap.size) (o := 0) (v := .slice sa na ca) (by simp [go_sem, *])); go_must (have a1_1 := keep hb1 (b := w.heap.size) (o := 1) (v := .int .i64 da) (by simp [go_sem, *])); go_must (have b0_1 := keep hb1 (b := w.heap.size + 1) (o := 0) (v := .slice sb nb cb) (by simp [go_sem, *])); go_must (have b1_1 := keep hb1 (b := w.heap.size + 1) (o := 1) (v := .int .i64 db) (by simp [go_sem, *])); go_must (have r0_1 := keep hb1 (b := w.heap.size + 1 + 1) (o := 0) (v := .int .i64 0) (by simp [go_sem, *])); go_must (have r1_1 := keep hb1 (b := w.heap.size + 1 + 1) (o := 1) (v := .int .i64 0) (by simp [go_sem, *])); go_must (have q0_1 := (hb1.frozen (p := ⟨w.heap.size + 1 + 1, 0, none⟩) (by first | (simp; done) | (simp; omega) | omega)).trans (show _ = false by simp [go_sem, *])); go_must (have q1_1 := (hb1.frozen (p := ⟨w.heap.size + 1 + 1, 1, none⟩) (by first | (simp; done) | (simp; omega) | omega)).trans (show _ = false by simp [go_sem, *])); have z1 := lt_of r0_1; clear hb1)
    | (go_at_call 30; (with_reducible refine Calls.mono (H2.out _ (show Below w.heap.size w _ by have Bq := B1.out; have Bz := Bq.size; (repeat (first | with_reducible exact Below.refl _ _ | with_reducible assumption | with_reducible refine Below.alloc ?_ (by first | (simp; done) | (simp; omega) | omega) _ | with_reducible refine Below.setCell ?_ (by first | (simp; done) | (simp; omega) | omega) _ | with_reducible refine Below.drew ?_ | with_reducible refine below_drewN ?_ _)))) ?_); rintro e w2 ⟨rfl, hb2⟩; have B2 := Lib.hid (thenB (show Below w.heap.size w _ by have Bq := B1.out; have Bz := Bq.size; (repeat (first | with_reducible exact Below.refl _ _ | with_reducible assumption | with_reducible refine Below.alloc ?_ (by first | (simp; done) | (simp; omega) | omega) _ | with_reducible refine Below.setCell ?_ (by first | (simp; done) | (simp; omega) | omega) _ | with_reducible refine Below.drew ?_ | with_reducible refine below_drewN ?_ _))) hb2); go_must (have a0_2 := keep hb2 (b := w.heap.size) (o := 0) (v := .slice sa na ca) (by simp [go_sem, *])); go_must (have a1_2 := keep hb2 (b := w.heap.size) (o := 1) (v := .int .i64 da) (by simp [go_sem, *])); go_must (have b0_2 := keep hb2 (b := w.heap.size + 1) (o := 0) (v := .slice sb nb cb) (by simp [go_sem, *])); go_must (have b1_2 := keep hb2 (b := w.heap.size + 1) (o := 1) (v := .int .i64 db) (by simp [go_sem, *])); go_must (have r0_2 := keep hb2 (b := w.heap.size + 1 + 1) (o := 0) (v := .int .i64 0) (by simp [go_sem, *])); go_must (have r1_2 := keep hb2 (b := w.heap.size + 1 + 1) (o := 1) (v := .int .i64 0) (by simp [go_sem, *])); go_must (have x0_2 := keep hb2 (b := w1.heap.size) (o := 0) (v := .int .i64 L1) (by simp [go_sem, *])); go_must (have x1_2 := keep hb2 (b := w1.heap.size) (o := 1) (v := .int .i64 U1) (by simp [go_sem, *])); go_must (have q0_2 := (hb2.frozen (p := ⟨w.heap.size + 1 + 1, 0, none⟩) (by first | (simp; done) | (simp; omega) | omega)).trans (show _ = false by simp [go_sem, *])); go_must (have q1_2 := (hb2.frozen (p := ⟨w.heap.size + 1 + 1, 1, none⟩) (by first | (simp; done) | (simp; omega) | omega)).trans (show _ = false by simp [go_sem, *])); have z2 := lt_of r0_2; clear hb2)
    | fail)
  refine bodyPost_ret (v := .tuple #[.agg #[.int .i64 0, .int .i64 0], .int .i64 E2]) (by simp [results, Try.results31, go_sem, *]) rfl ⟨rfl, ?_⟩
  have Bq := B2.out
  have Bz := Bq.size
  (repeat (first | with_reducible exact Below.refl _ _ | with_reducible assumption | with_reducible refine Below.alloc ?_ (by first | (simp; done) | (simp; omega) | omega) _ | with_reducible refine Below.setCell ?_ (by first | (simp; done) | (simp; omega) | omega) _ | with_reducible refine Below.drew ?_ | with_reducible refine below_drewN ?_ _))
set_option maxRecDepth 100000 in
set_option maxHeartbeats 4000000 in
theorem trip_3 (sa sb : Option Addr) (na ca nb cb : Nat) (da db s E3 L1 U1 L2 U2 L3 U3 : Int) (w : World)
    (h1 : ∀ W, Below w.heap.size w W → Calls Try.prog 30 #[.agg #[.slice sa na ca, .int .i64 da], .agg #[.slice sb nb cb, .int .i64 db], .int .i64 s] W fun e w' => e = .returned (.tuple #[.agg #[.int .i64 L1, .int .i64 U1], .int .i64 0]) ∧ Below W.heap.size W w')
    (h2 : ∀ W, Below w.heap.size w W → Calls Try.prog 30 #[.agg #[.slice sb nb cb, .int .i64 db], .agg #[.slice sa na ca, .int .i64 da], .int .i64 L1] W fun e w' => e = .returned (.tuple #[.agg #[.int .i64 L2, .int .i64 U2], .int .i64 0]) ∧ Below W.heap.size W w')
    (h3 : ∀ W, Below w.heap.size w W → Calls Try.prog 30 #[.agg #[.slice sb nb cb, .int .i64 db], .agg #[.slice sa na ca, .int .i64 da], .int .i64 U1] W fun e w' => e = .returned (.tuple #[.agg #[.int .i64 L3, .int .i64 U3], .int .i64 E3]) ∧ Below W.heap.size W w')
    (hE : (E3 != 0) = true) :
    Calls Try.prog 31 #[.agg #[.slice sa na ca, .int .i64 da], .agg #[.slice sb nb cb, .int .i64 db], .int .i64 s] w fun e w' => e = .returned (.tuple #[.agg #[.int .i64 0, .int .i64 0], .int .i64 E3]) ∧ Below w.heap.size w w' := by
  have H1 := Lib.hid h1
  have H2 := Lib.hid h2
  have H3 := Lib.hid h3
  clear h1 h2 h3
  go_enter Try.func31, Try.ntmps31
  go_wp2_with (first
    | (go_at_call 30; (with_reducible refine Calls.mono (H1.out _ (show Below w.heap.size w _ by (repeat (first | with_reducible exact Below.refl _ _ | with_reducible assumption | with_reducible refine Below.alloc ?_ (by first | (simp; done) | (simp; omega) | omega) _ | with_reducible refine Below.setCell ?_ (by first | (simp; done) | (simp; omega) | omega) _ | with_reducible refine Below.drew ?_ | with_reducible refine below_drewN ?_ _)))) ?_); rintro e w1 ⟨rfl, hb1⟩; have B1 := Lib.hid (thenB (show Below w.heap.size w _ by (repeat (first | with_reducible exact Below.refl _ _ | with_reducible assumption | with_reducible refine Below.alloc ?_ (by first | (simp; done) | (simp; omega) | omega) _ | with_reducible refine Below.setCell ?_ (by first | (simp; done) | (simp; omega) | omega) _ | with_reducible refine Below.drew ?_ | with_reducible refine below_drewN ?_ _))) hb1); go_must (have a0_1 := keep hb1 (b := w.heap.size) (o := 0) (v := .slice sa na ca) (by simp [go_sem, *])); go_must (have a1_1 := keep hb1 (b := w.heap.size) (o := 1) (v := .int .i64 da) (by simp [go_sem, *])); go_must (have b0_1 := keep hb1 (b := w.heap.size + 1) (o := 0) (v := .slice sb nb cb) (by simp [go_sem, *])); go_must (have b1_1 := keep hb1 (b := w.heap.size + 1) (o := 1) (v := .int .i64 db) (by simp [go_sem, *])); go_must (have r0_1 := keep hb1 (b := w.heap.size + 1 + 1) (o := 0) (v := .int .i64 0) (by simp [go_sem, *])); go_must (have r1_1 := keep hb1 (b := w.heap.size + 1 + 1) (o := 1) (v := .int .i64 0) (by simp [go_sem, *])); go_must (have q0_1 := (hb1.frozen (p := ⟨w.heap.size + 1 + 1, 0, none⟩) (by first | (simp; done) | (simp; omega) | omega)).trans (show _ = false by simp [go_sem, *])); go_must (have q1_1 := (hb1.frozen (p := ⟨w.heap.size + 1 + 1, 1, none⟩) (by first | (simp; done) | (simp; omega) | omega)).trans (show _ = false by simp [go_sem, *])); have z1 := lt_of r0_1; clear hb1)
    | (go_at_call 30; (with_reducible refine Calls.mono (H2.out _ (show Below w.heap.size w _ by have Bq := B1.out; have Bz := Bq.size; (repeat (first | with_reducible exact Below.refl _ _ | with_reducible assumption | with_reducible refine Below.alloc ?_ (by first | (simp; done) | (simp; omega) | omega) _ | with_reducible refine Below.setCell ?_ (by first | (simp; done) | (simp; omega) | omega) _ | with_reducible refine Below.drew ?_ | with_reducible refine below_drewN ?_ _)))) ?_); rintro e w2 ⟨rfl, hb2⟩; have B2 := Lib.hid (thenB (show Below w.heap.size w _ by have Bq := B1.out; have Bz := Bq.size; (repeat (first | with_reducible exact Below.refl _ _ | with_reducible assumption | with_reducible refine Below.alloc ?_ (by first | (simp; done) | (simp; omega) | omega) _ | with_reducible refine Below.setCell ?_ (by first | (simp; done) | (simp; omega) | omega) _ | with_reducible refine Below.drew ?_ | with_reducible refine below_drewN ?_ _))) hb2); go_must (have a0_2 := keep hb2 (b := w.heap.size) (o := 0) (v := .slice sa na ca) (by simp [go_sem, *])); go_must (have a1_2 := keep hb2 (b := w.heap.size) (o := 1) (v := .int .i64 da) (by simp [go_sem, *])); go_must (have b0_2 := keep hb2 (b := w.heap.size + 1) (o := 0) (v := .slice sb nb cb) (by simp [go_sem, *])); go_must (have b1_2 := keep hb2 (b := w.heap.size + 1) (o := 1) (v := .int .i64 db) (by simp [go_sem, *])); go_must (have r0_2 := keep hb2 (b := w.heap.size + 1 + 1) (o := 0) (v := .int .i64 0) (by simp [go_sem, *])); go_must (have r1_2 := keep hb2 (b := w.heap.size + 1 + 1) (o := 1) (v := .int .i64 0) (by simp [go_sem, *])); go_must (have x0_2 := keep hb2 (b := w1.heap.size) (o := 0) (v := .int .i64 L1) (by simp [go_sem, *])); go_must (have x1_2 := keep hb2 (b := w1.heap.size) (o := 1) (v := .int .i64 U1) (by simp [go_sem, *])); go_must (have q0_2 := (hb2.frozen (p := ⟨w.heap.size + 1 + 1, 0, none⟩) (by first | (simp; done) | (simp; omega) | omega)).trans (show _ = false by simp [go_sem, *])); go_must (have q1_2 := (hb2.frozen (p := ⟨w.heap.size + 1 + 1, 1, none⟩) (by first | (simp; done) | (simp; omega) | omega)).trans (show _ = false by simp [go_sem, *])); have z2 := lt_of r0_2; clear hb2)
    | (go_at_call 30; (with_reducible refine Calls.mono (H3.out _ (show Below w.heap.size w _ by have Bq := B2.out; have Bz := Bq.size; (repeat (first | with_reducible exact Below.refl _ _ | with_reducible assumption | with_reducible refine Below.alloc ?_ (by first | (simp; done) | (simp; omega) | omega) _ | with_reducible refine Below.setCell ?_ (by first | (simp; done) | (simp; omega) | omega) _ | with_reducible refine Below.drew ?_ | with_reducible refine below_drewN ?_ _)))) ?_); rintro e w3 ⟨rfl, hb3⟩; have B3 := Lib.hid (thenB (show Below w.heap.size w _ by have Bq := B2.out; have Bz := Bq.size; (repeat (first | with_reducible exact Below.refl _ _ | with_reducible assumption | with_reducible refine Below.alloc ?_ (by first | (simp; done) | (simp; omega) | omega) _ | with_reducible refine Below.setCell ?_ (by first | (simp; done) | (simp; omega) | omega) _ | with_reducible refine Below.drew ?_ | with_reducible refine below_drewN ?_ _))) hb3); go_must (have a0_3 := keep hb3 (b := w.heap.size) (o := 0) (v := .slice sa na ca) (by simp [go_sem, *])); go_must (have a1_3 := keep hb3 (b := w.heap.size) (o := 1) (v := .int .i64 da) (by simp [go_sem, *])); go_must (have b0_3 := keep hb3 (b := w.heap.size + 1) (o := 0) (v := .slice sb nb cb) (by simp [go_sem, *])); go_must (have b1_3 := keep hb3 (b := w.heap.size + 1) (o := 1) (v := .int .i64 db) (by simp [go_sem, *])); go_must (have r0_3 := keep hb3 (b := w.heap.size + 1 + 1) (o := 0) (v := .int .i64 0) (by simp [go_sem, *])); go_must (have r1_3 := keep hb3 (b := w.heap.size + 1 + 1) (o := 1) (v := .int .i64 0) (by simp [go_sem, *])); go_must (have x0_3 := keep hb3 (b := w1.heap.size) (o := 0) (v := .int .i64 L1) (by simp [go_sem, *])); go_must (have x1_3 := keep hb3 (b := w1.heap.size) (o := 1) (v := .int .i64 U1) (by simp [go_sem, *])); go_must (have y0_3 := keep hb3 (b := w2.heap.size) (o := 0) (v := .int .i64 L2) (by simp [go_sem, *])); go_must (have y1_3 := keep hb3 (b := w2.heap.size) (o := 1) (v := .int .i64 U2) (by simp [go_sem, *])); go_must (have q0_3 := (hb3.frozen (p := ⟨w.heap.size + 1 + 1, 0, none⟩) (by first | (simp; done) | (simp; omega) | omega)).trans (show _ = false by simp [go_sem, *])); go_must (have q1_3 := (hb3.frozen (p := ⟨w.heap.size + 1 + 1, 1, none⟩) (by first | (simp; done) | (simp; omega) | omega)).trans (show _ = false by simp [go_sem, *])); have z3 := lt_of r0_3; clear hb3)
    | fail)
  refine bodyPost_ret (v := .tuple #[.agg #[.int .i64 0, .int .i64 0], .int .i64 E3]) (by simp [results, Try.results31, go_sem, *]) rfl ⟨rfl, ?_⟩
  have Bq := B3.out
  have Bz := Bq.size
  (repeat (first | with_reducible exact Below.refl _ _ | with_reducible assumption | with_reducible refine Below.alloc ?_ (by first | (simp; done) | (simp; omega) | omega) _ | with_reducible refine Below.setCell ?_ (by first | (simp; done) | (simp; omega) | omega) _ | with_reducible refine Below.drew ?_ | with_reducible refine below_drewN ?_ _))
set_option maxRecDepth 100000 in
set_option maxHeartbeats 4000000 in
theorem trip_4 (sa sb : Option Addr) (na ca nb cb : Nat) (da db s  L1 U1 L2 U2 L3 U3 : Int) (w : World)
    (h1 : ∀ W, Below w.heap.size w W → Calls Try.prog 30 #[.agg #[.slice sa na ca, .int .i64 da], .agg #[.slice sb nb cb, .int .i64 db], .int .i64 s] W fun e w' => e = .returned (.tuple #[.agg #[.int .i64 L1, .int .i64 U1], .int .i64 0]) ∧ Below W.heap.size W w')
    (h2 : ∀ W, Below w.heap.size w W → Calls Try.prog 30 #[.agg #[.slice sb nb cb, .int .i64 db], .agg #[.slice sa na ca, .int .i64 da], .int .i64 L1] W fun e w' => e = .returned (.tuple #[.agg #[.int .i64 L2, .int .i64 U2], .int .i64 0]) ∧ Below W.heap.size W w')
    (h3 : ∀ W, Below w.heap.size w W → Calls Try.prog 30 #[.agg #[.slice sb nb cb, .int .i64 db], .agg #[.slice sa na ca, .int .i64 da], .int .i64 U1] W fun e w' => e = .returned (.tuple #[.agg #[.int .i64 L3, .int .i64 U3], .int .i64 0]) ∧ Below W.heap.size W w') :
    Calls Try.prog 31 #[.agg #[.slice sa na ca, .int .i64 da], .agg #[.slice sb nb cb, .int .i64 db], .int .i64 s] w fun e w' => e = .returned (.tuple #[.agg #[.int .i64 L2, .int .i64 U3], .int .i64 0]) ∧ Below w.heap.size w w' := by
  have H1 := Lib.hid h1
  have H2 := Lib.hid h2
  have H3 := Lib.hid h3
  clear h1 h2 h3
  go_enter Try.func31, Try.ntmps31
  go_wp2_with (first
    | (go_at_call 30; (with_reducible refine Calls.mono (H1.out _ (show Below w.heap.size w _ by (repeat (first | with_reducible exact Below.refl _ _ | with_reducible assumption | with_reducible refine Below.alloc ?_ (by first | (simp; done) | (simp; omega) | omega) _ | with_reducible refine Below.setCell ?_ (by first | (simp; done) | (simp; omega) | omega) _ | with_reducible refine Below.drew ?_ | with_reducible refine below_drewN ?_ _)))) ?_); rintro e w1 ⟨rfl, hb1⟩; have B1 := Lib.hid (thenB (show Below w.heap.size w _ by (repeat (first | with_reducible exact Below.refl _ _ | with_reducible assumption | with_reducible refine Below.alloc ?_ (by first | (simp; done) | (simp; omega) | omega) _ | with_reducible refine Below.setCell ?_ (by first | (simp; done) | (simp; omega) | omega) _ | with_reducible refine Below.drew ?_ | with_reducible refine below_drewN ?_ _))) hb1); go_must (have a0_1 := keep hb1 (b := w.heap.size) (o := 0) (v := .slice sa na ca) (by simp [go_sem, *])); go_must (have a1_1 := keep hb1 (b := w.heap.size) (o := 1) (v := .int .i64 da) (by simp [go_sem, *])); go_must (have b0_1 := keep hb1 (b := w.heap.size + 1) (o := 0) (v := .slice sb nb cb) (by simp [go_sem, *])); go_must (have b1_1 := keep hb1 (b := w.heap.size + 1) (o := 1) (v := .int .i64 db) (by simp [go_sem, *])); go_must (have r0_1 := keep hb1 (b := w.heap.size + 1 + 1) (o := 0) (v := .int .i64 0) (by simp [go_sem, *])); go_must (have r1_1 := keep hb1 (b := w.heap.size + 1 + 1) (o := 1) (v := .int .i64 0) (by simp [go_sem, *])); go_must (have q0_1 := (hb1.frozen (p := ⟨w.heap.size + 1 + 1, 0, none⟩) (by first | (simp; done) | (simp; omega) | omega)).trans (show _ = false by simp [go_sem, *])); go_must (have q1_1 := (hb1.frozen (p := ⟨w.heap.size + 1 + 1, 1, none⟩) (by first | (simp; done) | (simp; omega) | omega)).trans (show _ = false by simp [go_sem, *])); have z1 := lt_of r0_1; clear hb1)
    | (go_at_call 30; (with_reducible refine Calls.mono (H2.out _ (show Below w.heap.size w _ by have Bq := B1.out; have Bz := Bq.size; (repeat (first | with_reducible exact Below.refl _ _ | with_reducible assumption | with_reducible refine Below.alloc ?_ (by first | (simp; done) | (simp; omega) | omega) _ | with_reducible refine Below.setCell ?_ (by first | (simp; done) | (simp; omega) | omega) _ | with_reducible refine Below.drew ?_ | with_reducible refine below_drewN ?_ _)))) ?_); rintro e w2 ⟨rfl, hb2⟩; have B2 := Lib.hid (thenB (show Below w.heap.size w _ by have Bq := B1.out; have Bz := Bq.size; (repeat (first | with_reducible exact Below.refl _ _ | with_reducible assumption | with_reducible refine Below.alloc ?_ (by first | (simp; done) | (simp; omega) | omega) _ | with_reducible refine Below.setCell ?_ (by first | (simp; done) | (simp; omega) | omega) _ | with_reducible refine Below.drew ?_ | with_reducible refine below_drewN ?_ _))) hb2); go_must (have a0_2 := keep hb2 (b := w.heap.size) (o := 0) (v := .slice sa na ca) (by simp [go_sem, *])); go_must (have a1_2 := keep hb2 (b := w.heap.size) (o := 1) (v := .int .i64 da) (by simp [go_sem, *])); go_must (have b0_2 := keep hb2 (b := w.heap.size + 1) (o := 0) (v := .slice sb nb cb) (by simp [go_sem, *])); go_must (have b1_2 := keep hb2 (b := w.heap.size + 1) (o := 1) (v := .int .i64 db) (by simp [go_sem, *])); go_must (have r0_2 := keep hb2 (b := w.heap.size + 1 + 1) (o := 0) (v := .int .i64 0) (by simp [go_sem, *])); go_must (have r1_2 := keep hb2 (b := w.heap.size + 1 + 1) (o := 1) (v := .int .i64 0) (by simp [go_sem, *])); go_must (have x0_2 := keep hb2 (b := w1.heap.size) (o := 0) (v := .int .i64 L1) (by simp [go_sem, *])); go_must (have x1_2 := keep hb2 (b := w1.heap.size) (o := 1) (v := .int .i64 U1) (by simp [go_sem, *])); go_must (have q0_2 := (hb2.frozen (p := ⟨w.heap.size + 1 + 1, 0, none⟩) (by first | (simp; done) | (simp; omega) | omega)).trans (show _ = false by simp [go_sem, *])); go_must (have q1_2 := (hb2.frozen (p := ⟨w.heap.size + 1 + 1, 1, none⟩) (by first | (simp; done) | (simp; omega) | omega)).trans (show _ = false by simp [go_sem, *])); have z2 := lt_of r0_2; clear hb2)
    | (go_at_call 30; (with_reducible refine Calls.mono (H3.out _ (show Below w.heap.size w _ by have Bq := B2.out; have Bz := Bq.size; (repeat (first | with_reducible exact Below.refl _ _ | with_reducible assumption | with_reducible refine Below.alloc ?_ (by first | (simp; done) | (simp; omega) | omega) _ | with_reducible refine Below.setCell ?_ (by first | (simp; done) | (simp; omega) | omega) _ | with_reducible refine Below.drew ?_ | with_reducible refine below_drewN ?_ _)))) ?_); rintro e w3 ⟨rfl, hb3⟩; have B3 := Lib.hid (thenB (show Below w.heap.size w _ by have Bq := B2.out; have Bz := Bq.size; (repeat (first | with_reducible exact Below.refl _ _ | with_reducible assumption | with_reducible refine Below.alloc ?_ (by first | (simp; done) | (simp; omega) | omega) _ | with_reducible refine Below.setCell ?_ (by first | (simp; done) | (simp; omega) | omega) _ | with_reducible refine Below.drew ?_ | with_reducible refine below_drewN ?_ _))) hb3); go_must (have a0_3 := keep hb3 (b := w.heap.size) (o := 0) (v := .slice sa na ca) (by simp [go_sem, *])); go_must (have a1_3 := keep hb3 (b := w.heap.size) (o := 1) (v := .int .i64 da) (by simp [go_sem, *])); go_must (have b0_3 := keep hb3 (b := w.heap.size + 1) (o := 0) (v := .slice sb nb cb) (by simp [go_sem, *])); go_must (have b1_3 := keep hb3 (b := w.heap.size + 1) (o := 1) (v := .int .i64 db) (by simp [go_sem, *])); go_must (have r0_3 := keep hb3 (b := w.heap.size + 1 + 1) (o := 0) (v := .int .i64 0) (by simp [go_sem, *])); go_must (have r1_3 := keep hb3 (b := w.heap.size + 1 + 1) (o := 1) (v := .int .i64 0) (by simp [go_sem, *])); go_must (have x0_3 := keep hb3 (b := w1.heap.size) (o := 0) (v := .int .i64 L1) (by simp [go_sem, *])); go_must (have x1_3 := keep hb3 (b := w1.heap.size) (o := 1) (v := .int .i64 U1) (by simp [go_sem, *])); go_must (have y0_3 := keep hb3 (b := w2.heap.size) (o := 0) (v := .int .i64 L2) (by simp [go_sem, *])); go_must (have y1_3 := keep hb3 (b := w2.heap.size) (o := 1) (v := .int .i64 U2) (by simp [go_sem, *])); go_must (have q0_3 := (hb3.frozen (p := ⟨w.heap.size + 1 + 1, 0, none⟩) (by first | (simp; done) | (simp; omega) | omega)).trans (show _ = false by simp [go_sem, *])); go_must (have q1_3 := (hb3.frozen (p := ⟨w.heap.size + 1 + 1, 1, none⟩) (by first | (simp; done) | (simp; omega) | omega)).trans (show _ = false by simp [go_sem, *])); have z3 := lt_of r0_3; clear hb3)
    | fail)
  refine bodyPost_ret (v := .tuple #[.agg #[.int .i64 L2, .int .i64 U3], .int .i64 0]) (by simp [results, Try.results31, go_sem, *]) rfl ⟨rfl, ?_⟩
  have Bq := B3.out
  have Bz := Bq.size
  (repeat (first | with_reducible exact Below.refl _ _ | with_reducible assumption | with_reducible refine Below.alloc ?_ (by first | (simp; done) | (simp; omega) | omega) _ | with_reducible refine Below.setCell ?_ (by first | (simp; done) | (simp; omega) | omega) _ | with_reducible refine Below.drew ?_ | with_reducible refine below_drewN ?_ _))
def tripE (A B : TV) (s : Int) : Int := if rvE A B s = 0 then (if rvE B A (rvLo A B s) = 0 then rvE B A (rvHi A B s) else rvE B A (rvLo A B s)) else rvE A B s
def tripLo (A B : TV) (s : Int) : Int := if tripE A B s = 0 then rvLo B A (rvLo A B s) else 0
def tripHi (A B : TV) (s : Int) : Int := if tripE A B s = 0 then rvHi B A (rvHi A B s) else 0
/-- RoundTrip, by its numbers. -/
theorem roundTrip_n (A B : TV) (s : Int) (w : World) (hA : A.At w) (hB : B.At w) :
    Calls Try.prog 31 #[.agg #[.slice A.a A.n A.c, .int .i64 A.d], .agg #[.slice B.a B.n B.c, .int .i64 B.d], .int .i64 s] w fun e w' => e = .returned (.tuple #[.agg #[.int .i64 (tripLo A B s), .int .i64 (tripHi A B s)], .int .i64 (tripE A B s)]) ∧ Below w.heap.size w w' := by
  have h1 := fun W (hb : Below w.heap.size w W) => receivedAt_n A B s W (hA.below hb) (hB.below hb)
  have h2 := fun W (hb : Below w.heap.size w W) => receivedAt_n B A (rvLo A B s) W (hB.below hb) (hA.below hb)
  have h3 := fun W (hb : Below w.heap.size w W) => receivedAt_n B A (rvHi A B s) W (hB.below hb) (hA.below hb)
  by_cases e1 : rvE A B s = 0
  · rw [e1] at h1
    by_cases e2 : rvE B A (rvLo A B s) = 0
    · rw [e2] at h2
      have et : tripE A B s = rvE B A (rvHi A B s) := by unfold tripE; rw [if_pos e1, if_pos e2]
      by_cases e3 : rvE B A (rvHi A B s) = 0
      · rw [e3] at h3
        unfold tripLo tripHi
        rw [et, e3, if_pos rfl, if_pos rfl]
        exact trip_4 _ _ _ _ _ _ _ _ _ _ _ _ _ _ _ w h1 h2 h3
      · unfold tripLo tripHi
        rw [et, if_neg e3, if_neg e3]
        exact trip_3 _ _ _ _ _ _ _ _ _ _ _ _ _ _ _ _ w h1 h2 h3 (by simpa using e3)
    · have et : tripE A B s = rvE B A (rvLo A B s) := by unfold tripE; rw [if_pos e1, if_neg e2]
      unfold tripLo tripHi
      rw [et, if_neg e2, if_neg e2]
      exact trip_2 _ _ _ _ _ _ _ _ _ _ _ _ _ _ w h1 h2 (by simpa using e2)
  · have et : tripE A B s = rvE A B s := by unfold tripE; rw [if_neg e1]
    unfold tripLo tripHi
    rw [et, if_neg e1, if_neg e1]
    exact trip_1 _ _ _ _ _ _ _ _ _ _ _ _ w h1 (by simpa using e1)
end Go.Proofs.Ytmhcmiajikffpaa
namespace Go.Proofs.Ytmhcmiajikffpaa
open Go.RowKit Go.Shelf Go.Sort
attribute [local go_sem] idx3_0 idx3_1 idx3_2 old1 fro1 old2 fro2 old3 fro3 old4 fro4 old5 fro5 old6 fro6 old7 fro7 old8 fro8 old9 fro9 old10 fro10 old11 fro11 old12 fro12
def firstT (A : Trk) : Int := (A.k 0).t
def snD (A B : Trk) (r : Int) : Int := fstI (fun s => !arrB A B s r) (firstT A) (r + 1 - firstT A).toNat
def snL (A B : Trk) (r : Int) : Int := fstI (fun s => awayB A B s r) (snD A B r) (r + 1 - snD A B r).toNat
theorem TIn.back {A : Trk} {s r : Int} (h : TIn A r) (h1 : firstT A ≤ s) (h2 : s ≤ r) : TIn A s := ⟨h.1, inside_mk h1 (by have := h.last; unfold lastT at this; omega)⟩
theorem snD_RL {A B : Trk} {r : Int} (hA : TIn A r) : RL (fun s => !arrB A B s r) (firstT A) r (snD A B r) := by
  have := fstI_RL (fun s => !arrB A B s r) (r + 1 - firstT A).toNat (firstT A)
  have h : firstT A ≤ r := hA.first
  rwa [show firstT A + ((r + 1 - firstT A).toNat : Int) - 1 = r by omega] at this
theorem d_same {A B : Trk} {r x : Int} (hA : TIn A r) (hB : TIn B r) (h : RL (fun s => !arrB A B s r) (firstT A) r x) : x = snD A B r :=
  RL_one (fun x y q0 q1 q2 q => by
    rw [Bool.not_eq_true'] at q ⊢
    cases hy : arrB A B y r
    · rfl
    · have := arr_down hB q2 (hA.back q0 (by omega)) (hA.back (by omega) q2) q1 hy
      rw [q] at this; cases this) h (snD_RL hA)
theorem snL_RL {A B : Trk} {r : Int} (hA : TIn A r) : RL (fun s => awayB A B s r) (snD A B r) r (snL A B r) := by
  have := fstI_RL (fun s => awayB A B s r) (r + 1 - snD A B r).toNat (snD A B r)
  have h := (snD_RL (B := B) hA).2.1
  rwa [show snD A B r + ((r + 1 - snD A B r).toNat : Int) - 1 = r by omega] at this
theorem l_same {A B : Trk} {r x : Int} (hA : TIn A r) (hB : TIn B r) (h : RL (fun s => awayB A B s r) (snD A B r) r x) : x = snL A B r :=
  RL_one (fun x y q0 q1 q2 q => by
    have f := (snD_RL (B := B) hA).1
    show awayB A B y r = true
    cases hy : awayB A B y r
    · have := away_down hB q2 (hA.back (by omega) (by omega)) (hA.back (by omega) q2) q1 hy
      change awayB A B x r = true at q
      rw [q] at this; cases this
    · rfl) h (snL_RL hA)
/-- What surely has arrived may have. -/
theorem arr_not_away {A B : Trk} {s r : Int} (hA : TIn A s) (hB : TIn B r) (h : arrB A B s r = true) : awayB A B s r = false := by
  rw [arr_iff] at h
  rw [away_iff]
  have hd : 0 ≤ vd A.d B.d (A.p s) (B.p r) := Int.mul_nonneg (by have := hA.d0; have := hB.d0; omega) (Int.mul_nonneg (by have := hA.n1; omega) (by have := hB.n1; omega))
  refine Int.le_trans ?_ h
  unfold sqN sqF
  exact Int.le_trans (nsum_nr_le hd) (le_nsum_fr hd)
theorem lo_is {A B : Trk} {r x : Int} (hA : TIn A r) (hB : TIn B r) (h1 : firstT A ≤ x) (h2 : x ≤ r) (h3 : arrB A B x r = true) (h4 : x = r ∨ arrB A B (x + 1) r = false) : x = snD A B r - 1 := by
  have : x + 1 = snD A B r := d_same hA hB ⟨by omega, by omega, .inr (by show (!arrB A B (x + 1 - 1) r) = false; rw [Int.add_sub_cancel, h3]; rfl), by
    rcases h4 with h | h
    · left; omega
    · right; show (!arrB A B (x + 1) r) = true; rw [h]; rfl⟩
  omega
theorem hi_is {A B : Trk} {r x : Int} (hA : TIn A r) (hB : TIn B r) (hD : firstT A < snD A B r) (h1 : snD A B r - 1 ≤ x) (h2 : x ≤ r) (h3 : x = snD A B r - 1 ∨ awayB A B (x - 1) r = false) (h4 : x = r ∨ awayB A B x r = true) : x = min r (snL A B r) := by
  obtain ⟨d1, d2, d3, d4⟩ := snD_RL (B := B) hA
  have ha : arrB A B (snD A B r - 1) r = true := by
    rcases d3 with h | h
    · omega
    · simpa using h
  have hw := arr_not_away (hA.back (by omega) (by omega)) hB ha
  by_cases hx : x = snD A B r - 1
  · have xr : x = r := by
      rcases h4 with h | h
      · exact h
      · rw [hx, hw] at h; cases h
    have : snL A B r = r + 1 := (l_same hA hB (x := r + 1) ⟨by omega, by omega, .inl (by omega), .inl rfl⟩).symm
    omega
  · have h3' : awayB A B (x - 1) r = false := by
      rcases h3 with h | h
      · exact absurd h hx
      · exact h
    cases hax : awayB A B x r
    · have xr : x = r := by
        rcases h4 with h | h
        · exact h
        · rw [hax] at h; cases h
      have : snL A B r = r + 1 := (l_same hA hB (x := r + 1) ⟨by omega, by omega, .inr (by show awayB A B (r + 1 - 1) r = false; rw [Int.add_sub_cancel, ← xr]; rw [xr] at hax ⊢; exact hax), .inl rfl⟩).symm
      omega
    · have : x = snL A B r := l_same hA hB ⟨by omega, by omega, .inr h3', .inr hax⟩
      omega
theorem sn_none {A B : Trk} {r : Int} (hA : TIn A r) (hB : TIn B r) (h : arrB A B (firstT A) r = false) : snD A B r = firstT A :=
  (d_same hA hB ⟨Int.le_refl _, by have : firstT A ≤ r := hA.first; omega, .inl rfl, .inr (by show (!arrB A B (firstT A) r) = true; rw [h]; rfl)⟩).symm
theorem sn_some {A B : Trk} {r : Int} (hA : TIn A r) (h : arrB A B (firstT A) r = true) : firstT A < snD A B r := by
  obtain ⟨d1, d2, d3, d4⟩ := snD_RL (B := B) hA
  rcases Int.lt_or_le (firstT A) (snD A B r) with q | q
  · exact q
  · have e : snD A B r = firstT A := by omega
    rcases d4 with z | z
    · have : firstT A ≤ r := hA.first; omega
    · rw [e] at z
      change (!arrB A B (firstT A) r) = true at z
      rw [h] at z; cases z
def stE (A B : TV) (r : Int) : Int := if distErr A B r = 0 then (if snD A.t B.t r = firstT A.t then 12 else 0) else distErr A B r
def stLo (A B : TV) (r : Int) : Int := if stE A B r = 0 then snD A.t B.t r - 1 else 0
def stHi (A B : TV) (r : Int) : Int := if stE A B r = 0 then min r (snL A.t B.t r) else 0
theorem VT.back {w w1 : World} {A : Trk} {s r : Int} (h : VT w A r) (hb : Below w.heap.size w w1) (h1 : firstT A ≤ s) (h2 : s ≤ r) : VT w1 A s := ⟨h.1.below hb, TIn.back h.2 h1 h2⟩
end Go.Proofs.Ytmhcmiajikffpaa
namespace Go.Proofs.Ytmhcmiajikffpaa
open Go.RowKit Go.Shelf Go.Sort
theorem rcHi_le {A B : Trk} {s x : Int} (hA : TIn A s) (hB : TIn B s) (h1 : s ≤ x) (h2 : x ≤ lastT B) (h : arrB A B s x = true) : rcHi A B s ≤ x := by
  obtain ⟨a, b, c, d⟩ := rcHi_RL (A := A) hB
  rcases c with c | c
  · omega
  · rcases Int.lt_or_le x (rcHi A B s) with q | q
    · have := arr_mono hA h1 (hB.to h1 h2) (hB.to (r := rcHi A B s - 1) (by omega) (by omega)) (by omega) h
      rw [this] at c; cases c
    · exact q
theorem rc_hi_before {A B : Trk} {s : Int} (hB : TIn B s) (h : s < rcHi A B s) : arrB A B s (rcHi A B s - 1) = false := by
  rcases (rcHi_RL (A := A) hB).2.2.1 with c | c
  · omega
  · exact c
theorem rc_lo_away {A B : Trk} {s : Int} (hB : TIn B s) (h : s < rcLo A B s) : awayB A B s (rcLo A B s) = true := by
  have hp := rcPos_RL (A := A) hB
  have e : rcLo A B s = rcPos A B s - 1 := by unfold rcLo at h ⊢; omega
  rw [e]
  rcases hp.2.2.1 with c | c
  · unfold rcLo at h; omega
  · change (!awayB A B s (rcPos A B s - 1)) = false at c
    simpa using c
theorem rc_lo_next {A B : Trk} {s : Int} (hA : TIn A s) (hB : TIn B s) (hl : rcHi A B s ≤ lastT B) (h : rcLo A B s < lastT B) : awayB A B s (rcLo A B s + 1) = false := by
  have hp := rcPos_RL (A := A) hB
  have h0 := (rcHi_RL (A := A) hB).1
  have ha := arr_not_away hA (hB.to h0 hl) (rc_arr hB hl)
  by_cases hq : rcPos A B s = rcHi A B s + 1
  · rcases hp.2.2.1 with c | c
    · omega
    · change (!awayB A B s (rcPos A B s - 1)) = false at c
      rw [hq, Int.add_sub_cancel, ha] at c
      cases c
  · have h1 := hp.1
    have h2 := hp.2.1
    rcases hp.2.2.2 with d | d
    · exact absurd d hq
    · change (!awayB A B s (rcPos A B s)) = true at d
      have d' : awayB A B s (rcPos A B s) = false := by simpa using d
      have hr : rcPos A B s ≤ rcLo A B s + 1 := by unfold rcLo; omega
      exact away_mono hA h1 (hB.to h1 (by omega)) (hB.to (by omega) (by omega)) hr d'
theorem sn_lo_arr {A B : Trk} {r : Int} (hA : TIn A r) (h : firstT A < snD A B r) : arrB A B (snD A B r - 1) r = true := by
  rcases (snD_RL (B := B) hA).2.2.1 with c | c
  · omega
  · change (!arrB A B (snD A B r - 1) r) = false at c
    simpa using c
theorem sn_next {A B : Trk} {r : Int} (hA : TIn A r) (h : snD A B r - 1 < r) : arrB A B (snD A B r - 1 + 1) r = false := by
  rw [Int.sub_add_cancel]
  rcases (snD_RL (B := B) hA).2.2.2 with d | d
  · omega
  · change (!arrB A B (snD A B r) r) = true at d
    simpa using d
theorem te_or (A B : TV) (s : Int) : timesErr A B s = 0 ∨ timesErr A B s = 2 := by
  unfold timesErr
  split
  · exact .inr rfl
  · exact .inl rfl
theorem te_in {A B : TV} {s : Int} (h1 : outside s A.k A.n = false) (h2 : outside s B.k B.n = false) : timesErr A B s = 0 := by
  unfold timesErr
  rw [h1, h2]
  rfl
theorem rv_ok {A B : TV} {s : Int} (h : rvE A B s = 0) : distErr A B s = 0 ∧ rcHi A.t B.t s ≤ lastT B.t ∧ rvLo A B s = rcLo A.t B.t s ∧ rvHi A B s = rcHi A.t B.t s := by
  have h' := h
  unfold rvE at h
  by_cases hd : distErr A B s = 0
  · rw [if_pos hd] at h
    refine ⟨hd, ?_, by unfold rvLo; rw [if_pos h'], by unfold rvHi; rw [if_pos h']⟩
    by_cases q : lastT B.t < rcHi A.t B.t s
    · rw [if_pos q] at h; omega
    · omega
  · rw [if_neg hd] at h; exact absurd h hd
theorem trip_sound {A B : TV} {s : Int} (h : tripE A B s = 0) : rvE A B s = 0 ∧ rvLo A B s ≤ tripLo A B s ∧ rvHi A B s ≤ tripHi A B s ∧ tripLo A B s ≤ tripHi A B s := by
  have h' := h
  unfold tripE at h
  by_cases e1 : rvE A B s = 0
  · rw [if_pos e1] at h
    by_cases e2 : rvE B A (rvLo A B s) = 0
    · rw [if_pos e2] at h
      obtain ⟨d1, l1, a1, a2⟩ := rv_ok e1
      obtain ⟨d2, l2, b1, b2⟩ := rv_ok e2
      obtain ⟨d3, l3, c1, c2⟩ := rv_ok h
      obtain ⟨tA, tB⟩ := distErr_in d1
      obtain ⟨u1, u2⟩ := distErr_in d2
      obtain ⟨v1, v2⟩ := distErr_in d3
      have k1 := rc_bounds (A := A.t) tB
      have k2 := rc_bounds (A := B.t) u2
      have k3 := rc_bounds (A := B.t) v2
      have g1 : tripLo A B s = rcLo B.t A.t (rvLo A B s) := by unfold tripLo; rw [if_pos h', b1]
      have g2 : tripHi A B s = rcHi B.t A.t (rvHi A B s) := by unfold tripHi; rw [if_pos h', c2]
      rw [g1, g2]
      have hle : rvLo A B s ≤ rvHi A B s := by rw [a1, a2]; exact k1.2
      have ar := rc_arr v2 l3
      have ar2 := arr_down (v2.to (by omega) l3) (by omega) u1 v1 hle ar
      have key := rcHi_le u1 u2 (by omega) l3 ar2
      exact ⟨e1, by omega, by omega, by omega⟩
    · rw [if_neg e2] at h; exact absurd h e2
  · rw [if_neg e1] at h; exact absurd h e1
end Go.Proofs.Ytmhcmiajikffpaa
namespace Go.Proofs.Ytmhcmiajikffpaa
open Go.RowKit Go.Shelf Go.Sort
attribute [local go_sem] idx3_0 idx3_1 idx3_2 old1 fro1 old2 fro2 old3 fro3 old4 fro4 old5 fro5 old6 fro6 old7 fro7 old8 fro8 old9 fro9 old10 fro10 old11 fro11 old12 fro12
set_option maxRecDepth 100000 in
set_option maxHeartbeats 800000 in
theorem few_any (A : Option Addr) (n c : Nat) (d : Int) (w : World) (_ : n ≤ 9223372036854775807) :
    Calls Try.prog 8 #[.agg #[.slice A n c, .int .i64 d]] w fun e w' => e = .returned (.bool (decide ((n : Int) ≤ 14))) ∧ Below w.heap.size w w' := by
  go_enter Try.func8, Try.ntmps8
  go_wp2_with fail
  go_ret
  exact ⟨rfl, by (repeat (first | with_reducible exact Below.refl _ _ | with_reducible assumption | with_reducible refine Below.alloc ?_ (by first | (simp; done) | (simp; omega) | omega) _ | with_reducible refine Below.setCell ?_ (by first | (simp; done) | (simp; omega) | omega) _ | with_reducible refine Below.drew ?_ | with_reducible refine below_drewN ?_ _))⟩
theorem KA.bel {w W : World} {A : Option Addr} {n : Nat} {k : Nat → Knot} (h : KA w A n k) (hb : Below w.heap.size w W) : KA W A n k := fun h0 => by
  obtain ⟨b, off, e, hk⟩ := h h0
  exact ⟨b, off, e, hk.below hb hk.1⟩
end Go.Proofs.Ytmhcmiajikffpaa
