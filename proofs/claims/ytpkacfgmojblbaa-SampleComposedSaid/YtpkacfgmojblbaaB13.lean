/- Helpers: the law SamplePrograms, all but its loop. No condition but the hypotheses that each theorem names. -/
import Derived.Test.YtpkacfgmojblbaaB12
namespace Go.Proofs.Ytpkacfgmojblbaa
open Go.RowKit
attribute [local go_sem] old1 fro1 old2 fro2 old3 fro3 old4 fro4 old5 fro5 old6 fro6 old7 fro7 old8 fro8 old9 fro9 old10 fro10 old11 fro11 old12 fro12
def nz0 : List Bool := [false, false, false, false, false, false, true, false, false, false, false, false, false, false, false, false, false, false, false, false, false, false, false, false, false, false, false, false, false, false, false, false, false, false, false, false, false, false, false, false, false, false, false, false, false, false, false, false, false, false, false, false, false, false, false, false, false, false, false, false, false, false, false, false, false, false, false, false, false, false, false, false, false, false, false, false, false, false, false, false, false, false, false, false, false, false, false, false, false, false, false, false, false, false, false, false, false, false, false, false, false, false, false, false, false, false, false, false, false, false, true, true, true, true, true, true, true, true, true, true, true, true, true, true, true, true, true, true, true, true]
theorem keepA {w : World} {a : Addr} {v : Value} (o : Obj) (h : w.cell? a = some v) : (w.alloc o).cell? a = some v := (World.cell?_alloc_some w a o (by rw [h]; rfl)).trans h
set_option maxRecDepth 100000 in
set_option maxHeartbeats 800000 in
theorem sp_many (ph inc ch n ct : Int) (w : World) (h : wi ct 61 400 = true) : Calls Try.prog 6 #[.agg #[.int .i64 ph, .int .i64 inc, .int .i64 ch], .int .i64 n, .int .i64 ct] w fun e w' => e = .returned (.bool true) ∧ Below w.heap.size w w' := by
  go_enter Try.func6, Try.ntmps6
  go_wp2_with (first
      | (go_at_call 17; (with_reducible refine Calls.mono (awake_any _) ?_); rintro e y1 ⟨rfl, hb1⟩; have BV := Lib.hid (belowT (show Below w.heap.size w _ by (repeat (first | with_reducible exact Below.refl _ _ | with_reducible assumption | with_reducible refine Below.alloc ?_ (by first | (simp; done) | (simp; omega) | omega) _ | with_reducible refine Below.setCell ?_ (by first | (simp; done) | (simp; omega) | omega) _ | with_reducible refine Below.drew ?_ | with_reducible refine below_drewN ?_ _))) hb1); have l0 := keep hb1 (b := w.heap.size) (o := 0) (v := .int .i64 ph) (by simp [go_sem]); have l1 := keep hb1 (b := w.heap.size) (o := 1) (v := .int .i64 inc) (by simp [go_sem]); have l2 := keep hb1 (b := w.heap.size) (o := 2) (v := .int .i64 ch) (by simp [go_sem]); clear hb1)
      | (go_at_call 21; (with_reducible refine Calls.mono (bwithin_any _ _ _ _) ?_); rintro e v9 ⟨rfl, rfl⟩))
  go_ret
  exact ⟨rfl, BV.out⟩
set_option maxRecDepth 100000 in
set_option maxHeartbeats 2000000 in
theorem sp_bad (ph inc ch n ct D : Int) (w : World) (h : wi ct 61 400 = false) (hD : prgE ph inc ch = D) (h0 : D ≠ 0) : Calls Try.prog 6 #[.agg #[.int .i64 ph, .int .i64 inc, .int .i64 ch], .int .i64 n, .int .i64 ct] w fun e w' => e = .returned (.bool true) ∧ Below w.heap.size w w' := by
  have HPE := Lib.hid (fun W => programErr_any ph inc ch W)
  have HCP := Lib.hid (fun W => checkProgram_any ph inc ch W)
  have HPA := Lib.hid (fun W => phaseAtS_any ph inc ch n W)
  have HAD := Lib.hid (fun W => advancedS_any ph inc ch n W)
  have hx : ixE ph inc ch n = D := by unfold ixE fs2; rw [hD, if_neg h0]
  have HTN := Lib.hid (fun W => turnsOf_err ph inc ch ct D (by unfold fs2; rw [hD, if_neg h0]) h0 W)
  rw [hD] at HPE HCP
  rw [hx, if_neg h0] at HPA HAD
  have g1 : (D == 0) = false := by simpa using h0
  have g2 : (D != 0) = true := by simpa using h0
  clear h0 hD hx
  go_enter Try.func6, Try.ntmps6
  go_wp2_with (first
      | (go_at_call 17; (with_reducible refine Calls.mono (awake_any _) ?_); rintro e y1 ⟨rfl, hb1⟩; have BV := Lib.hid (belowT (show Below w.heap.size w _ by (repeat (first | with_reducible exact Below.refl _ _ | with_reducible assumption | with_reducible refine Below.alloc ?_ (by first | (simp; done) | (simp; omega) | omega) _ | with_reducible refine Below.setCell ?_ (by first | (simp; done) | (simp; omega) | omega) _ | with_reducible refine Below.drew ?_ | with_reducible refine below_drewN ?_ _))) hb1); have l0 := keep hb1 (b := w.heap.size) (o := 0) (v := .int .i64 ph) (by simp [go_sem]); have l1 := keep hb1 (b := w.heap.size) (o := 1) (v := .int .i64 inc) (by simp [go_sem]); have l2 := keep hb1 (b := w.heap.size) (o := 2) (v := .int .i64 ch) (by simp [go_sem]); clear hb1)
      | (go_at_call 21; (with_reducible refine Calls.mono (bwithin_any _ _ _ _) ?_); rintro e v9 ⟨rfl, rfl⟩)
      | (go_at_call 38; (with_reducible refine Calls.mono (HPA.out _) ?_); rintro e y2 ⟨rfl, hb2⟩; replace l0 := keep hb2 l0; replace l1 := keep hb2 l1; replace l2 := keep hb2 l2; replace BV := Lib.hid (belowT (show Below w.heap.size w _ by have Bq := BV.out; (repeat (first | with_reducible exact Below.refl _ _ | with_reducible assumption | with_reducible refine Below.alloc ?_ (by first | (simp; done) | (simp; omega) | omega) _ | with_reducible refine Below.setCell ?_ (by first | (simp; done) | (simp; omega) | omega) _ | with_reducible refine Below.drew ?_ | with_reducible refine below_drewN ?_ _))) hb2); clear hb2)
      | (go_at_call 39; (with_reducible refine Calls.mono (HAD.out _) ?_); rintro e y3 ⟨rfl, hb3⟩; replace l0 := keep hb3 l0; replace l1 := keep hb3 l1; replace l2 := keep hb3 l2; replace BV := Lib.hid (belowT (show Below w.heap.size w _ by have Bq := BV.out; (repeat (first | with_reducible exact Below.refl _ _ | with_reducible assumption | with_reducible refine Below.alloc ?_ (by first | (simp; done) | (simp; omega) | omega) _ | with_reducible refine Below.setCell ?_ (by first | (simp; done) | (simp; omega) | omega) _ | with_reducible refine Below.drew ?_ | with_reducible refine below_drewN ?_ _))) hb3); clear hb3)
      | (go_at_call 40; (with_reducible refine Calls.mono (HTN.out _) ?_); rintro e y4 ⟨rfl, hb4⟩; replace l0 := keep hb4 (keepA _ l0); replace l1 := keep hb4 (keepA _ l1); replace l2 := keep hb4 (keepA _ l2); replace BV := Lib.hid (belowT (show Below w.heap.size w _ by have Bq := BV.out; have Bz := Bq.size; (repeat (first | with_reducible exact Below.refl _ _ | with_reducible assumption | with_reducible refine Below.alloc ?_ (by first | (simp; done) | (simp; omega) | omega) _ | with_reducible refine Below.setCell ?_ (by first | (simp; done) | (simp; omega) | omega) _ | with_reducible refine Below.drew ?_ | with_reducible refine below_drewN ?_ _))) hb4); have q0 := keep hb4 (b := y3.heap.size) (o := 0) (v := .int .i64 0) (by simp [go_sem]); have q1 := keep hb4 (b := y3.heap.size) (o := 1) (v := .int .i64 0) (by simp [go_sem]); have q2 := keep hb4 (b := y3.heap.size) (o := 2) (v := .int .i64 0) (by simp [go_sem]); clear hb4)
      | (go_at_call 41; (with_reducible refine Calls.mono (HPE.out _) ?_); rintro e y5 ⟨rfl, hb5⟩; replace l0 := keep hb5 l0; replace l1 := keep hb5 l1; replace l2 := keep hb5 l2; replace q0 := keep hb5 q0; replace q1 := keep hb5 q1; replace q2 := keep hb5 q2; replace BV := Lib.hid (belowT (show Below w.heap.size w _ by have Bq := BV.out; (repeat (first | with_reducible exact Below.refl _ _ | with_reducible assumption | with_reducible refine Below.alloc ?_ (by first | (simp; done) | (simp; omega) | omega) _ | with_reducible refine Below.setCell ?_ (by first | (simp; done) | (simp; omega) | omega) _ | with_reducible refine Below.drew ?_ | with_reducible refine below_drewN ?_ _))) hb5); clear hb5)
      | (go_at_call 42; (with_reducible refine Calls.mono (HCP.out _) ?_); rintro e y6 ⟨rfl, hb6⟩; replace l0 := keep hb6 l0; replace l1 := keep hb6 l1; replace l2 := keep hb6 l2; replace q0 := keep hb6 q0; replace q1 := keep hb6 q1; replace q2 := keep hb6 q2; replace BV := Lib.hid (belowT (show Below w.heap.size w _ by have Bq := BV.out; (repeat (first | with_reducible exact Below.refl _ _ | with_reducible assumption | with_reducible refine Below.alloc ?_ (by first | (simp; done) | (simp; omega) | omega) _ | with_reducible refine Below.setCell ?_ (by first | (simp; done) | (simp; omega) | omega) _ | with_reducible refine Below.drew ?_ | with_reducible refine below_drewN ?_ _))) hb6); clear hb6))
  go_ret
  exact ⟨rfl, BV.out⟩

set_option maxRecDepth 100000 in
set_option maxHeartbeats 2000000 in
theorem sp_farX (ph inc ch n ct X : Int) (w : World) (h : wi ct 61 400 = false) (h4 : wi ct 0 400 = false) (hD : prgE ph inc ch = 0) (hX : rgE n 0 1000000 = X) (h0 : X ≠ 0) : Calls Try.prog 6 #[.agg #[.int .i64 ph, .int .i64 inc, .int .i64 ch], .int .i64 n, .int .i64 ct] w fun e w' => e = .returned (.bool true) ∧ Below w.heap.size w w' := by
  have HPE := Lib.hid (fun W => programErr_any ph inc ch W)
  have HCP := Lib.hid (fun W => checkProgram_any ph inc ch W)
  have HPA := Lib.hid (fun W => phaseAtS_any ph inc ch n W)
  have HAD := Lib.hid (fun W => advancedS_any ph inc ch n W)
  have HIX := Lib.hid (fun W => indexErr_any n W)
  have hx : ixE ph inc ch n = X := by unfold ixE fs2; rw [hD, if_pos rfl]; exact hX
  have HTN := Lib.hid (fun W => turnsOf_err ph inc ch ct 2 (by unfold fs2 rgE; rw [hD, if_pos rfl, h4]; rfl) (by decide) W)
  rw [hD] at HPE HCP
  rw [hx, if_neg h0] at HPA HAD
  rw [hX] at HIX
  have g1 : (X == 0) = false := by simpa using h0
  have g2 : (X != 0) = true := by simpa using h0
  clear h0 hD hx hX
  go_enter Try.func6, Try.ntmps6
  go_wp2_with (first
      | (go_at_call 17; (with_reducible refine Calls.mono (awake_any _) ?_); rintro e y1 ⟨rfl, hb1⟩; have BV := Lib.hid (belowT (show Below w.heap.size w _ by (repeat (first | with_reducible exact Below.refl _ _ | with_reducible assumption | with_reducible refine Below.alloc ?_ (by first | (simp; done) | (simp; omega) | omega) _ | with_reducible refine Below.setCell ?_ (by first | (simp; done) | (simp; omega) | omega) _ | with_reducible refine Below.drew ?_ | with_reducible refine below_drewN ?_ _))) hb1); have l0 := keep hb1 (b := w.heap.size) (o := 0) (v := .int .i64 ph) (by simp [go_sem]); have l1 := keep hb1 (b := w.heap.size) (o := 1) (v := .int .i64 inc) (by simp [go_sem]); have l2 := keep hb1 (b := w.heap.size) (o := 2) (v := .int .i64 ch) (by simp [go_sem]); clear hb1)
      | (go_at_call 21; (with_reducible refine Calls.mono (bwithin_any _ _ _ _) ?_); rintro e v9 ⟨rfl, rfl⟩)
      | (go_at_call 38; (with_reducible refine Calls.mono (HPA.out _) ?_); rintro e y2 ⟨rfl, hb2⟩; replace l0 := keep hb2 l0; replace l1 := keep hb2 l1; replace l2 := keep hb2 l2; replace BV := Lib.hid (belowT (show Below w.heap.size w _ by have Bq := BV.out; (repeat (first | with_reducible exact Below.refl _ _ | with_reducible assumption | with_reducible refine Below.alloc ?_ (by first | (simp; done) | (simp; omega) | omega) _ | with_reducible refine Below.setCell ?_ (by first | (simp; done) | (simp; omega) | omega) _ | with_reducible refine Below.drew ?_ | with_reducible refine below_drewN ?_ _))) hb2); clear hb2)
      | (go_at_call 39; (with_reducible refine Calls.mono (HAD.out _) ?_); rintro e y3 ⟨rfl, hb3⟩; replace l0 := keep hb3 l0; replace l1 := keep hb3 l1; replace l2 := keep hb3 l2; replace BV := Lib.hid (belowT (show Below w.heap.size w _ by have Bq := BV.out; (repeat (first | with_reducible exact Below.refl _ _ | with_reducible assumption | with_reducible refine Below.alloc ?_ (by first | (simp; done) | (simp; omega) | omega) _ | with_reducible refine Below.setCell ?_ (by first | (simp; done) | (simp; omega) | omega) _ | with_reducible refine Below.drew ?_ | with_reducible refine below_drewN ?_ _))) hb3); clear hb3)
      | (go_at_call 40; (with_reducible refine Calls.mono (HTN.out _) ?_); rintro e y4 ⟨rfl, hb4⟩; replace l0 := keep hb4 (keepA _ l0); replace l1 := keep hb4 (keepA _ l1); replace l2 := keep hb4 (keepA _ l2); replace BV := Lib.hid (belowT (show Below w.heap.size w _ by have Bq := BV.out; have Bz := Bq.size; (repeat (first | with_reducible exact Below.refl _ _ | with_reducible assumption | with_reducible refine Below.alloc ?_ (by first | (simp; done) | (simp; omega) | omega) _ | with_reducible refine Below.setCell ?_ (by first | (simp; done) | (simp; omega) | omega) _ | with_reducible refine Below.drew ?_ | with_reducible refine below_drewN ?_ _))) hb4); have q0 := keep hb4 (b := y3.heap.size) (o := 0) (v := .int .i64 0) (by simp [go_sem]); have q1 := keep hb4 (b := y3.heap.size) (o := 1) (v := .int .i64 0) (by simp [go_sem]); have q2 := keep hb4 (b := y3.heap.size) (o := 2) (v := .int .i64 0) (by simp [go_sem]); clear hb4)
      | (go_at_call 41; (with_reducible refine Calls.mono (HPE.out _) ?_); rintro e y5 ⟨rfl, hb5⟩; replace l0 := keep hb5 l0; replace l1 := keep hb5 l1; replace l2 := keep hb5 l2; replace q0 := keep hb5 q0; replace q1 := keep hb5 q1; replace q2 := keep hb5 q2; replace BV := Lib.hid (belowT (show Below w.heap.size w _ by have Bq := BV.out; (repeat (first | with_reducible exact Below.refl _ _ | with_reducible assumption | with_reducible refine Below.alloc ?_ (by first | (simp; done) | (simp; omega) | omega) _ | with_reducible refine Below.setCell ?_ (by first | (simp; done) | (simp; omega) | omega) _ | with_reducible refine Below.drew ?_ | with_reducible refine below_drewN ?_ _))) hb5); clear hb5)
      | (go_at_call 42; (with_reducible refine Calls.mono (HCP.out _) ?_); rintro e y6 ⟨rfl, hb6⟩; replace l0 := keep hb6 l0; replace l1 := keep hb6 l1; replace l2 := keep hb6 l2; replace q0 := keep hb6 q0; replace q1 := keep hb6 q1; replace q2 := keep hb6 q2; replace BV := Lib.hid (belowT (show Below w.heap.size w _ by have Bq := BV.out; (repeat (first | with_reducible exact Below.refl _ _ | with_reducible assumption | with_reducible refine Below.alloc ?_ (by first | (simp; done) | (simp; omega) | omega) _ | with_reducible refine Below.setCell ?_ (by first | (simp; done) | (simp; omega) | omega) _ | with_reducible refine Below.drew ?_ | with_reducible refine below_drewN ?_ _))) hb6); clear hb6)
      | (go_at_call 44; (with_reducible refine Calls.mono (HIX.out _) ?_); rintro e v8 ⟨rfl, rfl⟩))
  go_ret
  exact ⟨rfl, BV.out⟩
set_option maxRecDepth 100000 in
set_option maxHeartbeats 2000000 in
theorem sp_far0 (ph inc ch n ct : Int) (w : World) (h : wi ct 61 400 = false) (h4 : wi ct 0 400 = false) (hD : prgE ph inc ch = 0) (hX : rgE n 0 1000000 = 0) : Calls Try.prog 6 #[.agg #[.int .i64 ph, .int .i64 inc, .int .i64 ch], .int .i64 n, .int .i64 ct] w fun e w' => e = .returned (.bool true) ∧ Below w.heap.size w w' := by
  have HPE := Lib.hid (fun W => programErr_any ph inc ch W)
  have HCP := Lib.hid (fun W => checkProgram_any ph inc ch W)
  have HPA := Lib.hid (fun W => phaseAtS_any ph inc ch n W)
  have HAD := Lib.hid (fun W => advancedS_any ph inc ch n W)
  have HIX := Lib.hid (fun W => indexErr_any n W)
  obtain ⟨n0, n1⟩ := rg_0 hX
  have HRP := Lib.hid (fun W => phaseAtR_any ph inc ch n (prg_0 hD) n0 n1 W)
  have HRA := Lib.hid (fun W => advancedR_any ph inc ch n (prg_0 hD) n0 n1 W)
  have hx : ixE ph inc ch n = 0 := by unfold ixE fs2; rw [hD, if_pos rfl]; exact hX
  rw [hx, if_pos rfl] at HPA HAD
  rw [hX] at HIX
  have HTN := Lib.hid (fun W => turnsOf_err ph inc ch ct 2 (by unfold fs2 rgE; rw [hD, if_pos rfl, h4]; rfl) (by decide) W)
  rw [hD] at HPE HCP
  clear hD hx hX n0 n1
  generalize phs ph inc ch n = x at *
  generalize adv inc ch n = y at *
  go_enter Try.func6, Try.ntmps6
  go_upto_region 28 with (first
      | (go_at_call 17; (with_reducible refine Calls.mono (awake_any _) ?_); rintro e y1 ⟨rfl, hb1⟩; have BV := Lib.hid (belowT (show Below w.heap.size w _ by (repeat (first | with_reducible exact Below.refl _ _ | with_reducible assumption | with_reducible refine Below.alloc ?_ (by first | (simp; done) | (simp; omega) | omega) _ | with_reducible refine Below.setCell ?_ (by first | (simp; done) | (simp; omega) | omega) _ | with_reducible refine Below.drew ?_ | with_reducible refine below_drewN ?_ _))) hb1); have l0 := keep hb1 (b := w.heap.size) (o := 0) (v := .int .i64 ph) (by simp [go_sem]); have l1 := keep hb1 (b := w.heap.size) (o := 1) (v := .int .i64 inc) (by simp [go_sem]); have l2 := keep hb1 (b := w.heap.size) (o := 2) (v := .int .i64 ch) (by simp [go_sem]); clear hb1)
      | (go_at_call 21; (with_reducible refine Calls.mono (bwithin_any _ _ _ _) ?_); rintro e v9 ⟨rfl, rfl⟩)
      | (go_at_call 38; (with_reducible refine Calls.mono (HPA.out _) ?_); rintro e y2 ⟨rfl, hb2⟩; replace l0 := keep hb2 l0; replace l1 := keep hb2 l1; replace l2 := keep hb2 l2; replace BV := Lib.hid (belowT (show Below w.heap.size w _ by have Bq := BV.out; (repeat (first | with_reducible exact Below.refl _ _ | with_reducible assumption | with_reducible refine Below.alloc ?_ (by first | (simp; done) | (simp; omega) | omega) _ | with_reducible refine Below.setCell ?_ (by first | (simp; done) | (simp; omega) | omega) _ | with_reducible refine Below.drew ?_ | with_reducible refine below_drewN ?_ _))) hb2); clear hb2)
      | (go_at_call 39; (with_reducible refine Calls.mono (HAD.out _) ?_); rintro e y3 ⟨rfl, hb3⟩; replace l0 := keep hb3 l0; replace l1 := keep hb3 l1; replace l2 := keep hb3 l2; replace BV := Lib.hid (belowT (show Below w.heap.size w _ by have Bq := BV.out; (repeat (first | with_reducible exact Below.refl _ _ | with_reducible assumption | with_reducible refine Below.alloc ?_ (by first | (simp; done) | (simp; omega) | omega) _ | with_reducible refine Below.setCell ?_ (by first | (simp; done) | (simp; omega) | omega) _ | with_reducible refine Below.drew ?_ | with_reducible refine below_drewN ?_ _))) hb3); clear hb3)
      | (go_at_call 40; (with_reducible refine Calls.mono (HTN.out _) ?_); rintro e y4 ⟨rfl, hb4⟩; replace l0 := keep hb4 (keepA _ l0); replace l1 := keep hb4 (keepA _ l1); replace l2 := keep hb4 (keepA _ l2); replace BV := Lib.hid (belowT (show Below w.heap.size w _ by have Bq := BV.out; have Bz := Bq.size; (repeat (first | with_reducible exact Below.refl _ _ | with_reducible assumption | with_reducible refine Below.alloc ?_ (by first | (simp; done) | (simp; omega) | omega) _ | with_reducible refine Below.setCell ?_ (by first | (simp; done) | (simp; omega) | omega) _ | with_reducible refine Below.drew ?_ | with_reducible refine below_drewN ?_ _))) hb4); have q0 := keep hb4 (b := y3.heap.size) (o := 0) (v := .int .i64 x) (by simp [go_sem]); have q1 := keep hb4 (b := y3.heap.size) (o := 1) (v := .int .i64 y) (by simp [go_sem]); have q2 := keep hb4 (b := y3.heap.size) (o := 2) (v := .int .i64 ch) (by simp [go_sem]); clear hb4)
      | (go_at_call 41; (with_reducible refine Calls.mono (HPE.out _) ?_); rintro e y5 ⟨rfl, hb5⟩; replace l0 := keep hb5 l0; replace l1 := keep hb5 l1; replace l2 := keep hb5 l2; replace q0 := keep hb5 q0; replace q1 := keep hb5 q1; replace q2 := keep hb5 q2; replace BV := Lib.hid (belowT (show Below w.heap.size w _ by have Bq := BV.out; (repeat (first | with_reducible exact Below.refl _ _ | with_reducible assumption | with_reducible refine Below.alloc ?_ (by first | (simp; done) | (simp; omega) | omega) _ | with_reducible refine Below.setCell ?_ (by first | (simp; done) | (simp; omega) | omega) _ | with_reducible refine Below.drew ?_ | with_reducible refine below_drewN ?_ _))) hb5); clear hb5)
      | (go_at_call 42; (with_reducible refine Calls.mono (HCP.out _) ?_); rintro e y6 ⟨rfl, hb6⟩; replace l0 := keep hb6 l0; replace l1 := keep hb6 l1; replace l2 := keep hb6 l2; replace q0 := keep hb6 q0; replace q1 := keep hb6 q1; replace q2 := keep hb6 q2; replace BV := Lib.hid (belowT (show Below w.heap.size w _ by have Bq := BV.out; (repeat (first | with_reducible exact Below.refl _ _ | with_reducible assumption | with_reducible refine Below.alloc ?_ (by first | (simp; done) | (simp; omega) | omega) _ | with_reducible refine Below.setCell ?_ (by first | (simp; done) | (simp; omega) | omega) _ | with_reducible refine Below.drew ?_ | with_reducible refine below_drewN ?_ _))) hb6); clear hb6)
      | (go_at_call 44; (with_reducible refine Calls.mono (HIX.out _) ?_); rintro e v8 ⟨rfl, rfl⟩))
  have BV0 := BV.out
  generalize y3.heap.size = b9 at *
  generalize y6 = v0 at *
  clear BV
  refine wp_region_gd [mpEq (.int .i64 0), mpEq (.bool true), mpEq (.bool true), mpEq (.int .i64 x), mpEq (.agg #[.int .i64 ph, .int .i64 inc, .int .i64 ch]), mpEq (.int .i64 n), mpEq (.int .i64 x), mpEq (.bool true), mpEq (.bool true), mpEq (.bool true), mpEq (.int .i64 0), mpEq (.bool true), mpEq (.bool true), mpEq (.bool true), mpEq (.agg #[.int .i64 x, .int .i64 y, .int .i64 ch]), mpEq (.agg #[.int .i64 ph, .int .i64 inc, .int .i64 ch]), mpEq (.int .i64 n), mpEq (.agg #[.int .i64 x, .int .i64 y, .int .i64 ch]), mpEq (.bool true), mpEq (.bool true), mpEq (.bool true)] nz0 (by kernel_rfl) (by kernel_rfl) (by kernel_rfl) (
        allOps_cons (fun a' w' hb hs hd => Or.inl ⟨wanted_n rfl, rg_op fun K hK => by
      have e0 := (hs.get 8 (by kernel_rfl)).trans (show _ = .int .i64 0 from rfl)
      have ec : ∀ v, a'.eval (.const v) = v := fun _ => rfl
      clear hs hd
      unfold Oper.wp
      generalize a'.eval = ρ at e0 ec ⊢
      simp [go_sem, e0]
      exact hK _ _ (Below.refl _ _) rfl⟩) <|
        allOps_cons (fun a' w' hb hs hd => Or.inl ⟨wanted_n rfl, rg_op fun K hK => by
      have e0 := (show a'.eval (.tmp 110) = .int .i64 0 from hd.get 0 110 (by kernel_rfl) (by kernel_rfl))
      have ec : ∀ v, a'.eval (.const v) = v := fun _ => rfl
      clear hs hd
      unfold Oper.wp
      generalize a'.eval = ρ at e0 ec ⊢
      simp [go_sem, e0, ec]
      exact hK _ _ (Below.refl _ _) rfl⟩) <|
        allOps_cons (fun a' w' hb hs hd => Or.inl ⟨wanted_n rfl, rg_op fun K hK => by
      have e0 := (show a'.eval (.tmp 111) = .bool true from hd.get 1 111 (by kernel_rfl) (by kernel_rfl))
      have ec : ∀ v, a'.eval (.const v) = v := fun _ => rfl
      clear hs hd
      unfold Oper.wp
      generalize a'.eval = ρ at e0 ec ⊢
      simp [go_sem, e0]
      exact hK _ _ (Below.refl _ _) rfl⟩) <|
        allOps_cons (fun a' w' hb hs hd => Or.inl ⟨wanted_t (j := 2) (d := 112) rfl (by kernel_rfl) (show a'.eval (.tmp 112) = .bool true from hd.get 2 112 (by kernel_rfl) (by kernel_rfl)), rg_op fun K hK => by
      have e0 := (hs.get 7 (by kernel_rfl)).trans (show _ = .int .i64 x from rfl)
      have ec : ∀ v, a'.eval (.const v) = v := fun _ => rfl
      clear hs hd
      unfold Oper.wp
      generalize a'.eval = ρ at e0 ec ⊢
      simp [go_sem, e0]
      exact hK _ _ (Below.refl _ _) rfl⟩) <|
        allOps_cons (fun a' w' hb hs hd => Or.inl ⟨wanted_t (j := 2) (d := 112) rfl (by kernel_rfl) (show a'.eval (.tmp 112) = .bool true from hd.get 2 112 (by kernel_rfl) (by kernel_rfl)), rg_op fun K hK => by
      have e0 := (hs.get 3 (by kernel_rfl)).trans (show _ = .pointer (some ⟨w.heap.size, 0, none⟩) from rfl)
      have ec : ∀ v, a'.eval (.const v) = v := fun _ => rfl
      have c0 := keep hb l0
      have c1 := keep hb l1
      have c2 := keep hb l2
      clear hs hd
      unfold Oper.wp
      generalize a'.eval = ρ at e0 ec ⊢
      simp [go_sem, e0, c0, c1, c2]
      exact hK _ _ (Below.refl _ _) rfl⟩) <|
        allOps_cons (fun a' w' hb hs hd => Or.inl ⟨wanted_t (j := 2) (d := 112) rfl (by kernel_rfl) (show a'.eval (.tmp 112) = .bool true from hd.get 2 112 (by kernel_rfl) (by kernel_rfl)), rg_op fun K hK => by
      have e0 := (hs.get 1 (by kernel_rfl)).trans (show _ = .int .i64 n from rfl)
      have ec : ∀ v, a'.eval (.const v) = v := fun _ => rfl
      clear hs hd
      unfold Oper.wp
      generalize a'.eval = ρ at e0 ec ⊢
      simp [go_sem, e0]
      exact hK _ _ (Below.refl _ _) rfl⟩) <|
        allOps_cons (fun a' w' hb hs hd => Or.inl ⟨wanted_t (j := 2) (d := 112) rfl (by kernel_rfl) (show a'.eval (.tmp 112) = .bool true from hd.get 2 112 (by kernel_rfl) (by kernel_rfl)), by
      exact rg_fn (φ := (mpEq (.int .i64 x)).p) (vs := #[.agg #[.int .i64 ph, .int .i64 inc, .int .i64 ch], .int .i64 n]) rfl (enters_of Try.func45 (by kernel_rfl) rfl) (by simp [(show a'.eval (.tmp 114) = .agg #[.int .i64 ph, .int .i64 inc, .int .i64 ch] from hd.get 4 114 (by kernel_rfl) (by kernel_rfl)), (show a'.eval (.tmp 115) = .int .i64 n from hd.get 5 115 (by kernel_rfl) (by kernel_rfl))]) ((HRP.out w').mono (by rintro e w1 ⟨rfl, h1⟩; exact ⟨_, rfl, h1, rfl⟩))⟩) <|
        allOps_cons (fun a' w' hb hs hd => Or.inl ⟨wanted_t (j := 2) (d := 112) rfl (by kernel_rfl) (show a'.eval (.tmp 112) = .bool true from hd.get 2 112 (by kernel_rfl) (by kernel_rfl)), rg_op fun K hK => by
      have e0 := (show a'.eval (.tmp 113) = .int .i64 x from hd.get 3 113 (by kernel_rfl) (by kernel_rfl))
      have e1 := (show a'.eval (.tmp 116) = .int .i64 x from hd.get 6 116 (by kernel_rfl) (by kernel_rfl))
      have ec : ∀ v, a'.eval (.const v) = v := fun _ => rfl
      clear hs hd
      unfold Oper.wp
      generalize a'.eval = ρ at e0 e1 ec ⊢
      simp [go_sem, e0, e1]
      exact hK _ _ (Below.refl _ _) rfl⟩) <|
        allOps_cons (fun a' w' hb hs hd => Or.inl ⟨wanted_n rfl, rg_op fun K hK => by
      have e0 := (show a'.eval (.tmp 112) = .bool true from hd.get 2 112 (by kernel_rfl) (by kernel_rfl))
      have e1 := (show a'.eval (.tmp 117) = .bool true from hd.get 7 117 (by kernel_rfl) (by kernel_rfl))
      have ec : ∀ v, a'.eval (.const v) = v := fun _ => rfl
      clear hs hd
      unfold Oper.wp
      generalize a'.eval = ρ at e0 e1 ec ⊢
      simp [go_sem, e0, e1, ec]
      exact hK _ _ (Below.refl _ _) rfl⟩) <|
        allOps_cons (fun a' w' hb hs hd => Or.inl ⟨wanted_n rfl, rg_op fun K hK => by
      have e0 := (show a'.eval (.tmp 118) = .bool true from hd.get 8 118 (by kernel_rfl) (by kernel_rfl))
      have ec : ∀ v, a'.eval (.const v) = v := fun _ => rfl
      clear hs hd
      unfold Oper.wp
      generalize a'.eval = ρ at e0 ec ⊢
      simp [go_sem, e0]
      exact hK _ _ (Below.refl _ _) rfl⟩) <|
        allOps_cons (fun a' w' hb hs hd => Or.inl ⟨wanted_t (j := 9) (d := 119) rfl (by kernel_rfl) (show a'.eval (.tmp 119) = .bool true from hd.get 9 119 (by kernel_rfl) (by kernel_rfl)), rg_op fun K hK => by
      have e0 := (hs.get 10 (by kernel_rfl)).trans (show _ = .int .i64 0 from rfl)
      have ec : ∀ v, a'.eval (.const v) = v := fun _ => rfl
      clear hs hd
      unfold Oper.wp
      generalize a'.eval = ρ at e0 ec ⊢
      simp [go_sem, e0]
      exact hK _ _ (Below.refl _ _) rfl⟩) <|
        allOps_cons (fun a' w' hb hs hd => Or.inl ⟨wanted_t (j := 9) (d := 119) rfl (by kernel_rfl) (show a'.eval (.tmp 119) = .bool true from hd.get 9 119 (by kernel_rfl) (by kernel_rfl)), rg_op fun K hK => by
      have e0 := (show a'.eval (.tmp 120) = .int .i64 0 from hd.get 10 120 (by kernel_rfl) (by kernel_rfl))
      have ec : ∀ v, a'.eval (.const v) = v := fun _ => rfl
      clear hs hd
      unfold Oper.wp
      generalize a'.eval = ρ at e0 ec ⊢
      simp [go_sem, e0, ec]
      exact hK _ _ (Below.refl _ _) rfl⟩) <|
        allOps_cons (fun a' w' hb hs hd => Or.inl ⟨wanted_n rfl, rg_op fun K hK => by
      have e0 := (show a'.eval (.tmp 119) = .bool true from hd.get 9 119 (by kernel_rfl) (by kernel_rfl))
      have e1 := (show a'.eval (.tmp 121) = .bool true from hd.get 11 121 (by kernel_rfl) (by kernel_rfl))
      have ec : ∀ v, a'.eval (.const v) = v := fun _ => rfl
      clear hs hd
      unfold Oper.wp
      generalize a'.eval = ρ at e0 e1 ec ⊢
      simp [go_sem, e0, e1, ec]
      exact hK _ _ (Below.refl _ _) rfl⟩) <|
        allOps_cons (fun a' w' hb hs hd => Or.inl ⟨wanted_n rfl, rg_op fun K hK => by
      have e0 := (show a'.eval (.tmp 122) = .bool true from hd.get 12 122 (by kernel_rfl) (by kernel_rfl))
      have ec : ∀ v, a'.eval (.const v) = v := fun _ => rfl
      clear hs hd
      unfold Oper.wp
      generalize a'.eval = ρ at e0 ec ⊢
      simp [go_sem, e0]
      exact hK _ _ (Below.refl _ _) rfl⟩) <|
        allOps_cons (fun a' w' hb hs hd => Or.inl ⟨wanted_t (j := 13) (d := 123) rfl (by kernel_rfl) (show a'.eval (.tmp 123) = .bool true from hd.get 13 123 (by kernel_rfl) (by kernel_rfl)), rg_op fun K hK => by
      have e0 := (hs.get 9 (by kernel_rfl)).trans (show _ = .pointer (some ⟨b9, 0, none⟩) from rfl)
      have ec : ∀ v, a'.eval (.const v) = v := fun _ => rfl
      have c0 := keep hb q0
      have c1 := keep hb q1
      have c2 := keep hb q2
      clear hs hd
      unfold Oper.wp
      generalize a'.eval = ρ at e0 ec ⊢
      simp [go_sem, e0, c0, c1, c2]
      exact hK _ _ (Below.refl _ _) rfl⟩) <|
        allOps_cons (fun a' w' hb hs hd => Or.inl ⟨wanted_t (j := 13) (d := 123) rfl (by kernel_rfl) (show a'.eval (.tmp 123) = .bool true from hd.get 13 123 (by kernel_rfl) (by kernel_rfl)), rg_op fun K hK => by
      have e0 := (hs.get 3 (by kernel_rfl)).trans (show _ = .pointer (some ⟨w.heap.size, 0, none⟩) from rfl)
      have ec : ∀ v, a'.eval (.const v) = v := fun _ => rfl
      have c0 := keep hb l0
      have c1 := keep hb l1
      have c2 := keep hb l2
      clear hs hd
      unfold Oper.wp
      generalize a'.eval = ρ at e0 ec ⊢
      simp [go_sem, e0, c0, c1, c2]
      exact hK _ _ (Below.refl _ _) rfl⟩) <|
        allOps_cons (fun a' w' hb hs hd => Or.inl ⟨wanted_t (j := 13) (d := 123) rfl (by kernel_rfl) (show a'.eval (.tmp 123) = .bool true from hd.get 13 123 (by kernel_rfl) (by kernel_rfl)), rg_op fun K hK => by
      have e0 := (hs.get 1 (by kernel_rfl)).trans (show _ = .int .i64 n from rfl)
      have ec : ∀ v, a'.eval (.const v) = v := fun _ => rfl
      clear hs hd
      unfold Oper.wp
      generalize a'.eval = ρ at e0 ec ⊢
      simp [go_sem, e0]
      exact hK _ _ (Below.refl _ _) rfl⟩) <|
        allOps_cons (fun a' w' hb hs hd => Or.inl ⟨wanted_t (j := 13) (d := 123) rfl (by kernel_rfl) (show a'.eval (.tmp 123) = .bool true from hd.get 13 123 (by kernel_rfl) (by kernel_rfl)), by
      exact rg_fn (φ := (mpEq (.agg #[.int .i64 x, .int .i64 y, .int .i64 ch])).p) (vs := #[.agg #[.int .i64 ph, .int .i64 inc, .int .i64 ch], .int .i64 n]) rfl (enters_of Try.func46 (by kernel_rfl) rfl) (by simp [(show a'.eval (.tmp 125) = .agg #[.int .i64 ph, .int .i64 inc, .int .i64 ch] from hd.get 15 125 (by kernel_rfl) (by kernel_rfl)), (show a'.eval (.tmp 126) = .int .i64 n from hd.get 16 126 (by kernel_rfl) (by kernel_rfl))]) ((HRA.out w').mono (by rintro e w1 ⟨rfl, h1⟩; exact ⟨_, rfl, h1, rfl⟩))⟩) <|
        allOps_cons (fun a' w' hb hs hd => Or.inl ⟨wanted_t (j := 13) (d := 123) rfl (by kernel_rfl) (show a'.eval (.tmp 123) = .bool true from hd.get 13 123 (by kernel_rfl) (by kernel_rfl)), rg_op fun K hK => by
      have e0 := (show a'.eval (.tmp 124) = .agg #[.int .i64 x, .int .i64 y, .int .i64 ch] from hd.get 14 124 (by kernel_rfl) (by kernel_rfl))
      have e1 := (show a'.eval (.tmp 127) = .agg #[.int .i64 x, .int .i64 y, .int .i64 ch] from hd.get 17 127 (by kernel_rfl) (by kernel_rfl))
      have ec : ∀ v, a'.eval (.const v) = v := fun _ => rfl
      clear hs hd
      unfold Oper.wp
      generalize a'.eval = ρ at e0 e1 ec ⊢
      simp [go_sem, e0, e1]
      exact hK _ _ (Below.refl _ _) rfl⟩) <|
        allOps_cons (fun a' w' hb hs hd => Or.inl ⟨wanted_n rfl, rg_op fun K hK => by
      have e0 := (show a'.eval (.tmp 123) = .bool true from hd.get 13 123 (by kernel_rfl) (by kernel_rfl))
      have e1 := (show a'.eval (.tmp 128) = .bool true from hd.get 18 128 (by kernel_rfl) (by kernel_rfl))
      have ec : ∀ v, a'.eval (.const v) = v := fun _ => rfl
      clear hs hd
      unfold Oper.wp
      generalize a'.eval = ρ at e0 e1 ec ⊢
      simp [go_sem, e0, e1, ec]
      exact hK _ _ (Below.refl _ _) rfl⟩) <|
        allOps_cons (fun a' w' hb hs hd => Or.inl ⟨wanted_n rfl, rg_op fun K hK => by
      have e0 := (show a'.eval (.tmp 129) = .bool true from hd.get 19 129 (by kernel_rfl) (by kernel_rfl))
      have ec : ∀ v, a'.eval (.const v) = v := fun _ => rfl
      clear hs hd
      unfold Oper.wp
      generalize a'.eval = ρ at e0 ec ⊢
      simp [go_sem, e0]
      exact hK _ _ (Below.refl _ _) rfl⟩) <| allOps_nil) (fun V v1 hv1 hall => ?_)
  have h6 : V 6 = .bool true := hall.get 20 rfl
  clear hall
  simp only [nz0, maskPut, Nat.reduceAdd]
  rw [h6]
  clear h6
  have BV1 := Lib.hid (belowT BV0 hv1)
  clear hv1 BV0
  go_wp2_with fail
  go_ret
  exact ⟨rfl, BV1.out⟩

end Go.Proofs.Ytpkacfgmojblbaa
