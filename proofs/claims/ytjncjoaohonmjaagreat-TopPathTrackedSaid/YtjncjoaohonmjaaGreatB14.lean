/- Helpers: vectors between two tracks. -/
import Derived.Test.YtjncjoaohonmjaaGreatB08
import Derived.StillTailTactics
import Derived.Deep.DeepCutAuto
import Derived.Deep.RegionHeld3
namespace Go.Proofs.YtjncjoaohonmjaaGreat
open Go.RowKit Go.Shelf Go.Sort
attribute [local go_sem] idx3_0 idx3_1 idx3_2 old1 fro1 old2 fro2 old3 fro3 old4 fro4 old5 fro5 old6 fro6 old7 fro7 old8 fro8 old9 fro9 old10 fro10 old11 fro11 old12 fro12
def VI (w : World) (R AB BB F T : Nat) (da db : Int) (f t : Plc) (wx : World) : Prop :=
  (Below w.heap.size w wx ∧ w.heap.size ≤ R) ∧
  (wx.cell? ⟨R, 0, none⟩ = some (.int .i64 0) ∧ wx.cell? ⟨R, 1, none⟩ = some (.int .i64 0) ∧ wx.cell? ⟨R, 2, none⟩ = some (.int .i64 0) ∧ wx.cell? ⟨R, 3, none⟩ = some (.int .i64 0) ∧ wx.cell? ⟨R, 4, none⟩ = some (.int .i64 0)) ∧
  (wx.frozen? ⟨R, 0, none⟩ = false ∧ wx.frozen? ⟨R, 1, none⟩ = false ∧ wx.frozen? ⟨R, 2, none⟩ = false ∧ wx.frozen? ⟨R, 3, none⟩ = false ∧ wx.frozen? ⟨R, 4, none⟩ = false) ∧
  (wx.cell? ⟨AB, 1, none⟩ = some (.int .i64 da) ∧ wx.cell? ⟨BB, 1, none⟩ = some (.int .i64 db)) ∧
  (wx.cell? ⟨F, 0, none⟩ = some (.int .i64 f.x) ∧ wx.cell? ⟨F, 1, none⟩ = some (.int .i64 f.y) ∧ wx.cell? ⟨F, 2, none⟩ = some (.int .i64 f.z) ∧ wx.cell? ⟨F, 3, none⟩ = some (.int .i64 f.n)) ∧
  (wx.cell? ⟨T, 0, none⟩ = some (.int .i64 t.x) ∧ wx.cell? ⟨T, 1, none⟩ = some (.int .i64 t.y) ∧ wx.cell? ⟨T, 2, none⟩ = some (.int .i64 t.z) ∧ wx.cell? ⟨T, 3, none⟩ = some (.int .i64 t.n))
def VJ (w : World) (R F T D : Nat) (f t : Plc) (v0 v1 v2 vn vd : Int) (wx : World) : Prop :=
  (Below w.heap.size w wx ∧ w.heap.size ≤ R ∧ w.heap.size ≤ D ∧ D ≠ R ∧ D ≠ F ∧ D ≠ T) ∧
  (wx.cell? ⟨R, 0, none⟩ = some (.int .i64 0) ∧ wx.cell? ⟨R, 1, none⟩ = some (.int .i64 0) ∧ wx.cell? ⟨R, 2, none⟩ = some (.int .i64 0) ∧ wx.cell? ⟨R, 3, none⟩ = some (.int .i64 0) ∧ wx.cell? ⟨R, 4, none⟩ = some (.int .i64 0)) ∧
  (wx.frozen? ⟨R, 0, none⟩ = false ∧ wx.frozen? ⟨R, 1, none⟩ = false ∧ wx.frozen? ⟨R, 2, none⟩ = false ∧ wx.frozen? ⟨R, 3, none⟩ = false ∧ wx.frozen? ⟨R, 4, none⟩ = false) ∧
  (wx.cell? ⟨F, 0, none⟩ = some (.int .i64 f.x) ∧ wx.cell? ⟨F, 1, none⟩ = some (.int .i64 f.y) ∧ wx.cell? ⟨F, 2, none⟩ = some (.int .i64 f.z) ∧ wx.cell? ⟨F, 3, none⟩ = some (.int .i64 f.n)) ∧
  (wx.cell? ⟨T, 0, none⟩ = some (.int .i64 t.x) ∧ wx.cell? ⟨T, 1, none⟩ = some (.int .i64 t.y) ∧ wx.cell? ⟨T, 2, none⟩ = some (.int .i64 t.z) ∧ wx.cell? ⟨T, 3, none⟩ = some (.int .i64 t.n)) ∧
  (wx.cell? ⟨D, 0, none⟩ = some (.int .i64 v0) ∧ wx.cell? ⟨D, 1, none⟩ = some (.int .i64 v1) ∧ wx.cell? ⟨D, 2, none⟩ = some (.int .i64 v2) ∧ wx.cell? ⟨D, 3, none⟩ = some (.int .i64 vn) ∧ wx.cell? ⟨D, 4, none⟩ = some (.int .i64 vd)) ∧
  (wx.frozen? ⟨D, 0, none⟩ = false ∧ wx.frozen? ⟨D, 1, none⟩ = false ∧ wx.frozen? ⟨D, 2, none⟩ = false ∧ wx.frozen? ⟨D, 3, none⟩ = false ∧ wx.frozen? ⟨D, 4, none⟩ = false)
theorem VJ.step0 {w wx : World} {R F T D : Nat} {f t : Plc} {v0 v1 v2 vn vd : Int} (h : VJ w R F T D f t v0 v1 v2 vn vd wx) (u : Int) :
    VJ w R F T D f t u v1 v2 vn vd (wx.setCell ⟨D, 0, none⟩ (.int .i64 u)).drew := by
  obtain ⟨⟨h1, h2, h3, h4, h5, h6⟩, ⟨r0, r1, r2, r3, r4⟩, ⟨q0, q1, q2, q3, q4⟩, ⟨f0, f1, f2, f3⟩, ⟨t0, t1, t2, t3⟩, ⟨d0, d1, d2, d3, d4⟩, ⟨e0, e1, e2, e3, e4⟩⟩ := h
  have n4 := Ne.symm h4
  have n5 := Ne.symm h5
  have n6 := Ne.symm h6
  refine ⟨⟨by (repeat (first | with_reducible exact Below.refl _ _ | with_reducible assumption | with_reducible refine Below.alloc ?_ (by first | (simp; done) | (simp; omega) | omega) _ | with_reducible refine Below.setCell ?_ (by first | (simp; done) | (simp; omega) | omega) _ | with_reducible refine Below.drew ?_ | with_reducible refine below_drewN ?_ _)), h2, h3, h4, h5, h6⟩, ⟨?_, ?_, ?_, ?_, ?_⟩, ⟨?_, ?_, ?_, ?_, ?_⟩, ⟨?_, ?_, ?_, ?_⟩, ⟨?_, ?_, ?_, ?_⟩, ⟨?_, ?_, ?_, ?_, ?_⟩, ⟨?_, ?_, ?_, ?_, ?_⟩⟩
  all_goals simp [go_sem, *]
theorem VJ.step1 {w wx : World} {R F T D : Nat} {f t : Plc} {v0 v1 v2 vn vd : Int} (h : VJ w R F T D f t v0 v1 v2 vn vd wx) (u : Int) :
    VJ w R F T D f t v0 u v2 vn vd (wx.setCell ⟨D, 1, none⟩ (.int .i64 u)).drew := by
  obtain ⟨⟨h1, h2, h3, h4, h5, h6⟩, ⟨r0, r1, r2, r3, r4⟩, ⟨q0, q1, q2, q3, q4⟩, ⟨f0, f1, f2, f3⟩, ⟨t0, t1, t2, t3⟩, ⟨d0, d1, d2, d3, d4⟩, ⟨e0, e1, e2, e3, e4⟩⟩ := h
  have n4 := Ne.symm h4
  have n5 := Ne.symm h5
  have n6 := Ne.symm h6
  refine ⟨⟨by (repeat (first | with_reducible exact Below.refl _ _ | with_reducible assumption | with_reducible refine Below.alloc ?_ (by first | (simp; done) | (simp; omega) | omega) _ | with_reducible refine Below.setCell ?_ (by first | (simp; done) | (simp; omega) | omega) _ | with_reducible refine Below.drew ?_ | with_reducible refine below_drewN ?_ _)), h2, h3, h4, h5, h6⟩, ⟨?_, ?_, ?_, ?_, ?_⟩, ⟨?_, ?_, ?_, ?_, ?_⟩, ⟨?_, ?_, ?_, ?_⟩, ⟨?_, ?_, ?_, ?_⟩, ⟨?_, ?_, ?_, ?_, ?_⟩, ⟨?_, ?_, ?_, ?_, ?_⟩⟩
  all_goals simp [go_sem, *]
theorem VJ.step2 {w wx : World} {R F T D : Nat} {f t : Plc} {v0 v1 v2 vn vd : Int} (h : VJ w R F T D f t v0 v1 v2 vn vd wx) (u : Int) :
    VJ w R F T D f t v0 v1 u vn vd (wx.setCell ⟨D, 2, none⟩ (.int .i64 u)).drew := by
  obtain ⟨⟨h1, h2, h3, h4, h5, h6⟩, ⟨r0, r1, r2, r3, r4⟩, ⟨q0, q1, q2, q3, q4⟩, ⟨f0, f1, f2, f3⟩, ⟨t0, t1, t2, t3⟩, ⟨d0, d1, d2, d3, d4⟩, ⟨e0, e1, e2, e3, e4⟩⟩ := h
  have n4 := Ne.symm h4
  have n5 := Ne.symm h5
  have n6 := Ne.symm h6
  refine ⟨⟨by (repeat (first | with_reducible exact Below.refl _ _ | with_reducible assumption | with_reducible refine Below.alloc ?_ (by first | (simp; done) | (simp; omega) | omega) _ | with_reducible refine Below.setCell ?_ (by first | (simp; done) | (simp; omega) | omega) _ | with_reducible refine Below.drew ?_ | with_reducible refine below_drewN ?_ _)), h2, h3, h4, h5, h6⟩, ⟨?_, ?_, ?_, ?_, ?_⟩, ⟨?_, ?_, ?_, ?_, ?_⟩, ⟨?_, ?_, ?_, ?_⟩, ⟨?_, ?_, ?_, ?_⟩, ⟨?_, ?_, ?_, ?_, ?_⟩, ⟨?_, ?_, ?_, ?_, ?_⟩⟩
  all_goals simp [go_sem, *]
theorem nn_bd {a b : Int} (h1 : 1 ≤ a) (h2 : a ≤ 10000) (h3 : 1 ≤ b) (h4 : b ≤ 10000) : 1 ≤ a * b ∧ a * b ≤ 100000000 := by
  have e1 := Int.mul_le_mul h1 h3 (by decide) (by omega)
  have e2 := Int.mul_le_mul h2 h4 (by omega) (by decide)
  omega
set_option maxRecDepth 100000 in
set_option maxHeartbeats 4000000 in
theorem vectorBetween_x (w : World) (A B : Trk) (s r : Int) (f t : Plc) (hf : f.ok) (ht : t.ok) (dA : 0 ≤ A.d ∧ A.d ≤ 1000) (dB : 0 ≤ B.d ∧ B.d ≤ 1000)
    (hA : ∀ W, Below w.heap.size w W → Calls Tryz.prog 32 #[.agg #[.slice (some ⟨A.b, A.off, none⟩) A.n A.c, .int .i64 A.d], .int .i64 s] W fun e w' => e = .returned (.agg #[.int .i64 f.x, .int .i64 f.y, .int .i64 f.z, .int .i64 f.n]) ∧ Below W.heap.size W w')
    (hB : ∀ W, Below w.heap.size w W → Calls Tryz.prog 32 #[.agg #[.slice (some ⟨B.b, B.off, none⟩) B.n B.c, .int .i64 B.d], .int .i64 r] W fun e w' => e = .returned (.agg #[.int .i64 t.x, .int .i64 t.y, .int .i64 t.z, .int .i64 t.n]) ∧ Below W.heap.size W w') :
    Calls Tryz.prog 52 #[.agg #[A.v, .int .i64 A.d], .agg #[B.v, .int .i64 B.d], .agg #[.int .i64 s, .int .i64 r]] w fun e w' => e = .returned (.agg #[.int .i64 (t.x * f.n - f.x * t.n), .int .i64 (t.y * f.n - f.y * t.n), .int .i64 (t.z * f.n - f.z * t.n), .int .i64 (f.n * t.n), .int .i64 ((A.d + B.d) * (f.n * t.n))]) ∧ Below w.heap.size w w' := by
  have HA := Lib.hid hA
  have HB := Lib.hid hB
  clear hA hB
  unfold Trk.v
  go_enter Tryz.func52, Tryz.ntmps52
  go_wp2_with fail
  go_cut [7, 8] (fun s7 s8 wx => ∃ F T : Nat, s7 = .pointer (some ⟨F, 0, none⟩) ∧ s8 = .pointer (some ⟨T, 0, none⟩) ∧ VI w (w.heap.size + 1 + 1 + 1) w.heap.size (w.heap.size + 1) F T A.d B.d f t wx)
  case first =>
    go_region_held3 (fun w' => w'.cell? ⟨w.heap.size, 0, none⟩ = some (.slice (some ⟨A.b, A.off, none⟩) A.n A.c) ∧ w'.cell? ⟨w.heap.size, 1, none⟩ = some (.int .i64 A.d) ∧ w'.cell? ⟨w.heap.size + 1, 0, none⟩ = some (.slice (some ⟨B.b, B.off, none⟩) B.n B.c) ∧ w'.cell? ⟨w.heap.size + 1, 1, none⟩ = some (.int .i64 B.d) ∧ w'.cell? ⟨w.heap.size + 1 + 1, 0, none⟩ = some (.int .i64 s) ∧ w'.cell? ⟨w.heap.size + 1 + 1, 1, none⟩ = some (.int .i64 r)) (simp [go_sem, *])
      (first | (go_at_call 32; (with_reducible refine Calls.mono (HA.out _ ?_) ?_); (focus (repeat (first | with_reducible exact Below.refl _ _ | with_reducible assumption | with_reducible refine Below.alloc ?_ (by first | (simp; done) | (simp; omega) | omega) _ | with_reducible refine Below.setCell ?_ (by first | (simp; done) | (simp; omega) | omega) _ | with_reducible refine Below.drew ?_ | with_reducible refine below_drewN ?_ _))); rintro e w1 ⟨rfl, hb1⟩; go_must (have a0 := (hb1.cell (p := ⟨w.heap.size, 0, none⟩) (by first | (simp; done) | (simp; omega) | omega)).trans (show _ = some (Value.slice (some ⟨A.b, A.off, none⟩) A.n A.c) by simp [go_sem, *])); go_must (have a1 := (hb1.cell (p := ⟨w.heap.size, 1, none⟩) (by first | (simp; done) | (simp; omega) | omega)).trans (show _ = some (Value.int .i64 A.d) by simp [go_sem, *])); go_must (have b0 := (hb1.cell (p := ⟨w.heap.size + 1, 0, none⟩) (by first | (simp; done) | (simp; omega) | omega)).trans (show _ = some (Value.slice (some ⟨B.b, B.off, none⟩) B.n B.c) by simp [go_sem, *])); go_must (have b1 := (hb1.cell (p := ⟨w.heap.size + 1, 1, none⟩) (by first | (simp; done) | (simp; omega) | omega)).trans (show _ = some (Value.int .i64 B.d) by simp [go_sem, *])); go_must (have t0 := (hb1.cell (p := ⟨w.heap.size + 1 + 1, 0, none⟩) (by first | (simp; done) | (simp; omega) | omega)).trans (show _ = some (Value.int .i64 s) by simp [go_sem, *])); go_must (have t1 := (hb1.cell (p := ⟨w.heap.size + 1 + 1, 1, none⟩) (by first | (simp; done) | (simp; omega) | omega)).trans (show _ = some (Value.int .i64 r) by simp [go_sem, *])); go_must (have r0 := (hb1.cell (p := ⟨w.heap.size + 1 + 1 + 1, 0, none⟩) (by first | (simp; done) | (simp; omega) | omega)).trans (show _ = some (Value.int .i64 0) by simp [go_sem, *])); go_must (have r1 := (hb1.cell (p := ⟨w.heap.size + 1 + 1 + 1, 1, none⟩) (by first | (simp; done) | (simp; omega) | omega)).trans (show _ = some (Value.int .i64 0) by simp [go_sem, *])); go_must (have r2 := (hb1.cell (p := ⟨w.heap.size + 1 + 1 + 1, 2, none⟩) (by first | (simp; done) | (simp; omega) | omega)).trans (show _ = some (Value.int .i64 0) by simp [go_sem, *])); go_must (have r3 := (hb1.cell (p := ⟨w.heap.size + 1 + 1 + 1, 3, none⟩) (by first | (simp; done) | (simp; omega) | omega)).trans (show _ = some (Value.int .i64 0) by simp [go_sem, *])); go_must (have r4 := (hb1.cell (p := ⟨w.heap.size + 1 + 1 + 1, 4, none⟩) (by first | (simp; done) | (simp; omega) | omega)).trans (show _ = some (Value.int .i64 0) by simp [go_sem, *])); go_must (have q0 := (hb1.frozen (p := ⟨w.heap.size + 1 + 1 + 1, 0, none⟩) (by first | (simp; done) | (simp; omega) | omega)).trans (show _ = false by simp [go_sem, *])); go_must (have q1 := (hb1.frozen (p := ⟨w.heap.size + 1 + 1 + 1, 1, none⟩) (by first | (simp; done) | (simp; omega) | omega)).trans (show _ = false by simp [go_sem, *])); go_must (have q2 := (hb1.frozen (p := ⟨w.heap.size + 1 + 1 + 1, 2, none⟩) (by first | (simp; done) | (simp; omega) | omega)).trans (show _ = false by simp [go_sem, *])); go_must (have q3 := (hb1.frozen (p := ⟨w.heap.size + 1 + 1 + 1, 3, none⟩) (by first | (simp; done) | (simp; omega) | omega)).trans (show _ = false by simp [go_sem, *])); go_must (have q4 := (hb1.frozen (p := ⟨w.heap.size + 1 + 1 + 1, 4, none⟩) (by first | (simp; done) | (simp; omega) | omega)).trans (show _ = false by simp [go_sem, *])); go_must (have hB1 := (by (repeat (first | with_reducible exact Below.refl _ _ | with_reducible assumption | with_reducible refine Below.alloc ?_ (by first | (simp; done) | (simp; omega) | omega) _ | with_reducible refine Below.setCell ?_ (by first | (simp; done) | (simp; omega) | omega) _ | with_reducible refine Below.drew ?_ | with_reducible refine below_drewN ?_ _)) : Below w.heap.size w _).trans (hb1.mono (by first | (simp; done) | (simp; omega) | omega))); go_must (obtain ⟨hcA, hfA⟩ := bcell hb1); go_must (have hz1 := hb1.size); go_must (simp at hz1); go_must (have hs1 : w.heap.size ≤ w1.heap.size := by omega); go_must (replace hz1 := Nat.lt_of_succ_le hz1); go_must (have hz1_m := Nat.lt_of_succ_lt hz1); go_must (have hz1_0 := Nat.lt_add_one_of_lt hz1); go_must (have hz1_1 := Nat.lt_add_one_of_lt hz1_0); go_must (clear hb1)) | (go_at_call 32; (with_reducible refine Calls.mono (HB.out _ ?_) ?_); (focus (repeat (first | with_reducible exact Below.refl _ _ | with_reducible assumption | with_reducible refine Below.alloc ?_ (by first | (simp; done) | (simp; omega) | omega) _ | with_reducible refine Below.setCell ?_ (by first | (simp; done) | (simp; omega) | omega) _ | with_reducible refine Below.drew ?_ | with_reducible refine below_drewN ?_ _))); rintro e w2 ⟨rfl, hb1⟩; go_must (have a0_ := (hb1.cell (p := ⟨w.heap.size, 0, none⟩) (by first | (simp; done) | (simp; omega) | omega)).trans (show _ = some (Value.slice (some ⟨A.b, A.off, none⟩) A.n A.c) by simp [go_sem, *])); go_must (have a1_ := (hb1.cell (p := ⟨w.heap.size, 1, none⟩) (by first | (simp; done) | (simp; omega) | omega)).trans (show _ = some (Value.int .i64 A.d) by simp [go_sem, *])); go_must (have b0_ := (hb1.cell (p := ⟨w.heap.size + 1, 0, none⟩) (by first | (simp; done) | (simp; omega) | omega)).trans (show _ = some (Value.slice (some ⟨B.b, B.off, none⟩) B.n B.c) by simp [go_sem, *])); go_must (have b1_ := (hb1.cell (p := ⟨w.heap.size + 1, 1, none⟩) (by first | (simp; done) | (simp; omega) | omega)).trans (show _ = some (Value.int .i64 B.d) by simp [go_sem, *])); go_must (have t0_ := (hb1.cell (p := ⟨w.heap.size + 1 + 1, 0, none⟩) (by first | (simp; done) | (simp; omega) | omega)).trans (show _ = some (Value.int .i64 s) by simp [go_sem, *])); go_must (have t1_ := (hb1.cell (p := ⟨w.heap.size + 1 + 1, 1, none⟩) (by first | (simp; done) | (simp; omega) | omega)).trans (show _ = some (Value.int .i64 r) by simp [go_sem, *])); go_must (have r0_ := (hb1.cell (p := ⟨w.heap.size + 1 + 1 + 1, 0, none⟩) (by first | (simp; done) | (simp; omega) | omega)).trans (show _ = some (Value.int .i64 0) by simp [go_sem, *])); go_must (have r1_ := (hb1.cell (p := ⟨w.heap.size + 1 + 1 + 1, 1, none⟩) (by first | (simp; done) | (simp; omega) | omega)).trans (show _ = some (Value.int .i64 0) by simp [go_sem, *])); go_must (have r2_ := (hb1.cell (p := ⟨w.heap.size + 1 + 1 + 1, 2, none⟩) (by first | (simp; done) | (simp; omega) | omega)).trans (show _ = some (Value.int .i64 0) by simp [go_sem, *])); go_must (have r3_ := (hb1.cell (p := ⟨w.heap.size + 1 + 1 + 1, 3, none⟩) (by first | (simp; done) | (simp; omega) | omega)).trans (show _ = some (Value.int .i64 0) by simp [go_sem, *])); go_must (have r4_ := (hb1.cell (p := ⟨w.heap.size + 1 + 1 + 1, 4, none⟩) (by first | (simp; done) | (simp; omega) | omega)).trans (show _ = some (Value.int .i64 0) by simp [go_sem, *])); go_must (have q0_ := (hb1.frozen (p := ⟨w.heap.size + 1 + 1 + 1, 0, none⟩) (by first | (simp; done) | (simp; omega) | omega)).trans (show _ = false by simp [go_sem, *])); go_must (have q1_ := (hb1.frozen (p := ⟨w.heap.size + 1 + 1 + 1, 1, none⟩) (by first | (simp; done) | (simp; omega) | omega)).trans (show _ = false by simp [go_sem, *])); go_must (have q2_ := (hb1.frozen (p := ⟨w.heap.size + 1 + 1 + 1, 2, none⟩) (by first | (simp; done) | (simp; omega) | omega)).trans (show _ = false by simp [go_sem, *])); go_must (have q3_ := (hb1.frozen (p := ⟨w.heap.size + 1 + 1 + 1, 3, none⟩) (by first | (simp; done) | (simp; omega) | omega)).trans (show _ = false by simp [go_sem, *])); go_must (have q4_ := (hb1.frozen (p := ⟨w.heap.size + 1 + 1 + 1, 4, none⟩) (by first | (simp; done) | (simp; omega) | omega)).trans (show _ = false by simp [go_sem, *])); go_must (have hB2 := (by (repeat (first | with_reducible exact Below.refl _ _ | with_reducible assumption | with_reducible refine Below.alloc ?_ (by first | (simp; done) | (simp; omega) | omega) _ | with_reducible refine Below.setCell ?_ (by first | (simp; done) | (simp; omega) | omega) _ | with_reducible refine Below.drew ?_ | with_reducible refine below_drewN ?_ _)) : Below w.heap.size w _).trans (hb1.mono (by first | (simp; done) | (simp; omega) | omega))); go_must (obtain ⟨hcB, hfB⟩ := bcell hb1); go_must (have hz2 := hb1.size); go_must ((try simp at hz2)); go_must (have hs2 : w.heap.size ≤ w2.heap.size := by omega); go_must (clear hb1); (try have hk1 : w.heap.size + 1 + 1 + 1 + 1 < w2.heap.size := by omega); (try have hk2 : w.heap.size + 1 + 1 + 1 + 1 + 1 < w2.heap.size := by omega); have hg1 : w1.heap.size < w1.heap.size + 1 + 1 := (by omega); have hg2 : w1.heap.size + 1 < w1.heap.size + 1 + 1 := (by omega); (try have hn0 : w1.heap.size ≠ w2.heap.size := by omega); (try have hm0 : w2.heap.size ≠ w1.heap.size := by omega); (try have hn1 : w1.heap.size ≠ w2.heap.size + 1 := by omega); (try have hm1 : w2.heap.size + 1 ≠ w1.heap.size := by omega); (try have hn2 : w1.heap.size + 1 ≠ w2.heap.size := by omega); (try have hm2 : w2.heap.size ≠ w1.heap.size + 1 := by omega); (try have hn3 : w1.heap.size + 1 ≠ w2.heap.size + 1 := by omega); (try have hm3 : w2.heap.size + 1 ≠ w1.heap.size + 1 := by omega); (try have hn4 : w.heap.size + 1 + 1 + 1 + 1 ≠ w2.heap.size := by omega); (try have hm4 : w2.heap.size ≠ w.heap.size + 1 + 1 + 1 + 1 := by omega); (try have hn5 : w.heap.size + 1 + 1 + 1 + 1 ≠ w2.heap.size + 1 := by omega); (try have hm5 : w2.heap.size + 1 ≠ w.heap.size + 1 + 1 + 1 + 1 := by omega); (try have hn6 : w.heap.size + 1 + 1 + 1 + 1 ≠ w1.heap.size := by omega); (try have hm6 : w1.heap.size ≠ w.heap.size + 1 + 1 + 1 + 1 := by omega); (try have hn7 : w.heap.size + 1 + 1 + 1 + 1 ≠ w1.heap.size + 1 := by omega); (try have hm7 : w1.heap.size + 1 ≠ w.heap.size + 1 + 1 + 1 + 1 := by omega); (try have hn8 : w.heap.size + 1 + 1 + 1 + 1 + 1 ≠ w2.heap.size := by omega); (try have hm8 : w2.heap.size ≠ w.heap.size + 1 + 1 + 1 + 1 + 1 := by omega); (try have hn9 : w.heap.size + 1 + 1 + 1 + 1 + 1 ≠ w2.heap.size + 1 := by omega); (try have hm9 : w2.heap.size + 1 ≠ w.heap.size + 1 + 1 + 1 + 1 + 1 := by omega); (try have hn10 : w.heap.size + 1 + 1 + 1 + 1 + 1 ≠ w1.heap.size := by omega); (try have hm10 : w1.heap.size ≠ w.heap.size + 1 + 1 + 1 + 1 + 1 := by omega); (try have hn11 : w.heap.size + 1 + 1 + 1 + 1 + 1 ≠ w1.heap.size + 1 := by omega); (try have hm11 : w1.heap.size + 1 ≠ w.heap.size + 1 + 1 + 1 + 1 + 1 := by omega); (try have hl12 : w1.heap.size < w2.heap.size := by omega); (try have hl13 : w1.heap.size + 1 < w2.heap.size := by omega)))
    all_goals
      go_wp2_with fail
      go_meet
      case rel =>
        refine ⟨_, _, rfl, rfl, ⟨?_, ?_⟩, ⟨?_, ?_, ?_, ?_, ?_⟩, ⟨?_, ?_, ?_, ?_, ?_⟩, ⟨?_, ?_⟩, ⟨?_, ?_, ?_, ?_⟩, ⟨?_, ?_, ?_, ?_⟩⟩
        all_goals first | omega | (simp [go_sem, *]; done) | (repeat (first | with_reducible exact Below.refl _ _ | with_reducible assumption | with_reducible refine Below.alloc ?_ (by first | (simp; done) | (simp; omega) | omega) _ | with_reducible refine Below.setCell ?_ (by first | (simp; done) | (simp; omega) | omega) _ | with_reducible refine Below.drew ?_ | with_reducible refine below_drewN ?_ _))
  case rest =>
    obtain ⟨F, T, rfl, rfl, hP⟩ := hcut
    generalize w.heap.size + 1 + 1 + 1 = R at *
    generalize w.heap.size + 1 + 1 = TB at *
    generalize w.heap.size + 1 = BB at *
    obtain ⟨m1, m2⟩ := nn_bd hf.1.1 hf.1.2 ht.1.1 ht.1.2
    have m3 := mul_bd (a := A.d + B.d) (A := 2000) (t := f.n * t.n) (T := 100000000) (by omega) (by omega) (by omega) m2 (by decide)
    obtain ⟨m4, m5⟩ := m3
    obtain ⟨⟨p1, p2⟩, ⟨r0, r1, r2, r3, r4⟩, ⟨q0, q1, q2, q3, q4⟩, ⟨a1, b1⟩, ⟨f0, f1, f2, f3⟩, ⟨t0, t1, t2, t3⟩⟩ := hP
    go_wp2_with fail
    have nR := World.block_lt_of_cell? _ _ r0
    have nF := World.block_lt_of_cell? _ _ f0
    have nT := World.block_lt_of_cell? _ _ t0
    simp at nR nF nT
    have ps := p1.size
    go_loopw [36] (fun i wr => ∃ j : Int, 0 ≤ j ∧ j ≤ 3 ∧ i = .int .i64 j ∧ VJ w R F T wc.heap.size f t (sel 0 j 0 (t.x * f.n - f.x * t.n)) (sel 1 j 0 (t.y * f.n - f.y * t.n)) (sel 2 j 0 (t.z * f.n - f.z * t.n)) (f.n * t.n) ((A.d + B.d) * (f.n * t.n)) wr) (fun i _ => 3 - (intOf i).toNat)
    case atStart =>
      refine ⟨0, by omega, by omega, rfl, ⟨?_, ?_, ?_, ?_, ?_, ?_⟩, ⟨?_, ?_, ?_, ?_, ?_⟩, ⟨?_, ?_, ?_, ?_, ?_⟩, ⟨?_, ?_, ?_, ?_⟩, ⟨?_, ?_, ?_, ?_⟩, ⟨?_, ?_, ?_, ?_, ?_⟩, ⟨?_, ?_, ?_, ?_, ?_⟩⟩
      all_goals first | omega | (simp [go_sem, sel, *]; done) | (repeat (first | with_reducible exact Below.refl _ _ | with_reducible assumption | with_reducible refine Below.alloc ?_ (by first | (simp; done) | (simp; omega) | omega) _ | with_reducible refine Below.setCell ?_ (by first | (simp; done) | (simp; omega) | omega) _ | with_reducible refine Below.drew ?_ | with_reducible refine below_drewN ?_ _))
    case round =>
      clear p1 p2 r0 r1 r2 r3 r4 q0 q1 q2 q3 q4 a1 b1 f0 f1 f2 f3 t0 t1 t2 t3
      generalize wc.heap.size = D at *
      obtain ⟨j, hj0, hj, rfl, hP⟩ := hrel
      obtain ⟨fn, fx, fy, fz⟩ := hf
      obtain ⟨tn, tx, ty, tz⟩ := ht
      rcases (by omega : j = 0 ∨ j = 1 ∨ j = 2 ∨ j = 3) with rfl | rfl | rfl | rfl
      · have HP := Lib.hid hP
        have b3 := mul_bd tx.1 tx.2 (show 0 ≤ f.n by omega) (show f.n ≤ 10000 by omega) (by decide)
        have b4 := mul_bd fx.1 fx.2 (show 0 ≤ t.n by omega) (show t.n ≤ 10000 by omega) (by decide)
        have s3 : IntKind.i64.wrap (t.x * f.n) = t.x * f.n := IntWalk.i64_in _ (by omega)
        have s4 : IntKind.i64.wrap (f.x * t.n) = f.x * t.n := IntWalk.i64_in _ (by omega)
        have s5 : IntKind.i64.wrap (t.x * f.n - f.x * t.n) = t.x * f.n - f.x * t.n := IntWalk.i64_in _ (by omega)
        clear b3 b4 fn fx fy fz tn tx ty tz
        simp only [sel, Int.reduceLT, if_false] at hP
        obtain ⟨⟨h1, h2, h3, h4, h5, h6⟩, ⟨r0, r1, r2, r3, r4⟩, ⟨q0, q1, q2, q3, q4⟩, ⟨f0, f1, f2, f3⟩, ⟨t0, t1, t2, t3⟩, ⟨d0, d1, d2, d3, d4⟩, ⟨e0, e1, e2, e3, e4⟩⟩ := hP
        go_wp2_with fail
        go_still_tail 19, (by kernel_rfl)
        go_wp2
        go_roundw
        case rel => exact ⟨1, by omega, by omega, rfl, HP.out.step0 _⟩
        case measure => simp [intOf]
      · have HP := Lib.hid hP
        have b3 := mul_bd ty.1 ty.2 (show 0 ≤ f.n by omega) (show f.n ≤ 10000 by omega) (by decide)
        have b4 := mul_bd fy.1 fy.2 (show 0 ≤ t.n by omega) (show t.n ≤ 10000 by omega) (by decide)
        have s3 : IntKind.i64.wrap (t.y * f.n) = t.y * f.n := IntWalk.i64_in _ (by omega)
        have s4 : IntKind.i64.wrap (f.y * t.n) = f.y * t.n := IntWalk.i64_in _ (by omega)
        have s5 : IntKind.i64.wrap (t.y * f.n - f.y * t.n) = t.y * f.n - f.y * t.n := IntWalk.i64_in _ (by omega)
        clear b3 b4 fn fx fy fz tn tx ty tz
        simp only [sel, Int.reduceLT, if_true, if_false] at hP
        obtain ⟨⟨h1, h2, h3, h4, h5, h6⟩, ⟨r0, r1, r2, r3, r4⟩, ⟨q0, q1, q2, q3, q4⟩, ⟨f0, f1, f2, f3⟩, ⟨t0, t1, t2, t3⟩, ⟨d0, d1, d2, d3, d4⟩, ⟨e0, e1, e2, e3, e4⟩⟩ := hP
        go_wp2_with fail
        go_still_tail 19, (by kernel_rfl)
        go_wp2
        go_roundw
        case rel => exact ⟨2, by omega, by omega, rfl, HP.out.step1 _⟩
        case measure => simp [intOf]
      · have HP := Lib.hid hP
        have b3 := mul_bd tz.1 tz.2 (show 0 ≤ f.n by omega) (show f.n ≤ 10000 by omega) (by decide)
        have b4 := mul_bd fz.1 fz.2 (show 0 ≤ t.n by omega) (show t.n ≤ 10000 by omega) (by decide)
        have s3 : IntKind.i64.wrap (t.z * f.n) = t.z * f.n := IntWalk.i64_in _ (by omega)
        have s4 : IntKind.i64.wrap (f.z * t.n) = f.z * t.n := IntWalk.i64_in _ (by omega)
        have s5 : IntKind.i64.wrap (t.z * f.n - f.z * t.n) = t.z * f.n - f.z * t.n := IntWalk.i64_in _ (by omega)
        clear b3 b4 fn fx fy fz tn tx ty tz
        simp only [sel, Int.reduceLT, if_true, if_false] at hP
        obtain ⟨⟨h1, h2, h3, h4, h5, h6⟩, ⟨r0, r1, r2, r3, r4⟩, ⟨q0, q1, q2, q3, q4⟩, ⟨f0, f1, f2, f3⟩, ⟨t0, t1, t2, t3⟩, ⟨d0, d1, d2, d3, d4⟩, ⟨e0, e1, e2, e3, e4⟩⟩ := hP
        go_wp2_with fail
        go_still_tail 19, (by kernel_rfl)
        go_wp2
        go_roundw
        case rel => exact ⟨3, by omega, by omega, rfl, HP.out.step2 _⟩
        case measure => simp [intOf]
      · simp only [sel, Int.reduceLT, if_true] at hP
        obtain ⟨⟨h1, h2, h3, h4, h5, h6⟩, ⟨r0, r1, r2, r3, r4⟩, ⟨q0, q1, q2, q3, q4⟩, ⟨f0, f1, f2, f3⟩, ⟨t0, t1, t2, t3⟩, ⟨d0, d1, d2, d3, d4⟩, ⟨e0, e1, e2, e3, e4⟩⟩ := hP
        go_wp2
        refine bodyPost_ret (v := .agg #[.int .i64 (t.x * f.n - f.x * t.n), .int .i64 (t.y * f.n - f.y * t.n), .int .i64 (t.z * f.n - f.z * t.n), .int .i64 (f.n * t.n), .int .i64 ((A.d + B.d) * (f.n * t.n))]) (by simp [results, Tryz.results52, go_sem, r0, r1, r2, r3, r4]) rfl ⟨rfl, ?_⟩
        (repeat (first | with_reducible exact Below.refl _ _ | with_reducible assumption | with_reducible refine Below.alloc ?_ (by first | (simp; done) | (simp; omega) | omega) _ | with_reducible refine Below.setCell ?_ (by first | (simp; done) | (simp; omega) | omega) _ | with_reducible refine Below.drew ?_ | with_reducible refine below_drewN ?_ _))
end Go.Proofs.YtjncjoaohonmjaaGreat
