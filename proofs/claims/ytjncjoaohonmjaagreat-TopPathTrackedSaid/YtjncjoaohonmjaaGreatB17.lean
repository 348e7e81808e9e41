/- Helpers: vectors of valid tracks. -/
import Derived.Test.YtjncjoaohonmjaaGreatB08
import Derived.Test.YtjncjoaohonmjaaGreatB16
namespace Go.Proofs.YtjncjoaohonmjaaGreat
open Go.RowKit Go.Shelf Go.Sort
attribute [local go_sem] idx3_0 idx3_1 idx3_2 old1 fro1 old2 fro2 old3 fro3 old4 fro4 old5 fro5 old6 fro6 old7 fro7 old8 fro8 old9 fro9 old10 fro10 old11 fro11 old12 fro12
def vx (f t : Plc) : Int := t.x * f.n - f.x * t.n
def vy (f t : Plc) : Int := t.y * f.n - f.y * t.n
def vz (f t : Plc) : Int := t.z * f.n - f.z * t.n
def vn (f t : Plc) : Int := f.n * t.n
def vd (da db : Int) (f t : Plc) : Int := (da + db) * (f.n * t.n)
theorem v_bd {f t : Plc} (hf : f.ok) (ht : t.ok) {da db : Int} (hda : 0 ≤ da ∧ da ≤ 1000) (hdb : 0 ≤ db ∧ db ≤ 1000) :
    (1 ≤ vn f t ∧ vn f t ≤ 100000000) ∧ (-200000000000000 ≤ vx f t ∧ vx f t ≤ 200000000000000) ∧ (-200000000000000 ≤ vy f t ∧ vy f t ≤ 200000000000000) ∧ (-200000000000000 ≤ vz f t ∧ vz f t ≤ 200000000000000) ∧ (0 ≤ vd da db f t ∧ vd da db f t ≤ 200000000000) := by
  obtain ⟨fn, fx, fy, fz⟩ := hf
  obtain ⟨tn, tx, ty, tz⟩ := ht
  have n := nn_bd fn.1 fn.2 tn.1 tn.2
  have m := mul_bd (a := da + db) (A := 2000) (t := f.n * t.n) (T := 100000000) (by omega) (by omega) (by omega) n.2 (by decide)
  have m0 := Int.mul_nonneg (show 0 ≤ da + db by omega) (show 0 ≤ f.n * t.n by omega)
  have a1 := mul_bd tx.1 tx.2 (show 0 ≤ f.n by omega) fn.2 (by decide)
  have a2 := mul_bd fx.1 fx.2 (show 0 ≤ t.n by omega) tn.2 (by decide)
  have b1 := mul_bd ty.1 ty.2 (show 0 ≤ f.n by omega) fn.2 (by decide)
  have b2 := mul_bd fy.1 fy.2 (show 0 ≤ t.n by omega) tn.2 (by decide)
  have c1 := mul_bd tz.1 tz.2 (show 0 ≤ f.n by omega) fn.2 (by decide)
  have c2 := mul_bd fz.1 fz.2 (show 0 ≤ t.n by omega) tn.2 (by decide)
  unfold vn vx vy vz vd
  exact ⟨n, ⟨by omega, by omega⟩, ⟨by omega, by omega⟩, ⟨by omega, by omega⟩, ⟨m0, by omega⟩⟩
/-- A valid track in memory, and a time of it. -/
def VT (w : World) (A : Trk) (s : Int) : Prop := A.At w ∧ ctErr A.k A.n A.d = 0 ∧ outside s A.k A.n = false
theorem VT.below {w w' : World} {A : Trk} {s : Int} (h : VT w A s) (hb : Below w.heap.size w w') : VT w' A s := ⟨h.1.below hb, h.2⟩
def Trk.p (A : Trk) (s : Int) : Plc := plc A.k A.n s
theorem vectorBetween_any (W : World) (A B : Trk) (s r : Int) (hA : VT W A s) (hB : VT W B r) :
    Calls Tryz.prog 52 #[.agg #[A.v, .int .i64 A.d], .agg #[B.v, .int .i64 B.d], .agg #[.int .i64 s, .int .i64 r]] W fun e w' => e = .returned (.agg #[.int .i64 (vx (A.p s) (B.p r)), .int .i64 (vy (A.p s) (B.p r)), .int .i64 (vz (A.p s) (B.p r)), .int .i64 (vn (A.p s) (B.p r)), .int .i64 (vd A.d B.d (A.p s) (B.p r))]) ∧ Below W.heap.size W w' :=
  vectorBetween_x W A B s r (A.p s) (B.p r) (plc_ok hA.2.1 hA.2.2) (plc_ok hB.2.1 hB.2.2) (valid_of hA.2.1).2.2.2 (valid_of hB.2.1).2.2.2
    (fun W1 hb => placeAt_any A.b A.off A.n A.c A.d s W1 A.k (hA.1.below hb).2.2 hA.2.1 hA.2.2)
    (fun W1 hb => placeAt_any B.b B.off B.n B.c B.d r W1 B.k (hB.1.below hb).2.2 hB.2.1 hB.2.2)
theorem vectorBetween_e (W : World) (A B : Trk) (s r : Int) (hA : VT W A s) (hB : VT W B r) :
    Calls Tryz.prog 52 #[.agg #[.slice (some ⟨A.b, A.off, none⟩) A.n A.c, .int .i64 A.d], .agg #[.slice (some ⟨B.b, B.off, none⟩) B.n B.c, .int .i64 B.d], .agg #[.int .i64 s, .int .i64 r]] W fun e w' => e = .returned (.agg #[.int .i64 (vx (A.p s) (B.p r)), .int .i64 (vy (A.p s) (B.p r)), .int .i64 (vz (A.p s) (B.p r)), .int .i64 (vn (A.p s) (B.p r)), .int .i64 (vd A.d B.d (A.p s) (B.p r))]) ∧ Below W.heap.size W w' :=
  vectorBetween_any W A B s r hA hB
/-- The squares of the least and of the greatest distance, over the square of the denominator. -/
def sqN (A B : Trk) (s r : Int) : Int := nsum nr (vx (A.p s) (B.p r)) (vy (A.p s) (B.p r)) (vz (A.p s) (B.p r)) (vd A.d B.d (A.p s) (B.p r)) 3
def sqF (A B : Trk) (s r : Int) : Int := nsum fr (vx (A.p s) (B.p r)) (vy (A.p s) (B.p r)) (vz (A.p s) (B.p r)) (vd A.d B.d (A.p s) (B.p r)) 3
theorem distancesOf (W : World) (A B : Trk) (s r : Int) (hA : ctErr A.k A.n A.d = 0 ∧ outside s A.k A.n = false) (hB : ctErr B.k B.n B.d = 0 ∧ outside r B.k B.n = false) :
    Calls Tryz.prog 53 #[.agg #[.int .i64 (vx (A.p s) (B.p r)), .int .i64 (vy (A.p s) (B.p r)), .int .i64 (vz (A.p s) (B.p r)), .int .i64 (vn (A.p s) (B.p r)), .int .i64 (vd A.d B.d (A.p s) (B.p r))]] W (SomeRange (sqN A B s r) (sqF A B s r) (vn (A.p s) (B.p r)) W) := by
  obtain ⟨n, x, y, z, d⟩ := v_bd (plc_ok hA.1 hA.2) (plc_ok hB.1 hB.2) (valid_of hA.1).2.2.2 (valid_of hB.1).2.2.2
  exact distances_any W _ _ _ _ _ n x.1 x.2 y.1 y.2 z.1 z.2 d.1 d.2
end Go.Proofs.YtjncjoaohonmjaaGreat
namespace Go.Proofs.YtjncjoaohonmjaaGreat
open Go.RowKit Go.Shelf Go.Sort
attribute [local go_sem] idx3_0 idx3_1 idx3_2 old1 fro1 old2 fro2 old3 fro3 old4 fro4 old5 fro5 old6 fro6 old7 fro7 old8 fro8 old9 fro9 old10 fro10 old11 fro11 old12 fro12
def DA (w : World) (R : Nat) (sa sb : Option Addr) (na ca nb cb : Nat) (da db : Int) (wx : World) : Prop :=
  (Below w.heap.size w wx ∧ w.heap.size ≤ R) ∧ (wx.cell? ⟨w.heap.size, 0, none⟩ = some (.slice sa na ca) ∧ wx.cell? ⟨w.heap.size, 1, none⟩ = some (.int .i64 da)) ∧ (wx.cell? ⟨w.heap.size + 1, 0, none⟩ = some (.slice sb nb cb) ∧ wx.cell? ⟨w.heap.size + 1, 1, none⟩ = some (.int .i64 db)) ∧
  (wx.cell? ⟨R, 0, none⟩ = some (.int .i64 0) ∧ wx.cell? ⟨R, 1, none⟩ = some (.int .i64 0)) ∧ (wx.frozen? ⟨R, 0, none⟩ = false ∧ wx.frozen? ⟨R, 1, none⟩ = false)
def SomeDist (A B : TV) (time : Int) (w : World) (e : Ending) (w' : World) : Prop :=
  Below w.heap.size w w' ∧ if distErr A B time = 0 then ∃ (A' B' : Trk) (r1 r2 : Int), (A'.k = A.k ∧ A'.n = A.n ∧ A'.d = A.d) ∧ (B'.k = B.k ∧ B'.n = B.n ∧ B'.d = B.d) ∧ e = .returned (.tuple #[.agg #[.int .i64 (r1 - 1), .int .i64 r2], .int .i64 0]) ∧
      RL (fun e => decide (sqN A' B' time time < e * vn (A'.p time) (B'.p time) * (e * vn (A'.p time) (B'.p time)))) 0 6006000 r1 ∧ RL (fun e => !decide (e * vn (A'.p time) (B'.p time) * (e * vn (A'.p time) (B'.p time)) < sqF A' B' time time)) 0 6006000 r2
  else e = .returned (.tuple #[.agg #[.int .i64 0, .int .i64 0], .int .i64 (distErr A B time)])
theorem distErr_0 {A B : TV} {time : Int} (h : distErr A B time = 0) : A.err = 0 ∧ B.err = 0 ∧ outside time A.k A.n = false ∧ outside time B.k B.n = false := by
  unfold distErr bothErr timesErr at h
  by_cases hA : A.err = 0
  · rw [if_pos hA] at h
    by_cases hB : B.err = 0
    · rw [if_pos hB] at h
      cases ha : outside time A.k A.n <;> cases hb : outside time B.k B.n <;> simp [ha, hb] at h
      exact ⟨hA, hB, rfl, rfl⟩
    · rw [if_neg hB] at h; exact absurd h hB
  · rw [if_neg hA, if_neg hA] at h; exact absurd h hA
set_option maxRecDepth 100000 in
set_option maxHeartbeats 2000000 in
theorem distanceAt_x (sa sb : Option Addr) (na ca nb cb : Nat) (ka kb : Nat → Knot) (da db time : Int) (w : World) (hA : TV.At ⟨sa, na, ca, ka, da⟩ w) (hB : TV.At ⟨sb, nb, cb, kb, db⟩ w) :
    Calls Tryz.prog 21 #[.agg #[.slice sa na ca, .int .i64 da], .agg #[.slice sb nb cb, .int .i64 db], .int .i64 time] w (SomeDist ⟨sa, na, ca, ka, da⟩ ⟨sb, nb, cb, kb, db⟩ time w) := by
  have HA := Lib.hid hA
  have HB := Lib.hid hB
  clear hA hB
  go_enter Tryz.func21, Tryz.ntmps21
  go_wp2_with fail
  go_cut [8] (fun s8 wx => s8 = .int .i64 (distErr ⟨sa, na, ca, ka, da⟩ ⟨sb, nb, cb, kb, db⟩ time) ∧ DA w (w.heap.size + 1 + 1) sa sb na ca nb cb da db wx)
  case first =>
    go_region_held3 (fun w' => w'.cell? ⟨w.heap.size, 0, none⟩ = some (.slice sa na ca) ∧ w'.cell? ⟨w.heap.size, 1, none⟩ = some (.int .i64 da) ∧ w'.cell? ⟨w.heap.size + 1, 0, none⟩ = some (.slice sb nb cb) ∧ w'.cell? ⟨w.heap.size + 1, 1, none⟩ = some (.int .i64 db)) (simp [go_sem, *])
      (first | (go_at_call 30; (with_reducible refine (trackCheck_any _ _ _ _ _).mono ?_); rintro e w1 ⟨rfl, rfl⟩) | (go_at_call 31; (with_reducible refine (timeCheck_any _ _ _ _ _ rfl _).mono ?_); rintro e w1 ⟨rfl, rfl⟩) | (go_at_call 29; (with_reducible refine Calls.mono (check3_any ⟨sa, na, ca, ka, da⟩ ⟨sb, nb, cb, kb, db⟩ time (w.heap.size + 1 + 1 + 1 + 1 + 1 + 1 + 1 + 1 + 1 + 1) (w.heap.size + 1 + 1 + 1) (w.heap.size + 1 + 1 + 1 + 1) (w.heap.size + 1 + 1 + 1 + 1 + 1 + 1 + 1 + 1 + 1) (w.heap.size + 1 + 1 + 1 + 1 + 1 + 1 + 1 + 1) (w.heap.size + 1 + 1 + 1 + 1 + 1 + 1 + 1) (w.heap.size + 1 + 1 + 1 + 1 + 1 + 1) (w.heap.size + 1 + 1 + 1 + 1 + 1) _ ?_ ?_ ?_) ?_); (focus (exact HA.out.below (by (repeat (first | with_reducible exact Below.refl _ _ | with_reducible assumption | with_reducible refine Below.alloc ?_ (by first | (simp; done) | (simp; omega) | omega) _ | with_reducible refine Below.setCell ?_ (by first | (simp; done) | (simp; omega) | omega) _ | with_reducible refine Below.drew ?_ | with_reducible refine below_drewN ?_ _))))); (focus (exact HB.out.below (by (repeat (first | with_reducible exact Below.refl _ _ | with_reducible assumption | with_reducible refine Below.alloc ?_ (by first | (simp; done) | (simp; omega) | omega) _ | with_reducible refine Below.setCell ?_ (by first | (simp; done) | (simp; omega) | omega) _ | with_reducible refine Below.drew ?_ | with_reducible refine below_drewN ?_ _))))); (focus (refine ⟨⟨?_, ?_, ?_⟩, ⟨?_, ?_⟩, ⟨?_, ?_⟩, ⟨?_, ?_⟩, ⟨?_, ?_⟩, ⟨?_, ?_, ?_, ?_⟩⟩ <;> (simp [go_sem, *]; done))); rintro e w1 ⟨rfl, hb1⟩; go_must (have a0 := (hb1.cell (p := ⟨w.heap.size, 0, none⟩) (by first | (simp; done) | (simp; omega) | omega)).trans (show _ = some (Value.slice sa na ca) by simp [go_sem, *])); go_must (have a1 := (hb1.cell (p := ⟨w.heap.size, 1, none⟩) (by first | (simp; done) | (simp; omega) | omega)).trans (show _ = some (Value.int .i64 da) by simp [go_sem, *])); go_must (have b0 := (hb1.cell (p := ⟨w.heap.size + 1, 0, none⟩) (by first | (simp; done) | (simp; omega) | omega)).trans (show _ = some (Value.slice sb nb cb) by simp [go_sem, *])); go_must (have b1 := (hb1.cell (p := ⟨w.heap.size + 1, 1, none⟩) (by first | (simp; done) | (simp; omega) | omega)).trans (show _ = some (Value.int .i64 db) by simp [go_sem, *])); go_must (have r0 := (hb1.cell (p := ⟨w.heap.size + 1 + 1, 0, none⟩) (by first | (simp; done) | (simp; omega) | omega)).trans (show _ = some (Value.int .i64 0) by simp [go_sem, *])); go_must (have r1 := (hb1.cell (p := ⟨w.heap.size + 1 + 1, 1, none⟩) (by first | (simp; done) | (simp; omega) | omega)).trans (show _ = some (Value.int .i64 0) by simp [go_sem, *])); go_must (have q0 := (hb1.frozen (p := ⟨w.heap.size + 1 + 1, 0, none⟩) (by first | (simp; done) | (simp; omega) | omega)).trans (show _ = false by simp [go_sem, *])); go_must (have q1 := (hb1.frozen (p := ⟨w.heap.size + 1 + 1, 1, none⟩) (by first | (simp; done) | (simp; omega) | omega)).trans (show _ = false by simp [go_sem, *])); go_must (have hB1 := (by (repeat (first | with_reducible exact Below.refl _ _ | with_reducible assumption | with_reducible refine Below.alloc ?_ (by first | (simp; done) | (simp; omega) | omega) _ | with_reducible refine Below.setCell ?_ (by first | (simp; done) | (simp; omega) | omega) _ | with_reducible refine Below.drew ?_ | with_reducible refine below_drewN ?_ _)) : Below w.heap.size w _).trans (hb1.mono (by first | (simp; done) | (simp; omega) | omega))); go_must (clear hb1)) | (go_at_call 29; (with_reducible refine Calls.mono (check3_any ⟨sa, na, ca, ka, da⟩ ⟨sb, nb, cb, kb, db⟩ time (w.heap.size + 1 + 1 + 1 + 1 + 1 + 1 + 1 + 1 + 1 + 1) (w.heap.size + 1 + 1 + 1) (w.heap.size + 1 + 1 + 1 + 1 + 1) (w.heap.size + 1 + 1 + 1 + 1 + 1 + 1 + 1 + 1 + 1) (w.heap.size + 1 + 1 + 1 + 1 + 1 + 1 + 1 + 1) (w.heap.size + 1 + 1 + 1 + 1 + 1 + 1 + 1) (w.heap.size + 1 + 1 + 1 + 1 + 1 + 1) (w.heap.size + 1 + 1 + 1 + 1) _ ?_ ?_ ?_) ?_); (focus (exact HA.out.below (by (repeat (first | with_reducible exact Below.refl _ _ | with_reducible assumption | with_reducible refine Below.alloc ?_ (by first | (simp; done) | (simp; omega) | omega) _ | with_reducible refine Below.setCell ?_ (by first | (simp; done) | (simp; omega) | omega) _ | with_reducible refine Below.drew ?_ | with_reducible refine below_drewN ?_ _))))); (focus (exact HB.out.below (by (repeat (first | with_reducible exact Below.refl _ _ | with_reducible assumption | with_reducible refine Below.alloc ?_ (by first | (simp; done) | (simp; omega) | omega) _ | with_reducible refine Below.setCell ?_ (by first | (simp; done) | (simp; omega) | omega) _ | with_reducible refine Below.drew ?_ | with_reducible refine below_drewN ?_ _))))); (focus (refine ⟨⟨?_, ?_, ?_⟩, ⟨?_, ?_⟩, ⟨?_, ?_⟩, ⟨?_, ?_⟩, ⟨?_, ?_⟩, ⟨?_, ?_, ?_, ?_⟩⟩ <;> (simp [go_sem, *]; done))); rintro e w1 ⟨rfl, hb1⟩; go_must (have a0 := (hb1.cell (p := ⟨w.heap.size, 0, none⟩) (by first | (simp; done) | (simp; omega) | omega)).trans (show _ = some (Value.slice sa na ca) by simp [go_sem, *])); go_must (have a1 := (hb1.cell (p := ⟨w.heap.size, 1, none⟩) (by first | (simp; done) | (simp; omega) | omega)).trans (show _ = some (Value.int .i64 da) by simp [go_sem, *])); go_must (have b0 := (hb1.cell (p := ⟨w.heap.size + 1, 0, none⟩) (by first | (simp; done) | (simp; omega) | omega)).trans (show _ = some (Value.slice sb nb cb) by simp [go_sem, *])); go_must (have b1 := (hb1.cell (p := ⟨w.heap.size + 1, 1, none⟩) (by first | (simp; done) | (simp; omega) | omega)).trans (show _ = some (Value.int .i64 db) by simp [go_sem, *])); go_must (have r0 := (hb1.cell (p := ⟨w.heap.size + 1 + 1, 0, none⟩) (by first | (simp; done) | (simp; omega) | omega)).trans (show _ = some (Value.int .i64 0) by simp [go_sem, *])); go_must (have r1 := (hb1.cell (p := ⟨w.heap.size + 1 + 1, 1, none⟩) (by first | (simp; done) | (simp; omega) | omega)).trans (show _ = some (Value.int .i64 0) by simp [go_sem, *])); go_must (have q0 := (hb1.frozen (p := ⟨w.heap.size + 1 + 1, 0, none⟩) (by first | (simp; done) | (simp; omega) | omega)).trans (show _ = false by simp [go_sem, *])); go_must (have q1 := (hb1.frozen (p := ⟨w.heap.size + 1 + 1, 1, none⟩) (by first | (simp; done) | (simp; omega) | omega)).trans (show _ = false by simp [go_sem, *])); go_must (have hB1 := (by (repeat (first | with_reducible exact Below.refl _ _ | with_reducible assumption | with_reducible refine Below.alloc ?_ (by first | (simp; done) | (simp; omega) | omega) _ | with_reducible refine Below.setCell ?_ (by first | (simp; done) | (simp; omega) | omega) _ | with_reducible refine Below.drew ?_ | with_reducible refine below_drewN ?_ _)) : Below w.heap.size w _).trans (hb1.mono (by first | (simp; done) | (simp; omega) | omega))); go_must (clear hb1)) | (go_at_call 29; (with_reducible refine Calls.mono (check3_any ⟨sa, na, ca, ka, da⟩ ⟨sb, nb, cb, kb, db⟩ time (w.heap.size + 1 + 1 + 1 + 1 + 1 + 1 + 1 + 1 + 1 + 1) (w.heap.size + 1 + 1 + 1 + 1) (w.heap.size + 1 + 1 + 1 + 1 + 1) (w.heap.size + 1 + 1 + 1 + 1 + 1 + 1 + 1 + 1 + 1) (w.heap.size + 1 + 1 + 1 + 1 + 1 + 1 + 1 + 1) (w.heap.size + 1 + 1 + 1 + 1 + 1 + 1 + 1) (w.heap.size + 1 + 1 + 1 + 1 + 1 + 1) (w.heap.size + 1 + 1 + 1) _ ?_ ?_ ?_) ?_); (focus (exact HA.out.below (by (repeat (first | with_reducible exact Below.refl _ _ | with_reducible assumption | with_reducible refine Below.alloc ?_ (by first | (simp; done) | (simp; omega) | omega) _ | with_reducible refine Below.setCell ?_ (by first | (simp; done) | (simp; omega) | omega) _ | with_reducible refine Below.drew ?_ | with_reducible refine below_drewN ?_ _))))); (focus (exact HB.out.below (by (repeat (first | with_reducible exact Below.refl _ _ | with_reducible assumption | with_reducible refine Below.alloc ?_ (by first | (simp; done) | (simp; omega) | omega) _ | with_reducible refine Below.setCell ?_ (by first | (simp; done) | (simp; omega) | omega) _ | with_reducible refine Below.drew ?_ | with_reducible refine below_drewN ?_ _))))); (focus (refine ⟨⟨?_, ?_, ?_⟩, ⟨?_, ?_⟩, ⟨?_, ?_⟩, ⟨?_, ?_⟩, ⟨?_, ?_⟩, ⟨?_, ?_, ?_, ?_⟩⟩ <;> (simp [go_sem, *]; done))); rintro e w1 ⟨rfl, hb1⟩; go_must (have a0 := (hb1.cell (p := ⟨w.heap.size, 0, none⟩) (by first | (simp; done) | (simp; omega) | omega)).trans (show _ = some (Value.slice sa na ca) by simp [go_sem, *])); go_must (have a1 := (hb1.cell (p := ⟨w.heap.size, 1, none⟩) (by first | (simp; done) | (simp; omega) | omega)).trans (show _ = some (Value.int .i64 da) by simp [go_sem, *])); go_must (have b0 := (hb1.cell (p := ⟨w.heap.size + 1, 0, none⟩) (by first | (simp; done) | (simp; omega) | omega)).trans (show _ = some (Value.slice sb nb cb) by simp [go_sem, *])); go_must (have b1 := (hb1.cell (p := ⟨w.heap.size + 1, 1, none⟩) (by first | (simp; done) | (simp; omega) | omega)).trans (show _ = some (Value.int .i64 db) by simp [go_sem, *])); go_must (have r0 := (hb1.cell (p := ⟨w.heap.size + 1 + 1, 0, none⟩) (by first | (simp; done) | (simp; omega) | omega)).trans (show _ = some (Value.int .i64 0) by simp [go_sem, *])); go_must (have r1 := (hb1.cell (p := ⟨w.heap.size + 1 + 1, 1, none⟩) (by first | (simp; done) | (simp; omega) | omega)).trans (show _ = some (Value.int .i64 0) by simp [go_sem, *])); go_must (have q0 := (hb1.frozen (p := ⟨w.heap.size + 1 + 1, 0, none⟩) (by first | (simp; done) | (simp; omega) | omega)).trans (show _ = false by simp [go_sem, *])); go_must (have q1 := (hb1.frozen (p := ⟨w.heap.size + 1 + 1, 1, none⟩) (by first | (simp; done) | (simp; omega) | omega)).trans (show _ = false by simp [go_sem, *])); go_must (have hB1 := (by (repeat (first | with_reducible exact Below.refl _ _ | with_reducible assumption | with_reducible refine Below.alloc ?_ (by first | (simp; done) | (simp; omega) | omega) _ | with_reducible refine Below.setCell ?_ (by first | (simp; done) | (simp; omega) | omega) _ | with_reducible refine Below.drew ?_ | with_reducible refine below_drewN ?_ _)) : Below w.heap.size w _).trans (hb1.mono (by first | (simp; done) | (simp; omega) | omega))); go_must (clear hb1)))
    all_goals
      go_wp2_with fail
      go_meet
      case rel =>
        refine ⟨rfl, ⟨?_, ?_⟩, ⟨?_, ?_⟩, ⟨?_, ?_⟩, ⟨?_, ?_⟩, ⟨?_, ?_⟩⟩
        all_goals first | omega | (simp [go_sem, *]; done) | (repeat (first | with_reducible exact Below.refl _ _ | with_reducible assumption | with_reducible refine Below.alloc ?_ (by first | (simp; done) | (simp; omega) | omega) _ | with_reducible refine Below.setCell ?_ (by first | (simp; done) | (simp; omega) | omega) _ | with_reducible refine Below.drew ?_ | with_reducible refine below_drewN ?_ _))
  case rest =>
    obtain ⟨rfl, ⟨p1, p2⟩, ⟨a0, a1⟩, ⟨b0, b1⟩, ⟨r0, r1⟩, ⟨q0, q1⟩⟩ := hcut
    have hA0 := HA.out
    have hB0 := HB.out
    have hspec : ∀ e w', SomeDist ⟨sa, na, ca, ka, da⟩ ⟨sb, nb, cb, kb, db⟩ time w e w' ↔ SomeDist ⟨sa, na, ca, ka, da⟩ ⟨sb, nb, cb, kb, db⟩ time w e w' := fun _ _ => Iff.rfl
    clear hspec
    by_cases hE : distErr ⟨sa, na, ca, ka, da⟩ ⟨sb, nb, cb, kb, db⟩ time = 0
    · obtain ⟨eA, eB, oA, oB⟩ := distErr_0 hE
      obtain ⟨ba, oa, ea, hta⟩ := TV.valid hA0 eA
      obtain ⟨bb, ob, eb, htb⟩ := TV.valid hB0 eB
      simp only at ea eb
      subst ea eb
      have vA := fun W (hb : Below w.heap.size w W) => (show VT W ⟨ba, oa, na, ca, ka, da⟩ time from ⟨hta.below hb, eA, oA⟩)
      have vB := fun W (hb : Below w.heap.size w W) => (show VT W ⟨bb, ob, nb, cb, kb, db⟩ time from ⟨htb.below hb, eB, oB⟩)
      have VA := Lib.hid vA
      have VB := Lib.hid vB
      have HE := Lib.hid hE
      have hq : (distErr ⟨some ⟨ba, oa, none⟩, na, ca, ka, da⟩ ⟨some ⟨bb, ob, none⟩, nb, cb, kb, db⟩ time != 0) = false := by simp [hE]
      have HOA : Hid (ctErr ka na da = 0 ∧ outside time ka na = false) := ⟨eA, oA⟩
      have HOB : Hid (ctErr kb nb db = 0 ∧ outside time kb nb = false) := ⟨eB, oB⟩
      clear vA vB hE HA HB hA0 hB0 hta htb eA eB oA oB
      generalize distErr ⟨some ⟨ba, oa, none⟩, na, ca, ka, da⟩ ⟨some ⟨bb, ob, none⟩, nb, cb, kb, db⟩ time = E0 at hq
      have nR := World.block_lt_of_cell? _ _ r0
      simp only at nR
      have pw := p1.size
      go_wp2_with (first | (go_at_call 52; (with_reducible refine Calls.mono (vectorBetween_e _ (⟨ba, oa, na, ca, ka, da⟩ : Trk) (⟨bb, ob, nb, cb, kb, db⟩ : Trk) time time (VA.out _ ?_) (VB.out _ ?_)) ?_); (focus (repeat (first | with_reducible exact Below.refl _ _ | with_reducible assumption | with_reducible refine Below.alloc ?_ (by first | (simp; done) | (simp; omega) | omega) _ | with_reducible refine Below.setCell ?_ (by first | (simp; done) | (simp; omega) | omega) _ | with_reducible refine Below.drew ?_ | with_reducible refine below_drewN ?_ _))); (focus (repeat (first | with_reducible exact Below.refl _ _ | with_reducible assumption | with_reducible refine Below.alloc ?_ (by first | (simp; done) | (simp; omega) | omega) _ | with_reducible refine Below.setCell ?_ (by first | (simp; done) | (simp; omega) | omega) _ | with_reducible refine Below.drew ?_ | with_reducible refine below_drewN ?_ _))); rintro e w1 ⟨rfl, hb1⟩; go_must (have r0_ := (hb1.cell (p := ⟨w.heap.size + 1 + 1, 0, none⟩) (by first | (simp; done) | (simp; omega) | omega)).trans (show _ = some (Value.int .i64 0) by simp [go_sem, *])); go_must (have r1_ := (hb1.cell (p := ⟨w.heap.size + 1 + 1, 1, none⟩) (by first | (simp; done) | (simp; omega) | omega)).trans (show _ = some (Value.int .i64 0) by simp [go_sem, *])); go_must (have q0_ := (hb1.frozen (p := ⟨w.heap.size + 1 + 1, 0, none⟩) (by first | (simp; done) | (simp; omega) | omega)).trans (show _ = false by simp [go_sem, *])); go_must (have q1_ := (hb1.frozen (p := ⟨w.heap.size + 1 + 1, 1, none⟩) (by first | (simp; done) | (simp; omega) | omega)).trans (show _ = false by simp [go_sem, *])); go_must (have p1_ := (by (repeat (first | with_reducible exact Below.refl _ _ | with_reducible assumption | with_reducible refine Below.alloc ?_ (by first | (simp; done) | (simp; omega) | omega) _ | with_reducible refine Below.setCell ?_ (by first | (simp; done) | (simp; omega) | omega) _ | with_reducible refine Below.drew ?_ | with_reducible refine below_drewN ?_ _)) : Below w.heap.size w _).trans (hb1.mono (by first | (simp; done) | (simp; omega) | omega))); go_must (have nR_ := Nat.lt_of_lt_of_le nR hb1.size); go_must (have pw_ := p1_.size); clear hb1) | (go_at_call 53; (with_reducible refine Calls.mono (distancesOf _ (⟨ba, oa, na, ca, ka, da⟩ : Trk) (⟨bb, ob, nb, cb, kb, db⟩ : Trk) time time HOA.out HOB.out) ?_); rintro e w2 ⟨u1, u2, rfl, hr1, hr2, hb1⟩; go_must (have r0__ := (hb1.cell (p := ⟨w.heap.size + 1 + 1, 0, none⟩) nR_).trans r0_); go_must (have r1__ := (hb1.cell (p := ⟨w.heap.size + 1 + 1, 1, none⟩) nR_).trans r1_); go_must (have q0__ := (hb1.frozen (p := ⟨w.heap.size + 1 + 1, 0, none⟩) nR_).trans q0_); go_must (have q1__ := (hb1.frozen (p := ⟨w.heap.size + 1 + 1, 1, none⟩) nR_).trans q1_); go_must (have p1__ := p1_.trans (hb1.mono p1_.size)); clear hb1))
      have pw__ := p1__.size
      refine bodyPost_ret (v := .tuple #[.agg #[.int .i64 (u1 - 1), .int .i64 u2], .int .i64 0]) (by simp [results, Tryz.results21, go_sem, r0__, r1__]) rfl ⟨?_, ?_⟩
      · (repeat (first | with_reducible exact Below.refl _ _ | with_reducible assumption | with_reducible refine Below.alloc ?_ (by first | (simp; done) | (simp; omega) | omega) _ | with_reducible refine Below.setCell ?_ (by first | (simp; done) | (simp; omega) | omega) _ | with_reducible refine Below.drew ?_ | with_reducible refine below_drewN ?_ _))
      · rw [if_pos HE.out]
        exact ⟨⟨ba, oa, na, ca, ka, da⟩, ⟨bb, ob, nb, cb, kb, db⟩, u1, u2, ⟨rfl, rfl, rfl⟩, ⟨rfl, rfl, rfl⟩, rfl, hr1, hr2⟩
    · have HE := Lib.hid hE
      have hq : (distErr ⟨sa, na, ca, ka, da⟩ ⟨sb, nb, cb, kb, db⟩ time != 0) = true := by simpa using hE
      clear hE HA HB hA0 hB0
      have pw := p1.size
      go_wp2
      refine bodyPost_ret (v := .tuple #[.agg #[.int .i64 0, .int .i64 0], .int .i64 (distErr ⟨sa, na, ca, ka, da⟩ ⟨sb, nb, cb, kb, db⟩ time)]) (by simp [results, Tryz.results21, go_sem, r0, r1]) rfl ⟨?_, ?_⟩
      · (repeat (first | with_reducible exact Below.refl _ _ | with_reducible assumption | with_reducible refine Below.alloc ?_ (by first | (simp; done) | (simp; omega) | omega) _ | with_reducible refine Below.setCell ?_ (by first | (simp; done) | (simp; omega) | omega) _ | with_reducible refine Below.drew ?_ | with_reducible refine below_drewN ?_ _))
      · rw [if_neg HE.out]
end Go.Proofs.YtjncjoaohonmjaaGreat
namespace Go.Proofs.YtjncjoaohonmjaaGreat
open Go.RowKit Go.Shelf Go.Sort
attribute [local go_sem] idx3_0 idx3_1 idx3_2 old1 fro1 old2 fro2 old3 fro3 old4 fro4 old5 fro5 old6 fro6 old7 fro7 old8 fro8 old9 fro9 old10 fro10 old11 fro11 old12 fro12
def arrB (A B : Trk) (s r : Int) : Bool := !decide ((r - s) * vn (A.p s) (B.p r) * ((r - s) * vn (A.p s) (B.p r)) < sqF A B s r)
def awayB (A B : Trk) (s r : Int) : Bool := decide ((r - s) * vn (A.p s) (B.p r) * ((r - s) * vn (A.p s) (B.p r)) < sqN A B s r)
theorem farthestOf (W : World) (A B : Trk) (s r : Int) (hA : ctErr A.k A.n A.d = 0 ∧ outside s A.k A.n = false) (hB : ctErr B.k B.n B.d = 0 ∧ outside r B.k B.n = false) :
    Calls Tryz.prog 82 #[.agg #[.int .i64 (vx (A.p s) (B.p r)), .int .i64 (vy (A.p s) (B.p r)), .int .i64 (vz (A.p s) (B.p r)), .int .i64 (vn (A.p s) (B.p r)), .int .i64 (vd A.d B.d (A.p s) (B.p r))]] W fun e w' => e = .returned (.agg #[.int .u64 (sqh (sqF A B s r)), .int .u64 (sql (sqF A B s r))]) ∧ Below W.heap.size W w' := by
  obtain ⟨n, x, y, z, d⟩ := v_bd (plc_ok hA.1 hA.2) (plc_ok hB.1 hB.2) (valid_of hA.1).2.2.2 (valid_of hB.1).2.2.2
  exact farthest_any W _ _ _ _ _ x.1 x.2 y.1 y.2 z.1 z.2 d.1 d.2
theorem nearestOf (W : World) (A B : Trk) (s r : Int) (hA : ctErr A.k A.n A.d = 0 ∧ outside s A.k A.n = false) (hB : ctErr B.k B.n B.d = 0 ∧ outside r B.k B.n = false) :
    Calls Tryz.prog 83 #[.agg #[.int .i64 (vx (A.p s) (B.p r)), .int .i64 (vy (A.p s) (B.p r)), .int .i64 (vz (A.p s) (B.p r)), .int .i64 (vn (A.p s) (B.p r)), .int .i64 (vd A.d B.d (A.p s) (B.p r))]] W fun e w' => e = .returned (.agg #[.int .u64 (sqh (sqN A B s r)), .int .u64 (sql (sqN A B s r))]) ∧ Below W.heap.size W w' := by
  obtain ⟨n, x, y, z, d⟩ := v_bd (plc_ok hA.1 hA.2) (plc_ok hB.1 hB.2) (valid_of hA.1).2.2.2 (valid_of hB.1).2.2.2
  exact nearest_any W _ _ _ _ _ x.1 x.2 y.1 y.2 z.1 z.2 d.1 d.2
theorem time_bd {A : Trk} {s : Int} (hA : ctErr A.k A.n A.d = 0 ∧ outside s A.k A.n = false) : 0 ≤ s ∧ s ≤ 1000000000000 := by
  obtain ⟨h0, h12, hk, _⟩ := valid_of hA.1
  have hi : wi s (A.k 0).t (A.k (A.n - 1)).t = true := by have := hA.2; unfold outside at this; simpa using this
  obtain ⟨h1, h2⟩ := wi_t.1 hi
  have k0 := (knotErr_ok (hk 0 (by omega))).1
  have k1 := (knotErr_ok (hk (A.n - 1) (by omega))).1
  omega
set_option maxRecDepth 100000 in
set_option maxHeartbeats 2000000 in
theorem surelyArrived_any (W : World) (A B : Trk) (s r : Int) (hA : VT W A s) (hB : VT W B r) (hsr : s ≤ r) (hr : r - s ≤ 20000000000) :
    Calls Tryz.prog 56 #[.agg #[.slice (some ⟨A.b, A.off, none⟩) A.n A.c, .int .i64 A.d], .agg #[.slice (some ⟨B.b, B.off, none⟩) B.n B.c, .int .i64 B.d], .int .i64 s, .int .i64 r] W fun e w' => e = .returned (.bool (arrB A B s r)) ∧ Below W.heap.size W w' := by
  have HV := Lib.hid (fun W1 (hb : Below W.heap.size W W1) => vectorBetween_e W1 A B s r (hA.below hb) (hB.below hb))
  have HF := fun W1 => Lib.hid (farthestOf W1 A B s r hA.2 hB.2)
  obtain ⟨nb, _⟩ := v_bd (plc_ok hA.2.1 hA.2.2) (plc_ok hB.2.1 hB.2.2) (valid_of hA.2.1).2.2.2 (valid_of hB.2.1).2.2.2
  have tA := time_bd hA.2
  have tB := time_bd hB.2
  have NB : Hid (1 ≤ vn (A.p s) (B.p r) ∧ vn (A.p s) (B.p r) ≤ 100000000) := nb
  clear nb hA hB
  unfold arrB
  generalize vx (A.p s) (B.p r) = x at *
  generalize vy (A.p s) (B.p r) = y at *
  generalize vz (A.p s) (B.p r) = z at *
  generalize vd A.d B.d (A.p s) (B.p r) = d at *
  generalize vn (A.p s) (B.p r) = n at *
  generalize sqF A B s r = F at *
  have s1 : IntKind.i64.wrap (r - s) = r - s := IntWalk.i64_in _ (by omega)
  have q1 : -20000000000 ≤ r - s := by omega
  go_enter Tryz.func56, Tryz.ntmps56
  go_wp2_with (go_at_call 52; go_must (with_reducible refine Calls.mono (HV.out _ ?_) ?_); (focus (repeat (first | with_reducible exact Below.refl _ _ | with_reducible assumption | with_reducible refine Below.alloc ?_ (by first | (simp; done) | (simp; omega) | omega) _ | with_reducible refine Below.setCell ?_ (by first | (simp; done) | (simp; omega) | omega) _ | with_reducible refine Below.drew ?_ | with_reducible refine below_drewN ?_ _))); rintro e w1 ⟨rfl, hb1⟩; go_must (have hB1 := (by (repeat (first | with_reducible exact Below.refl _ _ | with_reducible assumption | with_reducible refine Below.alloc ?_ (by first | (simp; done) | (simp; omega) | omega) _ | with_reducible refine Below.setCell ?_ (by first | (simp; done) | (simp; omega) | omega) _ | with_reducible refine Below.drew ?_ | with_reducible refine below_drewN ?_ _)) : Below W.heap.size W _).trans (hb1.mono (by first | (simp; done) | (simp; omega) | omega))); go_must (have hs1 := hB1.size); clear hb1)
  go_region_held3 (fun w' => w'.cell? ⟨w1.heap.size, 0, none⟩ = some (.int .i64 x) ∧ w'.cell? ⟨w1.heap.size, 1, none⟩ = some (.int .i64 y) ∧ w'.cell? ⟨w1.heap.size, 2, none⟩ = some (.int .i64 z) ∧ w'.cell? ⟨w1.heap.size, 3, none⟩ = some (.int .i64 n) ∧ w'.cell? ⟨w1.heap.size, 4, none⟩ = some (.int .i64 d)) (simp [go_sem, *])
    (first | (go_at_call 100; (with_reducible refine (squareOver_any _ x y z n d (r - s) NB.out ⟨q1, hr⟩).mono ?_); rintro e w2 ⟨rfl, o3, o4, o5, rfl⟩) | (go_at_call 82; (with_reducible refine Calls.mono (HF _).out ?_); rintro e w2 ⟨rfl, hb1⟩; go_must (have v0 := (hb1.cell (p := ⟨w1.heap.size, 0, none⟩) (by first | (simp; done) | (simp; omega) | omega)).trans (show _ = some (Value.int .i64 x) by simp [go_sem, *])); go_must (have v1 := (hb1.cell (p := ⟨w1.heap.size, 1, none⟩) (by first | (simp; done) | (simp; omega) | omega)).trans (show _ = some (Value.int .i64 y) by simp [go_sem, *])); go_must (have v2 := (hb1.cell (p := ⟨w1.heap.size, 2, none⟩) (by first | (simp; done) | (simp; omega) | omega)).trans (show _ = some (Value.int .i64 z) by simp [go_sem, *])); go_must (have v3 := (hb1.cell (p := ⟨w1.heap.size, 3, none⟩) (by first | (simp; done) | (simp; omega) | omega)).trans (show _ = some (Value.int .i64 n) by simp [go_sem, *])); go_must (have v4 := (hb1.cell (p := ⟨w1.heap.size, 4, none⟩) (by first | (simp; done) | (simp; omega) | omega)).trans (show _ = some (Value.int .i64 d) by simp [go_sem, *])); go_must (have hB2 := (by (repeat (first | with_reducible exact Below.refl _ _ | with_reducible assumption | with_reducible refine Below.alloc ?_ (by first | (simp; done) | (simp; omega) | omega) _ | with_reducible refine Below.setCell ?_ (by first | (simp; done) | (simp; omega) | omega) _ | with_reducible refine Below.drew ?_ | with_reducible refine below_drewN ?_ _)) : Below W.heap.size W _).trans (hb1.mono (by first | (simp; done) | (simp; omega) | omega))); go_must (have hs2 := hB2.size); clear hb1) | (go_at_call 99; (with_reducible refine (less_any _ F _).mono ?_); rintro e w3 ⟨rfl, q, o6, o7, rfl⟩))
  all_goals
    go_wp2
    go_ret
    exact ⟨rfl, by (repeat (first | with_reducible exact Below.refl _ _ | with_reducible assumption | with_reducible refine Below.alloc ?_ (by first | (simp; done) | (simp; omega) | omega) _ | with_reducible refine Below.setCell ?_ (by first | (simp; done) | (simp; omega) | omega) _ | with_reducible refine Below.drew ?_ | with_reducible refine below_drewN ?_ _))⟩
set_option maxRecDepth 100000 in
set_option maxHeartbeats 2000000 in
theorem surelyNotArrived_any (W : World) (A B : Trk) (s r : Int) (hA : VT W A s) (hB : VT W B r) (hsr : s ≤ r) (hr : r - s ≤ 20000000000) :
    Calls Tryz.prog 58 #[.agg #[.slice (some ⟨A.b, A.off, none⟩) A.n A.c, .int .i64 A.d], .agg #[.slice (some ⟨B.b, B.off, none⟩) B.n B.c, .int .i64 B.d], .int .i64 s, .int .i64 r] W fun e w' => e = .returned (.bool (awayB A B s r)) ∧ Below W.heap.size W w' := by
  have HV := Lib.hid (fun W1 (hb : Below W.heap.size W W1) => vectorBetween_e W1 A B s r (hA.below hb) (hB.below hb))
  have HF := fun W1 => Lib.hid (nearestOf W1 A B s r hA.2 hB.2)
  obtain ⟨nb, _⟩ := v_bd (plc_ok hA.2.1 hA.2.2) (plc_ok hB.2.1 hB.2.2) (valid_of hA.2.1).2.2.2 (valid_of hB.2.1).2.2.2
  have tA := time_bd hA.2
  have tB := time_bd hB.2
  have NB : Hid (1 ≤ vn (A.p s) (B.p r) ∧ vn (A.p s) (B.p r) ≤ 100000000) := nb
  clear nb hA hB
  unfold awayB
  generalize vx (A.p s) (B.p r) = x at *
  generalize vy (A.p s) (B.p r) = y at *
  generalize vz (A.p s) (B.p r) = z at *
  generalize vd A.d B.d (A.p s) (B.p r) = d at *
  generalize vn (A.p s) (B.p r) = n at *
  generalize sqN A B s r = F at *
  have s1 : IntKind.i64.wrap (r - s) = r - s := IntWalk.i64_in _ (by omega)
  have q1 : -20000000000 ≤ r - s := by omega
  go_enter Tryz.func58, Tryz.ntmps58
  go_wp2_with (go_at_call 52; go_must (with_reducible refine Calls.mono (HV.out _ ?_) ?_); (focus (repeat (first | with_reducible exact Below.refl _ _ | with_reducible assumption | with_reducible refine Below.alloc ?_ (by first | (simp; done) | (simp; omega) | omega) _ | with_reducible refine Below.setCell ?_ (by first | (simp; done) | (simp; omega) | omega) _ | with_reducible refine Below.drew ?_ | with_reducible refine below_drewN ?_ _))); rintro e w1 ⟨rfl, hb1⟩; go_must (have hB1 := (by (repeat (first | with_reducible exact Below.refl _ _ | with_reducible assumption | with_reducible refine Below.alloc ?_ (by first | (simp; done) | (simp; omega) | omega) _ | with_reducible refine Below.setCell ?_ (by first | (simp; done) | (simp; omega) | omega) _ | with_reducible refine Below.drew ?_ | with_reducible refine below_drewN ?_ _)) : Below W.heap.size W _).trans (hb1.mono (by first | (simp; done) | (simp; omega) | omega))); go_must (have hs1 := hB1.size); clear hb1)
  go_region_held3 (fun w' => w'.cell? ⟨w1.heap.size, 0, none⟩ = some (.int .i64 x) ∧ w'.cell? ⟨w1.heap.size, 1, none⟩ = some (.int .i64 y) ∧ w'.cell? ⟨w1.heap.size, 2, none⟩ = some (.int .i64 z) ∧ w'.cell? ⟨w1.heap.size, 3, none⟩ = some (.int .i64 n) ∧ w'.cell? ⟨w1.heap.size, 4, none⟩ = some (.int .i64 d)) (simp [go_sem, *])
    (first | (go_at_call 100; (with_reducible refine (squareOver_any _ x y z n d (r - s) NB.out ⟨q1, hr⟩).mono ?_); rintro e w2 ⟨rfl, o3, o4, o5, rfl⟩) | (go_at_call 83; (with_reducible refine Calls.mono (HF _).out ?_); rintro e w2 ⟨rfl, hb1⟩; go_must (have v0 := (hb1.cell (p := ⟨w1.heap.size, 0, none⟩) (by first | (simp; done) | (simp; omega) | omega)).trans (show _ = some (Value.int .i64 x) by simp [go_sem, *])); go_must (have v1 := (hb1.cell (p := ⟨w1.heap.size, 1, none⟩) (by first | (simp; done) | (simp; omega) | omega)).trans (show _ = some (Value.int .i64 y) by simp [go_sem, *])); go_must (have v2 := (hb1.cell (p := ⟨w1.heap.size, 2, none⟩) (by first | (simp; done) | (simp; omega) | omega)).trans (show _ = some (Value.int .i64 z) by simp [go_sem, *])); go_must (have v3 := (hb1.cell (p := ⟨w1.heap.size, 3, none⟩) (by first | (simp; done) | (simp; omega) | omega)).trans (show _ = some (Value.int .i64 n) by simp [go_sem, *])); go_must (have v4 := (hb1.cell (p := ⟨w1.heap.size, 4, none⟩) (by first | (simp; done) | (simp; omega) | omega)).trans (show _ = some (Value.int .i64 d) by simp [go_sem, *])); go_must (have hB2 := (by (repeat (first | with_reducible exact Below.refl _ _ | with_reducible assumption | with_reducible refine Below.alloc ?_ (by first | (simp; done) | (simp; omega) | omega) _ | with_reducible refine Below.setCell ?_ (by first | (simp; done) | (simp; omega) | omega) _ | with_reducible refine Below.drew ?_ | with_reducible refine below_drewN ?_ _)) : Below W.heap.size W _).trans (hb1.mono (by first | (simp; done) | (simp; omega) | omega))); go_must (have hs2 := hB2.size); clear hb1) | (go_at_call 99; (with_reducible refine (less_any _ F _).mono ?_); rintro e w3 ⟨rfl, q, o6, o7, rfl⟩))
  all_goals
    go_wp2
    go_ret
    exact ⟨rfl, by (repeat (first | with_reducible exact Below.refl _ _ | with_reducible assumption | with_reducible refine Below.alloc ?_ (by first | (simp; done) | (simp; omega) | omega) _ | with_reducible refine Below.setCell ?_ (by first | (simp; done) | (simp; omega) | omega) _ | with_reducible refine Below.drew ?_ | with_reducible refine below_drewN ?_ _))⟩
end Go.Proofs.YtjncjoaohonmjaaGreat
namespace Go.Proofs.YtjncjoaohonmjaaGreat
open Go.RowKit Go.Shelf Go.Sort
attribute [local go_sem] idx3_0 idx3_1 idx3_2 old1 fro1 old2 fro2 old3 fro3 old4 fro4 old5 fro5 old6 fro6 old7 fro7 old8 fro8 old9 fro9 old10 fro10 old11 fro11 old12 fro12
theorem span {k : Nat → Knot} {n : Nat} (hk : ∀ i, i < n → knotErr k i = 0) : ∀ i, i < n → (k i).t - (k 0).t ≤ 10000 * i ∧ (k 0).t ≤ (k i).t
  | 0, _ => by omega
  | i + 1, h => by
    have h1 := span hk i (by omega)
    have h2 := knot_step (hk (i + 1) h) (by omega)
    rw [Nat.add_sub_cancel] at h2
    omega
theorem inside {A : Trk} {s : Int} (h : outside s A.k A.n = false) : (A.k 0).t ≤ s ∧ s ≤ (A.k (A.n - 1)).t := by
  have hi : wi s (A.k 0).t (A.k (A.n - 1)).t = true := by unfold outside at h; simpa using h
  exact wi_t.1 hi
theorem inside_mk {A : Trk} {s : Int} (h1 : (A.k 0).t ≤ s) (h2 : s ≤ (A.k (A.n - 1)).t) : outside s A.k A.n = false := by
  unfold outside; rw [wi_t.2 ⟨h1, h2⟩]; rfl
theorem span_t {A : Trk} {s r : Int} (hv : ctErr A.k A.n A.d = 0) (hs : outside s A.k A.n = false) (hr : outside r A.k A.n = false) : r - s ≤ 120000 := by
  obtain ⟨h0, h12, hk, _⟩ := valid_of hv
  have h1 := span hk (A.n - 1) (by omega)
  have := inside hs
  have := inside hr
  omega
set_option maxRecDepth 100000 in
set_option maxHeartbeats 800000 in
theorem receivedAt1_any (A B : Trk) (s r : Int) (x y z : Nat) (w : World) (hA : VT w A s) (hB : VT w B r) (hsr : s ≤ r) (hr : r - s ≤ 20000000000)
    (x0 : w.cell? ⟨x, 0, none⟩ = some (.slice (some ⟨A.b, A.off, none⟩) A.n A.c)) (x1 : w.cell? ⟨x, 1, none⟩ = some (.int .i64 A.d)) (y0 : w.cell? ⟨y, 0, none⟩ = some (.slice (some ⟨B.b, B.off, none⟩) B.n B.c)) (y1 : w.cell? ⟨y, 1, none⟩ = some (.int .i64 B.d)) (z0 : w.cell? ⟨z, 0, none⟩ = some (.int .i64 s)) :
    Calls Tryz.prog 55 #[.int .i64 r, .pointer (some ⟨x, 0, none⟩), .pointer (some ⟨y, 0, none⟩), .pointer (some ⟨z, 0, none⟩)] w fun e w' => e = .returned (.bool (arrB A B s r)) ∧ Below w.heap.size w w' := by
  have HC := Lib.hid (surelyArrived_any w A B s r hA hB hsr hr)
  clear hA hB
  generalize arrB A B s r = q at *
  go_enter Tryz.func55, Tryz.ntmps55
  go_wp2_with (go_at_call 56; (with_reducible refine Calls.mono HC.out ?_); rintro e w1 ⟨rfl, hb1⟩)
  go_ret
  exact ⟨rfl, hb1⟩
set_option maxRecDepth 100000 in
set_option maxHeartbeats 800000 in
theorem receivedAt2_any (A B : Trk) (s r : Int) (x y z : Nat) (w : World) (hA : VT w A s) (hB : VT w B r) (hsr : s ≤ r) (hr : r - s ≤ 20000000000)
    (x0 : w.cell? ⟨x, 0, none⟩ = some (.slice (some ⟨A.b, A.off, none⟩) A.n A.c)) (x1 : w.cell? ⟨x, 1, none⟩ = some (.int .i64 A.d)) (y0 : w.cell? ⟨y, 0, none⟩ = some (.slice (some ⟨B.b, B.off, none⟩) B.n B.c)) (y1 : w.cell? ⟨y, 1, none⟩ = some (.int .i64 B.d)) (z0 : w.cell? ⟨z, 0, none⟩ = some (.int .i64 s)) :
    Calls Tryz.prog 57 #[.int .i64 r, .pointer (some ⟨x, 0, none⟩), .pointer (some ⟨y, 0, none⟩), .pointer (some ⟨z, 0, none⟩)] w fun e w' => e = .returned (.bool (!awayB A B s r)) ∧ Below w.heap.size w w' := by
  have HC := Lib.hid (surelyNotArrived_any w A B s r hA hB hsr hr)
  clear hA hB
  generalize awayB A B s r = q at *
  go_enter Tryz.func57, Tryz.ntmps57
  go_wp2_with (go_at_call 58; (with_reducible refine Calls.mono HC.out ?_); rintro e w1 ⟨rfl, hb1⟩)
  go_ret
  exact ⟨rfl, hb1⟩
theorem leastArr (A B : Trk) (s last : Int) (x y z : Nat) (w : World) (hA : VT w A s) (hB : VT w B s) (hl : last = (B.k (B.n - 1)).t)
    (x0 : w.cell? ⟨x, 0, none⟩ = some (.slice (some ⟨A.b, A.off, none⟩) A.n A.c)) (x1 : w.cell? ⟨x, 1, none⟩ = some (.int .i64 A.d)) (y0 : w.cell? ⟨y, 0, none⟩ = some (.slice (some ⟨B.b, B.off, none⟩) B.n B.c)) (y1 : w.cell? ⟨y, 1, none⟩ = some (.int .i64 B.d)) (z0 : w.cell? ⟨z, 0, none⟩ = some (.int .i64 s)) :
    Calls Tryz.prog 44 #[.int .i64 s, .int .i64 last, .func (.func 55) #[] #[.pointer (some ⟨x, 0, none⟩), .pointer (some ⟨y, 0, none⟩), .pointer (some ⟨z, 0, none⟩)]] w (SomeL (arrB A B s) s last w) := by
  have ht := time_bd hA.2
  have hi := inside hB.2.2
  have hb0 : outside last B.k B.n = false := inside_mk (by omega) (by omega)
  have ht2 := time_bd ⟨hB.2.1, hb0⟩
  refine least_any 55 _ s last _ w (enters_of Tryz.func55 (by kernel_rfl) rfl) (by omega) (by omega) (by omega) (fun r w1 h1 h2 hb => ?_)
  have hbr : outside r B.k B.n = false := inside_mk (by omega) (by omega)
  have sp := span_t hB.2.1 hB.2.2 hbr
  exact receivedAt1_any A B s r x y z w1 (hA.below hb) ⟨hB.1.below hb, hB.2.1, hbr⟩ h1 (by omega) (keep hb x0) (keep hb x1) (keep hb y0) (keep hb y1) (keep hb z0)
theorem leastPos (A B : Trk) (s hi : Int) (x y z : Nat) (w : World) (hA : VT w A s) (hB : VT w B s) (hs : s ≤ hi) (hl : hi ≤ (B.k (B.n - 1)).t)
    (x0 : w.cell? ⟨x, 0, none⟩ = some (.slice (some ⟨A.b, A.off, none⟩) A.n A.c)) (x1 : w.cell? ⟨x, 1, none⟩ = some (.int .i64 A.d)) (y0 : w.cell? ⟨y, 0, none⟩ = some (.slice (some ⟨B.b, B.off, none⟩) B.n B.c)) (y1 : w.cell? ⟨y, 1, none⟩ = some (.int .i64 B.d)) (z0 : w.cell? ⟨z, 0, none⟩ = some (.int .i64 s)) :
    Calls Tryz.prog 44 #[.int .i64 s, .int .i64 hi, .func (.func 57) #[] #[.pointer (some ⟨x, 0, none⟩), .pointer (some ⟨y, 0, none⟩), .pointer (some ⟨z, 0, none⟩)]] w (SomeL (fun r => !awayB A B s r) s hi w) := by
  have ht := time_bd hA.2
  have hin := inside hB.2.2
  have hb0 : outside hi B.k B.n = false := inside_mk (by omega) (by omega)
  have ht2 := time_bd ⟨hB.2.1, hb0⟩
  refine least_any 57 _ s hi _ w (enters_of Tryz.func57 (by kernel_rfl) rfl) (by omega) (by omega) (by omega) (fun r w1 h1 h2 hb => ?_)
  have hbr : outside r B.k B.n = false := inside_mk (by omega) (by omega)
  have sp := span_t hB.2.1 hB.2.2 hbr
  exact receivedAt2_any A B s r x y z w1 (hA.below hb) ⟨hB.1.below hb, hB.2.1, hbr⟩ h1 (by omega) (keep hb x0) (keep hb x1) (keep hb y0) (keep hb y1) (keep hb z0)
end Go.Proofs.YtjncjoaohonmjaaGreat
