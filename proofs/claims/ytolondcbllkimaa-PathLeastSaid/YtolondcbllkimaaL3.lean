/- Helpers: vectors of valid tracks. -/
import Derived.Test.YtolondcbllkimaaL
import Derived.Test.YtolondcbllkimaaK2
namespace Go.Proofs.Ytolondcbllkimaa
open Go.RowKit Go.Shelf Go.Sort
attribute [local go_sem] idx3_0 idx3_1 idx3_2 old1 fro1 old2 fro2 old3 fro3 old4 fro4 old5 fro5 old6 fro6 old7 fro7 old8 fro8 old9 fro9 old10 fro10 old11 fro11 old12 fro12
def vx (f t : Plc) : Int := t.x * f.n - f.x * t.n
def vy (f t : Plc) : Int := t.y * f.n - f.y * t.n
def vz (f t : Plc) : Int := t.z * f.n - f.z * t.n
def vn (f t : Plc) : Int := f.n * t.n
def vd (da db : Int) (f t : Plc) : Int := (da + db) * (f.n * t.n)
theorem v_bd {f t : Plc} (hf : f.ok) (ht : t.ok) {da db : Int} (hda : 0 ≤ da ∧ da ≤ 1000) (hdb : 0 ≤ db ∧ db ≤ 1000) :
    (1 ≤ vn f t ∧ vn f t ≤ 100000000) ∧ (-200000000000000 ≤ vx f t ∧ vx f t ≤ 200000000000000) ∧ (-200000000000000 ≤ vy f t ∧ vy f t ≤ 200000000000000) ∧ (-200000000000000 ≤ vz f t ∧ vz f t ≤ 200000000000000) ∧ (0 ≤ vd da db f t ∧ vd da db f t ≤ 200000000000) := by
  obtain ⟨fn, fx, fy, fz⟩ := hf
  obtain ⟨tn, tx, ty, tz⟩ := ht
  have n := nn_bd fn.1 fn.2 tn.1 tn.2
  have m := mul_bd (a := da + db) (A := 2000) (t := f.n * t.n) (T := 100000000) (by omega) (by omega) (by omega) n.2 (by decide)
  have m0 := Int.mul_nonneg (show 0 ≤ da + db by omega) (show 0 ≤ f.n * t.n by omega)
  have a1 := mul_bd tx.1 tx.2 (show 0 ≤ f.n by omega) fn.2 (by decide)
  have a2 := mul_bd fx.1 fx.2 (show 0 ≤ t.n by omega) tn.2 (by decide)
  have b1 := mul_bd ty.1 ty.2 (show 0 ≤ f.n by omega) fn.2 (by decide)
  have b2 := mul_bd fy.1 fy.2 (show 0 ≤ t.n by omega) tn.2 (by decide)
  have c1 := mul_bd tz.1 tz.2 (show 0 ≤ f.n by omega) fn.2 (by decide)
  have c2 := mul_bd fz.1 fz.2 (show 0 ≤ t.n by omega) tn.2 (by decide)
  unfold vn vx vy vz vd
  exact ⟨n, ⟨by omega, by omega⟩, ⟨by omega, by omega⟩, ⟨by omega, by omega⟩, ⟨m0, by omega⟩⟩
/-- A valid track in memory, and a time of it. -/
def VT (w : World) (A : Trk) (s : Int) : Prop := A.At w ∧ ctErr A.k A.n A.d = 0 ∧ outside s A.k A.n = false
theorem VT.below {w w' : World} {A : Trk} {s : Int} (h : VT w A s) (hb : Below w.heap.size w w') : VT w' A s := ⟨h.1.below hb, h.2⟩
def Trk.p (A : Trk) (s : Int) : Plc := plc A.k A.n s
theorem vectorBetween_any (W : World) (A B : Trk) (s r : Int) (hA : VT W A s) (hB : VT W B r) :
    Calls Try.prog 66 #[.agg #[A.v, .int .i64 A.d], .agg #[B.v, .int .i64 B.d], .agg #[.int .i64 s, .int .i64 r]] W fun e w' => e = .returned (.agg #[.int .i64 (vx (A.p s) (B.p r)), .int .i64 (vy (A.p s) (B.p r)), .int .i64 (vz (A.p s) (B.p r)), .int .i64 (vn (A.p s) (B.p r)), .int .i64 (vd A.d B.d (A.p s) (B.p r))]) ∧ Below W.heap.size W w' :=
  vectorBetween_x W A B s r (A.p s) (B.p r) (plc_ok hA.2.1 hA.2.2) (plc_ok hB.2.1 hB.2.2) (valid_of hA.2.1).2.2.2 (valid_of hB.2.1).2.2.2
    (fun W1 hb => placeAt_any A.b A.off A.n A.c A.d s W1 A.k (hA.1.below hb).2.2 hA.2.1 hA.2.2)
    (fun W1 hb => placeAt_any B.b B.off B.n B.c B.d r W1 B.k (hB.1.below hb).2.2 hB.2.1 hB.2.2)
theorem vectorBetween_e (W : World) (A B : Trk) (s r : Int) (hA : VT W A s) (hB : VT W B r) :
    Calls Try.prog 66 #[.agg #[.slice (some ⟨A.b, A.off, none⟩) A.n A.c, .int .i64 A.d], .agg #[.slice (some ⟨B.b, B.off, none⟩) B.n B.c, .int .i64 B.d], .agg #[.int .i64 s, .int .i64 r]] W fun e w' => e = .returned (.agg #[.int .i64 (vx (A.p s) (B.p r)), .int .i64 (vy (A.p s) (B.p r)), .int .i64 (vz (A.p s) (B.p r)), .int .i64 (vn (A.p s) (B.p r)), .int .i64 (vd A.d B.d (A.p s) (B.p r))]) ∧ Below W.heap.size W w' :=
  vectorBetween_any W A B s r hA hB
/-- The squares of the least and of the greatest distance, over the square of the denominator. -/
def sqN (A B : Trk) (s r : Int) : Int := nsum nr (vx (A.p s) (B.p r)) (vy (A.p s) (B.p r)) (vz (A.p s) (B.p r)) (vd A.d B.d (A.p s) (B.p r)) 3
def sqF (A B : Trk) (s r : Int) : Int := nsum fr (vx (A.p s) (B.p r)) (vy (A.p s) (B.p r)) (vz (A.p s) (B.p r)) (vd A.d B.d (A.p s) (B.p r)) 3
theorem distancesOf (W : World) (A B : Trk) (s r : Int) (hA : ctErr A.k A.n A.d = 0 ∧ outside s A.k A.n = false) (hB : ctErr B.k B.n B.d = 0 ∧ outside r B.k B.n = false) :
    Calls Try.prog 67 #[.agg #[.int .i64 (vx (A.p s) (B.p r)), .int .i64 (vy (A.p s) (B.p r)), .int .i64 (vz (A.p s) (B.p r)), .int .i64 (vn (A.p s) (B.p r)), .int .i64 (vd A.d B.d (A.p s) (B.p r))]] W (SomeRange (sqN A B s r) (sqF A B s r) (vn (A.p s) (B.p r)) W) := by
  obtain ⟨n, x, y, z, d⟩ := v_bd (plc_ok hA.1 hA.2) (plc_ok hB.1 hB.2) (valid_of hA.1).2.2.2 (valid_of hB.1).2.2.2
  exact distances_any W _ _ _ _ _ n x.1 x.2 y.1 y.2 z.1 z.2 d.1 d.2
end Go.Proofs.Ytolondcbllkimaa
