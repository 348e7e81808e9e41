/- Helpers: the squares of the nearest and the farthest distance. -/
import Derived.Test.YtjncjoaohonmjaaGreatB00
import Derived.IntWalk
import Derived.Deep.RegionWith
import Derived.Deep.RegionHeld3
import Derived.Test.YtjncjoaohonmjaaGreatB01
namespace Go.Proofs.YtjncjoaohonmjaaGreat
open Go.RowKit Go.Shelf Go.Sort
attribute [local go_sem] idx3_0 idx3_1 idx3_2 old1 fro1 old2 fro2 old3 fro3 old4 fro4 old5 fro5 old6 fro6 old7 fro7 old8 fro8 old9 fro9 old10 fro10 old11 fro11 old12 fro12
def SI (w : World) (D R V : Nat) (dd s : Int) (wr : World) : Prop :=
  (Below w.heap.size w wr ∧ w.heap.size ≤ D ∧ w.heap.size ≤ R ∧ D ≠ R ∧ D ≠ V) ∧ (wr.cell? ⟨D, 0, none⟩ = some (.int .u64 (sqh s)) ∧ wr.cell? ⟨D, 1, none⟩ = some (.int .u64 (sql s))) ∧
  (wr.frozen? ⟨D, 0, none⟩ = false ∧ wr.frozen? ⟨D, 1, none⟩ = false) ∧ (wr.cell? ⟨R, 0, none⟩ = some (.int .u64 0) ∧ wr.cell? ⟨R, 1, none⟩ = some (.int .u64 0)) ∧
  (wr.frozen? ⟨R, 0, none⟩ = false ∧ wr.frozen? ⟨R, 1, none⟩ = false) ∧ wr.cell? ⟨V, 4, none⟩ = some (.int .i64 dd)
theorem SI.step {w wr : World} {D R V : Nat} {dd s : Int} (h : SI w D R V dd s wr) (s' : Int) (p1 p2 p3 p4 : Obj) :
    SI w D R V dd s' ((((((wr.setCell ⟨D, 0, none⟩ (.int .u64 (sqh s'))).setCell ⟨D, 1, none⟩ (.int .u64 (sql s'))).alloc p1).alloc p2).alloc p3).alloc p4).drew := by
  obtain ⟨⟨a1, a2, a3, a4, a5⟩, ⟨b1, b2⟩, ⟨c1, c2⟩, ⟨d1, d2⟩, ⟨e1, e2⟩, f1⟩ := h
  have n4 := Ne.symm a4
  have n5 := Ne.symm a5
  have hs := a1.size
  have nD := World.block_lt_of_cell? _ _ b1
  have nR := World.block_lt_of_cell? _ _ d1
  have nV := World.block_lt_of_cell? _ _ f1
  simp only at nD nR nV
  have nD_0 := Nat.lt_add_one_of_lt nD; have nD_1 := Nat.lt_add_one_of_lt nD_0; have nD_2 := Nat.lt_add_one_of_lt nD_1; have nD_3 := Nat.lt_add_one_of_lt nD_2
  have nR_0 := Nat.lt_add_one_of_lt nR; have nR_1 := Nat.lt_add_one_of_lt nR_0; have nR_2 := Nat.lt_add_one_of_lt nR_1; have nR_3 := Nat.lt_add_one_of_lt nR_2
  have nV_0 := Nat.lt_add_one_of_lt nV; have nV_1 := Nat.lt_add_one_of_lt nV_0; have nV_2 := Nat.lt_add_one_of_lt nV_1; have nV_3 := Nat.lt_add_one_of_lt nV_2
  refine ⟨⟨?_, a2, a3, a4, a5⟩, ⟨?_, ?_⟩, ⟨?_, ?_⟩, ⟨?_, ?_⟩, ⟨?_, ?_⟩, ?_⟩
  · (repeat (first | with_reducible exact Below.refl _ _ | with_reducible assumption | with_reducible refine Below.alloc ?_ (by first | (simp; done) | (simp; omega) | omega) _ | with_reducible refine Below.setCell ?_ (by first | (simp; done) | (simp; omega) | omega) _ | with_reducible refine Below.drew ?_ | with_reducible refine below_drewN ?_ _))
  all_goals simp [go_sem, *]
def nr (x d : Int) : Int := max 0 (siz x - d)
def fr (x d : Int) : Int := siz x + d
def nsum (g : Int → Int → Int) (x y z d j : Int) : Int := (if 0 < j then g x d * g x d else 0) + (if 1 < j then g y d * g y d else 0) + (if 2 < j then g z d * g z d else 0)
theorem nr_bd {x d : Int} (h1 : -200000000000000 ≤ x) (h2 : x ≤ 200000000000000) (h3 : 0 ≤ d) : 0 ≤ nr x d ∧ nr x d ≤ 200000000000000 := by
  have := siz_le h1 h2
  unfold nr
  omega
theorem fr_bd {x d : Int} (h1 : -200000000000000 ≤ x) (h2 : x ≤ 200000000000000) (h3 : 0 ≤ d) (h4 : d ≤ 200000000000) : 0 ≤ fr x d ∧ fr x d ≤ 200200000000000 := by
  have := siz_le h1 h2
  have := siz_nn x
  unfold fr
  omega
theorem nsum_bd {g : Int → Int → Int} {x y z d : Int} (hx : 0 ≤ g x d ∧ g x d ≤ 200200000000000) (hy : 0 ≤ g y d ∧ g y d ≤ 200200000000000) (hz : 0 ≤ g z d ∧ g z d ≤ 200200000000000) (j : Int) :
    0 ≤ nsum g x y z d j ∧ nsum g x y z d j ≤ 150000000000000000000000000000 := by
  have := @sq_bd (g x d) 200200000000000 (by omega) (by omega)
  have := @sq_bd (g y d) 200200000000000 (by omega) (by omega)
  have := @sq_bd (g z d) 200200000000000 (by omega) (by omega)
  have := sq_nn (g x d)
  have := sq_nn (g y d)
  have := sq_nn (g z d)
  unfold nsum
  constructor <;> split <;> split <;> split <;> omega
theorem nsum_0 (g : Int → Int → Int) (x y z d : Int) : nsum g x y z d 0 + g x d * g x d = nsum g x y z d 1 := by simp [nsum]
theorem nsum_1 (g : Int → Int → Int) (x y z d : Int) : nsum g x y z d 1 + g y d * g y d = nsum g x y z d 2 := by simp [nsum]
theorem nsum_2 (g : Int → Int → Int) (x y z d : Int) : nsum g x y z d 2 + g z d * g z d = nsum g x y z d 3 := by simp [nsum]
def ldSum : Op := .load 121 (.tmp 3)
theorem ldSum_eq : ldSum = .load 121 (.tmp 3) := rfl
attribute [local go_sem] ldSum_eq
set_option maxRecDepth 100000 in
set_option maxHeartbeats 8000000 in
theorem nearest_any (w : World) (x y z n d : Int) (x1 : -200000000000000 ≤ x) (x2 : x ≤ 200000000000000) (y1 : -200000000000000 ≤ y) (y2 : y ≤ 200000000000000) (z1 : -200000000000000 ≤ z) (z2 : z ≤ 200000000000000) (d1 : 0 ≤ d) (d2 : d ≤ 200000000000) :
    Calls Tryz.prog 83 #[.agg #[.int .i64 x, .int .i64 y, .int .i64 z, .int .i64 n, .int .i64 d]] w fun e w' => e = .returned (.agg #[.int .u64 (sqh (nsum nr x y z d 3)), .int .u64 (sql (nsum nr x y z d 3))]) ∧ Below w.heap.size w w' := by
  go_enter Tryz.func83, Tryz.ntmps83
  go_wp2_with fail
  go_loopw [9] (fun i wr => ∃ j : Int, 0 ≤ j ∧ j ≤ 3 ∧ i = .int .i64 j ∧ SI w (w.heap.size + 1 + 1) (w.heap.size + 1) w.heap.size d (nsum nr x y z d j) wr) (fun i _ => 3 - (intOf i).toNat)
  case atStart =>
    refine ⟨0, by omega, by omega, rfl, ⟨?_, ?_, ?_, ?_, ?_⟩, ⟨?_, ?_⟩, ⟨?_, ?_⟩, ⟨?_, ?_⟩, ⟨?_, ?_⟩, ?_⟩
    all_goals first | omega | (simp [go_sem, nsum, ← sqh_0, ← sql_0]; done) | (repeat (first | with_reducible exact Below.refl _ _ | with_reducible assumption | with_reducible refine Below.alloc ?_ (by first | (simp; done) | (simp; omega) | omega) _ | with_reducible refine Below.setCell ?_ (by first | (simp; done) | (simp; omega) | omega) _ | with_reducible refine Below.drew ?_ | with_reducible refine below_drewN ?_ _))
  case round =>
    obtain ⟨j, hj0, hj, rfl, hP⟩ := hrel
    have hV : w.heap.size + 1 + 1 ≠ w.heap.size := by omega
    generalize w.heap.size + 1 + 1 = D at *
    generalize w.heap.size + 1 = R at *
    rcases (by omega : j = 0 ∨ j = 1 ∨ j = 2 ∨ j = 3) with rfl | rfl | rfl | rfl
    · have sn := siz_nn x
      have sb := siz_le x1 x2
      have q1 : -9223372036854775807 ≤ max 0 (siz x - d) := by omega
      have q2 : max 0 (siz x - d) ≤ 9223372036854775807 := by omega
      have q3 := sq_nn (max 0 (siz x - d))
      have q4 := @sq_bd (max 0 (siz x - d)) 200200000000000 (by omega) (by omega)
      obtain ⟨q5, q6⟩ := nsum_bd (g := nr) (x := x) (y := y) (z := z) (d := d) (by have := nr_bd x1 x2 d1; omega) (by have := nr_bd y1 y2 d1; omega) (by have := nr_bd z1 z2 d1; omega) 0
      have hN := Lib.hid (nsum_0 nr x y z d)
      have q7 : nsum nr x y z d 0 + (max 0 (siz x - d)) * (max 0 (siz x - d)) < 340282366920938463463374607431768211456 := by omega
      have HP := Lib.hid hP
      generalize nsum nr x y z d 0 = S at *
      have s1 : IntKind.i64.wrap (siz x - d) = siz x - d := IntWalk.i64_in _ (by omega)
      obtain ⟨⟨a1, a2, a3, a4, a5⟩, ⟨b1, b2⟩, ⟨c1, c2⟩, ⟨g1, g2⟩, ⟨e1, e2⟩, f1⟩ := hP
      have nD := World.block_lt_of_cell? _ _ b1
      have nR := World.block_lt_of_cell? _ _ g1
      have nV := World.block_lt_of_cell? _ _ f1
      simp only at nD nR nV
      have nD_0 := Nat.lt_add_one_of_lt nD; have nD_1 := Nat.lt_add_one_of_lt nD_0; have nD_2 := Nat.lt_add_one_of_lt nD_1; have nD_3 := Nat.lt_add_one_of_lt nD_2
      have nR_0 := Nat.lt_add_one_of_lt nR; have nR_1 := Nat.lt_add_one_of_lt nR_0; have nR_2 := Nat.lt_add_one_of_lt nR_1; have nR_3 := Nat.lt_add_one_of_lt nR_2
      have nV_0 := Nat.lt_add_one_of_lt nV; have nV_1 := Nat.lt_add_one_of_lt nV_0; have nV_2 := Nat.lt_add_one_of_lt nV_1; have nV_3 := Nat.lt_add_one_of_lt nV_2
      have k1 : -9223372036854775807 ≤ x := by omega
      have k2 : x ≤ 9223372036854775807 := by omega
      clear x1 x2 y1 y2 z1 z2 d1 d2 sn sb q4 q6 hj0 hj
      go_wp2_with fail
      rw [← ldSum_eq]
      go_region_held3 (fun w' => w'.cell? ⟨w.heap.size, 4, none⟩ = some (.int .i64 d)) (simp [go_sem, *])
        (first | (go_at_call 51; ((with_reducible refine (size_any x (by assumption) (by assumption) _).mono ?_); rintro e w1 ⟨rfl, rfl⟩)) | (go_at_call 108; ((with_reducible refine (squareOf_any (max 0 (siz x - d)) q1 q2 _).mono ?_); rintro e w1 ⟨rfl, p1, rfl⟩)) | (go_at_call 109; ((with_reducible refine (plus_of S ((max 0 (siz x - d)) * (max 0 (siz x - d))) _ _ _ _ rfl rfl rfl rfl q5 q3 q7 _).mono ?_); rintro e w1 ⟨rfl, p2, p3, p4, rfl⟩)))
      all_goals
        go_wp2
        go_roundw
        case rel => exact ⟨1, by omega, by omega, rfl, by rw [← hN.out]; exact HP.out.step _ _ _ _ _⟩
        case measure => simp [intOf]
    · have sn := siz_nn y
      have sb := siz_le y1 y2
      have q1 : -9223372036854775807 ≤ max 0 (siz y - d) := by omega
      have q2 : max 0 (siz y - d) ≤ 9223372036854775807 := by omega
      have q3 := sq_nn (max 0 (siz y - d))
      have q4 := @sq_bd (max 0 (siz y - d)) 200200000000000 (by omega) (by omega)
      obtain ⟨q5, q6⟩ := nsum_bd (g := nr) (x := x) (y := y) (z := z) (d := d) (by have := nr_bd x1 x2 d1; omega) (by have := nr_bd y1 y2 d1; omega) (by have := nr_bd z1 z2 d1; omega) 1
      have hN := Lib.hid (nsum_1 nr x y z d)
      have q7 : nsum nr x y z d 1 + (max 0 (siz y - d)) * (max 0 (siz y - d)) < 340282366920938463463374607431768211456 := by omega
      have HP := Lib.hid hP
      generalize nsum nr x y z d 1 = S at *
      have s1 : IntKind.i64.wrap (siz y - d) = siz y - d := IntWalk.i64_in _ (by omega)
      obtain ⟨⟨a1, a2, a3, a4, a5⟩, ⟨b1, b2⟩, ⟨c1, c2⟩, ⟨g1, g2⟩, ⟨e1, e2⟩, f1⟩ := hP
      have nD := World.block_lt_of_cell? _ _ b1
      have nR := World.block_lt_of_cell? _ _ g1
      have nV := World.block_lt_of_cell? _ _ f1
      simp only at nD nR nV
      have nD_0 := Nat.lt_add_one_of_lt nD; have nD_1 := Nat.lt_add_one_of_lt nD_0; have nD_2 := Nat.lt_add_one_of_lt nD_1; have nD_3 := Nat.lt_add_one_of_lt nD_2
      have nR_0 := Nat.lt_add_one_of_lt nR; have nR_1 := Nat.lt_add_one_of_lt nR_0; have nR_2 := Nat.lt_add_one_of_lt nR_1; have nR_3 := Nat.lt_add_one_of_lt nR_2
      have nV_0 := Nat.lt_add_one_of_lt nV; have nV_1 := Nat.lt_add_one_of_lt nV_0; have nV_2 := Nat.lt_add_one_of_lt nV_1; have nV_3 := Nat.lt_add_one_of_lt nV_2
      have k1 : -9223372036854775807 ≤ y := by omega
      have k2 : y ≤ 9223372036854775807 := by omega
      clear x1 x2 y1 y2 z1 z2 d1 d2 sn sb q4 q6 hj0 hj
      go_wp2_with fail
      rw [← ldSum_eq]
      go_region_held3 (fun w' => w'.cell? ⟨w.heap.size, 4, none⟩ = some (.int .i64 d)) (simp [go_sem, *])
        (first | (go_at_call 51; ((with_reducible refine (size_any y (by assumption) (by assumption) _).mono ?_); rintro e w1 ⟨rfl, rfl⟩)) | (go_at_call 108; ((with_reducible refine (squareOf_any (max 0 (siz y - d)) q1 q2 _).mono ?_); rintro e w1 ⟨rfl, p1, rfl⟩)) | (go_at_call 109; ((with_reducible refine (plus_of S ((max 0 (siz y - d)) * (max 0 (siz y - d))) _ _ _ _ rfl rfl rfl rfl q5 q3 q7 _).mono ?_); rintro e w1 ⟨rfl, p2, p3, p4, rfl⟩)))
      all_goals
        go_wp2
        go_roundw
        case rel => exact ⟨2, by omega, by omega, rfl, by rw [← hN.out]; exact HP.out.step _ _ _ _ _⟩
        case measure => simp [intOf]
    · have sn := siz_nn z
      have sb := siz_le z1 z2
      have q1 : -9223372036854775807 ≤ max 0 (siz z - d) := by omega
      have q2 : max 0 (siz z - d) ≤ 9223372036854775807 := by omega
      have q3 := sq_nn (max 0 (siz z - d))
      have q4 := @sq_bd (max 0 (siz z - d)) 200200000000000 (by omega) (by omega)
      obtain ⟨q5, q6⟩ := nsum_bd (g := nr) (x := x) (y := y) (z := z) (d := d) (by have := nr_bd x1 x2 d1; omega) (by have := nr_bd y1 y2 d1; omega) (by have := nr_bd z1 z2 d1; omega) 2
      have hN := Lib.hid (nsum_2 nr x y z d)
      have q7 : nsum nr x y z d 2 + (max 0 (siz z - d)) * (max 0 (siz z - d)) < 340282366920938463463374607431768211456 := by omega
      have HP := Lib.hid hP
      generalize nsum nr x y z d 2 = S at *
      have s1 : IntKind.i64.wrap (siz z - d) = siz z - d := IntWalk.i64_in _ (by omega)
      obtain ⟨⟨a1, a2, a3, a4, a5⟩, ⟨b1, b2⟩, ⟨c1, c2⟩, ⟨g1, g2⟩, ⟨e1, e2⟩, f1⟩ := hP
      have nD := World.block_lt_of_cell? _ _ b1
      have nR := World.block_lt_of_cell? _ _ g1
      have nV := World.block_lt_of_cell? _ _ f1
      simp only at nD nR nV
      have nD_0 := Nat.lt_add_one_of_lt nD; have nD_1 := Nat.lt_add_one_of_lt nD_0; have nD_2 := Nat.lt_add_one_of_lt nD_1; have nD_3 := Nat.lt_add_one_of_lt nD_2
      have nR_0 := Nat.lt_add_one_of_lt nR; have nR_1 := Nat.lt_add_one_of_lt nR_0; have nR_2 := Nat.lt_add_one_of_lt nR_1; have nR_3 := Nat.lt_add_one_of_lt nR_2
      have nV_0 := Nat.lt_add_one_of_lt nV; have nV_1 := Nat.lt_add_one_of_lt nV_0; have nV_2 := Nat.lt_add_one_of_lt nV_1; have nV_3 := Nat.lt_add_one_of_lt nV_2
      have k1 : -9223372036854775807 ≤ z := by omega
      have k2 : z ≤ 9223372036854775807 := by omega
      clear x1 x2 y1 y2 z1 z2 d1 d2 sn sb q4 q6 hj0 hj
      go_wp2_with fail
      rw [← ldSum_eq]
      go_region_held3 (fun w' => w'.cell? ⟨w.heap.size, 4, none⟩ = some (.int .i64 d)) (simp [go_sem, *])
        (first | (go_at_call 51; ((with_reducible refine (size_any z (by assumption) (by assumption) _).mono ?_); rintro e w1 ⟨rfl, rfl⟩)) | (go_at_call 108; ((with_reducible refine (squareOf_any (max 0 (siz z - d)) q1 q2 _).mono ?_); rintro e w1 ⟨rfl, p1, rfl⟩)) | (go_at_call 109; ((with_reducible refine (plus_of S ((max 0 (siz z - d)) * (max 0 (siz z - d))) _ _ _ _ rfl rfl rfl rfl q5 q3 q7 _).mono ?_); rintro e w1 ⟨rfl, p2, p3, p4, rfl⟩)))
      all_goals
        go_wp2
        go_roundw
        case rel => exact ⟨3, by omega, by omega, rfl, by rw [← hN.out]; exact HP.out.step _ _ _ _ _⟩
        case measure => simp [intOf]
    · obtain ⟨⟨a1, a2, a3, a4, a5⟩, ⟨b1, b2⟩, ⟨c1, c2⟩, ⟨g1, g2⟩, ⟨e1, e2⟩, f1⟩ := hP
      generalize hS : nsum nr x y z d 3 = S at *
      have HS := Lib.hid hS
      clear hS
      go_wp2
      refine bodyPost_ret (v := .agg #[.int .u64 (sqh S), .int .u64 (sql S)]) (by simp [results, Tryz.results83, go_sem, g1, g2]) rfl ⟨?_, ?_⟩
      · rw [HS.out]
      · (repeat (first | with_reducible exact Below.refl _ _ | with_reducible assumption | with_reducible refine Below.alloc ?_ (by first | (simp; done) | (simp; omega) | omega) _ | with_reducible refine Below.setCell ?_ (by first | (simp; done) | (simp; omega) | omega) _ | with_reducible refine Below.drew ?_ | with_reducible refine below_drewN ?_ _))
end Go.Proofs.YtjncjoaohonmjaaGreat
namespace Go.Proofs.YtjncjoaohonmjaaGreat
open Go.RowKit Go.Shelf Go.Sort
attribute [local go_sem] idx3_0 idx3_1 idx3_2 old1 fro1 old2 fro2 old3 fro3 old4 fro4 old5 fro5 old6 fro6 old7 fro7 old8 fro8 old9 fro9 old10 fro10 old11 fro11 old12 fro12
theorem times_plain (a n : Int) : sqh (a * n) = sqh a * n + sqh (sql a * n) ∧ sql (a * n) = sql (sql a * n) := by
  unfold sqh sql
  have e := Int.mul_ediv_add_emod a 18446744073709551616
  generalize a / 18446744073709551616 = q at *
  generalize a % 18446744073709551616 = r at *
  subst e
  have e2 : (18446744073709551616 * q + r) * n = r * n + (q * n) * 18446744073709551616 := by
    rw [Int.add_mul, Int.mul_assoc, Int.mul_comm 18446744073709551616, Int.add_comm]
  rw [e2, Int.add_mul_ediv_right _ _ (by decide), Int.add_mul_emod_self_right]
  exact ⟨by omega, rfl⟩
set_option maxRecDepth 100000 in
set_option maxHeartbeats 400000 in
theorem times_any (a n : Int) (ha : 0 ≤ a) (hn0 : 0 ≤ n) (hn : n ≤ 9223372036854775807) (hab : a * n < 340282366920938463463374607431768211456) (w : World) :
    Calls Tryz.prog 107 #[.agg #[.int .u64 (sqh a), .int .u64 (sql a)], .int .i64 n] w fun e w' => e = .returned (.agg #[.int .u64 (sqh (a * n)), .int .u64 (sql (a * n))]) ∧ Below w.heap.size w w' := by
  have a1 := sqh_nn ha
  have a2 := sql_nn a
  have a3 := sql_lt a
  obtain ⟨t1, t2⟩ := times_plain a n
  have t3 : 0 ≤ sqh (sql a * n) := sqh_nn (Int.mul_nonneg a2 hn0)
  have t4 : 0 ≤ sqh a * n := Int.mul_nonneg a1 hn0
  have t5 := sqh_lt hab
  have E1 : Hid (IntKind.u64.wrap (sqh a * n) = sqh a * n) := IntWalk.u64_in _ (by omega)
  have E2 : Hid (IntKind.u64.wrap (sqh (sql a * n) + sqh a * n) = sqh (a * n)) := (IntWalk.u64_in _ (by omega)).trans (by rw [t1]; exact Int.add_comm _ _)
  have E3 : Hid (sql (sql a * n) = sql (a * n)) := t2.symm
  have E4 : IntKind.u64.wrap n = n := IntWalk.u64_in _ (by omega)
  have E5 := E1.out
  clear t1 t2
  go_enter Tryz.func107, Tryz.ntmps107
  go_wp2_with (go_at_call 118; refine (mul64 _ _ (by omega) (by omega) (by omega) (by omega) _).mono ?_; rintro e w' ⟨rfl, rfl⟩)
  refine bodyPost_ret (v := .agg #[.int .u64 (IntKind.u64.wrap (sqh (sql a * n) + sqh a * n)), .int .u64 (sql (sql a * n))]) (by simp [results, Tryz.results107, go_sem]) rfl ⟨by rw [E2.out, E3.out], by (repeat (first | with_reducible exact Below.refl _ _ | with_reducible assumption | with_reducible refine Below.alloc ?_ (by first | (simp; done) | (simp; omega) | omega) _ | with_reducible refine Below.setCell ?_ (by first | (simp; done) | (simp; omega) | omega) _ | with_reducible refine Below.drew ?_ | with_reducible refine below_drewN ?_ _))⟩
def part3 (p q r : Int) (j : Int) : Int := (if 0 < j then p else 0) + (if 1 < j then q else 0) + (if 2 < j then r else 0)
theorem part3_0 (p q r : Int) : part3 p q r 0 = 0 := by simp [part3]
theorem part3_1 (p q r : Int) : part3 p q r 1 = p := by simp [part3]
theorem part3_2 (p q r : Int) : part3 p q r 2 = p + q := by simp [part3]
theorem part3_3 (p q r : Int) : part3 p q r 3 = p + q + r := by simp [part3]
def ALI (w : World) (x y z n d : Int) (wr : World) : Prop :=
  Below w.heap.size w wr ∧ (wr.cell? ⟨w.heap.size, 0, none⟩ = some (.int .i64 x) ∧ wr.cell? ⟨w.heap.size, 1, none⟩ = some (.int .i64 y) ∧ wr.cell? ⟨w.heap.size, 2, none⟩ = some (.int .i64 z) ∧ wr.cell? ⟨w.heap.size, 3, none⟩ = some (.int .i64 n) ∧ wr.cell? ⟨w.heap.size, 4, none⟩ = some (.int .i64 d)) ∧
  (wr.cell? ⟨w.heap.size + 1 + 1, 0, none⟩ = some (.int .i64 0) ∧ wr.cell? ⟨w.heap.size + 1 + 1, 1, none⟩ = some (.int .i64 0)) ∧ (wr.frozen? ⟨w.heap.size + 1 + 1, 0, none⟩ = false ∧ wr.frozen? ⟨w.heap.size + 1 + 1, 1, none⟩ = false)
theorem axm_bd {a x : Int} (a1 : -100 ≤ a) (a2 : a ≤ 100) (x1 : -200000000000000 ≤ x) (x2 : x ≤ 200000000000000) : -20000000000000000 ≤ a * x ∧ a * x ≤ 20000000000000000 := by
  have h1 := siz_le (b := 100) a1 a2
  have h2 := siz_le (b := 200000000000000) x1 x2
  have h3 : siz a * siz x ≤ 100 * 200000000000000 := Int.mul_le_mul h1 h2 (siz_nn x) (by omega)
  have h4 : siz (a * x) = siz a * siz x := by unfold siz; rw [Int.natAbs_mul]; simp
  have h5 := siz_of (a * x)
  have h6 := siz_nn (a * x)
  omega
set_option maxRecDepth 100000 in
set_option maxHeartbeats 4000000 in
theorem along_any (x y z n d a b c : Int) (w : World) (x1 : -200000000000000 ≤ x) (x2 : x ≤ 200000000000000) (y1 : -200000000000000 ≤ y) (y2 : y ≤ 200000000000000) (z1 : -200000000000000 ≤ z) (z2 : z ≤ 200000000000000) (d1 : 0 ≤ d) (d2 : d ≤ 200000000000)
    (a1 : -100 ≤ a) (a2 : a ≤ 100) (b1 : -100 ≤ b) (b2 : b ≤ 100) (c1 : -100 ≤ c) (c2 : c ≤ 100) :
    Calls Tryz.prog 80 #[.agg #[.int .i64 x, .int .i64 y, .int .i64 z, .int .i64 n, .int .i64 d], .agg #[.int .i64 a, .int .i64 b, .int .i64 c]] w fun e w' => e = .returned (.agg #[.int .i64 (a * x + b * y + c * z - (siz a * d + siz b * d + siz c * d)), .int .i64 (a * x + b * y + c * z + (siz a * d + siz b * d + siz c * d))]) ∧ Below w.heap.size w w' := by
  obtain ⟨p1, p2⟩ := axm_bd a1 a2 x1 x2
  obtain ⟨q1, q2⟩ := axm_bd b1 b2 y1 y2
  obtain ⟨r1, r2⟩ := axm_bd c1 c2 z1 z2
  have sa := siz_le (b := 100) a1 a2
  have sb := siz_le (b := 100) b1 b2
  have sc := siz_le (b := 100) c1 c2
  have na := siz_nn a
  have nb := siz_nn b
  have nc := siz_nn c
  obtain ⟨s1, s2⟩ := axm_bd (a := siz a) (x := d) (by omega) (by omega) (by omega) (by omega)
  obtain ⟨t1, t2⟩ := axm_bd (a := siz b) (x := d) (by omega) (by omega) (by omega) (by omega)
  obtain ⟨u1, u2⟩ := axm_bd (a := siz c) (x := d) (by omega) (by omega) (by omega) (by omega)
  have m1 : IntKind.i64.wrap (a * x) = a * x := IntWalk.i64_in _ (by omega)
  have m2 : IntKind.i64.wrap (b * y) = b * y := IntWalk.i64_in _ (by omega)
  have m3 : IntKind.i64.wrap (c * z) = c * z := IntWalk.i64_in _ (by omega)
  have m4 : IntKind.i64.wrap (siz a * d) = siz a * d := IntWalk.i64_in _ (by omega)
  have m5 : IntKind.i64.wrap (siz b * d) = siz b * d := IntWalk.i64_in _ (by omega)
  have m6 : IntKind.i64.wrap (siz c * d) = siz c * d := IntWalk.i64_in _ (by omega)
  have m7 : IntKind.i64.wrap (a * x + b * y) = a * x + b * y := IntWalk.i64_in _ (by omega)
  have m8 : IntKind.i64.wrap (a * x + b * y + c * z) = a * x + b * y + c * z := IntWalk.i64_in _ (by omega)
  have m9 : IntKind.i64.wrap (siz a * d + siz b * d) = siz a * d + siz b * d := IntWalk.i64_in _ (by omega)
  have m10 : IntKind.i64.wrap (siz a * d + siz b * d + siz c * d) = siz a * d + siz b * d + siz c * d := IntWalk.i64_in _ (by omega)
  have m11 : IntKind.i64.wrap (a * x + b * y + c * z - (siz a * d + siz b * d + siz c * d)) = a * x + b * y + c * z - (siz a * d + siz b * d + siz c * d) := IntWalk.i64_in _ (by omega)
  have m12 : IntKind.i64.wrap (a * x + b * y + c * z + (siz a * d + siz b * d + siz c * d)) = a * x + b * y + c * z + (siz a * d + siz b * d + siz c * d) := IntWalk.i64_in _ (by omega)
  have Z0 : IntKind.i64.wrap (0 + a * x) = a * x := by rw [Int.zero_add]; exact m1
  have Z1 : IntKind.i64.wrap (0 + siz a * d) = siz a * d := by rw [Int.zero_add]; exact m4
  clear p1 p2 q1 q2 r1 r2 s1 s2 t1 t2 u1 u2
  go_enter Tryz.func80, Tryz.ntmps80
  go_wp2_with fail
  go_loopw [5, 6, 10] (fun s5 s6 i wr => ∃ j : Int, 0 ≤ j ∧ j ≤ 3 ∧ i = .int .i64 j ∧ s5 = .int .i64 (part3 (a * x) (b * y) (c * z) j) ∧ s6 = .int .i64 (part3 (siz a * d) (siz b * d) (siz c * d) j) ∧ ALI w x y z n d wr) (fun _ _ i _ => 3 - (intOf i).toNat)
  case atStart => exact ⟨0, by omega, by omega, rfl, by rw [part3_0], by rw [part3_0], by (repeat (first | with_reducible exact Below.refl _ _ | with_reducible assumption | with_reducible refine Below.alloc ?_ (by first | (simp; done) | (simp; omega) | omega) _ | with_reducible refine Below.setCell ?_ (by first | (simp; done) | (simp; omega) | omega) _ | with_reducible refine Below.drew ?_ | with_reducible refine below_drewN ?_ _)), ⟨by simp [go_sem], by simp [go_sem], by simp [go_sem], by simp [go_sem], by simp [go_sem]⟩, ⟨by simp [go_sem], by simp [go_sem]⟩, by simp [go_sem], by simp [go_sem]⟩
  case round =>
    obtain ⟨j, hj0, hj, rfl, rfl, rfl, hI⟩ := hrel
    have HI := Lib.hid hI
    obtain ⟨hbel, ⟨e0, e1, e2, e3, e4⟩, ⟨r0, r1⟩, f0, f1⟩ := hI
    rcases (by omega : j = 0 ∨ j = 1 ∨ j = 2 ∨ j = 3) with rfl | rfl | rfl | rfl
    · rw [part3_0, part3_0]
      go_wp2_with fail
      go_quiet ((go_at_call 51; exact Calls.quiet_of_same ((size_any _ (by omega) (by omega) _).mono (fun _ _ h => ⟨h.1, h.2.symm⟩))))
      go_wp2_with fail
      go_roundw
      case rel => exact ⟨1, by omega, by omega, by go_num, by rw [part3_1], by rw [part3_1], by have Bq := HI.out.1; (repeat (first | with_reducible exact Below.refl _ _ | with_reducible assumption | with_reducible refine Below.alloc ?_ (by first | (simp; done) | (simp; omega) | omega) _ | with_reducible refine Below.setCell ?_ (by first | (simp; done) | (simp; omega) | omega) _ | with_reducible refine Below.drew ?_ | with_reducible refine below_drewN ?_ _)), ⟨by simpa [go_sem] using e0, by simpa [go_sem] using e1, by simpa [go_sem] using e2, by simpa [go_sem] using e3, by simpa [go_sem] using e4⟩, ⟨by simpa [go_sem] using r0, by simpa [go_sem] using r1⟩, by simpa [go_sem] using f0, by simpa [go_sem] using f1⟩
      case measure => simp [intOf]
    · rw [part3_1, part3_1]
      go_wp2_with fail
      go_quiet ((go_at_call 51; exact Calls.quiet_of_same ((size_any _ (by omega) (by omega) _).mono (fun _ _ h => ⟨h.1, h.2.symm⟩))))
      go_wp2_with fail
      go_roundw
      case rel => exact ⟨2, by omega, by omega, by go_num, by rw [part3_2], by rw [part3_2], by have Bq := HI.out.1; (repeat (first | with_reducible exact Below.refl _ _ | with_reducible assumption | with_reducible refine Below.alloc ?_ (by first | (simp; done) | (simp; omega) | omega) _ | with_reducible refine Below.setCell ?_ (by first | (simp; done) | (simp; omega) | omega) _ | with_reducible refine Below.drew ?_ | with_reducible refine below_drewN ?_ _)), ⟨by simpa [go_sem] using e0, by simpa [go_sem] using e1, by simpa [go_sem] using e2, by simpa [go_sem] using e3, by simpa [go_sem] using e4⟩, ⟨by simpa [go_sem] using r0, by simpa [go_sem] using r1⟩, by simpa [go_sem] using f0, by simpa [go_sem] using f1⟩
      case measure => simp [intOf]
    · rw [part3_2, part3_2]
      go_wp2_with fail
      go_quiet ((go_at_call 51; exact Calls.quiet_of_same ((size_any _ (by omega) (by omega) _).mono (fun _ _ h => ⟨h.1, h.2.symm⟩))))
      go_wp2_with fail
      go_roundw
      case rel => exact ⟨3, by omega, by omega, by go_num, by rw [part3_3], by rw [part3_3], by have Bq := HI.out.1; (repeat (first | with_reducible exact Below.refl _ _ | with_reducible assumption | with_reducible refine Below.alloc ?_ (by first | (simp; done) | (simp; omega) | omega) _ | with_reducible refine Below.setCell ?_ (by first | (simp; done) | (simp; omega) | omega) _ | with_reducible refine Below.drew ?_ | with_reducible refine below_drewN ?_ _)), ⟨by simpa [go_sem] using e0, by simpa [go_sem] using e1, by simpa [go_sem] using e2, by simpa [go_sem] using e3, by simpa [go_sem] using e4⟩, ⟨by simpa [go_sem] using r0, by simpa [go_sem] using r1⟩, by simpa [go_sem] using f0, by simpa [go_sem] using f1⟩
      case measure => simp [intOf]
    · rw [part3_3, part3_3]
      go_wp2_with fail
      refine bodyPost_ret (v := .agg #[.int .i64 (a * x + b * y + c * z - (siz a * d + siz b * d + siz c * d)), .int .i64 (a * x + b * y + c * z + (siz a * d + siz b * d + siz c * d))]) (by simp [results, Tryz.results80, go_sem, r0, r1]) rfl ⟨rfl, by have Bq := HI.out.1; (repeat (first | with_reducible exact Below.refl _ _ | with_reducible assumption | with_reducible refine Below.alloc ?_ (by first | (simp; done) | (simp; omega) | omega) _ | with_reducible refine Below.setCell ?_ (by first | (simp; done) | (simp; omega) | omega) _ | with_reducible refine Below.drew ?_ | with_reducible refine below_drewN ?_ _))⟩
end Go.Proofs.YtjncjoaohonmjaaGreat
namespace Go.Proofs.YtjncjoaohonmjaaGreat
open Go.RowKit
def ghLow (ops : Array Oper) (n : Nat) : Prop := ∀ (i : Nat) (o : Oper), ops[i]? = some o → (∀ e ∈ o.after, Region.binds .any e = true → e.on < i) ∧ ∃ d, o.dst = some d ∧ d < n ∧ ∀ (j : Nat) (o' : Oper), ops[j]? = some o' → j ≠ i → o'.dst ≠ some d
theorem wpAny_gd {P : Program} {ops : Array Oper} {Q : Exit → Act → World → Prop} (φ : Nat → Value → World → Prop) (a : Act) (w : World) (hl : ghLow ops a.tmps.size)
    (hmono : ∀ i v w1 w2, φ i v w1 → Below w1.heap.size w1 w2 → φ i v w2)
    (hstep : ∀ (i : Nat) (o : Oper), ops[i]? = some o → ∀ a' w', Below w.heap.size w w' → RSame ops a a' → RDeps ops φ a' w' o → (Region.wanted o (yielded ops a'.tmps) = true ∧ o.wp P a' w' (fun a'' w'' => ∃ v, a'' = a'.put o.dst v ∧ Below w'.heap.size w' w'' ∧ φ i v w'') Q) ∨ (Region.wanted o (yielded ops a'.tmps) = false ∧ φ i undef w'))
    (hend : ∀ a' w', Below w.heap.size w w' → RSame ops a a' → (∀ (i : Nat) (o : Oper) (d : Nat), ops[i]? = some o → o.dst = some d → φ i (a'.tmps.getD d undef) w') → Q .normal a' w') :
    ∀ (fuel : Nat) (listed : Array Bool) (a' : Act) (w' : World), RInv ops φ a w listed a' w' → rgMissing listed ops.size ≤ fuel → wpAny P .any ops Q fuel listed a' w' := by
  have full : ∀ (listed : Array Bool) (a' : Act) (w' : World), RInv ops φ a w listed a' w' → Region.ready .any ops listed = [] → Q .normal a' w' := by
    intro listed a' w' h hr
    have all : ∀ n i, i < n → i < ops.size → listed.getD i false = true := by
      intro n
      induction n with
      | zero => intro i hi; omega
      | succ n ih =>
        intro i hi hs
        rcases Nat.lt_or_eq_of_le (Nat.le_of_lt_succ hi) with h1 | rfl
        · exact ih i h1 hs
        · have ho : ops[i]? = some ops[i] := Array.getElem?_eq_getElem hs
          cases hc : listed.getD i false with
          | true => rfl
          | false =>
            exfalso
            have hm : i ∈ Region.ready .any ops listed := by
              unfold Region.ready
              refine List.mem_filter.2 ⟨List.mem_range.2 hs, ?_⟩
              have h2 : listed.getD i true = false := by
                have hsz : i < listed.size := by rw [h.sz]; exact hs
                simp [Array.getD, hsz] at hc ⊢
                exact hc
              rw [h2, ho]
              simp only [Bool.not_false, Bool.true_and, Option.map_some, Option.getD_some]
              rw [Array.all_eq_true_iff_forall_mem]
              intro e he
              cases hbd : Region.binds .any e with
              | false => simp
              | true =>
                have := ih e.on ((hl i _ ho).1 e he hbd) (by have := (hl i _ ho).1 e he hbd; omega)
                simp [this]
            rw [hr] at hm
            cases hm
    refine hend a' w' h.below ⟨h.tsize, h.defs, h.rest⟩ fun i o d ho hd => h.facts i o d ho hd ?_
    have hs : i < ops.size := by
      rcases Nat.lt_or_ge i ops.size with q | q
      · exact q
      · rw [Array.getElem?_eq_none q] at ho; cases ho
    exact all (i + 1) i (by omega) hs
  intro fuel
  induction fuel with
  | zero =>
    intro listed a' w' h hm
    have hr : Region.ready .any ops listed = [] := by
      rcases hq : Region.ready .any ops listed with _ | ⟨i, l⟩
      · rfl
      · exfalso
        have hi : i ∈ Region.ready .any ops listed := by rw [hq]; simp
        unfold Region.ready at hi
        obtain ⟨h1, h2⟩ := List.mem_filter.1 hi
        have h3 : (!listed.getD i true) = true := by
          simp only [Bool.and_eq_true] at h2
          exact h2.1
        have : i ∈ (List.range ops.size).filter fun i => !listed.getD i true := List.mem_filter.2 ⟨h1, h3⟩
        have := List.length_pos_of_mem this
        unfold rgMissing at hm
        omega
    exact ⟨hr, full _ _ _ h hr⟩
  | succ fuel ih =>
    intro listed a' w' h hm
    refine ⟨fun hr => full _ _ _ h hr, fun i hi => ?_⟩
    unfold Region.ready at hi
    obtain ⟨h1, h2⟩ := List.mem_filter.1 hi
    simp only [Bool.and_eq_true] at h2
    obtain ⟨h3, h4⟩ := h2
    have hs : i < ops.size := List.mem_range.1 h1
    have ho : ops[i]? = some ops[i] := Array.getElem?_eq_getElem hs
    obtain ⟨hlow, d, hd, hdn, hdi⟩ := hl i _ ho
    rw [ho] at h4
    simp only [Option.map_some, Option.getD_some] at h4
    rw [Array.all_eq_true_iff_forall_mem] at h4
    have hdeps : RDeps ops φ a' w' ops[i] := by
      intro e he hb o' d' ho' hd'
      have := h4 e he
      rw [hb] at this
      exact h.facts _ _ _ ho' hd' (by simpa using this)
    have hstp := hstep i _ ho a' w' h.below ⟨h.tsize, h.defs, h.rest⟩ hdeps
    rw [hd] at hstp
    have hsz : i < listed.size := by rw [h.sz]; exact hs
    have key : ∀ v w'', Below w'.heap.size w' w'' → φ i v w'' → wpAny P .any ops Q fuel (listed.setIfInBounds i true) (a'.put (some d) v) w'' := by
      intro v w'' hb hv
      refine ih _ _ _ ⟨by simp [h.sz], belowT h.below hb, by rw [← h.tsize]; simp [Act.put], by rw [← h.defs]; rfl, ?_, ?_⟩ ?_
      · intro t ht
        rw [rg_put_get (by intro e; exact ht i _ ho (by rw [hd, e]))]
        exact h.rest t ht
      · intro j o' d' ho' hd' hj
        by_cases hji : j = i
        · subst hji
          rw [ho] at ho'
          cases ho'
          rw [hd] at hd'
          cases hd'
          rw [rg_put_own (by rw [h.tsize]; exact hdn)]
          exact hv
        · have hne : d ≠ d' := by
            intro e
            exact hdi j o' ho' hji (by rw [hd', e])
          rw [rg_put_getD hne]
          refine hmono _ _ _ _ (h.facts j o' d' ho' hd' ?_) hb
          simp only [Array.getD_eq_getD_getElem?, Array.getElem?_setIfInBounds] at hj ⊢
          rw [if_neg (fun e => hji e.symm)] at hj
          exact hj
      · have : rgMissing (listed.setIfInBounds i true) ops.size < rgMissing listed ops.size := by
          refine filter_len_lt (i := i) ?_ h3 ?_ h1
          · intro x hx
            simp only [Array.getD_eq_getD_getElem?, Array.getElem?_setIfInBounds] at hx ⊢
            by_cases hxi : i = x
            · subst hxi
              simp [hsz] at hx
            · rw [if_neg hxi] at hx
              exact hx
          · simp [Array.getD_eq_getD_getElem?, hsz]
        omega
    unfold wpOp
    rw [ho]
    rcases hstp with ⟨hwant, hw⟩ | ⟨hwant, hv⟩
    · simp only [hwant, if_true]
      refine .inl (Oper.wp_mono ?_ hw)
      rintro a'' w'' ⟨v, rfl, hb, hv⟩
      exact key v w'' hb hv
    · simp only [hwant]
      rw [hd]
      exact key undef w' (Below.refl _ _) hv
def noGuard (o : Oper) : Oper := { o with guard := none }
theorem ghLow_of {ops : Array Oper} {n : Nat} (h : rgCheck n 0 (ops.toList.map noGuard) = true) : ghLow ops n := by
  have low := rgLow_of (ops := (ops.toList.map noGuard).toArray) (n := n) (by simpa using h)
  have get : ∀ (i : Nat) (o : Oper), ops[i]? = some o → (ops.toList.map noGuard).toArray[i]? = some (noGuard o) := by
    intro i o ho
    rw [List.getElem?_toArray, List.getElem?_map, Array.getElem?_toList, ho]
    rfl
  intro i o ho
  obtain ⟨_, h2, d, h3, h4, h5⟩ := low i _ (get i o ho)
  exact ⟨h2, d, h3, h4, fun j o' hj hne e => h5 j (noGuard o') (get j o' hj) hne e⟩
theorem wpOps_any {P : Program} {ops : Array Oper} {Q : Exit → Act → World → Prop} (hlow : ∀ (i : Nat) (o : Oper), ops[i]? = some o → ∀ e ∈ o.after, Region.binds .any e = true → e.on < i) : ∀ (f k : Nat) (listed : Array Bool) (a : Act) (w : World), f + k = ops.size → listed.size = ops.size → (∀ j, j < ops.size → (listed.getD j true = true ↔ j < k)) →
    wpAny P .any ops Q f listed a w → wpOps P ops Q ((List.range ops.size).drop k) a w
  | 0, k, listed, a, w, hk, _, _, h => by
    rw [List.drop_eq_nil_of_le (by simp; omega)]
    exact h.2
  | f + 1, k, listed, a, w, hk, hz, hl, h => by
    have hks : k < ops.size := by omega
    have hd : (List.range ops.size).drop k = k :: (List.range ops.size).drop (k + 1) := by
      rw [List.drop_eq_getElem_cons (by simpa using hks)]
      simp
    rw [hd, wpOps_cons]
    have ho : ops[k]? = some ops[k] := Array.getElem?_eq_getElem hks
    have hr : k ∈ Region.ready .any ops listed := by
      unfold Region.ready
      refine List.mem_filter.2 ⟨List.mem_range.2 hks, ?_⟩
      have h1 : listed.getD k true = false := by
        cases hc : listed.getD k true with
        | false => rfl
        | true => have := (hl k hks).1 hc; omega
      rw [h1, ho]
      simp only [Bool.not_false, Bool.true_and, Option.map_some, Option.getD_some]
      rw [Array.all_eq_true_iff_forall_mem]
      intro e he
      cases hbd : Region.binds .any e with
      | false => simp
      | true =>
        have hlt := hlow k _ ho e he hbd
        have h2 := (hl e.on (by omega)).2 hlt
        have hez : e.on < listed.size := by omega
        have h3 : listed.getD e.on false = true := by
          simp [Array.getD, hez] at h2 ⊢
          exact h2
        simp [h3]
    refine wpOp_mono (fun a w hq => wpOps_any hlow f (k + 1) _ a w (by omega) (by simp [hz]) ?_ hq) (h.2 k hr)
    intro j hj
    by_cases hjk : j = k
    · subst hjk
      have : j < listed.size := by omega
      simp [Array.getD_eq_getD_getElem?, this]
    · have : (listed.setIfInBounds k true).getD j true = listed.getD j true := by
        simp only [Array.getD_eq_getD_getElem?, Array.getElem?_setIfInBounds]
        rw [if_neg (fun e => hjk e.symm)]
      rw [this, hl j hj]
      omega
/-- The law. -/
theorem wp_region_gd {P : Program} {id : Nat} {draw : Bool} {ops : Array Oper} {Q : Exit → Act → World → Prop} {a : Act} {w : World} (Φ : List MP) (m : List Bool) (hmask : maskOf (rgDsts ops.toList) a.tmps.size = m) (hm : P.follows .mixedOrders = true) (hl : rgCheck a.tmps.size 0 (ops.toList.map noGuard) = true)
    (hstep : AllOps (fun i o => ∀ a' w', Below w.heap.size w w' → RSame ops a a' → RDeps ops (fun i => (mpAt Φ i).p) a' w' o → (Region.wanted o (yielded ops a'.tmps) = true ∧ o.wp P a' w' (fun a'' w'' => ∃ v, a'' = a'.put o.dst v ∧ Below w'.heap.size w' w'' ∧ (mpAt Φ i).p v w'') Q) ∨ (Region.wanted o (yielded ops a'.tmps) = false ∧ (mpAt Φ i).p undef w')) 0 ops.toList)
    (hend : ∀ (V : Nat → Value) (w' : World), Below w.heap.size w w' → AllOps (fun i o => (mpAt Φ i).p (V (o.dst.getD 0)) w') 0 ops.toList → Q .normal ⟨(maskPut V 0 m a.tmps.toList).toArray, a.defers⟩ w') :
    (Code.region id ops draw).wp P Q a w := by
  have low := ghLow_of hl
  have main : ∀ w0 : World, Below w.heap.size w w0 → wpAny P .any ops Q ops.size (Array.replicate ops.size false) a w0 := by
    intro w0 hb0
    refine wpAny_gd (fun i => (mpAt Φ i).p) a w low (fun i v w1 w2 => (mpAt Φ i).on v w1 w2) (allOps_of hstep) ?_ ops.size _ a w0 ⟨by simp, hb0, rfl, rfl, fun _ _ => rfl, ?_⟩ ?_
    · intro a' w' hb hs hf
      have := hend (fun d => a'.tmps.getD d undef) w' hb (allOps_mk fun i o ho => by
        obtain ⟨_, d, hd, _⟩ := low i o ho
        rw [hd]
        exact hf i o d ho hd)
      rw [act_of hs, act_mask _ _ a m hmask]
      exact this
    · intro i o d ho _ h
      exfalso
      simp only [Array.getD_eq_getD_getElem?, Array.getElem?_replicate] at h
      split at h <;> cases h
    · unfold rgMissing
      refine Nat.le_trans (List.length_filter_le _ _) ?_
      simp
  cases draw with
  | true => exact wp_region_any hm (main _ ((Below.refl _ _).drew))
  | false =>
    refine wp_region ?_
    have := wpOps_any (fun i o ho => (low i o ho).1) ops.size 0 (Array.replicate ops.size false) a w (by omega) (by simp) (fun j hj => by simp [Array.getD_eq_getD_getElem?, hj]) (main w (Below.refl _ _))
    simpa using this
/-- a word that holds the value if the condition holds, and nothing otherwise -/
def mpIf (c : Prop) [Decidable c] (x : Value) : MP := ⟨fun v _ => v = if c then x else undef, fun _ _ _ h _ => h⟩
section
variable {P : Program} {φ : Value → World → Prop} {Q : Exit → Act → World → Prop} {o : Oper} {a : Act} {w : World} {x x' y : Value} {t t' : Nat}
theorem op0 (hr : ∀ ρ : Operand → Value, (∀ v, ρ (.const v) = v) → (execOp ρ o).run P w = .ok (.value y) w) (hy : φ y w) : o.wp P a w (fun a'' w'' => ∃ v, a'' = a.put o.dst v ∧ Below w.heap.size w w'' ∧ φ v w'') Q := by
  unfold Oper.wp
  rw [hr a.eval (fun _ => rfl)]
  exact ⟨y, rfl, Below.refl _ _, hy⟩
theorem op1 (h : a.eval (.tmp t) = x) (hr : ∀ ρ : Operand → Value, ρ (.tmp t) = x → (∀ v, ρ (.const v) = v) → (execOp ρ o).run P w = .ok (.value y) w) (hy : φ y w) : o.wp P a w (fun a'' w'' => ∃ v, a'' = a.put o.dst v ∧ Below w.heap.size w w'' ∧ φ v w'') Q :=
  by
  unfold Oper.wp
  rw [hr a.eval h (fun _ => rfl)]
  exact ⟨y, rfl, Below.refl _ _, hy⟩
theorem op2 (h : a.eval (.tmp t) = x) (h' : a.eval (.tmp t') = x') (hr : ∀ ρ : Operand → Value, ρ (.tmp t) = x → ρ (.tmp t') = x' → (∀ v, ρ (.const v) = v) → (execOp ρ o).run P w = .ok (.value y) w) (hy : φ y w) : o.wp P a w (fun a'' w'' => ∃ v, a'' = a.put o.dst v ∧ Below w.heap.size w w'' ∧ φ v w'') Q := by
  unfold Oper.wp
  rw [hr a.eval h h' (fun _ => rfl)]
  exact ⟨y, rfl, Below.refl _ _, hy⟩
end
theorem yielded_of {ops : Array Oper} {a : Act} {j d : Nat} {b : Bool} (hd : (ops[j]?).bind (·.dst) = some d) (h : a.eval (.tmp d) = .bool b) : yielded ops a.tmps j = some b := by
  unfold yielded
  rw [hd]
  have h' : (a.tmps[d]?).getD undef = .bool b := by rw [← rg_getD]; exact h
  cases hq : a.tmps[d]? with
  | none => rw [hq] at h'; cases h'
  | some x =>
    rw [hq] at h'
    simp only [Option.bind_some]
    rw [hq]
    simp only [Option.getD_some] at h'
    rw [h']
theorem wanted_n {ops : Array Oper} {a : Act} {o : Oper} (hg : o.guard = none) : Region.wanted o (yielded ops a.tmps) = true := by simp [Region.wanted, hg]
theorem wanted_t {ops : Array Oper} {a : Act} {o : Oper} {j d : Nat} {b : Bool} (hg : o.guard = some (j, b)) (hd : (ops[j]?).bind (·.dst) = some d) (h : a.eval (.tmp d) = .bool b) : Region.wanted o (yielded ops a.tmps) = true := by
  simp [Region.wanted, hg, yielded_of hd h]
theorem wanted_f {ops : Array Oper} {a : Act} {o : Oper} {j d : Nat} {b b' : Bool} (hg : o.guard = some (j, b)) (hd : (ops[j]?).bind (·.dst) = some d) (h : a.eval (.tmp d) = .bool b') (hne : (b' == b) = false) : Region.wanted o (yielded ops a.tmps) = false := by
  simp only [Region.wanted, hg, yielded_of hd h]
  cases b <;> cases b' <;> first | rfl | cases hne
theorem wanted_u {ops : Array Oper} {a : Act} {o : Oper} {j d : Nat} {b : Bool} (hg : o.guard = some (j, b)) (hd : (ops[j]?).bind (·.dst) = some d) (h : a.eval (.tmp d) = undef) : Region.wanted o (yielded ops a.tmps) = false := by
  have hy : yielded ops a.tmps j = none := by
    unfold yielded
    rw [hd]
    have h' : (a.tmps[d]?).getD undef = undef := by rw [← rg_getD]; exact h
    simp only [Option.bind_some]
    cases hq : a.tmps[d]? with
    | none => rfl
    | some x =>
      rw [hq] at h'
      simp only [Option.getD_some] at h'
      rw [h']
      rfl
  simp [Region.wanted, hg, hy]
end Go.Proofs.YtjncjoaohonmjaaGreat
