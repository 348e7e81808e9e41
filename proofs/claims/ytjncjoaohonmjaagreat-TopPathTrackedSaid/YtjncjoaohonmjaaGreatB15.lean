/- Helpers: distances as closures. -/
import Derived.Test.YtjncjoaohonmjaaGreatB14
import Derived.Test.YtjncjoaohonmjaaGreatB09
import Derived.Test.YtjncjoaohonmjaaGreatB02
namespace Go.Proofs.YtjncjoaohonmjaaGreat
open Go.RowKit Go.Shelf Go.Sort
attribute [local go_sem] idx3_0 idx3_1 idx3_2 old1 fro1 old2 fro2 old3 fro3 old4 fro4 old5 fro5 old6 fro6 old7 fro7 old8 fro8 old9 fro9 old10 fro10 old11 fro11 old12 fro12
set_option maxRecDepth 100000 in
set_option maxHeartbeats 400000 in
theorem squareOver_any (w : World) (x y z n d e : Int) (hn : 1 ≤ n ∧ n ≤ 100000000) (he : -20000000000 ≤ e ∧ e ≤ 20000000000) :
    Calls Tryz.prog 100 #[.agg #[.int .i64 x, .int .i64 y, .int .i64 z, .int .i64 n, .int .i64 d], .int .i64 e] w fun e_ w' => e_ = .returned (.agg #[.int .u64 (sqh (e * n * (e * n))), .int .u64 (sql (e * n * (e * n)))]) ∧ ∃ o1 o2 o3, w' = ((w.alloc o1).alloc o2).alloc o3 := by
  have hm := mul_bd (a := e) (A := 20000000000) (t := n) (T := 100000000) he.1 he.2 (by omega) hn.2 (by decide)
  obtain ⟨m1, m2⟩ := hm
  go_enter Tryz.func100, Tryz.ntmps100
  go_wp2_with (go_at_call 108; refine (squareOf_any (e * n) (by omega) (by omega) _).mono ?_; rintro e w1 ⟨rfl, p1, rfl⟩)
  refine bodyPost_ret (v := .agg #[.int .u64 (sqh (e * n * (e * n))), .int .u64 (sql (e * n * (e * n)))]) (by simp [results, Tryz.results100, go_sem]) rfl ⟨rfl, _, _, _, rfl⟩
set_option maxRecDepth 100000 in
set_option maxHeartbeats 800000 in
theorem distances1_any (e N x y z n d : Int) (bn bv : Nat) (w : World) (hn : 1 ≤ n ∧ n ≤ 100000000) (he : -20000000000 ≤ e ∧ e ≤ 20000000000)
    (n0 : w.cell? ⟨bn, 0, none⟩ = some (.int .u64 (sqh N))) (n1 : w.cell? ⟨bn, 1, none⟩ = some (.int .u64 (sql N)))
    (v0 : w.cell? ⟨bv, 0, none⟩ = some (.int .i64 x)) (v1 : w.cell? ⟨bv, 1, none⟩ = some (.int .i64 y)) (v2 : w.cell? ⟨bv, 2, none⟩ = some (.int .i64 z)) (v3 : w.cell? ⟨bv, 3, none⟩ = some (.int .i64 n)) (v4 : w.cell? ⟨bv, 4, none⟩ = some (.int .i64 d)) :
    Calls Tryz.prog 98 #[.int .i64 e, .pointer (some ⟨bn, 0, none⟩), .pointer (some ⟨bv, 0, none⟩)] w fun e_ w' => e_ = .returned (.bool (decide (N < e * n * (e * n)))) ∧ Below w.heap.size w w' := by
  go_enter Tryz.func98, Tryz.ntmps98
  go_wp2_with fail
  go_region_held3 (fun w' => w'.cell? ⟨bn, 0, none⟩ = some (.int .u64 (sqh N)) ∧ w'.cell? ⟨bn, 1, none⟩ = some (.int .u64 (sql N)) ∧ w'.cell? ⟨bv, 0, none⟩ = some (.int .i64 x) ∧ w'.cell? ⟨bv, 1, none⟩ = some (.int .i64 y) ∧ w'.cell? ⟨bv, 2, none⟩ = some (.int .i64 z) ∧ w'.cell? ⟨bv, 3, none⟩ = some (.int .i64 n) ∧ w'.cell? ⟨bv, 4, none⟩ = some (.int .i64 d)) (simp [go_sem, *])
    (first | (go_at_call 100; (with_reducible refine (squareOver_any _ x y z n d e hn he).mono ?_); rintro e w2 ⟨rfl, o3, o4, o5, rfl⟩) | (go_at_call 99; (with_reducible refine (less_any N _ _).mono ?_); rintro e w2 ⟨rfl, q, o6, o7, rfl⟩))
  all_goals
    go_wp2
    go_ret
    exact ⟨rfl, by (repeat (first | with_reducible exact Below.refl _ _ | with_reducible assumption | with_reducible refine Below.alloc ?_ (by first | (simp; done) | (simp; omega) | omega) _ | with_reducible refine Below.setCell ?_ (by first | (simp; done) | (simp; omega) | omega) _ | with_reducible refine Below.drew ?_ | with_reducible refine below_drewN ?_ _))⟩
set_option maxRecDepth 100000 in
set_option maxHeartbeats 800000 in
theorem distances2_any (e N x y z n d : Int) (bn bv : Nat) (w : World) (hn : 1 ≤ n ∧ n ≤ 100000000) (he : -20000000000 ≤ e ∧ e ≤ 20000000000)
    (n0 : w.cell? ⟨bn, 0, none⟩ = some (.int .u64 (sqh N))) (n1 : w.cell? ⟨bn, 1, none⟩ = some (.int .u64 (sql N)))
    (v0 : w.cell? ⟨bv, 0, none⟩ = some (.int .i64 x)) (v1 : w.cell? ⟨bv, 1, none⟩ = some (.int .i64 y)) (v2 : w.cell? ⟨bv, 2, none⟩ = some (.int .i64 z)) (v3 : w.cell? ⟨bv, 3, none⟩ = some (.int .i64 n)) (v4 : w.cell? ⟨bv, 4, none⟩ = some (.int .i64 d)) :
    Calls Tryz.prog 101 #[.int .i64 e, .pointer (some ⟨bv, 0, none⟩), .pointer (some ⟨bn, 0, none⟩)] w fun e_ w' => e_ = .returned (.bool (!decide (e * n * (e * n) < N))) ∧ Below w.heap.size w w' := by
  go_enter Tryz.func101, Tryz.ntmps101
  go_wp2_with fail
  go_region_held3 (fun w' => w'.cell? ⟨bn, 0, none⟩ = some (.int .u64 (sqh N)) ∧ w'.cell? ⟨bn, 1, none⟩ = some (.int .u64 (sql N)) ∧ w'.cell? ⟨bv, 0, none⟩ = some (.int .i64 x) ∧ w'.cell? ⟨bv, 1, none⟩ = some (.int .i64 y) ∧ w'.cell? ⟨bv, 2, none⟩ = some (.int .i64 z) ∧ w'.cell? ⟨bv, 3, none⟩ = some (.int .i64 n) ∧ w'.cell? ⟨bv, 4, none⟩ = some (.int .i64 d)) (simp [go_sem, *])
    (first | (go_at_call 100; (with_reducible refine (squareOver_any _ x y z n d e hn he).mono ?_); rintro e w2 ⟨rfl, o3, o4, o5, rfl⟩) | (go_at_call 99; (with_reducible refine (less_any _ N _).mono ?_); rintro e w2 ⟨rfl, q, o6, o7, rfl⟩))
  all_goals
    go_wp2
    go_ret
    exact ⟨rfl, by (repeat (first | with_reducible exact Below.refl _ _ | with_reducible assumption | with_reducible refine Below.alloc ?_ (by first | (simp; done) | (simp; omega) | omega) _ | with_reducible refine Below.setCell ?_ (by first | (simp; done) | (simp; omega) | omega) _ | with_reducible refine Below.drew ?_ | with_reducible refine below_drewN ?_ _))⟩
end Go.Proofs.YtjncjoaohonmjaaGreat
namespace Go.Proofs.YtjncjoaohonmjaaGreat
open Go.RowKit Go.Shelf Go.Sort
attribute [local go_sem] idx3_0 idx3_1 idx3_2 old1 fro1 old2 fro2 old3 fro3 old4 fro4 old5 fro5 old6 fro6 old7 fro7 old8 fro8 old9 fro9 old10 fro10 old11 fro11 old12 fro12
attribute [local go_sem] ldSum_eq
set_option maxRecDepth 100000 in
set_option maxHeartbeats 8000000 in
theorem farthest_any (w : World) (x y z n d : Int) (x1 : -200000000000000 ≤ x) (x2 : x ≤ 200000000000000) (y1 : -200000000000000 ≤ y) (y2 : y ≤ 200000000000000) (z1 : -200000000000000 ≤ z) (z2 : z ≤ 200000000000000) (d1 : 0 ≤ d) (d2 : d ≤ 200000000000) :
    Calls Tryz.prog 82 #[.agg #[.int .i64 x, .int .i64 y, .int .i64 z, .int .i64 n, .int .i64 d]] w fun e w' => e = .returned (.agg #[.int .u64 (sqh (nsum fr x y z d 3)), .int .u64 (sql (nsum fr x y z d 3))]) ∧ Below w.heap.size w w' := by
  go_enter Tryz.func82, Tryz.ntmps82
  go_wp2_with fail
  go_loopw [9] (fun i wr => ∃ j : Int, 0 ≤ j ∧ j ≤ 3 ∧ i = .int .i64 j ∧ SI w (w.heap.size + 1 + 1) (w.heap.size + 1) w.heap.size d (nsum fr x y z d j) wr) (fun i _ => 3 - (intOf i).toNat)
  case atStart =>
    refine ⟨0, by omega, by omega, rfl, ⟨?_, ?_, ?_, ?_, ?_⟩, ⟨?_, ?_⟩, ⟨?_, ?_⟩, ⟨?_, ?_⟩, ⟨?_, ?_⟩, ?_⟩
    all_goals first | omega | (simp [go_sem, nsum, ← sqh_0, ← sql_0]; done) | (repeat (first | with_reducible exact Below.refl _ _ | with_reducible assumption | with_reducible refine Below.alloc ?_ (by first | (simp; done) | (simp; omega) | omega) _ | with_reducible refine Below.setCell ?_ (by first | (simp; done) | (simp; omega) | omega) _ | with_reducible refine Below.drew ?_ | with_reducible refine below_drewN ?_ _))
  case round =>
    obtain ⟨j, hj0, hj, rfl, hP⟩ := hrel
    have hV : w.heap.size + 1 + 1 ≠ w.heap.size := by omega
    generalize w.heap.size + 1 + 1 = D at *
    generalize w.heap.size + 1 = R at *
    rcases (by omega : j = 0 ∨ j = 1 ∨ j = 2 ∨ j = 3) with rfl | rfl | rfl | rfl
    · have sn := siz_nn x
      have sb := siz_le x1 x2
      have q1 : -9223372036854775807 ≤ siz x + d := by omega
      have q2 : siz x + d ≤ 9223372036854775807 := by omega
      have q3 := sq_nn (siz x + d)
      have q4 := @sq_bd (siz x + d) 200200000000000 (by omega) (by omega)
      obtain ⟨q5, q6⟩ := nsum_bd (g := fr) (x := x) (y := y) (z := z) (d := d) (fr_bd x1 x2 d1 d2) (fr_bd y1 y2 d1 d2) (fr_bd z1 z2 d1 d2) 0
      have hN := Lib.hid (nsum_0 fr x y z d)
      have q7 : nsum fr x y z d 0 + (siz x + d) * (siz x + d) < 340282366920938463463374607431768211456 := by omega
      have HP := Lib.hid hP
      generalize nsum fr x y z d 0 = S at *
      have s1 : IntKind.i64.wrap (siz x + d) = siz x + d := IntWalk.i64_in _ (by omega)
      obtain ⟨⟨a1, a2, a3, a4, a5⟩, ⟨b1, b2⟩, ⟨c1, c2⟩, ⟨g1, g2⟩, ⟨e1, e2⟩, f1⟩ := hP
      have nD := World.block_lt_of_cell? _ _ b1
      have nR := World.block_lt_of_cell? _ _ g1
      have nV := World.block_lt_of_cell? _ _ f1
      simp only at nD nR nV
      have nD_0 := Nat.lt_add_one_of_lt nD; have nD_1 := Nat.lt_add_one_of_lt nD_0; have nD_2 := Nat.lt_add_one_of_lt nD_1; have nD_3 := Nat.lt_add_one_of_lt nD_2
      have nR_0 := Nat.lt_add_one_of_lt nR; have nR_1 := Nat.lt_add_one_of_lt nR_0; have nR_2 := Nat.lt_add_one_of_lt nR_1; have nR_3 := Nat.lt_add_one_of_lt nR_2
      have nV_0 := Nat.lt_add_one_of_lt nV; have nV_1 := Nat.lt_add_one_of_lt nV_0; have nV_2 := Nat.lt_add_one_of_lt nV_1; have nV_3 := Nat.lt_add_one_of_lt nV_2
      have k1 : -9223372036854775807 ≤ x := by omega
      have k2 : x ≤ 9223372036854775807 := by omega
      clear x1 x2 y1 y2 z1 z2 d1 d2 sn sb q4 q6 hj0 hj
      go_wp2_with fail
      rw [← ldSum_eq]
      go_region_held3 (fun w' => w'.cell? ⟨w.heap.size, 4, none⟩ = some (.int .i64 d)) (simp [go_sem, *])
        (first | (go_at_call 51; ((with_reducible refine (size_any x (by assumption) (by assumption) _).mono ?_); rintro e w1 ⟨rfl, rfl⟩)) | (go_at_call 108; ((with_reducible refine (squareOf_any (siz x + d) q1 q2 _).mono ?_); rintro e w1 ⟨rfl, p1, rfl⟩)) | (go_at_call 109; ((with_reducible refine (plus_of S ((siz x + d) * (siz x + d)) _ _ _ _ rfl rfl rfl rfl q5 q3 q7 _).mono ?_); rintro e w1 ⟨rfl, p2, p3, p4, rfl⟩)))
      all_goals
        go_wp2
        go_roundw
        case rel => exact ⟨1, by omega, by omega, rfl, by rw [← hN.out]; exact HP.out.step _ _ _ _ _⟩
        case measure => simp [intOf]
    · have sn := siz_nn y
      have sb := siz_le y1 y2
      have q1 : -9223372036854775807 ≤ siz y + d := by omega
      have q2 : siz y + d ≤ 9223372036854775807 := by omega
      have q3 := sq_nn (siz y + d)
      have q4 := @sq_bd (siz y + d) 200200000000000 (by omega) (by omega)
      obtain ⟨q5, q6⟩ := nsum_bd (g := fr) (x := x) (y := y) (z := z) (d := d) (fr_bd x1 x2 d1 d2) (fr_bd y1 y2 d1 d2) (fr_bd z1 z2 d1 d2) 1
      have hN := Lib.hid (nsum_1 fr x y z d)
      have q7 : nsum fr x y z d 1 + (siz y + d) * (siz y + d) < 340282366920938463463374607431768211456 := by omega
      have HP := Lib.hid hP
      generalize nsum fr x y z d 1 = S at *
      have s1 : IntKind.i64.wrap (siz y + d) = siz y + d := IntWalk.i64_in _ (by omega)
      obtain ⟨⟨a1, a2, a3, a4, a5⟩, ⟨b1, b2⟩, ⟨c1, c2⟩, ⟨g1, g2⟩, ⟨e1, e2⟩, f1⟩ := hP
      have nD := World.block_lt_of_cell? _ _ b1
      have nR := World.block_lt_of_cell? _ _ g1
      have nV := World.block_lt_of_cell? _ _ f1
      simp only at nD nR nV
      have nD_0 := Nat.lt_add_one_of_lt nD; have nD_1 := Nat.lt_add_one_of_lt nD_0; have nD_2 := Nat.lt_add_one_of_lt nD_1; have nD_3 := Nat.lt_add_one_of_lt nD_2
      have nR_0 := Nat.lt_add_one_of_lt nR; have nR_1 := Nat.lt_add_one_of_lt nR_0; have nR_2 := Nat.lt_add_one_of_lt nR_1; have nR_3 := Nat.lt_add_one_of_lt nR_2
      have nV_0 := Nat.lt_add_one_of_lt nV; have nV_1 := Nat.lt_add_one_of_lt nV_0; have nV_2 := Nat.lt_add_one_of_lt nV_1; have nV_3 := Nat.lt_add_one_of_lt nV_2
      have k1 : -9223372036854775807 ≤ y := by omega
      have k2 : y ≤ 9223372036854775807 := by omega
      clear x1 x2 y1 y2 z1 z2 d1 d2 sn sb q4 q6 hj0 hj
      go_wp2_with fail
      rw [← ldSum_eq]
      go_region_held3 (fun w' => w'.cell? ⟨w.heap.size, 4, none⟩ = some (.int .i64 d)) (simp [go_sem, *])
        (first | (go_at_call 51; ((with_reducible refine (size_any y (by assumption) (by assumption) _).mono ?_); rintro e w1 ⟨rfl, rfl⟩)) | (go_at_call 108; ((with_reducible refine (squareOf_any (siz y + d) q1 q2 _).mono ?_); rintro e w1 ⟨rfl, p1, rfl⟩)) | (go_at_call 109; ((with_reducible refine (plus_of S ((siz y + d) * (siz y + d)) _ _ _ _ rfl rfl rfl rfl q5 q3 q7 _).mono ?_); rintro e w1 ⟨rfl, p2, p3, p4, rfl⟩)))
      all_goals
        go_wp2
        go_roundw
        case rel => exact ⟨2, by omega, by omega, rfl, by rw [← hN.out]; exact HP.out.step _ _ _ _ _⟩
        case measure => simp [intOf]
    · have sn := siz_nn z
      have sb := siz_le z1 z2
      have q1 : -9223372036854775807 ≤ siz z + d := by omega
      have q2 : siz z + d ≤ 9223372036854775807 := by omega
      have q3 := sq_nn (siz z + d)
      have q4 := @sq_bd (siz z + d) 200200000000000 (by omega) (by omega)
      obtain ⟨q5, q6⟩ := nsum_bd (g := fr) (x := x) (y := y) (z := z) (d := d) (fr_bd x1 x2 d1 d2) (fr_bd y1 y2 d1 d2) (fr_bd z1 z2 d1 d2) 2
      have hN := Lib.hid (nsum_2 fr x y z d)
      have q7 : nsum fr x y z d 2 + (siz z + d) * (siz z + d) < 340282366920938463463374607431768211456 := by omega
      have HP := Lib.hid hP
      generalize nsum fr x y z d 2 = S at *
      have s1 : IntKind.i64.wrap (siz z + d) = siz z + d := IntWalk.i64_in _ (by omega)
      obtain ⟨⟨a1, a2, a3, a4, a5⟩, ⟨b1, b2⟩, ⟨c1, c2⟩, ⟨g1, g2⟩, ⟨e1, e2⟩, f1⟩ := hP
      have nD := World.block_lt_of_cell? _ _ b1
      have nR := World.block_lt_of_cell? _ _ g1
      have nV := World.block_lt_of_cell? _ _ f1
      simp only at nD nR nV
      have nD_0 := Nat.lt_add_one_of_lt nD; have nD_1 := Nat.lt_add_one_of_lt nD_0; have nD_2 := Nat.lt_add_one_of_lt nD_1; have nD_3 := Nat.lt_add_one_of_lt nD_2
      have nR_0 := Nat.lt_add_one_of_lt nR; have nR_1 := Nat.lt_add_one_of_lt nR_0; have nR_2 := Nat.lt_add_one_of_lt nR_1; have nR_3 := Nat.lt_add_one_of_lt nR_2
      have nV_0 := Nat.lt_add_one_of_lt nV; have nV_1 := Nat.lt_add_one_of_lt nV_0; have nV_2 := Nat.lt_add_one_of_lt nV_1; have nV_3 := Nat.lt_add_one_of_lt nV_2
      have k1 : -9223372036854775807 ≤ z := by omega
      have k2 : z ≤ 9223372036854775807 := by omega
      clear x1 x2 y1 y2 z1 z2 d1 d2 sn sb q4 q6 hj0 hj
      go_wp2_with fail
      rw [← ldSum_eq]
      go_region_held3 (fun w' => w'.cell? ⟨w.heap.size, 4, none⟩ = some (.int .i64 d)) (simp [go_sem, *])
        (first | (go_at_call 51; ((with_reducible refine (size_any z (by assumption) (by assumption) _).mono ?_); rintro e w1 ⟨rfl, rfl⟩)) | (go_at_call 108; ((with_reducible refine (squareOf_any (siz z + d) q1 q2 _).mono ?_); rintro e w1 ⟨rfl, p1, rfl⟩)) | (go_at_call 109; ((with_reducible refine (plus_of S ((siz z + d) * (siz z + d)) _ _ _ _ rfl rfl rfl rfl q5 q3 q7 _).mono ?_); rintro e w1 ⟨rfl, p2, p3, p4, rfl⟩)))
      all_goals
        go_wp2
        go_roundw
        case rel => exact ⟨3, by omega, by omega, rfl, by rw [← hN.out]; exact HP.out.step _ _ _ _ _⟩
        case measure => simp [intOf]
    · obtain ⟨⟨a1, a2, a3, a4, a5⟩, ⟨b1, b2⟩, ⟨c1, c2⟩, ⟨g1, g2⟩, ⟨e1, e2⟩, f1⟩ := hP
      generalize hS : nsum fr x y z d 3 = S at *
      have HS := Lib.hid hS
      clear hS
      go_wp2
      refine bodyPost_ret (v := .agg #[.int .u64 (sqh S), .int .u64 (sql S)]) (by simp [results, Tryz.results82, go_sem, g1, g2]) rfl ⟨?_, ?_⟩
      · rw [HS.out]
      · (repeat (first | with_reducible exact Below.refl _ _ | with_reducible assumption | with_reducible refine Below.alloc ?_ (by first | (simp; done) | (simp; omega) | omega) _ | with_reducible refine Below.setCell ?_ (by first | (simp; done) | (simp; omega) | omega) _ | with_reducible refine Below.drew ?_ | with_reducible refine below_drewN ?_ _))
end Go.Proofs.YtjncjoaohonmjaaGreat
