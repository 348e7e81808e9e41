/- Helpers: distances as closures. -/
import Derived.Test.YtolondcbllkimaaI
import Derived.Test.YtolondcbllkimaaE
namespace Go.Proofs.Ytolondcbllkimaa
open Go.RowKit Go.Shelf Go.Sort
attribute [local go_sem] idx3_0 idx3_1 idx3_2 old1 fro1 old2 fro2 old3 fro3 old4 fro4 old5 fro5 old6 fro6 old7 fro7 old8 fro8 old9 fro9 old10 fro10 old11 fro11 old12 fro12
set_option maxRecDepth 100000 in
set_option maxHeartbeats 400000 in
theorem squareOver_any (w : World) (x y z n d e : Int) (hn : 1 ≤ n ∧ n ≤ 100000000) (he : -20000000000 ≤ e ∧ e ≤ 20000000000) :
    Calls Try.prog 109 #[.agg #[.int .i64 x, .int .i64 y, .int .i64 z, .int .i64 n, .int .i64 d], .int .i64 e] w fun e_ w' => e_ = .returned (.agg #[.int .u64 (sqh (e * n * (e * n))), .int .u64 (sql (e * n * (e * n)))]) ∧ ∃ o1 o2 o3, w' = ((w.alloc o1).alloc o2).alloc o3 := by
  have hm := mul_bd (a := e) (A := 20000000000) (t := n) (T := 100000000) he.1 he.2 (by omega) hn.2 (by decide)
  obtain ⟨m1, m2⟩ := hm
  go_enter Try.func109, Try.ntmps109
  go_wp2_with (go_at_call 84; refine (squareOf_any (e * n) (by omega) (by omega) _).mono ?_; rintro e w1 ⟨rfl, p1, rfl⟩)
  refine bodyPost_ret (v := .agg #[.int .u64 (sqh (e * n * (e * n))), .int .u64 (sql (e * n * (e * n)))]) (by simp [results, Try.results109, go_sem]) rfl ⟨rfl, _, _, _, rfl⟩
set_option maxRecDepth 100000 in
set_option maxHeartbeats 800000 in
theorem distances1_any (e N x y z n d : Int) (bn bv : Nat) (w : World) (hn : 1 ≤ n ∧ n ≤ 100000000) (he : -20000000000 ≤ e ∧ e ≤ 20000000000)
    (n0 : w.cell? ⟨bn, 0, none⟩ = some (.int .u64 (sqh N))) (n1 : w.cell? ⟨bn, 1, none⟩ = some (.int .u64 (sql N)))
    (v0 : w.cell? ⟨bv, 0, none⟩ = some (.int .i64 x)) (v1 : w.cell? ⟨bv, 1, none⟩ = some (.int .i64 y)) (v2 : w.cell? ⟨bv, 2, none⟩ = some (.int .i64 z)) (v3 : w.cell? ⟨bv, 3, none⟩ = some (.int .i64 n)) (v4 : w.cell? ⟨bv, 4, none⟩ = some (.int .i64 d)) :
    Calls Try.prog 108 #[.int .i64 e, .pointer (some ⟨bn, 0, none⟩), .pointer (some ⟨bv, 0, none⟩)] w fun e_ w' => e_ = .returned (.bool (decide (N < e * n * (e * n)))) ∧ Below w.heap.size w w' := by
  go_enter Try.func108, Try.ntmps108
  go_wp2_with fail
  go_region_held3 (fun w' => w'.cell? ⟨bn, 0, none⟩ = some (.int .u64 (sqh N)) ∧ w'.cell? ⟨bn, 1, none⟩ = some (.int .u64 (sql N)) ∧ w'.cell? ⟨bv, 0, none⟩ = some (.int .i64 x) ∧ w'.cell? ⟨bv, 1, none⟩ = some (.int .i64 y) ∧ w'.cell? ⟨bv, 2, none⟩ = some (.int .i64 z) ∧ w'.cell? ⟨bv, 3, none⟩ = some (.int .i64 n) ∧ w'.cell? ⟨bv, 4, none⟩ = some (.int .i64 d)) (simp [go_sem, *])
    (first | (go_at_call 109; (with_reducible refine (squareOver_any _ x y z n d e hn he).mono ?_); rintro e w2 ⟨rfl, o3, o4, o5, rfl⟩) | (go_at_call 85; (with_reducible refine (less_any N _ _).mono ?_); rintro e w2 ⟨rfl, q, o6, o7, rfl⟩))
  all_goals
    go_wp2
    go_ret
    exact ⟨rfl, by (repeat (first | with_reducible exact Below.refl _ _ | with_reducible assumption | with_reducible refine Below.alloc ?_ (by first | (simp; done) | (simp; omega) | omega) _ | with_reducible refine Below.setCell ?_ (by first | (simp; done) | (simp; omega) | omega) _ | with_reducible refine Below.drew ?_ | with_reducible refine below_drewN ?_ _))⟩
set_option maxRecDepth 100000 in
set_option maxHeartbeats 800000 in
theorem distances2_any (e N x y z n d : Int) (bn bv : Nat) (w : World) (hn : 1 ≤ n ∧ n ≤ 100000000) (he : -20000000000 ≤ e ∧ e ≤ 20000000000)
    (n0 : w.cell? ⟨bn, 0, none⟩ = some (.int .u64 (sqh N))) (n1 : w.cell? ⟨bn, 1, none⟩ = some (.int .u64 (sql N)))
    (v0 : w.cell? ⟨bv, 0, none⟩ = some (.int .i64 x)) (v1 : w.cell? ⟨bv, 1, none⟩ = some (.int .i64 y)) (v2 : w.cell? ⟨bv, 2, none⟩ = some (.int .i64 z)) (v3 : w.cell? ⟨bv, 3, none⟩ = some (.int .i64 n)) (v4 : w.cell? ⟨bv, 4, none⟩ = some (.int .i64 d)) :
    Calls Try.prog 110 #[.int .i64 e, .pointer (some ⟨bv, 0, none⟩), .pointer (some ⟨bn, 0, none⟩)] w fun e_ w' => e_ = .returned (.bool (!decide (e * n * (e * n) < N))) ∧ Below w.heap.size w w' := by
  go_enter Try.func110, Try.ntmps110
  go_wp2_with fail
  go_region_held3 (fun w' => w'.cell? ⟨bn, 0, none⟩ = some (.int .u64 (sqh N)) ∧ w'.cell? ⟨bn, 1, none⟩ = some (.int .u64 (sql N)) ∧ w'.cell? ⟨bv, 0, none⟩ = some (.int .i64 x) ∧ w'.cell? ⟨bv, 1, none⟩ = some (.int .i64 y) ∧ w'.cell? ⟨bv, 2, none⟩ = some (.int .i64 z) ∧ w'.cell? ⟨bv, 3, none⟩ = some (.int .i64 n) ∧ w'.cell? ⟨bv, 4, none⟩ = some (.int .i64 d)) (simp [go_sem, *])
    (first | (go_at_call 109; (with_reducible refine (squareOver_any _ x y z n d e hn he).mono ?_); rintro e w2 ⟨rfl, o3, o4, o5, rfl⟩) | (go_at_call 85; (with_reducible refine (less_any _ N _).mono ?_); rintro e w2 ⟨rfl, q, o6, o7, rfl⟩))
  all_goals
    go_wp2
    go_ret
    exact ⟨rfl, by (repeat (first | with_reducible exact Below.refl _ _ | with_reducible assumption | with_reducible refine Below.alloc ?_ (by first | (simp; done) | (simp; omega) | omega) _ | with_reducible refine Below.setCell ?_ (by first | (simp; done) | (simp; omega) | omega) _ | with_reducible refine Below.drew ?_ | with_reducible refine below_drewN ?_ _))⟩
end Go.Proofs.Ytolondcbllkimaa
