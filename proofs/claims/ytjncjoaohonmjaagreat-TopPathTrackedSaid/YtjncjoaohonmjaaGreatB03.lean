/- Helpers. -/
import Derived.Test.YtjncjoaohonmjaaGreatB00
import Derived.IntWalk
import Derived.Deep.RegionWith
namespace Go.Proofs.YtjncjoaohonmjaaGreat
open Go.RowKit Go.Shelf Go.Sort
attribute [local go_sem] idx3_0 idx3_1 idx3_2 old1 fro1 old2 fro2 old3 fro3 old4 fro4 old5 fro5 old6 fro6 old7 fro7 old8 fro8 old9 fro9 old10 fro10 old11 fro11 old12 fro12
def KInv (w : World) (D AT : Nat) (x y z s : Int) (wr : World) : Prop :=
  Below w.heap.size w wr ∧ D < wr.heap.size ∧ AT < wr.heap.size ∧ wr.cell? ⟨D, 0, none⟩ = some (.int .u64 (sqh s)) ∧ wr.cell? ⟨D, 1, none⟩ = some (.int .u64 (sql s)) ∧
  wr.frozen? ⟨D, 0, none⟩ = false ∧ wr.frozen? ⟨D, 1, none⟩ = false ∧ wr.cell? ⟨AT, 0, none⟩ = some (.int .i64 x) ∧ wr.cell? ⟨AT, 1, none⟩ = some (.int .i64 y) ∧ wr.cell? ⟨AT, 2, none⟩ = some (.int .i64 z)
def psum (x1 y1 z1 x0 y0 z0 : Int) (j : Int) : Int :=
  (if 0 < j then 2 * (x1 - x0) * (2 * (x1 - x0)) else 0) + (if 1 < j then 2 * (y1 - y0) * (2 * (y1 - y0)) else 0) + (if 2 < j then 2 * (z1 - z0) * (2 * (z1 - z0)) else 0)
theorem KInv.step {w wr : World} {D AT : Nat} {x y z s : Int} (h : KInv w D AT x y z s wr) (hD : w.heap.size ≤ D) (hA : AT < D) (s' : Int) (p1 p2 p3 p4 : Obj) :
    KInv w D AT x y z s' ((((((wr.setCell ⟨D, 0, none⟩ (.int .u64 (sqh s'))).setCell ⟨D, 1, none⟩ (.int .u64 (sql s'))).alloc p1).alloc p2).alloc p3).alloc p4).drew := by
  obtain ⟨r1, r2, r3, r4, r5, r6, r7, r8, r9, r10⟩ := h
  have r2_0 := Nat.lt_add_one_of_lt r2; have r2_1 := Nat.lt_add_one_of_lt r2_0; have r2_2 := Nat.lt_add_one_of_lt r2_1; have r2_3 := Nat.lt_add_one_of_lt r2_2; have r2_4 := Nat.lt_add_one_of_lt r2_3; have r2_5 := Nat.lt_add_one_of_lt r2_4
  have r3_0 := Nat.lt_add_one_of_lt r3; have r3_1 := Nat.lt_add_one_of_lt r3_0; have r3_2 := Nat.lt_add_one_of_lt r3_1; have r3_3 := Nat.lt_add_one_of_lt r3_2; have r3_4 := Nat.lt_add_one_of_lt r3_3; have r3_5 := Nat.lt_add_one_of_lt r3_4
  have hne : AT ≠ D := by omega
  have hne' : D ≠ AT := by omega
  refine ⟨?_, ?_, ?_, ?_, ?_, ?_, ?_, ?_, ?_, ?_⟩
  · (repeat (first | with_reducible exact Below.refl _ _ | with_reducible assumption | with_reducible refine Below.alloc ?_ (by first | (simp; done) | (simp; omega) | omega) _ | with_reducible refine Below.setCell ?_ (by first | (simp; done) | (simp; omega) | omega) _ | with_reducible refine Below.drew ?_ | with_reducible refine below_drewN ?_ _))
  · simp [World.setCell]; omega
  · simp [World.setCell]; omega
  all_goals simp [go_sem, *]
theorem KInv.step2 {w wr : World} {D AT : Nat} {x y z s : Int} (h : KInv w D AT x y z s wr) (hD : w.heap.size ≤ D) (hA : AT < D) (s' : Int) (p1 p2 p3 p4 : Obj) :
    KInv w D AT x y z s' ((((((wr.alloc p1).alloc p2).alloc p3).alloc p4).setCell ⟨D, 0, none⟩ (.int .u64 (sqh s'))).setCell ⟨D, 1, none⟩ (.int .u64 (sql s'))).drew := by
  obtain ⟨r1, r2, r3, r4, r5, r6, r7, r8, r9, r10⟩ := h
  have r2_0 := Nat.lt_add_one_of_lt r2; have r2_1 := Nat.lt_add_one_of_lt r2_0; have r2_2 := Nat.lt_add_one_of_lt r2_1; have r2_3 := Nat.lt_add_one_of_lt r2_2; have r2_4 := Nat.lt_add_one_of_lt r2_3; have r2_5 := Nat.lt_add_one_of_lt r2_4
  have r3_0 := Nat.lt_add_one_of_lt r3; have r3_1 := Nat.lt_add_one_of_lt r3_0; have r3_2 := Nat.lt_add_one_of_lt r3_1; have r3_3 := Nat.lt_add_one_of_lt r3_2; have r3_4 := Nat.lt_add_one_of_lt r3_3; have r3_5 := Nat.lt_add_one_of_lt r3_4
  have hne : AT ≠ D := by omega
  have hne' : D ≠ AT := by omega
  refine ⟨?_, ?_, ?_, ?_, ?_, ?_, ?_, ?_, ?_, ?_⟩
  · (repeat (first | with_reducible exact Below.refl _ _ | with_reducible assumption | with_reducible refine Below.alloc ?_ (by first | (simp; done) | (simp; omega) | omega) _ | with_reducible refine Below.setCell ?_ (by first | (simp; done) | (simp; omega) | omega) _ | with_reducible refine Below.drew ?_ | with_reducible refine below_drewN ?_ _))
  · simp [World.setCell]; omega
  · simp [World.setCell]; omega
  all_goals simp [go_sem, *]
theorem psum_bd (x1 y1 z1 x0 y0 z0 j : Int) (x1l : -1000000 ≤ x1) (x1u : x1 ≤ 1000000) (x0l : -1000000 ≤ x0) (x0u : x0 ≤ 1000000) (y1l : -1000000 ≤ y1) (y1u : y1 ≤ 1000000) (y0l : -1000000 ≤ y0) (y0u : y0 ≤ 1000000) (z1l : -1000000 ≤ z1) (z1u : z1 ≤ 1000000) (z0l : -1000000 ≤ z0) (z0u : z0 ≤ 1000000) :
    0 ≤ psum x1 y1 z1 x0 y0 z0 j ∧ psum x1 y1 z1 x0 y0 z0 j ≤ 48000000000000 := by
  have := @sq_bd (2 * (x1 - x0)) 4000000 (by omega) (by omega)
  have := @sq_bd (2 * (y1 - y0)) 4000000 (by omega) (by omega)
  have := @sq_bd (2 * (z1 - z0)) 4000000 (by omega) (by omega)
  have := sq_nn (2 * (x1 - x0))
  have := sq_nn (2 * (y1 - y0))
  have := sq_nn (2 * (z1 - z0))
  unfold psum
  constructor <;> split <;> split <;> split <;> omega
theorem psum_0 (x1 y1 z1 x0 y0 z0 : Int) : psum x1 y1 z1 x0 y0 z0 0 + 2 * (x1 - x0) * (2 * (x1 - x0)) = psum x1 y1 z1 x0 y0 z0 1 := by simp [psum]
theorem psum_1 (x1 y1 z1 x0 y0 z0 : Int) : psum x1 y1 z1 x0 y0 z0 1 + 2 * (y1 - y0) * (2 * (y1 - y0)) = psum x1 y1 z1 x0 y0 z0 2 := by simp [psum]
theorem psum_2 (x1 y1 z1 x0 y0 z0 : Int) : psum x1 y1 z1 x0 y0 z0 2 + 2 * (z1 - z0) * (2 * (z1 - z0)) = psum x1 y1 z1 x0 y0 z0 3 := by simp [psum]
def brk (el s : Int) : Int := if el * el < s then 23 else 0
theorem brk_t {el s : Int} (h : el * el < s) : brk el s = 23 := by unfold brk; rw [if_pos h]
theorem brk_f {el s : Int} (h : s ≤ el * el) : brk el s = 0 := by unfold brk; rw [if_neg (by omega)]
set_option maxRecDepth 100000 in
set_option maxHeartbeats 4000000 in
theorem checkKnot_1 (b off n c i : Nat) (w : World) (t1 x1 y1 z1 t0 x0 y0 z0 : Int) (hi : i < n) (hn2 : n ≤ 100) (hb : b < w.heap.size) (hi0 : 0 < i) (h : wi t1 0 1000000000000 = true) (h2 : exc x1 y1 z1 1000000 = false)
    (c1 : w.cell? ⟨b, off + i * 4, none⟩ = some (.int .i64 t1)) (c2 : w.cell? ⟨b, off + i * 4 + 1, none⟩ = some (.int .i64 x1)) (c3 : w.cell? ⟨b, off + i * 4 + 2, none⟩ = some (.int .i64 y1)) (c4 : w.cell? ⟨b, off + i * 4 + 3, none⟩ = some (.int .i64 z1))
    (d1 : w.cell? ⟨b, off + (i - 1) * 4, none⟩ = some (.int .i64 t0)) (d2 : w.cell? ⟨b, off + (i - 1) * 4 + 1, none⟩ = some (.int .i64 x0)) (d3 : w.cell? ⟨b, off + (i - 1) * 4 + 2, none⟩ = some (.int .i64 y0)) (d4 : w.cell? ⟨b, off + (i - 1) * 4 + 3, none⟩ = some (.int .i64 z0))
    (_ : 0 ≤ t1) (_ : t1 ≤ 1000000000000) (_ : 0 ≤ t0) (_ : t0 ≤ 1000000000000) (h4 : 0 < t1 - t0) (h5 : t1 - t0 ≤ 10000) (x1l : -1000000 ≤ x1) (x1u : x1 ≤ 1000000) (x0l : -1000000 ≤ x0) (x0u : x0 ≤ 1000000) (y1l : -1000000 ≤ y1) (y1u : y1 ≤ 1000000) (y0l : -1000000 ≤ y0) (y0u : y0 ≤ 1000000) (z1l : -1000000 ≤ z1) (z1u : z1 ≤ 1000000) (z0l : -1000000 ≤ z0) (z0u : z0 ≤ 1000000) :
    Calls Tryz.prog 103 #[.slice (some ⟨b, off, none⟩) n c, .int .i64 i] w fun e w' => e = .returned (.int .i64 (brk (t1 - t0) (psum x1 y1 z1 x0 y0 z0 3))) ∧ Below w.heap.size w w' := by
  go_enter Tryz.func103, Tryz.ntmps103
  go_wp2_with (first | (go_at_call 71; refine (components_any _ _ _ _).mono ?_; rintro e w1 ⟨rfl, o1, o2, rfl⟩) | (go_at_call 48; refine (within_any _ _ _ _).mono ?_; rintro e w' ⟨rfl, rfl⟩) | (go_at_call 117; refine (exceeds_any _ _ _ _ _ (by omega) (by omega)).mono ?_; rintro e w2 ⟨rfl, o1, o2, rfl⟩))
  clear c1 c2 c3 c4 d1 d2 d3 d4 h h2
  go_loopw [46] (fun i wr => ∃ j : Int, 0 ≤ j ∧ j ≤ 3 ∧ i = .int .i64 j ∧ KInv w (w.heap.size + 1 + 1 + 1 + 1 + 1 + 1 + 1) (w.heap.size + 1 + 1 + 1) x1 y1 z1 (psum x1 y1 z1 x0 y0 z0 j) wr) (fun i _ => 3 - (intOf i).toNat)
  case atStart => exact ⟨0, by omega, by omega, rfl, by (repeat (first | with_reducible exact Below.refl _ _ | with_reducible assumption | with_reducible refine Below.alloc ?_ (by first | (simp; done) | (simp; omega) | omega) _ | with_reducible refine Below.setCell ?_ (by first | (simp; done) | (simp; omega) | omega) _ | with_reducible refine Below.drew ?_ | with_reducible refine below_drewN ?_ _)), by simp, by simp, by simp [go_sem, psum, ← sqh_0], by simp [go_sem, psum, ← sql_0], by simp [go_sem], by simp [go_sem], by simp [go_sem], by simp [go_sem], by simp [go_sem]⟩
  case round =>
    obtain ⟨j, hj0, hj, rfl, hI⟩ := hrel
    have hD : w.heap.size ≤ w.heap.size + 1 + 1 + 1 + 1 + 1 + 1 + 1 := by omega
    have hAD : w.heap.size + 1 + 1 + 1 < w.heap.size + 1 + 1 + 1 + 1 + 1 + 1 + 1 := by omega
    generalize w.heap.size + 1 + 1 + 1 + 1 + 1 + 1 + 1 = D at *
    generalize w.heap.size + 1 + 1 + 1 = AT at *
    have HI := Lib.hid hI
    obtain ⟨r1, r2, r3, r4, r5, r6, r7, r8, r9, r10⟩ := hI
    rcases (by omega : j = 0 ∨ j = 1 ∨ j = 2 ∨ j = 3) with rfl | rfl | rfl | rfl
    · have s1 : IntKind.i64.wrap (x1 - x0) = x1 - x0 := IntWalk.i64_in _ (by omega)
      have s2 : IntKind.i64.wrap (2 * (x1 - x0)) = 2 * (x1 - x0) := IntWalk.i64_in _ (by omega)
      have q1 : -9223372036854775807 ≤ 2 * (x1 - x0) := by omega
      have q2 : 2 * (x1 - x0) ≤ 9223372036854775807 := by omega
      have q3 := sq_nn (2 * (x1 - x0))
      have q4 := @sq_bd (2 * (x1 - x0)) 4000000 (by omega) (by omega)
      obtain ⟨a1, a2⟩ := psum_bd x1 y1 z1 x0 y0 z0 0 x1l x1u x0l x0u y1l y1u y0l y0u z1l z1u z0l z0u
      have q5 : psum x1 y1 z1 x0 y0 z0 0 + (2 * (x1 - x0)) * (2 * (x1 - x0)) < 340282366920938463463374607431768211456 := by omega
      have hN := Lib.hid (psum_0 x1 y1 z1 x0 y0 z0)
      generalize psum x1 y1 z1 x0 y0 z0 0 = S at *
      go_wp2_with fail
      go_region_with (first | (go_at_call 108; ((with_reducible refine (squareOf_any (2 * (x1 - x0)) q1 q2 _).mono ?_); rintro e w1 ⟨rfl, p1, rfl⟩)) | (go_at_call 109; ((with_reducible refine (plus_of S ((2 * (x1 - x0)) * (2 * (x1 - x0))) _ _ _ _ rfl rfl rfl rfl a1 q3 q5 _).mono ?_); rintro e w1 ⟨rfl, p2, p3, p4, rfl⟩)))
      all_goals
        go_wp2
        go_roundw
        case rel => exact ⟨0 + 1, by omega, by omega, by rfl, by rw [show (0 : Int) + 1 = 1 from rfl, ← hN.out]; first | exact HI.out.step hD hAD _ _ _ _ _ | exact HI.out.step2 hD hAD _ _ _ _ _⟩
        case measure => simp [intOf]
    · have s1 : IntKind.i64.wrap (y1 - y0) = y1 - y0 := IntWalk.i64_in _ (by omega)
      have s2 : IntKind.i64.wrap (2 * (y1 - y0)) = 2 * (y1 - y0) := IntWalk.i64_in _ (by omega)
      have q1 : -9223372036854775807 ≤ 2 * (y1 - y0) := by omega
      have q2 : 2 * (y1 - y0) ≤ 9223372036854775807 := by omega
      have q3 := sq_nn (2 * (y1 - y0))
      have q4 := @sq_bd (2 * (y1 - y0)) 4000000 (by omega) (by omega)
      obtain ⟨a1, a2⟩ := psum_bd x1 y1 z1 x0 y0 z0 1 x1l x1u x0l x0u y1l y1u y0l y0u z1l z1u z0l z0u
      have q5 : psum x1 y1 z1 x0 y0 z0 1 + (2 * (y1 - y0)) * (2 * (y1 - y0)) < 340282366920938463463374607431768211456 := by omega
      have hN := Lib.hid (psum_1 x1 y1 z1 x0 y0 z0)
      generalize psum x1 y1 z1 x0 y0 z0 1 = S at *
      go_wp2_with fail
      go_region_with (first | (go_at_call 108; ((with_reducible refine (squareOf_any (2 * (y1 - y0)) q1 q2 _).mono ?_); rintro e w1 ⟨rfl, p1, rfl⟩)) | (go_at_call 109; ((with_reducible refine (plus_of S ((2 * (y1 - y0)) * (2 * (y1 - y0))) _ _ _ _ rfl rfl rfl rfl a1 q3 q5 _).mono ?_); rintro e w1 ⟨rfl, p2, p3, p4, rfl⟩)))
      all_goals
        go_wp2
        go_roundw
        case rel => exact ⟨1 + 1, by omega, by omega, by rfl, by rw [show (1 : Int) + 1 = 2 from rfl, ← hN.out]; first | exact HI.out.step hD hAD _ _ _ _ _ | exact HI.out.step2 hD hAD _ _ _ _ _⟩
        case measure => simp [intOf]
    · have s1 : IntKind.i64.wrap (z1 - z0) = z1 - z0 := IntWalk.i64_in _ (by omega)
      have s2 : IntKind.i64.wrap (2 * (z1 - z0)) = 2 * (z1 - z0) := IntWalk.i64_in _ (by omega)
      have q1 : -9223372036854775807 ≤ 2 * (z1 - z0) := by omega
      have q2 : 2 * (z1 - z0) ≤ 9223372036854775807 := by omega
      have q3 := sq_nn (2 * (z1 - z0))
      have q4 := @sq_bd (2 * (z1 - z0)) 4000000 (by omega) (by omega)
      obtain ⟨a1, a2⟩ := psum_bd x1 y1 z1 x0 y0 z0 2 x1l x1u x0l x0u y1l y1u y0l y0u z1l z1u z0l z0u
      have q5 : psum x1 y1 z1 x0 y0 z0 2 + (2 * (z1 - z0)) * (2 * (z1 - z0)) < 340282366920938463463374607431768211456 := by omega
      have hN := Lib.hid (psum_2 x1 y1 z1 x0 y0 z0)
      generalize psum x1 y1 z1 x0 y0 z0 2 = S at *
      go_wp2_with fail
      go_region_with (first | (go_at_call 108; ((with_reducible refine (squareOf_any (2 * (z1 - z0)) q1 q2 _).mono ?_); rintro e w1 ⟨rfl, p1, rfl⟩)) | (go_at_call 109; ((with_reducible refine (plus_of S ((2 * (z1 - z0)) * (2 * (z1 - z0))) _ _ _ _ rfl rfl rfl rfl a1 q3 q5 _).mono ?_); rintro e w1 ⟨rfl, p2, p3, p4, rfl⟩)))
      all_goals
        go_wp2
        go_roundw
        case rel => exact ⟨2 + 1, by omega, by omega, by rfl, by rw [show (2 : Int) + 1 = 3 from rfl, ← hN.out]; first | exact HI.out.step hD hAD _ _ _ _ _ | exact HI.out.step2 hD hAD _ _ _ _ _⟩
        case measure => simp [intOf]
    · have q1 : -9223372036854775807 ≤ t1 - t0 := by omega
      have q2 : t1 - t0 ≤ 9223372036854775807 := by omega
      have a1 := sq_nn (t1 - t0)
      generalize hS : psum x1 y1 z1 x0 y0 z0 3 = S at *
      have HS := Lib.hid hS
      clear hS
      have hws := r1.size
      go_wp2_with fail
      go_region_with (first | (go_at_call 108; ((with_reducible refine (squareOf_any (t1 - t0) q1 q2 _).mono ?_); rintro e w1 ⟨rfl, p1, rfl⟩)) | (go_at_call 99; ((with_reducible refine (less_any ((t1 - t0) * (t1 - t0)) S _).mono ?_); rintro e w1 ⟨rfl, q, p2, p3, rfl⟩)))
      all_goals
        go_wp2
        all_goals (go_ret; exact ⟨ret_int (by rw [HS.out]; first | exact (brk_t (by assumption)).symm | exact (brk_f (by assumption)).symm), by (repeat (first | with_reducible exact Below.refl _ _ | with_reducible assumption | with_reducible refine Below.alloc ?_ (by first | (simp; done) | (simp; omega) | omega) _ | with_reducible refine Below.setCell ?_ (by first | (simp; done) | (simp; omega) | omega) _ | with_reducible refine Below.drew ?_ | with_reducible refine below_drewN ?_ _))⟩)
end Go.Proofs.YtjncjoaohonmjaaGreat
