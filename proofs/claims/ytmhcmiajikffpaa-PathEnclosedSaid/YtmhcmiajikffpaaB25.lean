/- Helpers: the box of a track (BoxAt). -/
import Derived.Test.YtmhcmiajikffpaaB09
import Derived.Test.YtmhcmiajikffpaaB23
import Derived.Test.YtmhcmiajikffpaaB24
import Derived.Test.YtmhcmiajikffpaaB22
import Derived.ProofKit
import Derived.OpenShut
import Derived.ShutString
import Derived.ChangeOld
import Derived.Below
import Derived.Lib.SmallJoins
import Derived.Deep.Slices
namespace Go.Proofs.Ytmhcmiajikffpaa
open Go.RowKit Go.Shelf Go.Sort
attribute [local go_sem] idx3_0 idx3_1 idx3_2 old1 fro1 old2 fro2 old3 fro3 old4 fro4 old5 fro5 old6 fro6 old7 fro7 old8 fro8 old9 fro9 old10 fro10 old11 fro11 old12 fro12
theorem thenC {w X Y : World} (h : Below w.heap.size w X) (h2 : Below X.heap.size X Y) : Below w.heap.size w Y := h.trans (h2.mono h.size)
theorem keepC {w : World} {a : Addr} {v : Value} (o : Obj) (h : w.cell? a = some v) : (w.alloc o).cell? a = some v := (World.cell?_alloc_some w a o (by rw [h]; rfl)).trans h
/-- The error of a track and a time. -/
def boxErr (A : TV) (time : Int) : Int := if A.err = 0 then (if outside time A.k A.n then 2 else 0) else A.err
def CK2 (W : World) (L p1 q1 q2 s t TB : Nat) (A : TV) (time : Int) : Prop :=
  (W.cell? ⟨L, 0, none⟩ = some (.func (.func 64) #[] #[.pointer (some ⟨p1, 0, none⟩)]) ∧ W.cell? ⟨L, 1, none⟩ = some (.func (.func 79) #[] #[.pointer (some ⟨q1, 0, none⟩), .pointer (some ⟨q2, 0, none⟩)])) ∧
  (W.cell? ⟨p1, 0, none⟩ = some (.slice A.a A.n A.c) ∧ W.cell? ⟨p1, 1, none⟩ = some (.int .i64 A.d)) ∧
  (W.cell? ⟨q1, 0, none⟩ = some (.func (.func 66) #[] #[.pointer (some ⟨s, 0, none⟩), .pointer (some ⟨t, 0, none⟩)]) ∧ W.cell? ⟨q2, 0, none⟩ = some (.int .i64 2)) ∧
  (W.cell? ⟨s, 0, none⟩ = some (.slice (some ⟨TB, 0, none⟩) 1 1) ∧ W.cell? ⟨t, 0, none⟩ = some (.int .i64 time)) ∧
  (W.cell? ⟨TB, 0, none⟩ = some (.slice A.a A.n A.c) ∧ W.cell? ⟨TB, 1, none⟩ = some (.int .i64 A.d))
theorem check2_any (A : TV) (time : Int) (L p1 q1 q2 s t TB : Nat) (W : World) (hA : A.At W) (h : CK2 W L p1 q1 q2 s t TB A time) :
    Calls Try.prog 38 #[.slice (some ⟨L, 0, none⟩) 2 2] W fun e w' => e = .returned (.int .i64 (boxErr A time)) ∧ Below W.heap.size W w' := by
  obtain ⟨⟨l0, l2⟩, ⟨a0, a1⟩, ⟨c0, c1⟩, ⟨s0, t0⟩, ⟨e0, e1⟩⟩ := h
  have hr : ferr (fun i => if i = 0 then A.err else (if outside time A.k A.n then 2 else 0)) 0 2 = boxErr A time := by
    simp only [ferr, boxErr, if_true]
    by_cases hA0 : A.err = 0
    · simp [hA0]
    · simp [hA0]
  rw [← hr]
  refine firstError_any L 2 (fun i => if i = 0 then 64 else 79) (fun i => if i = 0 then #[.pointer (some ⟨p1, 0, none⟩)] else #[.pointer (some ⟨q1, 0, none⟩), .pointer (some ⟨q2, 0, none⟩)])
    (fun i => if i = 0 then A.err else (if outside time A.k A.n then 2 else 0)) W (by omega) (lt_of l0) ?_ ?_ ?_
  · intro i hi
    rcases (by omega : i = 0 ∨ i = 1) with rfl | rfl
    · exact l0
    · exact l2
  · intro i hi
    rcases (by omega : i = 0 ∨ i = 1) with rfl | rfl
    · exact (enters_of Try.func64 (by kernel_rfl) rfl)
    · exact (enters_of Try.func79 (by kernel_rfl) rfl)
  · intro i w1 hi hz hb
    rcases (by omega : i = 0 ∨ i = 1) with rfl | rfl
    · exact trackCheck1_any A.a A.n A.c p1 A.d w1 A.k hA.2 (hA.below hb).1 (keep hb a0) (keep hb a1)
    · have hA0 : A.err = 0 := hz 0 (by omega)
      obtain ⟨ba, oa, ea, ha⟩ := TV.valid (hA.below hb) hA0
      rw [ea] at e0
      have hc := timeCheck1_any 1 TB s t (fun _ => ⟨ba, oa, A.n, A.c, A.k, A.d⟩) time w1 (by omega) (keep hb s0) (keep hb t0) (lt_of (keep hb e0)) (lt_of (keep hb t0))
        (fun i hi => by
          obtain rfl : i = 0 := by omega
          exact ⟨keep hb e0, keep hb e1⟩)
        (fun i hi => ha)
      have hreq := require1_any q1 q2 66 #[.pointer (some ⟨s, 0, none⟩), .pointer (some ⟨t, 0, none⟩)] 2 _ w1 (keep hb c0) (keep hb c1) (lt_of (keep hb c1)) (enters_of Try.func66 (by kernel_rfl) rfl) hc
      refine hreq.mono ?_
      rintro e w' ⟨rfl, hw⟩
      refine ⟨ret_int ?_, hw⟩
      simp [List.range, List.range.loop]
      cases outside time A.k A.n <;> rfl
theorem boxErr_0 {A : TV} {time : Int} (h : boxErr A time = 0) : A.err = 0 ∧ outside time A.k A.n = false := by
  unfold boxErr at h
  by_cases hA : A.err = 0
  · rw [if_pos hA] at h
    cases ho : outside time A.k A.n
    · exact ⟨hA, rfl⟩
    · rw [ho] at h; cases h
  · rw [if_neg hA] at h; exact absurd h hA
set_option maxRecDepth 100000 in
set_option maxHeartbeats 800000 in
theorem side_any (bx bp : Nat) (x y z n d : Int) (ii : Int) (i : Nat) (hi : i < 3) (hii : ii = (i : Int)) (w : World) (x0 : w.cell? ⟨bx, 0, none⟩ = some (.int .i64 x)) (y0 : w.cell? ⟨bx, 1, none⟩ = some (.int .i64 y)) (z0 : w.cell? ⟨bx, 2, none⟩ = some (.int .i64 z)) (n0 : w.cell? ⟨bx, 3, none⟩ = some (.int .i64 n)) (d0 : w.cell? ⟨bp, 1, none⟩ = some (.int .i64 d)) (c : Int) (hc : c = if i = 0 then x else if i = 1 then y else z)
    (n1 : 1 ≤ n) (n2 : n ≤ 10000) (c1 : -10000000000 ≤ c) (c2 : c ≤ 10000000000) (d1 : 0 ≤ d) (d2 : d ≤ 1000) :
    Calls Try.prog 44 #[.int .i64 ii, .pointer (some ⟨bx, 0, none⟩), .pointer (some ⟨bp, 0, none⟩)] w fun e w' => e = .returned (.agg #[.int .i64 (c / n - d), .int .i64 (-(-c / n) + d)]) ∧ Below w.heap.size w w' := by
  subst hii
  have q0 : w.cell? ⟨bx, i, none⟩ = some (.int .i64 c) := by
    rw [hc]
    rcases (by omega : i = 0 ∨ i = 1 ∨ i = 2) with rfl | rfl | rfl
    · exact x0
    · exact y0
    · exact z0
  have p1 : (0 : Int) ≤ (i : Int) := by omega
  have p2 : (i : Int) < 3 := by omega
  have f1 := floor_plain c n (by omega)
  have f2 := floor_plain (-c) n (by omega)
  have t1 := tdiv_bd c n (by omega) (by omega) (by omega)
  have t2 := tdiv_bd (-c) n (by omega) (by omega) (by omega)
  have u1 : IntKind.i64.wrap (c / n - d) = c / n - d := IntWalk.i64_in _ (by omega)
  have u2 : IntKind.i64.wrap (-(-c / n) + d) = -(-c / n) + d := IntWalk.i64_in _ (by omega)
  have hb := lt_of q0
  have hb2 := lt_of d0
  clear f1 f2 t1 t2 hc x0 y0 z0
  go_enter Try.func44, Try.ntmps44
  go_wp2_with fail
  go_region_held3 (fun w' => w'.cell? ⟨bx, i, none⟩ = some (.int .i64 c) ∧ w'.cell? ⟨bx, 3, none⟩ = some (.int .i64 n) ∧ w'.cell? ⟨bp, 1, none⟩ = some (.int .i64 d)) (simp [go_sem, *])
    (first
      | (go_at_call 45; (with_reducible refine Calls.mono (floor_any c n (by omega) (by omega) (by omega) (by omega) _) ?_); rintro e w2 ⟨rfl, rfl⟩)
      | (go_at_call 46; (with_reducible refine Calls.mono (ceiling_any c n (by omega) (by omega) (by omega) (by omega) _) ?_); rintro e w2 ⟨rfl, rfl⟩))
  all_goals
    go_wp2_with fail
    refine bodyPost_ret (v := .agg #[.int .i64 (c / n - d), .int .i64 (-(-c / n) + d)]) (by simp [results, Try.results44, go_sem]) rfl ⟨rfl, by (repeat (first | with_reducible exact Below.refl _ _ | with_reducible assumption | with_reducible refine Below.alloc ?_ (by first | (simp; done) | (simp; omega) | omega) _ | with_reducible refine Below.setCell ?_ (by first | (simp; done) | (simp; omega) | omega) _ | with_reducible refine Below.drew ?_ | with_reducible refine below_drewN ?_ _))⟩
def DB (w : World) (sa : Option Addr) (na ca : Nat) (da : Int) (wx : World) : Prop :=
  (Below w.heap.size w wx ∧ w.heap.size + 1 < wx.heap.size) ∧ (wx.cell? ⟨w.heap.size, 0, none⟩ = some (.slice sa na ca) ∧ wx.cell? ⟨w.heap.size, 1, none⟩ = some (.int .i64 da)) ∧
  (wx.cell? ⟨w.heap.size + 1, 0, none⟩ = some (.int .i64 0) ∧ wx.cell? ⟨w.heap.size + 1, 1, none⟩ = some (.int .i64 0) ∧ wx.cell? ⟨w.heap.size + 1, 2, none⟩ = some (.int .i64 0) ∧ wx.cell? ⟨w.heap.size + 1, 3, none⟩ = some (.int .i64 0) ∧ wx.cell? ⟨w.heap.size + 1, 4, none⟩ = some (.int .i64 0) ∧ wx.cell? ⟨w.heap.size + 1, 5, none⟩ = some (.int .i64 0)) ∧
  (wx.frozen? ⟨w.heap.size + 1, 0, none⟩ = false ∧ wx.frozen? ⟨w.heap.size + 1, 1, none⟩ = false ∧ wx.frozen? ⟨w.heap.size + 1, 2, none⟩ = false ∧ wx.frozen? ⟨w.heap.size + 1, 3, none⟩ = false ∧ wx.frozen? ⟨w.heap.size + 1, 4, none⟩ = false ∧ wx.frozen? ⟨w.heap.size + 1, 5, none⟩ = false)
def boxV (p : Plc) (d : Int) : Value := .agg #[.int .i64 (p.x / p.n - d), .int .i64 (-(-p.x / p.n) + d), .int .i64 (p.y / p.n - d), .int .i64 (-(-p.y / p.n) + d), .int .i64 (p.z / p.n - d), .int .i64 (-(-p.z / p.n) + d)]
def SomeBox (A : TV) (time : Int) (w : World) (e : Ending) (w' : World) : Prop :=
  Below w.heap.size w w' ∧ e = .returned (.tuple #[if boxErr A time = 0 then boxV (plc A.k A.n time) A.d else .agg #[.int .i64 0, .int .i64 0, .int .i64 0, .int .i64 0, .int .i64 0, .int .i64 0], .int .i64 (boxErr A time)])
set_option maxRecDepth 100000 in
set_option maxHeartbeats 2000000 in
theorem boxAt_x (sa : Option Addr) (na ca : Nat) (ka : Nat → Knot) (da time : Int) (w : World) (hA : TV.At ⟨sa, na, ca, ka, da⟩ w) :
    Calls Try.prog 16 #[.agg #[.slice sa na ca, .int .i64 da], .int .i64 time] w (SomeBox ⟨sa, na, ca, ka, da⟩ time w) := by
  have HA := Lib.hid hA
  clear hA
  go_enter Try.func16, Try.ntmps16
  go_wp2_with fail
  go_cut [6] (fun s6 wx => s6 = .int .i64 (boxErr ⟨sa, na, ca, ka, da⟩ time) ∧ DB w sa na ca da wx)
  case first =>
    go_region_held3 (fun w' => w'.cell? ⟨w.heap.size, 0, none⟩ = some (.slice sa na ca) ∧ w'.cell? ⟨w.heap.size, 1, none⟩ = some (.int .i64 da)) (simp [go_sem, *])
      (first | (go_at_call 39; (with_reducible refine (trackCheck_any _ _ _ _ _).mono ?_); rintro e w1 ⟨rfl, rfl⟩) | (go_at_call 40; (with_reducible refine (timeCheck_any _ _ _ _ _ rfl _).mono ?_); rintro e w1 ⟨rfl, rfl⟩) | (go_at_call 38; (with_reducible refine Calls.mono (check2_any ⟨sa, na, ca, ka, da⟩ time (w.heap.size + 1 + 1 + 1 + 1 + 1 + 1 + 1 + 1) (w.heap.size + 1 + 1) (w.heap.size + 1 + 1 + 1 + 1 + 1 + 1 + 1) (w.heap.size + 1 + 1 + 1 + 1 + 1 + 1) (w.heap.size + 1 + 1 + 1 + 1 + 1) (w.heap.size + 1 + 1 + 1 + 1) (w.heap.size + 1 + 1 + 1) _ ?_ ?_) ?_); (focus (exact HA.out.below (by (repeat (first | with_reducible exact Below.refl _ _ | with_reducible assumption | with_reducible refine Below.alloc ?_ (by first | (simp; done) | (simp; omega) | omega) _ | with_reducible refine Below.setCell ?_ (by first | (simp; done) | (simp; omega) | omega) _ | with_reducible refine Below.drew ?_ | with_reducible refine below_drewN ?_ _))))); (focus (refine ⟨⟨?_, ?_⟩, ⟨?_, ?_⟩, ⟨?_, ?_⟩, ⟨?_, ?_⟩, ⟨?_, ?_⟩⟩ <;> (simp [go_sem, *]; done))); rintro e w1 ⟨rfl, hb1⟩; go_must (have a0 := (hb1.cell (p := ⟨w.heap.size, 0, none⟩) (by first | (simp; done) | (simp; omega) | omega)).trans (show _ = some (Value.slice sa na ca) by simp [go_sem, *])); go_must (have a1 := (hb1.cell (p := ⟨w.heap.size, 1, none⟩) (by first | (simp; done) | (simp; omega) | omega)).trans (show _ = some (Value.int .i64 da) by simp [go_sem, *])); go_must (have r0 := (hb1.cell (p := ⟨w.heap.size + 1, 0, none⟩) (by first | (simp; done) | (simp; omega) | omega)).trans (show _ = some (Value.int .i64 0) by simp [go_sem, *])); go_must (have r1 := (hb1.cell (p := ⟨w.heap.size + 1, 1, none⟩) (by first | (simp; done) | (simp; omega) | omega)).trans (show _ = some (Value.int .i64 0) by simp [go_sem, *])); go_must (have r2 := (hb1.cell (p := ⟨w.heap.size + 1, 2, none⟩) (by first | (simp; done) | (simp; omega) | omega)).trans (show _ = some (Value.int .i64 0) by simp [go_sem, *])); go_must (have r3 := (hb1.cell (p := ⟨w.heap.size + 1, 3, none⟩) (by first | (simp; done) | (simp; omega) | omega)).trans (show _ = some (Value.int .i64 0) by simp [go_sem, *])); go_must (have r4 := (hb1.cell (p := ⟨w.heap.size + 1, 4, none⟩) (by first | (simp; done) | (simp; omega) | omega)).trans (show _ = some (Value.int .i64 0) by simp [go_sem, *])); go_must (have r5 := (hb1.cell (p := ⟨w.heap.size + 1, 5, none⟩) (by first | (simp; done) | (simp; omega) | omega)).trans (show _ = some (Value.int .i64 0) by simp [go_sem, *])); go_must (have q0 := (hb1.frozen (p := ⟨w.heap.size + 1, 0, none⟩) (by first | (simp; done) | (simp; omega) | omega)).trans (show _ = false by simp [go_sem, *])); go_must (have q1 := (hb1.frozen (p := ⟨w.heap.size + 1, 1, none⟩) (by first | (simp; done) | (simp; omega) | omega)).trans (show _ = false by simp [go_sem, *])); go_must (have q2 := (hb1.frozen (p := ⟨w.heap.size + 1, 2, none⟩) (by first | (simp; done) | (simp; omega) | omega)).trans (show _ = false by simp [go_sem, *])); go_must (have q3 := (hb1.frozen (p := ⟨w.heap.size + 1, 3, none⟩) (by first | (simp; done) | (simp; omega) | omega)).trans (show _ = false by simp [go_sem, *])); go_must (have q4 := (hb1.frozen (p := ⟨w.heap.size + 1, 4, none⟩) (by first | (simp; done) | (simp; omega) | omega)).trans (show _ = false by simp [go_sem, *])); go_must (have q5 := (hb1.frozen (p := ⟨w.heap.size + 1, 5, none⟩) (by first | (simp; done) | (simp; omega) | omega)).trans (show _ = false by simp [go_sem, *])); go_must (have hB1 := thenC (show Below w.heap.size w _ by (repeat (first | with_reducible exact Below.refl _ _ | with_reducible assumption | with_reducible refine Below.alloc ?_ (by first | (simp; done) | (simp; omega) | omega) _ | with_reducible refine Below.setCell ?_ (by first | (simp; done) | (simp; omega) | omega) _ | with_reducible refine Below.drew ?_ | with_reducible refine below_drewN ?_ _))) hb1); go_must (clear hb1)) | (go_at_call 38; (with_reducible refine Calls.mono (check2_any ⟨sa, na, ca, ka, da⟩ time (w.heap.size + 1 + 1 + 1 + 1 + 1 + 1 + 1 + 1) (w.heap.size + 1 + 1 + 1) (w.heap.size + 1 + 1 + 1 + 1 + 1 + 1 + 1) (w.heap.size + 1 + 1 + 1 + 1 + 1 + 1) (w.heap.size + 1 + 1 + 1 + 1 + 1) (w.heap.size + 1 + 1 + 1 + 1) (w.heap.size + 1 + 1) _ ?_ ?_) ?_); (focus (exact HA.out.below (by (repeat (first | with_reducible exact Below.refl _ _ | with_reducible assumption | with_reducible refine Below.alloc ?_ (by first | (simp; done) | (simp; omega) | omega) _ | with_reducible refine Below.setCell ?_ (by first | (simp; done) | (simp; omega) | omega) _ | with_reducible refine Below.drew ?_ | with_reducible refine below_drewN ?_ _))))); (focus (refine ⟨⟨?_, ?_⟩, ⟨?_, ?_⟩, ⟨?_, ?_⟩, ⟨?_, ?_⟩, ⟨?_, ?_⟩⟩ <;> (simp [go_sem, *]; done))); rintro e w1 ⟨rfl, hb1⟩; go_must (have a0 := (hb1.cell (p := ⟨w.heap.size, 0, none⟩) (by first | (simp; done) | (simp; omega) | omega)).trans (show _ = some (Value.slice sa na ca) by simp [go_sem, *])); go_must (have a1 := (hb1.cell (p := ⟨w.heap.size, 1, none⟩) (by first | (simp; done) | (simp; omega) | omega)).trans (show _ = some (Value.int .i64 da) by simp [go_sem, *])); go_must (have r0 := (hb1.cell (p := ⟨w.heap.size + 1, 0, none⟩) (by first | (simp; done) | (simp; omega) | omega)).trans (show _ = some (Value.int .i64 0) by simp [go_sem, *])); go_must (have r1 := (hb1.cell (p := ⟨w.heap.size + 1, 1, none⟩) (by first | (simp; done) | (simp; omega) | omega)).trans (show _ = some (Value.int .i64 0) by simp [go_sem, *])); go_must (have r2 := (hb1.cell (p := ⟨w.heap.size + 1, 2, none⟩) (by first | (simp; done) | (simp; omega) | omega)).trans (show _ = some (Value.int .i64 0) by simp [go_sem, *])); go_must (have r3 := (hb1.cell (p := ⟨w.heap.size + 1, 3, none⟩) (by first | (simp; done) | (simp; omega) | omega)).trans (show _ = some (Value.int .i64 0) by simp [go_sem, *])); go_must (have r4 := (hb1.cell (p := ⟨w.heap.size + 1, 4, none⟩) (by first | (simp; done) | (simp; omega) | omega)).trans (show _ = some (Value.int .i64 0) by simp [go_sem, *])); go_must (have r5 := (hb1.cell (p := ⟨w.heap.size + 1, 5, none⟩) (by first | (simp; done) | (simp; omega) | omega)).trans (show _ = some (Value.int .i64 0) by simp [go_sem, *])); go_must (have q0 := (hb1.frozen (p := ⟨w.heap.size + 1, 0, none⟩) (by first | (simp; done) | (simp; omega) | omega)).trans (show _ = false by simp [go_sem, *])); go_must (have q1 := (hb1.frozen (p := ⟨w.heap.size + 1, 1, none⟩) (by first | (simp; done) | (simp; omega) | omega)).trans (show _ = false by simp [go_sem, *])); go_must (have q2 := (hb1.frozen (p := ⟨w.heap.size + 1, 2, none⟩) (by first | (simp; done) | (simp; omega) | omega)).trans (show _ = false by simp [go_sem, *])); go_must (have q3 := (hb1.frozen (p := ⟨w.heap.size + 1, 3, none⟩) (by first | (simp; done) | (simp; omega) | omega)).trans (show _ = false by simp [go_sem, *])); go_must (have q4 := (hb1.frozen (p := ⟨w.heap.size + 1, 4, none⟩) (by first | (simp; done) | (simp; omega) | omega)).trans (show _ = false by simp [go_sem, *])); go_must (have q5 := (hb1.frozen (p := ⟨w.heap.size + 1, 5, none⟩) (by first | (simp; done) | (simp; omega) | omega)).trans (show _ = false by simp [go_sem, *])); go_must (have hB1 := thenC (show Below w.heap.size w _ by (repeat (first | with_reducible exact Below.refl _ _ | with_reducible assumption | with_reducible refine Below.alloc ?_ (by first | (simp; done) | (simp; omega) | omega) _ | with_reducible refine Below.setCell ?_ (by first | (simp; done) | (simp; omega) | omega) _ | with_reducible refine Below.drew ?_ | with_reducible refine below_drewN ?_ _))) hb1); go_must (clear hb1)))
    all_goals
      go_wp2_with fail
      go_meet
      case rel =>
        refine ⟨rfl, ⟨?_, ?_⟩, ⟨?_, ?_⟩, ⟨?_, ?_, ?_, ?_, ?_, ?_⟩, ⟨?_, ?_, ?_, ?_, ?_, ?_⟩⟩
        all_goals first | omega | (exact lt_of r0) | (simp [go_sem, *]; done) | (repeat (first | with_reducible exact Below.refl _ _ | with_reducible assumption | with_reducible refine Below.alloc ?_ (by first | (simp; done) | (simp; omega) | omega) _ | with_reducible refine Below.setCell ?_ (by first | (simp; done) | (simp; omega) | omega) _ | with_reducible refine Below.drew ?_ | with_reducible refine below_drewN ?_ _))
  case rest =>
    obtain ⟨rfl, ⟨p1, p2⟩, ⟨a0, a1⟩, ⟨r0, r1, r2, r3, r4, r5⟩, ⟨q0, q1, q2, q3, q4, q5⟩⟩ := hcut
    by_cases hE : boxErr ⟨sa, na, ca, ka, da⟩ time = 0
    · obtain ⟨eA, oA⟩ := boxErr_0 hE
      obtain ⟨ba, oa, ea, hta⟩ := TV.valid HA.out eA
      simp only at ea
      subst ea
      have hP := plc_ok (k := ka) (n := na) (d := da) (time := time) eA oA
      have hd := (valid_of (k := ka) (n := na) (d := da) eA).2.2.2
      have HPL := fun W (hW : Below w.heap.size w W) => Lib.hid (placeAt_any ba oa na ca da time W ka (hta.below hW).2.2 eA oA)
      have HS : Hid (∀ e w', Below w.heap.size w w' → e = .returned (.tuple #[boxV (plc ka na time) da, .int .i64 0]) → SomeBox ⟨some ⟨ba, oa, none⟩, na, ca, ka, da⟩ time w e w') := fun e w' h1 h2 => ⟨h1, by rw [h2, if_pos hE, hE]⟩
      rw [hE]
      clear hE HA hta eA oA
      unfold boxV at HS
      obtain ⟨⟨n1, n2⟩, ⟨x1, x2⟩, ⟨y1, y2⟩, ⟨z1, z2⟩⟩ := hP
      generalize plc ka na time = p at *
      obtain ⟨px, py, pz, pn⟩ := p
      simp only at *
      obtain ⟨d1, d2⟩ := hd
      go_wp2_with (first
        | (go_at_call 43; (with_reducible refine Calls.mono (HPL _ (by (repeat (first | with_reducible exact Below.refl _ _ | with_reducible assumption | with_reducible refine Below.alloc ?_ (by first | (simp; done) | (simp; omega) | omega) _ | with_reducible refine Below.setCell ?_ (by first | (simp; done) | (simp; omega) | omega) _ | with_reducible refine Below.drew ?_ | with_reducible refine below_drewN ?_ _)))).out ?_); rintro e w2 ⟨rfl, hb2⟩; have B2 := thenC p1 hb2; have Bz := B2.size; have Aa0 := keep hb2 a0; have Aa1 := keep hb2 a1; have Ar0 := keep hb2 r0; have Ar1 := keep hb2 r1; have Ar2 := keep hb2 r2; have Ar3 := keep hb2 r3; have Ar4 := keep hb2 r4; have Ar5 := keep hb2 r5; have Aq0 := (hb2.frozen (p := ⟨w.heap.size + 1, 0, none⟩) (by show w.heap.size + 1 < _; exact lt_of r0)).trans q0; have Aq1 := (hb2.frozen (p := ⟨w.heap.size + 1, 1, none⟩) (by show w.heap.size + 1 < _; exact lt_of r0)).trans q1; have Aq2 := (hb2.frozen (p := ⟨w.heap.size + 1, 2, none⟩) (by show w.heap.size + 1 < _; exact lt_of r0)).trans q2; have Aq3 := (hb2.frozen (p := ⟨w.heap.size + 1, 3, none⟩) (by show w.heap.size + 1 < _; exact lt_of r0)).trans q3; have Aq4 := (hb2.frozen (p := ⟨w.heap.size + 1, 4, none⟩) (by show w.heap.size + 1 < _; exact lt_of r0)).trans q4; have Aq5 := (hb2.frozen (p := ⟨w.heap.size + 1, 5, none⟩) (by show w.heap.size + 1 < _; exact lt_of r0)).trans q5; have Za0 := keepC (.cells #[.int .i64 px, .int .i64 py, .int .i64 pz, .int .i64 pn] 84) Aa0; have Za1 := keepC (.cells #[.int .i64 px, .int .i64 py, .int .i64 pz, .int .i64 pn] 84) Aa1; have Zr0 := keepC (.cells #[.int .i64 px, .int .i64 py, .int .i64 pz, .int .i64 pn] 84) Ar0; have Zr1 := keepC (.cells #[.int .i64 px, .int .i64 py, .int .i64 pz, .int .i64 pn] 84) Ar1; have Zr2 := keepC (.cells #[.int .i64 px, .int .i64 py, .int .i64 pz, .int .i64 pn] 84) Ar2; have Zr3 := keepC (.cells #[.int .i64 px, .int .i64 py, .int .i64 pz, .int .i64 pn] 84) Ar3; have Zr4 := keepC (.cells #[.int .i64 px, .int .i64 py, .int .i64 pz, .int .i64 pn] 84) Ar4; have Zr5 := keepC (.cells #[.int .i64 px, .int .i64 py, .int .i64 pz, .int .i64 pn] 84) Ar5; have Zq0 := (fro1 (p1 := .cells #[.int .i64 px, .int .i64 py, .int .i64 pz, .int .i64 pn] 84) (by rw [Ar0]; rfl)).trans Aq0; have Zq1 := (fro1 (p1 := .cells #[.int .i64 px, .int .i64 py, .int .i64 pz, .int .i64 pn] 84) (by rw [Ar1]; rfl)).trans Aq1; have Zq2 := (fro1 (p1 := .cells #[.int .i64 px, .int .i64 py, .int .i64 pz, .int .i64 pn] 84) (by rw [Ar2]; rfl)).trans Aq2; have Zq3 := (fro1 (p1 := .cells #[.int .i64 px, .int .i64 py, .int .i64 pz, .int .i64 pn] 84) (by rw [Ar3]; rfl)).trans Aq3; have Zq4 := (fro1 (p1 := .cells #[.int .i64 px, .int .i64 py, .int .i64 pz, .int .i64 pn] 84) (by rw [Ar4]; rfl)).trans Aq4; have Zq5 := (fro1 (p1 := .cells #[.int .i64 px, .int .i64 py, .int .i64 pz, .int .i64 pn] 84) (by rw [Ar5]; rfl)).trans Aq5)
        | (go_at_call 44; (with_reducible refine Calls.mono (side_any w2.heap.size w.heap.size px py pz pn da 0 0 (by omega) rfl _ (by simp [go_sem]) (by simp [go_sem]) (by simp [go_sem]) (by simp [go_sem]) Za1 px rfl n1 n2 x1 x2 d1 d2) ?_); rintro e w3 ⟨rfl, hb3⟩; have B3 := thenC (show Below w.heap.size w _ by (repeat (first | with_reducible exact Below.refl _ _ | with_reducible assumption | with_reducible refine Below.alloc ?_ (by first | (simp; done) | (simp; omega) | omega) _ | with_reducible refine Below.setCell ?_ (by first | (simp; done) | (simp; omega) | omega) _ | with_reducible refine Below.drew ?_ | with_reducible refine below_drewN ?_ _))) hb3; have Ba0 := keep hb3 Za0; have Ba1 := keep hb3 Za1; have Br0 := keep hb3 Zr0; have Br1 := keep hb3 Zr1; have Br2 := keep hb3 Zr2; have Br3 := keep hb3 Zr3; have Br4 := keep hb3 Zr4; have Br5 := keep hb3 Zr5; have Bq0 := (hb3.frozen (p := ⟨w.heap.size + 1, 0, none⟩) (by show w.heap.size + 1 < _; exact lt_of Zr0)).trans Zq0; have Bq1 := (hb3.frozen (p := ⟨w.heap.size + 1, 1, none⟩) (by show w.heap.size + 1 < _; exact lt_of Zr0)).trans Zq1; have Bq2 := (hb3.frozen (p := ⟨w.heap.size + 1, 2, none⟩) (by show w.heap.size + 1 < _; exact lt_of Zr0)).trans Zq2; have Bq3 := (hb3.frozen (p := ⟨w.heap.size + 1, 3, none⟩) (by show w.heap.size + 1 < _; exact lt_of Zr0)).trans Zq3; have Bq4 := (hb3.frozen (p := ⟨w.heap.size + 1, 4, none⟩) (by show w.heap.size + 1 < _; exact lt_of Zr0)).trans Zq4; have Bq5 := (hb3.frozen (p := ⟨w.heap.size + 1, 5, none⟩) (by show w.heap.size + 1 < _; exact lt_of Zr0)).trans Zq5; have Bx0 := (hb3.cell (p := ⟨w2.heap.size, 0, none⟩) (by first | (simp; done) | (simp; omega) | omega)).trans (show _ = some (.int .i64 px) by simp [go_sem]); have Bx1 := (hb3.cell (p := ⟨w2.heap.size, 1, none⟩) (by first | (simp; done) | (simp; omega) | omega)).trans (show _ = some (.int .i64 py) by simp [go_sem]); have Bx2 := (hb3.cell (p := ⟨w2.heap.size, 2, none⟩) (by first | (simp; done) | (simp; omega) | omega)).trans (show _ = some (.int .i64 pz) by simp [go_sem]); have Bx3 := (hb3.cell (p := ⟨w2.heap.size, 3, none⟩) (by first | (simp; done) | (simp; omega) | omega)).trans (show _ = some (.int .i64 pn) by simp [go_sem]))
        | (go_at_call 44; (with_reducible refine Calls.mono (side_any w2.heap.size w.heap.size px py pz pn da 1 1 (by omega) rfl _ Bx0 Bx1 Bx2 Bx3 Ba1 py rfl n1 n2 y1 y2 d1 d2) ?_); rintro e w4 ⟨rfl, hb4⟩; have B4 := thenC B3 hb4; have Ca0 := keep hb4 Ba0; have Ca1 := keep hb4 Ba1; have Cr0 := keep hb4 Br0; have Cr1 := keep hb4 Br1; have Cr2 := keep hb4 Br2; have Cr3 := keep hb4 Br3; have Cr4 := keep hb4 Br4; have Cr5 := keep hb4 Br5; have Cx0 := keep hb4 Bx0; have Cx1 := keep hb4 Bx1; have Cx2 := keep hb4 Bx2; have Cx3 := keep hb4 Bx3; have Cq0 := (hb4.frozen (p := ⟨w.heap.size + 1, 0, none⟩) (by show w.heap.size + 1 < _; exact lt_of Br0)).trans Bq0; have Cq1 := (hb4.frozen (p := ⟨w.heap.size + 1, 1, none⟩) (by show w.heap.size + 1 < _; exact lt_of Br0)).trans Bq1; have Cq2 := (hb4.frozen (p := ⟨w.heap.size + 1, 2, none⟩) (by show w.heap.size + 1 < _; exact lt_of Br0)).trans Bq2; have Cq3 := (hb4.frozen (p := ⟨w.heap.size + 1, 3, none⟩) (by show w.heap.size + 1 < _; exact lt_of Br0)).trans Bq3; have Cq4 := (hb4.frozen (p := ⟨w.heap.size + 1, 4, none⟩) (by show w.heap.size + 1 < _; exact lt_of Br0)).trans Bq4; have Cq5 := (hb4.frozen (p := ⟨w.heap.size + 1, 5, none⟩) (by show w.heap.size + 1 < _; exact lt_of Br0)).trans Bq5)
        | (go_at_call 44; (with_reducible refine Calls.mono (side_any w2.heap.size w.heap.size px py pz pn da 2 2 (by omega) rfl _ Cx0 Cx1 Cx2 Cx3 Ca1 pz rfl n1 n2 z1 z2 d1 d2) ?_); rintro e w5 ⟨rfl, hb5⟩; have B5 := thenC B4 hb5; have Da0 := keep hb5 Ca0; have Da1 := keep hb5 Ca1; have Dr0 := keep hb5 Cr0; have Dr1 := keep hb5 Cr1; have Dr2 := keep hb5 Cr2; have Dr3 := keep hb5 Cr3; have Dr4 := keep hb5 Cr4; have Dr5 := keep hb5 Cr5; have Dx0 := keep hb5 Cx0; have Dx1 := keep hb5 Cx1; have Dx2 := keep hb5 Cx2; have Dx3 := keep hb5 Cx3; have Dq0 := (hb5.frozen (p := ⟨w.heap.size + 1, 0, none⟩) (by show w.heap.size + 1 < _; exact lt_of Cr0)).trans Cq0; have Dq1 := (hb5.frozen (p := ⟨w.heap.size + 1, 1, none⟩) (by show w.heap.size + 1 < _; exact lt_of Cr0)).trans Cq1; have Dq2 := (hb5.frozen (p := ⟨w.heap.size + 1, 2, none⟩) (by show w.heap.size + 1 < _; exact lt_of Cr0)).trans Cq2; have Dq3 := (hb5.frozen (p := ⟨w.heap.size + 1, 3, none⟩) (by show w.heap.size + 1 < _; exact lt_of Cr0)).trans Cq3; have Dq4 := (hb5.frozen (p := ⟨w.heap.size + 1, 4, none⟩) (by show w.heap.size + 1 < _; exact lt_of Cr0)).trans Cq4; have Dq5 := (hb5.frozen (p := ⟨w.heap.size + 1, 5, none⟩) (by show w.heap.size + 1 < _; exact lt_of Cr0)).trans Cq5))
      refine bodyPost_ret (v := .tuple #[.agg #[.int .i64 (px / pn - da), .int .i64 (-(-px / pn) + da), .int .i64 (py / pn - da), .int .i64 (-(-py / pn) + da), .int .i64 (pz / pn - da), .int .i64 (-(-pz / pn) + da)], .int .i64 0]) (by simp [results, Try.results16, go_sem, Dr0, Dr1, Dr2, Dr3, Dr4, Dr5]) rfl (HS.out _ _ ?_ rfl)
      have hws : w.heap.size ≤ w.heap.size + 1 := by omega
      (repeat (first | with_reducible exact Below.refl _ _ | with_reducible assumption | with_reducible refine Below.alloc ?_ (by first | (simp; done) | (simp; omega) | omega) _ | with_reducible refine Below.setCell ?_ (by first | (simp; done) | (simp; omega) | omega) _ | with_reducible refine Below.drew ?_ | with_reducible refine below_drewN ?_ _))
    · have hq : (boxErr ⟨sa, na, ca, ka, da⟩ time != 0) = true := by simpa using hE
      have hE2 : ¬ boxErr ⟨sa, na, ca, ka, da⟩ time = 0 := hE
      have HE := Lib.hid hE
      clear hE
      go_wp2_with fail
      refine bodyPost_ret (v := .tuple #[.agg #[.int .i64 0, .int .i64 0, .int .i64 0, .int .i64 0, .int .i64 0, .int .i64 0], .int .i64 (boxErr ⟨sa, na, ca, ka, da⟩ time)]) (by simp [results, Try.results16, go_sem, r0, r1, r2, r3, r4, r5]) rfl ⟨?_, ?_⟩
      · (repeat (first | with_reducible exact Below.refl _ _ | with_reducible assumption | with_reducible refine Below.alloc ?_ (by first | (simp; done) | (simp; omega) | omega) _ | with_reducible refine Below.setCell ?_ (by first | (simp; done) | (simp; omega) | omega) _ | with_reducible refine Below.drew ?_ | with_reducible refine below_drewN ?_ _))
      · rw [if_neg hE2]
end Go.Proofs.Ytmhcmiajikffpaa
namespace Go.Proofs.Ytmhcmiajikffpaa
open Go.RowKit Go.Shelf Go.Sort
attribute [local go_sem] idx3_0 idx3_1 idx3_2 old1 fro1 old2 fro2 old3 fro3 old4 fro4 old5 fro5 old6 fro6 old7 fro7 old8 fro8 old9 fro9 old10 fro10 old11 fro11 old12 fro12
theorem ctErr_d {k : Nat → Knot} {n : Nat} {d d' : Int} (h : ctErr k n d = 0) (h0 : 0 ≤ d') (h1 : d' ≤ 1000) : ctErr k n d' = 0 := by
  obtain ⟨q0, q1, _, _⟩ := valid_of h
  unfold ctErr ctRes at h ⊢
  rw [if_neg (by omega), if_neg (by omega)] at h ⊢
  revert h
  split
  · exact fun h => h
  · intro _
    rw [if_pos (wi_t.2 ⟨h0, h1⟩)]
theorem box_fix (k : Nat → Knot) (n : Nat) (d time : Int) (h : ctErr k n d = 0) (o : outside time k n = false) (W : World) (X : Option Addr) (cx : Nat) (hk : KA W X n k) :
    Calls Try.prog 16 #[.agg #[.slice X n cx, .int .i64 d], .int .i64 time] W fun e w' => e = .returned (.tuple #[boxV (plc k n time) d, .int .i64 0]) ∧ Below W.heap.size W w' := by
  refine (boxAt_x X n cx k d time W ⟨hk, show n ≤ _ by have := (valid_of h).2.1; omega⟩).mono ?_
  rintro e w' ⟨hb, rfl⟩
  have he : boxErr ⟨X, n, cx, k, d⟩ time = 0 := by
    unfold boxErr TV.err
    simp only
    rw [h, o]
    rfl
  rw [he]
  exact ⟨rfl, hb⟩
theorem pathEnclosed_any (A B C : Option Addr) (na nb nc ca cb cc : Nat) (da db dc time more : Int) (ka kb kc : Nat → Knot) (w : World) (hna : na ≤ 9223372036854775807) (hnb : nb ≤ 9223372036854775807) (hnc : nc ≤ 9223372036854775807)
    (hA0 : A = none → na = 0 ∧ ca = 0) (hB0 : B = none → nb = 0 ∧ cb = 0) (hC0 : C = none → nc = 0 ∧ cc = 0) (hA : KA w A na ka) (hB : KA w B nb kb) (hC : KA w C nc kc) :
    Calls Try.prog 3 #[.agg #[.slice A na ca, .int .i64 da, .slice B nb cb, .int .i64 db, .slice C nc cc, .int .i64 dc], .int .i64 time, .int .i64 more] w fun e w' => e = .returned (.bool true) ∧ Below w.heap.size w w' := by
  have F2 := fun W => few2_any A B na ca nb cb da db W hna hnb
  have F1 := fun W => few_any C nc cc dc W hnc
  by_cases h1 : na ≤ 14 ∧ nb ≤ 14
  case neg =>
    rw [show (decide ((na : Int) ≤ 14) && decide ((nb : Int) ≤ 14)) = false by
      rw [Bool.and_eq_false_iff, decide_eq_false_iff_not, decide_eq_false_iff_not]; omega] at F2
    exact pe_e0 A B C na nb nc ca cb cc da db dc time more ka kb kc w hA hB hC F2
  rw [show (decide ((na : Int) ≤ 14) && decide ((nb : Int) ≤ 14)) = true by
      rw [Bool.and_eq_true, decide_eq_true_eq, decide_eq_true_eq]; omega] at F2
  by_cases h2 : nc ≤ 14
  case neg =>
    rw [show decide ((nc : Int) ≤ 14) = false by rw [decide_eq_false_iff_not]; omega] at F1
    exact pe_e1 A B C na nb nc ca cb cc da db dc time more ka kb kc w hA hB hC F2 F1
  rw [show decide ((nc : Int) ≤ 14) = true by rw [decide_eq_true_eq]; omega] at F1
  have BE := fun W (a : KA W A na ka) (b : KA W B nb kb) => bothErr_any A B na ca nb cb da db ka kb W hna hnb a b
  by_cases h3 : (if ctErr ka na da = 0 then ctErr kb nb db else ctErr ka na da) = 0
  case neg =>
    exact pe_e2 A B C na nb nc ca cb cc da db dc time more ka kb kc w hA hB hC F2 F1 BE h3
  rw [h3] at BE
  have a0 : ctErr ka na da = 0 := by
    rcases Decidable.em (ctErr ka na da = 0) with z | z
    · exact z
    · rw [if_neg z] at h3; exact h3
  have b0 : ctErr kb nb db = 0 := by rw [if_pos a0] at h3; exact h3
  clear h3
  have TR := fun W (c : KA W C nc kc) => trackErr_any C nc cc dc kc W hnc c
  by_cases c0 : ctErr kc nc dc = 0
  case neg =>
    exact pe_e3 A B C na nb nc ca cb cc da db dc time more ka kb kc w hA hB hC F2 F1 BE TR c0
  rw [c0] at TR
  obtain ⟨na0, na12, _, d0, d1⟩ := valid_of a0
  obtain ⟨nb0, nb12, _, e0, e1⟩ := valid_of b0
  obtain ⟨nc0, nc12, _, g0, g1⟩ := valid_of c0
  have TS : ∀ W, KA W A na ka → KA W B nb kb → Calls Try.prog 11 #[.agg #[.slice A na ca, .int .i64 da], .agg #[.slice B nb cb, .int .i64 db], .int .i64 time] W fun e w' => e = .returned (.int .i64 (if outside time ka na || outside time kb nb then 2 else 0)) ∧ Below W.heap.size W w' := by
    intro W a b
    obtain ⟨p, o, rfl, k1⟩ := a na0
    obtain ⟨p', o', rfl, k2⟩ := b nb0
    exact timesErr_any p o p' o' na ca nb cb da db time ka kb W na0 (by omega) nb0 (by omega) k1 k2
  by_cases h5 : (if outside time ka na || outside time kb nb then (2 : Int) else 0) = 0
  case neg =>
    exact pe_e4 A B C na nb nc ca cb cc da db dc time more ka kb kc w hA hB hC F2 F1 BE TR TS h5
  rw [h5] at TS
  obtain ⟨oA, oB⟩ : outside time ka na = false ∧ outside time kb nb = false := by
    revert h5
    cases outside time ka na <;> cases outside time kb nb <;> simp
  clear h5
  have TC : ∀ W, KA W C nc kc → Calls Try.prog 12 #[.agg #[.slice C nc cc, .int .i64 dc], .int .i64 time] W fun e w' => e = .returned (.int .i64 (if outside time kc nc then 2 else 0)) ∧ Below W.heap.size W w' := by
    intro W a
    obtain ⟨p, o, rfl, k1⟩ := a nc0
    exact rtimeErr_any p o nc cc dc time W kc nc0 (by omega) k1
  by_cases h6 : (if outside time kc nc then (2 : Int) else 0) = 0
  case neg =>
    exact pe_e5 A B C na nb nc ca cb cc da db dc time more ka kb kc w hA hB hC F2 F1 BE TR TS TC h6
  rw [h6] at TC
  have oC : outside time kc nc = false := by
    revert h6
    cases outside time kc nc <;> simp
  clear h6
  by_cases h7 : wi more 0 (1000 - da) = true
  case neg =>
    exact pe_e6 A B C na nb nc ca cb cc da db dc time more ka kb kc w hA hB hC F2 F1 BE TR TS TC d0 d1 (by simpa using h7)
  obtain ⟨m0, m1⟩ := wi_t.1 h7
  have u0 : ctErr ka na (da + more) = 0 := ctErr_d a0 (by omega) (by omega)
  have pa := plc_ok a0 oA
  have pb := plc_ok b0 oB
  have pc := plc_ok c0 oC
  obtain ⟨x1, x2, X1, X2, Dx⟩ := dist_fix ka kb na nb da db time a0 b0 oA oB
  obtain ⟨y1, y2, Y1, Y2, Dy⟩ := dist_fix kb ka nb na db da time b0 a0 oB oA
  obtain ⟨z1, z2, Z1, Z2, Dz⟩ := dist_fix ka kc na nc da dc time a0 c0 oA oC
  obtain ⟨v1, v2, V1, V2, Dw⟩ := dist_fix kc kb nc nb dc db time c0 b0 oC oB
  obtain ⟨u1, u2, U1, U2, Du⟩ := dist_fix ka kb na nb (da + more) db time u0 b0 oA oB
  obtain ⟨o1, o2, O1, O2, Do⟩ := dist_fix ka ka na na da da time a0 a0 oA oA
  have Nx : Dn (plc ka na time) (plc kb nb time) da db x1 x2 := ⟨X1, X2⟩
  have Ny : Dn (plc kb nb time) (plc ka na time) db da y1 y2 := ⟨Y1, Y2⟩
  have Nz : Dn (plc ka na time) (plc kc nc time) da dc z1 z2 := ⟨Z1, Z2⟩
  have Nv : Dn (plc kc nc time) (plc kb nb time) dc db v1 v2 := ⟨V1, V2⟩
  have Nu : Dn (plc ka na time) (plc kb nb time) (da + more) db u1 u2 := ⟨U1, U2⟩
  have No : Dn (plc ka na time) (plc ka na time) da da o1 o2 := ⟨O1, O2⟩
  clear X1 X2 Y1 Y2 Z1 Z2 V1 V2 U1 U2 O1 O2
  obtain ⟨s1, s2⟩ := Nx.swap pa pb Ny
  subst s1 s2
  obtain ⟨o0, c4, c5⟩ := No.own pa d0 d1
  subst o0
  obtain ⟨i1, i2, i3⟩ := Nx.nums pa pb d0 e0
  obtain ⟨j1, j2, j3⟩ := Nz.nums pa pc d0 g0
  obtain ⟨k1, k2, k3⟩ := Nv.nums pc pb g0 e0
  obtain ⟨l1, l2, l3⟩ := Nu.nums pa pb (show 0 ≤ da + more by omega) e0
  obtain ⟨r1, r2, r3⟩ := No.nums pa pa d0 d0
  have c1 := Dn.tri pa pb pc d0 e0 g0 Nx Nz Nv
  obtain ⟨c2, c3⟩ := Nx.wider pa pb d0 e0 m0 Nu
  obtain ⟨⟨n1, n2⟩, ⟨ax1, ax2⟩, ⟨ay1, ay2⟩, az1, az2⟩ := id pa
  obtain ⟨wX, bX1, bX2⟩ := box_side n1 n2 ax1 ax2 d0 d1
  obtain ⟨wY, bY1, bY2⟩ := box_side n1 n2 ay1 ay2 d0 d1
  obtain ⟨wZ, bZ1, bZ2⟩ := box_side n1 n2 az1 az2 d0 d1
  have B1 := box_fix ka na da time a0 oA
  have B2 := box_fix ka na (da + more) time u0 oA
  have tX := wi_t.1 wX
  have tY := wi_t.1 wY
  have tZ := wi_t.1 wZ
  unfold boxV at B1 B2
  generalize plc ka na time = pl at *
  clear Nx Ny Nz Nv Nu No pa pb pc n1 n2 ax1 ax2 ay1 ay2 az1 az2
  have hp : ∀ a : Int, a - (da + more) = a - da - more := fun a => by omega
  have hq : ∀ a : Int, a + (da + more) = a + da + more := fun a => by omega
  simp only [hp, hq] at B2
  refine pe_main A B C na nb nc ca cb cc da db dc time more ka kb kc w (y1 - 1) y2 (z1 - 1) z2 (v1 - 1) v2 (u1 - 1) u2 o2 _ _ _ _ _ _ hA0 hB0 hC0 hA hB hC na0 h1.1 h1.2 h2 F2 F1 BE TR TS TC d0 d1 m0 m1
    (fun W X cx Y cy a b => Dx W X cx Y cy a b) (fun W X cx Y cy a b => Dy W X cx Y cy a b) (fun W X cx Y cy a b => Dz W X cx Y cy a b) (fun W X cx Y cy a b => Dw W X cx Y cy a b) (fun W X cx Y cy a b => Du W X cx Y cy a b) (fun W X cx Y cy a b => Do W X cx Y cy a b)
    (fun W X cx a => B1 W X cx a) (fun W X cx a => B2 W X cx a)
    (wi_t.2 ⟨by omega, by omega⟩) (wi_t.2 ⟨by omega, by omega⟩) (wi_t.2 ⟨by omega, by omega⟩) (wi_t.2 ⟨by omega, by omega⟩) (wi_t.2 ⟨by omega, by omega⟩) (wi_t.2 ⟨by omega, by omega⟩) (wi_t.2 ⟨by omega, by omega⟩) (wi_t.2 ⟨by omega, by omega⟩) (wi_t.2 ⟨by omega, by omega⟩) (wi_t.2 ⟨by omega, by omega⟩)
    (by omega) (by omega) (by omega) (by omega) (by omega) (by omega) (by omega) (by omega) (by omega) (by omega) (by omega) (by omega) (by omega) (by omega) (by omega) (by omega) wX wY wZ c1 (by omega) (by omega) c4 c5
end Go.Proofs.Ytmhcmiajikffpaa
namespace Go.Proofs.Ytmhcmiajikffpaa
open Go.ChangeShapes Go.WideShapes Go.ChangeAt Go.RowKit Go.Joins Go.Deep
theorem owned : ownKnob Try.prog.godebug = none := by kernel_rfl
theorem laidAll : laidOutB Try.prog = true := by kernel_rfl
theorem cells1 : Try.prog.cellsOf 3 = 1 := by kernel_rfl
theorem cells3 : Try.prog.cellsOf 105 = 3 := by kernel_rfl
theorem cells4 : Try.prog.cellsOf 107 = 4 := by kernel_rfl
theorem cells2 : Try.prog.cellsOf 24 = 2 := by kernel_rfl
instance : Inhabited Knot := ⟨⟨0, 0, 0, 0⟩⟩
set_option maxRecDepth 100000 in
theorem read_point {H : Type} {enc : TypeId × Value → H} {w : World} {base : Nat} {sp : Nat → Bool} {held : Bool} {n : Nat} {c0 c1 c2 : Value} {x : DataW H × List MemPlace} (h : DataW.trod enc Try.prog w base sp held n 105 [c0, c1, c2] = some x) : ∃ a b c : Int, c0 = .int .i64 a ∧ c1 = .int .i64 b ∧ c2 = .int .i64 c := by
  obtain ⟨xs, m, _, _, hl, hlen, hg⟩ := DataW.trod_struct Try.underlying105 h
  match xs, hlen with
  | [y0, y1, y2], _ =>
    have h0 := hg 0 _ rfl
    have h1 := hg 1 _ rfl
    have h2 := hg 2 _ rfl
    simp [cells1] at h0 h1 h2
    obtain ⟨a, e0, _, _⟩ := DataW.trod_int Try.underlying3 h0
    obtain ⟨b, e1, _, _⟩ := DataW.trod_int Try.underlying3 h1
    obtain ⟨c, e2, _, _⟩ := DataW.trod_int Try.underlying3 h2
    simp at e0 e1 e2
    exact ⟨a, b, c, e0, e1, e2⟩
set_option maxRecDepth 100000 in
theorem read_knot {H : Type} {enc : TypeId × Value → H} {w : World} {base : Nat} {sp : Nat → Bool} {held : Bool} {n : Nat} {c0 c1 c2 c3 : Value} {x : DataW H × List MemPlace} (h : DataW.trod enc Try.prog w base sp held n 107 [c0, c1, c2, c3] = some x) : ∃ q : Knot, c0 = .int .i64 q.t ∧ c1 = .int .i64 q.x ∧ c2 = .int .i64 q.y ∧ c3 = .int .i64 q.z := by
  obtain ⟨xs, m, _, _, hl, hlen, hg⟩ := DataW.trod_struct Try.underlying107 h
  match xs, hlen with
  | [y0, y1], _ =>
    have h0 := hg 0 _ rfl
    have h1 := hg 1 _ rfl
    simp [cells1, cells3] at h0 h1
    obtain ⟨a, e0, _, _⟩ := DataW.trod_int Try.underlying3 h0
    obtain ⟨b, c, d, e1, e2, e3⟩ := read_point h1
    simp at e0
    exact ⟨⟨a, b, c, d⟩, e0, e1, e2, e3⟩
set_option maxRecDepth 100000 in
theorem open_track {H : Type} {enc : TypeId × Value → H} {w : World} {base : Nat} {sp : Nat → Bool} {held : Bool} {r : Reach} {b0 : Nat} {v : Value} {d : DataW H} {p : List MemPlace} (hv : Value.okWide Try.prog w r b0 24 v) (h : DataW.Trod enc Try.prog w base sp held 24 v d p) :
    ∃ (A : Option Addr) (n c : Nat) (k : Nat → Knot) (db : Int), v = .agg #[.slice A n c, .int .i64 db] ∧ n ≤ 9223372036854775807 ∧ (A = none → n = 0 ∧ c = 0) ∧ KA w A n k := by
  obtain ⟨c0, c1, y0, y1, m, rfl, _, _, hy0, hy1⟩ := open_agg2 Try.underlying24 (by kernel_rfl) cells2 hv h
  obtain ⟨db, e1, _, _⟩ := DataW.trod_int Try.underlying3 hy1
  simp at e1
  subst e1
  rcases open_slice Try.underlying22 hy0 with ⟨hcs, _⟩ | ⟨a, len, cap, m', n', D, Pl, hcs, _, hl, hm, hmm, _, hx⟩
  · simp at hcs
    subst hcs
    exact ⟨none, 0, 0, fun _ => default, db, rfl, by omega, fun _ => ⟨rfl, rfl⟩, fun h => absurd h (Nat.lt_irrefl 0)⟩
  · simp at hcs
    subst hcs
    rw [cells4] at hx
    have hlm : len ≤ m' := by rw [hmm]; split <;> omega
    have hq : ∀ i, i < len → ∃ q : Knot, w.cell? (a.add (i * 4)) = some (.int .i64 q.t) ∧ w.cell? ((a.add (i * 4)).add 1) = some (.int .i64 q.x) ∧ w.cell? ((a.add (i * 4)).add 2) = some (.int .i64 q.y) ∧ w.cell? ((a.add (i * 4)).add 3) = some (.int .i64 q.z) := by
      intro i hi
      obtain ⟨cs', g1, g2⟩ := hx i (by omega)
      obtain ⟨_, hlen, hc⟩ := World.cells?_some g1
      match cs', hlen with
      | [v0, v1, v2, v3], _ =>
        obtain ⟨q, rfl, rfl, rfl, rfl⟩ := read_knot g2
        have z0 := hc 0 (by omega)
        have z1 := hc 1 (by omega)
        have z2 := hc 2 (by omega)
        have z3 := hc 3 (by omega)
        refine ⟨q, ?_, z1, z2, z3⟩
        simpa [Addr.add] using z0
    obtain ⟨k, hk⟩ := choose_lt hq
    refine ⟨some a, len, cap, k, db, rfl, by unfold maxLen at hm; omega, fun h => (by cases h), fun h0 => ?_⟩
    obtain ⟨b, off, spot⟩ := a
    have hc := (hk 0 h0).1
    have hspot : spot = none := by simpa [Addr.add] using World.cell?_spot hc
    subst hspot
    have hc2 : w.cell? ⟨b, off, none⟩ = some (.int .i64 (k 0).t) := by simpa [Addr.add] using hc
    refine ⟨b, off, rfl, lt_of hc2, fun i hi => ?_⟩
    obtain ⟨z0, z1, z2, z3⟩ := hk i hi
    rw [addr_add] at z0 z1 z2 z3
    rw [addr_add] at z1 z2 z3
    exact ⟨z0, z1, z2, z3⟩
end Go.Proofs.Ytmhcmiajikffpaa
