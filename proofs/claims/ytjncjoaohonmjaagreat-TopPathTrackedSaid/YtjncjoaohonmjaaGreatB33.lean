/- Helpers: the box of a track (BoxAt). -/
import Derived.Test.YtjncjoaohonmjaaGreatB08
namespace Go.Proofs.YtjncjoaohonmjaaGreat
open Go.RowKit Go.Shelf Go.Sort
attribute [local go_sem] idx3_0 idx3_1 idx3_2 old1 fro1 old2 fro2 old3 fro3 old4 fro4 old5 fro5 old6 fro6 old7 fro7 old8 fro8 old9 fro9 old10 fro10 old11 fro11 old12 fro12
theorem thenC {w X Y : World} (h : Below w.heap.size w X) (h2 : Below X.heap.size X Y) : Below w.heap.size w Y := h.trans (h2.mono h.size)
theorem keepC {w : World} {a : Addr} {v : Value} (o : Obj) (h : w.cell? a = some v) : (w.alloc o).cell? a = some v := (World.cell?_alloc_some w a o (by rw [h]; rfl)).trans h
/-- The error of a track and a time. -/
def boxErr (A : TV) (time : Int) : Int := if A.err = 0 then (if outside time A.k A.n then 2 else 0) else A.err
def CK2 (W : World) (L p1 q1 q2 s t TB : Nat) (A : TV) (time : Int) : Prop :=
  (W.cell? ⟨L, 0, none⟩ = some (.func (.func 63) #[] #[.pointer (some ⟨p1, 0, none⟩)]) ∧ W.cell? ⟨L, 1, none⟩ = some (.func (.func 97) #[] #[.pointer (some ⟨q1, 0, none⟩), .pointer (some ⟨q2, 0, none⟩)])) ∧
  (W.cell? ⟨p1, 0, none⟩ = some (.slice A.a A.n A.c) ∧ W.cell? ⟨p1, 1, none⟩ = some (.int .i64 A.d)) ∧
  (W.cell? ⟨q1, 0, none⟩ = some (.func (.func 65) #[] #[.pointer (some ⟨s, 0, none⟩), .pointer (some ⟨t, 0, none⟩)]) ∧ W.cell? ⟨q2, 0, none⟩ = some (.int .i64 2)) ∧
  (W.cell? ⟨s, 0, none⟩ = some (.slice (some ⟨TB, 0, none⟩) 1 1) ∧ W.cell? ⟨t, 0, none⟩ = some (.int .i64 time)) ∧
  (W.cell? ⟨TB, 0, none⟩ = some (.slice A.a A.n A.c) ∧ W.cell? ⟨TB, 1, none⟩ = some (.int .i64 A.d))
theorem check2_any (A : TV) (time : Int) (L p1 q1 q2 s t TB : Nat) (W : World) (hA : A.At W) (h : CK2 W L p1 q1 q2 s t TB A time) :
    Calls Tryz.prog 29 #[.slice (some ⟨L, 0, none⟩) 2 2] W fun e w' => e = .returned (.int .i64 (boxErr A time)) ∧ Below W.heap.size W w' := by
  obtain ⟨⟨l0, l2⟩, ⟨a0, a1⟩, ⟨c0, c1⟩, ⟨s0, t0⟩, ⟨e0, e1⟩⟩ := h
  have hr : ferr (fun i => if i = 0 then A.err else (if outside time A.k A.n then 2 else 0)) 0 2 = boxErr A time := by
    simp only [ferr, boxErr, if_true]
    by_cases hA0 : A.err = 0
    · simp [hA0]
    · simp [hA0]
  rw [← hr]
  refine firstError_any L 2 (fun i => if i = 0 then 63 else 97) (fun i => if i = 0 then #[.pointer (some ⟨p1, 0, none⟩)] else #[.pointer (some ⟨q1, 0, none⟩), .pointer (some ⟨q2, 0, none⟩)])
    (fun i => if i = 0 then A.err else (if outside time A.k A.n then 2 else 0)) W (by omega) (lt_of l0) ?_ ?_ ?_
  · intro i hi
    rcases (by omega : i = 0 ∨ i = 1) with rfl | rfl
    · exact l0
    · exact l2
  · intro i hi
    rcases (by omega : i = 0 ∨ i = 1) with rfl | rfl
    · exact (enters_of Tryz.func63 (by kernel_rfl) rfl)
    · exact (enters_of Tryz.func97 (by kernel_rfl) rfl)
  · intro i w1 hi hz hb
    rcases (by omega : i = 0 ∨ i = 1) with rfl | rfl
    · exact trackCheck1_any A.a A.n A.c p1 A.d w1 A.k hA.2 (hA.below hb).1 (keep hb a0) (keep hb a1)
    · have hA0 : A.err = 0 := hz 0 (by omega)
      obtain ⟨ba, oa, ea, ha⟩ := TV.valid (hA.below hb) hA0
      rw [ea] at e0
      have hc := timeCheck1_any 1 TB s t (fun _ => ⟨ba, oa, A.n, A.c, A.k, A.d⟩) time w1 (by omega) (keep hb s0) (keep hb t0) (lt_of (keep hb e0)) (lt_of (keep hb t0))
        (fun i hi => by
          obtain rfl : i = 0 := by omega
          exact ⟨keep hb e0, keep hb e1⟩)
        (fun i hi => ha)
      have hreq := require1_any q1 q2 65 #[.pointer (some ⟨s, 0, none⟩), .pointer (some ⟨t, 0, none⟩)] 2 _ w1 (keep hb c0) (keep hb c1) (lt_of (keep hb c1)) (enters_of Tryz.func65 (by kernel_rfl) rfl) hc
      refine hreq.mono ?_
      rintro e w' ⟨rfl, hw⟩
      refine ⟨ret_int ?_, hw⟩
      simp [List.range, List.range.loop]
      cases outside time A.k A.n <;> rfl
theorem boxErr_0 {A : TV} {time : Int} (h : boxErr A time = 0) : A.err = 0 ∧ outside time A.k A.n = false := by
  unfold boxErr at h
  by_cases hA : A.err = 0
  · rw [if_pos hA] at h
    cases ho : outside time A.k A.n
    · exact ⟨hA, rfl⟩
    · rw [ho] at h; cases h
  · rw [if_neg hA] at h; exact absurd h hA
set_option maxRecDepth 100000 in
set_option maxHeartbeats 800000 in
theorem side_any (bx bp : Nat) (x y z n d : Int) (ii : Int) (i : Nat) (hi : i < 3) (hii : ii = (i : Int)) (w : World) (x0 : w.cell? ⟨bx, 0, none⟩ = some (.int .i64 x)) (y0 : w.cell? ⟨bx, 1, none⟩ = some (.int .i64 y)) (z0 : w.cell? ⟨bx, 2, none⟩ = some (.int .i64 z)) (n0 : w.cell? ⟨bx, 3, none⟩ = some (.int .i64 n)) (d0 : w.cell? ⟨bp, 1, none⟩ = some (.int .i64 d)) (c : Int) (hc : c = if i = 0 then x else if i = 1 then y else z)
    (n1 : 1 ≤ n) (n2 : n ≤ 10000) (c1 : -10000000000 ≤ c) (c2 : c ≤ 10000000000) (d1 : 0 ≤ d) (d2 : d ≤ 1000) :
    Calls Tryz.prog 33 #[.int .i64 ii, .pointer (some ⟨bx, 0, none⟩), .pointer (some ⟨bp, 0, none⟩)] w fun e w' => e = .returned (.agg #[.int .i64 (c / n - d), .int .i64 (-(-c / n) + d)]) ∧ Below w.heap.size w w' := by
  subst hii
  have q0 : w.cell? ⟨bx, i, none⟩ = some (.int .i64 c) := by
    rw [hc]
    rcases (by omega : i = 0 ∨ i = 1 ∨ i = 2) with rfl | rfl | rfl
    · exact x0
    · exact y0
    · exact z0
  have p1 : (0 : Int) ≤ (i : Int) := by omega
  have p2 : (i : Int) < 3 := by omega
  have f1 := floor_plain c n (by omega)
  have f2 := floor_plain (-c) n (by omega)
  have t1 := tdiv_bd c n (by omega) (by omega) (by omega)
  have t2 := tdiv_bd (-c) n (by omega) (by omega) (by omega)
  have u1 : IntKind.i64.wrap (c / n - d) = c / n - d := IntWalk.i64_in _ (by omega)
  have u2 : IntKind.i64.wrap (-(-c / n) + d) = -(-c / n) + d := IntWalk.i64_in _ (by omega)
  have hb := lt_of q0
  have hb2 := lt_of d0
  clear f1 f2 t1 t2 hc x0 y0 z0
  go_enter Tryz.func33, Tryz.ntmps33
  go_wp2_with fail
  go_region_held3 (fun w' => w'.cell? ⟨bx, i, none⟩ = some (.int .i64 c) ∧ w'.cell? ⟨bx, 3, none⟩ = some (.int .i64 n) ∧ w'.cell? ⟨bp, 1, none⟩ = some (.int .i64 d)) (simp [go_sem, *])
    (first
      | (go_at_call 34; (with_reducible refine Calls.mono (floor_any c n (by omega) (by omega) (by omega) (by omega) _) ?_); rintro e w2 ⟨rfl, rfl⟩)
      | (go_at_call 35; (with_reducible refine Calls.mono (ceiling_any c n (by omega) (by omega) (by omega) (by omega) _) ?_); rintro e w2 ⟨rfl, rfl⟩))
  all_goals
    go_wp2_with fail
    refine bodyPost_ret (v := .agg #[.int .i64 (c / n - d), .int .i64 (-(-c / n) + d)]) (by simp [results, Tryz.results33, go_sem]) rfl ⟨rfl, by (repeat (first | with_reducible exact Below.refl _ _ | with_reducible assumption | with_reducible refine Below.alloc ?_ (by first | (simp; done) | (simp; omega) | omega) _ | with_reducible refine Below.setCell ?_ (by first | (simp; done) | (simp; omega) | omega) _ | with_reducible refine Below.drew ?_ | with_reducible refine below_drewN ?_ _))⟩
def DB (w : World) (sa : Option Addr) (na ca : Nat) (da : Int) (wx : World) : Prop :=
  (Below w.heap.size w wx ∧ w.heap.size + 1 < wx.heap.size) ∧ (wx.cell? ⟨w.heap.size, 0, none⟩ = some (.slice sa na ca) ∧ wx.cell? ⟨w.heap.size, 1, none⟩ = some (.int .i64 da)) ∧
  (wx.cell? ⟨w.heap.size + 1, 0, none⟩ = some (.int .i64 0) ∧ wx.cell? ⟨w.heap.size + 1, 1, none⟩ = some (.int .i64 0) ∧ wx.cell? ⟨w.heap.size + 1, 2, none⟩ = some (.int .i64 0) ∧ wx.cell? ⟨w.heap.size + 1, 3, none⟩ = some (.int .i64 0) ∧ wx.cell? ⟨w.heap.size + 1, 4, none⟩ = some (.int .i64 0) ∧ wx.cell? ⟨w.heap.size + 1, 5, none⟩ = some (.int .i64 0)) ∧
  (wx.frozen? ⟨w.heap.size + 1, 0, none⟩ = false ∧ wx.frozen? ⟨w.heap.size + 1, 1, none⟩ = false ∧ wx.frozen? ⟨w.heap.size + 1, 2, none⟩ = false ∧ wx.frozen? ⟨w.heap.size + 1, 3, none⟩ = false ∧ wx.frozen? ⟨w.heap.size + 1, 4, none⟩ = false ∧ wx.frozen? ⟨w.heap.size + 1, 5, none⟩ = false)
def boxV (p : Plc) (d : Int) : Value := .agg #[.int .i64 (p.x / p.n - d), .int .i64 (-(-p.x / p.n) + d), .int .i64 (p.y / p.n - d), .int .i64 (-(-p.y / p.n) + d), .int .i64 (p.z / p.n - d), .int .i64 (-(-p.z / p.n) + d)]
def SomeBox (A : TV) (time : Int) (w : World) (e : Ending) (w' : World) : Prop :=
  Below w.heap.size w w' ∧ e = .returned (.tuple #[if boxErr A time = 0 then boxV (plc A.k A.n time) A.d else .agg #[.int .i64 0, .int .i64 0, .int .i64 0, .int .i64 0, .int .i64 0, .int .i64 0], .int .i64 (boxErr A time)])
set_option maxRecDepth 100000 in
set_option maxHeartbeats 2000000 in
theorem boxAt_x (sa : Option Addr) (na ca : Nat) (ka : Nat → Knot) (da time : Int) (w : World) (hA : TV.At ⟨sa, na, ca, ka, da⟩ w) :
    Calls Tryz.prog 9 #[.agg #[.slice sa na ca, .int .i64 da], .int .i64 time] w (SomeBox ⟨sa, na, ca, ka, da⟩ time w) := by
  have HA := Lib.hid hA
  clear hA
  go_enter Tryz.func9, Tryz.ntmps9
  go_wp2_with fail
  go_cut [6] (fun s6 wx => s6 = .int .i64 (boxErr ⟨sa, na, ca, ka, da⟩ time) ∧ DB w sa na ca da wx)
  case first =>
    go_region_held3 (fun w' => w'.cell? ⟨w.heap.size, 0, none⟩ = some (.slice sa na ca) ∧ w'.cell? ⟨w.heap.size, 1, none⟩ = some (.int .i64 da)) (simp [go_sem, *])
      (first | (go_at_call 30; (with_reducible refine (trackCheck_any _ _ _ _ _).mono ?_); rintro e w1 ⟨rfl, rfl⟩) | (go_at_call 31; (with_reducible refine (timeCheck_any _ _ _ _ _ rfl _).mono ?_); rintro e w1 ⟨rfl, rfl⟩) | (go_at_call 29; (with_reducible refine Calls.mono (check2_any ⟨sa, na, ca, ka, da⟩ time (w.heap.size + 1 + 1 + 1 + 1 + 1 + 1 + 1 + 1) (w.heap.size + 1 + 1) (w.heap.size + 1 + 1 + 1 + 1 + 1 + 1 + 1) (w.heap.size + 1 + 1 + 1 + 1 + 1 + 1) (w.heap.size + 1 + 1 + 1 + 1 + 1) (w.heap.size + 1 + 1 + 1 + 1) (w.heap.size + 1 + 1 + 1) _ ?_ ?_) ?_); (focus (exact HA.out.below (by (repeat (first | with_reducible exact Below.refl _ _ | with_reducible assumption | with_reducible refine Below.alloc ?_ (by first | (simp; done) | (simp; omega) | omega) _ | with_reducible refine Below.setCell ?_ (by first | (simp; done) | (simp; omega) | omega) _ | with_reducible refine Below.drew ?_ | with_reducible refine below_drewN ?_ _))))); (focus (refine ⟨⟨?_, ?_⟩, ⟨?_, ?_⟩, ⟨?_, ?_⟩, ⟨?_, ?_⟩, ⟨?_, ?_⟩⟩ <;> (simp [go_sem, *]; done))); rintro e w1 ⟨rfl, hb1⟩; go_must (have a0 := (hb1.cell (p := ⟨w.heap.size, 0, none⟩) (by first | (simp; done) | (simp; omega) | omega)).trans (show _ = some (Value.slice sa na ca) by simp [go_sem, *])); go_must (have a1 := (hb1.cell (p := ⟨w.heap.size, 1, none⟩) (by first | (simp; done) | (simp; omega) | omega)).trans (show _ = some (Value.int .i64 da) by simp [go_sem, *])); go_must (have r0 := (hb1.cell (p := ⟨w.heap.size + 1, 0, none⟩) (by first | (simp; done) | (simp; omega) | omega)).trans (show _ = some (Value.int .i64 0) by simp [go_sem, *])); go_must (have r1 := (hb1.cell (p := ⟨w.heap.size + 1, 1, none⟩) (by first | (simp; done) | (simp; omega) | omega)).trans (show _ = some (Value.int .i64 0) by simp [go_sem, *])); go_must (have r2 := (hb1.cell (p := ⟨w.heap.size + 1, 2, none⟩) (by first | (simp; done) | (simp; omega) | omega)).trans (show _ = some (Value.int .i64 0) by simp [go_sem, *])); go_must (have r3 := (hb1.cell (p := ⟨w.heap.size + 1, 3, none⟩) (by first | (simp; done) | (simp; omega) | omega)).trans (show _ = some (Value.int .i64 0) by simp [go_sem, *])); go_must (have r4 := (hb1.cell (p := ⟨w.heap.size + 1, 4, none⟩) (by first | (simp; done) | (simp; omega) | omega)).trans (show _ = some (Value.int .i64 0) by simp [go_sem, *])); go_must (have r5 := (hb1.cell (p := ⟨w.heap.size + 1, 5, none⟩) (by first | (simp; done) | (simp; omega) | omega)).trans (show _ = some (Value.int .i64 0) by simp [go_sem, *])); go_must (have q0 := (hb1.frozen (p := ⟨w.heap.size + 1, 0, none⟩) (by first | (simp; done) | (simp; omega) | omega)).trans (show _ = false by simp [go_sem, *])); go_must (have q1 := (hb1.frozen (p := ⟨w.heap.size + 1, 1, none⟩) (by first | (simp; done) | (simp; omega) | omega)).trans (show _ = false by simp [go_sem, *])); go_must (have q2 := (hb1.frozen (p := ⟨w.heap.size + 1, 2, none⟩) (by first | (simp; done) | (simp; omega) | omega)).trans (show _ = false by simp [go_sem, *])); go_must (have q3 := (hb1.frozen (p := ⟨w.heap.size + 1, 3, none⟩) (by first | (simp; done) | (simp; omega) | omega)).trans (show _ = false by simp [go_sem, *])); go_must (have q4 := (hb1.frozen (p := ⟨w.heap.size + 1, 4, none⟩) (by first | (simp; done) | (simp; omega) | omega)).trans (show _ = false by simp [go_sem, *])); go_must (have q5 := (hb1.frozen (p := ⟨w.heap.size + 1, 5, none⟩) (by first | (simp; done) | (simp; omega) | omega)).trans (show _ = false by simp [go_sem, *])); go_must (have hB1 := thenC (show Below w.heap.size w _ by (repeat (first | with_reducible exact Below.refl _ _ | with_reducible assumption | with_reducible refine Below.alloc ?_ (by first | (simp; done) | (simp; omega) | omega) _ | with_reducible refine Below.setCell ?_ (by first | (simp; done) | (simp; omega) | omega) _ | with_reducible refine Below.drew ?_ | with_reducible refine below_drewN ?_ _))) hb1); go_must (clear hb1)) | (go_at_call 29; (with_reducible refine Calls.mono (check2_any ⟨sa, na, ca, ka, da⟩ time (w.heap.size + 1 + 1 + 1 + 1 + 1 + 1 + 1 + 1) (w.heap.size + 1 + 1 + 1) (w.heap.size + 1 + 1 + 1 + 1 + 1 + 1 + 1) (w.heap.size + 1 + 1 + 1 + 1 + 1 + 1) (w.heap.size + 1 + 1 + 1 + 1 + 1) (w.heap.size + 1 + 1 + 1 + 1) (w.heap.size + 1 + 1) _ ?_ ?_) ?_); (focus (exact HA.out.below (by (repeat (first | with_reducible exact Below.refl _ _ | with_reducible assumption | with_reducible refine Below.alloc ?_ (by first | (simp; done) | (simp; omega) | omega) _ | with_reducible refine Below.setCell ?_ (by first | (simp; done) | (simp; omega) | omega) _ | with_reducible refine Below.drew ?_ | with_reducible refine below_drewN ?_ _))))); (focus (refine ⟨⟨?_, ?_⟩, ⟨?_, ?_⟩, ⟨?_, ?_⟩, ⟨?_, ?_⟩, ⟨?_, ?_⟩⟩ <;> (simp [go_sem, *]; done))); rintro e w1 ⟨rfl, hb1⟩; go_must (have a0 := (hb1.cell (p := ⟨w.heap.size, 0, none⟩) (by first | (simp; done) | (simp; omega) | omega)).trans (show _ = some (Value.slice sa na ca) by simp [go_sem, *])); go_must (have a1 := (hb1.cell (p := ⟨w.heap.size, 1, none⟩) (by first | (simp; done) | (simp; omega) | omega)).trans (show _ = some (Value.int .i64 da) by simp [go_sem, *])); go_must (have r0 := (hb1.cell (p := ⟨w.heap.size + 1, 0, none⟩) (by first | (simp; done) | (simp; omega) | omega)).trans (show _ = some (Value.int .i64 0) by simp [go_sem, *])); go_must (have r1 := (hb1.cell (p := ⟨w.heap.size + 1, 1, none⟩) (by first | (simp; done) | (simp; omega) | omega)).trans (show _ = some (Value.int .i64 0) by simp [go_sem, *])); go_must (have r2 := (hb1.cell (p := ⟨w.heap.size + 1, 2, none⟩) (by first | (simp; done) | (simp; omega) | omega)).trans (show _ = some (Value.int .i64 0) by simp [go_sem, *])); go_must (have r3 := (hb1.cell (p := ⟨w.heap.size + 1, 3, none⟩) (by first | (simp; done) | (simp; omega) | omega)).trans (show _ = some (Value.int .i64 0) by simp [go_sem, *])); go_must (have r4 := (hb1.cell (p := ⟨w.heap.size + 1, 4, none⟩) (by first | (simp; done) | (simp; omega) | omega)).trans (show _ = some (Value.int .i64 0) by simp [go_sem, *])); go_must (have r5 := (hb1.cell (p := ⟨w.heap.size + 1, 5, none⟩) (by first | (simp; done) | (simp; omega) | omega)).trans (show _ = some (Value.int .i64 0) by simp [go_sem, *])); go_must (have q0 := (hb1.frozen (p := ⟨w.heap.size + 1, 0, none⟩) (by first | (simp; done) | (simp; omega) | omega)).trans (show _ = false by simp [go_sem, *])); go_must (have q1 := (hb1.frozen (p := ⟨w.heap.size + 1, 1, none⟩) (by first | (simp; done) | (simp; omega) | omega)).trans (show _ = false by simp [go_sem, *])); go_must (have q2 := (hb1.frozen (p := ⟨w.heap.size + 1, 2, none⟩) (by first | (simp; done) | (simp; omega) | omega)).trans (show _ = false by simp [go_sem, *])); go_must (have q3 := (hb1.frozen (p := ⟨w.heap.size + 1, 3, none⟩) (by first | (simp; done) | (simp; omega) | omega)).trans (show _ = false by simp [go_sem, *])); go_must (have q4 := (hb1.frozen (p := ⟨w.heap.size + 1, 4, none⟩) (by first | (simp; done) | (simp; omega) | omega)).trans (show _ = false by simp [go_sem, *])); go_must (have q5 := (hb1.frozen (p := ⟨w.heap.size + 1, 5, none⟩) (by first | (simp; done) | (simp; omega) | omega)).trans (show _ = false by simp [go_sem, *])); go_must (have hB1 := thenC (show Below w.heap.size w _ by (repeat (first | with_reducible exact Below.refl _ _ | with_reducible assumption | with_reducible refine Below.alloc ?_ (by first | (simp; done) | (simp; omega) | omega) _ | with_reducible refine Below.setCell ?_ (by first | (simp; done) | (simp; omega) | omega) _ | with_reducible refine Below.drew ?_ | with_reducible refine below_drewN ?_ _))) hb1); go_must (clear hb1)))
    all_goals
      go_wp2_with fail
      go_meet
      case rel =>
        refine ⟨rfl, ⟨?_, ?_⟩, ⟨?_, ?_⟩, ⟨?_, ?_, ?_, ?_, ?_, ?_⟩, ⟨?_, ?_, ?_, ?_, ?_, ?_⟩⟩
        all_goals first | omega | (exact lt_of r0) | (simp [go_sem, *]; done) | (repeat (first | with_reducible exact Below.refl _ _ | with_reducible assumption | with_reducible refine Below.alloc ?_ (by first | (simp; done) | (simp; omega) | omega) _ | with_reducible refine Below.setCell ?_ (by first | (simp; done) | (simp; omega) | omega) _ | with_reducible refine Below.drew ?_ | with_reducible refine below_drewN ?_ _))
  case rest =>
    obtain ⟨rfl, ⟨p1, p2⟩, ⟨a0, a1⟩, ⟨r0, r1, r2, r3, r4, r5⟩, ⟨q0, q1, q2, q3, q4, q5⟩⟩ := hcut
    by_cases hE : boxErr ⟨sa, na, ca, ka, da⟩ time = 0
    · obtain ⟨eA, oA⟩ := boxErr_0 hE
      obtain ⟨ba, oa, ea, hta⟩ := TV.valid HA.out eA
      simp only at ea
      subst ea
      have hP := plc_ok (k := ka) (n := na) (d := da) (time := time) eA oA
      have hd := (valid_of (k := ka) (n := na) (d := da) eA).2.2.2
      have HPL := fun W (hW : Below w.heap.size w W) => Lib.hid (placeAt_any ba oa na ca da time W ka (hta.below hW).2.2 eA oA)
      have HS : Hid (∀ e w', Below w.heap.size w w' → e = .returned (.tuple #[boxV (plc ka na time) da, .int .i64 0]) → SomeBox ⟨some ⟨ba, oa, none⟩, na, ca, ka, da⟩ time w e w') := fun e w' h1 h2 => ⟨h1, by rw [h2, if_pos hE, hE]⟩
      rw [hE]
      clear hE HA hta eA oA
      unfold boxV at HS
      obtain ⟨⟨n1, n2⟩, ⟨x1, x2⟩, ⟨y1, y2⟩, ⟨z1, z2⟩⟩ := hP
      generalize plc ka na time = p at *
      obtain ⟨px, py, pz, pn⟩ := p
      simp only at *
      obtain ⟨d1, d2⟩ := hd
      go_wp2_with (first
        | (go_at_call 32; (with_reducible refine Calls.mono (HPL _ (by (repeat (first | with_reducible exact Below.refl _ _ | with_reducible assumption | with_reducible refine Below.alloc ?_ (by first | (simp; done) | (simp; omega) | omega) _ | with_reducible refine Below.setCell ?_ (by first | (simp; done) | (simp; omega) | omega) _ | with_reducible refine Below.drew ?_ | with_reducible refine below_drewN ?_ _)))).out ?_); rintro e w2 ⟨rfl, hb2⟩; have B2 := thenC p1 hb2; have Bz := B2.size; have Aa0 := keep hb2 a0; have Aa1 := keep hb2 a1; have Ar0 := keep hb2 r0; have Ar1 := keep hb2 r1; have Ar2 := keep hb2 r2; have Ar3 := keep hb2 r3; have Ar4 := keep hb2 r4; have Ar5 := keep hb2 r5; have Aq0 := (hb2.frozen (p := ⟨w.heap.size + 1, 0, none⟩) (by show w.heap.size + 1 < _; exact lt_of r0)).trans q0; have Aq1 := (hb2.frozen (p := ⟨w.heap.size + 1, 1, none⟩) (by show w.heap.size + 1 < _; exact lt_of r0)).trans q1; have Aq2 := (hb2.frozen (p := ⟨w.heap.size + 1, 2, none⟩) (by show w.heap.size + 1 < _; exact lt_of r0)).trans q2; have Aq3 := (hb2.frozen (p := ⟨w.heap.size + 1, 3, none⟩) (by show w.heap.size + 1 < _; exact lt_of r0)).trans q3; have Aq4 := (hb2.frozen (p := ⟨w.heap.size + 1, 4, none⟩) (by show w.heap.size + 1 < _; exact lt_of r0)).trans q4; have Aq5 := (hb2.frozen (p := ⟨w.heap.size + 1, 5, none⟩) (by show w.heap.size + 1 < _; exact lt_of r0)).trans q5; have Za0 := keepC (.cells #[.int .i64 px, .int .i64 py, .int .i64 pz, .int .i64 pn] 75) Aa0; have Za1 := keepC (.cells #[.int .i64 px, .int .i64 py, .int .i64 pz, .int .i64 pn] 75) Aa1; have Zr0 := keepC (.cells #[.int .i64 px, .int .i64 py, .int .i64 pz, .int .i64 pn] 75) Ar0; have Zr1 := keepC (.cells #[.int .i64 px, .int .i64 py, .int .i64 pz, .int .i64 pn] 75) Ar1; have Zr2 := keepC (.cells #[.int .i64 px, .int .i64 py, .int .i64 pz, .int .i64 pn] 75) Ar2; have Zr3 := keepC (.cells #[.int .i64 px, .int .i64 py, .int .i64 pz, .int .i64 pn] 75) Ar3; have Zr4 := keepC (.cells #[.int .i64 px, .int .i64 py, .int .i64 pz, .int .i64 pn] 75) Ar4; have Zr5 := keepC (.cells #[.int .i64 px, .int .i64 py, .int .i64 pz, .int .i64 pn] 75) Ar5; have Zq0 := (fro1 (p1 := .cells #[.int .i64 px, .int .i64 py, .int .i64 pz, .int .i64 pn] 75) (by rw [Ar0]; rfl)).trans Aq0; have Zq1 := (fro1 (p1 := .cells #[.int .i64 px, .int .i64 py, .int .i64 pz, .int .i64 pn] 75) (by rw [Ar1]; rfl)).trans Aq1; have Zq2 := (fro1 (p1 := .cells #[.int .i64 px, .int .i64 py, .int .i64 pz, .int .i64 pn] 75) (by rw [Ar2]; rfl)).trans Aq2; have Zq3 := (fro1 (p1 := .cells #[.int .i64 px, .int .i64 py, .int .i64 pz, .int .i64 pn] 75) (by rw [Ar3]; rfl)).trans Aq3; have Zq4 := (fro1 (p1 := .cells #[.int .i64 px, .int .i64 py, .int .i64 pz, .int .i64 pn] 75) (by rw [Ar4]; rfl)).trans Aq4; have Zq5 := (fro1 (p1 := .cells #[.int .i64 px, .int .i64 py, .int .i64 pz, .int .i64 pn] 75) (by rw [Ar5]; rfl)).trans Aq5)
        | (go_at_call 33; (with_reducible refine Calls.mono (side_any w2.heap.size w.heap.size px py pz pn da 0 0 (by omega) rfl _ (by simp [go_sem]) (by simp [go_sem]) (by simp [go_sem]) (by simp [go_sem]) Za1 px rfl n1 n2 x1 x2 d1 d2) ?_); rintro e w3 ⟨rfl, hb3⟩; have B3 := thenC (show Below w.heap.size w _ by (repeat (first | with_reducible exact Below.refl _ _ | with_reducible assumption | with_reducible refine Below.alloc ?_ (by first | (simp; done) | (simp; omega) | omega) _ | with_reducible refine Below.setCell ?_ (by first | (simp; done) | (simp; omega) | omega) _ | with_reducible refine Below.drew ?_ | with_reducible refine below_drewN ?_ _))) hb3; have Ba0 := keep hb3 Za0; have Ba1 := keep hb3 Za1; have Br0 := keep hb3 Zr0; have Br1 := keep hb3 Zr1; have Br2 := keep hb3 Zr2; have Br3 := keep hb3 Zr3; have Br4 := keep hb3 Zr4; have Br5 := keep hb3 Zr5; have Bq0 := (hb3.frozen (p := ⟨w.heap.size + 1, 0, none⟩) (by show w.heap.size + 1 < _; exact lt_of Zr0)).trans Zq0; have Bq1 := (hb3.frozen (p := ⟨w.heap.size + 1, 1, none⟩) (by show w.heap.size + 1 < _; exact lt_of Zr0)).trans Zq1; have Bq2 := (hb3.frozen (p := ⟨w.heap.size + 1, 2, none⟩) (by show w.heap.size + 1 < _; exact lt_of Zr0)).trans Zq2; have Bq3 := (hb3.frozen (p := ⟨w.heap.size + 1, 3, none⟩) (by show w.heap.size + 1 < _; exact lt_of Zr0)).trans Zq3; have Bq4 := (hb3.frozen (p := ⟨w.heap.size + 1, 4, none⟩) (by show w.heap.size + 1 < _; exact lt_of Zr0)).trans Zq4; have Bq5 := (hb3.frozen (p := ⟨w.heap.size + 1, 5, none⟩) (by show w.heap.size + 1 < _; exact lt_of Zr0)).trans Zq5; have Bx0 := (hb3.cell (p := ⟨w2.heap.size, 0, none⟩) (by first | (simp; done) | (simp; omega) | omega)).trans (show _ = some (.int .i64 px) by simp [go_sem]); have Bx1 := (hb3.cell (p := ⟨w2.heap.size, 1, none⟩) (by first | (simp; done) | (simp; omega) | omega)).trans (show _ = some (.int .i64 py) by simp [go_sem]); have Bx2 := (hb3.cell (p := ⟨w2.heap.size, 2, none⟩) (by first | (simp; done) | (simp; omega) | omega)).trans (show _ = some (.int .i64 pz) by simp [go_sem]); have Bx3 := (hb3.cell (p := ⟨w2.heap.size, 3, none⟩) (by first | (simp; done) | (simp; omega) | omega)).trans (show _ = some (.int .i64 pn) by simp [go_sem]))
        | (go_at_call 33; (with_reducible refine Calls.mono (side_any w2.heap.size w.heap.size px py pz pn da 1 1 (by omega) rfl _ Bx0 Bx1 Bx2 Bx3 Ba1 py rfl n1 n2 y1 y2 d1 d2) ?_); rintro e w4 ⟨rfl, hb4⟩; have B4 := thenC B3 hb4; have Ca0 := keep hb4 Ba0; have Ca1 := keep hb4 Ba1; have Cr0 := keep hb4 Br0; have Cr1 := keep hb4 Br1; have Cr2 := keep hb4 Br2; have Cr3 := keep hb4 Br3; have Cr4 := keep hb4 Br4; have Cr5 := keep hb4 Br5; have Cx0 := keep hb4 Bx0; have Cx1 := keep hb4 Bx1; have Cx2 := keep hb4 Bx2; have Cx3 := keep hb4 Bx3; have Cq0 := (hb4.frozen (p := ⟨w.heap.size + 1, 0, none⟩) (by show w.heap.size + 1 < _; exact lt_of Br0)).trans Bq0; have Cq1 := (hb4.frozen (p := ⟨w.heap.size + 1, 1, none⟩) (by show w.heap.size + 1 < _; exact lt_of Br0)).trans Bq1; have Cq2 := (hb4.frozen (p := ⟨w.heap.size + 1, 2, none⟩) (by show w.heap.size + 1 < _; exact lt_of Br0)).trans Bq2; have Cq3 := (hb4.frozen (p := ⟨w.heap.size + 1, 3, none⟩) (by show w.heap.size + 1 < _; exact lt_of Br0)).trans Bq3; have Cq4 := (hb4.frozen (p := ⟨w.heap.size + 1, 4, none⟩) (by show w.heap.size + 1 < _; exact lt_of Br0)).trans Bq4; have Cq5 := (hb4.frozen (p := ⟨w.heap.size + 1, 5, none⟩) (by show w.heap.size + 1 < _; exact lt_of Br0)).trans Bq5)
        | (go_at_call 33; (with_reducible refine Calls.mono (side_any w2.heap.size w.heap.size px py pz pn da 2 2 (by omega) rfl _ Cx0 Cx1 Cx2 Cx3 Ca1 pz rfl n1 n2 z1 z2 d1 d2) ?_); rintro e w5 ⟨rfl, hb5⟩; have B5 := thenC B4 hb5; have Da0 := keep hb5 Ca0; have Da1 := keep hb5 Ca1; have Dr0 := keep hb5 Cr0; have Dr1 := keep hb5 Cr1; have Dr2 := keep hb5 Cr2; have Dr3 := keep hb5 Cr3; have Dr4 := keep hb5 Cr4; have Dr5 := keep hb5 Cr5; have Dx0 := keep hb5 Cx0; have Dx1 := keep hb5 Cx1; have Dx2 := keep hb5 Cx2; have Dx3 := keep hb5 Cx3; have Dq0 := (hb5.frozen (p := ⟨w.heap.size + 1, 0, none⟩) (by show w.heap.size + 1 < _; exact lt_of Cr0)).trans Cq0; have Dq1 := (hb5.frozen (p := ⟨w.heap.size + 1, 1, none⟩) (by show w.heap.size + 1 < _; exact lt_of Cr0)).trans Cq1; have Dq2 := (hb5.frozen (p := ⟨w.heap.size + 1, 2, none⟩) (by show w.heap.size + 1 < _; exact lt_of Cr0)).trans Cq2; have Dq3 := (hb5.frozen (p := ⟨w.heap.size + 1, 3, none⟩) (by show w.heap.size + 1 < _; exact lt_of Cr0)).trans Cq3; have Dq4 := (hb5.frozen (p := ⟨w.heap.size + 1, 4, none⟩) (by show w.heap.size + 1 < _; exact lt_of Cr0)).trans Cq4; have Dq5 := (hb5.frozen (p := ⟨w.heap.size + 1, 5, none⟩) (by show w.heap.size + 1 < _; exact lt_of Cr0)).trans Cq5))
      refine bodyPost_ret (v := .tuple #[.agg #[.int .i64 (px / pn - da), .int .i64 (-(-px / pn) + da), .int .i64 (py / pn - da), .int .i64 (-(-py / pn) + da), .int .i64 (pz / pn - da), .int .i64 (-(-pz / pn) + da)], .int .i64 0]) (by simp [results, Tryz.results9, go_sem, Dr0, Dr1, Dr2, Dr3, Dr4, Dr5]) rfl (HS.out _ _ ?_ rfl)
      have hws : w.heap.size ≤ w.heap.size + 1 := by omega
      (repeat (first | with_reducible exact Below.refl _ _ | with_reducible assumption | with_reducible refine Below.alloc ?_ (by first | (simp; done) | (simp; omega) | omega) _ | with_reducible refine Below.setCell ?_ (by first | (simp; done) | (simp; omega) | omega) _ | with_reducible refine Below.drew ?_ | with_reducible refine below_drewN ?_ _))
    · have hq : (boxErr ⟨sa, na, ca, ka, da⟩ time != 0) = true := by simpa using hE
      have hE2 : ¬ boxErr ⟨sa, na, ca, ka, da⟩ time = 0 := hE
      have HE := Lib.hid hE
      clear hE
      go_wp2_with fail
      refine bodyPost_ret (v := .tuple #[.agg #[.int .i64 0, .int .i64 0, .int .i64 0, .int .i64 0, .int .i64 0, .int .i64 0], .int .i64 (boxErr ⟨sa, na, ca, ka, da⟩ time)]) (by simp [results, Tryz.results9, go_sem, r0, r1, r2, r3, r4, r5]) rfl ⟨?_, ?_⟩
      · (repeat (first | with_reducible exact Below.refl _ _ | with_reducible assumption | with_reducible refine Below.alloc ?_ (by first | (simp; done) | (simp; omega) | omega) _ | with_reducible refine Below.setCell ?_ (by first | (simp; done) | (simp; omega) | omega) _ | with_reducible refine Below.drew ?_ | with_reducible refine below_drewN ?_ _))
      · rw [if_neg hE2]
end Go.Proofs.YtjncjoaohonmjaaGreat
