/- Helpers: whether a signal has surely arrived, or surely not (the document's own). -/
import Derived.Test.YtnfoagcpgegldaaGreatB26
import Derived.Test.YtnfoagcpgegldaaGreatB13
import Derived.Test.YtnfoagcpgegldaaGreatB17
import Derived.Test.YtnfoagcpgegldaaGreatB18
namespace Go.Proofs.YtnfoagcpgegldaaGreat
open Go.RowKit Go.Shelf Go.Sort
attribute [local go_sem] idx3_0 idx3_1 idx3_2 old1 fro1 old2 fro2 old3 fro3 old4 fro4 old5 fro5 old6 fro6 old7 fro7 old8 fro8 old9 fro9 old10 fro10 old11 fro11 old12 fro12
theorem sq_bounds {W : World} {A B : Trk} {s r : Int} (hA : VT W A s) (hB : VT W B r) : (0 ≤ sqN A B s r ∧ sqN A B s r < bp 50) ∧ (0 ≤ sqF A B s r ∧ sqF A B s r < bp 50) := by
  obtain ⟨n, x, y, z, d⟩ := v_bd (f := A.p s) (t := B.p r) (plc_ok hA.2.1 hA.2.2) (plc_ok hB.2.1 hB.2.2) (valid_of hA.2.1).2.2.2 (valid_of hB.2.1).2.2.2
  exact ⟨nsum_b (by have := nr_bd x.1 x.2 d.1; omega) (by have := nr_bd y.1 y.2 d.1; omega) (by have := nr_bd z.1 z.2 d.1; omega) 3, nsum_b (fr_bd x.1 x.2 d.1 d.2) (fr_bd y.1 y.2 d.1 d.2) (fr_bd z.1 z.2 d.1 d.2) 3⟩
set_option maxRecDepth 100000 in
set_option maxHeartbeats 4000000 in
theorem rarrived_any (W : World) (A B : Trk) (s r : Int) (hA : VT W A s) (hB : VT W B r) (hsr : s ≤ r) (hr : r - s ≤ 20000000000) :
    Calls Tryz.prog 28 #[.agg #[A.v, .int .i64 A.d], .agg #[B.v, .int .i64 B.d], .int .i64 s, .int .i64 r] W fun e w' => e = .returned (.bool (arrB A B s r)) ∧ Below W.heap.size W w' := by
  have HSQ' := fun w1 a b => Lib.hid (squares_any w1 A B s r a b)
  unfold Trk.v at HSQ' ⊢
  have hv := v_bd (f := A.p s) (t := B.p r) (plc_ok hA.2.1 hA.2.2) (plc_ok hB.2.1 hB.2.2) (valid_of hA.2.1).2.2.2 (valid_of hB.2.1).2.2.2
  have tA := time_bd hA.2
  have tB := time_bd hB.2
  have hN := sq_bounds hA hB
  have nv := hv.1
  have x0 : 0 ≤ (r - s) * vn (A.p s) (B.p r) := Int.mul_nonneg (by omega) (by omega)
  have x1 : (r - s) * vn (A.p s) (B.p r) ≤ 20000000000 * 100000000 := Int.mul_le_mul hr nv.2 (by omega) (by omega)
  have u1 : IntKind.i64.wrap (r - s) = r - s := IntWalk.i64_in _ (by omega)
  have u2 : IntKind.i64.wrap ((r - s) * vn (A.p s) (B.p r)) = (r - s) * vn (A.p s) (B.p r) := IntWalk.i64_in _ (by omega)
  have HC : ∀ Aq cq, Hid _ := fun Aq cq => Lib.hid (cmp_sq ((r - s) * vn (A.p s) (B.p r)) (sqF A B s r) Aq cq x0 (by omega) (by rw [siz_p hN.2.1]; exact hN.2.2))
  rw [siz_p hN.2.1] at HC
  have hb : arrB A B s r = decide (0 ≤ sgn ((r - s) * vn (A.p s) (B.p r) * ((r - s) * vn (A.p s) (B.p r)) - sqF A B s r)) := by
    have := @sgn_le ((r - s) * vn (A.p s) (B.p r) * ((r - s) * vn (A.p s) (B.p r)) - sqF A B s r)
    have h2 := @sgn_le (-((r - s) * vn (A.p s) (B.p r) * ((r - s) * vn (A.p s) (B.p r)) - sqF A B s r))
    rw [sgn_neg] at h2
    unfold arrB
    rw [Bool.eq_iff_iff]
    simp only [Bool.not_eq_true', decide_eq_false_iff_not, decide_eq_true_eq]
    omega
  have HB' := Lib.hid hb
  have HA := Lib.hid hA
  have HB := Lib.hid hB
  clear hb hA hB hv hN nv tA tB x0 x1
  unfold SomeSq at HSQ'
  generalize vn (A.p s) (B.p r) = n at *
  generalize hF : sqF A B s r = F at *
  generalize hNN : sqN A B s r = NN at *
  clear hF hNN
  generalize (r - s) * n * ((r - s) * n) = X at *
  generalize hv : sgn (X - F) = v at *
  clear hv
  generalize sgn X = sx at *
  generalize ln X = lx at *
  generalize sgn F = sF at *
  generalize ln F = lF at *
  generalize sgn NN = sN at *
  generalize ln NN = lN at *
  go_enter Tryz.func28, Tryz.ntmps28
  go_wp2_with (first
    | (go_at_call 60; (with_reducible refine Calls.mono (HSQ' _ (HA.out.below (show Below W.heap.size W _ by (repeat (first | with_reducible exact Below.refl _ _ | with_reducible assumption | with_reducible refine Below.alloc ?_ (by first | (simp; done) | (simp; omega) | omega) _ | with_reducible refine Below.setCell ?_ (by first | (simp; done) | (simp; omega) | omega) _ | with_reducible refine Below.drew ?_ | with_reducible refine below_drewN ?_ _)))) (HB.out.below (show Below W.heap.size W _ by (repeat (first | with_reducible exact Below.refl _ _ | with_reducible assumption | with_reducible refine Below.alloc ?_ (by first | (simp; done) | (simp; omega) | omega) _ | with_reducible refine Below.setCell ?_ (by first | (simp; done) | (simp; omega) | omega) _ | with_reducible refine Below.drew ?_ | with_reducible refine below_drewN ?_ _))))).out ?_); rintro e w1 ⟨A1, c1, A2, c2, rfl, hd1, hd2, hb1⟩; have B1 := Lib.hid (thenD (show Below W.heap.size W _ by (repeat (first | with_reducible exact Below.refl _ _ | with_reducible assumption | with_reducible refine Below.alloc ?_ (by first | (simp; done) | (simp; omega) | omega) _ | with_reducible refine Below.setCell ?_ (by first | (simp; done) | (simp; omega) | omega) _ | with_reducible refine Below.drew ?_ | with_reducible refine below_drewN ?_ _))) hb1); have HD1 := Lib.hid hd1; have HD2 := Lib.hid hd2; clear hb1 hd1 hd2)
    | fail)
  have n1 : w1.heap.size ≠ w1.heap.size + 1 := by omega
  have n2 := n1.symm
  obtain ⟨HSQ, HCM⟩ := (HC A2 c2).out
  clear HC
  go_region_held3 (fun w' => w'.cell? ⟨w1.heap.size + 1, 0, none⟩ = some (.int .i64 sF) ∧ w'.cell? ⟨w1.heap.size + 1, 1, none⟩ = some (.slice A2 lF c2)) (simp [go_sem, *])
    (first
      | (go_at_call 75; (with_reducible refine Calls.mono (HSQ _).out ?_); rintro e y1 ⟨A3, c3, rfl, hd3, hb3⟩; have Y1 := Lib.hid (thenD (show Below w1.heap.size w1 _ by (repeat (first | with_reducible exact Below.refl _ _ | with_reducible assumption | with_reducible refine Below.alloc ?_ (by first | (simp; done) | (simp; omega) | omega) _ | with_reducible refine Below.setCell ?_ (by first | (simp; done) | (simp; omega) | omega) _ | with_reducible refine Below.drew ?_ | with_reducible refine below_drewN ?_ _))) hb3); have HD3 := Lib.hid hd3; have q0 := (hb3.cell (p := ⟨w1.heap.size + 1, 0, none⟩) (by first | (simp; done) | (simp; omega) | omega)).trans (show _ = some (.int .i64 sF) by simp [go_sem, *]); have q1 := (hb3.cell (p := ⟨w1.heap.size + 1, 1, none⟩) (by first | (simp; done) | (simp; omega) | omega)).trans (show _ = some (.slice A2 lF c2) by simp [go_sem, *]); clear hd3 hb3)
      | (go_at_call 74; (with_reducible refine Calls.mono (HCM _ A3 c3 HD3.out (HD2.out.below Y1.out)).out ?_); rintro e y2 ⟨rfl, hb4⟩; have Y2 := Lib.hid (thenD Y1.out hb4); have t0 := keep hb4 q0; have t1 := keep hb4 q1; clear hb4)
      | fail)
  all_goals
    go_wp2_with fail
    go_ret
    exact ⟨ret_bool HB'.out.symm, thenD B1.out Y2.out⟩
set_option maxRecDepth 100000 in
set_option maxHeartbeats 4000000 in
theorem raway_any (W : World) (A B : Trk) (s r : Int) (hA : VT W A s) (hB : VT W B r) (hsr : s ≤ r) (hr : r - s ≤ 20000000000) :
    Calls Tryz.prog 29 #[.agg #[A.v, .int .i64 A.d], .agg #[B.v, .int .i64 B.d], .int .i64 s, .int .i64 r] W fun e w' => e = .returned (.bool (awayB A B s r)) ∧ Below W.heap.size W w' := by
  have HSQ' := fun w1 a b => Lib.hid (squares_any w1 A B s r a b)
  unfold Trk.v at HSQ' ⊢
  have hv := v_bd (f := A.p s) (t := B.p r) (plc_ok hA.2.1 hA.2.2) (plc_ok hB.2.1 hB.2.2) (valid_of hA.2.1).2.2.2 (valid_of hB.2.1).2.2.2
  have tA := time_bd hA.2
  have tB := time_bd hB.2
  have hN := sq_bounds hA hB
  have nv := hv.1
  have x0 : 0 ≤ (r - s) * vn (A.p s) (B.p r) := Int.mul_nonneg (by omega) (by omega)
  have x1 : (r - s) * vn (A.p s) (B.p r) ≤ 20000000000 * 100000000 := Int.mul_le_mul hr nv.2 (by omega) (by omega)
  have u1 : IntKind.i64.wrap (r - s) = r - s := IntWalk.i64_in _ (by omega)
  have u2 : IntKind.i64.wrap ((r - s) * vn (A.p s) (B.p r)) = (r - s) * vn (A.p s) (B.p r) := IntWalk.i64_in _ (by omega)
  have HC : ∀ Aq cq, Hid _ := fun Aq cq => Lib.hid (cmp_sq ((r - s) * vn (A.p s) (B.p r)) (sqN A B s r) Aq cq x0 (by omega) (by rw [siz_p hN.1.1]; exact hN.1.2))
  rw [siz_p hN.1.1] at HC
  have hb : awayB A B s r = decide (sgn ((r - s) * vn (A.p s) (B.p r) * ((r - s) * vn (A.p s) (B.p r)) - sqN A B s r) < 0) := by
    have := @sgn_le ((r - s) * vn (A.p s) (B.p r) * ((r - s) * vn (A.p s) (B.p r)) - sqN A B s r)
    have h2 := @sgn_le (-((r - s) * vn (A.p s) (B.p r) * ((r - s) * vn (A.p s) (B.p r)) - sqN A B s r))
    rw [sgn_neg] at h2
    unfold awayB
    rw [Bool.eq_iff_iff]
    simp only [decide_eq_true_eq]
    omega
  have HB' := Lib.hid hb
  have HA := Lib.hid hA
  have HB := Lib.hid hB
  clear hb hA hB hv hN nv tA tB x0 x1
  unfold SomeSq at HSQ'
  generalize vn (A.p s) (B.p r) = n at *
  generalize hF : sqF A B s r = F at *
  generalize hNN : sqN A B s r = NN at *
  clear hF hNN
  generalize (r - s) * n * ((r - s) * n) = X at *
  generalize hv : sgn (X - NN) = v at *
  clear hv
  generalize sgn X = sx at *
  generalize ln X = lx at *
  generalize sgn F = sF at *
  generalize ln F = lF at *
  generalize sgn NN = sN at *
  generalize ln NN = lN at *
  go_enter Tryz.func29, Tryz.ntmps29
  go_wp2_with (first
    | (go_at_call 60; (with_reducible refine Calls.mono (HSQ' _ (HA.out.below (show Below W.heap.size W _ by (repeat (first | with_reducible exact Below.refl _ _ | with_reducible assumption | with_reducible refine Below.alloc ?_ (by first | (simp; done) | (simp; omega) | omega) _ | with_reducible refine Below.setCell ?_ (by first | (simp; done) | (simp; omega) | omega) _ | with_reducible refine Below.drew ?_ | with_reducible refine below_drewN ?_ _)))) (HB.out.below (show Below W.heap.size W _ by (repeat (first | with_reducible exact Below.refl _ _ | with_reducible assumption | with_reducible refine Below.alloc ?_ (by first | (simp; done) | (simp; omega) | omega) _ | with_reducible refine Below.setCell ?_ (by first | (simp; done) | (simp; omega) | omega) _ | with_reducible refine Below.drew ?_ | with_reducible refine below_drewN ?_ _))))).out ?_); rintro e w1 ⟨A1, c1, A2, c2, rfl, hd1, hd2, hb1⟩; have B1 := Lib.hid (thenD (show Below W.heap.size W _ by (repeat (first | with_reducible exact Below.refl _ _ | with_reducible assumption | with_reducible refine Below.alloc ?_ (by first | (simp; done) | (simp; omega) | omega) _ | with_reducible refine Below.setCell ?_ (by first | (simp; done) | (simp; omega) | omega) _ | with_reducible refine Below.drew ?_ | with_reducible refine below_drewN ?_ _))) hb1); have HD1 := Lib.hid hd1; have HD2 := Lib.hid hd2; clear hb1 hd1 hd2)
    | fail)
  have n1 : w1.heap.size ≠ w1.heap.size + 1 := by omega
  have n2 := n1.symm
  obtain ⟨HSQ, HCM⟩ := (HC A1 c1).out
  clear HC
  go_region_held3 (fun w' => w'.cell? ⟨w1.heap.size, 0, none⟩ = some (.int .i64 sN) ∧ w'.cell? ⟨w1.heap.size, 1, none⟩ = some (.slice A1 lN c1)) (simp [go_sem, *])
    (first
      | (go_at_call 75; (with_reducible refine Calls.mono (HSQ _).out ?_); rintro e y1 ⟨A3, c3, rfl, hd3, hb3⟩; have Y1 := Lib.hid (thenD (show Below w1.heap.size w1 _ by (repeat (first | with_reducible exact Below.refl _ _ | with_reducible assumption | with_reducible refine Below.alloc ?_ (by first | (simp; done) | (simp; omega) | omega) _ | with_reducible refine Below.setCell ?_ (by first | (simp; done) | (simp; omega) | omega) _ | with_reducible refine Below.drew ?_ | with_reducible refine below_drewN ?_ _))) hb3); have HD3 := Lib.hid hd3; have q0 := (hb3.cell (p := ⟨w1.heap.size, 0, none⟩) (by first | (simp; done) | (simp; omega) | omega)).trans (show _ = some (.int .i64 sN) by simp [go_sem, *]); have q1 := (hb3.cell (p := ⟨w1.heap.size, 1, none⟩) (by first | (simp; done) | (simp; omega) | omega)).trans (show _ = some (.slice A1 lN c1) by simp [go_sem, *]); clear hd3 hb3)
      | (go_at_call 74; (with_reducible refine Calls.mono (HCM _ A3 c3 HD3.out (HD1.out.below Y1.out)).out ?_); rintro e y2 ⟨rfl, hb4⟩; have Y2 := Lib.hid (thenD Y1.out hb4); have t0 := keep hb4 q0; have t1 := keep hb4 q1; clear hb4)
      | fail)
  all_goals
    go_wp2_with fail
    go_ret
    exact ⟨ret_bool HB'.out.symm, thenD B1.out Y2.out⟩
end Go.Proofs.YtnfoagcpgegldaaGreat
namespace Go.Proofs.YtnfoagcpgegldaaGreat
open Go.RowKit Go.Shelf Go.Sort
attribute [local go_sem] idx3_0 idx3_1 idx3_2 old1 fro1 old2 fro2 old3 fro3 old4 fro4 old5 fro5 old6 fro6 old7 fro7 old8 fro8 old9 fro9 old10 fro10 old11 fro11 old12 fro12
theorem lin_rel {a b u v : Int} (ha : -1000000 ≤ a ∧ a ≤ 1000000) (hb : -1000000 ≤ b ∧ b ≤ 1000000) (hu : 0 ≤ u) (hv : 0 ≤ v) : -(1000000 * (u + v)) ≤ a * u + b * v ∧ a * u + b * v ≤ 1000000 * (u + v) := by
  have h1 := Int.mul_le_mul_of_nonneg_right ha.1 hu
  have h2 := Int.mul_le_mul_of_nonneg_right ha.2 hu
  have h3 := Int.mul_le_mul_of_nonneg_right hb.1 hv
  have h4 := Int.mul_le_mul_of_nonneg_right hb.2 hv
  omega
def Rel (p : Plc) : Prop := (-(1000000 * p.n) ≤ p.x ∧ p.x ≤ 1000000 * p.n) ∧ (-(1000000 * p.n) ≤ p.y ∧ p.y ≤ 1000000 * p.n) ∧ (-(1000000 * p.n) ≤ p.z ∧ p.z ≤ 1000000 * p.n)
theorem plc_rel {k : Nat → Knot} {n : Nat} {d time : Int} (hv : ctErr k n d = 0) (h : outside time k n = false) : Rel (plc k n time) := by
  obtain ⟨hn, hn2, hk, hd⟩ := valid_of hv
  obtain ⟨m1, m2, m3, m4⟩ := mIdx_spec hn h
  unfold plc
  generalize mIdx k n time = m at *
  obtain ⟨ot, ox, oy, oz⟩ := knotErr_ok (hk m m1)
  simp only
  by_cases e : (k m).t = time
  · rw [if_pos e]
    exact ⟨by simp only; omega, by simp only; omega, by simp only; omega⟩
  · rw [if_neg e]
    have hm : 0 < m := by
      rcases Nat.eq_zero_or_pos m with z | z
      · subst z; omega
      · exact z
    have hp := m3 (m - 1) (by omega)
    obtain ⟨_, px, py, pz⟩ := knotErr_ok (hk (m - 1) (by omega))
    have hn' : (k m).t - (k (m - 1)).t = ((k m).t - time) + (time - (k (m - 1)).t) := by omega
    unfold Rel
    simp only
    rw [hn']
    exact ⟨lin_rel ⟨by omega, by omega⟩ ⟨by omega, by omega⟩ (by omega) (by omega), lin_rel ⟨by omega, by omega⟩ ⟨by omega, by omega⟩ (by omega) (by omega), lin_rel ⟨by omega, by omega⟩ ⟨by omega, by omega⟩ (by omega) (by omega)⟩
theorem v_rel {a b m n : Int} (ha : -(1000000 * m) ≤ a ∧ a ≤ 1000000 * m) (hb : -(1000000 * n) ≤ b ∧ b ≤ 1000000 * n) (hm : 0 ≤ m) (hn : 0 ≤ n) : -(2000000 * (m * n)) ≤ b * m - a * n ∧ b * m - a * n ≤ 2000000 * (m * n) := by
  have h1 := Int.mul_le_mul_of_nonneg_right ha.1 hn
  have h2 := Int.mul_le_mul_of_nonneg_right ha.2 hn
  have h3 := Int.mul_le_mul_of_nonneg_right hb.1 hm
  have h4 := Int.mul_le_mul_of_nonneg_right hb.2 hm
  rw [Int.neg_mul, Int.mul_assoc] at h1 h3
  rw [Int.mul_assoc] at h2 h4
  rw [Int.mul_comm n m] at h3 h4
  omega
theorem sq_up {x V : Int} (h0 : 0 ≤ x) (h1 : x ≤ 2002000 * V) : x * x ≤ 2002000 * V * (2002000 * V) := Int.mul_le_mul h1 h1 h0 (by omega)
theorem fr_up {x d V : Int} (hx : -(2000000 * V) ≤ x ∧ x ≤ 2000000 * V) (hd : 0 ≤ d ∧ d ≤ 2000 * V) : 0 ≤ fr x d ∧ fr x d ≤ 2002000 * V := by
  have h := siz_le hx.1 hx.2
  have h0 := siz_nn x
  unfold fr
  omega
/-- No distance is as great as 6006000. -/
theorem sqF_lt {A B : Trk} {s r : Int} (hA : TIn A s) (hB : TIn B r) : 1 ≤ vn (A.p s) (B.p r) ∧ 0 ≤ sqN A B s r ∧ sqN A B s r ≤ sqF A B s r ∧ sqF A B s r < 6006000 * vn (A.p s) (B.p r) * (6006000 * vn (A.p s) (B.p r)) := by
  have ra := plc_rel hA.1 hA.2
  have rb := plc_rel hB.1 hB.2
  have na := hA.n1
  have nb := hB.n1
  obtain ⟨_, _, _, da⟩ := valid_of hA.1
  obtain ⟨_, _, _, db⟩ := valid_of hB.1
  change Rel (A.p s) at ra
  change Rel (B.p r) at rb
  obtain ⟨ax, ay, az⟩ := ra
  obtain ⟨bx, by', bz⟩ := rb
  have x := v_rel ax bx (by omega) (by omega)
  have y := v_rel ay by' (by omega) (by omega)
  have z := v_rel az bz (by omega) (by omega)
  have hv : 1 ≤ (A.p s).n * (B.p r).n := by have := Int.mul_pos (show 0 < (A.p s).n by omega) (show 0 < (B.p r).n by omega); omega
  have hd0 : 0 ≤ vd A.d B.d (A.p s) (B.p r) := Int.mul_nonneg (by omega) (by omega)
  have hd1 : vd A.d B.d (A.p s) (B.p r) ≤ 2000 * ((A.p s).n * (B.p r).n) := Int.mul_le_mul_of_nonneg_right (by omega) (by omega)
  change _ ≤ vx (A.p s) (B.p r) ∧ vx (A.p s) (B.p r) ≤ _ at x
  change _ ≤ vy (A.p s) (B.p r) ∧ vy (A.p s) (B.p r) ≤ _ at y
  change _ ≤ vz (A.p s) (B.p r) ∧ vz (A.p s) (B.p r) ≤ _ at z
  have fx := fr_up x ⟨hd0, hd1⟩
  have fy := fr_up y ⟨hd0, hd1⟩
  have fz := fr_up z ⟨hd0, hd1⟩
  have hle : sqN A B s r ≤ sqF A B s r := by
    unfold sqN sqF
    exact Int.le_trans (nsum_nr_le hd0) (le_nsum_fr hd0)
  have hnn : 0 ≤ sqN A B s r := nsum_nr_nn _ _ _ _
  unfold vn
  refine ⟨hv, hnn, hle, ?_⟩
  unfold sqF
  rw [nsum3]
  have sx := sq_up fx.1 fx.2
  have sy := sq_up fy.1 fy.2
  have sz := sq_up fz.1 fz.2
  generalize (A.p s).n * (B.p r).n = V at *
  have e1 : 2002000 * V * (2002000 * V) = 4008004000000 * (V * V) := by rw [Int.mul_assoc, Int.mul_left_comm V, ← Int.mul_assoc]; rfl
  have e2 : 6006000 * V * (6006000 * V) = 36072036000000 * (V * V) := by rw [Int.mul_assoc, Int.mul_left_comm V, ← Int.mul_assoc]; rfl
  have hVV := Int.mul_pos (show 0 < V by omega) (show 0 < V by omega)
  omega
noncomputable def dHi (A B : Trk) (t : Int) : Int := Classical.choose (RL_exists (pF (sqF A B t t) (vn (A.p t) (B.p t))) 6006000)
noncomputable def dLo (A B : Trk) (t : Int) : Int := Classical.choose (RL_exists (pN (sqN A B t t) (vn (A.p t) (B.p t))) 6006000) - 1
theorem dHi_RL (A B : Trk) (t : Int) : RL (pF (sqF A B t t) (vn (A.p t) (B.p t))) 0 6006000 (dHi A B t) := Classical.choose_spec (RL_exists (pF (sqF A B t t) (vn (A.p t) (B.p t))) 6006000)
theorem dLo_RL (A B : Trk) (t : Int) : RL (pN (sqN A B t t) (vn (A.p t) (B.p t))) 0 6006000 (dLo A B t + 1) := by
  unfold dLo
  rw [Int.sub_add_cancel]
  exact Classical.choose_spec (RL_exists (pN (sqN A B t t) (vn (A.p t) (B.p t))) 6006000)
theorem same_d {A B A' B' : Trk} (hA : A.k = A'.k ∧ A.n = A'.n ∧ A.d = A'.d) (hB : B.k = B'.k ∧ B.n = B'.n ∧ B.d = B'.d) (t : Int) : sqN A B t t = sqN A' B' t t ∧ sqF A B t t = sqF A' B' t t ∧ vn (A.p t) (B.p t) = vn (A'.p t) (B'.p t) := by
  unfold sqF sqN Trk.p
  rw [hA.1, hA.2.1, hA.2.2, hB.1, hB.2.1, hB.2.2]
  exact ⟨rfl, rfl, rfl⟩
noncomputable def dsLo (A B : TV) (t : Int) : Int := if distErr A B t = 0 then dLo A.t B.t t else 0
noncomputable def dsHi (A B : TV) (t : Int) : Int := if distErr A B t = 0 then dHi A.t B.t t else 0
/-- DistanceAt, by its numbers. -/
theorem distanceAt_n (A B : TV) (s : Int) (w : World) (hA : A.At w) (hB : B.At w) :
    Calls Tryz.prog 13 #[.agg #[.slice A.a A.n A.c, .int .i64 A.d], .agg #[.slice B.a B.n B.c, .int .i64 B.d], .int .i64 s] w fun e w' => e = .returned (.tuple #[.agg #[.int .i64 (dsLo A B s), .int .i64 (dsHi A B s)], .int .i64 (distErr A B s)]) ∧ Below w.heap.size w w' := by
  refine (distanceAt_x A.a B.a A.n A.c B.n B.c A.k B.k A.d B.d s w hA hB).mono ?_
  rintro e w' ⟨hb, hh⟩
  refine ⟨?_, hb⟩
  change (if distErr A B s = 0 then _ else e = Ending.returned (.tuple #[.agg #[.int .i64 0, .int .i64 0], .int .i64 (distErr A B s)])) at hh
  by_cases hd : distErr A B s = 0
  · rw [if_pos hd] at hh
    obtain ⟨A', B', r1, r2, hA', hB', rfl, h1, h2⟩ := hh
    obtain ⟨tA, tB⟩ := distErr_in hd
    obtain ⟨v1, _, _, _⟩ := sqF_lt tA tB
    obtain ⟨e1, e2, e3⟩ := same_d (A' := A.t) (B' := B.t) hA' hB' s
    rw [e1, e3] at h1
    rw [e2, e3] at h2
    have q1 : r1 = dLo A.t B.t s + 1 := RL_same (pN_mono (by omega)) h1 (dLo_RL A.t B.t s)
    have q2 : r2 = dHi A.t B.t s := RL_same (pF_mono (by omega)) h2 (dHi_RL A.t B.t s)
    unfold dsLo dsHi
    rw [if_pos hd, if_pos hd, hd, q1, q2, Int.add_sub_cancel]
  · rw [if_neg hd] at hh
    unfold dsLo dsHi
    rw [if_neg hd, if_neg hd]
    exact hh
theorem rt_lt {r N v : Int} (hv : 1 ≤ v) (h1 : r * v * (r * v) ≤ N) (hb : N < 6006000 * v * (6006000 * v)) : r < 6006000 := by
  rcases Int.lt_or_le r 6006000 with q | q
  · exact q
  · have := ev_mono (v := v) (by omega) (show (0 : Int) ≤ 6006000 by omega) q
    omega
theorem rt_lo {r N v : Int} (hv : 1 ≤ v) (h0 : 0 ≤ r) (h1 : r * v * (r * v) ≤ N) (h2 : r = 8000000 ∨ N < (r + 1) * v * ((r + 1) * v)) (hb : N < 6006000 * v * (6006000 * v)) : RL (pN N v) 0 6006000 (r + 1) := by
  have := rt_lt hv h1 hb
  refine ⟨by omega, by omega, .inr ?_, .inr ?_⟩
  · rw [Int.add_sub_cancel]; unfold pN; simpa using h1
  · rcases h2 with h | h
    · omega
    · unfold pN; simpa using h
theorem rt_hi1 {r F v : Int} (hv : 1 ≤ v) (h0 : 0 ≤ r) (h1 : r * v * (r * v) = F) (hb : F < 6006000 * v * (6006000 * v)) : RL (pF F v) 0 6006000 r := by
  have := rt_lt hv (Int.le_of_eq h1) hb
  refine ⟨h0, by omega, ?_, .inr ?_⟩
  · rcases Int.lt_or_le 0 r with q | q
    · right
      have e := ev_mono (v := v) (by omega) (show (0 : Int) ≤ r - 1 by omega) (show r - 1 ≤ r by omega)
      have hlt : (r - 1) * v * ((r - 1) * v) < F := by
        rcases Int.lt_or_eq_of_le e with z | z
        · omega
        · have e1 : (r - 1) * v = r * v - v := by rw [Int.sub_mul, Int.one_mul]
          have p1 : 1 ≤ r * v := by have := Int.mul_pos q (show 0 < v by omega); omega
          have p2 : 0 ≤ r * v - v := by rw [← e1]; exact Int.mul_nonneg (by omega) (by omega)
          have := Int.mul_le_mul (show r * v - v + 1 ≤ r * v by omega) (show r * v - v + 1 ≤ r * v by omega) (by omega) (by omega)
          rw [e1] at z
          rw [Int.add_mul, Int.mul_add] at this
          omega
      unfold pF; simpa using hlt
    · left; omega
  · unfold pF; simp; omega
theorem rt_hi2 {r F v : Int} (hv : 1 ≤ v) (h0 : 0 ≤ r) (h1 : r * v * (r * v) < F) (h2 : r = 8000000 ∨ F < (r + 1) * v * ((r + 1) * v)) (hb : F < 6006000 * v * (6006000 * v)) : RL (pF F v) 0 6006000 (r + 1) := by
  have := rt_lt hv (Int.le_of_lt h1) hb
  refine ⟨by omega, by omega, .inr ?_, .inr ?_⟩
  · rw [Int.add_sub_cancel]; unfold pF; simpa using h1
  · rcases h2 with h | h
    · omega
    · unfold pF; simp; omega
/-- The document's rootOf, by these numbers. -/
theorem root_lo {N v lo : Int} {A : Option Addr} {c : Nat} {w : World} (N0 : 0 ≤ N) (hN : N < bp 50) (d1 : 1 ≤ v) (d2 : v ≤ 100000000) (hb : N < 6006000 * v * (6006000 * v)) (hA : DR w A (ln N) c N) (hlo : RL (pN N v) 0 6006000 (lo + 1)) :
    Calls Tryz.prog 61 #[.agg #[.int .i64 (sgn N), .slice A (ln N) c], .int .i64 v] w fun e w' => e = .returned (.tuple #[.int .i64 lo, .bool (decide (lo * v * (lo * v) = N))]) ∧ Below w.heap.size w w' := by
  have h := rootOf_any N v A c w N0 (by rw [siz_p N0]; exact hN) d1 d2 (by rw [siz_p N0]; exact hA)
  unfold WV at h
  rw [siz_p N0] at h
  refine h.mono ?_
  rintro e w' ⟨r, ⟨r0, r1⟩, h1, h2, rfl, hbw⟩
  have e1 := RL_same (pN_mono (by omega)) (rt_lo d1 r0 h1 h2 hb) hlo
  have e2 : r = lo := by omega
  subst e2
  exact ⟨rfl, hbw⟩
theorem root_hi {F v hi : Int} {A : Option Addr} {c : Nat} {w : World} (N0 : 0 ≤ F) (hN : F < bp 50) (d1 : 1 ≤ v) (d2 : v ≤ 100000000) (hb : F < 6006000 * v * (6006000 * v)) (hA : DR w A (ln F) c F) (hhi : RL (pF F v) 0 6006000 hi) :
    Calls Tryz.prog 61 #[.agg #[.int .i64 (sgn F), .slice A (ln F) c], .int .i64 v] w fun e w' => e = .returned (.tuple #[.int .i64 (if hi * v * (hi * v) = F then hi else hi - 1), .bool (decide (hi * v * (hi * v) = F))]) ∧ Below w.heap.size w w' := by
  have h := rootOf_any F v A c w N0 (by rw [siz_p N0]; exact hN) d1 d2 (by rw [siz_p N0]; exact hA)
  unfold WV at h
  rw [siz_p N0] at h
  refine h.mono ?_
  rintro e w' ⟨r, ⟨r0, r1⟩, h1, h2, rfl, hbw⟩
  refine ⟨?_, hbw⟩
  by_cases hx : r * v * (r * v) = F
  · have e1 := RL_same (pF_mono (by omega)) (rt_hi1 d1 r0 hx hb) hhi
    subst e1
    rw [if_pos hx]
  · have hlt : r * v * (r * v) < F := by omega
    have e1 := RL_same (pF_mono (by omega)) (rt_hi2 d1 r0 hlt h2 hb) hhi
    have := rt_lt d1 h1 hb
    have hne : ¬ hi * v * (hi * v) = F := by
      rw [← e1]
      rcases h2 with z | z
      · omega
      · omega
    rw [if_neg hne, decide_eq_false hne, decide_eq_false hx]
    have : r = hi - 1 := by omega
    rw [this]
end Go.Proofs.YtnfoagcpgegldaaGreat
