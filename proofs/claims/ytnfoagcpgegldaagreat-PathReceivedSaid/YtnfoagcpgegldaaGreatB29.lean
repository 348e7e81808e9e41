/- Helpers: whether a signal has surely arrived, or surely not (the document's own). -/
import Derived.Test.YtnfoagcpgegldaaGreatB28
import Derived.Test.YtnfoagcpgegldaaGreatB13
import Derived.Test.YtnfoagcpgegldaaGreatB07
import Derived.Test.YtnfoagcpgegldaaGreatB15
import Derived.Test.YtnfoagcpgegldaaGreatB19
import Derived.Test.YtnfoagcpgegldaaGreatB21
import Derived.Test.YtnfoagcpgegldaaGreatB22
import Derived.Deep.AppendLies
namespace Go.Proofs.YtnfoagcpgegldaaGreat
open Go.RowKit Go.Shelf Go.Sort
attribute [local go_sem] idx3_0 idx3_1 idx3_2 old1 fro1 old2 fro2 old3 fro3 old4 fro4 old5 fro5 old6 fro6 old7 fro7 old8 fro8 old9 fro9 old10 fro10 old11 fro11 old12 fro12
theorem sq_bounds {W : World} {A B : Trk} {s r : Int} (hA : VT W A s) (hB : VT W B r) : (0 ≤ sqN A B s r ∧ sqN A B s r < bp 50) ∧ (0 ≤ sqF A B s r ∧ sqF A B s r < bp 50) := by
  obtain ⟨n, x, y, z, d⟩ := v_bd (f := A.p s) (t := B.p r) (plc_ok hA.2.1 hA.2.2) (plc_ok hB.2.1 hB.2.2) (valid_of hA.2.1).2.2.2 (valid_of hB.2.1).2.2.2
  exact ⟨nsum_b (by have := nr_bd x.1 x.2 d.1; omega) (by have := nr_bd y.1 y.2 d.1; omega) (by have := nr_bd z.1 z.2 d.1; omega) 3, nsum_b (fr_bd x.1 x.2 d.1 d.2) (fr_bd y.1 y.2 d.1 d.2) (fr_bd z.1 z.2 d.1 d.2) 3⟩
set_option maxRecDepth 100000 in
set_option maxHeartbeats 4000000 in
theorem rarrived_any (W : World) (A B : Trk) (s r : Int) (hA : VT W A s) (hB : VT W B r) (hsr : s ≤ r) (hr : r - s ≤ 20000000000) :
    Calls Tryz.prog 28 #[.agg #[A.v, .int .i64 A.d], .agg #[B.v, .int .i64 B.d], .int .i64 s, .int .i64 r] W fun e w' => e = .returned (.bool (arrB A B s r)) ∧ Below W.heap.size W w' := by
  have HSQ' := fun w1 a b => Lib.hid (squares_any w1 A B s r a b)
  unfold Trk.v at HSQ' ⊢
  have hv := v_bd (f := A.p s) (t := B.p r) (plc_ok hA.2.1 hA.2.2) (plc_ok hB.2.1 hB.2.2) (valid_of hA.2.1).2.2.2 (valid_of hB.2.1).2.2.2
  have tA := time_bd hA.2
  have tB := time_bd hB.2
  have hN := sq_bounds hA hB
  have nv := hv.1
  have x0 : 0 ≤ (r - s) * vn (A.p s) (B.p r) := Int.mul_nonneg (by omega) (by omega)
  have x1 : (r - s) * vn (A.p s) (B.p r) ≤ 20000000000 * 100000000 := Int.mul_le_mul hr nv.2 (by omega) (by omega)
  have u1 : IntKind.i64.wrap (r - s) = r - s := IntWalk.i64_in _ (by omega)
  have u2 : IntKind.i64.wrap ((r - s) * vn (A.p s) (B.p r)) = (r - s) * vn (A.p s) (B.p r) := IntWalk.i64_in _ (by omega)
  have HC : ∀ Aq cq, Hid _ := fun Aq cq => Lib.hid (cmp_sq ((r - s) * vn (A.p s) (B.p r)) (sqF A B s r) Aq cq x0 (by omega) (by rw [siz_p hN.2.1]; exact hN.2.2))
  rw [siz_p hN.2.1] at HC
  have hb : arrB A B s r = decide (0 ≤ sgn ((r - s) * vn (A.p s) (B.p r) * ((r - s) * vn (A.p s) (B.p r)) - sqF A B s r)) := by
    have := @sgn_le ((r - s) * vn (A.p s) (B.p r) * ((r - s) * vn (A.p s) (B.p r)) - sqF A B s r)
    have h2 := @sgn_le (-((r - s) * vn (A.p s) (B.p r) * ((r - s) * vn (A.p s) (B.p r)) - sqF A B s r))
    rw [sgn_neg] at h2
    unfold arrB
    rw [Bool.eq_iff_iff]
    simp only [Bool.not_eq_true', decide_eq_false_iff_not, decide_eq_true_eq]
    omega
  have HB' := Lib.hid hb
  have HA := Lib.hid hA
  have HB := Lib.hid hB
  clear hb hA hB hv hN nv tA tB x0 x1
  unfold SomeSq at HSQ'
  generalize vn (A.p s) (B.p r) = n at *
  generalize hF : sqF A B s r = F at *
  generalize hNN : sqN A B s r = NN at *
  clear hF hNN
  generalize (r - s) * n * ((r - s) * n) = X at *
  generalize hv : sgn (X - F) = v at *
  clear hv
  generalize sgn X = sx at *
  generalize ln X = lx at *
  generalize sgn F = sF at *
  generalize ln F = lF at *
  generalize sgn NN = sN at *
  generalize ln NN = lN at *
  go_enter Tryz.func28, Tryz.ntmps28
  go_wp2_with (first
    | (go_at_call 60; (with_reducible refine Calls.mono (HSQ' _ (HA.out.below (show Below W.heap.size W _ by (repeat (first | with_reducible exact Below.refl _ _ | with_reducible assumption | with_reducible refine Below.alloc ?_ (by first | (simp; done) | (simp; omega) | omega) _ | with_reducible refine Below.setCell ?_ (by first | (simp; done) | (simp; omega) | omega) _ | with_reducible refine Below.drew ?_ | with_reducible refine below_drewN ?_ _)))) (HB.out.below (show Below W.heap.size W _ by (repeat (first | with_reducible exact Below.refl _ _ | with_reducible assumption | with_reducible refine Below.alloc ?_ (by first | (simp; done) | (simp; omega) | omega) _ | with_reducible refine Below.setCell ?_ (by first | (simp; done) | (simp; omega) | omega) _ | with_reducible refine Below.drew ?_ | with_reducible refine below_drewN ?_ _))))).out ?_); rintro e w1 ⟨A1, c1, A2, c2, rfl, hd1, hd2, hb1⟩; have B1 := Lib.hid (thenD (show Below W.heap.size W _ by (repeat (first | with_reducible exact Below.refl _ _ | with_reducible assumption | with_reducible refine Below.alloc ?_ (by first | (simp; done) | (simp; omega) | omega) _ | with_reducible refine Below.setCell ?_ (by first | (simp; done) | (simp; omega) | omega) _ | with_reducible refine Below.drew ?_ | with_reducible refine below_drewN ?_ _))) hb1); have HD1 := Lib.hid hd1; have HD2 := Lib.hid hd2; clear hb1 hd1 hd2)
    | fail)
  have n1 : w1.heap.size ≠ w1.heap.size + 1 := by omega
  have n2 := n1.symm
  obtain ⟨HSQ, HCM⟩ := (HC A2 c2).out
  clear HC
  go_region_held3 (fun w' => w'.cell? ⟨w1.heap.size + 1, 0, none⟩ = some (.int .i64 sF) ∧ w'.cell? ⟨w1.heap.size + 1, 1, none⟩ = some (.slice A2 lF c2)) (simp [go_sem, *])
    (first
      | (go_at_call 75; (with_reducible refine Calls.mono (HSQ _).out ?_); rintro e y1 ⟨A3, c3, rfl, hd3, hb3⟩; have Y1 := Lib.hid (thenD (show Below w1.heap.size w1 _ by (repeat (first | with_reducible exact Below.refl _ _ | with_reducible assumption | with_reducible refine Below.alloc ?_ (by first | (simp; done) | (simp; omega) | omega) _ | with_reducible refine Below.setCell ?_ (by first | (simp; done) | (simp; omega) | omega) _ | with_reducible refine Below.drew ?_ | with_reducible refine below_drewN ?_ _))) hb3); have HD3 := Lib.hid hd3; have q0 := (hb3.cell (p := ⟨w1.heap.size + 1, 0, none⟩) (by first | (simp; done) | (simp; omega) | omega)).trans (show _ = some (.int .i64 sF) by simp [go_sem, *]); have q1 := (hb3.cell (p := ⟨w1.heap.size + 1, 1, none⟩) (by first | (simp; done) | (simp; omega) | omega)).trans (show _ = some (.slice A2 lF c2) by simp [go_sem, *]); clear hd3 hb3)
      | (go_at_call 74; (with_reducible refine Calls.mono (HCM _ A3 c3 HD3.out (HD2.out.below Y1.out)).out ?_); rintro e y2 ⟨rfl, hb4⟩; have Y2 := Lib.hid (thenD Y1.out hb4); have t0 := keep hb4 q0; have t1 := keep hb4 q1; clear hb4)
      | fail)
  all_goals
    go_wp2_with fail
    go_ret
    exact ⟨ret_bool HB'.out.symm, thenD B1.out Y2.out⟩
set_option maxRecDepth 100000 in
set_option maxHeartbeats 4000000 in
theorem raway_any (W : World) (A B : Trk) (s r : Int) (hA : VT W A s) (hB : VT W B r) (hsr : s ≤ r) (hr : r - s ≤ 20000000000) :
    Calls Tryz.prog 29 #[.agg #[A.v, .int .i64 A.d], .agg #[B.v, .int .i64 B.d], .int .i64 s, .int .i64 r] W fun e w' => e = .returned (.bool (awayB A B s r)) ∧ Below W.heap.size W w' := by
  have HSQ' := fun w1 a b => Lib.hid (squares_any w1 A B s r a b)
  unfold Trk.v at HSQ' ⊢
  have hv := v_bd (f := A.p s) (t := B.p r) (plc_ok hA.2.1 hA.2.2) (plc_ok hB.2.1 hB.2.2) (valid_of hA.2.1).2.2.2 (valid_of hB.2.1).2.2.2
  have tA := time_bd hA.2
  have tB := time_bd hB.2
  have hN := sq_bounds hA hB
  have nv := hv.1
  have x0 : 0 ≤ (r - s) * vn (A.p s) (B.p r) := Int.mul_nonneg (by omega) (by omega)
  have x1 : (r - s) * vn (A.p s) (B.p r) ≤ 20000000000 * 100000000 := Int.mul_le_mul hr nv.2 (by omega) (by omega)
  have u1 : IntKind.i64.wrap (r - s) = r - s := IntWalk.i64_in _ (by omega)
  have u2 : IntKind.i64.wrap ((r - s) * vn (A.p s) (B.p r)) = (r - s) * vn (A.p s) (B.p r) := IntWalk.i64_in _ (by omega)
  have HC : ∀ Aq cq, Hid _ := fun Aq cq => Lib.hid (cmp_sq ((r - s) * vn (A.p s) (B.p r)) (sqN A B s r) Aq cq x0 (by omega) (by rw [siz_p hN.1.1]; exact hN.1.2))
  rw [siz_p hN.1.1] at HC
  have hb : awayB A B s r = decide (sgn ((r - s) * vn (A.p s) (B.p r) * ((r - s) * vn (A.p s) (B.p r)) - sqN A B s r) < 0) := by
    have := @sgn_le ((r - s) * vn (A.p s) (B.p r) * ((r - s) * vn (A.p s) (B.p r)) - sqN A B s r)
    have h2 := @sgn_le (-((r - s) * vn (A.p s) (B.p r) * ((r - s) * vn (A.p s) (B.p r)) - sqN A B s r))
    rw [sgn_neg] at h2
    unfold awayB
    rw [Bool.eq_iff_iff]
    simp only [decide_eq_true_eq]
    omega
  have HB' := Lib.hid hb
  have HA := Lib.hid hA
  have HB := Lib.hid hB
  clear hb hA hB hv hN nv tA tB x0 x1
  unfold SomeSq at HSQ'
  generalize vn (A.p s) (B.p r) = n at *
  generalize hF : sqF A B s r = F at *
  generalize hNN : sqN A B s r = NN at *
  clear hF hNN
  generalize (r - s) * n * ((r - s) * n) = X at *
  generalize hv : sgn (X - NN) = v at *
  clear hv
  generalize sgn X = sx at *
  generalize ln X = lx at *
  generalize sgn F = sF at *
  generalize ln F = lF at *
  generalize sgn NN = sN at *
  generalize ln NN = lN at *
  go_enter Tryz.func29, Tryz.ntmps29
  go_wp2_with (first
    | (go_at_call 60; (with_reducible refine Calls.mono (HSQ' _ (HA.out.below (show Below W.heap.size W _ by (repeat (first | with_reducible exact Below.refl _ _ | with_reducible assumption | with_reducible refine Below.alloc ?_ (by first | (simp; done) | (simp; omega) | omega) _ | with_reducible refine Below.setCell ?_ (by first | (simp; done) | (simp; omega) | omega) _ | with_reducible refine Below.drew ?_ | with_reducible refine below_drewN ?_ _)))) (HB.out.below (show Below W.heap.size W _ by (repeat (first | with_reducible exact Below.refl _ _ | with_reducible assumption | with_reducible refine Below.alloc ?_ (by first | (simp; done) | (simp; omega) | omega) _ | with_reducible refine Below.setCell ?_ (by first | (simp; done) | (simp; omega) | omega) _ | with_reducible refine Below.drew ?_ | with_reducible refine below_drewN ?_ _))))).out ?_); rintro e w1 ⟨A1, c1, A2, c2, rfl, hd1, hd2, hb1⟩; have B1 := Lib.hid (thenD (show Below W.heap.size W _ by (repeat (first | with_reducible exact Below.refl _ _ | with_reducible assumption | with_reducible refine Below.alloc ?_ (by first | (simp; done) | (simp; omega) | omega) _ | with_reducible refine Below.setCell ?_ (by first | (simp; done) | (simp; omega) | omega) _ | with_reducible refine Below.drew ?_ | with_reducible refine below_drewN ?_ _))) hb1); have HD1 := Lib.hid hd1; have HD2 := Lib.hid hd2; clear hb1 hd1 hd2)
    | fail)
  have n1 : w1.heap.size ≠ w1.heap.size + 1 := by omega
  have n2 := n1.symm
  obtain ⟨HSQ, HCM⟩ := (HC A1 c1).out
  clear HC
  go_region_held3 (fun w' => w'.cell? ⟨w1.heap.size, 0, none⟩ = some (.int .i64 sN) ∧ w'.cell? ⟨w1.heap.size, 1, none⟩ = some (.slice A1 lN c1)) (simp [go_sem, *])
    (first
      | (go_at_call 75; (with_reducible refine Calls.mono (HSQ _).out ?_); rintro e y1 ⟨A3, c3, rfl, hd3, hb3⟩; have Y1 := Lib.hid (thenD (show Below w1.heap.size w1 _ by (repeat (first | with_reducible exact Below.refl _ _ | with_reducible assumption | with_reducible refine Below.alloc ?_ (by first | (simp; done) | (simp; omega) | omega) _ | with_reducible refine Below.setCell ?_ (by first | (simp; done) | (simp; omega) | omega) _ | with_reducible refine Below.drew ?_ | with_reducible refine below_drewN ?_ _))) hb3); have HD3 := Lib.hid hd3; have q0 := (hb3.cell (p := ⟨w1.heap.size, 0, none⟩) (by first | (simp; done) | (simp; omega) | omega)).trans (show _ = some (.int .i64 sN) by simp [go_sem, *]); have q1 := (hb3.cell (p := ⟨w1.heap.size, 1, none⟩) (by first | (simp; done) | (simp; omega) | omega)).trans (show _ = some (.slice A1 lN c1) by simp [go_sem, *]); clear hd3 hb3)
      | (go_at_call 74; (with_reducible refine Calls.mono (HCM _ A3 c3 HD3.out (HD1.out.below Y1.out)).out ?_); rintro e y2 ⟨rfl, hb4⟩; have Y2 := Lib.hid (thenD Y1.out hb4); have t0 := keep hb4 q0; have t1 := keep hb4 q1; clear hb4)
      | fail)
  all_goals
    go_wp2_with fail
    go_ret
    exact ⟨ret_bool HB'.out.symm, thenD B1.out Y2.out⟩
end Go.Proofs.YtnfoagcpgegldaaGreat
namespace Go.Proofs.YtnfoagcpgegldaaGreat
open Go.RowKit Go.Shelf Go.Sort
attribute [local go_sem] idx3_0 idx3_1 idx3_2 old1 fro1 old2 fro2 old3 fro3 old4 fro4 old5 fro5 old6 fro6 old7 fro7 old8 fro8 old9 fro9 old10 fro10 old11 fro11 old12 fro12
set_option maxRecDepth 100000 in
set_option maxHeartbeats 800000 in
theorem few_any (A : Option Addr) (n c : Nat) (d : Int) (w : World) (_ : n ≤ 9223372036854775807) :
    Calls Tryz.prog 50 #[.agg #[.slice A n c, .int .i64 d]] w fun e w' => e = .returned (.bool (decide ((n : Int) ≤ 14))) ∧ Below w.heap.size w w' := by
  go_enter Tryz.func50, Tryz.ntmps50
  go_wp2_with fail
  go_ret
  exact ⟨rfl, by (repeat (first | with_reducible exact Below.refl _ _ | with_reducible assumption | with_reducible refine Below.alloc ?_ (by first | (simp; done) | (simp; omega) | omega) _ | with_reducible refine Below.setCell ?_ (by first | (simp; done) | (simp; omega) | omega) _ | with_reducible refine Below.drew ?_ | with_reducible refine below_drewN ?_ _))⟩
theorem KA.bel {w W : World} {A : Option Addr} {n : Nat} {k : Nat → Knot} (h : KA w A n k) (hb : Below w.heap.size w W) : KA W A n k := fun h0 => by
  obtain ⟨b, off, e, hk⟩ := h h0
  exact ⟨b, off, e, hk.below hb hk.1⟩
end Go.Proofs.YtnfoagcpgegldaaGreat
namespace Go.Proofs.YtnfoagcpgegldaaGreat
open Go.RowKit Go.Shelf Go.Sort
attribute [local go_sem] idx3_0 idx3_1 idx3_2 old1 fro1 old2 fro2 old3 fro3 old4 fro4 old5 fro5 old6 fro6 old7 fro7 old8 fro8 old9 fro9 old10 fro10 old11 fro11 old12 fro12
set_option maxRecDepth 100000 in
set_option maxHeartbeats 800000 in
theorem trackErr_any (A : Option Addr) (n c : Nat) (d : Int) (k : Nat → Knot) (w : World) (hn : n ≤ 9223372036854775807) (hk : KA w A n k) :
    Calls Tryz.prog 58 #[.agg #[.slice A n c, .int .i64 d]] w fun e w' => e = .returned (.int .i64 (ctErr k n d)) ∧ Below w.heap.size w w' := by
  have HC := fun W hW => Lib.hid (rcheckTrack_any A n c d W k hn hW)
  have HA := Lib.hid hk
  have HE : Hid (ctErr k n d = (ctRes k n d).2) := rfl
  clear hk
  generalize (ctRes k n d).2 = e2 at HC HE
  generalize (ctRes k n d).1 = e1 at HC
  go_enter Tryz.func58, Tryz.ntmps58
  go_wp2_with (go_at_call 103; (with_reducible refine Calls.mono (HC _ (HA.out.bel (by (repeat (first | with_reducible exact Below.refl _ _ | with_reducible assumption | with_reducible refine Below.alloc ?_ (by first | (simp; done) | (simp; omega) | omega) _ | with_reducible refine Below.setCell ?_ (by first | (simp; done) | (simp; omega) | omega) _ | with_reducible refine Below.drew ?_ | with_reducible refine below_drewN ?_ _))))).out ?_); rintro e w1 ⟨rfl, hb1⟩; have B1 := Lib.hid (thenB (show Below w.heap.size w _ by (repeat (first | with_reducible exact Below.refl _ _ | with_reducible assumption | with_reducible refine Below.alloc ?_ (by first | (simp; done) | (simp; omega) | omega) _ | with_reducible refine Below.setCell ?_ (by first | (simp; done) | (simp; omega) | omega) _ | with_reducible refine Below.drew ?_ | with_reducible refine below_drewN ?_ _))) hb1); clear hb1)
  go_ret
  exact ⟨ret_int HE.out.symm, B1.out⟩
set_option maxRecDepth 100000 in
set_option maxHeartbeats 800000 in
theorem bothErr_any (A B : Option Addr) (n c m c' : Nat) (d d' : Int) (k k' : Nat → Knot) (w : World) (hn : n ≤ 9223372036854775807) (hm : m ≤ 9223372036854775807) (hA : KA w A n k) (hB : KA w B m k') :
    Calls Tryz.prog 16 #[.agg #[.slice A n c, .int .i64 d], .agg #[.slice B m c', .int .i64 d']] w fun e w' => e = .returned (.int .i64 (if ctErr k n d = 0 then ctErr k' m d' else ctErr k n d)) ∧ Below w.heap.size w w' := by
  have H1 := fun W hW => Lib.hid (trackErr_any A n c d k W hn hW)
  have H2 := fun W hW => Lib.hid (trackErr_any B m c' d' k' W hm hW)
  have HA := Lib.hid hA
  have HB := Lib.hid hB
  clear hA hB
  generalize ctErr k n d = E1 at *
  generalize ctErr k' m d' = E2 at *
  by_cases h0 : E1 = 0
  · subst h0
    go_enter Tryz.func16, Tryz.ntmps16
    go_wp2_with (first
      | (go_at_call 58; (with_reducible refine Calls.mono (H1 _ (HA.out.bel (by (repeat (first | with_reducible exact Below.refl _ _ | with_reducible assumption | with_reducible refine Below.alloc ?_ (by first | (simp; done) | (simp; omega) | omega) _ | with_reducible refine Below.setCell ?_ (by first | (simp; done) | (simp; omega) | omega) _ | with_reducible refine Below.drew ?_ | with_reducible refine below_drewN ?_ _))))).out ?_); rintro e w1 ⟨rfl, hb1⟩; have B1 := Lib.hid (thenB (show Below w.heap.size w _ by (repeat (first | with_reducible exact Below.refl _ _ | with_reducible assumption | with_reducible refine Below.alloc ?_ (by first | (simp; done) | (simp; omega) | omega) _ | with_reducible refine Below.setCell ?_ (by first | (simp; done) | (simp; omega) | omega) _ | with_reducible refine Below.drew ?_ | with_reducible refine below_drewN ?_ _))) hb1); have d0 := (hb1.cell (p := ⟨w.heap.size + 1, 0, none⟩) (by first | (simp; done) | (simp; omega) | omega)).trans (show _ = some (.slice B m c') by simp [go_sem]); have d1 := (hb1.cell (p := ⟨w.heap.size + 1, 1, none⟩) (by first | (simp; done) | (simp; omega) | omega)).trans (show _ = some (.int .i64 d') by simp [go_sem]); clear hb1)
      | (go_at_call 58; (with_reducible refine Calls.mono (H2 _ (HB.out.bel B1.out)).out ?_); rintro e w2 ⟨rfl, hb2⟩; have B2 := Lib.hid (thenB B1.out hb2); clear hb2))
    go_ret
    exact ⟨rfl, B2.out⟩
  · have g0 : (E1 == 0) = false := by simp [h0]
    have g1 : (E1 != 0) = true := by simp [h0]
    rw [if_neg h0]
    clear h0
    go_enter Tryz.func16, Tryz.ntmps16
    go_wp2_with (first
      | (go_at_call 58; (with_reducible refine Calls.mono (H1 _ (HA.out.bel (by (repeat (first | with_reducible exact Below.refl _ _ | with_reducible assumption | with_reducible refine Below.alloc ?_ (by first | (simp; done) | (simp; omega) | omega) _ | with_reducible refine Below.setCell ?_ (by first | (simp; done) | (simp; omega) | omega) _ | with_reducible refine Below.drew ?_ | with_reducible refine below_drewN ?_ _))))).out ?_); rintro e w1 ⟨rfl, hb1⟩; have B1 := Lib.hid (thenB (show Below w.heap.size w _ by (repeat (first | with_reducible exact Below.refl _ _ | with_reducible assumption | with_reducible refine Below.alloc ?_ (by first | (simp; done) | (simp; omega) | omega) _ | with_reducible refine Below.setCell ?_ (by first | (simp; done) | (simp; omega) | omega) _ | with_reducible refine Below.drew ?_ | with_reducible refine below_drewN ?_ _))) hb1); clear hb1))
    go_ret
    exact ⟨rfl, B1.out⟩
set_option maxRecDepth 100000 in
set_option maxHeartbeats 800000 in
theorem timesErr_any (b off b' off' n c m c' : Nat) (d d' time : Int) (k k' : Nat → Knot) (w : World) (hn : 0 < n) (hn2 : n ≤ 100) (hm : 0 < m) (hm2 : m ≤ 100) (hA : KAt w b off n k) (hB : KAt w b' off' m k') :
    Calls Tryz.prog 17 #[.agg #[.slice (some ⟨b, off, none⟩) n c, .int .i64 d], .agg #[.slice (some ⟨b', off', none⟩) m c', .int .i64 d'], .int .i64 time] w fun e w' => e = .returned (.int .i64 (if outside time k n || outside time k' m then 2 else 0)) ∧ Below w.heap.size w w' := by
  have H1 := fun W hW => Lib.hid (rtimeErr_any b off n c d time W k hn hn2 hW)
  have H2 := fun W hW => Lib.hid (rtimeErr_any b' off' m c' d' time W k' hm hm2 hW)
  have HV : (if outside time k n || outside time k' m then (2 : Int) else 0) = if (if outside time k n then (2 : Int) else 0) = 0 then (if outside time k' m then 2 else 0) else (if outside time k n then 2 else 0) := by
    cases outside time k n <;> cases outside time k' m <;> rfl
  have ha1 := hA.1
  have hb1' := hB.1
  have HA := Lib.hid hA
  have HB := Lib.hid hB
  rw [HV]
  clear hA hB HV
  generalize (if outside time k n then (2 : Int) else 0) = T1 at *
  generalize (if outside time k' m then (2 : Int) else 0) = T2 at *
  by_cases h0 : T1 = 0
  · subst h0
    rw [if_pos rfl]
    go_enter Tryz.func17, Tryz.ntmps17
    go_wp2_with (first
      | (go_at_call 59; (with_reducible refine Calls.mono (H1 _ (HA.out.below (show Below w.heap.size w _ by (repeat (first | with_reducible exact Below.refl _ _ | with_reducible assumption | with_reducible refine Below.alloc ?_ (by first | (simp; done) | (simp; omega) | omega) _ | with_reducible refine Below.setCell ?_ (by first | (simp; done) | (simp; omega) | omega) _ | with_reducible refine Below.drew ?_ | with_reducible refine below_drewN ?_ _))) ha1)).out ?_); rintro e w1 ⟨rfl, hb1⟩; have B1 := Lib.hid (thenB (show Below w.heap.size w _ by (repeat (first | with_reducible exact Below.refl _ _ | with_reducible assumption | with_reducible refine Below.alloc ?_ (by first | (simp; done) | (simp; omega) | omega) _ | with_reducible refine Below.setCell ?_ (by first | (simp; done) | (simp; omega) | omega) _ | with_reducible refine Below.drew ?_ | with_reducible refine below_drewN ?_ _))) hb1); have d0 := (hb1.cell (p := ⟨w.heap.size + 1, 0, none⟩) (by first | (simp; done) | (simp; omega) | omega)).trans (show _ = some (.slice (some ⟨b', off', none⟩) m c') by simp [go_sem]); have d1 := (hb1.cell (p := ⟨w.heap.size + 1, 1, none⟩) (by first | (simp; done) | (simp; omega) | omega)).trans (show _ = some (.int .i64 d') by simp [go_sem]); clear hb1)
      | (go_at_call 59; (with_reducible refine Calls.mono (H2 _ (HB.out.below B1.out hb1')).out ?_); rintro e w2 ⟨rfl, hb2⟩; have B2 := Lib.hid (thenB B1.out hb2); clear hb2))
    go_ret
    exact ⟨rfl, B2.out⟩
  · have g0 : (T1 == 0) = false := by simp [h0]
    have g1 : (T1 != 0) = true := by simp [h0]
    rw [if_neg h0]
    clear h0
    go_enter Tryz.func17, Tryz.ntmps17
    go_wp2_with (first
      | (go_at_call 59; (with_reducible refine Calls.mono (H1 _ (HA.out.below (show Below w.heap.size w _ by (repeat (first | with_reducible exact Below.refl _ _ | with_reducible assumption | with_reducible refine Below.alloc ?_ (by first | (simp; done) | (simp; omega) | omega) _ | with_reducible refine Below.setCell ?_ (by first | (simp; done) | (simp; omega) | omega) _ | with_reducible refine Below.drew ?_ | with_reducible refine below_drewN ?_ _))) ha1)).out ?_); rintro e w1 ⟨rfl, hb1⟩; have B1 := Lib.hid (thenB (show Below w.heap.size w _ by (repeat (first | with_reducible exact Below.refl _ _ | with_reducible assumption | with_reducible refine Below.alloc ?_ (by first | (simp; done) | (simp; omega) | omega) _ | with_reducible refine Below.setCell ?_ (by first | (simp; done) | (simp; omega) | omega) _ | with_reducible refine Below.drew ?_ | with_reducible refine below_drewN ?_ _))) hb1); clear hb1))
    go_ret
    exact ⟨rfl, B1.out⟩
set_option maxRecDepth 100000 in
set_option maxHeartbeats 800000 in
theorem few2_any (A B : Option Addr) (n c m c' : Nat) (d d' : Int) (w : World) (hn : n ≤ 9223372036854775807) (hm : m ≤ 9223372036854775807) :
    Calls Tryz.prog 12 #[.agg #[.slice A n c, .int .i64 d], .agg #[.slice B m c', .int .i64 d']] w fun e w' => e = .returned (.bool (decide ((n : Int) ≤ 14) && decide ((m : Int) ≤ 14))) ∧ Below w.heap.size w w' := by
  have H1 := fun W => Lib.hid (few_any A n c d W hn)
  have H2 := fun W => Lib.hid (few_any B m c' d' W hm)
  generalize decide ((n : Int) ≤ 14) = q1 at *
  generalize decide ((m : Int) ≤ 14) = q2 at *
  cases q1
  · go_enter Tryz.func12, Tryz.ntmps12
    go_wp2_with (first
      | (go_at_call 50; (with_reducible refine Calls.mono (H1 _).out ?_); rintro e w1 ⟨rfl, hb1⟩; have B1 := Lib.hid (thenB (show Below w.heap.size w _ by (repeat (first | with_reducible exact Below.refl _ _ | with_reducible assumption | with_reducible refine Below.alloc ?_ (by first | (simp; done) | (simp; omega) | omega) _ | with_reducible refine Below.setCell ?_ (by first | (simp; done) | (simp; omega) | omega) _ | with_reducible refine Below.drew ?_ | with_reducible refine below_drewN ?_ _))) hb1); clear hb1))
    go_ret
    exact ⟨rfl, B1.out⟩
  · go_enter Tryz.func12, Tryz.ntmps12
    go_wp2_with (first
      | (go_at_call 50; (with_reducible refine Calls.mono (H1 _).out ?_); rintro e w1 ⟨rfl, hb1⟩; have B1 := Lib.hid (thenB (show Below w.heap.size w _ by (repeat (first | with_reducible exact Below.refl _ _ | with_reducible assumption | with_reducible refine Below.alloc ?_ (by first | (simp; done) | (simp; omega) | omega) _ | with_reducible refine Below.setCell ?_ (by first | (simp; done) | (simp; omega) | omega) _ | with_reducible refine Below.drew ?_ | with_reducible refine below_drewN ?_ _))) hb1); have d0 := (hb1.cell (p := ⟨w.heap.size + 1, 0, none⟩) (by first | (simp; done) | (simp; omega) | omega)).trans (show _ = some (.slice B m c') by simp [go_sem]); have d1 := (hb1.cell (p := ⟨w.heap.size + 1, 1, none⟩) (by first | (simp; done) | (simp; omega) | omega)).trans (show _ = some (.int .i64 d') by simp [go_sem]); clear hb1)
      | (go_at_call 50; (with_reducible refine Calls.mono (H2 _).out ?_); rintro e w2 ⟨rfl, hb2⟩; have B2 := Lib.hid (thenB B1.out hb2); clear hb2))
    go_ret
    exact ⟨ret_bool (by simp), B2.out⟩
/-- A distance as one pair of numbers. -/
theorem dist_fix (ka kb : Nat → Knot) (na nb : Nat) (da db time : Int) (hA : ctErr ka na da = 0) (hB : ctErr kb nb db = 0) (oA : outside time ka na = false) (oB : outside time kb nb = false) :
    ∃ r1 r2, RL (pN (nsum nr (vx (plc ka na time) (plc kb nb time)) (vy (plc ka na time) (plc kb nb time)) (vz (plc ka na time) (plc kb nb time)) (vd da db (plc ka na time) (plc kb nb time)) 3) (vn (plc ka na time) (plc kb nb time))) 0 6006000 r1 ∧
      RL (pF (nsum fr (vx (plc ka na time) (plc kb nb time)) (vy (plc ka na time) (plc kb nb time)) (vz (plc ka na time) (plc kb nb time)) (vd da db (plc ka na time) (plc kb nb time)) 3) (vn (plc ka na time) (plc kb nb time))) 0 6006000 r2 ∧
      ∀ W A c B c', KA W A na ka → KA W B nb kb → Calls Tryz.prog 13 #[.agg #[.slice A na c, .int .i64 da], .agg #[.slice B nb c', .int .i64 db], .int .i64 time] W fun e w' => e = .returned (.tuple #[.agg #[.int .i64 (r1 - 1), .int .i64 r2], .int .i64 0]) ∧ Below W.heap.size W w' := by
  have pA := plc_ok hA oA
  have pB := plc_ok hB oB
  obtain ⟨_, _, _, _⟩ := valid_of hA
  obtain ⟨_, _, _, _⟩ := valid_of hB
  have hv : 0 ≤ vn (plc ka na time) (plc kb nb time) := Int.mul_nonneg (by have := pA.1; omega) (by have := pB.1; omega)
  obtain ⟨r1, h1⟩ := RL_exists (pN (nsum nr (vx (plc ka na time) (plc kb nb time)) (vy (plc ka na time) (plc kb nb time)) (vz (plc ka na time) (plc kb nb time)) (vd da db (plc ka na time) (plc kb nb time)) 3) (vn (plc ka na time) (plc kb nb time))) 6006000
  obtain ⟨r2, h2⟩ := RL_exists (pF (nsum fr (vx (plc ka na time) (plc kb nb time)) (vy (plc ka na time) (plc kb nb time)) (vz (plc ka na time) (plc kb nb time)) (vd da db (plc ka na time) (plc kb nb time)) 3) (vn (plc ka na time) (plc kb nb time))) 6006000
  refine ⟨r1, r2, h1, h2, fun W A c B c' kA kB => ?_⟩
  refine (distanceAt_x A B na c nb c' ka kb da db time W ⟨kA, show na ≤ _ by omega⟩ ⟨kB, show nb ≤ _ by omega⟩).mono ?_
  rintro e w' ⟨hb, hh⟩
  have hd : distErr ⟨A, na, c, ka, da⟩ ⟨B, nb, c', kb, db⟩ time = 0 := by
    unfold distErr bothErr timesErr TV.err
    simp only
    rw [hA, hB, oA, oB]
    rfl
  rw [if_pos hd] at hh
  obtain ⟨A', B', s1, s2, ⟨e1, e2, e3⟩, ⟨e4, e5, e6⟩, rfl, q1, q2⟩ := hh
  have t1 : s1 = r1 := by
    refine RL_same (pN_mono hv) ?_ h1
    unfold sqN Trk.p at q1
    simp only [e1, e2, e3, e4, e5, e6] at q1
    exact q1
  have t2 : s2 = r2 := by
    refine RL_same (pF_mono hv) ?_ h2
    unfold sqF Trk.p at q2
    simp only [e1, e2, e3, e4, e5, e6] at q2
    exact q2
  subst t1 t2
  exact ⟨rfl, hb⟩
end Go.Proofs.YtnfoagcpgegldaaGreat
namespace Go.Proofs.YtnfoagcpgegldaaGreat
open Go.RowKit Go.Shelf Go.Sort
attribute [local go_sem] idx3_0 idx3_1 idx3_2 old1 fro1 old2 fro2 old3 fro3 old4 fro4 old5 fro5 old6 fro6 old7 fro7 old8 fro8 old9 fro9 old10 fro10 old11 fro11 old12 fro12
theorem infoKnot : (Tryz.prog.info? 116).map (fun i => (i.zero, i.size, i.bytes)) = some (some (.agg #[.int .i64 0, .int .i64 0, .int .i64 0, .int .i64 0]), 4, 32) := by kernel_rfl
theorem undKnots : Tryz.prog.underlying 22 = some (.slice 116) := by kernel_rfl
def fld (q : Knot) (r : Nat) : Value := if r = 0 then .int .i64 q.t else if r = 1 then .int .i64 q.x else if r = 2 then .int .i64 q.y else .int .i64 q.z
def knotsL (n : Nat) (k : Nat → Knot) : List Value := (List.range (n * 4)).map fun j => fld (k (j / 4)) (j % 4)
theorem knotsL_get {n : Nat} {k : Nat → Knot} {i r : Nat} (hi : i < n) (hr : r < 4) : (knotsL n k)[i * 4 + r]? = some (fld (k i) r) := by
  have h : i * 4 + r < n * 4 := by omega
  have e1 : (i * 4 + r) / 4 = i := by omega
  have e2 : (i * 4 + r) % 4 = r := by omega
  simp [knotsL, h, e1, e2]
theorem knots_news {w : World} {b off n : Nat} {k : Nat → Knot} (hk : KAt w b off n k) : ∀ j u, (knotsL n k)[j]? = some u → w.cell? ((⟨b, off, none⟩ : Addr).add j) = some u := by
  intro j u hu
  have hj : j < n * 4 := by
    have := (List.getElem?_eq_some_iff.1 hu).1
    simpa [knotsL] using this
  obtain ⟨i, r, hr, rfl⟩ : ∃ i r, r < 4 ∧ j = i * 4 + r := ⟨j / 4, j % 4, by omega, by omega⟩
  have hi : i < n := by omega
  rw [knotsL_get hi hr] at hu
  obtain ⟨c1, c2, c3, c4⟩ := hk.2 i hi
  rw [addr_add, ← hu]
  rcases (by omega : r = 0 ∨ r = 1 ∨ r = 2 ∨ r = 3) with rfl | rfl | rfl | rfl
  · exact c1
  · rw [show off + (i * 4 + 1) = off + i * 4 + 1 by omega]; exact c2
  · rw [show off + (i * 4 + 2) = off + i * 4 + 2 by omega]; exact c3
  · rw [show off + (i * 4 + 3) = off + i * 4 + 3 by omega]; exact c4
theorem own_knots {w : World} {base e n : Nat} {v : Value} {k : Nat → Knot} (h : w.ownsRow base e 4 v n (knotsL n k)) : v = .slice (sA v) n (sC v) ∧ KA w (sA v) n k := by
  obtain ⟨h1, h2⟩ := own_parts h
  refine ⟨h1, fun h0 => ?_⟩
  obtain ⟨h3, h4⟩ := h2 h0
  rw [h3] at h1
  rw [h1] at h
  have hc := fun i r (hi : i < n) (hr : r < 4) => h.cells (g := sG v) rfl (i * 4 + r) (fld (k i) r) (knotsL_get hi hr)
  refine ⟨sG v, 0, h3, lt_of (show w.cell? ⟨sG v, 0 + (0 * 4 + 0), none⟩ = some (fld (k 0) 0) from (by have := hc 0 0 h0 (by decide); rwa [addr_add] at this)), fun i hi => ⟨?_, ?_, ?_, ?_⟩⟩
  · have := hc i 0 hi (by decide); rw [addr_add] at this; exact this
  · have := hc i 1 hi (by decide); rw [addr_add] at this; rw [show 0 + i * 4 + 1 = 0 + (i * 4 + 1) by omega]; exact this
  · have := hc i 2 hi (by decide); rw [addr_add] at this; rw [show 0 + i * 4 + 2 = 0 + (i * 4 + 2) by omega]; exact this
  · have := hc i 3 hi (by decide); rw [addr_add] at this; rw [show 0 + i * 4 + 3 = 0 + (i * 4 + 3) by omega]; exact this
theorem fld_one (q : Knot) (r : Nat) : (fld q r).oneCell' = true := by
  unfold fld
  split
  · rfl
  · split
    · rfl
    · split <;> rfl
theorem lcf0 (a : Addr) (acc : Array Value) (w : World) : (loadCellsFrom a 0 0 acc).run Tryz.prog w = .ok acc w := rfl
theorem scl0 (a : Addr) (w : World) : (storeCells a []).run Tryz.prog w = .ok () w := rfl
attribute [local go_sem] lcf0 scl0
set_option maxRecDepth 100000 in
set_option maxHeartbeats 800000 in
theorem copyT_0 (A : Option Addr) (c : Nat) (d : Int) (w : World) (h0 : A = none → c = 0) :
    Calls Tryz.prog 14 #[.agg #[.slice A 0 c, .int .i64 d]] w fun e w' => ∃ A' c', e = .returned (.agg #[.slice A' 0 c', .int .i64 d]) ∧ Below w.heap.size w w' := by
  cases A with
  | none =>
    obtain rfl := h0 rfl
    go_enter Tryz.func14, Tryz.ntmps14
    go_wp2_with fail
    go_region_held3 (fun w' => w'.cell? ⟨w.heap.size, 0, none⟩ = some (.slice none 0 0) ∧ w'.cell? ⟨w.heap.size, 1, none⟩ = some (.int .i64 d)) (simp [go_sem, *]) (first | fail)
    all_goals
      go_wp2_with fail
      refine bodyPost_ret (v := .agg #[.slice (some ⟨w.heap.size + 1 + 1, 0, none⟩) 0 0, .int .i64 d]) (by simp [results, Tryz.results14, go_sem]) rfl ⟨_, _, rfl, by (repeat (first | with_reducible exact Below.refl _ _ | with_reducible assumption | with_reducible refine Below.alloc ?_ (by first | (simp; done) | (simp; omega) | omega) _ | with_reducible refine Below.setCell ?_ (by first | (simp; done) | (simp; omega) | omega) _ | with_reducible refine Below.drew ?_ | with_reducible refine below_drewN ?_ _))⟩
  | some a =>
    go_enter Tryz.func14, Tryz.ntmps14
    go_wp2_with fail
    go_region_held3 (fun w' => w'.cell? ⟨w.heap.size, 0, none⟩ = some (.slice (some a) 0 c) ∧ w'.cell? ⟨w.heap.size, 1, none⟩ = some (.int .i64 d)) (simp [go_sem, *]) (first | fail)
    all_goals
      go_wp2_with fail
      refine bodyPost_ret (v := .agg #[.slice (some ⟨w.heap.size + 1 + 1, 0, none⟩) 0 0, .int .i64 d]) (by simp [results, Tryz.results14, go_sem]) rfl ⟨_, _, rfl, by (repeat (first | with_reducible exact Below.refl _ _ | with_reducible assumption | with_reducible refine Below.alloc ?_ (by first | (simp; done) | (simp; omega) | omega) _ | with_reducible refine Below.setCell ?_ (by first | (simp; done) | (simp; omega) | omega) _ | with_reducible refine Below.drew ?_ | with_reducible refine below_drewN ?_ _))⟩
theorem own_new {e : TypeId} {sz : Nat} (W : World) (B : Nat) (h : W.heap.size = B) : ((W.alloc (.cells #[] e)).drew).ownsRow B e sz (.slice (some ⟨B, 0, none⟩) 0 0) 0 [] := by
  subst h
  exact World.ownsRow.drew (World.ownsRow_made W #[] 0 (Nat.le_refl _) (by unfold maxLen; omega) (by simp))
theorem knots_one (n : Nat) (k : Nat → Knot) : ∀ u ∈ knotsL n k, u.oneCell' = true := by
  intro u hu
  obtain ⟨j, _, rfl⟩ := List.mem_map.1 hu
  exact fld_one _ _
theorem own_knots2 {w : World} {base e n g cap : Nat} {k : Nat → Knot} (h : w.ownsRow base e 4 (.slice (some ⟨g, 0, none⟩) n cap) n (knotsL n k)) (h0 : 0 < n) : KAt w g 0 n k := by
  obtain ⟨_, h2⟩ := own_knots h
  obtain ⟨b, off, e1, e2⟩ := h2 h0
  have e3 : sA (.slice (some ⟨g, 0, none⟩) n cap) = some ⟨g, 0, none⟩ := rfl
  rw [e3] at e1
  cases e1
  exact e2
theorem g_ge {w : World} {base e sz m n g cap : Nat} {xs : List Value} (h : w.ownsRow base e sz (.slice (some ⟨g, 0, none⟩) m cap) n xs) : base ≤ g := (h.lt g rfl).1
theorem kat_set {w : World} {b off n : Nat} {k : Nat → Knot} {a : Addr} {v : Value} (h : KAt w b off n k) (ha : a.block ≠ b) : KAt (w.setCell a v) b off n k := by
  have hn : ∀ o, a ≠ ⟨b, o, none⟩ := fun o e => ha (by rw [e])
  refine ⟨by simpa [World.setCell] using h.1, fun i hi => ?_⟩
  obtain ⟨c1, c2, c3, c4⟩ := h.2 i hi
  exact ⟨(World.cell?_setCell_other w a _ v (hn _)).trans c1, (World.cell?_setCell_other w a _ v (hn _)).trans c2, (World.cell?_setCell_other w a _ v (hn _)).trans c3, (World.cell?_setCell_other w a _ v (hn _)).trans c4⟩
set_option maxRecDepth 100000 in
set_option maxHeartbeats 800000 in
theorem copyT_some (b off n c : Nat) (d : Int) (k : Nat → Knot) (w : World) (h0 : 0 < n) (hn : n ≤ 1000000) (hk : KAt w b off n k) :
    Calls Tryz.prog 14 #[.agg #[.slice (some ⟨b, off, none⟩) n c, .int .i64 d]] w fun e w' => ∃ A' c', e = .returned (.agg #[.slice A' n c', .int .i64 d]) ∧ KA w' A' n k ∧ Below w.heap.size w w' := by
  obtain ⟨i0, hi0, hzz⟩ := Option.map_eq_some_iff.1 infoKnot
  simp only [Prod.mk.injEq] at hzz
  obtain ⟨hz0, hz1, hz2⟩ := hzz
  have HN := Lib.hid hk
  clear hk
  go_enter Tryz.func14, Tryz.ntmps14
  go_wp2_with fail
  have hb := HN.out.1
  go_region_held3 (fun w' => w'.cell? ⟨w.heap.size, 0, none⟩ = some (.slice (some ⟨b, off, none⟩) n c) ∧ w'.cell? ⟨w.heap.size, 1, none⟩ = some (.int .i64 d)) (simp [go_sem, *])
    (first
      | (go_loud (
          refine step_append_lies (P := Tryz.prog) _ ?_ (.tmp 3) (.tmp 5) 22 ?_ (w.heap.size + 1 + 1) 116 i0 (.agg #[.int .i64 0, .int .i64 0, .int .i64 0, .int .i64 0]) 4 32 undKnots hi0 hz0 hz1 hz2 ?_ ?_ (.slice (some ⟨w.heap.size + 1 + 1, 0, none⟩) 0 0) 0 [] ?_ ?_ ⟨b, off, none⟩ n c (knotsL n k) ?_ ?_ ?_ ?_ h0 ?_ ?_ ?_ (w.heap.size + 1 + 1 + 1) ?_ ?_;
          (focus rfl);
          (focus rfl);
          (focus rfl);
          (focus decide);
          (focus (simp [Act.eval]));
          (focus (exact own_new _ _ (by simp)));
          (focus (simp [Act.eval]));
          (focus (simp [knotsL]));
          (focus (exact knots_news (HN.out.below (B := w.heap.size) (by (repeat (first | with_reducible exact Below.refl _ _ | with_reducible assumption | with_reducible refine Below.alloc ?_ (by first | (simp; done) | (simp; omega) | omega) _ | with_reducible refine Below.setCell ?_ (by first | (simp; done) | (simp; omega) | omega) _ | with_reducible refine Below.drew ?_ | with_reducible refine below_drewN ?_ _))) hb)));
          (focus (exact knots_one n k));
          (focus (unfold maxLen; omega));
          (focus omega);
          (focus (simp));
          (focus (simp));
          intro g cap w1 hown hgrow hat hlt;
          have hB : Hid (Below w.heap.size w w1) := (by (repeat (first | with_reducible exact Below.refl _ _ | with_reducible assumption | with_reducible refine Below.alloc ?_ (by first | (simp; done) | (simp; omega) | omega) _ | with_reducible refine Below.setCell ?_ (by first | (simp; done) | (simp; omega) | omega) _ | with_reducible refine Below.drew ?_ | with_reducible refine below_drewN ?_ _)) : Below w.heap.size w _).grown hgrow (by first | (simp; done) | (simp; omega) | omega) (fun q hq => by cases hq; show w.heap.size ≤ w.heap.size + 1 + 1; omega);
          have hKA := Lib.hid (own_knots2 (by simpa using hown) h0);
          have e0 := hgrow.cell (a := ⟨w.heap.size, 0, none⟩) (show _ = some (.slice (some ⟨b, off, none⟩) n c) by simp [go_sem]) (by simp [Value.ownBlock]; omega);
          have e1 := hgrow.cell (a := ⟨w.heap.size, 1, none⟩) (show _ = some (.int .i64 d) by simp [go_sem]) (by simp [Value.ownBlock]; omega);
          have r0 := hgrow.cell (a := ⟨w.heap.size + 1, 0, none⟩) (show _ = some (.slice none 0 0) by simp [go_sem]) (by simp [Value.ownBlock]);
          have r1 := hgrow.cell (a := ⟨w.heap.size + 1, 1, none⟩) (show _ = some (.int .i64 0) by simp [go_sem]) (by simp [Value.ownBlock]);
          have f0 := (World.frozen?_of_block (a := ⟨w.heap.size + 1, 0, none⟩) (hgrow.block (w.heap.size + 1) (by first | (simp; done) | (simp; omega) | omega) (by simp [Value.ownBlock]))).trans (show _ = false by simp [go_sem]);
          have f1 := (World.frozen?_of_block (a := ⟨w.heap.size + 1, 1, none⟩) (hgrow.block (w.heap.size + 1) (by first | (simp; done) | (simp; omega) | omega) (by simp [Value.ownBlock]))).trans (show _ = false by simp [go_sem]);
          rw [Nat.zero_add];
          have hG := Lib.hid (g_ge hown);
          clear hown hgrow hat hlt)))
  all_goals
    go_wp2_with fail
    have hg2 := hG.out
    have hw1 : w.heap.size ≤ w.heap.size + 1 := by omega
    have hw2 := hB.out
    refine bodyPost_ret (v := .agg #[.slice (some ⟨g, 0, none⟩) n cap, .int .i64 d]) (by simp [results, Tryz.results14, go_sem, r0, r1]) rfl ⟨_, _, rfl, fun _ => ⟨g, 0, rfl, kat_set (kat_set hKA.out (by show w.heap.size + 1 ≠ g; omega)) (by show w.heap.size + 1 ≠ g; omega)⟩, by (repeat (first | with_reducible exact Below.refl _ _ | with_reducible assumption | with_reducible refine Below.alloc ?_ (by first | (simp; done) | (simp; omega) | omega) _ | with_reducible refine Below.setCell ?_ (by first | (simp; done) | (simp; omega) | omega) _ | with_reducible refine Below.drew ?_ | with_reducible refine below_drewN ?_ _))⟩
theorem copyT_any (A : Option Addr) (n c : Nat) (d : Int) (k : Nat → Knot) (w : World) (hn : n ≤ 1000000) (h0 : A = none → n = 0 ∧ c = 0) (hk : KA w A n k) :
    Calls Tryz.prog 14 #[.agg #[.slice A n c, .int .i64 d]] w fun e w' => ∃ A' c', e = .returned (.agg #[.slice A' n c', .int .i64 d]) ∧ KA w' A' n k ∧ Below w.heap.size w w' := by
  rcases Nat.eq_zero_or_pos n with e | e
  · subst e
    exact (copyT_0 A c d w (fun q => (h0 q).2)).mono fun e w' ⟨A', c', he, hb⟩ => ⟨A', c', he, fun h => absurd h (Nat.lt_irrefl 0), hb⟩
  · obtain ⟨b, off, rfl, hk2⟩ := hk e
    exact copyT_some b off n c d k w e hn hk2
end Go.Proofs.YtnfoagcpgegldaaGreat
