/- Helpers: VisibleAt of a valid view at one of its times answers ansAt. No condition but the hypotheses. -/
import Derived.Test.YtjncjoaohonmjaaGreatB24
import Derived.Test.YtjncjoaohonmjaaGreatB25
import Derived.Test.YtjncjoaohonmjaaGreatB20
import Derived.Test.YtjncjoaohonmjaaGreatB33
namespace Go.Proofs.YtjncjoaohonmjaaGreat
open Go.RowKit Go.Shelf Go.Sort
attribute [local go_sem] idx3_0 idx3_1 idx3_2 old1 fro1 old2 fro2 old3 fro3 old4 fro4 old5 fro5 old6 fro6 old7 fro7 old8 fro8 old9 fro9 old10 fro10 old11 fro11 old12 fro12
theorem vis_call2 (ux uy uz : Int) (n : Nat) (k : Nat → Cone) (na nb : Nat) (ka kb : Nat → Knot) (da db time : Int) (hs : (siteRes ux uy uz n k).2 = 0) (eA : ctErr ka na da = 0) (eB : ctErr kb nb db = 0) (oA : outside time ka na = false) (oB : outside time kb nb = false)
    (W : World) (X : Option Addr) (cX : Nat) (hx : KC W X n k) (Y : Option Addr) (cY : Nat) (Z : Option Addr) (cZ : Nat) (hy : KA W Y na ka) (hz : KA W Z nb kb) :
    Calls Tryz.prog 13 #[.agg #[.int .i64 ux, .int .i64 uy, .int .i64 uz, .slice X n cX, .slice Y na cY, .int .i64 da, .slice Z nb cZ, .int .i64 db], .int .i64 time] W fun e w' => e = .returned (.tuple #[.int .i64 (ansAt ux uy uz n k ⟨0, 0, na, 0, ka, da⟩ ⟨0, 0, nb, 0, kb, db⟩ time), .int .i64 0]) ∧ Below W.heap.size W w' := by
  have h4 := (site_0 hs).2.1
  have nA := (valid_of eA).2.1
  have nB := (valid_of eB).2.1
  refine (visibleAt_x ux uy uz X Y Z n cX na cY nb cZ k ka kb da db time W (by omega) hx ⟨hy, by show na ≤ _; omega⟩ ⟨hz, by show nb ≤ _; omega⟩).mono ?_
  rintro e w' ⟨rfl, hb⟩
  have h1 : vwErr (siteRes ux uy uz n k).2 (⟨Y, na, cY, ka, da⟩ : TV) (⟨Z, nb, cZ, kb, db⟩ : TV) = 0 := by
    unfold vwErr
    rw [if_pos hs]
    unfold bothErr
    rw [if_pos (show TV.err (⟨Y, na, cY, ka, da⟩ : TV) = 0 from eA)]
    exact eB
  have h2 : timesErr (⟨Y, na, cY, ka, da⟩ : TV) (⟨Z, nb, cZ, kb, db⟩ : TV) time = 0 := by
    unfold timesErr
    simp only [oA, oB]
    rfl
  have h3 : visErr (siteRes ux uy uz n k).2 (⟨Y, na, cY, ka, da⟩ : TV) (⟨Z, nb, cZ, kb, db⟩ : TV) time = 0 := by
    unfold visErr
    rw [if_pos h1]
    exact h2
  refine ⟨?_, hb⟩
  unfold visV
  rw [h3, if_pos rfl]
  rfl
end Go.Proofs.YtjncjoaohonmjaaGreat
namespace Go.Proofs.YtjncjoaohonmjaaGreat
open Go.RowKit Go.Shelf Go.Sort
attribute [local go_sem] idx3_0 idx3_1 idx3_2 old1 fro1 old2 fro2 old3 fro3 old4 fro4 old5 fro5 old6 fro6 old7 fro7 old8 fro8 old9 fro9 old10 fro10 old11 fro11 old12 fro12
/-- what the loop finds in the memory -/
structure PJ (w : World) (ux uy uz p0 p1 p2 p3 p4 p5 q0 q1 q2 q3 q4 q5 : Int) (F T : Nat) (W : World) : Prop where
  bel : Below w.heap.size w W
  r0 : W.cell? ⟨w.heap.size + 1 + 1 + 1, 0, none⟩ = some (.int .i64 0)
  r1 : W.cell? ⟨w.heap.size + 1 + 1 + 1, 1, none⟩ = some (.int .i64 0)
  g0 : W.frozen? ⟨w.heap.size + 1 + 1 + 1, 0, none⟩ = false
  g1 : W.frozen? ⟨w.heap.size + 1 + 1 + 1, 1, none⟩ = false
  a0 : W.cell? ⟨w.heap.size + 1 + 1 + 1 + 1, 0, none⟩ = some (.int .i64 ux)
  a1 : W.cell? ⟨w.heap.size + 1 + 1 + 1 + 1, 1, none⟩ = some (.int .i64 uy)
  a2 : W.cell? ⟨w.heap.size + 1 + 1 + 1 + 1, 2, none⟩ = some (.int .i64 uz)
  f0 : W.cell? ⟨F, 0, none⟩ = some (.int .i64 p0)
  f1 : W.cell? ⟨F, 1, none⟩ = some (.int .i64 p1)
  f2 : W.cell? ⟨F, 2, none⟩ = some (.int .i64 p2)
  f3 : W.cell? ⟨F, 3, none⟩ = some (.int .i64 p3)
  f4 : W.cell? ⟨F, 4, none⟩ = some (.int .i64 p4)
  f5 : W.cell? ⟨F, 5, none⟩ = some (.int .i64 p5)
  t0 : W.cell? ⟨T, 0, none⟩ = some (.int .i64 q0)
  t1 : W.cell? ⟨T, 1, none⟩ = some (.int .i64 q1)
  t2 : W.cell? ⟨T, 2, none⟩ = some (.int .i64 q2)
  t3 : W.cell? ⟨T, 3, none⟩ = some (.int .i64 q3)
  t4 : W.cell? ⟨T, 4, none⟩ = some (.int .i64 q4)
  t5 : W.cell? ⟨T, 5, none⟩ = some (.int .i64 q5)
theorem PJ.on {w : World} {ux uy uz p0 p1 p2 p3 p4 p5 q0 q1 q2 q3 q4 q5 : Int} {F T : Nat} {W W1 : World} (h : PJ w ux uy uz p0 p1 p2 p3 p4 p5 q0 q1 q2 q3 q4 q5 F T W) (hb : Below W.heap.size W W1) : PJ w ux uy uz p0 p1 p2 p3 p4 p5 q0 q1 q2 q3 q4 q5 F T W1 :=
  ⟨belowT h.bel hb, keep hb h.r0, keep hb h.r1, (hb.frozen (p := ⟨w.heap.size + 1 + 1 + 1, 0, none⟩) (lt_of h.r0)).trans h.g0, (hb.frozen (p := ⟨w.heap.size + 1 + 1 + 1, 1, none⟩) (lt_of h.r1)).trans h.g1, keep hb h.a0, keep hb h.a1, keep hb h.a2, keep hb h.f0, keep hb h.f1, keep hb h.f2, keep hb h.f3, keep hb h.f4, keep hb h.f5, keep hb h.t0, keep hb h.t1, keep hb h.t2, keep hb h.t3, keep hb h.t4, keep hb h.t5⟩
theorem PJ.far {w : World} {ux uy uz p0 p1 p2 p3 p4 p5 q0 q1 q2 q3 q4 q5 : Int} {F T : Nat} {W : World} (h : PJ w ux uy uz p0 p1 p2 p3 p4 p5 q0 q1 q2 q3 q4 q5 F T W) (M i : Nat) (v : Value) (hM : w.heap.size + 1 + 1 + 1 + 1 < M) (hF : F < M) (hT : T < M) : PJ w ux uy uz p0 p1 p2 p3 p4 p5 q0 q1 q2 q3 q4 q5 F T (W.setCell ⟨M, i, none⟩ v) :=
  ⟨h.bel.setCell (by show w.heap.size ≤ M; omega) v, (World.cell?_setCell_far _ _ _ _ (by show M ≠ w.heap.size + 1 + 1 + 1; omega)).trans h.r0, (World.cell?_setCell_far _ _ _ _ (by show M ≠ w.heap.size + 1 + 1 + 1; omega)).trans h.r1, (World.frozen?_setCell _ _ _ _).trans h.g0, (World.frozen?_setCell _ _ _ _).trans h.g1, (World.cell?_setCell_far _ _ _ _ (by show M ≠ w.heap.size + 1 + 1 + 1 + 1; omega)).trans h.a0, (World.cell?_setCell_far _ _ _ _ (by show M ≠ w.heap.size + 1 + 1 + 1 + 1; omega)).trans h.a1, (World.cell?_setCell_far _ _ _ _ (by show M ≠ w.heap.size + 1 + 1 + 1 + 1; omega)).trans h.a2, (World.cell?_setCell_far _ _ _ _ (by show M ≠ F; omega)).trans h.f0, (World.cell?_setCell_far _ _ _ _ (by show M ≠ F; omega)).trans h.f1, (World.cell?_setCell_far _ _ _ _ (by show M ≠ F; omega)).trans h.f2, (World.cell?_setCell_far _ _ _ _ (by show M ≠ F; omega)).trans h.f3, (World.cell?_setCell_far _ _ _ _ (by show M ≠ F; omega)).trans h.f4, (World.cell?_setCell_far _ _ _ _ (by show M ≠ F; omega)).trans h.f5, (World.cell?_setCell_far _ _ _ _ (by show M ≠ T; omega)).trans h.t0, (World.cell?_setCell_far _ _ _ _ (by show M ≠ T; omega)).trans h.t1, (World.cell?_setCell_far _ _ _ _ (by show M ≠ T; omega)).trans h.t2, (World.cell?_setCell_far _ _ _ _ (by show M ≠ T; omega)).trans h.t3, (World.cell?_setCell_far _ _ _ _ (by show M ≠ T; omega)).trans h.t4, (World.cell?_setCell_far _ _ _ _ (by show M ≠ T; omega)).trans h.t5⟩
theorem out2 {W : World} {M : Nat} {a b c d : Value} (h0 : W.cell? ⟨M, 0, none⟩ = some a) (h1 : W.cell? ⟨M, 1, none⟩ = some b) :
    ((W.setCell ⟨M, 0, none⟩ c).setCell ⟨M, 1, none⟩ d).cell? ⟨M, 0, none⟩ = some c ∧ ((W.setCell ⟨M, 0, none⟩ c).setCell ⟨M, 1, none⟩ d).cell? ⟨M, 1, none⟩ = some d :=
  ⟨(World.cell?_setCell_other _ _ _ _ (by simp)).trans (World.cell?_setCell_same' _ _ _ (by rw [h0]; rfl)), World.cell?_setCell_same' _ _ _ (sSome (by rw [h1]; rfl))⟩
theorem prod_bd {a x : Int} (a1 : -100 ≤ a) (a2 : a ≤ 100) (x1 : -100000000000 ≤ x) (x2 : x ≤ 100000000000) : -10000000000000 ≤ a * x ∧ a * x ≤ 10000000000000 := by
  have h1 := siz_le (b := 100) a1 a2
  have h2 := siz_le (b := 100000000000) x1 x2
  have h3 : siz a * siz x ≤ 100 * 100000000000 := Int.mul_le_mul h1 h2 (siz_nn x) (by omega)
  have h4 : siz (a * x) = siz a * siz x := by unfold siz; rw [Int.natAbs_mul]; simp
  have h5 := siz_of (a * x)
  have h6 := siz_nn (a * x)
  omega
def pt4 (a b c : Int) (j : Int) : Int := if j = 0 then 0 else if j = 1 then a else if j = 2 then b else c
theorem pt4_0 (a b c : Int) : pt4 a b c 0 = 0 := by simp [pt4]
theorem pt4_1 (a b c : Int) : pt4 a b c 1 = a := by simp [pt4]
theorem pt4_2 (a b c : Int) : pt4 a b c 2 = b := by simp [pt4]
theorem pt4_3 (a b c : Int) : pt4 a b c 3 = c := by simp [pt4]
set_option maxRecDepth 100000 in
set_option maxHeartbeats 4000000 in
theorem product_x (ux uy uz p0 p1 p2 p3 p4 p5 q0 q1 q2 q3 q4 q5 d0 e0 d1 e1 d2 e2 x0 y0 x1 y1 x2 y2 c0 c1 c2 h0 h1 h2 : Int) (w : World)
    (wd0 : IntKind.i64.wrap (q0 - p1) = d0) (we0 : IntKind.i64.wrap (q1 - p0) = e0) (wx0 : IntKind.i64.wrap (ux * d0) = x0) (wy0 : IntKind.i64.wrap (ux * e0) = y0) (wd1 : IntKind.i64.wrap (q2 - p3) = d1) (we1 : IntKind.i64.wrap (q3 - p2) = e1) (wx1 : IntKind.i64.wrap (uy * d1) = x1) (wy1 : IntKind.i64.wrap (uy * e1) = y1) (wd2 : IntKind.i64.wrap (q4 - p5) = d2) (we2 : IntKind.i64.wrap (q5 - p4) = e2) (wx2 : IntKind.i64.wrap (uz * d2) = x2) (wy2 : IntKind.i64.wrap (uz * e2) = y2) (sc : IntKind.i64.wrap (min x0 y0) = c0) (_ : IntKind.i64.wrap (0 + min x0 y0) = c0) (sc1 : IntKind.i64.wrap (c0 + min x1 y1) = c1) (sc2 : IntKind.i64.wrap (c1 + min x2 y2) = c2) (sh : IntKind.i64.wrap (max x0 y0) = h0) (_ : IntKind.i64.wrap (0 + max x0 y0) = h0) (sh1 : IntKind.i64.wrap (h0 + max x1 y1) = h1) (sh2 : IntKind.i64.wrap (h1 + max x2 y2) = h2) :
    Calls Tryz.prog 15 #[.agg #[.int .i64 ux, .int .i64 uy, .int .i64 uz], .agg #[.int .i64 p0, .int .i64 p1, .int .i64 p2, .int .i64 p3, .int .i64 p4, .int .i64 p5], .agg #[.int .i64 q0, .int .i64 q1, .int .i64 q2, .int .i64 q3, .int .i64 q4, .int .i64 q5]] w fun e w' => e = .returned (.agg #[.int .i64 c2, .int .i64 h2]) ∧ Below w.heap.size w w' := by
  go_enter Tryz.func15, Tryz.ntmps15
  go_wp2_with fail
  go_cut [8, 9] (fun s8 s9 wx => ∃ F T : Nat, s8 = .slice (some ⟨F, 0, none⟩) 3 3 ∧ s9 = .slice (some ⟨T, 0, none⟩) 3 3 ∧ PJ w ux uy uz p0 p1 p2 p3 p4 p5 q0 q1 q2 q3 q4 q5 F T wx ∧ (w.heap.size + 1 + 1 + 1 + 1 < wx.heap.size ∧ F < wx.heap.size ∧ T < wx.heap.size))
  case first =>
    go_region
    all_goals
      go_wp2_with fail
      go_meet
      case rel =>
        refine ⟨_, _, rfl, rfl, ⟨by (repeat (first | with_reducible exact Below.refl _ _ | with_reducible assumption | with_reducible refine Below.alloc ?_ (by first | (simp; done) | (simp; omega) | omega) _ | with_reducible refine Below.setCell ?_ (by first | (simp; done) | (simp; omega) | omega) _ | with_reducible refine Below.drew ?_ | with_reducible refine below_drewN ?_ _)), by simp [go_sem], by simp [go_sem], by simp [go_sem], by simp [go_sem], by simp [go_sem], by simp [go_sem], by simp [go_sem], by simp [go_sem], by simp [go_sem], by simp [go_sem], by simp [go_sem], by simp [go_sem], by simp [go_sem], by simp [go_sem], by simp [go_sem], by simp [go_sem], by simp [go_sem], by simp [go_sem], by simp [go_sem]⟩, ?_, ?_, ?_⟩
        all_goals first | (simp [go_sem]; done) | (simp [go_sem]; omega)
  case rest =>
    obtain ⟨F, T, rfl, rfl, hP, hA, hF, hT⟩ := hcut
    have HP := Lib.hid hP
    clear hP
    go_wp2_with fail
    go_loopw [11] (fun i wr => ∃ j : Int, 0 ≤ j ∧ j ≤ 3 ∧ i = .int .i64 j ∧ PJ w ux uy uz p0 p1 p2 p3 p4 p5 q0 q1 q2 q3 q4 q5 F T wr ∧ (wr.cell? ⟨wc.heap.size, 0, none⟩ = some (.int .i64 (pt4 c0 c1 c2 j)) ∧ wr.cell? ⟨wc.heap.size, 1, none⟩ = some (.int .i64 (pt4 h0 h1 h2 j))) ∧ (wr.frozen? ⟨wc.heap.size, 0, none⟩ = false ∧ wr.frozen? ⟨wc.heap.size, 1, none⟩ = false)) (fun i _ => 3 - (intOf i).toNat)
    case atStart => exact ⟨0, by omega, by omega, rfl, HP.out.on (by (repeat (first | with_reducible exact Below.refl _ _ | with_reducible assumption | with_reducible refine Below.alloc ?_ (by first | (simp; done) | (simp; omega) | omega) _ | with_reducible refine Below.setCell ?_ (by first | (simp; done) | (simp; omega) | omega) _ | with_reducible refine Below.drew ?_ | with_reducible refine below_drewN ?_ _))), ⟨by rw [pt4_0]; simp [go_sem], by rw [pt4_0]; simp [go_sem]⟩, by simp [go_sem], by simp [go_sem]⟩
    case round =>
      obtain ⟨j, hj0, hj, rfl, hJ, ⟨o0, o1⟩, z0, z1⟩ := hrel
      have HJ := Lib.hid hJ
      obtain ⟨_, r0, r1, g0, g1, a0, a1, a2, f0, f1, f2, f3, f4, f5, t0, t1, t2, t3, t4, t5⟩ := hJ
      have HO := Lib.hid (And.intro o0 o1)
      rcases (by omega : j = 0 ∨ j = 1 ∨ j = 2 ∨ j = 3) with rfl | rfl | rfl | rfl
      · rw [pt4_0] at o0 o1
        go_wp2_with fail
        go_quiet (fail)
        go_wp2_with fail
        go_roundw
        case rel => exact ⟨1, by omega, by omega, by go_num, ((HJ.out.on (below_drewN (Below.refl _ _) _)).far _ _ _ hA hF hT).far _ _ _ hA hF hT, ⟨by rw [pt4_1]; exact (out2 (keep (below_drewN (Below.refl _ _) _) HO.out.1) (keep (below_drewN (Below.refl _ _) _) HO.out.2)).1, by rw [pt4_1]; exact (out2 (keep (below_drewN (Below.refl _ _) _) HO.out.1) (keep (below_drewN (Below.refl _ _) _) HO.out.2)).2⟩, by simpa [go_sem] using z0, by simpa [go_sem] using z1⟩
        case measure => simp [intOf]
      · rw [pt4_1] at o0 o1
        go_wp2_with fail
        go_quiet (fail)
        go_wp2_with fail
        go_roundw
        case rel => exact ⟨2, by omega, by omega, by go_num, ((HJ.out.on (below_drewN (Below.refl _ _) _)).far _ _ _ hA hF hT).far _ _ _ hA hF hT, ⟨by rw [pt4_2]; exact (out2 (keep (below_drewN (Below.refl _ _) _) HO.out.1) (keep (below_drewN (Below.refl _ _) _) HO.out.2)).1, by rw [pt4_2]; exact (out2 (keep (below_drewN (Below.refl _ _) _) HO.out.1) (keep (below_drewN (Below.refl _ _) _) HO.out.2)).2⟩, by simpa [go_sem] using z0, by simpa [go_sem] using z1⟩
        case measure => simp [intOf]
      · rw [pt4_2] at o0 o1
        go_wp2_with fail
        go_quiet (fail)
        go_wp2_with fail
        go_roundw
        case rel => exact ⟨3, by omega, by omega, by go_num, ((HJ.out.on (below_drewN (Below.refl _ _) _)).far _ _ _ hA hF hT).far _ _ _ hA hF hT, ⟨by rw [pt4_3]; exact (out2 (keep (below_drewN (Below.refl _ _) _) HO.out.1) (keep (below_drewN (Below.refl _ _) _) HO.out.2)).1, by rw [pt4_3]; exact (out2 (keep (below_drewN (Below.refl _ _) _) HO.out.1) (keep (below_drewN (Below.refl _ _) _) HO.out.2)).2⟩, by simpa [go_sem] using z0, by simpa [go_sem] using z1⟩
        case measure => simp [intOf]
      · rw [pt4_3] at o0 o1
        go_wp2_with fail
        refine bodyPost_ret (v := .agg #[.int .i64 c2, .int .i64 h2]) (by simp [results, Tryz.results15, go_sem, r0, r1]) rfl ⟨rfl, by have Bq := HJ.out.bel; (repeat (first | with_reducible exact Below.refl _ _ | with_reducible assumption | with_reducible refine Below.alloc ?_ (by first | (simp; done) | (simp; omega) | omega) _ | with_reducible refine Below.setCell ?_ (by first | (simp; done) | (simp; omega) | omega) _ | with_reducible refine Below.drew ?_ | with_reducible refine below_drewN ?_ _))⟩
set_option maxRecDepth 100000 in
set_option maxHeartbeats 800000 in
theorem product_any (ux uy uz p0 p1 p2 p3 p4 p5 q0 q1 q2 q3 q4 q5 : Int) (bux1 : -100 ≤ ux) (bux2 : ux ≤ 100) (buy1 : -100 ≤ uy) (buy2 : uy ≤ 100) (buz1 : -100 ≤ uz) (buz2 : uz ≤ 100) (bp01 : -20000000000 ≤ p0) (bp02 : p0 ≤ 20000000000) (bp11 : -20000000000 ≤ p1) (bp12 : p1 ≤ 20000000000) (bp21 : -20000000000 ≤ p2) (bp22 : p2 ≤ 20000000000) (bp31 : -20000000000 ≤ p3) (bp32 : p3 ≤ 20000000000) (bp41 : -20000000000 ≤ p4) (bp42 : p4 ≤ 20000000000) (bp51 : -20000000000 ≤ p5) (bp52 : p5 ≤ 20000000000) (bq01 : -20000000000 ≤ q0) (bq02 : q0 ≤ 20000000000) (bq11 : -20000000000 ≤ q1) (bq12 : q1 ≤ 20000000000) (bq21 : -20000000000 ≤ q2) (bq22 : q2 ≤ 20000000000) (bq31 : -20000000000 ≤ q3) (bq32 : q3 ≤ 20000000000) (bq41 : -20000000000 ≤ q4) (bq42 : q4 ≤ 20000000000) (bq51 : -20000000000 ≤ q5) (bq52 : q5 ≤ 20000000000) (w : World) :
    Calls Tryz.prog 15 #[.agg #[.int .i64 ux, .int .i64 uy, .int .i64 uz], .agg #[.int .i64 p0, .int .i64 p1, .int .i64 p2, .int .i64 p3, .int .i64 p4, .int .i64 p5], .agg #[.int .i64 q0, .int .i64 q1, .int .i64 q2, .int .i64 q3, .int .i64 q4, .int .i64 q5]] w fun e w' => e = .returned (.agg #[.int .i64 (pn_ ux (q0 - p1) (q1 - p0) + pn_ uy (q2 - p3) (q3 - p2) + pn_ uz (q4 - p5) (q5 - p4)), .int .i64 (pm ux (q0 - p1) (q1 - p0) + pm uy (q2 - p3) (q3 - p2) + pm uz (q4 - p5) (q5 - p4))]) ∧ Below w.heap.size w w' := by
  obtain ⟨x01, x02⟩ := prod_bd (a := ux) (x := q0 - p1) (by omega) (by omega) (by omega) (by omega)
  obtain ⟨y01, y02⟩ := prod_bd (a := ux) (x := q1 - p0) (by omega) (by omega) (by omega) (by omega)
  have vd0 : IntKind.i64.wrap (ux * (q0 - p1)) = ux * (q0 - p1) := IntWalk.i64_in _ (by omega)
  have ve0 : IntKind.i64.wrap (ux * (q1 - p0)) = ux * (q1 - p0) := IntWalk.i64_in _ (by omega)
  have m0 : -10000000000000 ≤ pn_ ux (q0 - p1) (q1 - p0) ∧ pn_ ux (q0 - p1) (q1 - p0) ≤ 10000000000000 := by unfold pn_; omega
  have n0 : -10000000000000 ≤ pm ux (q0 - p1) (q1 - p0) ∧ pm ux (q0 - p1) (q1 - p0) ≤ 10000000000000 := by unfold pm; omega
  obtain ⟨x11, x12⟩ := prod_bd (a := uy) (x := q2 - p3) (by omega) (by omega) (by omega) (by omega)
  obtain ⟨y11, y12⟩ := prod_bd (a := uy) (x := q3 - p2) (by omega) (by omega) (by omega) (by omega)
  have vd1 : IntKind.i64.wrap (uy * (q2 - p3)) = uy * (q2 - p3) := IntWalk.i64_in _ (by omega)
  have ve1 : IntKind.i64.wrap (uy * (q3 - p2)) = uy * (q3 - p2) := IntWalk.i64_in _ (by omega)
  have m1 : -10000000000000 ≤ pn_ uy (q2 - p3) (q3 - p2) ∧ pn_ uy (q2 - p3) (q3 - p2) ≤ 10000000000000 := by unfold pn_; omega
  have n1 : -10000000000000 ≤ pm uy (q2 - p3) (q3 - p2) ∧ pm uy (q2 - p3) (q3 - p2) ≤ 10000000000000 := by unfold pm; omega
  obtain ⟨x21, x22⟩ := prod_bd (a := uz) (x := q4 - p5) (by omega) (by omega) (by omega) (by omega)
  obtain ⟨y21, y22⟩ := prod_bd (a := uz) (x := q5 - p4) (by omega) (by omega) (by omega) (by omega)
  have vd2 : IntKind.i64.wrap (uz * (q4 - p5)) = uz * (q4 - p5) := IntWalk.i64_in _ (by omega)
  have ve2 : IntKind.i64.wrap (uz * (q5 - p4)) = uz * (q5 - p4) := IntWalk.i64_in _ (by omega)
  have m2 : -10000000000000 ≤ pn_ uz (q4 - p5) (q5 - p4) ∧ pn_ uz (q4 - p5) (q5 - p4) ≤ 10000000000000 := by unfold pn_; omega
  have n2 : -10000000000000 ≤ pm uz (q4 - p5) (q5 - p4) ∧ pm uz (q4 - p5) (q5 - p4) ≤ 10000000000000 := by unfold pm; omega
  unfold pn_ at *
  unfold pm at *
  exact product_x ux uy uz p0 p1 p2 p3 p4 p5 q0 q1 q2 q3 q4 q5 (q0 - p1) (q1 - p0) (q2 - p3) (q3 - p2) (q4 - p5) (q5 - p4) (ux * (q0 - p1)) (ux * (q1 - p0)) (uy * (q2 - p3)) (uy * (q3 - p2)) (uz * (q4 - p5)) (uz * (q5 - p4)) (min (ux * (q0 - p1)) (ux * (q1 - p0))) (min (ux * (q0 - p1)) (ux * (q1 - p0)) + min (uy * (q2 - p3)) (uy * (q3 - p2))) (min (ux * (q0 - p1)) (ux * (q1 - p0)) + min (uy * (q2 - p3)) (uy * (q3 - p2)) + min (uz * (q4 - p5)) (uz * (q5 - p4))) (max (ux * (q0 - p1)) (ux * (q1 - p0))) (max (ux * (q0 - p1)) (ux * (q1 - p0)) + max (uy * (q2 - p3)) (uy * (q3 - p2))) (max (ux * (q0 - p1)) (ux * (q1 - p0)) + max (uy * (q2 - p3)) (uy * (q3 - p2)) + max (uz * (q4 - p5)) (uz * (q5 - p4))) w (IntWalk.i64_in _ (by omega)) (IntWalk.i64_in _ (by omega)) vd0 ve0 (IntWalk.i64_in _ (by omega)) (IntWalk.i64_in _ (by omega)) vd1 ve1 (IntWalk.i64_in _ (by omega)) (IntWalk.i64_in _ (by omega)) vd2 ve2 (IntWalk.i64_in _ (by omega)) (by rw [Int.zero_add]; exact IntWalk.i64_in _ (by omega)) (IntWalk.i64_in _ (by omega)) (IntWalk.i64_in _ (by omega)) (IntWalk.i64_in _ (by omega)) (by rw [Int.zero_add]; exact IntWalk.i64_in _ (by omega)) (IntWalk.i64_in _ (by omega)) (IntWalk.i64_in _ (by omega))
end Go.Proofs.YtjncjoaohonmjaaGreat
namespace Go.Proofs.YtjncjoaohonmjaaGreat
open Go.RowKit Go.Shelf Go.Sort
theorem hid_mono {c : Cone} {p p' L L' : Int} (hc : coneErr c = 0) (hp : p ≤ p') (hL : L' ≤ L) (h : hid c p L = true) : hid c p' L' = true := by
  obtain ⟨_, ⟨d1, _⟩, u1, _⟩ := cone_ok hc
  have a1 := (ax2_bd hc).1
  unfold hid at h ⊢
  rw [Bool.and_eq_true, decide_eq_true_eq, decide_eq_true_eq] at h ⊢
  obtain ⟨h1, h2⟩ := h
  have m0 : 0 ≤ c.u * ax2 c := Int.mul_nonneg u1 a1
  have m1 : L' * (c.u * ax2 c) ≤ L * (c.u * ax2 c) := Int.mul_le_mul_of_nonneg_right hL m0
  have m2 : p * p ≤ p' * p' := Int.mul_le_mul hp hp (by omega) (by omega)
  have m3 : p * p * c.d ≤ p' * p' * c.d := Int.mul_le_mul_of_nonneg_right m2 (by omega)
  exact ⟨by omega, by omega⟩
theorem orB_mono {B B' : Nat → Bool} {h h' : Bool} : ∀ {n : Nat}, (h = true → h' = true) → (∀ j, j < n → B j = true → B' j = true) → orB B h n = true → orB B' h' n = true
  | 0, hh, _, e => hh e
  | n + 1, hh, hb, e => by
    have e' : (orB B h n || B n) = true := e
    show (orB B' h' n || B' n) = true
    rw [Bool.or_eq_true] at e' ⊢
    rcases e' with q | q
    · exact Or.inl (orB_mono hh (fun j hj => hb j (by omega)) q)
    · exact Or.inr (hb n (by omega) q)
theorem andB_mono {B B' : Nat → Bool} {h h' : Bool} : ∀ {n : Nat}, (h = true → h' = true) → (∀ j, j < n → B' j = true → B j = true) → andB B h n = true → andB B' h' n = true
  | 0, hh, _, e => hh e
  | n + 1, hh, hb, e => by
    have e' : (andB B h n && !B n) = true := e
    show (andB B' h' n && !B' n) = true
    rw [Bool.and_eq_true] at e' ⊢
    refine ⟨andB_mono hh (fun j hj => hb j (by omega)) e'.1, ?_⟩
    cases hq : B' n with
    | false => rfl
    | true => rw [hb n (by omega) hq] at e'; cases e'.2
theorem and_not {BF BN : Nat → Bool} {h g : Bool} : ∀ {n : Nat}, (h = true → g = false) → (∀ j, j < n → BF j = true → BN j = true) → andB BN h n = true → orB BF g n = false
  | 0, hh, _, e => hh e
  | n + 1, hh, hb, e => by
    have e' : (andB BN h n && !BN n) = true := e
    rw [Bool.and_eq_true] at e'
    show (orB BF g n || BF n) = false
    rw [and_not hh (fun j hj => hb j (by omega)) e'.1, Bool.false_or]
    cases hq : BF n with
    | false => rfl
    | true => rw [hb n (by omega) hq] at e'; cases e'.2
theorem orB_shift {B : Nat → Bool} {h : Bool} : ∀ {n : Nat}, orB (fun i => B (i + 1)) h n = true → orB B h (n + 1) = true
  | 0, e => by
    show (h || B 0) = true
    have : h = true := e
    rw [this]
    rfl
  | n + 1, e => by
    have e' : (orB (fun i => B (i + 1)) h n || B (n + 1)) = true := e
    show (orB B h (n + 1) || B (n + 1)) = true
    rw [Bool.or_eq_true] at e' ⊢
    rcases e' with q | q
    · exact Or.inl (orB_shift q)
    · exact Or.inr q
theorem andB_shift {B : Nat → Bool} {h : Bool} : ∀ {n : Nat}, andB B h (n + 1) = true → andB (fun i => B (i + 1)) h n = true
  | 0, e => by
    have e' : (h && !B 0) = true := e
    rw [Bool.and_eq_true] at e'
    exact e'.1
  | n + 1, e => by
    have e' : (andB B h (n + 1) && !B (n + 1)) = true := e
    show (andB (fun i => B (i + 1)) h n && !B (n + 1)) = true
    rw [Bool.and_eq_true] at e' ⊢
    exact ⟨andB_shift e'.1, e'.2⟩
section
variable {A B : Trk} {t : Int}
theorem spr_nn {a b c d : Int} (hd : 0 ≤ d) : 0 ≤ siz a * d + siz b * d + siz c * d := by
  have := Int.mul_nonneg (siz_nn a) hd
  have := Int.mul_nonneg (siz_nn b) hd
  have := Int.mul_nonneg (siz_nn c) hd
  omega
theorem spr_mono {a b c d d' : Int} (h : d' ≤ d) : siz a * d' + siz b * d' + siz c * d' ≤ siz a * d + siz b * d + siz c * d := by
  have := Int.mul_le_mul_of_nonneg_left h (siz_nn a)
  have := Int.mul_le_mul_of_nonneg_left h (siz_nn b)
  have := Int.mul_le_mul_of_nonneg_left h (siz_nn c)
  omega
theorem vd_nn (hA : TIn A t) (hB : TIn B t) : 0 ≤ vd A.d B.d (A.p t) (B.p t) := by
  obtain ⟨_, _, _, _, d1, _⟩ := v_bd (plc_ok hA.1 hA.2) (plc_ok hB.1 hB.2) (valid_of hA.1).2.2.2 (valid_of hB.1).2.2.2
  exact d1
theorem vw_le (hA : TIn A t) (hB : TIn B t) (a b c : Int) : vwLo A B t a b c ≤ vwHi A B t a b c := by
  have := spr_nn (a := a) (b := b) (c := c) (vd_nn hA hB)
  unfold vwLo vwHi alo ahi
  omega
theorem fr_sq {x d d' : Int} (h0 : 0 ≤ d') (h : d' ≤ d) : fr x d' * fr x d' ≤ fr x d * fr x d := by
  have := siz_nn x
  exact Int.mul_le_mul (by unfold fr; omega) (by unfold fr; omega) (by unfold fr; omega) (by unfold fr; omega)
theorem nr_sq {x d d' : Int} (h : d' ≤ d) : nr x d * nr x d ≤ nr x d' * nr x d' := by
  have e : nr x d ≤ nr x d' := by unfold nr; omega
  have e0 : 0 ≤ nr x d := by unfold nr; omega
  exact Int.mul_le_mul e e e0 (by omega)
theorem nsum_3 (g : Int → Int → Int) (x y z d : Int) : nsum g x y z d 3 = g x d * g x d + g y d * g y d + g z d * g z d := by simp [nsum]
theorem nf_le {x y z d : Int} (hd : 0 ≤ d) : nsum nr x y z d 3 ≤ nsum fr x y z d 3 := by
  rw [nsum_3, nsum_3]
  have key : ∀ x : Int, nr x d * nr x d ≤ fr x d * fr x d := fun x => by
    have := siz_nn x
    have e : nr x d ≤ fr x d := by unfold nr fr; omega
    have e0 : 0 ≤ nr x d := by unfold nr; omega
    exact Int.mul_le_mul e e e0 (by omega)
  have := key x
  have := key y
  have := key z
  omega
theorem sq_le2 (hA : TIn A t) (hB : TIn B t) : sqN A B t t ≤ sqF A B t t := nf_le (vd_nn hA hB)
/-- where it is surely visible, it is not surely hidden -/
theorem yes_not (hA : TIn A t) (hB : TIn B t) {ux uy uz : Int} {n : Nat} {k : Nat → Cone} (hc : ∀ i, i < n → coneErr (k i) = 0) (h : andB (hidN k A B t) (decide (0 ≤ vwLo A B t ux uy uz)) n = true) : orB (hidF k A B t) (decide (vwHi A B t ux uy uz < 0)) n = false := by
  refine and_not ?_ (fun j hj hq => hid_mono (hc j hj) (vw_le hA hB _ _ _) (sq_le2 hA hB) hq) h
  intro e
  rw [decide_eq_true_eq] at e
  rw [decide_eq_false_iff_not]
  have := vw_le hA hB ux uy uz
  omega
theorem ans_2 (hA : TIn A t) (hB : TIn B t) {ux uy uz : Int} {n : Nat} {k : Nat → Cone} (hc : ∀ i, i < n → coneErr (k i) = 0) : ansAt ux uy uz n k A B t = 2 ↔ andB (hidN k A B t) (decide (0 ≤ vwLo A B t ux uy uz)) n = true := by
  unfold ansAt ansOf
  constructor
  · intro h
    split at h
    · cases h
    · split at h
      · assumption
      · cases h
  · intro h
    rw [yes_not hA hB hc h, h]
    rfl
theorem ans_0 {ux uy uz : Int} {n : Nat} {k : Nat → Cone} : ansAt ux uy uz n k A B t = 0 ↔ orB (hidF k A B t) (decide (vwHi A B t ux uy uz < 0)) n = true := by
  unfold ansAt ansOf
  constructor
  · intro h
    split at h
    · assumption
    · split at h <;> cases h
  · intro h
    rw [if_pos h]
theorem ans_012 {ux uy uz : Int} {n : Nat} {k : Nat → Cone} : ansAt ux uy uz n k A B t = 0 ∨ ansAt ux uy uz n k A B t = 1 ∨ ansAt ux uy uz n k A B t = 2 := by
  unfold ansAt ansOf
  split
  · exact Or.inl rfl
  · split
    · exact Or.inr (Or.inr rfl)
    · exact Or.inr (Or.inl rfl)
/-- with a smaller doubt -/
theorem sharp_sure {B' : Trk} (hA : TIn A t) (hB : TIn B t) (hB' : TIn B' t) (ek : B'.k = B.k) (en : B'.n = B.n) (ed : B'.d ≤ B.d) {ux uy uz : Int} {n : Nat} {k : Nat → Cone} (hc : ∀ i, i < n → coneErr (k i) = 0) (h : ansAt ux uy uz n k A B t ≠ 1) : ansAt ux uy uz n k A B' t = ansAt ux uy uz n k A B t := by
  have ep : B'.p t = B.p t := by unfold Trk.p; rw [ek, en]
  have h0 : 0 ≤ vd A.d B'.d (A.p t) (B'.p t) := vd_nn hA hB'
  have hv : vd A.d B'.d (A.p t) (B'.p t) ≤ vd A.d B.d (A.p t) (B.p t) := by
    rw [ep]
    unfold vd
    refine Int.mul_le_mul_of_nonneg_right (by omega) ?_
    have a := (plc_ok hA.1 hA.2).1
    have b := (plc_ok hB.1 hB.2).1
    exact Int.mul_nonneg (show 0 ≤ (A.p t).n by unfold Trk.p; omega) (show 0 ≤ (B.p t).n by unfold Trk.p; omega)
  have lo : ∀ a b c, vwLo A B t a b c ≤ vwLo A B' t a b c := fun a b c => by
    have := spr_mono (a := a) (b := b) (c := c) hv
    unfold vwLo alo
    rw [ep] at this ⊢
    omega
  have hi : ∀ a b c, vwHi A B' t a b c ≤ vwHi A B t a b c := fun a b c => by
    have := spr_mono (a := a) (b := b) (c := c) hv
    unfold vwHi ahi
    rw [ep] at this ⊢
    omega
  have sF : sqF A B' t t ≤ sqF A B t t := by
    unfold sqF
    rw [ep] at h0 hv ⊢
    rw [nsum_3, nsum_3]
    have := fr_sq (x := vx (A.p t) (B.p t)) h0 hv
    have := fr_sq (x := vy (A.p t) (B.p t)) h0 hv
    have := fr_sq (x := vz (A.p t) (B.p t)) h0 hv
    omega
  have sN : sqN A B t t ≤ sqN A B' t t := by
    unfold sqN
    rw [ep] at hv ⊢
    rw [nsum_3, nsum_3]
    have := nr_sq (x := vx (A.p t) (B.p t)) hv
    have := nr_sq (x := vy (A.p t) (B.p t)) hv
    have := nr_sq (x := vz (A.p t) (B.p t)) hv
    omega
  rcases ans_012 (A := A) (B := B) (t := t) (ux := ux) (uy := uy) (uz := uz) (n := n) (k := k) with e | e | e
  · rw [e]
    rw [ans_0] at e ⊢
    refine orB_mono ?_ (fun j hj hq => hid_mono (hc j hj) (lo _ _ _) sF hq) e
    intro q
    rw [decide_eq_true_eq] at q ⊢
    have := hi ux uy uz
    omega
  · exact absurd e h
  · rw [e]
    rw [ans_2 hA hB hc] at e
    rw [ans_2 hA hB' hc]
    refine andB_mono ?_ (fun j hj hq => hid_mono (hc j hj) (hi _ _ _) sN hq) e
    intro q
    rw [decide_eq_true_eq] at q ⊢
    have := lo ux uy uz
    omega
theorem open_no {ux uy uz : Int} {n : Nat} {k k' : Nat → Cone} (h : ansAt ux uy uz 0 k' A B t = 0) : ansAt ux uy uz n k A B t = 0 := by
  rw [ans_0] at h ⊢
  have e : decide (vwHi A B t ux uy uz < 0) = true := h
  rw [e]
  clear h e
  induction n with
  | zero => rfl
  | succ n ih =>
    show (orB (hidF k A B t) true n || hidF k A B t n) = true
    rw [ih]
    rfl
theorem open_yes (hA : TIn A t) (hB : TIn B t) {ux uy uz : Int} {n : Nat} {k k' : Nat → Cone} (hc : ∀ i, i < n → coneErr (k i) = 0) (h : ansAt ux uy uz n k A B t = 2) : ansAt ux uy uz 0 k' A B t = 2 := by
  rw [ans_2 hA hB hc] at h
  rw [ans_2 hA hB (fun i hi => absurd hi (Nat.not_lt_zero i))]
  show decide (0 ≤ vwLo A B t ux uy uz) = true
  generalize decide (0 ≤ vwLo A B t ux uy uz) = q at h
  clear hc
  induction n with
  | zero => exact h
  | succ n ih =>
    have e' : (andB (hidN k A B t) q n && !hidN k A B t n) = true := h
    rw [Bool.and_eq_true] at e'
    exact ih e'.1
theorem open_under (hA : TIn A t) (hB : TIn B t) {ux uy uz : Int} {k k' : Nat → Cone} (h : ansAt ux uy uz 0 k A B t = 0) : ansAt (-ux) (-uy) (-uz) 0 k' A B t = 2 := by
  rw [ans_0] at h
  have e : vwHi A B t ux uy uz < 0 := by
    have : decide (vwHi A B t ux uy uz < 0) = true := h
    exact of_decide_eq_true this
  rw [ans_2 hA hB (fun i hi => absurd hi (Nat.not_lt_zero i))]
  show decide (0 ≤ vwLo A B t (-ux) (-uy) (-uz)) = true
  rw [decide_eq_true_eq]
  have s : ∀ x : Int, siz (-x) = siz x := fun x => by unfold siz; omega
  unfold vwHi ahi at e
  unfold vwLo alo
  rw [s, s, s, Int.neg_mul, Int.neg_mul, Int.neg_mul]
  omega
theorem fewer_yes (hA : TIn A t) (hB : TIn B t) {ux uy uz : Int} {n : Nat} {k : Nat → Cone} (hc : ∀ i, i < n + 1 → coneErr (k i) = 0) (h : ansAt ux uy uz (n + 1) k A B t = 2) : ansAt ux uy uz n (fun i => k (i + 1)) A B t = 2 := by
  rw [ans_2 hA hB hc] at h
  rw [ans_2 hA hB (fun i hi => hc (i + 1) (by omega))]
  exact andB_shift h
theorem fewer_no {ux uy uz : Int} {n : Nat} {k : Nat → Cone} (h : ansAt ux uy uz n (fun i => k (i + 1)) A B t = 0) : ansAt ux uy uz (n + 1) k A B t = 0 := by
  rw [ans_0] at h ⊢
  exact orB_shift h
end
end Go.Proofs.YtjncjoaohonmjaaGreat
namespace Go.Proofs.YtjncjoaohonmjaaGreat
open Go.RowKit Go.Shelf Go.Sort
attribute [local go_sem] idx3_0 idx3_1 idx3_2 old1 fro1 old2 fro2 old3 fro3 old4 fro4 old5 fro5 old6 fro6 old7 fro7 old8 fro8 old9 fro9 old10 fro10 old11 fro11 old12 fro12
set_option maxRecDepth 100000 in
set_option maxHeartbeats 800000 in
theorem raround_any (c n d : Int) (n1 : 1 ≤ n) (n2 : n ≤ 10000) (c1 : -10000000000 ≤ c) (c2 : c ≤ 10000000000) (d1 : 0 ≤ d) (d2 : d ≤ 1000) (w : World) :
    Calls Tryz.prog 37 #[.int .i64 c, .int .i64 n, .int .i64 d] w fun e w' => e = .returned (.agg #[.int .i64 (c / n - d), .int .i64 (-(-c / n) + d)]) ∧ Below w.heap.size w w' := by
  have f1 := floor_plain c n (by omega)
  have f2 := floor_plain (-c) n (by omega)
  have t1 := tdiv_bd c n (by omega) (by omega) (by omega)
  have t2 := tdiv_bd (-c) n (by omega) (by omega) (by omega)
  have u1 : IntKind.i64.wrap (c / n - d) = c / n - d := IntWalk.i64_in _ (by omega)
  have u2 : IntKind.i64.wrap (-(-c / n) + d) = -(-c / n) + d := IntWalk.i64_in _ (by omega)
  clear f1 f2 t1 t2
  go_enter Tryz.func37, Tryz.ntmps37
  go_wp2_with (first
    | (go_at_call 75; (with_reducible refine Calls.mono (bfloor_any c n (by omega) (by omega) (by omega) (by omega) _) ?_); rintro e w2 ⟨rfl, rfl⟩)
    | (go_at_call 76; (with_reducible refine Calls.mono (bceil_any c n (by omega) (by omega) (by omega) (by omega) _) ?_); rintro e w2 ⟨rfl, rfl⟩))
  refine bodyPost_ret (v := .agg #[.int .i64 (c / n - d), .int .i64 (-(-c / n) + d)]) (by simp [results, Tryz.results37, go_sem]) rfl ⟨rfl, by (repeat (first | with_reducible exact Below.refl _ _ | with_reducible assumption | with_reducible refine Below.alloc ?_ (by first | (simp; done) | (simp; omega) | omega) _ | with_reducible refine Below.setCell ?_ (by first | (simp; done) | (simp; omega) | omega) _ | with_reducible refine Below.drew ?_ | with_reducible refine below_drewN ?_ _))⟩
set_option maxRecDepth 100000 in
set_option maxHeartbeats 2000000 in
theorem rboxAt_any (b off n c : Nat) (d time : Int) (w : World) (k : Nat → Knot) (hk : KAt w b off n k) (hv : ctErr k n d = 0) (h : outside time k n = false) :
    Calls Tryz.prog 11 #[.agg #[.slice (some ⟨b, off, none⟩) n c, .int .i64 d], .int .i64 time] w fun e w' => e = .returned (boxV (plc k n time) d) ∧ Below w.heap.size w w' := by
  have hP := plc_ok (k := k) (n := n) (d := d) (time := time) hv h
  obtain ⟨d1, d2⟩ := (valid_of (k := k) (n := n) (d := d) hv).2.2.2
  have HPL := fun W (hW : Below w.heap.size w W) => Lib.hid (rpointAt_any b off n c d time W k (hk.below hW hk.1) hv h)
  obtain ⟨⟨n1, n2⟩, ⟨x1, x2⟩, ⟨y1, y2⟩, ⟨z1, z2⟩⟩ := hP
  clear hv h hk
  unfold boxV
  unfold plV at HPL
  generalize plc k n time = p at *
  obtain ⟨px, py, pz, pn⟩ := p
  simp only at *
  go_enter Tryz.func11, Tryz.ntmps11
  go_wp2_with (first
    | (go_at_call 36; (with_reducible refine Calls.mono (HPL _ (by (repeat (first | with_reducible exact Below.refl _ _ | with_reducible assumption | with_reducible refine Below.alloc ?_ (by first | (simp; done) | (simp; omega) | omega) _ | with_reducible refine Below.setCell ?_ (by first | (simp; done) | (simp; omega) | omega) _ | with_reducible refine Below.drew ?_ | with_reducible refine below_drewN ?_ _)))).out ?_); rintro e w2 ⟨rfl, hb2⟩; have B2 := thenB (show Below w.heap.size w _ by (repeat (first | with_reducible exact Below.refl _ _ | with_reducible assumption | with_reducible refine Below.alloc ?_ (by first | (simp; done) | (simp; omega) | omega) _ | with_reducible refine Below.setCell ?_ (by first | (simp; done) | (simp; omega) | omega) _ | with_reducible refine Below.drew ?_ | with_reducible refine below_drewN ?_ _))) hb2; have Bz : w.heap.size + 1 + 1 ≤ w2.heap.size := (by have := hb2.size; simpa using this); have Ap1 := (hb2.cell (p := ⟨w.heap.size, 1, none⟩) (by first | (simp; done) | (simp; omega) | omega)).trans (show _ = some (.int .i64 d) by simp [go_sem]); have Ar0 := (hb2.cell (p := ⟨w.heap.size + 1, 0, none⟩) (by first | (simp; done) | (simp; omega) | omega)).trans (show _ = some (.int .i64 0) by simp [go_sem]); have Ar1 := (hb2.cell (p := ⟨w.heap.size + 1, 1, none⟩) (by first | (simp; done) | (simp; omega) | omega)).trans (show _ = some (.int .i64 0) by simp [go_sem]); have Ar2 := (hb2.cell (p := ⟨w.heap.size + 1, 2, none⟩) (by first | (simp; done) | (simp; omega) | omega)).trans (show _ = some (.int .i64 0) by simp [go_sem]); have Ar3 := (hb2.cell (p := ⟨w.heap.size + 1, 3, none⟩) (by first | (simp; done) | (simp; omega) | omega)).trans (show _ = some (.int .i64 0) by simp [go_sem]); have Ar4 := (hb2.cell (p := ⟨w.heap.size + 1, 4, none⟩) (by first | (simp; done) | (simp; omega) | omega)).trans (show _ = some (.int .i64 0) by simp [go_sem]); have Ar5 := (hb2.cell (p := ⟨w.heap.size + 1, 5, none⟩) (by first | (simp; done) | (simp; omega) | omega)).trans (show _ = some (.int .i64 0) by simp [go_sem]); have Af0 := (hb2.frozen (p := ⟨w.heap.size + 1, 0, none⟩) (by first | (simp; done) | (simp; omega) | omega)).trans (show _ = false by simp [go_sem]); have Af1 := (hb2.frozen (p := ⟨w.heap.size + 1, 1, none⟩) (by first | (simp; done) | (simp; omega) | omega)).trans (show _ = false by simp [go_sem]); have Af2 := (hb2.frozen (p := ⟨w.heap.size + 1, 2, none⟩) (by first | (simp; done) | (simp; omega) | omega)).trans (show _ = false by simp [go_sem]); have Af3 := (hb2.frozen (p := ⟨w.heap.size + 1, 3, none⟩) (by first | (simp; done) | (simp; omega) | omega)).trans (show _ = false by simp [go_sem]); have Af4 := (hb2.frozen (p := ⟨w.heap.size + 1, 4, none⟩) (by first | (simp; done) | (simp; omega) | omega)).trans (show _ = false by simp [go_sem]); have Af5 := (hb2.frozen (p := ⟨w.heap.size + 1, 5, none⟩) (by first | (simp; done) | (simp; omega) | omega)).trans (show _ = false by simp [go_sem]); clear hb2))
  have Cp1 := keepA (.cells #[.int .i64 px, .int .i64 py, .int .i64 pz, .int .i64 pn] 79) Ap1; have Cr0 := keepA (.cells #[.int .i64 px, .int .i64 py, .int .i64 pz, .int .i64 pn] 79) Ar0; have Cr1 := keepA (.cells #[.int .i64 px, .int .i64 py, .int .i64 pz, .int .i64 pn] 79) Ar1; have Cr2 := keepA (.cells #[.int .i64 px, .int .i64 py, .int .i64 pz, .int .i64 pn] 79) Ar2; have Cr3 := keepA (.cells #[.int .i64 px, .int .i64 py, .int .i64 pz, .int .i64 pn] 79) Ar3; have Cr4 := keepA (.cells #[.int .i64 px, .int .i64 py, .int .i64 pz, .int .i64 pn] 79) Ar4; have Cr5 := keepA (.cells #[.int .i64 px, .int .i64 py, .int .i64 pz, .int .i64 pn] 79) Ar5; have Cf0 := (fro1 (p1 := (.cells #[.int .i64 px, .int .i64 py, .int .i64 pz, .int .i64 pn] 79)) (by rw [Ar0]; rfl)).trans Af0; have Cf1 := (fro1 (p1 := (.cells #[.int .i64 px, .int .i64 py, .int .i64 pz, .int .i64 pn] 79)) (by rw [Ar1]; rfl)).trans Af1; have Cf2 := (fro1 (p1 := (.cells #[.int .i64 px, .int .i64 py, .int .i64 pz, .int .i64 pn] 79)) (by rw [Ar2]; rfl)).trans Af2; have Cf3 := (fro1 (p1 := (.cells #[.int .i64 px, .int .i64 py, .int .i64 pz, .int .i64 pn] 79)) (by rw [Ar3]; rfl)).trans Af3; have Cf4 := (fro1 (p1 := (.cells #[.int .i64 px, .int .i64 py, .int .i64 pz, .int .i64 pn] 79)) (by rw [Ar4]; rfl)).trans Af4; have Cf5 := (fro1 (p1 := (.cells #[.int .i64 px, .int .i64 py, .int .i64 pz, .int .i64 pn] 79)) (by rw [Ar5]; rfl)).trans Af5; have Cs0 := (show (w2.alloc (.cells #[.int .i64 px, .int .i64 py, .int .i64 pz, .int .i64 pn] 79)).cell? ⟨w2.heap.size, 0, none⟩ = some (.int .i64 px) by simp [go_sem]); have Cs1 := (show (w2.alloc (.cells #[.int .i64 px, .int .i64 py, .int .i64 pz, .int .i64 pn] 79)).cell? ⟨w2.heap.size, 1, none⟩ = some (.int .i64 py) by simp [go_sem]); have Cs2 := (show (w2.alloc (.cells #[.int .i64 px, .int .i64 py, .int .i64 pz, .int .i64 pn] 79)).cell? ⟨w2.heap.size, 2, none⟩ = some (.int .i64 pz) by simp [go_sem]); have Cs3 := (show (w2.alloc (.cells #[.int .i64 px, .int .i64 py, .int .i64 pz, .int .i64 pn] 79)).cell? ⟨w2.heap.size, 3, none⟩ = some (.int .i64 pn) by simp [go_sem])
  have B9 : Below w.heap.size w (w2.alloc (.cells #[.int .i64 px, .int .i64 py, .int .i64 pz, .int .i64 pn] 79)) := by (repeat (first | with_reducible exact Below.refl _ _ | with_reducible assumption | with_reducible refine Below.alloc ?_ (by first | (simp; done) | (simp; omega) | omega) _ | with_reducible refine Below.setCell ?_ (by first | (simp; done) | (simp; omega) | omega) _ | with_reducible refine Below.drew ?_ | with_reducible refine below_drewN ?_ _))
  have ne1 : w.heap.size + 1 ≠ w2.heap.size := by omega
  have HB9 := Lib.hid B9
  clear B2 Ap1 Ar0 Ar1 Ar2 Ar3 Ar4 Ar5 Af0 Af1 Af2 Af3 Af4 Af5 B9 HPL
  generalize hW9 : w2.alloc (.cells #[.int .i64 px, .int .i64 py, .int .i64 pz, .int .i64 pn] 79) = w9 at *
  clear hW9
  have HX := fun W => Lib.hid (raround_any px pn d n1 n2 x1 x2 d1 d2 W)
  have HY := fun W => Lib.hid (raround_any py pn d n1 n2 y1 y2 d1 d2 W)
  have HZ := fun W => Lib.hid (raround_any pz pn d n1 n2 z1 z2 d1 d2 W)
  go_region_held3 (fun w' => w'.cell? ⟨w.heap.size, 1, none⟩ = some (.int .i64 d) ∧ w'.cell? ⟨w2.heap.size, 0, none⟩ = some (.int .i64 px) ∧ w'.cell? ⟨w2.heap.size, 1, none⟩ = some (.int .i64 py) ∧ w'.cell? ⟨w2.heap.size, 2, none⟩ = some (.int .i64 pz) ∧ w'.cell? ⟨w2.heap.size, 3, none⟩ = some (.int .i64 pn)) (simp [go_sem, *])
    (first
      | (go_at_call 37; (with_reducible refine Calls.mono (HX _).out ?_); rintro e wa ⟨rfl, hba⟩; have HBa := Lib.hid (thenB (show Below w.heap.size w _ by have B := HB9.out; (repeat (first | with_reducible exact Below.refl _ _ | with_reducible assumption | with_reducible refine Below.alloc ?_ (by first | (simp; done) | (simp; omega) | omega) _ | with_reducible refine Below.setCell ?_ (by first | (simp; done) | (simp; omega) | omega) _ | with_reducible refine Below.drew ?_ | with_reducible refine below_drewN ?_ _))) hba); have Dp1 := keep hba Cp1; have Dr0 := keep hba Cr0; have Dr1 := keep hba Cr1; have Dr2 := keep hba Cr2; have Dr3 := keep hba Cr3; have Dr4 := keep hba Cr4; have Dr5 := keep hba Cr5; have Ds0 := keep hba Cs0; have Ds1 := keep hba Cs1; have Ds2 := keep hba Cs2; have Ds3 := keep hba Cs3; have Df0 := (hba.frozen (p := ⟨w.heap.size + 1, 0, none⟩) (by show w.heap.size + 1 < _; exact lt_of Cr0)).trans Cf0; have Df1 := (hba.frozen (p := ⟨w.heap.size + 1, 1, none⟩) (by show w.heap.size + 1 < _; exact lt_of Cr0)).trans Cf1; have Df2 := (hba.frozen (p := ⟨w.heap.size + 1, 2, none⟩) (by show w.heap.size + 1 < _; exact lt_of Cr0)).trans Cf2; have Df3 := (hba.frozen (p := ⟨w.heap.size + 1, 3, none⟩) (by show w.heap.size + 1 < _; exact lt_of Cr0)).trans Cf3; have Df4 := (hba.frozen (p := ⟨w.heap.size + 1, 4, none⟩) (by show w.heap.size + 1 < _; exact lt_of Cr0)).trans Cf4; have Df5 := (hba.frozen (p := ⟨w.heap.size + 1, 5, none⟩) (by show w.heap.size + 1 < _; exact lt_of Cr0)).trans Cf5; clear hba)
      | (go_at_call 37; (with_reducible refine Calls.mono (HY _).out ?_); rintro e wb ⟨rfl, hbb⟩; have HBb := Lib.hid (thenB HBa.out hbb); have Ep1 := keep hbb Dp1; have Er0 := keep hbb Dr0; have Er1 := keep hbb Dr1; have Er2 := keep hbb Dr2; have Er3 := keep hbb Dr3; have Er4 := keep hbb Dr4; have Er5 := keep hbb Dr5; have Es0 := keep hbb Ds0; have Es1 := keep hbb Ds1; have Es2 := keep hbb Ds2; have Es3 := keep hbb Ds3; have Ef0 := (hbb.frozen (p := ⟨w.heap.size + 1, 0, none⟩) (by show w.heap.size + 1 < _; exact lt_of Dr0)).trans Df0; have Ef1 := (hbb.frozen (p := ⟨w.heap.size + 1, 1, none⟩) (by show w.heap.size + 1 < _; exact lt_of Dr0)).trans Df1; have Ef2 := (hbb.frozen (p := ⟨w.heap.size + 1, 2, none⟩) (by show w.heap.size + 1 < _; exact lt_of Dr0)).trans Df2; have Ef3 := (hbb.frozen (p := ⟨w.heap.size + 1, 3, none⟩) (by show w.heap.size + 1 < _; exact lt_of Dr0)).trans Df3; have Ef4 := (hbb.frozen (p := ⟨w.heap.size + 1, 4, none⟩) (by show w.heap.size + 1 < _; exact lt_of Dr0)).trans Df4; have Ef5 := (hbb.frozen (p := ⟨w.heap.size + 1, 5, none⟩) (by show w.heap.size + 1 < _; exact lt_of Dr0)).trans Df5; clear hbb)
      | (go_at_call 37; (with_reducible refine Calls.mono (HZ _).out ?_); rintro e wc ⟨rfl, hbc⟩; have HBc := Lib.hid (thenB HBb.out hbc); have Fp1 := keep hbc Ep1; have Fr0 := keep hbc Er0; have Fr1 := keep hbc Er1; have Fr2 := keep hbc Er2; have Fr3 := keep hbc Er3; have Fr4 := keep hbc Er4; have Fr5 := keep hbc Er5; have Fs0 := keep hbc Es0; have Fs1 := keep hbc Es1; have Fs2 := keep hbc Es2; have Fs3 := keep hbc Es3; have Ff0 := (hbc.frozen (p := ⟨w.heap.size + 1, 0, none⟩) (by show w.heap.size + 1 < _; exact lt_of Er0)).trans Ef0; have Ff1 := (hbc.frozen (p := ⟨w.heap.size + 1, 1, none⟩) (by show w.heap.size + 1 < _; exact lt_of Er0)).trans Ef1; have Ff2 := (hbc.frozen (p := ⟨w.heap.size + 1, 2, none⟩) (by show w.heap.size + 1 < _; exact lt_of Er0)).trans Ef2; have Ff3 := (hbc.frozen (p := ⟨w.heap.size + 1, 3, none⟩) (by show w.heap.size + 1 < _; exact lt_of Er0)).trans Ef3; have Ff4 := (hbc.frozen (p := ⟨w.heap.size + 1, 4, none⟩) (by show w.heap.size + 1 < _; exact lt_of Er0)).trans Ef4; have Ff5 := (hbc.frozen (p := ⟨w.heap.size + 1, 5, none⟩) (by show w.heap.size + 1 < _; exact lt_of Er0)).trans Ef5; clear hbc))
  all_goals
    go_wp2_with fail
    refine bodyPost_ret (v := .agg #[.int .i64 (px / pn - d), .int .i64 (-(-px / pn) + d), .int .i64 (py / pn - d), .int .i64 (-(-py / pn) + d), .int .i64 (pz / pn - d), .int .i64 (-(-pz / pn) + d)]) (by simp [results, Tryz.results11, go_sem, Fr0, Fr1, Fr2, Fr3, Fr4, Fr5]) rfl ?_
    have hw1 : w.heap.size ≤ w.heap.size + 1 := by omega
    have B := HBc.out
    exact ⟨rfl, by (repeat (first | with_reducible exact Below.refl _ _ | with_reducible assumption | with_reducible refine Below.alloc ?_ (by first | (simp; done) | (simp; omega) | omega) _ | with_reducible refine Below.setCell ?_ (by first | (simp; done) | (simp; omega) | omega) _ | with_reducible refine Below.drew ?_ | with_reducible refine below_drewN ?_ _))⟩
end Go.Proofs.YtjncjoaohonmjaaGreat
