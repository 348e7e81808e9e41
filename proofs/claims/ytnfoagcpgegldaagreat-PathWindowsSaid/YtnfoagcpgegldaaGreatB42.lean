/- The statement PathWindowsSaid: whatever the view and the grid, the law PathWindows returns true, and its arguments read afterwards as before. -/
import Derived.Test.YtnfoagcpgegldaaGreatB37
import Derived.Test.YtnfoagcpgegldaaGreatB24
import Derived.Test.YtnfoagcpgegldaaGreatB41
import Derived.Test.YtnfoagcpgegldaaGreatB35
import Derived.Test.YtnfoagcpgegldaaGreatB31
import Derived.Test.YtnfoagcpgegldaaGreatB32
import Derived.Test.YtnfoagcpgegldaaGreatB29
import Derived.Test.YtnfoagcpgegldaaGreatB26
import Derived.Test.YtnfoagcpgegldaaGreatB21
import Derived.ProofKit
import Derived.OpenShut
import Derived.ShutString
import Derived.ChangeOld
import Derived.Below
import Derived.Lib.SmallJoins
import Derived.Deep.Slices
namespace Go.Proofs.YtnfoagcpgegldaaGreat
open Go.RowKit Go.Shelf Go.Sort
attribute [local go_sem] idx3_0 idx3_1 idx3_2 old1 fro1 old2 fro2 old3 fro3 old4 fro4 old5 fro5 old6 fro6 old7 fro7 old8 fro8 old9 fro9 old10 fro10 old11 fro11 old12 fro12
theorem dist3 (d a b c : Int) : d * (a + b + c) = a * d + b * d + c * d := by
  rw [Int.mul_add, Int.mul_add, Int.mul_comm d a, Int.mul_comm d b, Int.mul_comm d c]
theorem rvisibleAt_any (ux uy uz : Int) (C : Option Addr) (n c : Nat) (k : Nat → Cone) (A B : Trk) (time : Int) (w : World) (h4 : n ≤ 4) (hk : KC w C n k) (hu : axErr ux uy uz = 0) (hc : ∀ i, i < n → coneErr (k i) = 0) (hA : VT w A time) (hB : VT w B time) :
    Calls Tryz.prog 40 #[.agg #[.int .i64 ux, .int .i64 uy, .int .i64 uz, .slice C n c, .slice (some ⟨A.b, A.off, none⟩) A.n A.c, .int .i64 A.d, .slice (some ⟨B.b, B.off, none⟩) B.n B.c, .int .i64 B.d], .int .i64 time] w fun e w' => e = .returned (.int .i64 (ansAt ux uy uz n k A B time)) ∧ Below w.heap.size w w' := by
  have vA := (valid_of hA.2.1).2.2.2
  have vB := (valid_of hB.2.1).2.2.2
  obtain ⟨⟨n1, n2⟩, ⟨x1, x2⟩, ⟨y1, y2⟩, ⟨z1, z2⟩, d1, d2⟩ := v_bd (plc_ok hA.2.1 hA.2.2) (plc_ok hB.2.1 hB.2.2) vA vB
  obtain ⟨⟨u1, u2⟩, ⟨u3, u4⟩, u5, u6⟩ := axis_bd hu
  have lF : 0 ≤ sqF A B time time ∧ sqF A B time time ≤ 150000000000000000000000000000 := nsum_bd (fr_bd x1 x2 d1 d2) (fr_bd y1 y2 d1 d2) (fr_bd z1 z2 d1 d2) 3
  have lN : 0 ≤ sqN A B time time ∧ sqN A B time time ≤ 150000000000000000000000000000 := nsum_bd ⟨(nr_bd x1 x2 d1).1, Int.le_trans (nr_bd x1 x2 d1).2 (by decide)⟩ ⟨(nr_bd y1 y2 d1).1, Int.le_trans (nr_bd y1 y2 d1).2 (by decide)⟩ ⟨(nr_bd z1 z2 d1).1, Int.le_trans (nr_bd z1 z2 d1).2 (by decide)⟩ 3
  have eD : (A.d + B.d) * vn (A.p time) (B.p time) = vd A.d B.d (A.p time) (B.p time) := rfl
  have eLo : ∀ a b c : Int, a * vx (A.p time) (B.p time) + b * vy (A.p time) (B.p time) + c * vz (A.p time) (B.p time) - (A.d + B.d) * vn (A.p time) (B.p time) * (siz a + siz b + siz c) = vwLo A B time a b c := fun a b c => by
    rw [eD, dist3]
    rfl
  have eHi : ∀ a b c : Int, a * vx (A.p time) (B.p time) + b * vy (A.p time) (B.p time) + c * vz (A.p time) (B.p time) + (A.d + B.d) * vn (A.p time) (B.p time) * (siz a + siz b + siz c) = vwHi A B time a b c := fun a b c => by
    rw [eD, dist3]
    rfl
  have bd : ∀ a b c : Int, -100 ≤ a → a ≤ 100 → -100 ≤ b → b ≤ 100 → -100 ≤ c → c ≤ 100 → (-70000000000000000 ≤ vwLo A B time a b c ∧ vwLo A B time a b c ≤ 70000000000000000) ∧ -70000000000000000 ≤ vwHi A B time a b c ∧ vwHi A B time a b c ≤ 70000000000000000 :=
    fun a b c h1 h2 h3 h4 h5 h6 => al_bd x1 x2 y1 y2 z1 z2 d1 d2 h1 h2 h3 h4 h5 h6
  have sp : ∀ a b c : Int, -100 ≤ a → a ≤ 100 → -100 ≤ b → b ≤ 100 → -100 ≤ c → c ≤ 100 → 0 ≤ (A.d + B.d) * vn (A.p time) (B.p time) * (siz a + siz b + siz c) ∧ (A.d + B.d) * vn (A.p time) (B.p time) * (siz a + siz b + siz c) ≤ 200000000000 * 300 := fun a b c h1 h2 h3 h4 h5 h6 => by
    rw [eD]
    have s1 := siz_le (b := 100) h1 h2
    have s2 := siz_le (b := 100) h3 h4
    have s3 := siz_le (b := 100) h5 h6
    have t1 := siz_nn a
    have t2 := siz_nn b
    have t3 := siz_nn c
    exact ⟨Int.mul_nonneg d1 (by omega), Int.mul_le_mul d2 (by omega) (by omega) (by omega)⟩
  have hd0 : 0 ≤ (A.d + B.d) * vn (A.p time) (B.p time) ∧ (A.d + B.d) * vn (A.p time) (B.p time) ≤ 200000000000 := by rw [eD]; exact ⟨d1, d2⟩
  have key := rvisibleAt_x ux uy uz C (some ⟨A.b, A.off, none⟩) (some ⟨B.b, B.off, none⟩) n c A.n A.c B.n B.c k A.d B.d time (vx (A.p time) (B.p time)) (vy (A.p time) (B.p time)) (vz (A.p time) (B.p time)) (vn (A.p time) (B.p time)) (sqN A B time time) (sqF A B time time)
    (ux * vx (A.p time) (B.p time) + uy * vy (A.p time) (B.p time) + uz * vz (A.p time) (B.p time)) (siz ux + siz uy + siz uz)
    (fun j => (k j).x * vx (A.p time) (B.p time) + (k j).y * vy (A.p time) (B.p time) + (k j).z * vz (A.p time) (B.p time)) (fun j => siz (k j).x + siz (k j).y + siz (k j).z) (hidF k A B time) (hidN k A B time) w h4 hk
    (fun W hb => rbetween_any A B time time W (hA.below hb) (hB.below hb))
    (fun W hb => (squares_any W A B time time (hA.below hb) (hB.below hb)).mono fun e w' ⟨A1, c1, A2, c2, he, r1, r2, hb2⟩ => ⟨A1, c1, A2, c2, by rw [he]; unfold WV; rw [siz_p lN.1, siz_p lF.1], by rw [siz_p lN.1]; exact r1, by rw [siz_p lF.1]; exact r2, hb2⟩)
    (fun W => bdotG_any ux uy uz _ _ _ u1 u2 u3 u4 u5 u6 x1 x2 y1 y2 z1 z2 W)
    (fun W => spread_any ux uy uz u1 u2 u3 u4 u5 u6 W)
    (fun j hj W => by
      obtain ⟨⟨⟨a1, a2⟩, ⟨b1, b2⟩, c1, c2⟩, _⟩ := cone_ok (hc j hj)
      exact bdotG_any _ _ _ _ _ _ a1 a2 b1 b2 c1 c2 x1 x2 y1 y2 z1 z2 W)
    (fun j hj W => by
      obtain ⟨⟨⟨a1, a2⟩, ⟨b1, b2⟩, c1, c2⟩, _⟩ := cone_ok (hc j hj)
      exact spread_any _ _ _ a1 a2 b1 b2 c1 c2 W)
    (fun j hj W X cX hd => by
      obtain ⟨⟨⟨a1, a2⟩, ⟨b1, b2⟩, c1, c2⟩, _⟩ := cone_ok (hc j hj)
      have q := (bd _ _ _ a1 a2 b1 b2 c1 c2).2
      show Calls Tryz.prog 84 #[_, .int .i64 ((k j).x * vx (A.p time) (B.p time) + (k j).y * vy (A.p time) (B.p time) + (k j).z * vz (A.p time) (B.p time) + (A.d + B.d) * vn (A.p time) (B.p time) * (siz (k j).x + siz (k j).y + siz (k j).z)), _] W _
      rw [eHi]
      exact rhides_any (k j) _ _ X cX W (hc j hj) q.1 q.2 lN.1 lN.2 hd)
    (fun j hj W X cX hd => by
      obtain ⟨⟨⟨a1, a2⟩, ⟨b1, b2⟩, c1, c2⟩, _⟩ := cone_ok (hc j hj)
      have q := (bd _ _ _ a1 a2 b1 b2 c1 c2).1
      show Calls Tryz.prog 84 #[_, .int .i64 ((k j).x * vx (A.p time) (B.p time) + (k j).y * vy (A.p time) (B.p time) + (k j).z * vz (A.p time) (B.p time) - (A.d + B.d) * vn (A.p time) (B.p time) * (siz (k j).x + siz (k j).y + siz (k j).z)), _] W _
      rw [eLo]
      exact rhides_any (k j) _ _ X cX W (hc j hj) q.1 q.2 lF.1 lF.2 hd)
    (IntWalk.i64_in _ (by omega)) (IntWalk.i64_in _ (by omega)) (IntWalk.i64_in _ (by have := sp ux uy uz u1 u2 u3 u4 u5 u6; omega)) (IntWalk.i64_in _ (by rw [eLo]; have := (bd ux uy uz u1 u2 u3 u4 u5 u6).1; omega)) (IntWalk.i64_in _ (by rw [eHi]; have := (bd ux uy uz u1 u2 u3 u4 u5 u6).2; omega))
    (fun j hj => by
      obtain ⟨⟨⟨a1, a2⟩, ⟨b1, b2⟩, c1, c2⟩, _⟩ := cone_ok (hc j hj)
      exact IntWalk.i64_in _ (by have := sp _ _ _ a1 a2 b1 b2 c1 c2; omega))
    (fun j hj => by
      obtain ⟨⟨⟨a1, a2⟩, ⟨b1, b2⟩, c1, c2⟩, _⟩ := cone_ok (hc j hj)
      exact IntWalk.i64_in _ (by simp only [eHi]; have := (bd _ _ _ a1 a2 b1 b2 c1 c2).2; omega))
    (fun j hj => by
      obtain ⟨⟨⟨a1, a2⟩, ⟨b1, b2⟩, c1, c2⟩, _⟩ := cone_ok (hc j hj)
      exact IntWalk.i64_in _ (by simp only [eLo]; have := (bd _ _ _ a1 a2 b1 b2 c1 c2).1; omega))
  have e1 : decide (ux * vx (A.p time) (B.p time) + uy * vy (A.p time) (B.p time) + uz * vz (A.p time) (B.p time) + (A.d + B.d) * vn (A.p time) (B.p time) * (siz ux + siz uy + siz uz) < 0) = decide (vwHi A B time ux uy uz < 0) := by rw [eHi]
  have e2 : decide ((A.d + B.d) * vn (A.p time) (B.p time) * (siz ux + siz uy + siz uz) ≤ ux * vx (A.p time) (B.p time) + uy * vy (A.p time) (B.p time) + uz * vz (A.p time) (B.p time)) = decide (0 ≤ vwLo A B time ux uy uz) := by
    rw [decide_eq_decide, ← eLo]
    omega
  rw [e1, e2] at key
  exact key
end Go.Proofs.YtnfoagcpgegldaaGreat
namespace Go.Proofs.YtnfoagcpgegldaaGreat
open Go.RowKit Go.Shelf Go.Sort
attribute [local go_sem] idx3_0 idx3_1 idx3_2 old1 fro1 old2 fro2 old3 fro3 old4 fro4 old5 fro5 old6 fro6 old7 fro7 old8 fro8 old9 fro9 old10 fro10 old11 fro11 old12 fro12
theorem vis_call2 (ux uy uz : Int) (n : Nat) (k : Nat → Cone) (na nb : Nat) (ka kb : Nat → Knot) (da db time : Int) (hs : (siteRes ux uy uz n k).2 = 0) (eA : ctErr ka na da = 0) (eB : ctErr kb nb db = 0) (oA : outside time ka na = false) (oB : outside time kb nb = false)
    (W : World) (X : Option Addr) (cX : Nat) (hx : KC W X n k) (Y : Option Addr) (cY : Nat) (Z : Option Addr) (cZ : Nat) (hy : KA W Y na ka) (hz : KA W Z nb kb) :
    Calls Tryz.prog 36 #[.agg #[.int .i64 ux, .int .i64 uy, .int .i64 uz, .slice X n cX, .slice Y na cY, .int .i64 da, .slice Z nb cZ, .int .i64 db], .int .i64 time] W fun e w' => e = .returned (.tuple #[.int .i64 (ansAt ux uy uz n k ⟨0, 0, na, 0, ka, da⟩ ⟨0, 0, nb, 0, kb, db⟩ time), .int .i64 0]) ∧ Below W.heap.size W w' := by
  have h4 := (site_0 hs).2.1
  have nA := (valid_of eA).2.1
  have nB := (valid_of eB).2.1
  refine (visibleAt_x ux uy uz X Y Z n cX na cY nb cZ k ka kb da db time W (by omega) hx ⟨hy, by show na ≤ _; omega⟩ ⟨hz, by show nb ≤ _; omega⟩).mono ?_
  rintro e w' ⟨rfl, hb⟩
  have h1 : vwErr (siteRes ux uy uz n k).2 (⟨Y, na, cY, ka, da⟩ : TV) (⟨Z, nb, cZ, kb, db⟩ : TV) = 0 := by
    unfold vwErr
    rw [if_pos hs]
    unfold bothErr
    rw [if_pos (show TV.err (⟨Y, na, cY, ka, da⟩ : TV) = 0 from eA)]
    exact eB
  have h2 : timesErr (⟨Y, na, cY, ka, da⟩ : TV) (⟨Z, nb, cZ, kb, db⟩ : TV) time = 0 := by
    unfold timesErr
    simp only [oA, oB]
    rfl
  have h3 : visErr (siteRes ux uy uz n k).2 (⟨Y, na, cY, ka, da⟩ : TV) (⟨Z, nb, cZ, kb, db⟩ : TV) time = 0 := by
    unfold visErr
    rw [if_pos h1]
    exact h2
  refine ⟨?_, hb⟩
  unfold visV
  rw [h3, if_pos rfl]
  rfl
end Go.Proofs.YtnfoagcpgegldaaGreat
namespace Go.Proofs.YtnfoagcpgegldaaGreat
open Go.RowKit Go.Shelf Go.Sort
attribute [local go_sem] idx3_0 idx3_1 idx3_2 old1 fro1 old2 fro2 old3 fro3 old4 fro4 old5 fro5 old6 fro6 old7 fro7 old8 fro8 old9 fro9 old10 fro10 old11 fro11 old12 fro12
theorem tms_0 {A B : TV} {s : Int} (h : timesErr A B s = 0) : outside s A.k A.n = false ∧ outside s B.k B.n = false := by
  unfold timesErr at h
  cases h1 : outside s A.k A.n <;> cases h2 : outside s B.k B.n <;> simp [h1, h2] at h ⊢
theorem tAt_0 {fr : Int} (st : Int) (h1 : -9223372036854775808 ≤ fr) (h2 : fr ≤ 9223372036854775807) : tAt fr st 0 = fr := by
  unfold tAt
  rw [Int.zero_mul, IntWalk.i64_in 0 (by omega), Int.add_zero, IntWalk.i64_in _ (by omega)]
theorem pathWindows_any (ux uy uz : Int) (C SA SB : Option Addr) (n c na ca nb cb : Nat) (da db fr st ct : Int) (k : Nat → Cone) (ka kb : Nat → Knot) (w : World) (hn : n ≤ 9223372036854775807) (hna : na ≤ 9223372036854775807) (hnb : nb ≤ 9223372036854775807) (f1 : -9223372036854775808 ≤ fr) (f2 : fr ≤ 9223372036854775807)
    (hC0 : C = none → n = 0 ∧ c = 0) (hA0 : SA = none → na = 0 ∧ ca = 0) (hB0 : SB = none → nb = 0 ∧ cb = 0) (hC : KC w C n k) (hA : KA w SA na ka) (hB : KA w SB nb kb) :
    Calls Tryz.prog 10 #[.agg #[.int .i64 ux, .int .i64 uy, .int .i64 uz, .slice C n c, .slice SA na ca, .int .i64 da, .slice SB nb cb, .int .i64 db], .agg #[.int .i64 fr, .int .i64 st, .int .i64 ct]] w fun e w' => e = .returned (.bool true) ∧ Below w.heap.size w w' := by
  have VW := fun W => view_any ux uy uz C SA SB n c na ca nb cb da db W hn hna hnb
  by_cases hf : na ≤ 14 ∧ nb ≤ 14 ∧ n ≤ 6
  case neg =>
    rw [show ((decide ((na : Int) ≤ 14) && decide ((nb : Int) ≤ 14)) && decide ((n : Int) ≤ 6)) = false by
      rw [Bool.and_eq_false_iff, Bool.and_eq_false_iff, decide_eq_false_iff_not, decide_eq_false_iff_not, decide_eq_false_iff_not]; omega] at VW
    exact pw_e ux uy uz C SA SB n c na ca nb cb da db fr st ct k ka kb w hC hA hB VW
  rw [show ((decide ((na : Int) ≤ 14) && decide ((nb : Int) ≤ 14)) && decide ((n : Int) ≤ 6)) = true by
      rw [Bool.and_eq_true, Bool.and_eq_true, decide_eq_true_eq, decide_eq_true_eq, decide_eq_true_eq]; omega] at VW
  cases hwi : wi ct 41 200 with
  | true => exact pw_w ux uy uz C SA SB n c na ca nb cb da db fr st ct k ka kb w hC hA hB VW hwi
  | false =>
  have CX := fun W a b d => copyView_any ux uy uz C SA SB n c na ca nb cb da db k ka kb W (by omega) (by omega) (by omega) hC0 hA0 hB0 a b d
  have VE := fun W a b d => rviewErr_any ux uy uz C SA SB n c na ca nb cb k ka kb da db W hn hna hnb a b d
  obtain ⟨cm, hcm⟩ : ∃ cm, IntKind.i64.wrap (ct - 1) = cm := ⟨_, rfl⟩
  obtain ⟨T1, hT1⟩ : ∃ T1, tAt fr st cm = T1 := ⟨_, rfl⟩
  have hT0 : tAt fr st 0 = fr := tAt_0 st f1 f2
  have PW : ∀ E, wnErr (siteRes ux uy uz n k).2 (⟨SA, na, ca, ka, da⟩ : TV) (⟨SB, nb, cb, kb, db⟩ : TV) st ct fr T1 = E → E ≠ 0 → ∀ W X cX Y cY Z cZ, KC W X n k → KA W Y na ka → KA W Z nb kb → Calls Tryz.prog 41 #[.agg #[.int .i64 ux, .int .i64 uy, .int .i64 uz, .slice X n cX, .slice Y na cY, .int .i64 da, .slice Z nb cZ, .int .i64 db], .agg #[.int .i64 fr, .int .i64 st, .int .i64 ct]] W fun e w' => e = .returned (.tuple #[.slice none 0 0, .int .i64 E]) ∧ Below W.heap.size W w' := by
    rintro E rfl hE W X cX Y cY Z cZ a b d
    exact windows_err ux uy uz X Y Z n cX na cY nb cZ k ka kb da db fr st ct cm fr T1 W hn a ⟨b, hna⟩ ⟨d, hnb⟩ hcm hT0 hT1 hE
  by_cases hv : vwErr (siteRes ux uy uz n k).2 (⟨SA, na, ca, ka, da⟩ : TV) (⟨SB, nb, cb, kb, db⟩ : TV) = 0
  case neg => exact pw_d1 ux uy uz C SA SB n c na ca nb cb da db fr st ct k ka kb w hC hA hB VW hwi CX (PW _ (by unfold wnErr; rw [if_neg hv]) hv) VE hv
  rw [hv] at VE
  by_cases hg : grE st ct = 0
  case neg => exact pw_d2 ux uy uz C SA SB n c na ca nb cb da db fr st ct k ka kb w hC hA hB VW hwi CX (PW _ (by unfold wnErr; rw [if_pos hv, if_neg hg]) hg) VE (fun W _ _ => gridErr_1 ux uy uz C SA SB n c na ca nb cb da db fr st ct W hg) hg
  obtain ⟨hs, eA, eB⟩ := vw_0 hv
  replace eA : ctErr ka na da = 0 := eA
  replace eB : ctErr kb nb db = 0 := eB
  obtain ⟨hu, h4, hc⟩ := site_0 hs
  obtain ⟨a0, a12, _, _⟩ := valid_of eA
  obtain ⟨b0, b12, _, d0, d1⟩ := valid_of eB
  have TE : ∀ x W, KA W SA na ka → KA W SB nb kb → Calls Tryz.prog 17 #[.agg #[.slice SA na ca, .int .i64 da], .agg #[.slice SB nb cb, .int .i64 db], .int .i64 x] W fun e w' => e = .returned (.int .i64 (timesErr (⟨SA, na, ca, ka, da⟩ : TV) (⟨SB, nb, cb, kb, db⟩ : TV) x)) ∧ Below W.heap.size W w' := by
    intro x W a b
    obtain ⟨p, o, rfl, k1⟩ := a a0
    obtain ⟨p', o', rfl, k2⟩ := b b0
    exact timesErr_any p o p' o' na ca nb cb da db x ka kb W a0 (by omega) b0 (by omega) k1 k2
  have hP : IntKind.i64.wrap (fr + IntKind.i64.wrap (cm * st)) = T1 := hT1
  have GE2 := fun W a b => gridErr_2 ux uy uz C SA SB n c na ca nb cb da db fr st ct cm _ T1 (timesErr (⟨SA, na, ca, ka, da⟩ : TV) (⟨SB, nb, cb, kb, db⟩ : TV) fr) (timesErr (⟨SA, na, ca, ka, da⟩ : TV) (⟨SB, nb, cb, kb, db⟩ : TV) T1) ka kb W a b hg hcm rfl hP (TE fr) (fun _ => TE T1)
  have wn2 : wnErr (siteRes ux uy uz n k).2 (⟨SA, na, ca, ka, da⟩ : TV) (⟨SB, nb, cb, kb, db⟩ : TV) st ct fr T1 = if timesErr (⟨SA, na, ca, ka, da⟩ : TV) (⟨SB, nb, cb, kb, db⟩ : TV) fr = 0 then timesErr (⟨SA, na, ca, ka, da⟩ : TV) (⟨SB, nb, cb, kb, db⟩ : TV) T1 else timesErr (⟨SA, na, ca, ka, da⟩ : TV) (⟨SB, nb, cb, kb, db⟩ : TV) fr := by unfold wnErr; rw [if_pos hv, if_pos hg]
  by_cases hz : (if timesErr (⟨SA, na, ca, ka, da⟩ : TV) (⟨SB, nb, cb, kb, db⟩ : TV) fr = 0 then timesErr (⟨SA, na, ca, ka, da⟩ : TV) (⟨SB, nb, cb, kb, db⟩ : TV) T1 else timesErr (⟨SA, na, ca, ka, da⟩ : TV) (⟨SB, nb, cb, kb, db⟩ : TV) fr) = 0
  case neg => exact pw_d2 ux uy uz C SA SB n c na ca nb cb da db fr st ct k ka kb w hC hA hB VW hwi CX (PW _ wn2 hz) VE GE2 hz
  rw [hz] at GE2 wn2
  obtain ⟨t0, t1⟩ : timesErr (⟨SA, na, ca, ka, da⟩ : TV) (⟨SB, nb, cb, kb, db⟩ : TV) fr = 0 ∧ timesErr (⟨SA, na, ca, ka, da⟩ : TV) (⟨SB, nb, cb, kb, db⟩ : TV) T1 = 0 := by
    by_cases q : timesErr (⟨SA, na, ca, ka, da⟩ : TV) (⟨SB, nb, cb, kb, db⟩ : TV) fr = 0
    · rw [if_pos q] at hz; exact ⟨q, hz⟩
    · rw [if_neg q] at hz; exact absurd hz q
  obtain ⟨⟨s1, s2⟩, c1, c2⟩ : (1 ≤ st ∧ st ≤ 10000) ∧ 1 ≤ ct ∧ ct ≤ 40 := by
    unfold grE at hg
    cases h1 : wi st 1 10000 with
    | false => rw [h1] at hg; cases hg
    | true =>
      cases h2 : wi ct 1 200 with
      | false => rw [h1, h2] at hg; cases hg
      | true =>
        have := wi_t.1 h1
        have := wi_t.1 h2
        have : ¬ (41 ≤ ct ∧ ct ≤ 200) := fun q => by rw [wi_t.2 q] at hwi; cases hwi
        omega
  obtain ⟨q, rfl⟩ : ∃ q : Nat, ct = q := ⟨ct.toNat, by omega⟩
  have tb : 0 ≤ fr ∧ fr ≤ 1000000000000 := time_bd (A := ⟨0, 0, na, 0, ka, da⟩) ⟨eA, (tms_0 t0).1⟩
  have hcm' : cm = (q : Int) - 1 := by rw [← hcm, IntWalk.i64_in _ (by omega)]
  have jb : ∀ j : Nat, j < q → 0 ≤ (j : Int) * st ∧ (j : Int) * st ≤ ((q : Int) - 1) * st := fun j hj => ⟨Int.mul_nonneg (by omega) (by omega), Int.mul_le_mul_of_nonneg_right (by omega) (by omega)⟩
  have qb : ((q : Int) - 1) * st ≤ 39 * 10000 := Int.mul_le_mul (by omega) s2 (by omega) (by omega)
  have hT1' : T1 = fr + ((q : Int) - 1) * st := by
    have := (jb (q - 1) (by omega))
    rw [← hT1, hcm']
    unfold tAt
    rw [IntWalk.i64_in (((q : Int) - 1) * st) (by have h0 := jb 0 (by omega); omega), IntWalk.i64_in _ (by have h0 := jb 0 (by omega); omega)]
  have hin : ∀ j : Nat, j < q → outside (fr + (j : Int) * st) ka na = false ∧ outside (fr + (j : Int) * st) kb nb = false := by
    intro j hj
    have hj2 := jb j hj
    obtain ⟨x1, x2⟩ := tms_0 t0
    obtain ⟨y1, y2⟩ := tms_0 t1
    exact ⟨(TIn.mid (A := ⟨0, 0, na, 0, ka, da⟩) ⟨eA, x1⟩ ⟨eA, y1⟩ (by omega) (by omega)).2, (TIn.mid (A := ⟨0, 0, nb, 0, kb, db⟩) ⟨eB, x2⟩ ⟨eB, y2⟩ (by omega) (by omega)).2⟩
  have w1 : ∀ j : Nat, j < q → IntKind.i64.wrap ((j : Int) * st) = (j : Int) * st := fun j hj => IntWalk.i64_in _ (by have := jb j hj; omega)
  have w2 : ∀ j : Nat, j < q → IntKind.i64.wrap (fr + (j : Int) * st) = fr + (j : Int) * st := fun j hj => IntWalk.i64_in _ (by have := jb j hj; omega)
  have an : ∀ j : Nat, j < q → ∀ (W : World) (X Y Z : Option Addr) (cX cY cZ : Nat), KC W X n k → KA W Y na ka → KA W Z nb kb → Calls Tryz.prog 79 #[.agg #[.int .i64 ux, .int .i64 uy, .int .i64 uz, .slice X n cX, .slice Y na cY, .int .i64 da, .slice Z nb cZ, .int .i64 db], .int .i64 (fr + (j : Int) * st)] W fun e w' => e = .returned (.int .i64 (ansAt ux uy uz n k ⟨0, 0, na, 0, ka, da⟩ ⟨0, 0, nb, 0, kb, db⟩ (fr + (j : Int) * st))) ∧ Below W.heap.size W w' := by
    intro j hj W X Y Z cX cY cZ a b d
    obtain ⟨p, o, rfl, k1⟩ := b a0
    obtain ⟨p', o', rfl, k2⟩ := d b0
    exact answerAt_any ux uy uz X n cX k ⟨p, o, na, cY, ka, da⟩ ⟨p', o', nb, cZ, kb, db⟩ _ W h4 a hu hc ⟨⟨a0, by show na ≤ 100; omega, k1⟩, eA, (hin j hj).1⟩ ⟨⟨b0, by show nb ≤ 100; omega, k2⟩, eB, (hin j hj).2⟩
  refine pw_m ux uy uz C SA SB n c na ca nb cb da db fr st q (fun i => ansAt ux uy uz n k ⟨0, 0, na, 0, ka, da⟩ ⟨0, 0, nb, 0, kb, db⟩ (fr + i * st)) (fun i => fr + i * st) (fun i => i * st) k ka kb w hC hA hB VW hwi CX ?_ VE GE2 ?_ ?_ (by omega) (by omega) w1 w2
  · intro W X cX Y cY Z cZ a b d
    exact windows_ok ux uy uz X Y Z n cX na cY nb cZ k ka kb da db fr st cm fr T1 q _ _ W hn a ⟨b, hna⟩ ⟨d, hnb⟩ hcm hT0 hT1 wn2 (by omega) (by omega) (fun j hj => by unfold tAt; rw [w1 j hj]; exact w2 j hj) (fun j hj W' hW => an j hj W' X Y Z cX cY cZ (a.bel hW) (b.bel hW) (d.bel hW))
  · intro W a b d
    refine rwindows_any ux uy uz C SA SB n c na ca nb cb k ka kb da db fr st q _ _ _ W a b d (by omega) w1 w2 (fun j hj W' hW => ?_)
    obtain ⟨p, o, rfl, k1⟩ := b.bel hW a0
    obtain ⟨p', o', rfl, k2⟩ := d.bel hW b0
    exact rvisibleAt_any ux uy uz C n c k ⟨p, o, na, ca, ka, da⟩ ⟨p', o', nb, cb, kb, db⟩ _ W' h4 (a.bel hW) hu hc ⟨⟨a0, by show na ≤ 100; omega, k1⟩, eA, (hin j hj).1⟩ ⟨⟨b0, by show nb ≤ 100; omega, k2⟩, eB, (hin j hj).2⟩
  · intro j hj W X cX Y cY Z cZ a b d
    exact vis_call2 ux uy uz n k na nb ka kb da db _ hs eA eB (hin j hj).1 (hin j hj).2 W X cX a Y cY Z cZ b d
end Go.Proofs.YtnfoagcpgegldaaGreat
namespace Go.Proofs.YtnfoagcpgegldaaGreat
open Go.ChangeShapes Go.WideShapes Go.ChangeAt Go.RowKit Go.Joins Go.Deep
theorem owned : ownKnob Tryz.prog.godebug = none := by kernel_rfl
theorem laidAll : laidOutB Tryz.prog = true := by kernel_rfl
theorem cells1 : Tryz.prog.cellsOf 3 = 1 := by kernel_rfl
theorem cells3 : Tryz.prog.cellsOf 114 = 3 := by kernel_rfl
theorem cells4 : Tryz.prog.cellsOf 116 = 4 := by kernel_rfl
theorem cells2 : Tryz.prog.cellsOf 24 = 2 := by kernel_rfl
instance : Inhabited Knot := ⟨⟨0, 0, 0, 0⟩⟩
set_option maxRecDepth 100000 in
theorem read_point {H : Type} {enc : TypeId × Value → H} {w : World} {base : Nat} {sp : Nat → Bool} {held : Bool} {n : Nat} {c0 c1 c2 : Value} {x : DataW H × List MemPlace} (h : DataW.trod enc Tryz.prog w base sp held n 114 [c0, c1, c2] = some x) : ∃ a b c : Int, c0 = .int .i64 a ∧ c1 = .int .i64 b ∧ c2 = .int .i64 c := by
  obtain ⟨xs, m, _, _, hl, hlen, hg⟩ := DataW.trod_struct Tryz.underlying114 h
  match xs, hlen with
  | [y0, y1, y2], _ =>
    have h0 := hg 0 _ rfl
    have h1 := hg 1 _ rfl
    have h2 := hg 2 _ rfl
    simp [cells1] at h0 h1 h2
    obtain ⟨a, e0, _, _⟩ := DataW.trod_int Tryz.underlying3 h0
    obtain ⟨b, e1, _, _⟩ := DataW.trod_int Tryz.underlying3 h1
    obtain ⟨c, e2, _, _⟩ := DataW.trod_int Tryz.underlying3 h2
    simp at e0 e1 e2
    exact ⟨a, b, c, e0, e1, e2⟩
set_option maxRecDepth 100000 in
theorem read_knot {H : Type} {enc : TypeId × Value → H} {w : World} {base : Nat} {sp : Nat → Bool} {held : Bool} {n : Nat} {c0 c1 c2 c3 : Value} {x : DataW H × List MemPlace} (h : DataW.trod enc Tryz.prog w base sp held n 116 [c0, c1, c2, c3] = some x) : ∃ q : Knot, c0 = .int .i64 q.t ∧ c1 = .int .i64 q.x ∧ c2 = .int .i64 q.y ∧ c3 = .int .i64 q.z := by
  obtain ⟨xs, m, _, _, hl, hlen, hg⟩ := DataW.trod_struct Tryz.underlying116 h
  match xs, hlen with
  | [y0, y1], _ =>
    have h0 := hg 0 _ rfl
    have h1 := hg 1 _ rfl
    simp [cells1, cells3] at h0 h1
    obtain ⟨a, e0, _, _⟩ := DataW.trod_int Tryz.underlying3 h0
    obtain ⟨b, c, d, e1, e2, e3⟩ := read_point h1
    simp at e0
    exact ⟨⟨a, b, c, d⟩, e0, e1, e2, e3⟩
set_option maxRecDepth 100000 in
theorem open_track {H : Type} {enc : TypeId × Value → H} {w : World} {base : Nat} {sp : Nat → Bool} {held : Bool} {r : Reach} {b0 : Nat} {v : Value} {d : DataW H} {p : List MemPlace} (hv : Value.okWide Tryz.prog w r b0 24 v) (h : DataW.Trod enc Tryz.prog w base sp held 24 v d p) :
    ∃ (A : Option Addr) (n c : Nat) (k : Nat → Knot) (db : Int), v = .agg #[.slice A n c, .int .i64 db] ∧ n ≤ 9223372036854775807 ∧ (A = none → n = 0 ∧ c = 0) ∧ KA w A n k := by
  obtain ⟨c0, c1, y0, y1, m, rfl, _, _, hy0, hy1⟩ := open_agg2 Tryz.underlying24 (by kernel_rfl) cells2 hv h
  obtain ⟨db, e1, _, _⟩ := DataW.trod_int Tryz.underlying3 hy1
  simp at e1
  subst e1
  rcases open_slice Tryz.underlying22 hy0 with ⟨hcs, _⟩ | ⟨a, len, cap, m', n', D, Pl, hcs, _, hl, hm, hmm, _, hx⟩
  · simp at hcs
    subst hcs
    exact ⟨none, 0, 0, fun _ => default, db, rfl, by omega, fun _ => ⟨rfl, rfl⟩, fun h => absurd h (Nat.lt_irrefl 0)⟩
  · simp at hcs
    subst hcs
    rw [cells4] at hx
    have hlm : len ≤ m' := by rw [hmm]; split <;> omega
    have hq : ∀ i, i < len → ∃ q : Knot, w.cell? (a.add (i * 4)) = some (.int .i64 q.t) ∧ w.cell? ((a.add (i * 4)).add 1) = some (.int .i64 q.x) ∧ w.cell? ((a.add (i * 4)).add 2) = some (.int .i64 q.y) ∧ w.cell? ((a.add (i * 4)).add 3) = some (.int .i64 q.z) := by
      intro i hi
      obtain ⟨cs', g1, g2⟩ := hx i (by omega)
      obtain ⟨_, hlen, hc⟩ := World.cells?_some g1
      match cs', hlen with
      | [v0, v1, v2, v3], _ =>
        obtain ⟨q, rfl, rfl, rfl, rfl⟩ := read_knot g2
        have z0 := hc 0 (by omega)
        have z1 := hc 1 (by omega)
        have z2 := hc 2 (by omega)
        have z3 := hc 3 (by omega)
        refine ⟨q, ?_, z1, z2, z3⟩
        simpa [Addr.add] using z0
    obtain ⟨k, hk⟩ := choose_lt hq
    refine ⟨some a, len, cap, k, db, rfl, by unfold maxLen at hm; omega, fun h => (by cases h), fun h0 => ?_⟩
    obtain ⟨b, off, spot⟩ := a
    have hc := (hk 0 h0).1
    have hspot : spot = none := by simpa [Addr.add] using World.cell?_spot hc
    subst hspot
    have hc2 : w.cell? ⟨b, off, none⟩ = some (.int .i64 (k 0).t) := by simpa [Addr.add] using hc
    refine ⟨b, off, rfl, lt_of hc2, fun i hi => ?_⟩
    obtain ⟨z0, z1, z2, z3⟩ := hk i hi
    rw [addr_add] at z0 z1 z2 z3
    rw [addr_add] at z1 z2 z3
    exact ⟨z0, z1, z2, z3⟩
end Go.Proofs.YtnfoagcpgegldaaGreat
namespace Go.Proofs.YtnfoagcpgegldaaGreat
open Go.ChangeShapes Go.WideShapes Go.ChangeAt Go.RowKit Go.Joins Go.Deep
theorem cellsSl : Tryz.prog.cellsOf 22 = 1 := by kernel_rfl
set_option maxRecDepth 100000 in
theorem open_trackCells {H : Type} {enc : TypeId × Value → H} {w : World} {base : Nat} {sp : Nat → Bool} {held : Bool} {fuel : Nat} {c0 c1 : Value} {x : DataW H × List MemPlace} (h : DataW.trod enc Tryz.prog w base sp held fuel 24 [c0, c1] = some x) :
    ∃ (A : Option Addr) (n c : Nat) (k : Nat → Knot) (db : Int), c0 = .slice A n c ∧ c1 = .int .i64 db ∧ n ≤ 9223372036854775807 ∧ (A = none → n = 0 ∧ c = 0) ∧ KA w A n k := by
  obtain ⟨xs, m, _, _, hl, hlen, hg⟩ := DataW.trod_struct Tryz.underlying24 h
  match xs, hlen with
  | [y0, y1], _ =>
    have hy0 := hg 0 _ rfl
    have hy1 := hg 1 _ rfl
    simp [cells1, cellsSl] at hy0 hy1
    obtain ⟨db, e1, _, _⟩ := DataW.trod_int Tryz.underlying3 hy1
    simp at e1
    subst e1
    rcases open_slice Tryz.underlying22 hy0 with ⟨hcs, _⟩ | ⟨a, len, cap, m', n', D, Pl, hcs, _, hl, hm, hmm, _, hx⟩
    · simp at hcs
      subst hcs
      exact ⟨none, 0, 0, fun _ => default, db, rfl, rfl, by omega, fun _ => ⟨rfl, rfl⟩, fun h => absurd h (Nat.lt_irrefl 0)⟩
    · simp at hcs
      subst hcs
      rw [cells4] at hx
      have hlm : len ≤ m' := by rw [hmm]; split <;> omega
      have hq : ∀ i, i < len → ∃ q : Knot, w.cell? (a.add (i * 4)) = some (.int .i64 q.t) ∧ w.cell? ((a.add (i * 4)).add 1) = some (.int .i64 q.x) ∧ w.cell? ((a.add (i * 4)).add 2) = some (.int .i64 q.y) ∧ w.cell? ((a.add (i * 4)).add 3) = some (.int .i64 q.z) := by
        intro i hi
        obtain ⟨cs', g1, g2⟩ := hx i (by omega)
        obtain ⟨_, hlen, hc⟩ := World.cells?_some g1
        match cs', hlen with
        | [v0, v1, v2, v3], _ =>
          obtain ⟨q, rfl, rfl, rfl, rfl⟩ := read_knot g2
          have z0 := hc 0 (by omega)
          have z1 := hc 1 (by omega)
          have z2 := hc 2 (by omega)
          have z3 := hc 3 (by omega)
          refine ⟨q, ?_, z1, z2, z3⟩
          simpa [Addr.add] using z0
      obtain ⟨k, hk⟩ := choose_lt hq
      refine ⟨some a, len, cap, k, db, rfl, rfl, by unfold maxLen at hm; omega, fun h => (by cases h), fun h0 => ?_⟩
      obtain ⟨b, off, spot⟩ := a
      have hc := (hk 0 h0).1
      have hspot : spot = none := by simpa [Addr.add] using World.cell?_spot hc
      subst hspot
      have hc2 : w.cell? ⟨b, off, none⟩ = some (.int .i64 (k 0).t) := by simpa [Addr.add] using hc
      refine ⟨b, off, rfl, lt_of hc2, fun i hi => ?_⟩
      obtain ⟨z0, z1, z2, z3⟩ := hk i hi
      rw [addr_add] at z0 z1 z2 z3
      rw [addr_add] at z1 z2 z3
      exact ⟨z0, z1, z2, z3⟩
end Go.Proofs.YtnfoagcpgegldaaGreat
namespace Go.Proofs.YtnfoagcpgegldaaGreat
open Go.ChangeShapes Go.WideShapes Go.ChangeAt Go.RowKit Go.Joins Go.Deep
theorem cells8 : Tryz.prog.cellsOf 59 = 8 := by kernel_rfl
theorem cellsSite : Tryz.prog.cellsOf 57 = 4 := by kernel_rfl
theorem cellsCone : Tryz.prog.cellsOf 122 = 5 := by kernel_rfl
theorem cellsVe : Tryz.prog.cellsOf 54 = 3 := by kernel_rfl
theorem cellsCs : Tryz.prog.cellsOf 55 = 1 := by kernel_rfl
instance : Inhabited Cone := ⟨⟨0, 0, 0, 0, 0⟩⟩
set_option maxRecDepth 100000 in
theorem read_vec {H : Type} {enc : TypeId × Value → H} {w : World} {base : Nat} {sp : Nat → Bool} {held : Bool} {n : Nat} {c0 c1 c2 : Value} {x : DataW H × List MemPlace} (h : DataW.trod enc Tryz.prog w base sp held n 54 [c0, c1, c2] = some x) : ∃ a b c : Int, c0 = .int .i64 a ∧ c1 = .int .i64 b ∧ c2 = .int .i64 c := by
  obtain ⟨xs, m, _, _, hl, hlen, hg⟩ := DataW.trod_struct Tryz.underlying54 h
  match xs, hlen with
  | [y0, y1, y2], _ =>
    have h0 := hg 0 _ rfl
    have h1 := hg 1 _ rfl
    have h2 := hg 2 _ rfl
    simp [cells1] at h0 h1 h2
    obtain ⟨a, e0, _, _⟩ := DataW.trod_int Tryz.underlying3 h0
    obtain ⟨b, e1, _, _⟩ := DataW.trod_int Tryz.underlying3 h1
    obtain ⟨c, e2, _, _⟩ := DataW.trod_int Tryz.underlying3 h2
    simp at e0 e1 e2
    exact ⟨a, b, c, e0, e1, e2⟩
set_option maxRecDepth 100000 in
theorem read_cone {H : Type} {enc : TypeId × Value → H} {w : World} {base : Nat} {sp : Nat → Bool} {held : Bool} {n : Nat} {c0 c1 c2 c3 c4 : Value} {x : DataW H × List MemPlace} (h : DataW.trod enc Tryz.prog w base sp held n 122 [c0, c1, c2, c3, c4] = some x) : ∃ q : Cone, c0 = .int .i64 q.x ∧ c1 = .int .i64 q.y ∧ c2 = .int .i64 q.z ∧ c3 = .int .i64 q.u ∧ c4 = .int .i64 q.d := by
  obtain ⟨xs, m, _, _, hl, hlen, hg⟩ := DataW.trod_struct Tryz.underlying122 h
  match xs, hlen with
  | [y0, y1, y2], _ =>
    have h0 := hg 0 _ rfl
    have h1 := hg 1 _ rfl
    have h2 := hg 2 _ rfl
    simp [cells1, cellsVe] at h0 h1 h2
    obtain ⟨a, b, c, e0, e1, e2⟩ := read_vec h0
    obtain ⟨u, e3, _, _⟩ := DataW.trod_int Tryz.underlying3 h1
    obtain ⟨d, e4, _, _⟩ := DataW.trod_int Tryz.underlying3 h2
    simp at e3 e4
    exact ⟨⟨a, b, c, u, d⟩, e0, e1, e2, e3, e4⟩
set_option maxRecDepth 100000 in
theorem open_siteCells {H : Type} {enc : TypeId × Value → H} {w : World} {base : Nat} {sp : Nat → Bool} {held : Bool} {fuel : Nat} {c0 c1 c2 c3 : Value} {x : DataW H × List MemPlace} (h : DataW.trod enc Tryz.prog w base sp held fuel 57 [c0, c1, c2, c3] = some x) :
    ∃ (ux uy uz : Int) (C : Option Addr) (n c : Nat) (k : Nat → Cone), c0 = .int .i64 ux ∧ c1 = .int .i64 uy ∧ c2 = .int .i64 uz ∧ c3 = .slice C n c ∧ n ≤ 9223372036854775807 ∧ (C = none → n = 0 ∧ c = 0) ∧ KC w C n k := by
  obtain ⟨xs, m, _, _, hl, hlen, hg⟩ := DataW.trod_struct Tryz.underlying57 h
  match xs, hlen with
  | [y0, y1], _ =>
    have hy0 := hg 0 _ rfl
    have hy1 := hg 1 _ rfl
    simp [cellsVe, cellsCs] at hy0 hy1
    obtain ⟨ux, uy, uz, rfl, rfl, rfl⟩ := read_vec hy0
    rcases open_slice Tryz.underlying55 hy1 with ⟨hcs, _⟩ | ⟨a, len, cap, m', n', D, Pl, hcs, _, hl, hm, hmm, _, hx⟩
    · simp at hcs
      subst hcs
      exact ⟨ux, uy, uz, none, 0, 0, fun _ => default, rfl, rfl, rfl, rfl, by omega, fun _ => ⟨rfl, rfl⟩, fun h => absurd h (Nat.lt_irrefl 0)⟩
    · simp at hcs
      subst hcs
      rw [cellsCone] at hx
      have hlm : len ≤ m' := by rw [hmm]; split <;> omega
      have hq : ∀ i, i < len → ∃ q : Cone, w.cell? (a.add (i * 5)) = some (.int .i64 q.x) ∧ w.cell? ((a.add (i * 5)).add 1) = some (.int .i64 q.y) ∧ w.cell? ((a.add (i * 5)).add 2) = some (.int .i64 q.z) ∧ w.cell? ((a.add (i * 5)).add 3) = some (.int .i64 q.u) ∧ w.cell? ((a.add (i * 5)).add 4) = some (.int .i64 q.d) := by
        intro i hi
        obtain ⟨cs', g1, g2⟩ := hx i (by omega)
        obtain ⟨_, hlen, hc⟩ := World.cells?_some g1
        match cs', hlen with
        | [v0, v1, v2, v3, v4], _ =>
          obtain ⟨q, rfl, rfl, rfl, rfl, rfl⟩ := read_cone g2
          have z0 := hc 0 (by omega)
          have z1 := hc 1 (by omega)
          have z2 := hc 2 (by omega)
          have z3 := hc 3 (by omega)
          have z4 := hc 4 (by omega)
          refine ⟨q, ?_, z1, z2, z3, z4⟩
          simpa [Addr.add] using z0
      obtain ⟨k, hk⟩ := choose_lt hq
      refine ⟨ux, uy, uz, some a, len, cap, k, rfl, rfl, rfl, rfl, by unfold maxLen at hm; omega, fun h => (by cases h), fun h0 => ?_⟩
      obtain ⟨b, off, spot⟩ := a
      have hc := (hk 0 h0).1
      have hspot : spot = none := by simpa [Addr.add] using World.cell?_spot hc
      subst hspot
      have hc2 : w.cell? ⟨b, off, none⟩ = some (.int .i64 (k 0).x) := by simpa [Addr.add] using hc
      refine ⟨b, off, rfl, lt_of hc2, fun i hi => ?_⟩
      obtain ⟨z0, z1, z2, z3, z4⟩ := hk i hi
      rw [addr_add] at z0 z1 z2 z3 z4
      rw [addr_add] at z1 z2 z3 z4
      exact ⟨z0, z1, z2, z3, z4⟩
set_option maxRecDepth 100000 in
theorem open_view {H : Type} {enc : TypeId × Value → H} {w : World} {base : Nat} {sp : Nat → Bool} {held : Bool} {r : Reach} {b0 : Nat} {v : Value} {d : DataW H} {p : List MemPlace} (hv : Value.okWide Tryz.prog w r b0 59 v) (h : DataW.Trod enc Tryz.prog w base sp held 59 v d p) :
    ∃ (ux uy uz : Int) (C SA SB : Option Addr) (n c na ca nb cb : Nat) (k : Nat → Cone) (ka kb : Nat → Knot) (da db : Int), v = .agg #[.int .i64 ux, .int .i64 uy, .int .i64 uz, .slice C n c, .slice SA na ca, .int .i64 da, .slice SB nb cb, .int .i64 db] ∧
      (n ≤ 9223372036854775807 ∧ na ≤ 9223372036854775807 ∧ nb ≤ 9223372036854775807) ∧ ((C = none → n = 0 ∧ c = 0) ∧ (SA = none → na = 0 ∧ ca = 0) ∧ (SB = none → nb = 0 ∧ cb = 0)) ∧ KC w C n k ∧ KA w SA na ka ∧ KA w SB nb kb := by
  obtain ⟨cs, rfl, hsz⟩ : ∃ cs, v = .agg cs ∧ cs.size = Tryz.prog.cellsOf 59 := by
    simp only [Value.okWide, Tryz.underlying59] at hv
    obtain ⟨cs, h1, h2, _⟩ := hv
    exact ⟨cs, h1, h2⟩
  rw [cells8] at hsz
  obtain ⟨c0, c1, c2, c3, c4, c5, c6, c7, rfl⟩ : ∃ c0 c1 c2 c3 c4 c5 c6 c7, cs = #[c0, c1, c2, c3, c4, c5, c6, c7] := by
    obtain ⟨l⟩ := cs
    match l, hsz with
    | [c0, c1, c2, c3, c4, c5, c6, c7], _ => exact ⟨c0, c1, c2, c3, c4, c5, c6, c7, rfl⟩
  obtain ⟨fuel, hf⟩ := h
  obtain ⟨xs, m, _, _, hl, hlen, hg⟩ := DataW.trod_struct Tryz.underlying59 hf
  match xs, hlen with
  | [y0, y1, y2], _ =>
    have h0 := hg 0 _ rfl
    have h1 := hg 1 _ rfl
    have h2 := hg 2 _ rfl
    simp [cellsSite, cells2, Value.cells] at h0 h1 h2
    obtain ⟨ux, uy, uz, C, n, c, k, rfl, rfl, rfl, rfl, n1, n2, n3⟩ := open_siteCells h0
    obtain ⟨A, na, ca, ka, da, rfl, rfl, m1, m2, m3⟩ := open_trackCells h1
    obtain ⟨B, nb, cb, kb, db, rfl, rfl, o1, o2, o3⟩ := open_trackCells h2
    exact ⟨ux, uy, uz, C, A, B, n, c, na, ca, nb, cb, k, ka, kb, da, db, rfl, ⟨n1, m1, o1⟩, ⟨n2, m2, o2⟩, n3, m3, o3⟩
end Go.Proofs.YtnfoagcpgegldaaGreat
namespace Go.Proofs.YtnfoagcpgegldaaGreat
open Go.ChangeShapes Go.WideShapes Go.ChangeAt Go.RowKit Go.Joins Go.Deep
theorem cells3g : Tryz.prog.cellsOf 73 = 3 := by kernel_rfl
theorem wf_bd {n : Int} (h : (Lit.int .i64 n).wf = true) : -9223372036854775808 ≤ n ∧ n ≤ 9223372036854775807 := by
  simp [Lit.wf, IntKind.min, IntKind.max, IntKind.signed, IntKind.bits] at h
  omega
set_option maxRecDepth 100000 in
theorem open_grid {Ht : Type} {enc : TypeId × Value → Ht} {w : World} {base : Nat} {sp : Nat → Bool} {held : Bool} {r : Reach} {b0 : Nat} {v : Value} {d : DataW Ht} {p : List MemPlace} (hv : Value.okWide Tryz.prog w r b0 73 v) (h : DataW.Trod enc Tryz.prog w base sp held 73 v d p) :
    ∃ a b c : Int, v = .agg #[.int .i64 a, .int .i64 b, .int .i64 c] ∧ -9223372036854775808 ≤ a ∧ a ≤ 9223372036854775807 := by
  obtain ⟨cs, rfl, hsz⟩ : ∃ cs, v = .agg cs ∧ cs.size = Tryz.prog.cellsOf 73 := by
    simp only [Value.okWide, Tryz.underlying73] at hv
    obtain ⟨cs, h1, h2, _⟩ := hv
    exact ⟨cs, h1, h2⟩
  rw [cells3g] at hsz
  obtain ⟨c0, c1, c2, rfl⟩ : ∃ c0 c1 c2, cs = #[c0, c1, c2] := by
    obtain ⟨l⟩ := cs
    match l, hsz with
    | [c0, c1, c2], _ => exact ⟨c0, c1, c2, rfl⟩
  obtain ⟨fuel, hf⟩ := h
  obtain ⟨xs, m, _, _, hl, hlen, hg⟩ := DataW.trod_struct Tryz.underlying73 hf
  match xs, hlen with
  | [y0, y1, y2], _ =>
    have h0 := hg 0 _ rfl
    have h1 := hg 1 _ rfl
    have h2 := hg 2 _ rfl
    simp [cells1, Value.cells] at h0 h1 h2
    obtain ⟨a, e0, _, w0⟩ := DataW.trod_int Tryz.underlying3 h0
    obtain ⟨b, e1, _, _⟩ := DataW.trod_int Tryz.underlying3 h1
    obtain ⟨c, e2, _, _⟩ := DataW.trod_int Tryz.underlying3 h2
    simp at e0 e1 e2
    subst e0 e1 e2
    exact ⟨a, b, c, rfl, wf_bd w0⟩
set_option maxRecDepth 100000 in
theorem pathWindows_lifted (os : Os) (started : os.Started) (H : Type) (enc : TypeId × Value → H) :
    ReturnsInHanded {} Tryz.checked os 10 .any (Rows.pathWindowsSpec.pre6 enc Tryz.prog Tryz.f10 Rows.pathWindowsRow.domain false) (Rows.pathWindowsSpec.post enc Tryz.prog Tryz.f10 false true false false) := by
  refine returnsInHanded_of_change (C := Tryz.checked) owned started (by kernel_rfl) Tryz.func10
    (ChangeSpec.witness6 (enc := enc) (C := Tryz.checked) false ⟨#[], #[.agg #[.int .i64 0, .int .i64 0, .int .i64 0, .slice none 0 0, .slice none 0 0, .int .i64 0, .slice none 0 0, .int .i64 0], .agg #[.int .i64 0, .int .i64 0, .int .i64 0]], []⟩ 11 (by kernel_rfl) (by kernel_rfl) (by kernel_rfl) (by kernel_rfl)) ?_
  intro W base args ds gs before hval0 hW hcnd _
  have hval : ∀ (j : Nat) t v, Tryz.f10.params[j]? = some t → args[j]? = some v → Value.okWide Tryz.prog W .any base t v := hval0
  have hW' := hW
  obtain ⟨p, q, hA0, hV, rfl, hfz, hnd⟩ := hW
  have hA : DataW.TrodAll enc Tryz.prog W 0 (fun _ => true) true Tryz.f10.params.toList args.toList ds p := hA0
  rw [Tryz.params10] at hA hval
  obtain ⟨v0, vs0, d0, ds0, p0, q0, hargs, rfl, rfl, h0, r0⟩ := trodAll_cons hA
  obtain ⟨v1, vs1, d1, ds1, p1, q1, rfl, rfl, rfl, h1, r1⟩ := trodAll_cons r0
  obtain ⟨rfl, rfl, rfl⟩ := trodAll_nil r1
  obtain rfl : args = #[v0, v1] := by cases args; simp_all
  obtain ⟨rfl, rfl⟩ := trodVars_none hV
  have k0 := h0
  have lt0 : ∀ x ∈ p0, x.block < W.heap.size := by obtain ⟨m, hm⟩ := k0; exact DataW.trod_lt m _ _ _ hm
  obtain ⟨ux, uy, uz, C, SA, SB, n, c, na, ca, nb, cb, k, ka, kb, da, db, rfl, ⟨n1, n2, n3⟩, ⟨z1, z2, z3⟩, k1, k2, k3⟩ := open_view (hval 0 59 v0 rfl rfl) h0
  have k1' := h1
  have lt1 : ∀ x ∈ p1, x.block < W.heap.size := by obtain ⟨m, hm⟩ := k1'; exact DataW.trod_lt m _ _ _ hm
  obtain ⟨fr, st, ct, rfl, f1, f2⟩ := open_grid (hval 1 73 v1 rfl rfl) h1
  clear hA0 hval0
  refine (pathWindows_any ux uy uz C SA SB n c na ca nb cb da db fr st ct k ka kb W n1 n2 n3 f1 f2 z1 z2 z3 k1 k2 k3).mono fun e W' ⟨he, bel⟩ => ?_
  subst he
  exact ⟨_, rfl, _, _, _, [], _, [], hW', trodAll_mk1 (shut_bool Tryz.underlying4 _), (trodAll_cons_mk (Below.trod laidAll (by kernel_rfl) (of_decide_eq_true (by kernel_rfl)) k0 bel lt0) (trodAll_cons_mk (Below.trod laidAll (by kernel_rfl) (of_decide_eq_true (by kernel_rfl)) k1' bel lt1) trodAll_mk0)), rfl, bel.frame _, fun h => by cases h⟩
theorem pathWindows_over : Rows.pathWindowsRow.holds Tryz.pinned (OpenSpec.ofChange Rows.pathWindowsSpec) :=
  OpenClaim.holds_of_wide 10 Tryz.f10 rfl rfl rfl rfl rfl rfl rfl ⟨by kernel_rfl, by kernel_rfl, by kernel_rfl, by kernel_rfl, by kernel_rfl⟩ rfl rfl rfl rfl rfl (by kernel_rfl) Tryz.func10 (by kernel_rfl)
    (of_decide_eq_true (by kernel_rfl)) (by unfold Func.isWrapper; first | (rw [if_pos (by decide +kernel)]; kernel_rfl) | (rw [if_neg (by decide +kernel)]; exact ⟨rfl, rfl⟩))
    (fun os started H enc _ => pathWindows_lifted os started H enc)
/-- THE STATEMENT. -/
theorem pathWindows_holds : Rows.PathWindowsSaid := pathWindows_over
end Go.Proofs.YtnfoagcpgegldaaGreat
