/- The statement PathSitesSaid: whatever the view and the time, the law PathSites returns true, and its arguments read afterwards as before. -/
import Derived.Test.YtnfoagcpgegldaaGreatB38
import Derived.Test.YtnfoagcpgegldaaGreatB24
import Derived.Test.YtnfoagcpgegldaaGreatB42
import Derived.Test.YtnfoagcpgegldaaGreatB36
import Derived.Test.YtnfoagcpgegldaaGreatB33
import Derived.Test.YtnfoagcpgegldaaGreatB32
namespace Go.Proofs.YtnfoagcpgegldaaGreat
open Go.RowKit Go.Shelf Go.Sort
attribute [local go_sem] idx3_0 idx3_1 idx3_2 old1 fro1 old2 fro2 old3 fro3 old4 fro4 old5 fro5 old6 fro6 old7 fro7 old8 fro8 old9 fro9 old10 fro10 old11 fro11 old12 fro12
theorem dist3 (d a b c : Int) : d * (a + b + c) = a * d + b * d + c * d := by
  rw [Int.mul_add, Int.mul_add, Int.mul_comm d a, Int.mul_comm d b, Int.mul_comm d c]
theorem rvisibleAt_any (ux uy uz : Int) (C : Option Addr) (n c : Nat) (k : Nat → Cone) (A B : Trk) (time : Int) (w : World) (h4 : n ≤ 4) (hk : KC w C n k) (hu : axErr ux uy uz = 0) (hc : ∀ i, i < n → coneErr (k i) = 0) (hA : VT w A time) (hB : VT w B time) :
    Calls Tryz.prog 40 #[.agg #[.int .i64 ux, .int .i64 uy, .int .i64 uz, .slice C n c, .slice (some ⟨A.b, A.off, none⟩) A.n A.c, .int .i64 A.d, .slice (some ⟨B.b, B.off, none⟩) B.n B.c, .int .i64 B.d], .int .i64 time] w fun e w' => e = .returned (.int .i64 (ansAt ux uy uz n k A B time)) ∧ Below w.heap.size w w' := by
  have vA := (valid_of hA.2.1).2.2.2
  have vB := (valid_of hB.2.1).2.2.2
  obtain ⟨⟨n1, n2⟩, ⟨x1, x2⟩, ⟨y1, y2⟩, ⟨z1, z2⟩, d1, d2⟩ := v_bd (plc_ok hA.2.1 hA.2.2) (plc_ok hB.2.1 hB.2.2) vA vB
  obtain ⟨⟨u1, u2⟩, ⟨u3, u4⟩, u5, u6⟩ := axis_bd hu
  have lF : 0 ≤ sqF A B time time ∧ sqF A B time time ≤ 150000000000000000000000000000 := nsum_bd (fr_bd x1 x2 d1 d2) (fr_bd y1 y2 d1 d2) (fr_bd z1 z2 d1 d2) 3
  have lN : 0 ≤ sqN A B time time ∧ sqN A B time time ≤ 150000000000000000000000000000 := nsum_bd ⟨(nr_bd x1 x2 d1).1, Int.le_trans (nr_bd x1 x2 d1).2 (by decide)⟩ ⟨(nr_bd y1 y2 d1).1, Int.le_trans (nr_bd y1 y2 d1).2 (by decide)⟩ ⟨(nr_bd z1 z2 d1).1, Int.le_trans (nr_bd z1 z2 d1).2 (by decide)⟩ 3
  have eD : (A.d + B.d) * vn (A.p time) (B.p time) = vd A.d B.d (A.p time) (B.p time) := rfl
  have eLo : ∀ a b c : Int, a * vx (A.p time) (B.p time) + b * vy (A.p time) (B.p time) + c * vz (A.p time) (B.p time) - (A.d + B.d) * vn (A.p time) (B.p time) * (siz a + siz b + siz c) = vwLo A B time a b c := fun a b c => by
    rw [eD, dist3]
    rfl
  have eHi : ∀ a b c : Int, a * vx (A.p time) (B.p time) + b * vy (A.p time) (B.p time) + c * vz (A.p time) (B.p time) + (A.d + B.d) * vn (A.p time) (B.p time) * (siz a + siz b + siz c) = vwHi A B time a b c := fun a b c => by
    rw [eD, dist3]
    rfl
  have bd : ∀ a b c : Int, -100 ≤ a → a ≤ 100 → -100 ≤ b → b ≤ 100 → -100 ≤ c → c ≤ 100 → (-70000000000000000 ≤ vwLo A B time a b c ∧ vwLo A B time a b c ≤ 70000000000000000) ∧ -70000000000000000 ≤ vwHi A B time a b c ∧ vwHi A B time a b c ≤ 70000000000000000 :=
    fun a b c h1 h2 h3 h4 h5 h6 => al_bd x1 x2 y1 y2 z1 z2 d1 d2 h1 h2 h3 h4 h5 h6
  have sp : ∀ a b c : Int, -100 ≤ a → a ≤ 100 → -100 ≤ b → b ≤ 100 → -100 ≤ c → c ≤ 100 → 0 ≤ (A.d + B.d) * vn (A.p time) (B.p time) * (siz a + siz b + siz c) ∧ (A.d + B.d) * vn (A.p time) (B.p time) * (siz a + siz b + siz c) ≤ 200000000000 * 300 := fun a b c h1 h2 h3 h4 h5 h6 => by
    rw [eD]
    have s1 := siz_le (b := 100) h1 h2
    have s2 := siz_le (b := 100) h3 h4
    have s3 := siz_le (b := 100) h5 h6
    have t1 := siz_nn a
    have t2 := siz_nn b
    have t3 := siz_nn c
    exact ⟨Int.mul_nonneg d1 (by omega), Int.mul_le_mul d2 (by omega) (by omega) (by omega)⟩
  have hd0 : 0 ≤ (A.d + B.d) * vn (A.p time) (B.p time) ∧ (A.d + B.d) * vn (A.p time) (B.p time) ≤ 200000000000 := by rw [eD]; exact ⟨d1, d2⟩
  have key := rvisibleAt_x ux uy uz C (some ⟨A.b, A.off, none⟩) (some ⟨B.b, B.off, none⟩) n c A.n A.c B.n B.c k A.d B.d time (vx (A.p time) (B.p time)) (vy (A.p time) (B.p time)) (vz (A.p time) (B.p time)) (vn (A.p time) (B.p time)) (sqN A B time time) (sqF A B time time)
    (ux * vx (A.p time) (B.p time) + uy * vy (A.p time) (B.p time) + uz * vz (A.p time) (B.p time)) (siz ux + siz uy + siz uz)
    (fun j => (k j).x * vx (A.p time) (B.p time) + (k j).y * vy (A.p time) (B.p time) + (k j).z * vz (A.p time) (B.p time)) (fun j => siz (k j).x + siz (k j).y + siz (k j).z) (hidF k A B time) (hidN k A B time) w h4 hk
    (fun W hb => rbetween_any A B time time W (hA.below hb) (hB.below hb))
    (fun W hb => (squares_any W A B time time (hA.below hb) (hB.below hb)).mono fun e w' ⟨A1, c1, A2, c2, he, r1, r2, hb2⟩ => ⟨A1, c1, A2, c2, by rw [he]; unfold WV; rw [siz_p lN.1, siz_p lF.1], by rw [siz_p lN.1]; exact r1, by rw [siz_p lF.1]; exact r2, hb2⟩)
    (fun W => bdotG_any ux uy uz _ _ _ u1 u2 u3 u4 u5 u6 x1 x2 y1 y2 z1 z2 W)
    (fun W => spread_any ux uy uz u1 u2 u3 u4 u5 u6 W)
    (fun j hj W => by
      obtain ⟨⟨⟨a1, a2⟩, ⟨b1, b2⟩, c1, c2⟩, _⟩ := cone_ok (hc j hj)
      exact bdotG_any _ _ _ _ _ _ a1 a2 b1 b2 c1 c2 x1 x2 y1 y2 z1 z2 W)
    (fun j hj W => by
      obtain ⟨⟨⟨a1, a2⟩, ⟨b1, b2⟩, c1, c2⟩, _⟩ := cone_ok (hc j hj)
      exact spread_any _ _ _ a1 a2 b1 b2 c1 c2 W)
    (fun j hj W X cX hd => by
      obtain ⟨⟨⟨a1, a2⟩, ⟨b1, b2⟩, c1, c2⟩, _⟩ := cone_ok (hc j hj)
      have q := (bd _ _ _ a1 a2 b1 b2 c1 c2).2
      show Calls Tryz.prog 84 #[_, .int .i64 ((k j).x * vx (A.p time) (B.p time) + (k j).y * vy (A.p time) (B.p time) + (k j).z * vz (A.p time) (B.p time) + (A.d + B.d) * vn (A.p time) (B.p time) * (siz (k j).x + siz (k j).y + siz (k j).z)), _] W _
      rw [eHi]
      exact rhides_any (k j) _ _ X cX W (hc j hj) q.1 q.2 lN.1 lN.2 hd)
    (fun j hj W X cX hd => by
      obtain ⟨⟨⟨a1, a2⟩, ⟨b1, b2⟩, c1, c2⟩, _⟩ := cone_ok (hc j hj)
      have q := (bd _ _ _ a1 a2 b1 b2 c1 c2).1
      show Calls Tryz.prog 84 #[_, .int .i64 ((k j).x * vx (A.p time) (B.p time) + (k j).y * vy (A.p time) (B.p time) + (k j).z * vz (A.p time) (B.p time) - (A.d + B.d) * vn (A.p time) (B.p time) * (siz (k j).x + siz (k j).y + siz (k j).z)), _] W _
      rw [eLo]
      exact rhides_any (k j) _ _ X cX W (hc j hj) q.1 q.2 lF.1 lF.2 hd)
    (IntWalk.i64_in _ (by omega)) (IntWalk.i64_in _ (by omega)) (IntWalk.i64_in _ (by have := sp ux uy uz u1 u2 u3 u4 u5 u6; omega)) (IntWalk.i64_in _ (by rw [eLo]; have := (bd ux uy uz u1 u2 u3 u4 u5 u6).1; omega)) (IntWalk.i64_in _ (by rw [eHi]; have := (bd ux uy uz u1 u2 u3 u4 u5 u6).2; omega))
    (fun j hj => by
      obtain ⟨⟨⟨a1, a2⟩, ⟨b1, b2⟩, c1, c2⟩, _⟩ := cone_ok (hc j hj)
      exact IntWalk.i64_in _ (by have := sp _ _ _ a1 a2 b1 b2 c1 c2; omega))
    (fun j hj => by
      obtain ⟨⟨⟨a1, a2⟩, ⟨b1, b2⟩, c1, c2⟩, _⟩ := cone_ok (hc j hj)
      exact IntWalk.i64_in _ (by simp only [eHi]; have := (bd _ _ _ a1 a2 b1 b2 c1 c2).2; omega))
    (fun j hj => by
      obtain ⟨⟨⟨a1, a2⟩, ⟨b1, b2⟩, c1, c2⟩, _⟩ := cone_ok (hc j hj)
      exact IntWalk.i64_in _ (by simp only [eLo]; have := (bd _ _ _ a1 a2 b1 b2 c1 c2).1; omega))
  have e1 : decide (ux * vx (A.p time) (B.p time) + uy * vy (A.p time) (B.p time) + uz * vz (A.p time) (B.p time) + (A.d + B.d) * vn (A.p time) (B.p time) * (siz ux + siz uy + siz uz) < 0) = decide (vwHi A B time ux uy uz < 0) := by rw [eHi]
  have e2 : decide ((A.d + B.d) * vn (A.p time) (B.p time) * (siz ux + siz uy + siz uz) ≤ ux * vx (A.p time) (B.p time) + uy * vy (A.p time) (B.p time) + uz * vz (A.p time) (B.p time)) = decide (0 ≤ vwLo A B time ux uy uz) := by
    rw [decide_eq_decide, ← eLo]
    omega
  rw [e1, e2] at key
  exact key
end Go.Proofs.YtnfoagcpgegldaaGreat
namespace Go.Proofs.YtnfoagcpgegldaaGreat
open Go.RowKit Go.Shelf Go.Sort
attribute [local go_sem] idx3_0 idx3_1 idx3_2 old1 fro1 old2 fro2 old3 fro3 old4 fro4 old5 fro5 old6 fro6 old7 fro7 old8 fro8 old9 fro9 old10 fro10 old11 fro11 old12 fro12
theorem pathSites_any (ux uy uz : Int) (C SA SB : Option Addr) (n c na ca nb cb : Nat) (da db time : Int) (k : Nat → Cone) (ka kb : Nat → Knot) (w : World) (hn : n ≤ 9223372036854775807) (hna : na ≤ 9223372036854775807) (hnb : nb ≤ 9223372036854775807)
    (hC0 : C = none → n = 0 ∧ c = 0) (hA0 : SA = none → na = 0 ∧ ca = 0) (hB0 : SB = none → nb = 0 ∧ cb = 0) (hC : KC w C n k) (hA : KA w SA na ka) (hB : KA w SB nb kb) :
    Calls Tryz.prog 8 #[.agg #[.int .i64 ux, .int .i64 uy, .int .i64 uz, .slice C n c, .slice SA na ca, .int .i64 da, .slice SB nb cb, .int .i64 db], .int .i64 time] w fun e w' => e = .returned (.bool true) ∧ Below w.heap.size w w'  := by
  have VW := fun W => view_any ux uy uz C SA SB n c na ca nb cb da db W hn hna hnb
  by_cases hf : na ≤ 14 ∧ nb ≤ 14 ∧ n ≤ 6
  case neg =>
    rw [show ((decide ((na : Int) ≤ 14) && decide ((nb : Int) ≤ 14)) && decide ((n : Int) ≤ 6)) = false by
      rw [Bool.and_eq_false_iff, Bool.and_eq_false_iff, decide_eq_false_iff_not, decide_eq_false_iff_not, decide_eq_false_iff_not]; omega] at VW
    exact pz_e ux uy uz C SA SB n c na ca nb cb da db time k ka kb w hC hA hB VW
  rw [show ((decide ((na : Int) ≤ 14) && decide ((nb : Int) ≤ 14)) && decide ((n : Int) ≤ 6)) = true by
      rw [Bool.and_eq_true, Bool.and_eq_true, decide_eq_true_eq, decide_eq_true_eq, decide_eq_true_eq]; omega] at VW
  have CS := fun W a => copySite_any ux uy uz C n c k W (by omega) hC0 a
  have PS := fun W X cX (a : KC W X n k) => checkSite_any ux uy uz X n cX k W hn a
  have RS := fun W (a : KC W C n k) => rcheckSite_any ux uy uz C n c k W hn a
  have CX := fun W a b d => copyView_any ux uy uz C SA SB n c na ca nb cb da db k ka kb W (by omega) (by omega) (by omega) hC0 hA0 hB0 a b d
  have VE := fun W a b d => rviewErr_any ux uy uz C SA SB n c na ca nb cb k ka kb da db W hn hna hnb a b d
  have VI := fun W X cX (a : KC W X n k) Y cY Z cZ (b : KA W Y na ka) (d : KA W Z nb kb) => visibleAt_x ux uy uz X Y Z n cX na cY nb cZ k ka kb da db time W hn a ⟨b, hna⟩ ⟨d, hnb⟩
  have fix : ∀ (Y Z : Option Addr) (cY cZ : Nat), vwErr (siteRes ux uy uz n k).2 (⟨Y, na, cY, ka, da⟩ : TV) (⟨Z, nb, cZ, kb, db⟩ : TV) = vwErr (siteRes ux uy uz n k).2 (⟨SA, na, ca, ka, da⟩ : TV) (⟨SB, nb, cb, kb, db⟩ : TV) := fun _ _ _ _ => rfl
  by_cases hv : vwErr (siteRes ux uy uz n k).2 (⟨SA, na, ca, ka, da⟩ : TV) (⟨SB, nb, cb, kb, db⟩ : TV) = 0
  case neg =>
    refine pz_d ux uy uz C SA SB n c na ca nb cb da db time k ka kb w hC hA hB VW CS PS CX (fun W X cX a Y cY Z cZ b d => (VI W X cX a Y cY Z cZ b d).mono ?_) RS VE hv
    rintro e w' ⟨rfl, hb⟩
    have e1 : visErr (siteRes ux uy uz n k).2 (⟨Y, na, cY, ka, da⟩ : TV) (⟨Z, nb, cZ, kb, db⟩ : TV) time = vwErr (siteRes ux uy uz n k).2 (⟨SA, na, ca, ka, da⟩ : TV) (⟨SB, nb, cb, kb, db⟩ : TV) := by
      unfold visErr
      rw [fix, if_neg hv]
    refine ⟨?_, hb⟩
    unfold visV
    rw [e1, if_neg hv]
  rw [hv] at VE
  obtain ⟨hs, eA, eB⟩ := vw_0 hv
  replace eA : ctErr ka na da = 0 := eA
  replace eB : ctErr kb nb db = 0 := eB
  obtain ⟨hu, h4, hc⟩ := site_0 hs
  obtain ⟨a0, a12, _, _⟩ := valid_of eA
  obtain ⟨b0, b12, _, d0, d1⟩ := valid_of eB
  have TE : ∀ W, KA W SA na ka → KA W SB nb kb → Calls Tryz.prog 17 #[.agg #[.slice SA na ca, .int .i64 da], .agg #[.slice SB nb cb, .int .i64 db], .int .i64 time] W fun e w' => e = .returned (.int .i64 (if outside time ka na || outside time kb nb then 2 else 0)) ∧ Below W.heap.size W w' := by
    intro W a b
    obtain ⟨p, o, rfl, k1⟩ := a a0
    obtain ⟨p', o', rfl, k2⟩ := b b0
    exact timesErr_any p o p' o' na ca nb cb da db time ka kb W a0 (by omega) b0 (by omega) k1 k2
  by_cases h5 : (if outside time ka na || outside time kb nb then (2 : Int) else 0) = 0
  case neg =>
    refine pz_t ux uy uz C SA SB n c na ca nb cb da db time k ka kb w hC hA hB VW CS PS CX (fun W X cX a Y cY Z cZ b d => (VI W X cX a Y cY Z cZ b d).mono ?_) RS VE TE h5
    rintro e w' ⟨rfl, hb⟩
    have e1 : visErr (siteRes ux uy uz n k).2 (⟨Y, na, cY, ka, da⟩ : TV) (⟨Z, nb, cZ, kb, db⟩ : TV) time = (if outside time ka na || outside time kb nb then (2 : Int) else 0) := by
      unfold visErr
      rw [fix, if_pos hv]
      rfl
    refine ⟨?_, hb⟩
    unfold visV
    rw [e1, if_neg h5]
  rw [h5] at TE
  obtain ⟨oA, oB⟩ : outside time ka na = false ∧ outside time kb nb = false := by
    revert h5
    cases outside time ka na <;> cases outside time kb nb <;> simp
  refine pz_m ux uy uz C SA SB n c na ca nb cb da db time k ka kb w hC hA hB VW CS PS CX (fun W X cX a Y cY Z cZ b d => vis_call ux uy uz n k na nb ka kb da db time hs eA eB oA oB W X cX a Y cY Z cZ b d) RS VE TE (fun W a b d => ?_)
  obtain ⟨p, o, rfl, k1⟩ := b a0
  obtain ⟨p', o', rfl, k2⟩ := d b0
  exact rvisibleAt_any ux uy uz C n c k ⟨p, o, na, ca, ka, da⟩ ⟨p', o', nb, cb, kb, db⟩ time W h4 a hu hc ⟨⟨a0, by show na ≤ 100; omega, k1⟩, eA, oA⟩ ⟨⟨b0, by show nb ≤ 100; omega, k2⟩, eB, oB⟩
end Go.Proofs.YtnfoagcpgegldaaGreat
namespace Go.Proofs.YtnfoagcpgegldaaGreat
open Go.ChangeShapes Go.WideShapes Go.ChangeAt Go.RowKit Go.Joins Go.Deep
set_option maxRecDepth 100000 in
theorem pathSites_lifted (os : Os) (started : os.Started) (H : Type) (enc : TypeId × Value → H) :
    ReturnsInHanded {} Tryz.checked os 8 .any (Rows.pathSitesSpec.pre6 enc Tryz.prog Tryz.f8 Rows.pathSitesRow.domain false) (Rows.pathSitesSpec.post enc Tryz.prog Tryz.f8 false true false false) := by
  refine returnsInHanded_of_change (C := Tryz.checked) owned started (by kernel_rfl) Tryz.func8
    (ChangeSpec.witness6 (enc := enc) (C := Tryz.checked) false ⟨#[], #[.agg #[.int .i64 0, .int .i64 0, .int .i64 0, .slice none 0 0, .slice none 0 0, .int .i64 0, .slice none 0 0, .int .i64 0], .int .i64 0], []⟩ 8 (by kernel_rfl) (by kernel_rfl) (by kernel_rfl) (by kernel_rfl)) ?_
  intro W base args ds gs before hval0 hW hcnd _
  have hval : ∀ (j : Nat) t v, Tryz.f8.params[j]? = some t → args[j]? = some v → Value.okWide Tryz.prog W .any base t v := hval0
  have hW' := hW
  obtain ⟨p, q, hA0, hV, rfl, hfz, hnd⟩ := hW
  have hA : DataW.TrodAll enc Tryz.prog W 0 (fun _ => true) true Tryz.f8.params.toList args.toList ds p := hA0
  rw [Tryz.params8] at hA hval
  obtain ⟨v0, vs0, d0, ds0, p0, q0, hargs, rfl, rfl, h0, r0⟩ := trodAll_cons hA
  obtain ⟨v1, vs1, d1, ds1, p1, q1, rfl, rfl, rfl, h1, r1⟩ := trodAll_cons r0
  obtain ⟨rfl, rfl, rfl⟩ := trodAll_nil r1
  obtain rfl : args = #[v0, v1] := by cases args; simp_all
  obtain ⟨rfl, rfl⟩ := trodVars_none hV
  have k0 := h0
  have lt0 : ∀ x ∈ p0, x.block < W.heap.size := by obtain ⟨m, hm⟩ := k0; exact DataW.trod_lt m _ _ _ hm
  obtain ⟨ux, uy, uz, C, SA, SB, n, c, na, ca, nb, cb, k, ka, kb, da, db, rfl, ⟨n1, n2, n3⟩, ⟨z1, z2, z3⟩, k1, k2, k3⟩ := open_view (hval 0 59 v0 rfl rfl) h0
  obtain ⟨a1, rfl, rfl, rfl, w1⟩ := open_int Tryz.underlying3 (hval 1 3 v1 rfl rfl) h1
  clear hA0 hval0
  refine (pathSites_any ux uy uz C SA SB n c na ca nb cb da db a1 k ka kb W n1 n2 n3 z1 z2 z3 k1 k2 k3).mono fun e W' ⟨he, bel⟩ => ?_
  subst he
  exact ⟨_, rfl, _, _, _, [], _, [], hW', trodAll_mk1 (shut_bool Tryz.underlying4 _), (trodAll_cons_mk (Below.trod laidAll (by kernel_rfl) (of_decide_eq_true (by kernel_rfl)) k0 bel lt0) (trodAll_cons_mk (shut_int Tryz.underlying3 w1) trodAll_mk0)), rfl, bel.frame _, fun h => by cases h⟩
theorem pathSites_over : Rows.pathSitesRow.holds Tryz.pinned (OpenSpec.ofChange Rows.pathSitesSpec) :=
  OpenClaim.holds_of_wide 8 Tryz.f8 rfl rfl rfl rfl rfl rfl rfl ⟨by kernel_rfl, by kernel_rfl, by kernel_rfl, by kernel_rfl, by kernel_rfl⟩ rfl rfl rfl rfl rfl (by kernel_rfl) Tryz.func8 (by kernel_rfl)
    (of_decide_eq_true (by kernel_rfl)) (by unfold Func.isWrapper; first | (rw [if_pos (by decide +kernel)]; kernel_rfl) | (rw [if_neg (by decide +kernel)]; exact ⟨rfl, rfl⟩))
    (fun os started H enc _ => pathSites_lifted os started H enc)
/-- THE STATEMENT. -/
theorem pathSites_holds : Rows.PathSitesSaid := pathSites_over
end Go.Proofs.YtnfoagcpgegldaaGreat
