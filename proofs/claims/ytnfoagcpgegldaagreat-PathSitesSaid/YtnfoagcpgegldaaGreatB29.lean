/- Helpers: the law PathSeen to its end, where the answer is 0. No condition but the hypotheses. -/
import Derived.Test.YtnfoagcpgegldaaGreatB28
namespace Go.Proofs.YtnfoagcpgegldaaGreat
open Go.RowKit Go.Shelf Go.Sort
attribute [local go_sem] idx3_0 idx3_1 idx3_2 old1 fro1 old2 fro2 old3 fro3 old4 fro4 old5 fro5 old6 fro6 old7 fro7 old8 fro8 old9 fro9 old10 fro10 old11 fro11 old12 fro12
set_option maxRecDepth 100000 in
set_option maxHeartbeats 16000000 in
theorem ps_main0 (ux uy uz : Int) (C SA SB : Option Addr) (n c na ca nb cb : Nat) (da db time less : Int) (k : Nat → Cone) (ka kb : Nat → Knot) (w : World) (up under z : Int) (hC : KC w C n k) (hA : KA w SA na ka) (hB : KA w SB nb kb) (hVW : ∀ W, Calls Tryz.prog 33 #[.agg #[.int .i64 ux, .int .i64 uy, .int .i64 uz, .slice C n c, .slice SA na ca, .int .i64 da, .slice SB nb cb, .int .i64 db]] W fun e w' => e = .returned (.bool true) ∧ Below W.heap.size W w') (hVE : ∀ W, KC W C n k → KA W SA na ka → KA W SB nb kb → Calls Tryz.prog 39 #[.agg #[.int .i64 ux, .int .i64 uy, .int .i64 uz, .slice C n c, .slice SA na ca, .int .i64 da, .slice SB nb cb, .int .i64 db]] W fun e w' => e = .returned (.int .i64 0) ∧ Below W.heap.size W w') (hTE : ∀ W, KA W SA na ka → KA W SB nb kb → Calls Tryz.prog 17 #[.agg #[.slice SA na ca, .int .i64 da], .agg #[.slice SB nb cb, .int .i64 db], .int .i64 time] W fun e w' => e = .returned (.int .i64 0) ∧ Below W.heap.size W w') (hWI : wi less 0 db = true) (hCX : ∀ W, KC W C n k → KA W SA na ka → KA W SB nb kb → Calls Tryz.prog 37 #[.agg #[.int .i64 ux, .int .i64 uy, .int .i64 uz, .slice C n c, .slice SA na ca, .int .i64 da, .slice SB nb cb, .int .i64 db]] W fun e w' => ∃ X cX Y cY Z cZ, e = .returned (.agg #[.int .i64 ux, .int .i64 uy, .int .i64 uz, .slice X n cX, .slice Y na cY, .int .i64 da, .slice Z nb cZ, .int .i64 db]) ∧ KC w' X n k ∧ (0 < n → ∃ g, X = some ⟨g, 0, none⟩ ∧ n ≤ cX) ∧ KA w' Y na ka ∧ KA w' Z nb kb ∧ Below W.heap.size W w') (hCO : ∀ W Y1 c1 Z1 d1, KA W Y1 na ka → KA W Z1 nb kb → Calls Tryz.prog 37 #[.agg #[.int .i64 ux, .int .i64 uy, .int .i64 uz, .slice none 0 0, .slice Y1 na c1, .int .i64 da, .slice Z1 nb d1, .int .i64 db]] W fun e w' => ∃ X cX Y cY Z cZ, e = .returned (.agg #[.int .i64 ux, .int .i64 uy, .int .i64 uz, .slice X 0 cX, .slice Y na cY, .int .i64 da, .slice Z nb cZ, .int .i64 db]) ∧ KC w' X 0 k ∧ (0 < 0 → ∃ g, X = some ⟨g, 0, none⟩ ∧ 0 ≤ cX) ∧ KA w' Y na ka ∧ KA w' Z nb kb ∧ Below W.heap.size W w') (hV1 : ∀ W X cX, KC W X n k → ∀ Y cY Z cZ, KA W Y na ka → KA W Z nb kb → Calls Tryz.prog 36 #[.agg #[.int .i64 ux, .int .i64 uy, .int .i64 uz, .slice X n cX, .slice Y na cY, .int .i64 da, .slice Z nb cZ, .int .i64 db], .int .i64 time] W fun e w' => e = .returned (.tuple #[.int .i64 0, .int .i64 0]) ∧ Below W.heap.size W w') (hV2 : ∀ W X cX, KC W X n k → ∀ Y cY Z cZ, KA W Y na ka → KA W Z nb kb → Calls Tryz.prog 36 #[.agg #[.int .i64 ux, .int .i64 uy, .int .i64 uz, .slice X n cX, .slice Y na cY, .int .i64 da, .slice Z nb cZ, .int .i64 (db - less)], .int .i64 time] W fun e w' => e = .returned (.tuple #[.int .i64 0, .int .i64 0]) ∧ Below W.heap.size W w') (hV3 : ∀ W X cX, KC W X 0 k → ∀ Y cY Z cZ, KA W Y na ka → KA W Z nb kb → Calls Tryz.prog 36 #[.agg #[.int .i64 ux, .int .i64 uy, .int .i64 uz, .slice X 0 cX, .slice Y na cY, .int .i64 da, .slice Z nb cZ, .int .i64 db], .int .i64 time] W fun e w' => e = .returned (.tuple #[.int .i64 up, .int .i64 0]) ∧ Below W.heap.size W w') (hV4 : ∀ W X cX, KC W X 0 k → ∀ Y cY Z cZ, KA W Y na ka → KA W Z nb kb → Calls Tryz.prog 36 #[.agg #[.int .i64 (-ux), .int .i64 (-uy), .int .i64 (-uz), .slice X 0 cX, .slice Y na cY, .int .i64 da, .slice Z nb cZ, .int .i64 db], .int .i64 time] W fun e w' => e = .returned (.tuple #[.int .i64 under, .int .i64 0]) ∧ Below W.heap.size W w') (hV5 : ∀ W S cX, KC W S (n - 1) (fun i => k (i + 1)) → ∀ Y cY Z cZ, KA W Y na ka → KA W Z nb kb → Calls Tryz.prog 36 #[.agg #[.int .i64 ux, .int .i64 uy, .int .i64 uz, .slice S (n - 1) cX, .slice Y na cY, .int .i64 da, .slice Z nb cZ, .int .i64 db], .int .i64 time] W fun e w' => e = .returned (.tuple #[.int .i64 z, .int .i64 0]) ∧ Below W.heap.size W w') (b0 : 0 ≤ less) (b1 : less ≤ db) (b2 : db ≤ 1000) (q1 : -100 ≤ ux ∧ ux ≤ 100) (q2 : -100 ≤ uy ∧ uy ≤ 100) (q3 : -100 ≤ uz ∧ uz ≤ 100) (hn : n ≤ 4) (i1 : up = 0 → under = 2) (i2 : n = 0 → up = 0) :
    Calls Tryz.prog 9 #[.agg #[.int .i64 ux, .int .i64 uy, .int .i64 uz, .slice C n c, .slice SA na ca, .int .i64 da, .slice SB nb cb, .int .i64 db], .int .i64 time, .int .i64 less] w fun e w' => e = .returned (.bool true) ∧ Below w.heap.size w w' := by
  have e1 : IntKind.i64.wrap (db - less) = db - less := IntWalk.i64_in _ (by omega)
  have e2 : IntKind.i64.wrap (-ux) = -ux := IntWalk.i64_in _ (by omega)
  have e3 : IntKind.i64.wrap (-uy) = -uy := IntWalk.i64_in _ (by omega)
  have e4 : IntKind.i64.wrap (-uz) = -uz := IntWalk.i64_in _ (by omega)
  have HC := Lib.hid hC
  have HA := Lib.hid hA
  have HB := Lib.hid hB
  have HVW := Lib.hid hVW
  have HVE := Lib.hid hVE
  have HTE := Lib.hid hTE
  have HCX := Lib.hid hCX
  have HCO := Lib.hid hCO
  have HV1 := Lib.hid hV1
  have HV2 := Lib.hid hV2
  have HV3 := Lib.hid hV3
  have HV4 := Lib.hid hV4
  have HV5 := Lib.hid hV5
  clear hC hA hB hVW hVE hTE hCX hCO hV1 hV2 hV3 hV4 hV5
  go_enter Tryz.func9, Tryz.ntmps9
  go_upto_region 6 with (first
    | (go_at_call 11; (with_reducible refine Calls.mono (awake_any _) ?_); rintro e w1 ⟨rfl, hb1⟩; have BV := Lib.hid (belowT (show Below w.heap.size w _ by (repeat (first | with_reducible exact Below.refl _ _ | with_reducible assumption | with_reducible refine Below.alloc ?_ (by first | (simp; done) | (simp; omega) | omega) _ | with_reducible refine Below.setCell ?_ (by first | (simp; done) | (simp; omega) | omega) _ | with_reducible refine Below.drew ?_ | with_reducible refine below_drewN ?_ _))) hb1); have l0 := keep hb1 (b := w.heap.size) (o := 0) (v := .int .i64 ux) (by simp [go_sem]); have l1 := keep hb1 (b := w.heap.size) (o := 1) (v := .int .i64 uy) (by simp [go_sem]); have l2 := keep hb1 (b := w.heap.size) (o := 2) (v := .int .i64 uz) (by simp [go_sem]); have l3 := keep hb1 (b := w.heap.size) (o := 3) (v := .slice C n c) (by simp [go_sem]); have l4 := keep hb1 (b := w.heap.size) (o := 4) (v := .slice SA na ca) (by simp [go_sem]); have l5 := keep hb1 (b := w.heap.size) (o := 5) (v := .int .i64 da) (by simp [go_sem]); have l6 := keep hb1 (b := w.heap.size) (o := 6) (v := .slice SB nb cb) (by simp [go_sem]); have l7 := keep hb1 (b := w.heap.size) (o := 7) (v := .int .i64 db) (by simp [go_sem]); replace HC := Lib.hid (HC.out.bel BV.out); replace HA := Lib.hid (HA.out.bel BV.out); replace HB := Lib.hid (HB.out.bel BV.out); clear hb1)
    | (go_at_call 33; (with_reducible refine Calls.mono (HVW.out _) ?_); rintro e w2 ⟨rfl, hb2⟩; replace l0 := keep hb2 l0; replace l1 := keep hb2 l1; replace l2 := keep hb2 l2; replace l3 := keep hb2 l3; replace l4 := keep hb2 l4; replace l5 := keep hb2 l5; replace l6 := keep hb2 l6; replace l7 := keep hb2 l7; replace HC := Lib.hid (HC.out.bel hb2); replace HA := Lib.hid (HA.out.bel hb2); replace HB := Lib.hid (HB.out.bel hb2); replace BV := Lib.hid (belowT BV.out hb2); clear hb2)
    | (go_at_call 39; (with_reducible refine Calls.mono (HVE.out _ HC.out HA.out HB.out) ?_); rintro e w3 ⟨rfl, hb3⟩; replace l0 := keep hb3 l0; replace l1 := keep hb3 l1; replace l2 := keep hb3 l2; replace l3 := keep hb3 l3; replace l4 := keep hb3 l4; replace l5 := keep hb3 l5; replace l6 := keep hb3 l6; replace l7 := keep hb3 l7; replace HC := Lib.hid (HC.out.bel hb3); replace HA := Lib.hid (HA.out.bel hb3); replace HB := Lib.hid (HB.out.bel hb3); replace BV := Lib.hid (belowT BV.out hb3); clear hb3)
    | (go_at_call 17; (with_reducible refine Calls.mono (HTE.out _ HA.out HB.out) ?_); rintro e w4 ⟨rfl, hb4⟩; replace l0 := keep hb4 l0; replace l1 := keep hb4 l1; replace l2 := keep hb4 l2; replace l3 := keep hb4 l3; replace l4 := keep hb4 l4; replace l5 := keep hb4 l5; replace l6 := keep hb4 l6; replace l7 := keep hb4 l7; replace HC := Lib.hid (HC.out.bel hb4); replace HA := Lib.hid (HA.out.bel hb4); replace HB := Lib.hid (HB.out.bel hb4); replace BV := Lib.hid (belowT BV.out hb4); clear hb4)
    | (go_at_call 26; (with_reducible refine (bwithin_any _ _ _ _).mono ?_); rintro e w' ⟨rfl, rfl⟩)
    | (go_at_call 37; (with_reducible refine Calls.mono (HCX.out _ HC.out HA.out HB.out) ?_); rintro e w5 ⟨X1, cX1, Y1, cY1, Z1, cZ1, rfl, kX1, gX1, kY1, kZ1, hb5⟩; replace l0 := keep hb5 l0; replace l1 := keep hb5 l1; replace l2 := keep hb5 l2; replace l3 := keep hb5 l3; replace l4 := keep hb5 l4; replace l5 := keep hb5 l5; replace l6 := keep hb5 l6; replace l7 := keep hb5 l7; replace HC := Lib.hid (HC.out.bel hb5); replace HA := Lib.hid (HA.out.bel hb5); replace HB := Lib.hid (HB.out.bel hb5); replace BV := Lib.hid (belowT BV.out hb5); have HX1 := Lib.hid kX1; have GX1 := Lib.hid gX1; have HY1 := Lib.hid kY1; have HZ1 := Lib.hid kZ1; clear kX1 gX1 kY1 kZ1; clear hb5)
    | (go_at_call 36; (with_reducible refine Calls.mono (HV1.out _ X1 cX1 HX1.out Y1 cY1 Z1 cZ1 HY1.out HZ1.out) ?_); rintro e w6 ⟨rfl, hb6⟩; replace l0 := keep hb6 l0; replace l1 := keep hb6 l1; replace l2 := keep hb6 l2; replace l3 := keep hb6 l3; replace l4 := keep hb6 l4; replace l5 := keep hb6 l5; replace l6 := keep hb6 l6; replace l7 := keep hb6 l7; replace HC := Lib.hid (HC.out.bel hb6); replace HA := Lib.hid (HA.out.bel hb6); replace HB := Lib.hid (HB.out.bel hb6); replace HX1 := Lib.hid (HX1.out.bel hb6); replace HY1 := Lib.hid (HY1.out.bel hb6); replace HZ1 := Lib.hid (HZ1.out.bel hb6); replace BV := Lib.hid (belowT BV.out hb6); clear hb6)
    | fail)
  clear HX1 HY1 HZ1 GX1
  go_upto_region 8 with (first
    | (go_at_call 37; (with_reducible refine Calls.mono (HCX.out _ HC.out HA.out HB.out) ?_); rintro e w7 ⟨X2, cX2, Y2, cY2, Z2, cZ2, rfl, kX2, gX2, kY2, kZ2, hb7⟩; replace l0 := keep hb7 l0; replace l1 := keep hb7 l1; replace l2 := keep hb7 l2; replace l3 := keep hb7 l3; replace l4 := keep hb7 l4; replace l5 := keep hb7 l5; replace l6 := keep hb7 l6; replace l7 := keep hb7 l7; replace HC := Lib.hid (HC.out.bel hb7); replace HA := Lib.hid (HA.out.bel hb7); replace HB := Lib.hid (HB.out.bel hb7); replace BV := Lib.hid (belowT BV.out hb7); have HX2 := Lib.hid kX2; have GX2 := Lib.hid gX2; have HY2 := Lib.hid kY2; have HZ2 := Lib.hid kZ2; clear kX2 gX2 kY2 kZ2; clear hb7)
    | fail)
  have hb : Below w7.heap.size w7 (w7.alloc (.cells #[.int .i64 ux, .int .i64 uy, .int .i64 uz, .slice X2 n cX2, .slice Y2 na cY2, .int .i64 da, .slice Z2 nb cZ2, .int .i64 (db - less)] 59)) := by (repeat (first | with_reducible exact Below.refl _ _ | with_reducible assumption | with_reducible refine Below.alloc ?_ (by first | (simp; done) | (simp; omega) | omega) _ | with_reducible refine Below.setCell ?_ (by first | (simp; done) | (simp; omega) | omega) _ | with_reducible refine Below.drew ?_ | with_reducible refine below_drewN ?_ _))
  have s0 := (show (w7.alloc (.cells #[.int .i64 ux, .int .i64 uy, .int .i64 uz, .slice X2 n cX2, .slice Y2 na cY2, .int .i64 da, .slice Z2 nb cZ2, .int .i64 (db - less)] 59)).cell? ⟨w7.heap.size, 0, none⟩ = some (.int .i64 ux) by simp [go_sem])
  have s1 := (show (w7.alloc (.cells #[.int .i64 ux, .int .i64 uy, .int .i64 uz, .slice X2 n cX2, .slice Y2 na cY2, .int .i64 da, .slice Z2 nb cZ2, .int .i64 (db - less)] 59)).cell? ⟨w7.heap.size, 1, none⟩ = some (.int .i64 uy) by simp [go_sem])
  have s2 := (show (w7.alloc (.cells #[.int .i64 ux, .int .i64 uy, .int .i64 uz, .slice X2 n cX2, .slice Y2 na cY2, .int .i64 da, .slice Z2 nb cZ2, .int .i64 (db - less)] 59)).cell? ⟨w7.heap.size, 2, none⟩ = some (.int .i64 uz) by simp [go_sem])
  have s3 := (show (w7.alloc (.cells #[.int .i64 ux, .int .i64 uy, .int .i64 uz, .slice X2 n cX2, .slice Y2 na cY2, .int .i64 da, .slice Z2 nb cZ2, .int .i64 (db - less)] 59)).cell? ⟨w7.heap.size, 3, none⟩ = some (.slice X2 n cX2) by simp [go_sem])
  have s4 := (show (w7.alloc (.cells #[.int .i64 ux, .int .i64 uy, .int .i64 uz, .slice X2 n cX2, .slice Y2 na cY2, .int .i64 da, .slice Z2 nb cZ2, .int .i64 (db - less)] 59)).cell? ⟨w7.heap.size, 4, none⟩ = some (.slice Y2 na cY2) by simp [go_sem])
  have s5 := (show (w7.alloc (.cells #[.int .i64 ux, .int .i64 uy, .int .i64 uz, .slice X2 n cX2, .slice Y2 na cY2, .int .i64 da, .slice Z2 nb cZ2, .int .i64 (db - less)] 59)).cell? ⟨w7.heap.size, 5, none⟩ = some (.int .i64 da) by simp [go_sem])
  have s6 := (show (w7.alloc (.cells #[.int .i64 ux, .int .i64 uy, .int .i64 uz, .slice X2 n cX2, .slice Y2 na cY2, .int .i64 da, .slice Z2 nb cZ2, .int .i64 (db - less)] 59)).cell? ⟨w7.heap.size, 6, none⟩ = some (.slice Z2 nb cZ2) by simp [go_sem])
  have s7 := (show (w7.alloc (.cells #[.int .i64 ux, .int .i64 uy, .int .i64 uz, .slice X2 n cX2, .slice Y2 na cY2, .int .i64 da, .slice Z2 nb cZ2, .int .i64 (db - less)] 59)).cell? ⟨w7.heap.size, 7, none⟩ = some (.int .i64 (db - less)) by simp [go_sem])
  replace l0 := keep hb l0
  replace l1 := keep hb l1
  replace l2 := keep hb l2
  replace l3 := keep hb l3
  replace l4 := keep hb l4
  replace l5 := keep hb l5
  replace l6 := keep hb l6
  replace l7 := keep hb l7
  replace HC := Lib.hid (HC.out.bel hb)
  replace HA := Lib.hid (HA.out.bel hb)
  replace HB := Lib.hid (HB.out.bel hb)
  replace HX2 := Lib.hid (HX2.out.bel hb)
  replace HY2 := Lib.hid (HY2.out.bel hb)
  replace HZ2 := Lib.hid (HZ2.out.bel hb)
  replace BV := Lib.hid (belowT BV.out hb)
  clear hb
  generalize (w7.alloc (.cells #[.int .i64 ux, .int .i64 uy, .int .i64 uz, .slice X2 n cX2, .slice Y2 na cY2, .int .i64 da, .slice Z2 nb cZ2, .int .i64 (db - less)] 59)) = Vs at *
  generalize w7.heap.size = qs at *
  go_upto_region 9 with (first
    | (go_at_call 36; (with_reducible refine Calls.mono (HV2.out _ X2 cX2 HX2.out Y2 cY2 Z2 cZ2 HY2.out HZ2.out) ?_); rintro e w8 ⟨rfl, hb8⟩; replace l0 := keep hb8 l0; replace l1 := keep hb8 l1; replace l2 := keep hb8 l2; replace l3 := keep hb8 l3; replace l4 := keep hb8 l4; replace l5 := keep hb8 l5; replace l6 := keep hb8 l6; replace l7 := keep hb8 l7; replace s0 := keep hb8 s0; replace s1 := keep hb8 s1; replace s2 := keep hb8 s2; replace s3 := keep hb8 s3; replace s4 := keep hb8 s4; replace s5 := keep hb8 s5; replace s6 := keep hb8 s6; replace s7 := keep hb8 s7; replace HC := Lib.hid (HC.out.bel hb8); replace HA := Lib.hid (HA.out.bel hb8); replace HB := Lib.hid (HB.out.bel hb8); replace HX2 := Lib.hid (HX2.out.bel hb8); replace HY2 := Lib.hid (HY2.out.bel hb8); replace HZ2 := Lib.hid (HZ2.out.bel hb8); replace BV := Lib.hid (belowT BV.out hb8); clear hb8)
    | fail)
  clear HX2 HY2 HZ2 GX2 s0 s1 s2 s3 s4 s5 s6 s7
  go_upto_region 13 with (first
    | (go_at_call 37; (with_reducible refine Calls.mono (HCX.out _ HC.out HA.out HB.out) ?_); rintro e w9 ⟨X3, cX3, Y3, cY3, Z3, cZ3, rfl, kX3, gX3, kY3, kZ3, hb9⟩; replace l0 := keep hb9 l0; replace l1 := keep hb9 l1; replace l2 := keep hb9 l2; replace l3 := keep hb9 l3; replace l4 := keep hb9 l4; replace l5 := keep hb9 l5; replace l6 := keep hb9 l6; replace l7 := keep hb9 l7; replace HC := Lib.hid (HC.out.bel hb9); replace HA := Lib.hid (HA.out.bel hb9); replace HB := Lib.hid (HB.out.bel hb9); replace BV := Lib.hid (belowT BV.out hb9); have HX3 := Lib.hid kX3; have GX3 := Lib.hid gX3; have HY3 := Lib.hid kY3; have HZ3 := Lib.hid kZ3; clear kX3 gX3 kY3 kZ3; clear hb9)
    | fail)
  have hb : Below w9.heap.size w9 (w9.alloc (.cells #[.int .i64 ux, .int .i64 uy, .int .i64 uz, .slice none 0 0, .slice Y3 na cY3, .int .i64 da, .slice Z3 nb cZ3, .int .i64 db] 59)) := by (repeat (first | with_reducible exact Below.refl _ _ | with_reducible assumption | with_reducible refine Below.alloc ?_ (by first | (simp; done) | (simp; omega) | omega) _ | with_reducible refine Below.setCell ?_ (by first | (simp; done) | (simp; omega) | omega) _ | with_reducible refine Below.drew ?_ | with_reducible refine below_drewN ?_ _))
  have o0 := (show (w9.alloc (.cells #[.int .i64 ux, .int .i64 uy, .int .i64 uz, .slice none 0 0, .slice Y3 na cY3, .int .i64 da, .slice Z3 nb cZ3, .int .i64 db] 59)).cell? ⟨w9.heap.size, 0, none⟩ = some (.int .i64 ux) by simp [go_sem])
  have o1 := (show (w9.alloc (.cells #[.int .i64 ux, .int .i64 uy, .int .i64 uz, .slice none 0 0, .slice Y3 na cY3, .int .i64 da, .slice Z3 nb cZ3, .int .i64 db] 59)).cell? ⟨w9.heap.size, 1, none⟩ = some (.int .i64 uy) by simp [go_sem])
  have o2 := (show (w9.alloc (.cells #[.int .i64 ux, .int .i64 uy, .int .i64 uz, .slice none 0 0, .slice Y3 na cY3, .int .i64 da, .slice Z3 nb cZ3, .int .i64 db] 59)).cell? ⟨w9.heap.size, 2, none⟩ = some (.int .i64 uz) by simp [go_sem])
  have o3 := (show (w9.alloc (.cells #[.int .i64 ux, .int .i64 uy, .int .i64 uz, .slice none 0 0, .slice Y3 na cY3, .int .i64 da, .slice Z3 nb cZ3, .int .i64 db] 59)).cell? ⟨w9.heap.size, 3, none⟩ = some (.slice none 0 0) by simp [go_sem])
  have o4 := (show (w9.alloc (.cells #[.int .i64 ux, .int .i64 uy, .int .i64 uz, .slice none 0 0, .slice Y3 na cY3, .int .i64 da, .slice Z3 nb cZ3, .int .i64 db] 59)).cell? ⟨w9.heap.size, 4, none⟩ = some (.slice Y3 na cY3) by simp [go_sem])
  have o5 := (show (w9.alloc (.cells #[.int .i64 ux, .int .i64 uy, .int .i64 uz, .slice none 0 0, .slice Y3 na cY3, .int .i64 da, .slice Z3 nb cZ3, .int .i64 db] 59)).cell? ⟨w9.heap.size, 5, none⟩ = some (.int .i64 da) by simp [go_sem])
  have o6 := (show (w9.alloc (.cells #[.int .i64 ux, .int .i64 uy, .int .i64 uz, .slice none 0 0, .slice Y3 na cY3, .int .i64 da, .slice Z3 nb cZ3, .int .i64 db] 59)).cell? ⟨w9.heap.size, 6, none⟩ = some (.slice Z3 nb cZ3) by simp [go_sem])
  have o7 := (show (w9.alloc (.cells #[.int .i64 ux, .int .i64 uy, .int .i64 uz, .slice none 0 0, .slice Y3 na cY3, .int .i64 da, .slice Z3 nb cZ3, .int .i64 db] 59)).cell? ⟨w9.heap.size, 7, none⟩ = some (.int .i64 db) by simp [go_sem])
  replace l0 := keep hb l0
  replace l1 := keep hb l1
  replace l2 := keep hb l2
  replace l3 := keep hb l3
  replace l4 := keep hb l4
  replace l5 := keep hb l5
  replace l6 := keep hb l6
  replace l7 := keep hb l7
  replace HC := Lib.hid (HC.out.bel hb)
  replace HA := Lib.hid (HA.out.bel hb)
  replace HB := Lib.hid (HB.out.bel hb)
  replace HX3 := Lib.hid (HX3.out.bel hb)
  replace HY3 := Lib.hid (HY3.out.bel hb)
  replace HZ3 := Lib.hid (HZ3.out.bel hb)
  replace BV := Lib.hid (belowT BV.out hb)
  clear hb
  generalize (w9.alloc (.cells #[.int .i64 ux, .int .i64 uy, .int .i64 uz, .slice none 0 0, .slice Y3 na cY3, .int .i64 da, .slice Z3 nb cZ3, .int .i64 db] 59)) = Vo at *
  generalize w9.heap.size = qo at *
  go_upto_region 14 with (first
    | (go_at_call 37; (with_reducible refine Calls.mono (HCO.out _ Y3 cY3 Z3 cZ3 HY3.out HZ3.out) ?_); rintro e w10 ⟨X4, cX4, Y4, cY4, Z4, cZ4, rfl, kX4, gX4, kY4, kZ4, hb10⟩; replace l0 := keep hb10 l0; replace l1 := keep hb10 l1; replace l2 := keep hb10 l2; replace l3 := keep hb10 l3; replace l4 := keep hb10 l4; replace l5 := keep hb10 l5; replace l6 := keep hb10 l6; replace l7 := keep hb10 l7; replace o0 := keep hb10 o0; replace o1 := keep hb10 o1; replace o2 := keep hb10 o2; replace o3 := keep hb10 o3; replace o4 := keep hb10 o4; replace o5 := keep hb10 o5; replace o6 := keep hb10 o6; replace o7 := keep hb10 o7; replace HC := Lib.hid (HC.out.bel hb10); replace HA := Lib.hid (HA.out.bel hb10); replace HB := Lib.hid (HB.out.bel hb10); replace HX3 := Lib.hid (HX3.out.bel hb10); replace HY3 := Lib.hid (HY3.out.bel hb10); replace HZ3 := Lib.hid (HZ3.out.bel hb10); replace BV := Lib.hid (belowT BV.out hb10); have HX4 := Lib.hid kX4; have GX4 := Lib.hid gX4; have HY4 := Lib.hid kY4; have HZ4 := Lib.hid kZ4; clear kX4 gX4 kY4 kZ4; clear hb10)
    | (go_at_call 36; (with_reducible refine Calls.mono (HV3.out _ X4 cX4 HX4.out Y4 cY4 Z4 cZ4 HY4.out HZ4.out) ?_); rintro e w11 ⟨rfl, hb11⟩; replace l0 := keep hb11 l0; replace l1 := keep hb11 l1; replace l2 := keep hb11 l2; replace l3 := keep hb11 l3; replace l4 := keep hb11 l4; replace l5 := keep hb11 l5; replace l6 := keep hb11 l6; replace l7 := keep hb11 l7; replace o0 := keep hb11 o0; replace o1 := keep hb11 o1; replace o2 := keep hb11 o2; replace o3 := keep hb11 o3; replace o4 := keep hb11 o4; replace o5 := keep hb11 o5; replace o6 := keep hb11 o6; replace o7 := keep hb11 o7; replace HC := Lib.hid (HC.out.bel hb11); replace HA := Lib.hid (HA.out.bel hb11); replace HB := Lib.hid (HB.out.bel hb11); replace HX3 := Lib.hid (HX3.out.bel hb11); replace HY3 := Lib.hid (HY3.out.bel hb11); replace HZ3 := Lib.hid (HZ3.out.bel hb11); replace HX4 := Lib.hid (HX4.out.bel hb11); replace HY4 := Lib.hid (HY4.out.bel hb11); replace HZ4 := Lib.hid (HZ4.out.bel hb11); replace BV := Lib.hid (belowT BV.out hb11); clear hb11)
    | fail)
  clear HX4 HY4 HZ4 GX4
  go_upto_region 16 with (first
    | (go_at_call 37; (with_reducible refine Calls.mono (HCO.out _ Y3 cY3 Z3 cZ3 HY3.out HZ3.out) ?_); rintro e w12 ⟨X5, cX5, Y5, cY5, Z5, cZ5, rfl, kX5, gX5, kY5, kZ5, hb12⟩; replace l0 := keep hb12 l0; replace l1 := keep hb12 l1; replace l2 := keep hb12 l2; replace l3 := keep hb12 l3; replace l4 := keep hb12 l4; replace l5 := keep hb12 l5; replace l6 := keep hb12 l6; replace l7 := keep hb12 l7; replace o0 := keep hb12 o0; replace o1 := keep hb12 o1; replace o2 := keep hb12 o2; replace o3 := keep hb12 o3; replace o4 := keep hb12 o4; replace o5 := keep hb12 o5; replace o6 := keep hb12 o6; replace o7 := keep hb12 o7; replace HC := Lib.hid (HC.out.bel hb12); replace HA := Lib.hid (HA.out.bel hb12); replace HB := Lib.hid (HB.out.bel hb12); replace HX3 := Lib.hid (HX3.out.bel hb12); replace HY3 := Lib.hid (HY3.out.bel hb12); replace HZ3 := Lib.hid (HZ3.out.bel hb12); replace BV := Lib.hid (belowT BV.out hb12); have HX5 := Lib.hid kX5; have GX5 := Lib.hid gX5; have HY5 := Lib.hid kY5; have HZ5 := Lib.hid kZ5; clear kX5 gX5 kY5 kZ5; clear hb12)
    | fail)
  have hb : Below w12.heap.size w12 (w12.alloc (.cells #[.int .i64 (-ux), .int .i64 (-uy), .int .i64 (-uz), .slice X5 0 cX5, .slice Y5 na cY5, .int .i64 da, .slice Z5 nb cZ5, .int .i64 db] 59)) := by (repeat (first | with_reducible exact Below.refl _ _ | with_reducible assumption | with_reducible refine Below.alloc ?_ (by first | (simp; done) | (simp; omega) | omega) _ | with_reducible refine Below.setCell ?_ (by first | (simp; done) | (simp; omega) | omega) _ | with_reducible refine Below.drew ?_ | with_reducible refine below_drewN ?_ _))
  have d0 := (show (w12.alloc (.cells #[.int .i64 (-ux), .int .i64 (-uy), .int .i64 (-uz), .slice X5 0 cX5, .slice Y5 na cY5, .int .i64 da, .slice Z5 nb cZ5, .int .i64 db] 59)).cell? ⟨w12.heap.size, 0, none⟩ = some (.int .i64 (-ux)) by simp [go_sem])
  have d1 := (show (w12.alloc (.cells #[.int .i64 (-ux), .int .i64 (-uy), .int .i64 (-uz), .slice X5 0 cX5, .slice Y5 na cY5, .int .i64 da, .slice Z5 nb cZ5, .int .i64 db] 59)).cell? ⟨w12.heap.size, 1, none⟩ = some (.int .i64 (-uy)) by simp [go_sem])
  have d2 := (show (w12.alloc (.cells #[.int .i64 (-ux), .int .i64 (-uy), .int .i64 (-uz), .slice X5 0 cX5, .slice Y5 na cY5, .int .i64 da, .slice Z5 nb cZ5, .int .i64 db] 59)).cell? ⟨w12.heap.size, 2, none⟩ = some (.int .i64 (-uz)) by simp [go_sem])
  have d3 := (show (w12.alloc (.cells #[.int .i64 (-ux), .int .i64 (-uy), .int .i64 (-uz), .slice X5 0 cX5, .slice Y5 na cY5, .int .i64 da, .slice Z5 nb cZ5, .int .i64 db] 59)).cell? ⟨w12.heap.size, 3, none⟩ = some (.slice X5 0 cX5) by simp [go_sem])
  have d4 := (show (w12.alloc (.cells #[.int .i64 (-ux), .int .i64 (-uy), .int .i64 (-uz), .slice X5 0 cX5, .slice Y5 na cY5, .int .i64 da, .slice Z5 nb cZ5, .int .i64 db] 59)).cell? ⟨w12.heap.size, 4, none⟩ = some (.slice Y5 na cY5) by simp [go_sem])
  have d5 := (show (w12.alloc (.cells #[.int .i64 (-ux), .int .i64 (-uy), .int .i64 (-uz), .slice X5 0 cX5, .slice Y5 na cY5, .int .i64 da, .slice Z5 nb cZ5, .int .i64 db] 59)).cell? ⟨w12.heap.size, 5, none⟩ = some (.int .i64 da) by simp [go_sem])
  have d6 := (show (w12.alloc (.cells #[.int .i64 (-ux), .int .i64 (-uy), .int .i64 (-uz), .slice X5 0 cX5, .slice Y5 na cY5, .int .i64 da, .slice Z5 nb cZ5, .int .i64 db] 59)).cell? ⟨w12.heap.size, 6, none⟩ = some (.slice Z5 nb cZ5) by simp [go_sem])
  have d7 := (show (w12.alloc (.cells #[.int .i64 (-ux), .int .i64 (-uy), .int .i64 (-uz), .slice X5 0 cX5, .slice Y5 na cY5, .int .i64 da, .slice Z5 nb cZ5, .int .i64 db] 59)).cell? ⟨w12.heap.size, 7, none⟩ = some (.int .i64 db) by simp [go_sem])
  replace l0 := keep hb l0
  replace l1 := keep hb l1
  replace l2 := keep hb l2
  replace l3 := keep hb l3
  replace l4 := keep hb l4
  replace l5 := keep hb l5
  replace l6 := keep hb l6
  replace l7 := keep hb l7
  replace o0 := keep hb o0
  replace o1 := keep hb o1
  replace o2 := keep hb o2
  replace o3 := keep hb o3
  replace o4 := keep hb o4
  replace o5 := keep hb o5
  replace o6 := keep hb o6
  replace o7 := keep hb o7
  replace HC := Lib.hid (HC.out.bel hb)
  replace HA := Lib.hid (HA.out.bel hb)
  replace HB := Lib.hid (HB.out.bel hb)
  replace HX3 := Lib.hid (HX3.out.bel hb)
  replace HY3 := Lib.hid (HY3.out.bel hb)
  replace HZ3 := Lib.hid (HZ3.out.bel hb)
  replace HX5 := Lib.hid (HX5.out.bel hb)
  replace HY5 := Lib.hid (HY5.out.bel hb)
  replace HZ5 := Lib.hid (HZ5.out.bel hb)
  replace BV := Lib.hid (belowT BV.out hb)
  clear hb
  generalize (w12.alloc (.cells #[.int .i64 (-ux), .int .i64 (-uy), .int .i64 (-uz), .slice X5 0 cX5, .slice Y5 na cY5, .int .i64 da, .slice Z5 nb cZ5, .int .i64 db] 59)) = Vd at *
  generalize w12.heap.size = qd at *
  go_upto_region 17 with (first
    | (go_at_call 36; (with_reducible refine Calls.mono (HV4.out _ X5 cX5 HX5.out Y5 cY5 Z5 cZ5 HY5.out HZ5.out) ?_); rintro e w13 ⟨rfl, hb13⟩; replace l0 := keep hb13 l0; replace l1 := keep hb13 l1; replace l2 := keep hb13 l2; replace l3 := keep hb13 l3; replace l4 := keep hb13 l4; replace l5 := keep hb13 l5; replace l6 := keep hb13 l6; replace l7 := keep hb13 l7; replace o0 := keep hb13 o0; replace o1 := keep hb13 o1; replace o2 := keep hb13 o2; replace o3 := keep hb13 o3; replace o4 := keep hb13 o4; replace o5 := keep hb13 o5; replace o6 := keep hb13 o6; replace o7 := keep hb13 o7; replace d0 := keep hb13 d0; replace d1 := keep hb13 d1; replace d2 := keep hb13 d2; replace d3 := keep hb13 d3; replace d4 := keep hb13 d4; replace d5 := keep hb13 d5; replace d6 := keep hb13 d6; replace d7 := keep hb13 d7; replace HC := Lib.hid (HC.out.bel hb13); replace HA := Lib.hid (HA.out.bel hb13); replace HB := Lib.hid (HB.out.bel hb13); replace HX3 := Lib.hid (HX3.out.bel hb13); replace HY3 := Lib.hid (HY3.out.bel hb13); replace HZ3 := Lib.hid (HZ3.out.bel hb13); replace HX5 := Lib.hid (HX5.out.bel hb13); replace HY5 := Lib.hid (HY5.out.bel hb13); replace HZ5 := Lib.hid (HZ5.out.bel hb13); replace BV := Lib.hid (belowT BV.out hb13); clear hb13)
    | fail)
  clear HX5 HY5 HZ5 GX5 HX3 HY3 HZ3 GX3 o0 o1 o2 o3 o4 o5 o6 o7 d0 d1 d2 d3 d4 d5 d6 d7
  by_cases hup : up = 0
  · subst hup
    have j2 := i1 rfl
    subst j2
    clear i1 i2
    go_upto_region 19 with fail
    by_cases hn0 : n = 0
    · subst hn0
      go_wp2_with fail
      go_ret
      exact ⟨rfl, BV.out⟩
    · have hz : ((n : Int) == 0) = false := by simp; omega
      have h1n : (1 : Int) ≤ n := by omega
      go_upto_region 22 with (first
        | (go_at_call 37; (with_reducible refine Calls.mono (HCX.out _ HC.out HA.out HB.out) ?_); rintro e w14 ⟨X6, cX6, Y6, cY6, Z6, cZ6, rfl, kX6, gX6, kY6, kZ6, hb14⟩; replace l0 := keep hb14 l0; replace l1 := keep hb14 l1; replace l2 := keep hb14 l2; replace l3 := keep hb14 l3; replace l4 := keep hb14 l4; replace l5 := keep hb14 l5; replace l6 := keep hb14 l6; replace l7 := keep hb14 l7; replace HC := Lib.hid (HC.out.bel hb14); replace HA := Lib.hid (HA.out.bel hb14); replace HB := Lib.hid (HB.out.bel hb14); replace BV := Lib.hid (belowT BV.out hb14); have HX6 := Lib.hid kX6; have GX6 := Lib.hid gX6; have HY6 := Lib.hid kY6; have HZ6 := Lib.hid kZ6; clear kX6 gX6 kY6 kZ6; clear hb14)
        | fail)
      obtain ⟨g6, eg6, lg6⟩ := GX6.out (by omega)
      subst eg6
      have hcx : cX6 = 1 ∨ ∃ m, cX6 = m + 2 := by
        rcases Nat.lt_or_ge cX6 2 with q | q
        · exact Or.inl (by omega)
        · exact Or.inr ⟨cX6 - 2, by omega⟩
      rcases hcx with rfl | ⟨m6, rfl⟩
      · obtain rfl : n = 1 := by omega
        go_upto_region 23 with (first
          | fail
          | fail)
        have hb : Below w14.heap.size w14 (w14.alloc (.cells #[.int .i64 ux, .int .i64 uy, .int .i64 uz, .slice (some ⟨g6, 0, none⟩) 0 0, .slice Y6 na cY6, .int .i64 da, .slice Z6 nb cZ6, .int .i64 db] 59)) := by (repeat (first | with_reducible exact Below.refl _ _ | with_reducible assumption | with_reducible refine Below.alloc ?_ (by first | (simp; done) | (simp; omega) | omega) _ | with_reducible refine Below.setCell ?_ (by first | (simp; done) | (simp; omega) | omega) _ | with_reducible refine Below.drew ?_ | with_reducible refine below_drewN ?_ _))
        have f0 := (show (w14.alloc (.cells #[.int .i64 ux, .int .i64 uy, .int .i64 uz, .slice (some ⟨g6, 0, none⟩) 0 0, .slice Y6 na cY6, .int .i64 da, .slice Z6 nb cZ6, .int .i64 db] 59)).cell? ⟨w14.heap.size, 0, none⟩ = some (.int .i64 ux) by simp [go_sem])
        have f1 := (show (w14.alloc (.cells #[.int .i64 ux, .int .i64 uy, .int .i64 uz, .slice (some ⟨g6, 0, none⟩) 0 0, .slice Y6 na cY6, .int .i64 da, .slice Z6 nb cZ6, .int .i64 db] 59)).cell? ⟨w14.heap.size, 1, none⟩ = some (.int .i64 uy) by simp [go_sem])
        have f2 := (show (w14.alloc (.cells #[.int .i64 ux, .int .i64 uy, .int .i64 uz, .slice (some ⟨g6, 0, none⟩) 0 0, .slice Y6 na cY6, .int .i64 da, .slice Z6 nb cZ6, .int .i64 db] 59)).cell? ⟨w14.heap.size, 2, none⟩ = some (.int .i64 uz) by simp [go_sem])
        have f3 := (show (w14.alloc (.cells #[.int .i64 ux, .int .i64 uy, .int .i64 uz, .slice (some ⟨g6, 0, none⟩) 0 0, .slice Y6 na cY6, .int .i64 da, .slice Z6 nb cZ6, .int .i64 db] 59)).cell? ⟨w14.heap.size, 3, none⟩ = some (.slice (some ⟨g6, 0, none⟩) 0 0) by simp [go_sem])
        have f4 := (show (w14.alloc (.cells #[.int .i64 ux, .int .i64 uy, .int .i64 uz, .slice (some ⟨g6, 0, none⟩) 0 0, .slice Y6 na cY6, .int .i64 da, .slice Z6 nb cZ6, .int .i64 db] 59)).cell? ⟨w14.heap.size, 4, none⟩ = some (.slice Y6 na cY6) by simp [go_sem])
        have f5 := (show (w14.alloc (.cells #[.int .i64 ux, .int .i64 uy, .int .i64 uz, .slice (some ⟨g6, 0, none⟩) 0 0, .slice Y6 na cY6, .int .i64 da, .slice Z6 nb cZ6, .int .i64 db] 59)).cell? ⟨w14.heap.size, 5, none⟩ = some (.int .i64 da) by simp [go_sem])
        have f6 := (show (w14.alloc (.cells #[.int .i64 ux, .int .i64 uy, .int .i64 uz, .slice (some ⟨g6, 0, none⟩) 0 0, .slice Y6 na cY6, .int .i64 da, .slice Z6 nb cZ6, .int .i64 db] 59)).cell? ⟨w14.heap.size, 6, none⟩ = some (.slice Z6 nb cZ6) by simp [go_sem])
        have f7 := (show (w14.alloc (.cells #[.int .i64 ux, .int .i64 uy, .int .i64 uz, .slice (some ⟨g6, 0, none⟩) 0 0, .slice Y6 na cY6, .int .i64 da, .slice Z6 nb cZ6, .int .i64 db] 59)).cell? ⟨w14.heap.size, 7, none⟩ = some (.int .i64 db) by simp [go_sem])
        replace l0 := keep hb l0
        replace l1 := keep hb l1
        replace l2 := keep hb l2
        replace l3 := keep hb l3
        replace l4 := keep hb l4
        replace l5 := keep hb l5
        replace l6 := keep hb l6
        replace l7 := keep hb l7
        replace HC := Lib.hid (HC.out.bel hb)
        replace HA := Lib.hid (HA.out.bel hb)
        replace HB := Lib.hid (HB.out.bel hb)
        replace HX6 := Lib.hid (HX6.out.bel hb)
        replace HY6 := Lib.hid (HY6.out.bel hb)
        replace HZ6 := Lib.hid (HZ6.out.bel hb)
        replace BV := Lib.hid (belowT BV.out hb)
        clear hb
        generalize (w14.alloc (.cells #[.int .i64 ux, .int .i64 uy, .int .i64 uz, .slice (some ⟨g6, 0, none⟩) 0 0, .slice Y6 na cY6, .int .i64 da, .slice Z6 nb cZ6, .int .i64 db] 59)) = Vf at *
        generalize w14.heap.size = qf at *
        have HF : Hid (KC Vf (some ⟨g6, 0, none⟩) (1 - 1) (fun i => k (i + 1))) := fun h0 => absurd h0 (by omega)
        go_upto_region 24 with (first
          | (go_at_call 36; (with_reducible refine Calls.mono (HV5.out _ (some ⟨g6, 0, none⟩) 0 HF.out Y6 cY6 Z6 cZ6 HY6.out HZ6.out) ?_); rintro e w15 ⟨rfl, hb15⟩; replace l0 := keep hb15 l0; replace l1 := keep hb15 l1; replace l2 := keep hb15 l2; replace l3 := keep hb15 l3; replace l4 := keep hb15 l4; replace l5 := keep hb15 l5; replace l6 := keep hb15 l6; replace l7 := keep hb15 l7; replace f0 := keep hb15 f0; replace f1 := keep hb15 f1; replace f2 := keep hb15 f2; replace f3 := keep hb15 f3; replace f4 := keep hb15 f4; replace f5 := keep hb15 f5; replace f6 := keep hb15 f6; replace f7 := keep hb15 f7; replace HC := Lib.hid (HC.out.bel hb15); replace HA := Lib.hid (HA.out.bel hb15); replace HB := Lib.hid (HB.out.bel hb15); replace HX6 := Lib.hid (HX6.out.bel hb15); replace HY6 := Lib.hid (HY6.out.bel hb15); replace HZ6 := Lib.hid (HZ6.out.bel hb15); replace HF := Lib.hid (HF.out.bel hb15); replace BV := Lib.hid (belowT BV.out hb15); clear hb15)
          | fail)
        by_cases hzz : z = 0
        · subst hzz
          go_wp2_with fail
          go_ret
          exact ⟨rfl, BV.out⟩
        · have hz2 : (z != 0) = true := by simpa using hzz
          go_wp2_with fail
          go_ret
          exact ⟨rfl, BV.out⟩
      · go_upto_region 23 with (first
          | fail
          | fail)
        have hb : Below w14.heap.size w14 (w14.alloc (.cells #[.int .i64 ux, .int .i64 uy, .int .i64 uz, .slice (some ⟨g6, 5, none⟩) (n - 1) (m6 + 1), .slice Y6 na cY6, .int .i64 da, .slice Z6 nb cZ6, .int .i64 db] 59)) := by (repeat (first | with_reducible exact Below.refl _ _ | with_reducible assumption | with_reducible refine Below.alloc ?_ (by first | (simp; done) | (simp; omega) | omega) _ | with_reducible refine Below.setCell ?_ (by first | (simp; done) | (simp; omega) | omega) _ | with_reducible refine Below.drew ?_ | with_reducible refine below_drewN ?_ _))
        have f0 := (show (w14.alloc (.cells #[.int .i64 ux, .int .i64 uy, .int .i64 uz, .slice (some ⟨g6, 5, none⟩) (n - 1) (m6 + 1), .slice Y6 na cY6, .int .i64 da, .slice Z6 nb cZ6, .int .i64 db] 59)).cell? ⟨w14.heap.size, 0, none⟩ = some (.int .i64 ux) by simp [go_sem])
        have f1 := (show (w14.alloc (.cells #[.int .i64 ux, .int .i64 uy, .int .i64 uz, .slice (some ⟨g6, 5, none⟩) (n - 1) (m6 + 1), .slice Y6 na cY6, .int .i64 da, .slice Z6 nb cZ6, .int .i64 db] 59)).cell? ⟨w14.heap.size, 1, none⟩ = some (.int .i64 uy) by simp [go_sem])
        have f2 := (show (w14.alloc (.cells #[.int .i64 ux, .int .i64 uy, .int .i64 uz, .slice (some ⟨g6, 5, none⟩) (n - 1) (m6 + 1), .slice Y6 na cY6, .int .i64 da, .slice Z6 nb cZ6, .int .i64 db] 59)).cell? ⟨w14.heap.size, 2, none⟩ = some (.int .i64 uz) by simp [go_sem])
        have f3 := (show (w14.alloc (.cells #[.int .i64 ux, .int .i64 uy, .int .i64 uz, .slice (some ⟨g6, 5, none⟩) (n - 1) (m6 + 1), .slice Y6 na cY6, .int .i64 da, .slice Z6 nb cZ6, .int .i64 db] 59)).cell? ⟨w14.heap.size, 3, none⟩ = some (.slice (some ⟨g6, 5, none⟩) (n - 1) (m6 + 1)) by simp [go_sem])
        have f4 := (show (w14.alloc (.cells #[.int .i64 ux, .int .i64 uy, .int .i64 uz, .slice (some ⟨g6, 5, none⟩) (n - 1) (m6 + 1), .slice Y6 na cY6, .int .i64 da, .slice Z6 nb cZ6, .int .i64 db] 59)).cell? ⟨w14.heap.size, 4, none⟩ = some (.slice Y6 na cY6) by simp [go_sem])
        have f5 := (show (w14.alloc (.cells #[.int .i64 ux, .int .i64 uy, .int .i64 uz, .slice (some ⟨g6, 5, none⟩) (n - 1) (m6 + 1), .slice Y6 na cY6, .int .i64 da, .slice Z6 nb cZ6, .int .i64 db] 59)).cell? ⟨w14.heap.size, 5, none⟩ = some (.int .i64 da) by simp [go_sem])
        have f6 := (show (w14.alloc (.cells #[.int .i64 ux, .int .i64 uy, .int .i64 uz, .slice (some ⟨g6, 5, none⟩) (n - 1) (m6 + 1), .slice Y6 na cY6, .int .i64 da, .slice Z6 nb cZ6, .int .i64 db] 59)).cell? ⟨w14.heap.size, 6, none⟩ = some (.slice Z6 nb cZ6) by simp [go_sem])
        have f7 := (show (w14.alloc (.cells #[.int .i64 ux, .int .i64 uy, .int .i64 uz, .slice (some ⟨g6, 5, none⟩) (n - 1) (m6 + 1), .slice Y6 na cY6, .int .i64 da, .slice Z6 nb cZ6, .int .i64 db] 59)).cell? ⟨w14.heap.size, 7, none⟩ = some (.int .i64 db) by simp [go_sem])
        replace l0 := keep hb l0
        replace l1 := keep hb l1
        replace l2 := keep hb l2
        replace l3 := keep hb l3
        replace l4 := keep hb l4
        replace l5 := keep hb l5
        replace l6 := keep hb l6
        replace l7 := keep hb l7
        replace HC := Lib.hid (HC.out.bel hb)
        replace HA := Lib.hid (HA.out.bel hb)
        replace HB := Lib.hid (HB.out.bel hb)
        replace HX6 := Lib.hid (HX6.out.bel hb)
        replace HY6 := Lib.hid (HY6.out.bel hb)
        replace HZ6 := Lib.hid (HZ6.out.bel hb)
        replace BV := Lib.hid (belowT BV.out hb)
        clear hb
        generalize (w14.alloc (.cells #[.int .i64 ux, .int .i64 uy, .int .i64 uz, .slice (some ⟨g6, 5, none⟩) (n - 1) (m6 + 1), .slice Y6 na cY6, .int .i64 da, .slice Z6 nb cZ6, .int .i64 db] 59)) = Vf at *
        generalize w14.heap.size = qf at *
        have HF := Lib.hid (kc_tail HX6.out)
        go_upto_region 24 with (first
          | (go_at_call 36; (with_reducible refine Calls.mono (HV5.out _ (some ⟨g6, 5, none⟩) (m6 + 1) HF.out Y6 cY6 Z6 cZ6 HY6.out HZ6.out) ?_); rintro e w15 ⟨rfl, hb15⟩; replace l0 := keep hb15 l0; replace l1 := keep hb15 l1; replace l2 := keep hb15 l2; replace l3 := keep hb15 l3; replace l4 := keep hb15 l4; replace l5 := keep hb15 l5; replace l6 := keep hb15 l6; replace l7 := keep hb15 l7; replace f0 := keep hb15 f0; replace f1 := keep hb15 f1; replace f2 := keep hb15 f2; replace f3 := keep hb15 f3; replace f4 := keep hb15 f4; replace f5 := keep hb15 f5; replace f6 := keep hb15 f6; replace f7 := keep hb15 f7; replace HC := Lib.hid (HC.out.bel hb15); replace HA := Lib.hid (HA.out.bel hb15); replace HB := Lib.hid (HB.out.bel hb15); replace HX6 := Lib.hid (HX6.out.bel hb15); replace HY6 := Lib.hid (HY6.out.bel hb15); replace HZ6 := Lib.hid (HZ6.out.bel hb15); replace HF := Lib.hid (HF.out.bel hb15); replace BV := Lib.hid (belowT BV.out hb15); clear hb15)
          | fail)
        by_cases hzz : z = 0
        · subst hzz
          go_wp2_with fail
          go_ret
          exact ⟨rfl, BV.out⟩
        · have hz2 : (z != 0) = true := by simpa using hzz
          go_wp2_with fail
          go_ret
          exact ⟨rfl, BV.out⟩
  · have hu2 : (up == 0) = false := by simpa using hup
    go_upto_region 19 with fail
    by_cases hn0 : n = 0
    · subst hn0
      exact absurd (i2 rfl) hup
    · have hz : ((n : Int) == 0) = false := by simp; omega
      have h1n : (1 : Int) ≤ n := by omega
      go_upto_region 22 with (first
        | (go_at_call 37; (with_reducible refine Calls.mono (HCX.out _ HC.out HA.out HB.out) ?_); rintro e w14 ⟨X6, cX6, Y6, cY6, Z6, cZ6, rfl, kX6, gX6, kY6, kZ6, hb14⟩; replace l0 := keep hb14 l0; replace l1 := keep hb14 l1; replace l2 := keep hb14 l2; replace l3 := keep hb14 l3; replace l4 := keep hb14 l4; replace l5 := keep hb14 l5; replace l6 := keep hb14 l6; replace l7 := keep hb14 l7; replace HC := Lib.hid (HC.out.bel hb14); replace HA := Lib.hid (HA.out.bel hb14); replace HB := Lib.hid (HB.out.bel hb14); replace BV := Lib.hid (belowT BV.out hb14); have HX6 := Lib.hid kX6; have GX6 := Lib.hid gX6; have HY6 := Lib.hid kY6; have HZ6 := Lib.hid kZ6; clear kX6 gX6 kY6 kZ6; clear hb14)
        | fail)
      obtain ⟨g6, eg6, lg6⟩ := GX6.out (by omega)
      subst eg6
      have hcx : cX6 = 1 ∨ ∃ m, cX6 = m + 2 := by
        rcases Nat.lt_or_ge cX6 2 with q | q
        · exact Or.inl (by omega)
        · exact Or.inr ⟨cX6 - 2, by omega⟩
      rcases hcx with rfl | ⟨m6, rfl⟩
      · obtain rfl : n = 1 := by omega
        go_upto_region 23 with (first
          | fail
          | fail)
        have hb : Below w14.heap.size w14 (w14.alloc (.cells #[.int .i64 ux, .int .i64 uy, .int .i64 uz, .slice (some ⟨g6, 0, none⟩) 0 0, .slice Y6 na cY6, .int .i64 da, .slice Z6 nb cZ6, .int .i64 db] 59)) := by (repeat (first | with_reducible exact Below.refl _ _ | with_reducible assumption | with_reducible refine Below.alloc ?_ (by first | (simp; done) | (simp; omega) | omega) _ | with_reducible refine Below.setCell ?_ (by first | (simp; done) | (simp; omega) | omega) _ | with_reducible refine Below.drew ?_ | with_reducible refine below_drewN ?_ _))
        have f0 := (show (w14.alloc (.cells #[.int .i64 ux, .int .i64 uy, .int .i64 uz, .slice (some ⟨g6, 0, none⟩) 0 0, .slice Y6 na cY6, .int .i64 da, .slice Z6 nb cZ6, .int .i64 db] 59)).cell? ⟨w14.heap.size, 0, none⟩ = some (.int .i64 ux) by simp [go_sem])
        have f1 := (show (w14.alloc (.cells #[.int .i64 ux, .int .i64 uy, .int .i64 uz, .slice (some ⟨g6, 0, none⟩) 0 0, .slice Y6 na cY6, .int .i64 da, .slice Z6 nb cZ6, .int .i64 db] 59)).cell? ⟨w14.heap.size, 1, none⟩ = some (.int .i64 uy) by simp [go_sem])
        have f2 := (show (w14.alloc (.cells #[.int .i64 ux, .int .i64 uy, .int .i64 uz, .slice (some ⟨g6, 0, none⟩) 0 0, .slice Y6 na cY6, .int .i64 da, .slice Z6 nb cZ6, .int .i64 db] 59)).cell? ⟨w14.heap.size, 2, none⟩ = some (.int .i64 uz) by simp [go_sem])
        have f3 := (show (w14.alloc (.cells #[.int .i64 ux, .int .i64 uy, .int .i64 uz, .slice (some ⟨g6, 0, none⟩) 0 0, .slice Y6 na cY6, .int .i64 da, .slice Z6 nb cZ6, .int .i64 db] 59)).cell? ⟨w14.heap.size, 3, none⟩ = some (.slice (some ⟨g6, 0, none⟩) 0 0) by simp [go_sem])
        have f4 := (show (w14.alloc (.cells #[.int .i64 ux, .int .i64 uy, .int .i64 uz, .slice (some ⟨g6, 0, none⟩) 0 0, .slice Y6 na cY6, .int .i64 da, .slice Z6 nb cZ6, .int .i64 db] 59)).cell? ⟨w14.heap.size, 4, none⟩ = some (.slice Y6 na cY6) by simp [go_sem])
        have f5 := (show (w14.alloc (.cells #[.int .i64 ux, .int .i64 uy, .int .i64 uz, .slice (some ⟨g6, 0, none⟩) 0 0, .slice Y6 na cY6, .int .i64 da, .slice Z6 nb cZ6, .int .i64 db] 59)).cell? ⟨w14.heap.size, 5, none⟩ = some (.int .i64 da) by simp [go_sem])
        have f6 := (show (w14.alloc (.cells #[.int .i64 ux, .int .i64 uy, .int .i64 uz, .slice (some ⟨g6, 0, none⟩) 0 0, .slice Y6 na cY6, .int .i64 da, .slice Z6 nb cZ6, .int .i64 db] 59)).cell? ⟨w14.heap.size, 6, none⟩ = some (.slice Z6 nb cZ6) by simp [go_sem])
        have f7 := (show (w14.alloc (.cells #[.int .i64 ux, .int .i64 uy, .int .i64 uz, .slice (some ⟨g6, 0, none⟩) 0 0, .slice Y6 na cY6, .int .i64 da, .slice Z6 nb cZ6, .int .i64 db] 59)).cell? ⟨w14.heap.size, 7, none⟩ = some (.int .i64 db) by simp [go_sem])
        replace l0 := keep hb l0
        replace l1 := keep hb l1
        replace l2 := keep hb l2
        replace l3 := keep hb l3
        replace l4 := keep hb l4
        replace l5 := keep hb l5
        replace l6 := keep hb l6
        replace l7 := keep hb l7
        replace HC := Lib.hid (HC.out.bel hb)
        replace HA := Lib.hid (HA.out.bel hb)
        replace HB := Lib.hid (HB.out.bel hb)
        replace HX6 := Lib.hid (HX6.out.bel hb)
        replace HY6 := Lib.hid (HY6.out.bel hb)
        replace HZ6 := Lib.hid (HZ6.out.bel hb)
        replace BV := Lib.hid (belowT BV.out hb)
        clear hb
        generalize (w14.alloc (.cells #[.int .i64 ux, .int .i64 uy, .int .i64 uz, .slice (some ⟨g6, 0, none⟩) 0 0, .slice Y6 na cY6, .int .i64 da, .slice Z6 nb cZ6, .int .i64 db] 59)) = Vf at *
        generalize w14.heap.size = qf at *
        have HF : Hid (KC Vf (some ⟨g6, 0, none⟩) (1 - 1) (fun i => k (i + 1))) := fun h0 => absurd h0 (by omega)
        go_upto_region 24 with (first
          | (go_at_call 36; (with_reducible refine Calls.mono (HV5.out _ (some ⟨g6, 0, none⟩) 0 HF.out Y6 cY6 Z6 cZ6 HY6.out HZ6.out) ?_); rintro e w15 ⟨rfl, hb15⟩; replace l0 := keep hb15 l0; replace l1 := keep hb15 l1; replace l2 := keep hb15 l2; replace l3 := keep hb15 l3; replace l4 := keep hb15 l4; replace l5 := keep hb15 l5; replace l6 := keep hb15 l6; replace l7 := keep hb15 l7; replace f0 := keep hb15 f0; replace f1 := keep hb15 f1; replace f2 := keep hb15 f2; replace f3 := keep hb15 f3; replace f4 := keep hb15 f4; replace f5 := keep hb15 f5; replace f6 := keep hb15 f6; replace f7 := keep hb15 f7; replace HC := Lib.hid (HC.out.bel hb15); replace HA := Lib.hid (HA.out.bel hb15); replace HB := Lib.hid (HB.out.bel hb15); replace HX6 := Lib.hid (HX6.out.bel hb15); replace HY6 := Lib.hid (HY6.out.bel hb15); replace HZ6 := Lib.hid (HZ6.out.bel hb15); replace HF := Lib.hid (HF.out.bel hb15); replace BV := Lib.hid (belowT BV.out hb15); clear hb15)
          | fail)
        by_cases hzz : z = 0
        · subst hzz
          go_wp2_with fail
          go_ret
          exact ⟨rfl, BV.out⟩
        · have hz2 : (z != 0) = true := by simpa using hzz
          go_wp2_with fail
          go_ret
          exact ⟨rfl, BV.out⟩
      · go_upto_region 23 with (first
          | fail
          | fail)
        have hb : Below w14.heap.size w14 (w14.alloc (.cells #[.int .i64 ux, .int .i64 uy, .int .i64 uz, .slice (some ⟨g6, 5, none⟩) (n - 1) (m6 + 1), .slice Y6 na cY6, .int .i64 da, .slice Z6 nb cZ6, .int .i64 db] 59)) := by (repeat (first | with_reducible exact Below.refl _ _ | with_reducible assumption | with_reducible refine Below.alloc ?_ (by first | (simp; done) | (simp; omega) | omega) _ | with_reducible refine Below.setCell ?_ (by first | (simp; done) | (simp; omega) | omega) _ | with_reducible refine Below.drew ?_ | with_reducible refine below_drewN ?_ _))
        have f0 := (show (w14.alloc (.cells #[.int .i64 ux, .int .i64 uy, .int .i64 uz, .slice (some ⟨g6, 5, none⟩) (n - 1) (m6 + 1), .slice Y6 na cY6, .int .i64 da, .slice Z6 nb cZ6, .int .i64 db] 59)).cell? ⟨w14.heap.size, 0, none⟩ = some (.int .i64 ux) by simp [go_sem])
        have f1 := (show (w14.alloc (.cells #[.int .i64 ux, .int .i64 uy, .int .i64 uz, .slice (some ⟨g6, 5, none⟩) (n - 1) (m6 + 1), .slice Y6 na cY6, .int .i64 da, .slice Z6 nb cZ6, .int .i64 db] 59)).cell? ⟨w14.heap.size, 1, none⟩ = some (.int .i64 uy) by simp [go_sem])
        have f2 := (show (w14.alloc (.cells #[.int .i64 ux, .int .i64 uy, .int .i64 uz, .slice (some ⟨g6, 5, none⟩) (n - 1) (m6 + 1), .slice Y6 na cY6, .int .i64 da, .slice Z6 nb cZ6, .int .i64 db] 59)).cell? ⟨w14.heap.size, 2, none⟩ = some (.int .i64 uz) by simp [go_sem])
        have f3 := (show (w14.alloc (.cells #[.int .i64 ux, .int .i64 uy, .int .i64 uz, .slice (some ⟨g6, 5, none⟩) (n - 1) (m6 + 1), .slice Y6 na cY6, .int .i64 da, .slice Z6 nb cZ6, .int .i64 db] 59)).cell? ⟨w14.heap.size, 3, none⟩ = some (.slice (some ⟨g6, 5, none⟩) (n - 1) (m6 + 1)) by simp [go_sem])
        have f4 := (show (w14.alloc (.cells #[.int .i64 ux, .int .i64 uy, .int .i64 uz, .slice (some ⟨g6, 5, none⟩) (n - 1) (m6 + 1), .slice Y6 na cY6, .int .i64 da, .slice Z6 nb cZ6, .int .i64 db] 59)).cell? ⟨w14.heap.size, 4, none⟩ = some (.slice Y6 na cY6) by simp [go_sem])
        have f5 := (show (w14.alloc (.cells #[.int .i64 ux, .int .i64 uy, .int .i64 uz, .slice (some ⟨g6, 5, none⟩) (n - 1) (m6 + 1), .slice Y6 na cY6, .int .i64 da, .slice Z6 nb cZ6, .int .i64 db] 59)).cell? ⟨w14.heap.size, 5, none⟩ = some (.int .i64 da) by simp [go_sem])
        have f6 := (show (w14.alloc (.cells #[.int .i64 ux, .int .i64 uy, .int .i64 uz, .slice (some ⟨g6, 5, none⟩) (n - 1) (m6 + 1), .slice Y6 na cY6, .int .i64 da, .slice Z6 nb cZ6, .int .i64 db] 59)).cell? ⟨w14.heap.size, 6, none⟩ = some (.slice Z6 nb cZ6) by simp [go_sem])
        have f7 := (show (w14.alloc (.cells #[.int .i64 ux, .int .i64 uy, .int .i64 uz, .slice (some ⟨g6, 5, none⟩) (n - 1) (m6 + 1), .slice Y6 na cY6, .int .i64 da, .slice Z6 nb cZ6, .int .i64 db] 59)).cell? ⟨w14.heap.size, 7, none⟩ = some (.int .i64 db) by simp [go_sem])
        replace l0 := keep hb l0
        replace l1 := keep hb l1
        replace l2 := keep hb l2
        replace l3 := keep hb l3
        replace l4 := keep hb l4
        replace l5 := keep hb l5
        replace l6 := keep hb l6
        replace l7 := keep hb l7
        replace HC := Lib.hid (HC.out.bel hb)
        replace HA := Lib.hid (HA.out.bel hb)
        replace HB := Lib.hid (HB.out.bel hb)
        replace HX6 := Lib.hid (HX6.out.bel hb)
        replace HY6 := Lib.hid (HY6.out.bel hb)
        replace HZ6 := Lib.hid (HZ6.out.bel hb)
        replace BV := Lib.hid (belowT BV.out hb)
        clear hb
        generalize (w14.alloc (.cells #[.int .i64 ux, .int .i64 uy, .int .i64 uz, .slice (some ⟨g6, 5, none⟩) (n - 1) (m6 + 1), .slice Y6 na cY6, .int .i64 da, .slice Z6 nb cZ6, .int .i64 db] 59)) = Vf at *
        generalize w14.heap.size = qf at *
        have HF := Lib.hid (kc_tail HX6.out)
        go_upto_region 24 with (first
          | (go_at_call 36; (with_reducible refine Calls.mono (HV5.out _ (some ⟨g6, 5, none⟩) (m6 + 1) HF.out Y6 cY6 Z6 cZ6 HY6.out HZ6.out) ?_); rintro e w15 ⟨rfl, hb15⟩; replace l0 := keep hb15 l0; replace l1 := keep hb15 l1; replace l2 := keep hb15 l2; replace l3 := keep hb15 l3; replace l4 := keep hb15 l4; replace l5 := keep hb15 l5; replace l6 := keep hb15 l6; replace l7 := keep hb15 l7; replace f0 := keep hb15 f0; replace f1 := keep hb15 f1; replace f2 := keep hb15 f2; replace f3 := keep hb15 f3; replace f4 := keep hb15 f4; replace f5 := keep hb15 f5; replace f6 := keep hb15 f6; replace f7 := keep hb15 f7; replace HC := Lib.hid (HC.out.bel hb15); replace HA := Lib.hid (HA.out.bel hb15); replace HB := Lib.hid (HB.out.bel hb15); replace HX6 := Lib.hid (HX6.out.bel hb15); replace HY6 := Lib.hid (HY6.out.bel hb15); replace HZ6 := Lib.hid (HZ6.out.bel hb15); replace HF := Lib.hid (HF.out.bel hb15); replace BV := Lib.hid (belowT BV.out hb15); clear hb15)
          | fail)
        by_cases hzz : z = 0
        · subst hzz
          go_wp2_with fail
          go_ret
          exact ⟨rfl, BV.out⟩
        · have hz2 : (z != 0) = true := by simpa using hzz
          go_wp2_with fail
          go_ret
          exact ⟨rfl, BV.out⟩
end Go.Proofs.YtnfoagcpgegldaaGreat
