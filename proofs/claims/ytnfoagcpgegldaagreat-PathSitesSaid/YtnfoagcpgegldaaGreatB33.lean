/- Helpers: the law PathSites, by what its calls answer. No condition but the hypotheses. -/
import Derived.Test.YtnfoagcpgegldaaGreatB28
import Derived.Test.YtnfoagcpgegldaaGreatB00
namespace Go.Proofs.YtnfoagcpgegldaaGreat
open Go.RowKit Go.Shelf Go.Sort
attribute [local go_sem] idx3_0 idx3_1 idx3_2 old1 fro1 old2 fro2 old3 fro3 old4 fro4 old5 fro5 old6 fro6 old7 fro7 old8 fro8 old9 fro9 old10 fro10 old11 fro11 old12 fro12
set_option maxRecDepth 100000 in
set_option maxHeartbeats 8000000 in
theorem pz_e (ux uy uz : Int) (C SA SB : Option Addr) (n c na ca nb cb : Nat) (da db time : Int) (k : Nat → Cone) (ka kb : Nat → Knot) (w : World) (hC : KC w C n k) (hA : KA w SA na ka) (hB : KA w SB nb kb) (hVW : ∀ W, Calls Tryz.prog 33 #[.agg #[.int .i64 ux, .int .i64 uy, .int .i64 uz, .slice C n c, .slice SA na ca, .int .i64 da, .slice SB nb cb, .int .i64 db]] W fun e w' => e = .returned (.bool false) ∧ Below W.heap.size W w') :
    Calls Tryz.prog 8 #[.agg #[.int .i64 ux, .int .i64 uy, .int .i64 uz, .slice C n c, .slice SA na ca, .int .i64 da, .slice SB nb cb, .int .i64 db], .int .i64 time] w fun e w' => e = .returned (.bool true) ∧ Below w.heap.size w w' := by
  have HC := Lib.hid hC
  have HA := Lib.hid hA
  have HB := Lib.hid hB
  have HVW := Lib.hid hVW
  clear hC hA hB hVW
  go_enter Tryz.func8, Tryz.ntmps8
  go_wp2_with (first
    | (go_at_call 11; (with_reducible refine Calls.mono (awake_any _) ?_); rintro e w1 ⟨rfl, hb1⟩; have BV := Lib.hid (belowT (show Below w.heap.size w _ by (repeat (first | with_reducible exact Below.refl _ _ | with_reducible assumption | with_reducible refine Below.alloc ?_ (by first | (simp; done) | (simp; omega) | omega) _ | with_reducible refine Below.setCell ?_ (by first | (simp; done) | (simp; omega) | omega) _ | with_reducible refine Below.drew ?_ | with_reducible refine below_drewN ?_ _))) hb1); have l0 := keep hb1 (b := w.heap.size) (o := 0) (v := .int .i64 ux) (by simp [go_sem]); have l1 := keep hb1 (b := w.heap.size) (o := 1) (v := .int .i64 uy) (by simp [go_sem]); have l2 := keep hb1 (b := w.heap.size) (o := 2) (v := .int .i64 uz) (by simp [go_sem]); have l3 := keep hb1 (b := w.heap.size) (o := 3) (v := .slice C n c) (by simp [go_sem]); have l4 := keep hb1 (b := w.heap.size) (o := 4) (v := .slice SA na ca) (by simp [go_sem]); have l5 := keep hb1 (b := w.heap.size) (o := 5) (v := .int .i64 da) (by simp [go_sem]); have l6 := keep hb1 (b := w.heap.size) (o := 6) (v := .slice SB nb cb) (by simp [go_sem]); have l7 := keep hb1 (b := w.heap.size) (o := 7) (v := .int .i64 db) (by simp [go_sem]); replace HC := Lib.hid (HC.out.bel BV.out); replace HA := Lib.hid (HA.out.bel BV.out); replace HB := Lib.hid (HB.out.bel BV.out); clear hb1)
    | (go_at_call 33; (with_reducible refine Calls.mono (HVW.out _) ?_); rintro e w2 ⟨rfl, hb2⟩; replace l0 := keep hb2 l0; replace l1 := keep hb2 l1; replace l2 := keep hb2 l2; replace l3 := keep hb2 l3; replace l4 := keep hb2 l4; replace l5 := keep hb2 l5; replace l6 := keep hb2 l6; replace l7 := keep hb2 l7; replace HC := Lib.hid (HC.out.bel hb2); replace HA := Lib.hid (HA.out.bel hb2); replace HB := Lib.hid (HB.out.bel hb2); replace BV := Lib.hid (belowT BV.out hb2); clear hb2)
    | fail)
  go_ret
  exact ⟨rfl, BV.out⟩
set_option maxRecDepth 100000 in
set_option maxHeartbeats 8000000 in
theorem pz_d (ux uy uz : Int) (C SA SB : Option Addr) (n c na ca nb cb : Nat) (da db time : Int) (k : Nat → Cone) (ka kb : Nat → Knot) (w : World) {si se D : Int} (hC : KC w C n k) (hA : KA w SA na ka) (hB : KA w SB nb kb) (hVW : ∀ W, Calls Tryz.prog 33 #[.agg #[.int .i64 ux, .int .i64 uy, .int .i64 uz, .slice C n c, .slice SA na ca, .int .i64 da, .slice SB nb cb, .int .i64 db]] W fun e w' => e = .returned (.bool true) ∧ Below W.heap.size W w') (hCS : ∀ W, KC W C n k → Calls Tryz.prog 35 #[.agg #[.int .i64 ux, .int .i64 uy, .int .i64 uz, .slice C n c]] W fun e w' => ∃ A' c', e = .returned (.agg #[.int .i64 ux, .int .i64 uy, .int .i64 uz, .slice A' n c']) ∧ KC w' A' n k ∧ (0 < n → ∃ g, A' = some ⟨g, 0, none⟩ ∧ n ≤ c' ∧ W.heap.size ≤ g) ∧ Below W.heap.size W w') (hPS : ∀ W X cX, KC W X n k → Calls Tryz.prog 34 #[.agg #[.int .i64 ux, .int .i64 uy, .int .i64 uz, .slice X n cX]] W fun e w' => e = .returned (.tuple #[.int .i64 si, .int .i64 se]) ∧ Below W.heap.size W w') (hCX : ∀ W, KC W C n k → KA W SA na ka → KA W SB nb kb → Calls Tryz.prog 37 #[.agg #[.int .i64 ux, .int .i64 uy, .int .i64 uz, .slice C n c, .slice SA na ca, .int .i64 da, .slice SB nb cb, .int .i64 db]] W fun e w' => ∃ X cX Y cY Z cZ, e = .returned (.agg #[.int .i64 ux, .int .i64 uy, .int .i64 uz, .slice X n cX, .slice Y na cY, .int .i64 da, .slice Z nb cZ, .int .i64 db]) ∧ KC w' X n k ∧ (0 < n → ∃ g, X = some ⟨g, 0, none⟩ ∧ n ≤ cX) ∧ KA w' Y na ka ∧ KA w' Z nb kb ∧ Below W.heap.size W w') (hVI : ∀ W X cX, KC W X n k → ∀ Y cY Z cZ, KA W Y na ka → KA W Z nb kb → Calls Tryz.prog 36 #[.agg #[.int .i64 ux, .int .i64 uy, .int .i64 uz, .slice X n cX, .slice Y na cY, .int .i64 da, .slice Z nb cZ, .int .i64 db], .int .i64 time] W fun e w' => e = .returned (.tuple #[.int .i64 0, .int .i64 D]) ∧ Below W.heap.size W w') (hRS : ∀ W, KC W C n k → Calls Tryz.prog 38 #[.agg #[.int .i64 ux, .int .i64 uy, .int .i64 uz, .slice C n c]] W fun e w' => e = .returned (.tuple #[.int .i64 si, .int .i64 se]) ∧ Below W.heap.size W w') (hVE : ∀ W, KC W C n k → KA W SA na ka → KA W SB nb kb → Calls Tryz.prog 39 #[.agg #[.int .i64 ux, .int .i64 uy, .int .i64 uz, .slice C n c, .slice SA na ca, .int .i64 da, .slice SB nb cb, .int .i64 db]] W fun e w' => e = .returned (.int .i64 D) ∧ Below W.heap.size W w') (hD : D ≠ 0) :
    Calls Tryz.prog 8 #[.agg #[.int .i64 ux, .int .i64 uy, .int .i64 uz, .slice C n c, .slice SA na ca, .int .i64 da, .slice SB nb cb, .int .i64 db], .int .i64 time] w fun e w' => e = .returned (.bool true) ∧ Below w.heap.size w w' := by
  have g0 : (D == 0) = false := by simp [hD]
  have g1 : (D != 0) = true := by simp [hD]
  clear hD
  have HC := Lib.hid hC
  have HA := Lib.hid hA
  have HB := Lib.hid hB
  have HVW := Lib.hid hVW
  have HCS := Lib.hid hCS
  have HPS := Lib.hid hPS
  have HCX := Lib.hid hCX
  have HVI := Lib.hid hVI
  have HRS := Lib.hid hRS
  have HVE := Lib.hid hVE
  clear hC hA hB hVW hCS hPS hCX hVI hRS hVE
  go_enter Tryz.func8, Tryz.ntmps8
  go_wp2_with (first
    | (go_at_call 11; (with_reducible refine Calls.mono (awake_any _) ?_); rintro e w1 ⟨rfl, hb1⟩; have BV := Lib.hid (belowT (show Below w.heap.size w _ by (repeat (first | with_reducible exact Below.refl _ _ | with_reducible assumption | with_reducible refine Below.alloc ?_ (by first | (simp; done) | (simp; omega) | omega) _ | with_reducible refine Below.setCell ?_ (by first | (simp; done) | (simp; omega) | omega) _ | with_reducible refine Below.drew ?_ | with_reducible refine below_drewN ?_ _))) hb1); have l0 := keep hb1 (b := w.heap.size) (o := 0) (v := .int .i64 ux) (by simp [go_sem]); have l1 := keep hb1 (b := w.heap.size) (o := 1) (v := .int .i64 uy) (by simp [go_sem]); have l2 := keep hb1 (b := w.heap.size) (o := 2) (v := .int .i64 uz) (by simp [go_sem]); have l3 := keep hb1 (b := w.heap.size) (o := 3) (v := .slice C n c) (by simp [go_sem]); have l4 := keep hb1 (b := w.heap.size) (o := 4) (v := .slice SA na ca) (by simp [go_sem]); have l5 := keep hb1 (b := w.heap.size) (o := 5) (v := .int .i64 da) (by simp [go_sem]); have l6 := keep hb1 (b := w.heap.size) (o := 6) (v := .slice SB nb cb) (by simp [go_sem]); have l7 := keep hb1 (b := w.heap.size) (o := 7) (v := .int .i64 db) (by simp [go_sem]); replace HC := Lib.hid (HC.out.bel BV.out); replace HA := Lib.hid (HA.out.bel BV.out); replace HB := Lib.hid (HB.out.bel BV.out); clear hb1)
    | (go_at_call 33; (with_reducible refine Calls.mono (HVW.out _) ?_); rintro e w2 ⟨rfl, hb2⟩; replace l0 := keep hb2 l0; replace l1 := keep hb2 l1; replace l2 := keep hb2 l2; replace l3 := keep hb2 l3; replace l4 := keep hb2 l4; replace l5 := keep hb2 l5; replace l6 := keep hb2 l6; replace l7 := keep hb2 l7; replace HC := Lib.hid (HC.out.bel hb2); replace HA := Lib.hid (HA.out.bel hb2); replace HB := Lib.hid (HB.out.bel hb2); replace BV := Lib.hid (belowT BV.out hb2); clear hb2)
    | (go_at_call 35; (with_reducible refine Calls.mono (HCS.out _ HC.out) ?_); rintro e w3 ⟨X1, c1, rfl, kX1, gX1, hb3⟩; replace l0 := keep hb3 l0; replace l1 := keep hb3 l1; replace l2 := keep hb3 l2; replace l3 := keep hb3 l3; replace l4 := keep hb3 l4; replace l5 := keep hb3 l5; replace l6 := keep hb3 l6; replace l7 := keep hb3 l7; replace HC := Lib.hid (HC.out.bel hb3); replace HA := Lib.hid (HA.out.bel hb3); replace HB := Lib.hid (HB.out.bel hb3); replace BV := Lib.hid (belowT BV.out hb3); have HX1 := Lib.hid kX1; clear kX1 gX1; clear hb3)
    | (go_at_call 34; (with_reducible refine Calls.mono (HPS.out _ X1 c1 HX1.out) ?_); rintro e w4 ⟨rfl, hb4⟩; replace l0 := keep hb4 l0; replace l1 := keep hb4 l1; replace l2 := keep hb4 l2; replace l3 := keep hb4 l3; replace l4 := keep hb4 l4; replace l5 := keep hb4 l5; replace l6 := keep hb4 l6; replace l7 := keep hb4 l7; replace HC := Lib.hid (HC.out.bel hb4); replace HA := Lib.hid (HA.out.bel hb4); replace HB := Lib.hid (HB.out.bel hb4); replace HX1 := Lib.hid (HX1.out.bel hb4); replace BV := Lib.hid (belowT BV.out hb4); clear hb4)
    | (go_at_call 37; (with_reducible refine Calls.mono (HCX.out _ HC.out HA.out HB.out) ?_); rintro e w5 ⟨X2, cX2, Y2, cY2, Z2, cZ2, rfl, kX2, gX2, kY2, kZ2, hb5⟩; replace l0 := keep hb5 l0; replace l1 := keep hb5 l1; replace l2 := keep hb5 l2; replace l3 := keep hb5 l3; replace l4 := keep hb5 l4; replace l5 := keep hb5 l5; replace l6 := keep hb5 l6; replace l7 := keep hb5 l7; replace HC := Lib.hid (HC.out.bel hb5); replace HA := Lib.hid (HA.out.bel hb5); replace HB := Lib.hid (HB.out.bel hb5); replace BV := Lib.hid (belowT BV.out hb5); have HX2 := Lib.hid kX2; have GX2 := Lib.hid gX2; have HY2 := Lib.hid kY2; have HZ2 := Lib.hid kZ2; clear kX2 gX2 kY2 kZ2; clear hb5)
    | (go_at_call 36; (with_reducible refine Calls.mono (HVI.out _ X2 cX2 HX2.out Y2 cY2 Z2 cZ2 HY2.out HZ2.out) ?_); rintro e w6 ⟨rfl, hb6⟩; replace l0 := keep hb6 l0; replace l1 := keep hb6 l1; replace l2 := keep hb6 l2; replace l3 := keep hb6 l3; replace l4 := keep hb6 l4; replace l5 := keep hb6 l5; replace l6 := keep hb6 l6; replace l7 := keep hb6 l7; replace HC := Lib.hid (HC.out.bel hb6); replace HA := Lib.hid (HA.out.bel hb6); replace HB := Lib.hid (HB.out.bel hb6); replace HX2 := Lib.hid (HX2.out.bel hb6); replace HY2 := Lib.hid (HY2.out.bel hb6); replace HZ2 := Lib.hid (HZ2.out.bel hb6); replace BV := Lib.hid (belowT BV.out hb6); clear hb6)
    | (go_at_call 38; (with_reducible refine Calls.mono (HRS.out _ HC.out) ?_); rintro e w7 ⟨rfl, hb7⟩; replace l0 := keep hb7 l0; replace l1 := keep hb7 l1; replace l2 := keep hb7 l2; replace l3 := keep hb7 l3; replace l4 := keep hb7 l4; replace l5 := keep hb7 l5; replace l6 := keep hb7 l6; replace l7 := keep hb7 l7; replace HC := Lib.hid (HC.out.bel hb7); replace HA := Lib.hid (HA.out.bel hb7); replace HB := Lib.hid (HB.out.bel hb7); replace BV := Lib.hid (belowT BV.out hb7); clear hb7)
    | (go_at_call 39; (with_reducible refine Calls.mono (HVE.out _ HC.out HA.out HB.out) ?_); rintro e w8 ⟨rfl, hb8⟩; replace l0 := keep hb8 l0; replace l1 := keep hb8 l1; replace l2 := keep hb8 l2; replace l3 := keep hb8 l3; replace l4 := keep hb8 l4; replace l5 := keep hb8 l5; replace l6 := keep hb8 l6; replace l7 := keep hb8 l7; replace HC := Lib.hid (HC.out.bel hb8); replace HA := Lib.hid (HA.out.bel hb8); replace HB := Lib.hid (HB.out.bel hb8); replace BV := Lib.hid (belowT BV.out hb8); clear hb8)
    | fail)
  go_ret
  exact ⟨rfl, BV.out⟩
set_option maxRecDepth 100000 in
set_option maxHeartbeats 8000000 in
theorem pz_t (ux uy uz : Int) (C SA SB : Option Addr) (n c na ca nb cb : Nat) (da db time : Int) (k : Nat → Cone) (ka kb : Nat → Knot) (w : World) {si se D : Int} (hC : KC w C n k) (hA : KA w SA na ka) (hB : KA w SB nb kb) (hVW : ∀ W, Calls Tryz.prog 33 #[.agg #[.int .i64 ux, .int .i64 uy, .int .i64 uz, .slice C n c, .slice SA na ca, .int .i64 da, .slice SB nb cb, .int .i64 db]] W fun e w' => e = .returned (.bool true) ∧ Below W.heap.size W w') (hCS : ∀ W, KC W C n k → Calls Tryz.prog 35 #[.agg #[.int .i64 ux, .int .i64 uy, .int .i64 uz, .slice C n c]] W fun e w' => ∃ A' c', e = .returned (.agg #[.int .i64 ux, .int .i64 uy, .int .i64 uz, .slice A' n c']) ∧ KC w' A' n k ∧ (0 < n → ∃ g, A' = some ⟨g, 0, none⟩ ∧ n ≤ c' ∧ W.heap.size ≤ g) ∧ Below W.heap.size W w') (hPS : ∀ W X cX, KC W X n k → Calls Tryz.prog 34 #[.agg #[.int .i64 ux, .int .i64 uy, .int .i64 uz, .slice X n cX]] W fun e w' => e = .returned (.tuple #[.int .i64 si, .int .i64 se]) ∧ Below W.heap.size W w') (hCX : ∀ W, KC W C n k → KA W SA na ka → KA W SB nb kb → Calls Tryz.prog 37 #[.agg #[.int .i64 ux, .int .i64 uy, .int .i64 uz, .slice C n c, .slice SA na ca, .int .i64 da, .slice SB nb cb, .int .i64 db]] W fun e w' => ∃ X cX Y cY Z cZ, e = .returned (.agg #[.int .i64 ux, .int .i64 uy, .int .i64 uz, .slice X n cX, .slice Y na cY, .int .i64 da, .slice Z nb cZ, .int .i64 db]) ∧ KC w' X n k ∧ (0 < n → ∃ g, X = some ⟨g, 0, none⟩ ∧ n ≤ cX) ∧ KA w' Y na ka ∧ KA w' Z nb kb ∧ Below W.heap.size W w') (hVI : ∀ W X cX, KC W X n k → ∀ Y cY Z cZ, KA W Y na ka → KA W Z nb kb → Calls Tryz.prog 36 #[.agg #[.int .i64 ux, .int .i64 uy, .int .i64 uz, .slice X n cX, .slice Y na cY, .int .i64 da, .slice Z nb cZ, .int .i64 db], .int .i64 time] W fun e w' => e = .returned (.tuple #[.int .i64 0, .int .i64 D]) ∧ Below W.heap.size W w') (hRS : ∀ W, KC W C n k → Calls Tryz.prog 38 #[.agg #[.int .i64 ux, .int .i64 uy, .int .i64 uz, .slice C n c]] W fun e w' => e = .returned (.tuple #[.int .i64 si, .int .i64 se]) ∧ Below W.heap.size W w') (hVE : ∀ W, KC W C n k → KA W SA na ka → KA W SB nb kb → Calls Tryz.prog 39 #[.agg #[.int .i64 ux, .int .i64 uy, .int .i64 uz, .slice C n c, .slice SA na ca, .int .i64 da, .slice SB nb cb, .int .i64 db]] W fun e w' => e = .returned (.int .i64 0) ∧ Below W.heap.size W w') (hTE : ∀ W, KA W SA na ka → KA W SB nb kb → Calls Tryz.prog 17 #[.agg #[.slice SA na ca, .int .i64 da], .agg #[.slice SB nb cb, .int .i64 db], .int .i64 time] W fun e w' => e = .returned (.int .i64 D) ∧ Below W.heap.size W w') (hD : D ≠ 0) :
    Calls Tryz.prog 8 #[.agg #[.int .i64 ux, .int .i64 uy, .int .i64 uz, .slice C n c, .slice SA na ca, .int .i64 da, .slice SB nb cb, .int .i64 db], .int .i64 time] w fun e w' => e = .returned (.bool true) ∧ Below w.heap.size w w' := by
  have g0 : (D == 0) = false := by simp [hD]
  have g1 : (D != 0) = true := by simp [hD]
  clear hD
  have HC := Lib.hid hC
  have HA := Lib.hid hA
  have HB := Lib.hid hB
  have HVW := Lib.hid hVW
  have HCS := Lib.hid hCS
  have HPS := Lib.hid hPS
  have HCX := Lib.hid hCX
  have HVI := Lib.hid hVI
  have HRS := Lib.hid hRS
  have HVE := Lib.hid hVE
  have HTE := Lib.hid hTE
  clear hC hA hB hVW hCS hPS hCX hVI hRS hVE hTE
  go_enter Tryz.func8, Tryz.ntmps8
  go_wp2_with (first
    | (go_at_call 11; (with_reducible refine Calls.mono (awake_any _) ?_); rintro e w1 ⟨rfl, hb1⟩; have BV := Lib.hid (belowT (show Below w.heap.size w _ by (repeat (first | with_reducible exact Below.refl _ _ | with_reducible assumption | with_reducible refine Below.alloc ?_ (by first | (simp; done) | (simp; omega) | omega) _ | with_reducible refine Below.setCell ?_ (by first | (simp; done) | (simp; omega) | omega) _ | with_reducible refine Below.drew ?_ | with_reducible refine below_drewN ?_ _))) hb1); have l0 := keep hb1 (b := w.heap.size) (o := 0) (v := .int .i64 ux) (by simp [go_sem]); have l1 := keep hb1 (b := w.heap.size) (o := 1) (v := .int .i64 uy) (by simp [go_sem]); have l2 := keep hb1 (b := w.heap.size) (o := 2) (v := .int .i64 uz) (by simp [go_sem]); have l3 := keep hb1 (b := w.heap.size) (o := 3) (v := .slice C n c) (by simp [go_sem]); have l4 := keep hb1 (b := w.heap.size) (o := 4) (v := .slice SA na ca) (by simp [go_sem]); have l5 := keep hb1 (b := w.heap.size) (o := 5) (v := .int .i64 da) (by simp [go_sem]); have l6 := keep hb1 (b := w.heap.size) (o := 6) (v := .slice SB nb cb) (by simp [go_sem]); have l7 := keep hb1 (b := w.heap.size) (o := 7) (v := .int .i64 db) (by simp [go_sem]); replace HC := Lib.hid (HC.out.bel BV.out); replace HA := Lib.hid (HA.out.bel BV.out); replace HB := Lib.hid (HB.out.bel BV.out); clear hb1)
    | (go_at_call 33; (with_reducible refine Calls.mono (HVW.out _) ?_); rintro e w2 ⟨rfl, hb2⟩; replace l0 := keep hb2 l0; replace l1 := keep hb2 l1; replace l2 := keep hb2 l2; replace l3 := keep hb2 l3; replace l4 := keep hb2 l4; replace l5 := keep hb2 l5; replace l6 := keep hb2 l6; replace l7 := keep hb2 l7; replace HC := Lib.hid (HC.out.bel hb2); replace HA := Lib.hid (HA.out.bel hb2); replace HB := Lib.hid (HB.out.bel hb2); replace BV := Lib.hid (belowT BV.out hb2); clear hb2)
    | (go_at_call 35; (with_reducible refine Calls.mono (HCS.out _ HC.out) ?_); rintro e w3 ⟨X1, c1, rfl, kX1, gX1, hb3⟩; replace l0 := keep hb3 l0; replace l1 := keep hb3 l1; replace l2 := keep hb3 l2; replace l3 := keep hb3 l3; replace l4 := keep hb3 l4; replace l5 := keep hb3 l5; replace l6 := keep hb3 l6; replace l7 := keep hb3 l7; replace HC := Lib.hid (HC.out.bel hb3); replace HA := Lib.hid (HA.out.bel hb3); replace HB := Lib.hid (HB.out.bel hb3); replace BV := Lib.hid (belowT BV.out hb3); have HX1 := Lib.hid kX1; clear kX1 gX1; clear hb3)
    | (go_at_call 34; (with_reducible refine Calls.mono (HPS.out _ X1 c1 HX1.out) ?_); rintro e w4 ⟨rfl, hb4⟩; replace l0 := keep hb4 l0; replace l1 := keep hb4 l1; replace l2 := keep hb4 l2; replace l3 := keep hb4 l3; replace l4 := keep hb4 l4; replace l5 := keep hb4 l5; replace l6 := keep hb4 l6; replace l7 := keep hb4 l7; replace HC := Lib.hid (HC.out.bel hb4); replace HA := Lib.hid (HA.out.bel hb4); replace HB := Lib.hid (HB.out.bel hb4); replace HX1 := Lib.hid (HX1.out.bel hb4); replace BV := Lib.hid (belowT BV.out hb4); clear hb4)
    | (go_at_call 37; (with_reducible refine Calls.mono (HCX.out _ HC.out HA.out HB.out) ?_); rintro e w5 ⟨X2, cX2, Y2, cY2, Z2, cZ2, rfl, kX2, gX2, kY2, kZ2, hb5⟩; replace l0 := keep hb5 l0; replace l1 := keep hb5 l1; replace l2 := keep hb5 l2; replace l3 := keep hb5 l3; replace l4 := keep hb5 l4; replace l5 := keep hb5 l5; replace l6 := keep hb5 l6; replace l7 := keep hb5 l7; replace HC := Lib.hid (HC.out.bel hb5); replace HA := Lib.hid (HA.out.bel hb5); replace HB := Lib.hid (HB.out.bel hb5); replace BV := Lib.hid (belowT BV.out hb5); have HX2 := Lib.hid kX2; have GX2 := Lib.hid gX2; have HY2 := Lib.hid kY2; have HZ2 := Lib.hid kZ2; clear kX2 gX2 kY2 kZ2; clear hb5)
    | (go_at_call 36; (with_reducible refine Calls.mono (HVI.out _ X2 cX2 HX2.out Y2 cY2 Z2 cZ2 HY2.out HZ2.out) ?_); rintro e w6 ⟨rfl, hb6⟩; replace l0 := keep hb6 l0; replace l1 := keep hb6 l1; replace l2 := keep hb6 l2; replace l3 := keep hb6 l3; replace l4 := keep hb6 l4; replace l5 := keep hb6 l5; replace l6 := keep hb6 l6; replace l7 := keep hb6 l7; replace HC := Lib.hid (HC.out.bel hb6); replace HA := Lib.hid (HA.out.bel hb6); replace HB := Lib.hid (HB.out.bel hb6); replace HX2 := Lib.hid (HX2.out.bel hb6); replace HY2 := Lib.hid (HY2.out.bel hb6); replace HZ2 := Lib.hid (HZ2.out.bel hb6); replace BV := Lib.hid (belowT BV.out hb6); clear hb6)
    | (go_at_call 38; (with_reducible refine Calls.mono (HRS.out _ HC.out) ?_); rintro e w7 ⟨rfl, hb7⟩; replace l0 := keep hb7 l0; replace l1 := keep hb7 l1; replace l2 := keep hb7 l2; replace l3 := keep hb7 l3; replace l4 := keep hb7 l4; replace l5 := keep hb7 l5; replace l6 := keep hb7 l6; replace l7 := keep hb7 l7; replace HC := Lib.hid (HC.out.bel hb7); replace HA := Lib.hid (HA.out.bel hb7); replace HB := Lib.hid (HB.out.bel hb7); replace BV := Lib.hid (belowT BV.out hb7); clear hb7)
    | (go_at_call 39; (with_reducible refine Calls.mono (HVE.out _ HC.out HA.out HB.out) ?_); rintro e w8 ⟨rfl, hb8⟩; replace l0 := keep hb8 l0; replace l1 := keep hb8 l1; replace l2 := keep hb8 l2; replace l3 := keep hb8 l3; replace l4 := keep hb8 l4; replace l5 := keep hb8 l5; replace l6 := keep hb8 l6; replace l7 := keep hb8 l7; replace HC := Lib.hid (HC.out.bel hb8); replace HA := Lib.hid (HA.out.bel hb8); replace HB := Lib.hid (HB.out.bel hb8); replace BV := Lib.hid (belowT BV.out hb8); clear hb8)
    | (go_at_call 17; (with_reducible refine Calls.mono (HTE.out _ HA.out HB.out) ?_); rintro e w9 ⟨rfl, hb9⟩; replace l0 := keep hb9 l0; replace l1 := keep hb9 l1; replace l2 := keep hb9 l2; replace l3 := keep hb9 l3; replace l4 := keep hb9 l4; replace l5 := keep hb9 l5; replace l6 := keep hb9 l6; replace l7 := keep hb9 l7; replace HC := Lib.hid (HC.out.bel hb9); replace HA := Lib.hid (HA.out.bel hb9); replace HB := Lib.hid (HB.out.bel hb9); replace BV := Lib.hid (belowT BV.out hb9); clear hb9)
    | fail)
  go_ret
  exact ⟨rfl, BV.out⟩
set_option maxRecDepth 100000 in
set_option maxHeartbeats 8000000 in
theorem pz_m (ux uy uz : Int) (C SA SB : Option Addr) (n c na ca nb cb : Nat) (da db time : Int) (k : Nat → Cone) (ka kb : Nat → Knot) (w : World) {si se v : Int} (hC : KC w C n k) (hA : KA w SA na ka) (hB : KA w SB nb kb) (hVW : ∀ W, Calls Tryz.prog 33 #[.agg #[.int .i64 ux, .int .i64 uy, .int .i64 uz, .slice C n c, .slice SA na ca, .int .i64 da, .slice SB nb cb, .int .i64 db]] W fun e w' => e = .returned (.bool true) ∧ Below W.heap.size W w') (hCS : ∀ W, KC W C n k → Calls Tryz.prog 35 #[.agg #[.int .i64 ux, .int .i64 uy, .int .i64 uz, .slice C n c]] W fun e w' => ∃ A' c', e = .returned (.agg #[.int .i64 ux, .int .i64 uy, .int .i64 uz, .slice A' n c']) ∧ KC w' A' n k ∧ (0 < n → ∃ g, A' = some ⟨g, 0, none⟩ ∧ n ≤ c' ∧ W.heap.size ≤ g) ∧ Below W.heap.size W w') (hPS : ∀ W X cX, KC W X n k → Calls Tryz.prog 34 #[.agg #[.int .i64 ux, .int .i64 uy, .int .i64 uz, .slice X n cX]] W fun e w' => e = .returned (.tuple #[.int .i64 si, .int .i64 se]) ∧ Below W.heap.size W w') (hCX : ∀ W, KC W C n k → KA W SA na ka → KA W SB nb kb → Calls Tryz.prog 37 #[.agg #[.int .i64 ux, .int .i64 uy, .int .i64 uz, .slice C n c, .slice SA na ca, .int .i64 da, .slice SB nb cb, .int .i64 db]] W fun e w' => ∃ X cX Y cY Z cZ, e = .returned (.agg #[.int .i64 ux, .int .i64 uy, .int .i64 uz, .slice X n cX, .slice Y na cY, .int .i64 da, .slice Z nb cZ, .int .i64 db]) ∧ KC w' X n k ∧ (0 < n → ∃ g, X = some ⟨g, 0, none⟩ ∧ n ≤ cX) ∧ KA w' Y na ka ∧ KA w' Z nb kb ∧ Below W.heap.size W w') (hVI : ∀ W X cX, KC W X n k → ∀ Y cY Z cZ, KA W Y na ka → KA W Z nb kb → Calls Tryz.prog 36 #[.agg #[.int .i64 ux, .int .i64 uy, .int .i64 uz, .slice X n cX, .slice Y na cY, .int .i64 da, .slice Z nb cZ, .int .i64 db], .int .i64 time] W fun e w' => e = .returned (.tuple #[.int .i64 v, .int .i64 0]) ∧ Below W.heap.size W w') (hRS : ∀ W, KC W C n k → Calls Tryz.prog 38 #[.agg #[.int .i64 ux, .int .i64 uy, .int .i64 uz, .slice C n c]] W fun e w' => e = .returned (.tuple #[.int .i64 si, .int .i64 se]) ∧ Below W.heap.size W w') (hVE : ∀ W, KC W C n k → KA W SA na ka → KA W SB nb kb → Calls Tryz.prog 39 #[.agg #[.int .i64 ux, .int .i64 uy, .int .i64 uz, .slice C n c, .slice SA na ca, .int .i64 da, .slice SB nb cb, .int .i64 db]] W fun e w' => e = .returned (.int .i64 0) ∧ Below W.heap.size W w') (hTE : ∀ W, KA W SA na ka → KA W SB nb kb → Calls Tryz.prog 17 #[.agg #[.slice SA na ca, .int .i64 da], .agg #[.slice SB nb cb, .int .i64 db], .int .i64 time] W fun e w' => e = .returned (.int .i64 0) ∧ Below W.heap.size W w') (hRV : ∀ W, KC W C n k → KA W SA na ka → KA W SB nb kb → Calls Tryz.prog 40 #[.agg #[.int .i64 ux, .int .i64 uy, .int .i64 uz, .slice C n c, .slice SA na ca, .int .i64 da, .slice SB nb cb, .int .i64 db], .int .i64 time] W fun e w' => e = .returned (.int .i64 v) ∧ Below W.heap.size W w') :
    Calls Tryz.prog 8 #[.agg #[.int .i64 ux, .int .i64 uy, .int .i64 uz, .slice C n c, .slice SA na ca, .int .i64 da, .slice SB nb cb, .int .i64 db], .int .i64 time] w fun e w' => e = .returned (.bool true) ∧ Below w.heap.size w w' := by
  have HC := Lib.hid hC
  have HA := Lib.hid hA
  have HB := Lib.hid hB
  have HVW := Lib.hid hVW
  have HCS := Lib.hid hCS
  have HPS := Lib.hid hPS
  have HCX := Lib.hid hCX
  have HVI := Lib.hid hVI
  have HRS := Lib.hid hRS
  have HVE := Lib.hid hVE
  have HTE := Lib.hid hTE
  have HRV := Lib.hid hRV
  clear hC hA hB hVW hCS hPS hCX hVI hRS hVE hTE hRV
  go_enter Tryz.func8, Tryz.ntmps8
  go_wp2_with (first
    | (go_at_call 11; (with_reducible refine Calls.mono (awake_any _) ?_); rintro e w1 ⟨rfl, hb1⟩; have BV := Lib.hid (belowT (show Below w.heap.size w _ by (repeat (first | with_reducible exact Below.refl _ _ | with_reducible assumption | with_reducible refine Below.alloc ?_ (by first | (simp; done) | (simp; omega) | omega) _ | with_reducible refine Below.setCell ?_ (by first | (simp; done) | (simp; omega) | omega) _ | with_reducible refine Below.drew ?_ | with_reducible refine below_drewN ?_ _))) hb1); have l0 := keep hb1 (b := w.heap.size) (o := 0) (v := .int .i64 ux) (by simp [go_sem]); have l1 := keep hb1 (b := w.heap.size) (o := 1) (v := .int .i64 uy) (by simp [go_sem]); have l2 := keep hb1 (b := w.heap.size) (o := 2) (v := .int .i64 uz) (by simp [go_sem]); have l3 := keep hb1 (b := w.heap.size) (o := 3) (v := .slice C n c) (by simp [go_sem]); have l4 := keep hb1 (b := w.heap.size) (o := 4) (v := .slice SA na ca) (by simp [go_sem]); have l5 := keep hb1 (b := w.heap.size) (o := 5) (v := .int .i64 da) (by simp [go_sem]); have l6 := keep hb1 (b := w.heap.size) (o := 6) (v := .slice SB nb cb) (by simp [go_sem]); have l7 := keep hb1 (b := w.heap.size) (o := 7) (v := .int .i64 db) (by simp [go_sem]); replace HC := Lib.hid (HC.out.bel BV.out); replace HA := Lib.hid (HA.out.bel BV.out); replace HB := Lib.hid (HB.out.bel BV.out); clear hb1)
    | (go_at_call 33; (with_reducible refine Calls.mono (HVW.out _) ?_); rintro e w2 ⟨rfl, hb2⟩; replace l0 := keep hb2 l0; replace l1 := keep hb2 l1; replace l2 := keep hb2 l2; replace l3 := keep hb2 l3; replace l4 := keep hb2 l4; replace l5 := keep hb2 l5; replace l6 := keep hb2 l6; replace l7 := keep hb2 l7; replace HC := Lib.hid (HC.out.bel hb2); replace HA := Lib.hid (HA.out.bel hb2); replace HB := Lib.hid (HB.out.bel hb2); replace BV := Lib.hid (belowT BV.out hb2); clear hb2)
    | (go_at_call 35; (with_reducible refine Calls.mono (HCS.out _ HC.out) ?_); rintro e w3 ⟨X1, c1, rfl, kX1, gX1, hb3⟩; replace l0 := keep hb3 l0; replace l1 := keep hb3 l1; replace l2 := keep hb3 l2; replace l3 := keep hb3 l3; replace l4 := keep hb3 l4; replace l5 := keep hb3 l5; replace l6 := keep hb3 l6; replace l7 := keep hb3 l7; replace HC := Lib.hid (HC.out.bel hb3); replace HA := Lib.hid (HA.out.bel hb3); replace HB := Lib.hid (HB.out.bel hb3); replace BV := Lib.hid (belowT BV.out hb3); have HX1 := Lib.hid kX1; clear kX1 gX1; clear hb3)
    | (go_at_call 34; (with_reducible refine Calls.mono (HPS.out _ X1 c1 HX1.out) ?_); rintro e w4 ⟨rfl, hb4⟩; replace l0 := keep hb4 l0; replace l1 := keep hb4 l1; replace l2 := keep hb4 l2; replace l3 := keep hb4 l3; replace l4 := keep hb4 l4; replace l5 := keep hb4 l5; replace l6 := keep hb4 l6; replace l7 := keep hb4 l7; replace HC := Lib.hid (HC.out.bel hb4); replace HA := Lib.hid (HA.out.bel hb4); replace HB := Lib.hid (HB.out.bel hb4); replace HX1 := Lib.hid (HX1.out.bel hb4); replace BV := Lib.hid (belowT BV.out hb4); clear hb4)
    | (go_at_call 37; (with_reducible refine Calls.mono (HCX.out _ HC.out HA.out HB.out) ?_); rintro e w5 ⟨X2, cX2, Y2, cY2, Z2, cZ2, rfl, kX2, gX2, kY2, kZ2, hb5⟩; replace l0 := keep hb5 l0; replace l1 := keep hb5 l1; replace l2 := keep hb5 l2; replace l3 := keep hb5 l3; replace l4 := keep hb5 l4; replace l5 := keep hb5 l5; replace l6 := keep hb5 l6; replace l7 := keep hb5 l7; replace HC := Lib.hid (HC.out.bel hb5); replace HA := Lib.hid (HA.out.bel hb5); replace HB := Lib.hid (HB.out.bel hb5); replace BV := Lib.hid (belowT BV.out hb5); have HX2 := Lib.hid kX2; have GX2 := Lib.hid gX2; have HY2 := Lib.hid kY2; have HZ2 := Lib.hid kZ2; clear kX2 gX2 kY2 kZ2; clear hb5)
    | (go_at_call 36; (with_reducible refine Calls.mono (HVI.out _ X2 cX2 HX2.out Y2 cY2 Z2 cZ2 HY2.out HZ2.out) ?_); rintro e w6 ⟨rfl, hb6⟩; replace l0 := keep hb6 l0; replace l1 := keep hb6 l1; replace l2 := keep hb6 l2; replace l3 := keep hb6 l3; replace l4 := keep hb6 l4; replace l5 := keep hb6 l5; replace l6 := keep hb6 l6; replace l7 := keep hb6 l7; replace HC := Lib.hid (HC.out.bel hb6); replace HA := Lib.hid (HA.out.bel hb6); replace HB := Lib.hid (HB.out.bel hb6); replace HX2 := Lib.hid (HX2.out.bel hb6); replace HY2 := Lib.hid (HY2.out.bel hb6); replace HZ2 := Lib.hid (HZ2.out.bel hb6); replace BV := Lib.hid (belowT BV.out hb6); clear hb6)
    | (go_at_call 38; (with_reducible refine Calls.mono (HRS.out _ HC.out) ?_); rintro e w7 ⟨rfl, hb7⟩; replace l0 := keep hb7 l0; replace l1 := keep hb7 l1; replace l2 := keep hb7 l2; replace l3 := keep hb7 l3; replace l4 := keep hb7 l4; replace l5 := keep hb7 l5; replace l6 := keep hb7 l6; replace l7 := keep hb7 l7; replace HC := Lib.hid (HC.out.bel hb7); replace HA := Lib.hid (HA.out.bel hb7); replace HB := Lib.hid (HB.out.bel hb7); replace BV := Lib.hid (belowT BV.out hb7); clear hb7)
    | (go_at_call 39; (with_reducible refine Calls.mono (HVE.out _ HC.out HA.out HB.out) ?_); rintro e w8 ⟨rfl, hb8⟩; replace l0 := keep hb8 l0; replace l1 := keep hb8 l1; replace l2 := keep hb8 l2; replace l3 := keep hb8 l3; replace l4 := keep hb8 l4; replace l5 := keep hb8 l5; replace l6 := keep hb8 l6; replace l7 := keep hb8 l7; replace HC := Lib.hid (HC.out.bel hb8); replace HA := Lib.hid (HA.out.bel hb8); replace HB := Lib.hid (HB.out.bel hb8); replace BV := Lib.hid (belowT BV.out hb8); clear hb8)
    | (go_at_call 17; (with_reducible refine Calls.mono (HTE.out _ HA.out HB.out) ?_); rintro e w9 ⟨rfl, hb9⟩; replace l0 := keep hb9 l0; replace l1 := keep hb9 l1; replace l2 := keep hb9 l2; replace l3 := keep hb9 l3; replace l4 := keep hb9 l4; replace l5 := keep hb9 l5; replace l6 := keep hb9 l6; replace l7 := keep hb9 l7; replace HC := Lib.hid (HC.out.bel hb9); replace HA := Lib.hid (HA.out.bel hb9); replace HB := Lib.hid (HB.out.bel hb9); replace BV := Lib.hid (belowT BV.out hb9); clear hb9)
    | (go_at_call 40; (with_reducible refine Calls.mono (HRV.out _ HC.out HA.out HB.out) ?_); rintro e w10 ⟨rfl, hb10⟩; replace l0 := keep hb10 l0; replace l1 := keep hb10 l1; replace l2 := keep hb10 l2; replace l3 := keep hb10 l3; replace l4 := keep hb10 l4; replace l5 := keep hb10 l5; replace l6 := keep hb10 l6; replace l7 := keep hb10 l7; replace HC := Lib.hid (HC.out.bel hb10); replace HA := Lib.hid (HA.out.bel hb10); replace HB := Lib.hid (HB.out.bel hb10); replace BV := Lib.hid (belowT BV.out hb10); clear hb10)
    | fail)
  go_ret
  exact ⟨rfl, BV.out⟩
end Go.Proofs.YtnfoagcpgegldaaGreat
namespace Go.Proofs.YtnfoagcpgegldaaGreat
def bp (n : Nat) : Int := 1000000000 ^ n
theorem bp_0 : bp 0 = 1 := rfl
theorem bp_s (n : Nat) : bp (n + 1) = bp n * 1000000000 := by unfold bp; rw [Int.pow_succ]
theorem bp_pos (n : Nat) : 0 < bp n := Int.pow_pos (by decide)
theorem bp_add (m n : Nat) : bp (m + n) = bp m * bp n := Int.pow_add _ _ _
theorem bp_mono {m n : Nat} (h : m ≤ n) : bp m ≤ bp n := by
  obtain ⟨k, rfl⟩ := Nat.exists_eq_add_of_le h
  rw [bp_add]
  have := Int.mul_le_mul_of_nonneg_left (show 1 ≤ bp k by have := bp_pos k; omega) (Int.le_of_lt (bp_pos m))
  omega
def dval (xs : Nat → Int) : Nat → Int
  | 0 => 0
  | n + 1 => dval xs n + xs n * bp n
theorem dval_s (xs : Nat → Int) (n : Nat) : dval xs (n + 1) = dval xs n + xs n * bp n := rfl
/-- The first n are digits. -/
def Dig (xs : Nat → Int) (n : Nat) : Prop := ∀ i, i < n → 0 ≤ xs i ∧ xs i < 1000000000
theorem Dig.less {xs : Nat → Int} {m n : Nat} (h : Dig xs n) (hm : m ≤ n) : Dig xs m := fun i hi => h i (by omega)
theorem dval_congr {xs ys : Nat → Int} : ∀ {n : Nat}, (∀ i, i < n → xs i = ys i) → dval xs n = dval ys n
  | 0, _ => rfl
  | n + 1, h => by rw [dval_s, dval_s, dval_congr (fun i hi => h i (by omega)), h n (by omega)]
theorem dval_bd {xs : Nat → Int} : ∀ {n : Nat}, Dig xs n → 0 ≤ dval xs n ∧ dval xs n < bp n
  | 0, _ => ⟨Int.le_refl _, bp_pos 0⟩
  | n + 1, h => by
    obtain ⟨a, b⟩ := dval_bd (n := n) (h.less (by omega))
    obtain ⟨c, d⟩ := h n (by omega)
    have hp := bp_pos n
    have e1 := Int.mul_nonneg c (Int.le_of_lt hp)
    have e2 := Int.mul_le_mul_of_nonneg_right (show xs n ≤ 999999999 by omega) (Int.le_of_lt hp)
    rw [dval_s, bp_s]
    omega
theorem dval_ge {xs : Nat → Int} {n : Nat} (h : Dig xs n) (h0 : 0 < n) (ht : xs (n - 1) ≠ 0) : bp (n - 1) ≤ dval xs n := by
  obtain ⟨m, rfl⟩ : ∃ m, n = m + 1 := ⟨n - 1, by omega⟩
  rw [Nat.add_sub_cancel] at *
  have a := (dval_bd (h.less (Nat.le_succ m))).1
  have b := h m (by omega)
  have := Int.mul_le_mul_of_nonneg_right (show 1 ≤ xs m by omega) (Int.le_of_lt (bp_pos m))
  rw [dval_s]
  omega
theorem dval_from {xs : Nat → Int} {m : Nat} : ∀ {n : Nat}, m ≤ n → (∀ i, m ≤ i → i < n → xs i = 0) → dval xs n = dval xs m
  | 0, h, _ => by rw [show m = 0 from Nat.le_zero.1 h]
  | n + 1, h, hz => by
    by_cases e : m = n + 1
    · rw [e]
    · rw [dval_s, hz n (by omega) (by omega), dval_from (n := n) (by omega) (fun i a b => hz i a (by omega))]
      omega
/-- Digits without noughts at the end. -/
def Trm (xs : Nat → Int) (n : Nat) : Prop := 0 < n → xs (n - 1) ≠ 0
theorem dval_zero {xs : Nat → Int} {n : Nat} (h : Dig xs n) (ht : Trm xs n) : dval xs n = 0 ↔ n = 0 := by
  constructor
  · intro e
    rcases Nat.eq_zero_or_pos n with z | z
    · exact z
    · have := dval_ge h z (ht z)
      have := bp_pos (n - 1)
      omega
  · intro e; subst e; rfl
theorem len_le {xs : Nat → Int} {n k : Nat} (h : Dig xs n) (ht : Trm xs n) (hk : dval xs n < bp k) : n ≤ k := by
  rcases Nat.lt_or_ge k n with z | z
  · have a := dval_ge h (by omega) (ht (by omega))
    have b := bp_mono (show k ≤ n - 1 by omega)
    omega
  · exact z
theorem dval_len_lt {xs ys : Nat → Int} {n m : Nat} (hx : Dig xs n) (hy : Dig ys m) (ty : Trm ys m) (h : n < m) : dval xs n < dval ys m := by
  have a := (dval_bd hx).2
  have b := dval_ge hy (by omega) (ty (by omega))
  have c := bp_mono (show n ≤ m - 1 by omega)
  omega
theorem dval_top_lt {xs ys : Nat → Int} {i : Nat} : ∀ {n : Nat}, Dig xs n → Dig ys n → i < n → xs i < ys i → (∀ j, i < j → j < n → xs j = ys j) → dval xs n < dval ys n
  | 0, _, _, h, _, _ => by omega
  | n + 1, hx, hy, h, hl, he => by
    rw [dval_s, dval_s]
    by_cases e : i = n
    · subst e
      have a := (dval_bd (hx.less (Nat.le_succ i))).2
      have b := (dval_bd (hy.less (Nat.le_succ i))).1
      have c := Int.mul_le_mul_of_nonneg_right (show xs i + 1 ≤ ys i by omega) (Int.le_of_lt (bp_pos i))
      rw [Int.add_mul] at c
      omega
    · have := dval_top_lt (n := n) (hx.less (by omega)) (hy.less (by omega)) (by omega) hl (fun j a b => he j a (by omega))
      rw [he n (by omega) (by omega)]
      omega
def cmpI (a b : Int) : Int := if a < b then -1 else if a = b then 0 else 1
theorem cmpI_lt {a b : Int} (h : a < b) : cmpI a b = -1 := by unfold cmpI; rw [if_pos h]
theorem cmpI_gt {a b : Int} (h : b < a) : cmpI a b = 1 := by unfold cmpI; rw [if_neg (by omega), if_neg (by omega)]
theorem cmpI_eq {a b : Int} (h : a = b) : cmpI a b = 0 := by unfold cmpI; rw [if_neg (by omega), if_pos h]
def sgn (n : Int) : Int := if n < 0 then -1 else if n = 0 then 0 else 1
theorem sgn_p {n : Int} (h : 0 < n) : sgn n = 1 := by unfold sgn; rw [if_neg (by omega), if_neg (by omega)]
theorem sgn_n {n : Int} (h : n < 0) : sgn n = -1 := by unfold sgn; rw [if_pos h]
theorem sgn_0 : sgn 0 = 0 := rfl
theorem sgn_mul (a b : Int) : sgn (a * b) = sgn a * sgn b := by
  rcases Int.lt_trichotomy a 0 with h | h | h <;> rcases Int.lt_trichotomy b 0 with q | q | q
  · rw [sgn_n h, sgn_n q, sgn_p (Int.mul_pos_of_neg_of_neg h q)]; rfl
  · subst q; rw [Int.mul_zero, sgn_0, Int.mul_zero]
  · rw [sgn_n h, sgn_p q, sgn_n (Int.mul_neg_of_neg_of_pos h q)]; rfl
  · subst h; rw [Int.zero_mul, sgn_0, Int.zero_mul]
  · subst h; rw [Int.zero_mul, sgn_0, Int.zero_mul]
  · subst h; rw [Int.zero_mul, sgn_0, Int.zero_mul]
  · rw [sgn_p h, sgn_n q, sgn_n (Int.mul_neg_of_pos_of_neg h q)]; rfl
  · subst q; rw [Int.mul_zero, sgn_0, Int.mul_zero]
  · rw [sgn_p h, sgn_p q, sgn_p (Int.mul_pos h q)]; rfl
theorem sgn_siz (a : Int) : sgn a * siz a = a := by
  unfold siz
  rcases Int.lt_trichotomy a 0 with h | h | h
  · rw [sgn_n h]; omega
  · subst h; rfl
  · rw [sgn_p h]; omega
/-- The digits of a number. -/
def dg (N : Int) (i : Nat) : Int := N / bp i % 1000000000
theorem dg_dig (N : Int) (n : Nat) : Dig (dg N) n := fun i _ => ⟨Int.emod_nonneg _ (by decide), Int.emod_lt_of_pos _ (by decide)⟩
theorem div_bp_s (N : Int) (i : Nat) : N / bp i / 1000000000 = N / bp (i + 1) := by
  rw [bp_s, Int.ediv_ediv_of_nonneg (Int.le_of_lt (bp_pos i))]
theorem dg_val (N : Int) : ∀ n : Nat, dval (dg N) n + N / bp n * bp n = N
  | 0 => by simp [dval, bp_0]
  | n + 1 => by
    have h := dg_val N n
    have e := Int.mul_ediv_add_emod (N / bp n) 1000000000
    rw [dval_s, ← div_bp_s, bp_s]
    have e2 : (N / bp n) * bp n = N / bp n / 1000000000 * (bp n * 1000000000) + dg N n * bp n := by
      have : N / bp n = 1000000000 * (N / bp n / 1000000000) + dg N n := e.symm
      generalize N / bp n / 1000000000 = q at *
      rw [this, Int.add_mul]
      congr 1
      rw [Int.mul_comm 1000000000 q, Int.mul_assoc, Int.mul_comm 1000000000]
    omega
theorem mul_dval (a : Int) (ys : Nat → Int) (k : Nat) : a * dval ys (k + 1) = a * dval ys k + a * ys k * bp k := by rw [dval_s, Int.mul_add, Int.mul_assoc]
/-- One digit put anew. -/
def upd (f : Nat → Int) (i : Nat) (x : Int) : Nat → Int := fun j => if j = i then x else f j
theorem upd_at (f : Nat → Int) (i : Nat) (x : Int) : upd f i x i = x := by simp [upd]
theorem upd_ne {f : Nat → Int} {i j : Nat} (x : Int) (h : j ≠ i) : upd f i x j = f j := by simp [upd, h]
theorem dval_upd {f : Nat → Int} {i : Nat} {x : Int} : ∀ {n : Nat}, i < n → dval (upd f i x) n = dval f n + (x - f i) * bp i
  | 0, h => by omega
  | n + 1, h => by
    rw [dval_s, dval_s]
    by_cases e : i = n
    · subst e
      rw [upd_at, dval_congr (ys := f) (fun j hj => upd_ne x (by omega)), Int.sub_mul]
      omega
    · rw [dval_upd (n := n) (by omega), upd_ne x (by omega)]
      omega
/-- A step of the inner loop of a product: the digit i + k becomes s % B, the carry s / B. -/
theorem mul_step {P V c s x o q : Int} {i k : Nat} (hs : s = o + x + c) (hV : V + c * bp (i + k) = P) (q' : q = V + (s % 1000000000 - o) * bp (i + k)) : q + s / 1000000000 * bp (i + (k + 1)) = P + x * bp (i + k) := by
  have e := Int.mul_ediv_add_emod s 1000000000
  rw [← Nat.add_assoc, bp_s]
  generalize s / 1000000000 = d at *
  generalize s % 1000000000 = r at *
  generalize bp (i + k) = b at *
  subst q'
  have e1 : d * (b * 1000000000) = 1000000000 * d * b := by rw [Int.mul_comm b, ← Int.mul_assoc, Int.mul_comm d]
  have e2 : 1000000000 * d * b + r * b = (o + x + c) * b := by rw [← Int.add_mul, e, hs]
  rw [Int.add_mul, Int.add_mul] at e2
  rw [Int.sub_mul, e1]
  omega
end Go.Proofs.YtnfoagcpgegldaaGreat
