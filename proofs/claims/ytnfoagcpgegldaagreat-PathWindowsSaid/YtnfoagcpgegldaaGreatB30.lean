/- Helpers: the law PathWindows where it ends early. No condition but the hypotheses. -/
import Derived.Test.YtnfoagcpgegldaaGreatB25
import Derived.Test.YtnfoagcpgegldaaGreatB26
import Derived.Test.YtnfoagcpgegldaaGreatB29
namespace Go.Proofs.YtnfoagcpgegldaaGreat
open Go.RowKit Go.Shelf Go.Sort
attribute [local go_sem] idx3_0 idx3_1 idx3_2 old1 fro1 old2 fro2 old3 fro3 old4 fro4 old5 fro5 old6 fro6 old7 fro7 old8 fro8 old9 fro9 old10 fro10 old11 fro11 old12 fro12
def mx0 : List Bool := [false, false, false, false, false, true, true, false, false, false, false, false, false, false, false, false, false, false, false, false, false, false, false, true, true, true, true, true, true, true, false, false, false, false, false, false, false, false, false, false, false, false, false, false, false, false, false, false, false, false, false, false, false, false, false, false, false, false, false, false, false, false, false, false, false, false, false, false, false, false, false, false, false, false, false, false, false, false, false, false, false, false, false, false, false, false, false, false, false, false, false, false, false, false, false, false, false, false, false, false, false, false, false, false, false, false, false, false, false, false, false, false, false, false, false, false, false, false, false, false, false, false, false, false, false, false, false, false, false, false, false, false, false, false, false, false, false, false, false, false, false, false, false, false, false, false, false, false, false, false, false, false, false, false, false, false, false, false, false, false, false]
def mpVw (ux uy uz : Int) (n : Nat) (k : Nat → Cone) (na : Nat) (ka : Nat → Knot) (da : Int) (nb : Nat) (kb : Nat → Knot) (db : Int) : MP :=
  ⟨fun v w => ∃ X cX Y cY Z cZ, v = .agg #[.int .i64 ux, .int .i64 uy, .int .i64 uz, .slice X n cX, .slice Y na cY, .int .i64 da, .slice Z nb cZ, .int .i64 db] ∧ KC w X n k ∧ KA w Y na ka ∧ KA w Z nb kb,
   fun _ _ _ ⟨X, cX, Y, cY, Z, cZ, hv, h1, h2, h3⟩ hb => ⟨X, cX, Y, cY, Z, cZ, hv, h1.bel hb, h2.bel hb, h3.bel hb⟩⟩
def mpWin (f : Nat → Int) (q : Nat) : MP := ⟨fun v w => ∃ A c, v = .tuple #[.slice A (ws f q).m c, .int .i64 0] ∧ WinAt w A f (ws f q), fun _ _ _ ⟨A, c, hv, h⟩ hb => ⟨A, c, hv, h.below hb⟩⟩
def mpRow (f : Nat → Int) (q : Nat) : MP := ⟨fun v w => ∃ A c, v = .slice A (ws f q).m c ∧ WinAt w A f (ws f q), fun _ _ _ ⟨A, c, hv, h⟩ hb => ⟨A, c, hv, h.below hb⟩⟩
set_option maxRecDepth 100000 in
set_option maxHeartbeats 4000000 in
theorem pw_e (ux uy uz : Int) (C SA SB : Option Addr) (n c na ca nb cb : Nat) (da db fr st ct : Int) (k : Nat → Cone) (ka kb : Nat → Knot) (w : World) (hC : KC w C n k) (hA : KA w SA na ka) (hB : KA w SB nb kb) (hVW : ∀ W, Calls Tryz.prog 33 #[.agg #[.int .i64 ux, .int .i64 uy, .int .i64 uz, .slice C n c, .slice SA na ca, .int .i64 da, .slice SB nb cb, .int .i64 db]] W fun e w' => e = .returned (.bool false) ∧ Below W.heap.size W w') :
    Calls Tryz.prog 10 #[.agg #[.int .i64 ux, .int .i64 uy, .int .i64 uz, .slice C n c, .slice SA na ca, .int .i64 da, .slice SB nb cb, .int .i64 db], .agg #[.int .i64 fr, .int .i64 st, .int .i64 ct]] w fun e w' => e = .returned (.bool true) ∧ Below w.heap.size w w' := by
  have HC := Lib.hid hC
  have HA := Lib.hid hA
  have HB := Lib.hid hB
  have HVW := Lib.hid hVW
  clear hC hA hB hVW
  go_enter Tryz.func10, Tryz.ntmps10
  go_wp2_with (first
    | (go_at_call 11; (with_reducible refine Calls.mono (awake_any _) ?_); rintro e w1 ⟨rfl, hb1⟩; have BV := Lib.hid (belowT (show Below w.heap.size w _ by (repeat (first | with_reducible exact Below.refl _ _ | with_reducible assumption | with_reducible refine Below.alloc ?_ (by first | (simp; done) | (simp; omega) | omega) _ | with_reducible refine Below.setCell ?_ (by first | (simp; done) | (simp; omega) | omega) _ | with_reducible refine Below.drew ?_ | with_reducible refine below_drewN ?_ _))) hb1); have l0 := keep hb1 (b := w.heap.size) (o := 0) (v := .int .i64 ux) (by simp [go_sem]); have l1 := keep hb1 (b := w.heap.size) (o := 1) (v := .int .i64 uy) (by simp [go_sem]); have l2 := keep hb1 (b := w.heap.size) (o := 2) (v := .int .i64 uz) (by simp [go_sem]); have l3 := keep hb1 (b := w.heap.size) (o := 3) (v := .slice C n c) (by simp [go_sem]); have l4 := keep hb1 (b := w.heap.size) (o := 4) (v := .slice SA na ca) (by simp [go_sem]); have l5 := keep hb1 (b := w.heap.size) (o := 5) (v := .int .i64 da) (by simp [go_sem]); have l6 := keep hb1 (b := w.heap.size) (o := 6) (v := .slice SB nb cb) (by simp [go_sem]); have l7 := keep hb1 (b := w.heap.size) (o := 7) (v := .int .i64 db) (by simp [go_sem]); have m0 := keep hb1 (b := w.heap.size + 1) (o := 0) (v := .int .i64 fr) (by simp [go_sem]); have m1 := keep hb1 (b := w.heap.size + 1) (o := 1) (v := .int .i64 st) (by simp [go_sem]); have m2 := keep hb1 (b := w.heap.size + 1) (o := 2) (v := .int .i64 ct) (by simp [go_sem]); replace HC := Lib.hid (HC.out.bel BV.out); replace HA := Lib.hid (HA.out.bel BV.out); replace HB := Lib.hid (HB.out.bel BV.out); have hsw := (show w.heap.size + 2 ≤ w1.heap.size by have := hb1.size; simp at this; omega); clear hb1)
    | (go_at_call 33; (with_reducible refine Calls.mono (HVW.out _) ?_); rintro e w2 ⟨rfl, hb2⟩; replace l0 := keep hb2 l0; replace l1 := keep hb2 l1; replace l2 := keep hb2 l2; replace l3 := keep hb2 l3; replace l4 := keep hb2 l4; replace l5 := keep hb2 l5; replace l6 := keep hb2 l6; replace l7 := keep hb2 l7; replace m0 := keep hb2 m0; replace m1 := keep hb2 m1; replace m2 := keep hb2 m2; replace HC := Lib.hid (HC.out.bel hb2); replace HA := Lib.hid (HA.out.bel hb2); replace HB := Lib.hid (HB.out.bel hb2); replace BV := Lib.hid (belowT BV.out hb2); clear hb2)
    | fail)
  go_ret
  exact ⟨rfl, BV.out⟩
set_option maxRecDepth 100000 in
set_option maxHeartbeats 4000000 in
theorem pw_w (ux uy uz : Int) (C SA SB : Option Addr) (n c na ca nb cb : Nat) (da db fr st ct : Int) (k : Nat → Cone) (ka kb : Nat → Knot) (w : World) (hC : KC w C n k) (hA : KA w SA na ka) (hB : KA w SB nb kb) (hVW : ∀ W, Calls Tryz.prog 33 #[.agg #[.int .i64 ux, .int .i64 uy, .int .i64 uz, .slice C n c, .slice SA na ca, .int .i64 da, .slice SB nb cb, .int .i64 db]] W fun e w' => e = .returned (.bool true) ∧ Below W.heap.size W w') (hWI : wi ct 41 200 = true) :
    Calls Tryz.prog 10 #[.agg #[.int .i64 ux, .int .i64 uy, .int .i64 uz, .slice C n c, .slice SA na ca, .int .i64 da, .slice SB nb cb, .int .i64 db], .agg #[.int .i64 fr, .int .i64 st, .int .i64 ct]] w fun e w' => e = .returned (.bool true) ∧ Below w.heap.size w w' := by
  have HWI := fun W => bwithin_any ct 41 200 W
  rw [hWI] at HWI
  clear hWI
  have HC := Lib.hid hC
  have HA := Lib.hid hA
  have HB := Lib.hid hB
  have HVW := Lib.hid hVW
  clear hC hA hB hVW
  go_enter Tryz.func10, Tryz.ntmps10
  go_wp2_with (first
    | (go_at_call 11; (with_reducible refine Calls.mono (awake_any _) ?_); rintro e w1 ⟨rfl, hb1⟩; have BV := Lib.hid (belowT (show Below w.heap.size w _ by (repeat (first | with_reducible exact Below.refl _ _ | with_reducible assumption | with_reducible refine Below.alloc ?_ (by first | (simp; done) | (simp; omega) | omega) _ | with_reducible refine Below.setCell ?_ (by first | (simp; done) | (simp; omega) | omega) _ | with_reducible refine Below.drew ?_ | with_reducible refine below_drewN ?_ _))) hb1); have l0 := keep hb1 (b := w.heap.size) (o := 0) (v := .int .i64 ux) (by simp [go_sem]); have l1 := keep hb1 (b := w.heap.size) (o := 1) (v := .int .i64 uy) (by simp [go_sem]); have l2 := keep hb1 (b := w.heap.size) (o := 2) (v := .int .i64 uz) (by simp [go_sem]); have l3 := keep hb1 (b := w.heap.size) (o := 3) (v := .slice C n c) (by simp [go_sem]); have l4 := keep hb1 (b := w.heap.size) (o := 4) (v := .slice SA na ca) (by simp [go_sem]); have l5 := keep hb1 (b := w.heap.size) (o := 5) (v := .int .i64 da) (by simp [go_sem]); have l6 := keep hb1 (b := w.heap.size) (o := 6) (v := .slice SB nb cb) (by simp [go_sem]); have l7 := keep hb1 (b := w.heap.size) (o := 7) (v := .int .i64 db) (by simp [go_sem]); have m0 := keep hb1 (b := w.heap.size + 1) (o := 0) (v := .int .i64 fr) (by simp [go_sem]); have m1 := keep hb1 (b := w.heap.size + 1) (o := 1) (v := .int .i64 st) (by simp [go_sem]); have m2 := keep hb1 (b := w.heap.size + 1) (o := 2) (v := .int .i64 ct) (by simp [go_sem]); replace HC := Lib.hid (HC.out.bel BV.out); replace HA := Lib.hid (HA.out.bel BV.out); replace HB := Lib.hid (HB.out.bel BV.out); have hsw := (show w.heap.size + 2 ≤ w1.heap.size by have := hb1.size; simp at this; omega); clear hb1)
    | (go_at_call 33; (with_reducible refine Calls.mono (HVW.out _) ?_); rintro e w2 ⟨rfl, hb2⟩; replace l0 := keep hb2 l0; replace l1 := keep hb2 l1; replace l2 := keep hb2 l2; replace l3 := keep hb2 l3; replace l4 := keep hb2 l4; replace l5 := keep hb2 l5; replace l6 := keep hb2 l6; replace l7 := keep hb2 l7; replace m0 := keep hb2 m0; replace m1 := keep hb2 m1; replace m2 := keep hb2 m2; replace HC := Lib.hid (HC.out.bel hb2); replace HA := Lib.hid (HA.out.bel hb2); replace HB := Lib.hid (HB.out.bel hb2); replace BV := Lib.hid (belowT BV.out hb2); clear hb2)
    | (go_at_call 26; (with_reducible refine Calls.mono (HWI _) ?_); rintro e w' ⟨rfl, rfl⟩)
    | fail)
  go_ret
  exact ⟨rfl, BV.out⟩
set_option maxRecDepth 100000 in
set_option maxHeartbeats 4000000 in
theorem pw_d1 (ux uy uz : Int) (C SA SB : Option Addr) (n c na ca nb cb : Nat) (da db fr st ct : Int) (k : Nat → Cone) (ka kb : Nat → Knot) (w : World) {D : Int} (hC : KC w C n k) (hA : KA w SA na ka) (hB : KA w SB nb kb) (hVW : ∀ W, Calls Tryz.prog 33 #[.agg #[.int .i64 ux, .int .i64 uy, .int .i64 uz, .slice C n c, .slice SA na ca, .int .i64 da, .slice SB nb cb, .int .i64 db]] W fun e w' => e = .returned (.bool true) ∧ Below W.heap.size W w') (hWI : wi ct 41 200 = false) (hCX : ∀ W, KC W C n k → KA W SA na ka → KA W SB nb kb → Calls Tryz.prog 37 #[.agg #[.int .i64 ux, .int .i64 uy, .int .i64 uz, .slice C n c, .slice SA na ca, .int .i64 da, .slice SB nb cb, .int .i64 db]] W fun e w' => ∃ X cX Y cY Z cZ, e = .returned (.agg #[.int .i64 ux, .int .i64 uy, .int .i64 uz, .slice X n cX, .slice Y na cY, .int .i64 da, .slice Z nb cZ, .int .i64 db]) ∧ KC w' X n k ∧ (0 < n → ∃ g, X = some ⟨g, 0, none⟩ ∧ n ≤ cX) ∧ KA w' Y na ka ∧ KA w' Z nb kb ∧ Below W.heap.size W w') (hPW : ∀ W X cX Y cY Z cZ, KC W X n k → KA W Y na ka → KA W Z nb kb → Calls Tryz.prog 41 #[.agg #[.int .i64 ux, .int .i64 uy, .int .i64 uz, .slice X n cX, .slice Y na cY, .int .i64 da, .slice Z nb cZ, .int .i64 db], .agg #[.int .i64 fr, .int .i64 st, .int .i64 ct]] W fun e w' => e = .returned (.tuple #[.slice none 0 0, .int .i64 D]) ∧ Below W.heap.size W w') (hVE : ∀ W, KC W C n k → KA W SA na ka → KA W SB nb kb → Calls Tryz.prog 39 #[.agg #[.int .i64 ux, .int .i64 uy, .int .i64 uz, .slice C n c, .slice SA na ca, .int .i64 da, .slice SB nb cb, .int .i64 db]] W fun e w' => e = .returned (.int .i64 D) ∧ Below W.heap.size W w') (hD : D ≠ 0) :
    Calls Tryz.prog 10 #[.agg #[.int .i64 ux, .int .i64 uy, .int .i64 uz, .slice C n c, .slice SA na ca, .int .i64 da, .slice SB nb cb, .int .i64 db], .agg #[.int .i64 fr, .int .i64 st, .int .i64 ct]] w fun e w' => e = .returned (.bool true) ∧ Below w.heap.size w w' := by
  have g0 : (D == 0) = false := by simp [hD]
  have g1 : (D != 0) = true := by simp [hD]
  have HWI := fun W => bwithin_any ct 41 200 W
  rw [hWI] at HWI
  clear hD hWI
  have HC := Lib.hid hC
  have HA := Lib.hid hA
  have HB := Lib.hid hB
  have HVW := Lib.hid hVW
  have HCX := Lib.hid hCX
  have HPW := Lib.hid hPW
  have HVE := Lib.hid hVE
  clear hC hA hB hVW hCX hPW hVE
  go_enter Tryz.func10, Tryz.ntmps10
  go_upto_region 5 with (first
    | (go_at_call 11; (with_reducible refine Calls.mono (awake_any _) ?_); rintro e w1 ⟨rfl, hb1⟩; have BV := Lib.hid (belowT (show Below w.heap.size w _ by (repeat (first | with_reducible exact Below.refl _ _ | with_reducible assumption | with_reducible refine Below.alloc ?_ (by first | (simp; done) | (simp; omega) | omega) _ | with_reducible refine Below.setCell ?_ (by first | (simp; done) | (simp; omega) | omega) _ | with_reducible refine Below.drew ?_ | with_reducible refine below_drewN ?_ _))) hb1); have l0 := keep hb1 (b := w.heap.size) (o := 0) (v := .int .i64 ux) (by simp [go_sem]); have l1 := keep hb1 (b := w.heap.size) (o := 1) (v := .int .i64 uy) (by simp [go_sem]); have l2 := keep hb1 (b := w.heap.size) (o := 2) (v := .int .i64 uz) (by simp [go_sem]); have l3 := keep hb1 (b := w.heap.size) (o := 3) (v := .slice C n c) (by simp [go_sem]); have l4 := keep hb1 (b := w.heap.size) (o := 4) (v := .slice SA na ca) (by simp [go_sem]); have l5 := keep hb1 (b := w.heap.size) (o := 5) (v := .int .i64 da) (by simp [go_sem]); have l6 := keep hb1 (b := w.heap.size) (o := 6) (v := .slice SB nb cb) (by simp [go_sem]); have l7 := keep hb1 (b := w.heap.size) (o := 7) (v := .int .i64 db) (by simp [go_sem]); have m0 := keep hb1 (b := w.heap.size + 1) (o := 0) (v := .int .i64 fr) (by simp [go_sem]); have m1 := keep hb1 (b := w.heap.size + 1) (o := 1) (v := .int .i64 st) (by simp [go_sem]); have m2 := keep hb1 (b := w.heap.size + 1) (o := 2) (v := .int .i64 ct) (by simp [go_sem]); replace HC := Lib.hid (HC.out.bel BV.out); replace HA := Lib.hid (HA.out.bel BV.out); replace HB := Lib.hid (HB.out.bel BV.out); have hsw := (show w.heap.size + 2 ≤ w1.heap.size by have := hb1.size; simp at this; omega); clear hb1)
    | (go_at_call 33; (with_reducible refine Calls.mono (HVW.out _) ?_); rintro e w2 ⟨rfl, hb2⟩; replace l0 := keep hb2 l0; replace l1 := keep hb2 l1; replace l2 := keep hb2 l2; replace l3 := keep hb2 l3; replace l4 := keep hb2 l4; replace l5 := keep hb2 l5; replace l6 := keep hb2 l6; replace l7 := keep hb2 l7; replace m0 := keep hb2 m0; replace m1 := keep hb2 m1; replace m2 := keep hb2 m2; replace HC := Lib.hid (HC.out.bel hb2); replace HA := Lib.hid (HA.out.bel hb2); replace HB := Lib.hid (HB.out.bel hb2); replace BV := Lib.hid (belowT BV.out hb2); clear hb2)
    | (go_at_call 26; (with_reducible refine Calls.mono (HWI _) ?_); rintro e w' ⟨rfl, rfl⟩)
    | fail)
  refine wp_region_mp [mpEq (.agg #[.int .i64 ux, .int .i64 uy, .int .i64 uz, .slice C n c, .slice SA na ca, .int .i64 da, .slice SB nb cb, .int .i64 db]), mpVw ux uy uz n k na ka da nb kb db, mpEq (.agg #[.int .i64 fr, .int .i64 st, .int .i64 ct]), mpEq (.tuple #[.slice none 0 0, .int .i64 D]), mpEq (.tuple #[.slice none 0 0, .int .i64 D]), mpEq (.slice none 0 0), mpEq (.int .i64 D), mpEq (.slice none 0 0), mpEq (.int .i64 D)] mx0 (by kernel_rfl) (by kernel_rfl) (by kernel_rfl) (
      allOps_cons (fun a' w' hb hs hd => rg_op fun K hK => by
    have e1 := (hs.get 2 (by kernel_rfl)).trans (show _ = Value.pointer (some ⟨w.heap.size, 0, none⟩) from rfl)
    have c0 := keep hb l0
    have c1 := keep hb l1
    have c2 := keep hb l2
    have c3 := keep hb l3
    have c4 := keep hb l4
    have c5 := keep hb l5
    have c6 := keep hb l6
    have c7 := keep hb l7
    clear hs hd
    unfold Oper.wp
    generalize a'.eval = ρ at e1 ⊢
    simp [go_sem, e1, c0, c1, c2, c3, c4, c5, c6, c7]
    exact hK _ _ (Below.refl _ _) rfl) <|
      allOps_cons (fun a' w' hb hs hd => by
    exact rg_fn (φ := (mpVw ux uy uz n k na ka da nb kb db).p) (vs := #[.agg #[.int .i64 ux, .int .i64 uy, .int .i64 uz, .slice C n c, .slice SA na ca, .int .i64 da, .slice SB nb cb, .int .i64 db]]) rfl (enters_of Tryz.func37 (by kernel_rfl) rfl) (by simp [(show a'.eval (.tmp 24) = .agg #[.int .i64 ux, .int .i64 uy, .int .i64 uz, .slice C n c, .slice SA na ca, .int .i64 da, .slice SB nb cb, .int .i64 db] from hd.get 0 24 (by kernel_rfl) (by kernel_rfl))]) ((HCX.out _ (HC.out.bel hb) (HA.out.bel hb) (HB.out.bel hb)).mono (by rintro e w1 ⟨X, cX, Y, cY, Z, cZ, rfl, h1, _, h2, h3, h4⟩; exact ⟨_, rfl, h4, X, cX, Y, cY, Z, cZ, rfl, h1, h2, h3⟩))) <|
      allOps_cons (fun a' w' hb hs hd => rg_op fun K hK => by
    have e1 := (hs.get 3 (by kernel_rfl)).trans (show _ = Value.pointer (some ⟨w.heap.size + 1, 0, none⟩) from rfl)
    have c0 := keep hb m0
    have c1 := keep hb m1
    have c2 := keep hb m2
    clear hs hd
    unfold Oper.wp
    generalize a'.eval = ρ at e1 ⊢
    simp [go_sem, e1, c0, c1, c2]
    exact hK _ _ (Below.refl _ _) rfl) <|
      allOps_cons (fun a' w' hb hs hd => by
    exact rg_fn (φ := (mpEq (.tuple #[.slice none 0 0, .int .i64 D])).p) (vs := #[a'.eval (.tmp 25), .agg #[.int .i64 fr, .int .i64 st, .int .i64 ct]]) rfl (enters_of Tryz.func41 (by kernel_rfl) rfl) (by simp [(show a'.eval (.tmp 26) = .agg #[.int .i64 fr, .int .i64 st, .int .i64 ct] from hd.get 2 26 (by kernel_rfl) (by kernel_rfl))]) (by obtain ⟨X, cX, Y, cY, Z, cZ, hv, h1, h2, h3⟩ := (show (mpVw ux uy uz n k na ka da nb kb db).p (a'.eval (.tmp 25)) w' from hd.get 1 25 (by kernel_rfl) (by kernel_rfl)); rw [hv]; exact (HPW.out _ X cX Y cY Z cZ h1 h2 h3).mono (by rintro e w1 ⟨rfl, h1⟩; exact ⟨_, rfl, h1, rfl⟩))) <|
      allOps_cons (fun a' w' hb hs hd => rg_op fun K hK => by
    have e1 := (show a'.eval (.tmp 27) = .tuple #[.slice none 0 0, .int .i64 D] from hd.get 3 27 (by kernel_rfl) (by kernel_rfl))
    clear hs hd
    unfold Oper.wp
    generalize a'.eval = ρ at e1 ⊢
    simp [go_sem, e1]
    exact hK _ _ (Below.refl _ _) rfl) <|
      allOps_cons (fun a' w' hb hs hd => rg_op fun K hK => by
    have e1 := (show a'.eval (.tmp 23) = .tuple #[.slice none 0 0, .int .i64 D] from hd.get 4 23 (by kernel_rfl) (by kernel_rfl))
    clear hs hd
    unfold Oper.wp
    generalize a'.eval = ρ at e1 ⊢
    simp [go_sem, e1]
    exact hK _ _ (Below.refl _ _) rfl) <|
      allOps_cons (fun a' w' hb hs hd => rg_op fun K hK => by
    have e1 := (show a'.eval (.tmp 23) = .tuple #[.slice none 0 0, .int .i64 D] from hd.get 4 23 (by kernel_rfl) (by kernel_rfl))
    clear hs hd
    unfold Oper.wp
    generalize a'.eval = ρ at e1 ⊢
    simp [go_sem, e1]
    exact hK _ _ (Below.refl _ _) rfl) <|
      allOps_cons (fun a' w' hb hs hd => rg_op fun K hK => by
    have e1 := (show a'.eval (.tmp 28) = .slice none 0 0 from hd.get 5 28 (by kernel_rfl) (by kernel_rfl))
    clear hs hd
    unfold Oper.wp
    generalize a'.eval = ρ at e1 ⊢
    simp [go_sem, e1]
    exact hK _ _ (Below.refl _ _) rfl) <|
      allOps_cons (fun a' w' hb hs hd => rg_op fun K hK => by
    have e1 := (show a'.eval (.tmp 29) = .int .i64 D from hd.get 6 29 (by kernel_rfl) (by kernel_rfl))
    clear hs hd
    unfold Oper.wp
    generalize a'.eval = ρ at e1 ⊢
    simp [go_sem, e1]
    exact hK _ _ (Below.refl _ _) rfl) <| allOps_nil) (fun Q w3 hb3 hall => ?_)
  have h5 : Q 5 = .slice none 0 0 := hall.get 7 rfl
  have h6 : Q 6 = .int .i64 D := hall.get 8 rfl
  clear hall
  simp only [mx0, maskPut, Nat.reduceAdd]
  rw [h5, h6]
  clear h5 h6
  replace l0 := keep hb3 l0
  replace l1 := keep hb3 l1
  replace l2 := keep hb3 l2
  replace l3 := keep hb3 l3
  replace l4 := keep hb3 l4
  replace l5 := keep hb3 l5
  replace l6 := keep hb3 l6
  replace l7 := keep hb3 l7
  replace m0 := keep hb3 m0
  replace m1 := keep hb3 m1
  replace m2 := keep hb3 m2
  replace HC := Lib.hid (HC.out.bel hb3)
  replace HA := Lib.hid (HA.out.bel hb3)
  replace HB := Lib.hid (HB.out.bel hb3)
  replace BV := Lib.hid (belowT BV.out hb3)
  clear hb3
  go_wp2_with (first
    | (go_at_call 39; (with_reducible refine Calls.mono (HVE.out _ HC.out HA.out HB.out) ?_); rintro e w4 ⟨rfl, hb4⟩; replace l0 := keep hb4 l0; replace l1 := keep hb4 l1; replace l2 := keep hb4 l2; replace l3 := keep hb4 l3; replace l4 := keep hb4 l4; replace l5 := keep hb4 l5; replace l6 := keep hb4 l6; replace l7 := keep hb4 l7; replace m0 := keep hb4 m0; replace m1 := keep hb4 m1; replace m2 := keep hb4 m2; replace HC := Lib.hid (HC.out.bel hb4); replace HA := Lib.hid (HA.out.bel hb4); replace HB := Lib.hid (HB.out.bel hb4); replace BV := Lib.hid (belowT BV.out hb4); clear hb4)
    | fail)
  go_ret
  exact ⟨rfl, BV.out⟩
set_option maxRecDepth 100000 in
set_option maxHeartbeats 4000000 in
theorem pw_d2 (ux uy uz : Int) (C SA SB : Option Addr) (n c na ca nb cb : Nat) (da db fr st ct : Int) (k : Nat → Cone) (ka kb : Nat → Knot) (w : World) {D : Int} (hC : KC w C n k) (hA : KA w SA na ka) (hB : KA w SB nb kb) (hVW : ∀ W, Calls Tryz.prog 33 #[.agg #[.int .i64 ux, .int .i64 uy, .int .i64 uz, .slice C n c, .slice SA na ca, .int .i64 da, .slice SB nb cb, .int .i64 db]] W fun e w' => e = .returned (.bool true) ∧ Below W.heap.size W w') (hWI : wi ct 41 200 = false) (hCX : ∀ W, KC W C n k → KA W SA na ka → KA W SB nb kb → Calls Tryz.prog 37 #[.agg #[.int .i64 ux, .int .i64 uy, .int .i64 uz, .slice C n c, .slice SA na ca, .int .i64 da, .slice SB nb cb, .int .i64 db]] W fun e w' => ∃ X cX Y cY Z cZ, e = .returned (.agg #[.int .i64 ux, .int .i64 uy, .int .i64 uz, .slice X n cX, .slice Y na cY, .int .i64 da, .slice Z nb cZ, .int .i64 db]) ∧ KC w' X n k ∧ (0 < n → ∃ g, X = some ⟨g, 0, none⟩ ∧ n ≤ cX) ∧ KA w' Y na ka ∧ KA w' Z nb kb ∧ Below W.heap.size W w') (hPW : ∀ W X cX Y cY Z cZ, KC W X n k → KA W Y na ka → KA W Z nb kb → Calls Tryz.prog 41 #[.agg #[.int .i64 ux, .int .i64 uy, .int .i64 uz, .slice X n cX, .slice Y na cY, .int .i64 da, .slice Z nb cZ, .int .i64 db], .agg #[.int .i64 fr, .int .i64 st, .int .i64 ct]] W fun e w' => e = .returned (.tuple #[.slice none 0 0, .int .i64 D]) ∧ Below W.heap.size W w') (hVE : ∀ W, KC W C n k → KA W SA na ka → KA W SB nb kb → Calls Tryz.prog 39 #[.agg #[.int .i64 ux, .int .i64 uy, .int .i64 uz, .slice C n c, .slice SA na ca, .int .i64 da, .slice SB nb cb, .int .i64 db]] W fun e w' => e = .returned (.int .i64 0) ∧ Below W.heap.size W w') (hGE : ∀ W, KA W SA na ka → KA W SB nb kb → Calls Tryz.prog 42 #[.agg #[.int .i64 ux, .int .i64 uy, .int .i64 uz, .slice C n c, .slice SA na ca, .int .i64 da, .slice SB nb cb, .int .i64 db], .agg #[.int .i64 fr, .int .i64 st, .int .i64 ct]] W fun e w' => e = .returned (.int .i64 D) ∧ Below W.heap.size W w') (hD : D ≠ 0) :
    Calls Tryz.prog 10 #[.agg #[.int .i64 ux, .int .i64 uy, .int .i64 uz, .slice C n c, .slice SA na ca, .int .i64 da, .slice SB nb cb, .int .i64 db], .agg #[.int .i64 fr, .int .i64 st, .int .i64 ct]] w fun e w' => e = .returned (.bool true) ∧ Below w.heap.size w w' := by
  have g0 : (D == 0) = false := by simp [hD]
  have g1 : (D != 0) = true := by simp [hD]
  have HWI := fun W => bwithin_any ct 41 200 W
  rw [hWI] at HWI
  clear hD hWI
  have HC := Lib.hid hC
  have HA := Lib.hid hA
  have HB := Lib.hid hB
  have HVW := Lib.hid hVW
  have HCX := Lib.hid hCX
  have HPW := Lib.hid hPW
  have HVE := Lib.hid hVE
  have HGE := Lib.hid hGE
  clear hC hA hB hVW hCX hPW hVE hGE
  go_enter Tryz.func10, Tryz.ntmps10
  go_upto_region 5 with (first
    | (go_at_call 11; (with_reducible refine Calls.mono (awake_any _) ?_); rintro e w1 ⟨rfl, hb1⟩; have BV := Lib.hid (belowT (show Below w.heap.size w _ by (repeat (first | with_reducible exact Below.refl _ _ | with_reducible assumption | with_reducible refine Below.alloc ?_ (by first | (simp; done) | (simp; omega) | omega) _ | with_reducible refine Below.setCell ?_ (by first | (simp; done) | (simp; omega) | omega) _ | with_reducible refine Below.drew ?_ | with_reducible refine below_drewN ?_ _))) hb1); have l0 := keep hb1 (b := w.heap.size) (o := 0) (v := .int .i64 ux) (by simp [go_sem]); have l1 := keep hb1 (b := w.heap.size) (o := 1) (v := .int .i64 uy) (by simp [go_sem]); have l2 := keep hb1 (b := w.heap.size) (o := 2) (v := .int .i64 uz) (by simp [go_sem]); have l3 := keep hb1 (b := w.heap.size) (o := 3) (v := .slice C n c) (by simp [go_sem]); have l4 := keep hb1 (b := w.heap.size) (o := 4) (v := .slice SA na ca) (by simp [go_sem]); have l5 := keep hb1 (b := w.heap.size) (o := 5) (v := .int .i64 da) (by simp [go_sem]); have l6 := keep hb1 (b := w.heap.size) (o := 6) (v := .slice SB nb cb) (by simp [go_sem]); have l7 := keep hb1 (b := w.heap.size) (o := 7) (v := .int .i64 db) (by simp [go_sem]); have m0 := keep hb1 (b := w.heap.size + 1) (o := 0) (v := .int .i64 fr) (by simp [go_sem]); have m1 := keep hb1 (b := w.heap.size + 1) (o := 1) (v := .int .i64 st) (by simp [go_sem]); have m2 := keep hb1 (b := w.heap.size + 1) (o := 2) (v := .int .i64 ct) (by simp [go_sem]); replace HC := Lib.hid (HC.out.bel BV.out); replace HA := Lib.hid (HA.out.bel BV.out); replace HB := Lib.hid (HB.out.bel BV.out); have hsw := (show w.heap.size + 2 ≤ w1.heap.size by have := hb1.size; simp at this; omega); clear hb1)
    | (go_at_call 33; (with_reducible refine Calls.mono (HVW.out _) ?_); rintro e w2 ⟨rfl, hb2⟩; replace l0 := keep hb2 l0; replace l1 := keep hb2 l1; replace l2 := keep hb2 l2; replace l3 := keep hb2 l3; replace l4 := keep hb2 l4; replace l5 := keep hb2 l5; replace l6 := keep hb2 l6; replace l7 := keep hb2 l7; replace m0 := keep hb2 m0; replace m1 := keep hb2 m1; replace m2 := keep hb2 m2; replace HC := Lib.hid (HC.out.bel hb2); replace HA := Lib.hid (HA.out.bel hb2); replace HB := Lib.hid (HB.out.bel hb2); replace BV := Lib.hid (belowT BV.out hb2); clear hb2)
    | (go_at_call 26; (with_reducible refine Calls.mono (HWI _) ?_); rintro e w' ⟨rfl, rfl⟩)
    | fail)
  refine wp_region_mp [mpEq (.agg #[.int .i64 ux, .int .i64 uy, .int .i64 uz, .slice C n c, .slice SA na ca, .int .i64 da, .slice SB nb cb, .int .i64 db]), mpVw ux uy uz n k na ka da nb kb db, mpEq (.agg #[.int .i64 fr, .int .i64 st, .int .i64 ct]), mpEq (.tuple #[.slice none 0 0, .int .i64 D]), mpEq (.tuple #[.slice none 0 0, .int .i64 D]), mpEq (.slice none 0 0), mpEq (.int .i64 D), mpEq (.slice none 0 0), mpEq (.int .i64 D)] mx0 (by kernel_rfl) (by kernel_rfl) (by kernel_rfl) (
      allOps_cons (fun a' w' hb hs hd => rg_op fun K hK => by
    have e1 := (hs.get 2 (by kernel_rfl)).trans (show _ = Value.pointer (some ⟨w.heap.size, 0, none⟩) from rfl)
    have c0 := keep hb l0
    have c1 := keep hb l1
    have c2 := keep hb l2
    have c3 := keep hb l3
    have c4 := keep hb l4
    have c5 := keep hb l5
    have c6 := keep hb l6
    have c7 := keep hb l7
    clear hs hd
    unfold Oper.wp
    generalize a'.eval = ρ at e1 ⊢
    simp [go_sem, e1, c0, c1, c2, c3, c4, c5, c6, c7]
    exact hK _ _ (Below.refl _ _) rfl) <|
      allOps_cons (fun a' w' hb hs hd => by
    exact rg_fn (φ := (mpVw ux uy uz n k na ka da nb kb db).p) (vs := #[.agg #[.int .i64 ux, .int .i64 uy, .int .i64 uz, .slice C n c, .slice SA na ca, .int .i64 da, .slice SB nb cb, .int .i64 db]]) rfl (enters_of Tryz.func37 (by kernel_rfl) rfl) (by simp [(show a'.eval (.tmp 24) = .agg #[.int .i64 ux, .int .i64 uy, .int .i64 uz, .slice C n c, .slice SA na ca, .int .i64 da, .slice SB nb cb, .int .i64 db] from hd.get 0 24 (by kernel_rfl) (by kernel_rfl))]) ((HCX.out _ (HC.out.bel hb) (HA.out.bel hb) (HB.out.bel hb)).mono (by rintro e w1 ⟨X, cX, Y, cY, Z, cZ, rfl, h1, _, h2, h3, h4⟩; exact ⟨_, rfl, h4, X, cX, Y, cY, Z, cZ, rfl, h1, h2, h3⟩))) <|
      allOps_cons (fun a' w' hb hs hd => rg_op fun K hK => by
    have e1 := (hs.get 3 (by kernel_rfl)).trans (show _ = Value.pointer (some ⟨w.heap.size + 1, 0, none⟩) from rfl)
    have c0 := keep hb m0
    have c1 := keep hb m1
    have c2 := keep hb m2
    clear hs hd
    unfold Oper.wp
    generalize a'.eval = ρ at e1 ⊢
    simp [go_sem, e1, c0, c1, c2]
    exact hK _ _ (Below.refl _ _) rfl) <|
      allOps_cons (fun a' w' hb hs hd => by
    exact rg_fn (φ := (mpEq (.tuple #[.slice none 0 0, .int .i64 D])).p) (vs := #[a'.eval (.tmp 25), .agg #[.int .i64 fr, .int .i64 st, .int .i64 ct]]) rfl (enters_of Tryz.func41 (by kernel_rfl) rfl) (by simp [(show a'.eval (.tmp 26) = .agg #[.int .i64 fr, .int .i64 st, .int .i64 ct] from hd.get 2 26 (by kernel_rfl) (by kernel_rfl))]) (by obtain ⟨X, cX, Y, cY, Z, cZ, hv, h1, h2, h3⟩ := (show (mpVw ux uy uz n k na ka da nb kb db).p (a'.eval (.tmp 25)) w' from hd.get 1 25 (by kernel_rfl) (by kernel_rfl)); rw [hv]; exact (HPW.out _ X cX Y cY Z cZ h1 h2 h3).mono (by rintro e w1 ⟨rfl, h1⟩; exact ⟨_, rfl, h1, rfl⟩))) <|
      allOps_cons (fun a' w' hb hs hd => rg_op fun K hK => by
    have e1 := (show a'.eval (.tmp 27) = .tuple #[.slice none 0 0, .int .i64 D] from hd.get 3 27 (by kernel_rfl) (by kernel_rfl))
    clear hs hd
    unfold Oper.wp
    generalize a'.eval = ρ at e1 ⊢
    simp [go_sem, e1]
    exact hK _ _ (Below.refl _ _) rfl) <|
      allOps_cons (fun a' w' hb hs hd => rg_op fun K hK => by
    have e1 := (show a'.eval (.tmp 23) = .tuple #[.slice none 0 0, .int .i64 D] from hd.get 4 23 (by kernel_rfl) (by kernel_rfl))
    clear hs hd
    unfold Oper.wp
    generalize a'.eval = ρ at e1 ⊢
    simp [go_sem, e1]
    exact hK _ _ (Below.refl _ _) rfl) <|
      allOps_cons (fun a' w' hb hs hd => rg_op fun K hK => by
    have e1 := (show a'.eval (.tmp 23) = .tuple #[.slice none 0 0, .int .i64 D] from hd.get 4 23 (by kernel_rfl) (by kernel_rfl))
    clear hs hd
    unfold Oper.wp
    generalize a'.eval = ρ at e1 ⊢
    simp [go_sem, e1]
    exact hK _ _ (Below.refl _ _) rfl) <|
      allOps_cons (fun a' w' hb hs hd => rg_op fun K hK => by
    have e1 := (show a'.eval (.tmp 28) = .slice none 0 0 from hd.get 5 28 (by kernel_rfl) (by kernel_rfl))
    clear hs hd
    unfold Oper.wp
    generalize a'.eval = ρ at e1 ⊢
    simp [go_sem, e1]
    exact hK _ _ (Below.refl _ _) rfl) <|
      allOps_cons (fun a' w' hb hs hd => rg_op fun K hK => by
    have e1 := (show a'.eval (.tmp 29) = .int .i64 D from hd.get 6 29 (by kernel_rfl) (by kernel_rfl))
    clear hs hd
    unfold Oper.wp
    generalize a'.eval = ρ at e1 ⊢
    simp [go_sem, e1]
    exact hK _ _ (Below.refl _ _) rfl) <| allOps_nil) (fun Q w3 hb3 hall => ?_)
  have h5 : Q 5 = .slice none 0 0 := hall.get 7 rfl
  have h6 : Q 6 = .int .i64 D := hall.get 8 rfl
  clear hall
  simp only [mx0, maskPut, Nat.reduceAdd]
  rw [h5, h6]
  clear h5 h6
  replace l0 := keep hb3 l0
  replace l1 := keep hb3 l1
  replace l2 := keep hb3 l2
  replace l3 := keep hb3 l3
  replace l4 := keep hb3 l4
  replace l5 := keep hb3 l5
  replace l6 := keep hb3 l6
  replace l7 := keep hb3 l7
  replace m0 := keep hb3 m0
  replace m1 := keep hb3 m1
  replace m2 := keep hb3 m2
  replace HC := Lib.hid (HC.out.bel hb3)
  replace HA := Lib.hid (HA.out.bel hb3)
  replace HB := Lib.hid (HB.out.bel hb3)
  replace BV := Lib.hid (belowT BV.out hb3)
  clear hb3
  go_wp2_with (first
    | (go_at_call 39; (with_reducible refine Calls.mono (HVE.out _ HC.out HA.out HB.out) ?_); rintro e w4 ⟨rfl, hb4⟩; replace l0 := keep hb4 l0; replace l1 := keep hb4 l1; replace l2 := keep hb4 l2; replace l3 := keep hb4 l3; replace l4 := keep hb4 l4; replace l5 := keep hb4 l5; replace l6 := keep hb4 l6; replace l7 := keep hb4 l7; replace m0 := keep hb4 m0; replace m1 := keep hb4 m1; replace m2 := keep hb4 m2; replace HC := Lib.hid (HC.out.bel hb4); replace HA := Lib.hid (HA.out.bel hb4); replace HB := Lib.hid (HB.out.bel hb4); replace BV := Lib.hid (belowT BV.out hb4); clear hb4)
    | (go_at_call 42; (with_reducible refine Calls.mono (HGE.out _ HA.out HB.out) ?_); rintro e w5 ⟨rfl, hb5⟩; replace l0 := keep hb5 l0; replace l1 := keep hb5 l1; replace l2 := keep hb5 l2; replace l3 := keep hb5 l3; replace l4 := keep hb5 l4; replace l5 := keep hb5 l5; replace l6 := keep hb5 l6; replace l7 := keep hb5 l7; replace m0 := keep hb5 m0; replace m1 := keep hb5 m1; replace m2 := keep hb5 m2; replace HC := Lib.hid (HC.out.bel hb5); replace HA := Lib.hid (HA.out.bel hb5); replace HB := Lib.hid (HB.out.bel hb5); replace BV := Lib.hid (belowT BV.out hb5); clear hb5)
    | fail)
  go_ret
  exact ⟨rfl, BV.out⟩
end Go.Proofs.YtnfoagcpgegldaaGreat
