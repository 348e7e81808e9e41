/- Helpers: the law PathSignals. -/
import Derived.Test.YtnfoagcpgegldaaGreatB36
import Derived.Test.YtnfoagcpgegldaaGreatB38
import Derived.Test.YtnfoagcpgegldaaGreatB15
import Derived.Test.YtnfoagcpgegldaaGreatB17
namespace Go.Proofs.YtnfoagcpgegldaaGreat
open Go.RowKit Go.Shelf Go.Sort
attribute [local go_sem] idx3_0 idx3_1 idx3_2 old1 fro1 old2 fro2 old3 fro3 old4 fro4 old5 fro5 old6 fro6 old7 fro7 old8 fro8 old9 fro9 old10 fro10 old11 fro11 old12 fro12
set_option maxRecDepth 100000 in
set_option maxHeartbeats 4000000 in
theorem sig_D (A B : Option Addr) (na nb ca cb : Nat) (da db S L H : Int) (D : Int) (ka kb : Nat → Knot) (w : World) (hA0 : A = none → na = 0 ∧ ca = 0) (hB0 : B = none → nb = 0 ∧ cb = 0) (hA : KA w A na ka) (hB : KA w B nb kb) (na1 : na ≤ 14) (nb1 : nb ≤ 14)
    (hFW : ∀ W, Calls Tryz.prog 12 #[.agg #[.slice A na ca, .int .i64 da], .agg #[.slice B nb cb, .int .i64 db]] W fun e w' => e = .returned (.bool true) ∧ Below W.heap.size W w')
    (hCR : ∀ W X cx Y cy, KA W X na ka → KA W Y nb kb → Calls Tryz.prog 24 #[.agg #[.slice X na cx, .int .i64 da], .agg #[.slice Y nb cy, .int .i64 db], .agg #[.int .i64 S, .int .i64 L, .int .i64 H]] W fun e w' => e = .returned (.int .i64 D) ∧ Below W.heap.size W w')
    (hBE : ∀ W, KA W A na ka → KA W B nb kb → Calls Tryz.prog 16 #[.agg #[.slice A na ca, .int .i64 da], .agg #[.slice B nb cb, .int .i64 db]] W fun e w' => e = .returned (.int .i64 D) ∧ Below W.heap.size W w')
    (hq : (D == 0) = false) :
    Calls Tryz.prog 5 #[.agg #[.slice A na ca, .int .i64 da], .agg #[.slice B nb cb, .int .i64 db], .agg #[.int .i64 S, .int .i64 L, .int .i64 H]] w fun e w' => e = .returned (.bool true) ∧ Below w.heap.size w w' := by
  have HA0 := Lib.hid hA0
  have HB0 := Lib.hid hB0
  have HA := Lib.hid hA
  have HB := Lib.hid hB
  have HFW := Lib.hid hFW
  have HCR := Lib.hid hCR
  have HBE := Lib.hid hBE
  skip
  clear hA0 hB0 hA hB hFW hCR hBE
  go_enter Tryz.func5, Tryz.ntmps5
  go_wp2_with (first
    | (go_at_call 11; (with_reducible refine Calls.mono (awake_any _) ?_); rintro e w1 ⟨rfl, hb1⟩; have B1 := Lib.hid (thenB (show Below w.heap.size w _ by (repeat (first | with_reducible exact Below.refl _ _ | with_reducible assumption | with_reducible refine Below.alloc ?_ (by first | (simp; done) | (simp; omega) | omega) _ | with_reducible refine Below.setCell ?_ (by first | (simp; done) | (simp; omega) | omega) _ | with_reducible refine Below.drew ?_ | with_reducible refine below_drewN ?_ _))) hb1); go_must (have a0_1 := keep hb1 (b := w.heap.size) (o := 0) (v := .slice A na ca) (by simp [go_sem, *])); go_must (have a1_1 := keep hb1 (b := w.heap.size) (o := 1) (v := .int .i64 da) (by simp [go_sem, *])); go_must (have b0_1 := keep hb1 (b := w.heap.size + 1) (o := 0) (v := .slice B nb cb) (by simp [go_sem, *])); go_must (have b1_1 := keep hb1 (b := w.heap.size + 1) (o := 1) (v := .int .i64 db) (by simp [go_sem, *])); go_must (have x0_1 := keep hb1 (b := w.heap.size + 1 + 1) (o := 0) (v := .int .i64 S) (by simp [go_sem, *])); go_must (have x1_1 := keep hb1 (b := w.heap.size + 1 + 1) (o := 1) (v := .int .i64 L) (by simp [go_sem, *])); go_must (have x2_1 := keep hb1 (b := w.heap.size + 1 + 1) (o := 2) (v := .int .i64 H) (by simp [go_sem, *])); clear hb1)
    | (go_at_call 12; (with_reducible refine Calls.mono (HFW.out _) ?_); rintro e w2 ⟨rfl, hb2⟩; have B2 := Lib.hid (thenB (show Below w.heap.size w _ by have Bq := B1.out; have Bz := Bq.size; (repeat (first | with_reducible exact Below.refl _ _ | with_reducible assumption | with_reducible refine Below.alloc ?_ (by first | (simp; done) | (simp; omega) | omega) _ | with_reducible refine Below.setCell ?_ (by first | (simp; done) | (simp; omega) | omega) _ | with_reducible refine Below.drew ?_ | with_reducible refine below_drewN ?_ _))) hb2); go_must (have a0_2 := keep hb2 (b := w.heap.size) (o := 0) (v := .slice A na ca) (by simp [go_sem, *])); go_must (have a1_2 := keep hb2 (b := w.heap.size) (o := 1) (v := .int .i64 da) (by simp [go_sem, *])); go_must (have b0_2 := keep hb2 (b := w.heap.size + 1) (o := 0) (v := .slice B nb cb) (by simp [go_sem, *])); go_must (have b1_2 := keep hb2 (b := w.heap.size + 1) (o := 1) (v := .int .i64 db) (by simp [go_sem, *])); go_must (have x0_2 := keep hb2 (b := w.heap.size + 1 + 1) (o := 0) (v := .int .i64 S) (by simp [go_sem, *])); go_must (have x1_2 := keep hb2 (b := w.heap.size + 1 + 1) (o := 1) (v := .int .i64 L) (by simp [go_sem, *])); go_must (have x2_2 := keep hb2 (b := w.heap.size + 1 + 1) (o := 2) (v := .int .i64 H) (by simp [go_sem, *])); clear hb2)
    | fail)
  have HA_ := Lib.hid (HA.out.bel B2.out)
  have HB_ := Lib.hid (HB.out.bel B2.out)
  clear a0_1 a1_1 b0_1 b1_1 x0_1 x1_1 x2_1
  refine wp_region_mp [mpEq (.agg #[.slice A na ca, .int .i64 da]), mpCp na da ka, mpEq (.agg #[.slice B nb cb, .int .i64 db]), mpCp nb db kb, mpEq (.agg #[.int .i64 S, .int .i64 L, .int .i64 H]), mpEq (.int .i64 D), mpEq (.int .i64 D)] [false, false, false, false, false, false, false, true, false, false, false, false, false, false, false, true, true, true, true, true, true, false, false, false, false, false, false, false, false, false, false, false, false] (by kernel_rfl) (by kernel_rfl) (by kernel_rfl) (
      allOps_cons (fun a' w' hb hs hd => rg_op fun K hK => by
    have e1 := (hs.get 3 (by kernel_rfl)).trans (show _ = Value.pointer (some ⟨w.heap.size, 0, none⟩) from rfl)
    have c0 := keep hb a0_2
    have c1 := keep hb a1_2
    clear hs hd
    unfold Oper.wp
    generalize a'.eval = ρ at e1 ⊢
    simp [go_sem, e1, c0, c1]
    exact hK _ _ (Below.refl _ _) rfl) <|
      allOps_cons (fun a' w' hb hs hd => by
    exact rg_fn (φ := (mpCp na da ka).p) (vs := #[.agg #[.slice A na ca, .int .i64 da]]) rfl (enters_of Tryz.func14 (by kernel_rfl) rfl) (by simp [(show a'.eval (.tmp 15) = .agg #[.slice A na ca, .int .i64 da] from hd.get 0 15 (by kernel_rfl) (by kernel_rfl))]) ((copyT_any A na ca da ka w' (by omega) HA0.out (HA_.out.bel hb)).mono (by rintro e w1 ⟨X, c1, rfl, hk, h1⟩; exact ⟨_, rfl, h1, X, c1, rfl, hk⟩))) <|
      allOps_cons (fun a' w' hb hs hd => rg_op fun K hK => by
    have e1 := (hs.get 4 (by kernel_rfl)).trans (show _ = Value.pointer (some ⟨w.heap.size + 1, 0, none⟩) from rfl)
    have c0 := keep hb b0_2
    have c1 := keep hb b1_2
    clear hs hd
    unfold Oper.wp
    generalize a'.eval = ρ at e1 ⊢
    simp [go_sem, e1, c0, c1]
    exact hK _ _ (Below.refl _ _) rfl) <|
      allOps_cons (fun a' w' hb hs hd => by
    exact rg_fn (φ := (mpCp nb db kb).p) (vs := #[.agg #[.slice B nb cb, .int .i64 db]]) rfl (enters_of Tryz.func14 (by kernel_rfl) rfl) (by simp [(show a'.eval (.tmp 17) = .agg #[.slice B nb cb, .int .i64 db] from hd.get 2 17 (by kernel_rfl) (by kernel_rfl))]) ((copyT_any B nb cb db kb w' (by omega) HB0.out (HB_.out.bel hb)).mono (by rintro e w1 ⟨X, c1, rfl, hk, h1⟩; exact ⟨_, rfl, h1, X, c1, rfl, hk⟩))) <|
      allOps_cons (fun a' w' hb hs hd => rg_op fun K hK => by
    have e1 := (hs.get 5 (by kernel_rfl)).trans (show _ = Value.pointer (some ⟨w.heap.size + 1 + 1, 0, none⟩) from rfl)
    have c0 := keep hb x0_2
    have c1 := keep hb x1_2
    have c2 := keep hb x2_2
    clear hs hd
    unfold Oper.wp
    generalize a'.eval = ρ at e1 ⊢
    simp [go_sem, e1, c0, c1, c2]
    exact hK _ _ (Below.refl _ _) rfl) <|
      allOps_cons (fun a' w' hb hs hd => by
    obtain ⟨X1, c1, e1, k1⟩ := (show (mpCp na da ka).p (a'.eval (.tmp 16)) w' from hd.get 1 16 (by kernel_rfl) (by kernel_rfl))
    obtain ⟨X2, c2, e2, k2⟩ := (show (mpCp nb db kb).p (a'.eval (.tmp 18)) w' from hd.get 3 18 (by kernel_rfl) (by kernel_rfl))
    exact rg_fn (φ := (mpEq (.int .i64 D)).p) (vs := #[.agg #[.slice X1 na c1, .int .i64 da], .agg #[.slice X2 nb c2, .int .i64 db], .agg #[.int .i64 S, .int .i64 L, .int .i64 H]]) rfl (enters_of Tryz.func24 (by kernel_rfl) rfl) (by simp [e1, e2, (show a'.eval (.tmp 19) = .agg #[.int .i64 S, .int .i64 L, .int .i64 H] from hd.get 4 19 (by kernel_rfl) (by kernel_rfl))]) ((HCR.out w' X1 c1 X2 c2 k1 k2).mono (by rintro e w1 ⟨rfl, h1⟩; exact ⟨_, rfl, h1, rfl⟩))) <|
      allOps_cons (fun a' w' hb hs hd => rg_op fun K hK => by
    have e1 := (show a'.eval (.tmp 20) = .int .i64 D from hd.get 5 20 (by kernel_rfl) (by kernel_rfl))
    clear hs hd
    unfold Oper.wp
    generalize a'.eval = ρ at e1 ⊢
    simp [go_sem, e1]
    exact hK _ _ (Below.refl _ _) rfl) <| allOps_nil) (fun V w' hb hall => ?_)
  have h7 : V 7 = .int .i64 D := hall.get 6 rfl
  have a0_3 := keep hb a0_2
  have a1_3 := keep hb a1_2
  have b0_3 := keep hb b0_2
  have b1_3 := keep hb b1_2
  have x0_3 := keep hb x0_2
  have x1_3 := keep hb x1_2
  have x2_3 := keep hb x2_2
  have B3 := Lib.hid (thenB B2.out hb)
  replace HA_ := Lib.hid (HA.out.bel B3.out)
  replace HB_ := Lib.hid (HB.out.bel B3.out)
  clear hall hb a0_2 a1_2 b0_2 b1_2 x0_2 x1_2 x2_2 B2
  simp only [maskPut, Nat.reduceAdd]
  rw [h7]
  clear h7
  go_wp2_with (first
    | (go_at_call 16; (with_reducible refine Calls.mono (HBE.out _ (HA_.out.bel (show Below w'.heap.size w' _ by (repeat (first | with_reducible exact Below.refl _ _ | with_reducible assumption | with_reducible refine Below.alloc ?_ (by first | (simp; done) | (simp; omega) | omega) _ | with_reducible refine Below.setCell ?_ (by first | (simp; done) | (simp; omega) | omega) _ | with_reducible refine Below.drew ?_ | with_reducible refine below_drewN ?_ _)))) (HB_.out.bel (show Below w'.heap.size w' _ by (repeat (first | with_reducible exact Below.refl _ _ | with_reducible assumption | with_reducible refine Below.alloc ?_ (by first | (simp; done) | (simp; omega) | omega) _ | with_reducible refine Below.setCell ?_ (by first | (simp; done) | (simp; omega) | omega) _ | with_reducible refine Below.drew ?_ | with_reducible refine below_drewN ?_ _))))) ?_); rintro e w4 ⟨rfl, hb4⟩; have B4 := Lib.hid (thenB (show Below w.heap.size w _ by have Bq := B3.out; have Bz := Bq.size; (repeat (first | with_reducible exact Below.refl _ _ | with_reducible assumption | with_reducible refine Below.alloc ?_ (by first | (simp; done) | (simp; omega) | omega) _ | with_reducible refine Below.setCell ?_ (by first | (simp; done) | (simp; omega) | omega) _ | with_reducible refine Below.drew ?_ | with_reducible refine below_drewN ?_ _))) hb4); go_must (have a0_4 := keep hb4 (b := w.heap.size) (o := 0) (v := .slice A na ca) (by simp [go_sem, *])); go_must (have a1_4 := keep hb4 (b := w.heap.size) (o := 1) (v := .int .i64 da) (by simp [go_sem, *])); go_must (have b0_4 := keep hb4 (b := w.heap.size + 1) (o := 0) (v := .slice B nb cb) (by simp [go_sem, *])); go_must (have b1_4 := keep hb4 (b := w.heap.size + 1) (o := 1) (v := .int .i64 db) (by simp [go_sem, *])); go_must (have x0_4 := keep hb4 (b := w.heap.size + 1 + 1) (o := 0) (v := .int .i64 S) (by simp [go_sem, *])); go_must (have x1_4 := keep hb4 (b := w.heap.size + 1 + 1) (o := 1) (v := .int .i64 L) (by simp [go_sem, *])); go_must (have x2_4 := keep hb4 (b := w.heap.size + 1 + 1) (o := 2) (v := .int .i64 H) (by simp [go_sem, *])); have HA4 := Lib.hid (HA.out.bel B4.out); have HB4 := Lib.hid (HB.out.bel B4.out); clear hb4)
    | fail)
  go_ret
  have Bq := B4.out
  exact ⟨ret_bool (by simp), Bq⟩
set_option maxRecDepth 100000 in
set_option maxHeartbeats 4000000 in
theorem sig_G (A B : Option Addr) (na nb ca cb : Nat) (da db S L H : Int) (G : Int) (ka kb : Nat → Knot) (w : World) (hA0 : A = none → na = 0 ∧ ca = 0) (hB0 : B = none → nb = 0 ∧ cb = 0) (hA : KA w A na ka) (hB : KA w B nb kb) (na1 : na ≤ 14) (nb1 : nb ≤ 14)
    (hFW : ∀ W, Calls Tryz.prog 12 #[.agg #[.slice A na ca, .int .i64 da], .agg #[.slice B nb cb, .int .i64 db]] W fun e w' => e = .returned (.bool true) ∧ Below W.heap.size W w')
    (hCR : ∀ W X cx Y cy, KA W X na ka → KA W Y nb kb → Calls Tryz.prog 24 #[.agg #[.slice X na cx, .int .i64 da], .agg #[.slice Y nb cy, .int .i64 db], .agg #[.int .i64 S, .int .i64 L, .int .i64 H]] W fun e w' => e = .returned (.int .i64 G) ∧ Below W.heap.size W w')
    (hBE : ∀ W, KA W A na ka → KA W B nb kb → Calls Tryz.prog 16 #[.agg #[.slice A na ca, .int .i64 da], .agg #[.slice B nb cb, .int .i64 db]] W fun e w' => e = .returned (.int .i64 0) ∧ Below W.heap.size W w')
    (hSE : ∀ W, KA W A na ka → KA W B nb kb → Calls Tryz.prog 25 #[.agg #[.slice A na ca, .int .i64 da], .agg #[.slice B nb cb, .int .i64 db], .agg #[.int .i64 S, .int .i64 L, .int .i64 H]] W fun e w' => e = .returned (.int .i64 G) ∧ Below W.heap.size W w') :
    Calls Tryz.prog 5 #[.agg #[.slice A na ca, .int .i64 da], .agg #[.slice B nb cb, .int .i64 db], .agg #[.int .i64 S, .int .i64 L, .int .i64 H]] w fun e w' => e = .returned (.bool true) ∧ Below w.heap.size w w' := by
  have HA0 := Lib.hid hA0
  have HB0 := Lib.hid hB0
  have HA := Lib.hid hA
  have HB := Lib.hid hB
  have HFW := Lib.hid hFW
  have HCR := Lib.hid hCR
  have HBE := Lib.hid hBE
  have HSE := Lib.hid hSE
  clear hSE
  clear hA0 hB0 hA hB hFW hCR hBE
  go_enter Tryz.func5, Tryz.ntmps5
  go_wp2_with (first
    | (go_at_call 11; (with_reducible refine Calls.mono (awake_any _) ?_); rintro e w1 ⟨rfl, hb1⟩; have B1 := Lib.hid (thenB (show Below w.heap.size w _ by (repeat (first | with_reducible exact Below.refl _ _ | with_reducible assumption | with_reducible refine Below.alloc ?_ (by first | (simp; done) | (simp; omega) | omega) _ | with_reducible refine Below.setCell ?_ (by first | (simp; done) | (simp; omega) | omega) _ | with_reducible refine Below.drew ?_ | with_reducible refine below_drewN ?_ _))) hb1); go_must (have a0_1 := keep hb1 (b := w.heap.size) (o := 0) (v := .slice A na ca) (by simp [go_sem, *])); go_must (have a1_1 := keep hb1 (b := w.heap.size) (o := 1) (v := .int .i64 da) (by simp [go_sem, *])); go_must (have b0_1 := keep hb1 (b := w.heap.size + 1) (o := 0) (v := .slice B nb cb) (by simp [go_sem, *])); go_must (have b1_1 := keep hb1 (b := w.heap.size + 1) (o := 1) (v := .int .i64 db) (by simp [go_sem, *])); go_must (have x0_1 := keep hb1 (b := w.heap.size + 1 + 1) (o := 0) (v := .int .i64 S) (by simp [go_sem, *])); go_must (have x1_1 := keep hb1 (b := w.heap.size + 1 + 1) (o := 1) (v := .int .i64 L) (by simp [go_sem, *])); go_must (have x2_1 := keep hb1 (b := w.heap.size + 1 + 1) (o := 2) (v := .int .i64 H) (by simp [go_sem, *])); clear hb1)
    | (go_at_call 12; (with_reducible refine Calls.mono (HFW.out _) ?_); rintro e w2 ⟨rfl, hb2⟩; have B2 := Lib.hid (thenB (show Below w.heap.size w _ by have Bq := B1.out; have Bz := Bq.size; (repeat (first | with_reducible exact Below.refl _ _ | with_reducible assumption | with_reducible refine Below.alloc ?_ (by first | (simp; done) | (simp; omega) | omega) _ | with_reducible refine Below.setCell ?_ (by first | (simp; done) | (simp; omega) | omega) _ | with_reducible refine Below.drew ?_ | with_reducible refine below_drewN ?_ _))) hb2); go_must (have a0_2 := keep hb2 (b := w.heap.size) (o := 0) (v := .slice A na ca) (by simp [go_sem, *])); go_must (have a1_2 := keep hb2 (b := w.heap.size) (o := 1) (v := .int .i64 da) (by simp [go_sem, *])); go_must (have b0_2 := keep hb2 (b := w.heap.size + 1) (o := 0) (v := .slice B nb cb) (by simp [go_sem, *])); go_must (have b1_2 := keep hb2 (b := w.heap.size + 1) (o := 1) (v := .int .i64 db) (by simp [go_sem, *])); go_must (have x0_2 := keep hb2 (b := w.heap.size + 1 + 1) (o := 0) (v := .int .i64 S) (by simp [go_sem, *])); go_must (have x1_2 := keep hb2 (b := w.heap.size + 1 + 1) (o := 1) (v := .int .i64 L) (by simp [go_sem, *])); go_must (have x2_2 := keep hb2 (b := w.heap.size + 1 + 1) (o := 2) (v := .int .i64 H) (by simp [go_sem, *])); clear hb2)
    | fail)
  have HA_ := Lib.hid (HA.out.bel B2.out)
  have HB_ := Lib.hid (HB.out.bel B2.out)
  clear a0_1 a1_1 b0_1 b1_1 x0_1 x1_1 x2_1
  refine wp_region_mp [mpEq (.agg #[.slice A na ca, .int .i64 da]), mpCp na da ka, mpEq (.agg #[.slice B nb cb, .int .i64 db]), mpCp nb db kb, mpEq (.agg #[.int .i64 S, .int .i64 L, .int .i64 H]), mpEq (.int .i64 G), mpEq (.int .i64 G)] [false, false, false, false, false, false, false, true, false, false, false, false, false, false, false, true, true, true, true, true, true, false, false, false, false, false, false, false, false, false, false, false, false] (by kernel_rfl) (by kernel_rfl) (by kernel_rfl) (
      allOps_cons (fun a' w' hb hs hd => rg_op fun K hK => by
    have e1 := (hs.get 3 (by kernel_rfl)).trans (show _ = Value.pointer (some ⟨w.heap.size, 0, none⟩) from rfl)
    have c0 := keep hb a0_2
    have c1 := keep hb a1_2
    clear hs hd
    unfold Oper.wp
    generalize a'.eval = ρ at e1 ⊢
    simp [go_sem, e1, c0, c1]
    exact hK _ _ (Below.refl _ _) rfl) <|
      allOps_cons (fun a' w' hb hs hd => by
    exact rg_fn (φ := (mpCp na da ka).p) (vs := #[.agg #[.slice A na ca, .int .i64 da]]) rfl (enters_of Tryz.func14 (by kernel_rfl) rfl) (by simp [(show a'.eval (.tmp 15) = .agg #[.slice A na ca, .int .i64 da] from hd.get 0 15 (by kernel_rfl) (by kernel_rfl))]) ((copyT_any A na ca da ka w' (by omega) HA0.out (HA_.out.bel hb)).mono (by rintro e w1 ⟨X, c1, rfl, hk, h1⟩; exact ⟨_, rfl, h1, X, c1, rfl, hk⟩))) <|
      allOps_cons (fun a' w' hb hs hd => rg_op fun K hK => by
    have e1 := (hs.get 4 (by kernel_rfl)).trans (show _ = Value.pointer (some ⟨w.heap.size + 1, 0, none⟩) from rfl)
    have c0 := keep hb b0_2
    have c1 := keep hb b1_2
    clear hs hd
    unfold Oper.wp
    generalize a'.eval = ρ at e1 ⊢
    simp [go_sem, e1, c0, c1]
    exact hK _ _ (Below.refl _ _) rfl) <|
      allOps_cons (fun a' w' hb hs hd => by
    exact rg_fn (φ := (mpCp nb db kb).p) (vs := #[.agg #[.slice B nb cb, .int .i64 db]]) rfl (enters_of Tryz.func14 (by kernel_rfl) rfl) (by simp [(show a'.eval (.tmp 17) = .agg #[.slice B nb cb, .int .i64 db] from hd.get 2 17 (by kernel_rfl) (by kernel_rfl))]) ((copyT_any B nb cb db kb w' (by omega) HB0.out (HB_.out.bel hb)).mono (by rintro e w1 ⟨X, c1, rfl, hk, h1⟩; exact ⟨_, rfl, h1, X, c1, rfl, hk⟩))) <|
      allOps_cons (fun a' w' hb hs hd => rg_op fun K hK => by
    have e1 := (hs.get 5 (by kernel_rfl)).trans (show _ = Value.pointer (some ⟨w.heap.size + 1 + 1, 0, none⟩) from rfl)
    have c0 := keep hb x0_2
    have c1 := keep hb x1_2
    have c2 := keep hb x2_2
    clear hs hd
    unfold Oper.wp
    generalize a'.eval = ρ at e1 ⊢
    simp [go_sem, e1, c0, c1, c2]
    exact hK _ _ (Below.refl _ _) rfl) <|
      allOps_cons (fun a' w' hb hs hd => by
    obtain ⟨X1, c1, e1, k1⟩ := (show (mpCp na da ka).p (a'.eval (.tmp 16)) w' from hd.get 1 16 (by kernel_rfl) (by kernel_rfl))
    obtain ⟨X2, c2, e2, k2⟩ := (show (mpCp nb db kb).p (a'.eval (.tmp 18)) w' from hd.get 3 18 (by kernel_rfl) (by kernel_rfl))
    exact rg_fn (φ := (mpEq (.int .i64 G)).p) (vs := #[.agg #[.slice X1 na c1, .int .i64 da], .agg #[.slice X2 nb c2, .int .i64 db], .agg #[.int .i64 S, .int .i64 L, .int .i64 H]]) rfl (enters_of Tryz.func24 (by kernel_rfl) rfl) (by simp [e1, e2, (show a'.eval (.tmp 19) = .agg #[.int .i64 S, .int .i64 L, .int .i64 H] from hd.get 4 19 (by kernel_rfl) (by kernel_rfl))]) ((HCR.out w' X1 c1 X2 c2 k1 k2).mono (by rintro e w1 ⟨rfl, h1⟩; exact ⟨_, rfl, h1, rfl⟩))) <|
      allOps_cons (fun a' w' hb hs hd => rg_op fun K hK => by
    have e1 := (show a'.eval (.tmp 20) = .int .i64 G from hd.get 5 20 (by kernel_rfl) (by kernel_rfl))
    clear hs hd
    unfold Oper.wp
    generalize a'.eval = ρ at e1 ⊢
    simp [go_sem, e1]
    exact hK _ _ (Below.refl _ _) rfl) <| allOps_nil) (fun V w' hb hall => ?_)
  have h7 : V 7 = .int .i64 G := hall.get 6 rfl
  have a0_3 := keep hb a0_2
  have a1_3 := keep hb a1_2
  have b0_3 := keep hb b0_2
  have b1_3 := keep hb b1_2
  have x0_3 := keep hb x0_2
  have x1_3 := keep hb x1_2
  have x2_3 := keep hb x2_2
  have B3 := Lib.hid (thenB B2.out hb)
  replace HA_ := Lib.hid (HA.out.bel B3.out)
  replace HB_ := Lib.hid (HB.out.bel B3.out)
  clear hall hb a0_2 a1_2 b0_2 b1_2 x0_2 x1_2 x2_2 B2
  simp only [maskPut, Nat.reduceAdd]
  rw [h7]
  clear h7
  go_wp2_with (first
    | (go_at_call 16; (with_reducible refine Calls.mono (HBE.out _ (HA_.out.bel (show Below w'.heap.size w' _ by (repeat (first | with_reducible exact Below.refl _ _ | with_reducible assumption | with_reducible refine Below.alloc ?_ (by first | (simp; done) | (simp; omega) | omega) _ | with_reducible refine Below.setCell ?_ (by first | (simp; done) | (simp; omega) | omega) _ | with_reducible refine Below.drew ?_ | with_reducible refine below_drewN ?_ _)))) (HB_.out.bel (show Below w'.heap.size w' _ by (repeat (first | with_reducible exact Below.refl _ _ | with_reducible assumption | with_reducible refine Below.alloc ?_ (by first | (simp; done) | (simp; omega) | omega) _ | with_reducible refine Below.setCell ?_ (by first | (simp; done) | (simp; omega) | omega) _ | with_reducible refine Below.drew ?_ | with_reducible refine below_drewN ?_ _))))) ?_); rintro e w4 ⟨rfl, hb4⟩; have B4 := Lib.hid (thenB (show Below w.heap.size w _ by have Bq := B3.out; have Bz := Bq.size; (repeat (first | with_reducible exact Below.refl _ _ | with_reducible assumption | with_reducible refine Below.alloc ?_ (by first | (simp; done) | (simp; omega) | omega) _ | with_reducible refine Below.setCell ?_ (by first | (simp; done) | (simp; omega) | omega) _ | with_reducible refine Below.drew ?_ | with_reducible refine below_drewN ?_ _))) hb4); go_must (have a0_4 := keep hb4 (b := w.heap.size) (o := 0) (v := .slice A na ca) (by simp [go_sem, *])); go_must (have a1_4 := keep hb4 (b := w.heap.size) (o := 1) (v := .int .i64 da) (by simp [go_sem, *])); go_must (have b0_4 := keep hb4 (b := w.heap.size + 1) (o := 0) (v := .slice B nb cb) (by simp [go_sem, *])); go_must (have b1_4 := keep hb4 (b := w.heap.size + 1) (o := 1) (v := .int .i64 db) (by simp [go_sem, *])); go_must (have x0_4 := keep hb4 (b := w.heap.size + 1 + 1) (o := 0) (v := .int .i64 S) (by simp [go_sem, *])); go_must (have x1_4 := keep hb4 (b := w.heap.size + 1 + 1) (o := 1) (v := .int .i64 L) (by simp [go_sem, *])); go_must (have x2_4 := keep hb4 (b := w.heap.size + 1 + 1) (o := 2) (v := .int .i64 H) (by simp [go_sem, *])); have HA4 := Lib.hid (HA.out.bel B4.out); have HB4 := Lib.hid (HB.out.bel B4.out); clear hb4)
    | (go_at_call 25; (with_reducible refine Calls.mono (HSE.out _ (HA4.out.bel (show Below w4.heap.size w4 _ by (repeat (first | with_reducible exact Below.refl _ _ | with_reducible assumption | with_reducible refine Below.alloc ?_ (by first | (simp; done) | (simp; omega) | omega) _ | with_reducible refine Below.setCell ?_ (by first | (simp; done) | (simp; omega) | omega) _ | with_reducible refine Below.drew ?_ | with_reducible refine below_drewN ?_ _)))) (HB4.out.bel (show Below w4.heap.size w4 _ by (repeat (first | with_reducible exact Below.refl _ _ | with_reducible assumption | with_reducible refine Below.alloc ?_ (by first | (simp; done) | (simp; omega) | omega) _ | with_reducible refine Below.setCell ?_ (by first | (simp; done) | (simp; omega) | omega) _ | with_reducible refine Below.drew ?_ | with_reducible refine below_drewN ?_ _))))) ?_); rintro e w5 ⟨rfl, hb5⟩; have B5 := Lib.hid (thenB (show Below w.heap.size w _ by have Bq := B4.out; have Bz := Bq.size; (repeat (first | with_reducible exact Below.refl _ _ | with_reducible assumption | with_reducible refine Below.alloc ?_ (by first | (simp; done) | (simp; omega) | omega) _ | with_reducible refine Below.setCell ?_ (by first | (simp; done) | (simp; omega) | omega) _ | with_reducible refine Below.drew ?_ | with_reducible refine below_drewN ?_ _))) hb5); clear hb5)
    | fail)
  go_ret
  have Bq := B5.out
  exact ⟨ret_bool (by simp), Bq⟩
end Go.Proofs.YtnfoagcpgegldaaGreat
