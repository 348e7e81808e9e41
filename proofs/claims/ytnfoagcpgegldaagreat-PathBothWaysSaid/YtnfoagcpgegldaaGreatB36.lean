/- Helpers: the law PathBothWays, where the signal surely arrives. -/
import Derived.Test.YtnfoagcpgegldaaGreatB35
import Derived.Test.YtnfoagcpgegldaaGreatB15
import Derived.Test.YtnfoagcpgegldaaGreatB17
import Derived.IntWalk
namespace Go.Proofs.YtnfoagcpgegldaaGreat
open Go.RowKit Go.Shelf Go.Sort
attribute [local go_sem] idx3_0 idx3_1 idx3_2 old1 fro1 old2 fro2 old3 fro3 old4 fro4 old5 fro5 old6 fro6 old7 fro7 old8 fro8 old9 fro9 old10 fro10 old11 fro11 old12 fro12
set_option maxRecDepth 100000 in
set_option maxHeartbeats 8000000 in
theorem both_y (A B : Option Addr) (na nb ca cb : Nat) (da db s T F Lo Hi C G sL sH Z bL bH R tL tH : Int) (ka kb : Nat → Knot) (w : World) (hA00 : A = none → na = 0 ∧ ca = 0) (hB00 : B = none → nb = 0 ∧ cb = 0) (hAA : KA w A na ka) (hBB : KA w B nb kb) (na1 : na ≤ 14) (nb1 : nb ≤ 14)
    (l1 : s ≤ Lo) (l2 : Lo ≤ Hi) (l3 : Hi ≤ T) (s0 : 0 ≤ s) (T1 : T ≤ 1000000000000) (hC : C ≠ 0 → C = 2) (hG : G ≠ 0 → G = 12) (f0 : G = 0 → F ≤ sL ∧ sL ≤ sH ∧ sH ≤ s) (F0 : 0 ≤ F) (sT : s ≤ 1000000000000) (b1 : G = 0 → Z = 0 → bH ≤ s) (t0 : R = 0 → s ≤ tL ∧ tL ≤ tH ∧ Lo ≤ tL ∧ Hi ≤ tH)
    (hFW : ∀ W, Calls Tryz.prog 12 #[.agg #[.slice A na ca, .int .i64 da], .agg #[.slice B nb cb, .int .i64 db]] W fun e w' => e = .returned (.bool true) ∧ Below W.heap.size W w')
    (hBE : ∀ W, KA W A na ka → KA W B nb kb → Calls Tryz.prog 16 #[.agg #[.slice A na ca, .int .i64 da], .agg #[.slice B nb cb, .int .i64 db]] W fun e w' => e = .returned (.int .i64 0) ∧ Below W.heap.size W w')
    (hTE : ∀ W, KA W A na ka → KA W B nb kb → Calls Tryz.prog 17 #[.agg #[.slice A na ca, .int .i64 da], .agg #[.slice B nb cb, .int .i64 db], .int .i64 s] W fun e w' => e = .returned (.int .i64 0) ∧ Below W.heap.size W w')
    (hRA : ∀ W X cx Y cy, KA W X na ka → KA W Y nb kb → Calls Tryz.prog 20 #[.agg #[.slice X na cx, .int .i64 da], .agg #[.slice Y nb cy, .int .i64 db], .int .i64 s] W fun e w' => e = .returned (.tuple #[.agg #[.int .i64 Lo, .int .i64 Hi], .int .i64 0]) ∧ Below W.heap.size W w')
    (hSA : ∀ W X cx Y cy, KA W X na ka → KA W Y nb kb → Calls Tryz.prog 21 #[.agg #[.slice X na cx, .int .i64 da], .agg #[.slice Y nb cy, .int .i64 db], .int .i64 s] W fun e w' => e = .returned (.tuple #[.agg #[.int .i64 sL, .int .i64 sH], .int .i64 G]) ∧ Below W.heap.size W w')
    (hRT : ∀ W X cx Y cy, KA W X na ka → KA W Y nb kb → Calls Tryz.prog 31 #[.agg #[.slice X na cx, .int .i64 da], .agg #[.slice Y nb cy, .int .i64 db], .int .i64 s] W fun e w' => e = .returned (.tuple #[.agg #[.int .i64 tL, .int .i64 tH], .int .i64 R]) ∧ Below W.heap.size W w')
    (hRR : ∀ W, KA W A na ka → KA W B nb kb → Calls Tryz.prog 32 #[.agg #[.slice A na ca, .int .i64 da], .agg #[.slice B nb cb, .int .i64 db], .int .i64 s] W fun e w' => e = .returned (.tuple #[.agg #[.int .i64 tL, .int .i64 tH], .int .i64 R]) ∧ Below W.heap.size W w')
    (hLT : ∀ W, KA W A na ka → KA W B nb kb → Calls Tryz.prog 27 #[.agg #[.slice B nb cb, .int .i64 db]] W fun e w' => e = .returned (.int .i64 T) ∧ Below W.heap.size W w')
    (hFT : ∀ W, KA W A na ka → KA W B nb kb → Calls Tryz.prog 30 #[.agg #[.slice A na ca, .int .i64 da]] W fun e w' => e = .returned (.int .i64 F) ∧ Below W.heap.size W w')
    (hA1 : ∀ W, KA W A na ka → KA W B nb kb → Calls Tryz.prog 28 #[.agg #[.slice A na ca, .int .i64 da], .agg #[.slice B nb cb, .int .i64 db], .int .i64 s, .int .i64 Hi] W fun e w' => e = .returned (.bool true) ∧ Below W.heap.size W w')
    (hA2 : s < Hi → ∀ W, KA W A na ka → KA W B nb kb → Calls Tryz.prog 28 #[.agg #[.slice A na ca, .int .i64 da], .agg #[.slice B nb cb, .int .i64 db], .int .i64 s, .int .i64 (Hi - 1)] W fun e w' => e = .returned (.bool false) ∧ Below W.heap.size W w')
    (hW1 : s < Lo → ∀ W, KA W A na ka → KA W B nb kb → Calls Tryz.prog 29 #[.agg #[.slice A na ca, .int .i64 da], .agg #[.slice B nb cb, .int .i64 db], .int .i64 s, .int .i64 Lo] W fun e w' => e = .returned (.bool true) ∧ Below W.heap.size W w')
    (hW2 : Lo < T → ∀ W, KA W A na ka → KA W B nb kb → Calls Tryz.prog 29 #[.agg #[.slice A na ca, .int .i64 da], .agg #[.slice B nb cb, .int .i64 db], .int .i64 s, .int .i64 (Lo + 1)] W fun e w' => e = .returned (.bool false) ∧ Below W.heap.size W w')
    (hCR : ∀ W X cx Y cy, KA W X na ka → KA W Y nb kb → Calls Tryz.prog 24 #[.agg #[.slice X na cx, .int .i64 da], .agg #[.slice Y nb cy, .int .i64 db], .agg #[.int .i64 s, .int .i64 Lo, .int .i64 Hi]] W fun e w' => e = .returned (.int .i64 C) ∧ Below W.heap.size W w')
    (hTH : C ≠ 0 → ∀ W, KA W A na ka → KA W B nb kb → Calls Tryz.prog 17 #[.agg #[.slice A na ca, .int .i64 da], .agg #[.slice B nb cb, .int .i64 db], .int .i64 Hi] W fun e w' => e = .returned (.int .i64 2) ∧ Below W.heap.size W w')
    (hS1 : G = 0 → ∀ W, KA W A na ka → KA W B nb kb → Calls Tryz.prog 28 #[.agg #[.slice A na ca, .int .i64 da], .agg #[.slice B nb cb, .int .i64 db], .int .i64 sL, .int .i64 s] W fun e w' => e = .returned (.bool true) ∧ Below W.heap.size W w')
    (hS2 : G = 0 → sL < s → ∀ W, KA W A na ka → KA W B nb kb → Calls Tryz.prog 28 #[.agg #[.slice A na ca, .int .i64 da], .agg #[.slice B nb cb, .int .i64 db], .int .i64 (sL + 1), .int .i64 s] W fun e w' => e = .returned (.bool false) ∧ Below W.heap.size W w')
    (hTS : G = 0 → ∀ W, KA W A na ka → KA W B nb kb → Calls Tryz.prog 17 #[.agg #[.slice A na ca, .int .i64 da], .agg #[.slice B nb cb, .int .i64 db], .int .i64 sL] W fun e w' => e = .returned (.int .i64 Z) ∧ Below W.heap.size W w')
    (hRB : G = 0 → Z = 0 → ∀ W X cx Y cy, KA W X na ka → KA W Y nb kb → Calls Tryz.prog 20 #[.agg #[.slice X na cx, .int .i64 da], .agg #[.slice Y nb cy, .int .i64 db], .int .i64 sL] W fun e w' => e = .returned (.tuple #[.agg #[.int .i64 bL, .int .i64 bH], .int .i64 0]) ∧ Below W.heap.size W w')
    (hS0 : G ≠ 0 → ∀ W, KA W A na ka → KA W B nb kb → Calls Tryz.prog 28 #[.agg #[.slice A na ca, .int .i64 da], .agg #[.slice B nb cb, .int .i64 db], .int .i64 F, .int .i64 s] W fun e w' => e = .returned (.bool false) ∧ Below W.heap.size W w') :
    Calls Tryz.prog 6 #[.agg #[.slice A na ca, .int .i64 da], .agg #[.slice B nb cb, .int .i64 db], .int .i64 s] w fun e w' => e = .returned (.bool true) ∧ Below w.heap.size w w' := by
  have HA0 := Lib.hid hA00
  have HB0 := Lib.hid hB00
  have HA := Lib.hid hAA
  have HB := Lib.hid hBB
  have KFW := Lib.hid hFW
  have KBE := Lib.hid hBE
  have KTE := Lib.hid hTE
  have KRA := Lib.hid hRA
  have KSA := Lib.hid hSA
  have KRT := Lib.hid hRT
  have KRR := Lib.hid hRR
  have KLT := Lib.hid hLT
  have KFT := Lib.hid hFT
  have KA1 := Lib.hid hA1
  have KA2 := Lib.hid hA2
  have KW1 := Lib.hid hW1
  have KW2 := Lib.hid hW2
  have KCR := Lib.hid hCR
  have KTH := Lib.hid hTH
  have KS1 := Lib.hid hS1
  have KS2 := Lib.hid hS2
  have KTS := Lib.hid hTS
  have KRB := Lib.hid hRB
  have KS0 := Lib.hid hS0
  clear hA00 hB00 hAA hBB hFW hBE hTE hRA hSA hRT hRR hLT hFT hA1 hA2 hW1 hW2 hCR hTH hS1 hS2 hTS hRB hS0
  go_enter Tryz.func6, Tryz.ntmps6
  go_wp2_with (first
    | (go_at_call 11; (with_reducible refine Calls.mono (awake_any _) ?_); rintro e w1 ⟨rfl, hb1⟩; have B_1 := Lib.hid (thenB (show Below w.heap.size w _ by (repeat (first | with_reducible exact Below.refl _ _ | with_reducible assumption | with_reducible refine Below.alloc ?_ (by first | (simp; done) | (simp; omega) | omega) _ | with_reducible refine Below.setCell ?_ (by first | (simp; done) | (simp; omega) | omega) _ | with_reducible refine Below.drew ?_ | with_reducible refine below_drewN ?_ _))) hb1); go_must (have a0_1 := keep hb1 (b := w.heap.size) (o := 0) (v := .slice A na ca) (by simp [go_sem, *])); go_must (have a1_1 := keep hb1 (b := w.heap.size) (o := 1) (v := .int .i64 da) (by simp [go_sem, *])); go_must (have b0_1 := keep hb1 (b := w.heap.size + 1) (o := 0) (v := .slice B nb cb) (by simp [go_sem, *])); go_must (have b1_1 := keep hb1 (b := w.heap.size + 1) (o := 1) (v := .int .i64 db) (by simp [go_sem, *])); have HA_1 := Lib.hid (HA.out.bel B_1.out); have HB_1 := Lib.hid (HB.out.bel B_1.out); clear hb1)
    | (go_at_call 12; (with_reducible refine Calls.mono (KFW.out _) ?_); rintro e w2 ⟨rfl, hb2⟩; have B_2 := Lib.hid (thenB (show Below w.heap.size w _ by have Bq := B_1.out; have Bz := Bq.size; (repeat (first | with_reducible exact Below.refl _ _ | with_reducible assumption | with_reducible refine Below.alloc ?_ (by first | (simp; done) | (simp; omega) | omega) _ | with_reducible refine Below.setCell ?_ (by first | (simp; done) | (simp; omega) | omega) _ | with_reducible refine Below.drew ?_ | with_reducible refine below_drewN ?_ _))) hb2); go_must (have a0_2 := keep hb2 (b := w.heap.size) (o := 0) (v := .slice A na ca) (by simp [go_sem, *])); go_must (have a1_2 := keep hb2 (b := w.heap.size) (o := 1) (v := .int .i64 da) (by simp [go_sem, *])); go_must (have b0_2 := keep hb2 (b := w.heap.size + 1) (o := 0) (v := .slice B nb cb) (by simp [go_sem, *])); go_must (have b1_2 := keep hb2 (b := w.heap.size + 1) (o := 1) (v := .int .i64 db) (by simp [go_sem, *])); have HA_2 := Lib.hid (HA.out.bel B_2.out); have HB_2 := Lib.hid (HB.out.bel B_2.out); clear hb2)
    | (go_at_call 16; (with_reducible refine Calls.mono (KBE.out _ HA_2.out HB_2.out) ?_); rintro e w3 ⟨rfl, hb3⟩; have B_3 := Lib.hid (thenB (show Below w.heap.size w _ by have Bq := B_2.out; have Bz := Bq.size; (repeat (first | with_reducible exact Below.refl _ _ | with_reducible assumption | with_reducible refine Below.alloc ?_ (by first | (simp; done) | (simp; omega) | omega) _ | with_reducible refine Below.setCell ?_ (by first | (simp; done) | (simp; omega) | omega) _ | with_reducible refine Below.drew ?_ | with_reducible refine below_drewN ?_ _))) hb3); go_must (have a0_3 := keep hb3 (b := w.heap.size) (o := 0) (v := .slice A na ca) (by simp [go_sem, *])); go_must (have a1_3 := keep hb3 (b := w.heap.size) (o := 1) (v := .int .i64 da) (by simp [go_sem, *])); go_must (have b0_3 := keep hb3 (b := w.heap.size + 1) (o := 0) (v := .slice B nb cb) (by simp [go_sem, *])); go_must (have b1_3 := keep hb3 (b := w.heap.size + 1) (o := 1) (v := .int .i64 db) (by simp [go_sem, *])); have HA_3 := Lib.hid (HA.out.bel B_3.out); have HB_3 := Lib.hid (HB.out.bel B_3.out); clear hb3)
    | (go_at_call 17; (with_reducible refine Calls.mono (KTE.out _ HA_3.out HB_3.out) ?_); rintro e y4 ⟨rfl, hb4⟩; have B_4 := Lib.hid (thenB (show Below w.heap.size w _ by have Bq := B_3.out; have Bz := Bq.size; (repeat (first | with_reducible exact Below.refl _ _ | with_reducible assumption | with_reducible refine Below.alloc ?_ (by first | (simp; done) | (simp; omega) | omega) _ | with_reducible refine Below.setCell ?_ (by first | (simp; done) | (simp; omega) | omega) _ | with_reducible refine Below.drew ?_ | with_reducible refine below_drewN ?_ _))) hb4); go_must (have a0_4 := keep hb4 (b := w.heap.size) (o := 0) (v := .slice A na ca) (by simp [go_sem, *])); go_must (have a1_4 := keep hb4 (b := w.heap.size) (o := 1) (v := .int .i64 da) (by simp [go_sem, *])); go_must (have b0_4 := keep hb4 (b := w.heap.size + 1) (o := 0) (v := .slice B nb cb) (by simp [go_sem, *])); go_must (have b1_4 := keep hb4 (b := w.heap.size + 1) (o := 1) (v := .int .i64 db) (by simp [go_sem, *])); have HA_4 := Lib.hid (HA.out.bel B_4.out); have HB_4 := Lib.hid (HB.out.bel B_4.out); clear hb4)
    | fail)
  clear HA_1 HA_2 HA_3 HB_1 HB_2 HB_3 B_1 B_2 B_3 a0_1 a1_1 b0_1 b1_1 a0_2 a1_2 b0_2 b1_2 a0_3 a1_3 b0_3 b1_3
  refine wp_region_st mk0 (by kernel_rfl) [mpEq (.agg #[.slice A na ca, .int .i64 da]), mpCp na da ka, mpEq (.agg #[.slice B nb cb, .int .i64 db]), mpCp nb db kb, mpEq (.int .i64 s), mpEq (.tuple #[.agg #[.int .i64 Lo, .int .i64 Hi], .int .i64 0]), mpEq (.tuple #[.agg #[.int .i64 Lo, .int .i64 Hi], .int .i64 0]), mpEq (.agg #[.int .i64 Lo, .int .i64 Hi]), mpTop, mpNew (y4).heap.size, mpTop, mpTop] [(fun _ => True), (fun _ => True), (fun _ => True), (fun _ => True), (fun _ => True), (fun _ => True), (· = .tuple #[.agg #[.int .i64 Lo, .int .i64 Hi], .int .i64 0]), (fun _ => True), (· = .int .i64 0), (fun _ => True), (fun _ => True), (· = .int .i64 0)] (mpVar (y4).heap.size (Lo) (Hi)) 10 9 7 (by kernel_rfl) (by kernel_rfl) (by kernel_rfl) (by kernel_rfl) rfl (
      allOps_cons (rs_not (by kernel_rfl) (fun a' w' hb hs hd hp => rs_op fun K hK => by
    have e1 := (hs.get 3 (by kernel_rfl)).trans (show _ = Value.pointer (some ⟨w.heap.size, 0, none⟩) from rfl)
    have c0 := keep hb a0_4
    have c1 := keep hb a1_4
    clear hs hd hp
    unfold Oper.wp
    generalize a'.eval = ρ at e1 ⊢
    simp [go_sem, e1, c0, c1]
    exact hK _ _ (Below.refl _ _) rfl trivial)) <|
      allOps_cons (rs_not (by kernel_rfl) (fun a' w' hb hs hd hp => by
    exact rs_fn (φ := (mpCp na da ka).p) (ψ := (fun _ => True)) (vs := #[.agg #[.slice A na ca, .int .i64 da]]) rfl (enters_of Tryz.func14 (by kernel_rfl) rfl) (by simp [(show a'.eval (.tmp 38) = .agg #[.slice A na ca, .int .i64 da] from RDeps.get (hd (by kernel_rfl)) 0 38 (by kernel_rfl) (by kernel_rfl))]) ((copyT_any A na ca da ka w' (by omega) HA0.out (HA_4.out.bel hb)).mono (by rintro e w1 ⟨X, c1, rfl, hk, h1⟩; exact ⟨_, rfl, h1, ⟨X, c1, rfl, hk⟩, trivial⟩)))) <|
      allOps_cons (rs_not (by kernel_rfl) (fun a' w' hb hs hd hp => rs_op fun K hK => by
    have e1 := (hs.get 4 (by kernel_rfl)).trans (show _ = Value.pointer (some ⟨w.heap.size + 1, 0, none⟩) from rfl)
    have c0 := keep hb b0_4
    have c1 := keep hb b1_4
    clear hs hd hp
    unfold Oper.wp
    generalize a'.eval = ρ at e1 ⊢
    simp [go_sem, e1, c0, c1]
    exact hK _ _ (Below.refl _ _) rfl trivial)) <|
      allOps_cons (rs_not (by kernel_rfl) (fun a' w' hb hs hd hp => by
    exact rs_fn (φ := (mpCp nb db kb).p) (ψ := (fun _ => True)) (vs := #[.agg #[.slice B nb cb, .int .i64 db]]) rfl (enters_of Tryz.func14 (by kernel_rfl) rfl) (by simp [(show a'.eval (.tmp 40) = .agg #[.slice B nb cb, .int .i64 db] from RDeps.get (hd (by kernel_rfl)) 2 40 (by kernel_rfl) (by kernel_rfl))]) ((copyT_any B nb cb db kb w' (by omega) HB0.out (HB_4.out.bel hb)).mono (by rintro e w1 ⟨X, c1, rfl, hk, h1⟩; exact ⟨_, rfl, h1, ⟨X, c1, rfl, hk⟩, trivial⟩)))) <|
      allOps_cons (rs_not (by kernel_rfl) (fun a' w' hb hs hd hp => rs_op fun K hK => by
    have e1 := (hs.get 2 (by kernel_rfl)).trans (show _ = .int .i64 s from rfl)
    clear hs hd hp
    unfold Oper.wp
    generalize a'.eval = ρ at e1 ⊢
    simp [go_sem, e1]
    exact hK _ _ (Below.refl _ _) rfl trivial)) <|
      allOps_cons (rs_not (by kernel_rfl) (fun a' w' hb hs hd hp => by
    obtain ⟨X1, c1, e1, k1⟩ := (show (mpCp na da ka).p (a'.eval (.tmp 39)) w' from RDeps.get (hd (by kernel_rfl)) 1 39 (by kernel_rfl) (by kernel_rfl))
    obtain ⟨X2, c2, e2, k2⟩ := (show (mpCp nb db kb).p (a'.eval (.tmp 41)) w' from RDeps.get (hd (by kernel_rfl)) 3 41 (by kernel_rfl) (by kernel_rfl))
    exact rs_fn (φ := (mpEq (.tuple #[.agg #[.int .i64 Lo, .int .i64 Hi], .int .i64 0])).p) (ψ := (fun _ => True)) (vs := #[.agg #[.slice X1 na c1, .int .i64 da], .agg #[.slice X2 nb c2, .int .i64 db], .int .i64 s]) rfl (enters_of Tryz.func20 (by kernel_rfl) rfl) (by simp [e1, e2, (show a'.eval (.tmp 42) = .int .i64 s from RDeps.get (hd (by kernel_rfl)) 4 42 (by kernel_rfl) (by kernel_rfl))]) ((KRA.out w' X1 c1 X2 c2 k1 k2).mono (by rintro e w1 ⟨rfl, h1⟩; exact ⟨_, rfl, h1, rfl, trivial⟩)))) <|
      allOps_cons (rs_not (by kernel_rfl) (fun a' w' hb hs hd hp => rs_op fun K hK => by
    have e1 := (show a'.eval (.tmp 43) = .tuple #[.agg #[.int .i64 Lo, .int .i64 Hi], .int .i64 0] from RDeps.get (hd (by kernel_rfl)) 5 43 (by kernel_rfl) (by kernel_rfl))
    clear hs hd hp
    unfold Oper.wp
    generalize a'.eval = ρ at e1 ⊢
    simp [go_sem, e1]
    exact hK _ _ (Below.refl _ _) rfl rfl)) <|
      allOps_cons (rs_not (by kernel_rfl) (fun a' w' hb hs hd hp => rs_op fun K hK => by
    have e1 := (show a'.eval (.tmp 37) = .tuple #[.agg #[.int .i64 Lo, .int .i64 Hi], .int .i64 0] from RDeps.get (hd (by kernel_rfl)) 6 37 (by kernel_rfl) (by kernel_rfl))
    clear hs hd hp
    unfold Oper.wp
    generalize a'.eval = ρ at e1 ⊢
    simp [go_sem, e1]
    exact hK _ _ (Below.refl _ _) rfl trivial)) <|
      allOps_cons (rs_not (by kernel_rfl) (fun a' w' hb hs hd hp => rs_op fun K hK => by
    have e1 := (show a'.eval (.tmp 37) = .tuple #[.agg #[.int .i64 Lo, .int .i64 Hi], .int .i64 0] from hp.get 6 37 (by kernel_rfl) (by kernel_rfl))
    clear hs hd hp
    unfold Oper.wp
    generalize a'.eval = ρ at e1 ⊢
    simp [go_sem, e1]
    exact hK _ _ (Below.refl _ _) trivial rfl)) <|
      allOps_cons (rs_not (by kernel_rfl) (fun a' w' hb hs hd hp => rs_op fun K hK => by
    have hz := hb.size
    clear hs hd hp
    unfold Oper.wp
    generalize a'.eval = ρ
    simp [go_sem]
    exact hK _ _ ((Below.refl _ _).alloc (Nat.le_refl _) _) ⟨_, rfl, hz, by simp [go_sem], by simp [go_sem], by simp [go_sem], by simp [go_sem]⟩ trivial)) <|
      allOps_cons (rs_is (by kernel_rfl) (fun a' w' hb hs hd => rs_st rfl fun K hK => by
    obtain ⟨q, e1, z1, c0, c1, f0, f1⟩ := (show (mpNew (y4).heap.size).p (a'.eval (.tmp 7)) w' from hd.get 9 7 (by kernel_rfl) (by kernel_rfl))
    have e2 := (show a'.eval (.tmp 44) = .agg #[.int .i64 (Lo), .int .i64 (Hi)] from hd.get 7 44 (by kernel_rfl) (by kernel_rfl))
    have hz := lt_of c0
    clear hs hd
    unfold Oper.wp
    generalize a'.eval = ρ at e1 e2 hK ⊢
    simp [go_sem, e1, e2, c0, c1, f0, f1]
    exact hK _ (Below.setCell (Below.setCell hb z1 _) z1 _) ⟨q, e1, z1, by simp [go_sem, c0], by simp [go_sem, c1], by simp [go_sem, f0], by simp [go_sem, f1]⟩)) <|
      allOps_cons (rs_not (by kernel_rfl) (fun a' w' hb hs hd hp => rs_op fun K hK => by
    have e1 := (show a'.eval (.tmp 45) = .int .i64 0 from hp.get 8 45 (by kernel_rfl) (by kernel_rfl))
    clear hs hd hp
    unfold Oper.wp
    generalize a'.eval = ρ at e1 ⊢
    simp [go_sem, e1]
    exact hK _ _ (Below.refl _ _) trivial rfl)) <| allOps_nil) (fun V4 y5 hb4 hall hv => ?_)
  have h8 : V4 8 = .int .i64 0 := hall.get 11 rfl (by decide)
  obtain ⟨q, h7, _, q0_5, q1_5, _, _⟩ := hv
  clear hall
  simp only [mk0, maskPut, Nat.reduceAdd]
  rw [h7, h8]
  clear h7 h8
  have a0_5 := keep hb4 a0_4
  have a1_5 := keep hb4 a1_4
  have b0_5 := keep hb4 b0_4
  have b1_5 := keep hb4 b1_4
  have B_5 := Lib.hid (thenB B_4.out hb4)
  have HA_5 := Lib.hid (HA.out.bel B_5.out)
  have HB_5 := Lib.hid (HB.out.bel B_5.out)
  clear hb4 B_4 HA_4 HB_4 a0_4 a1_4 b0_4 b1_4
  go_upto_region 7 with (fail)
  have x1 : IntKind.i64.wrap (Hi - 1) = Hi - 1 := IntWalk.i64_in _ (by omega)
  have x2 : IntKind.i64.wrap (Lo + 1) = Lo + 1 := IntWalk.i64_in _ (by omega)
  refine wp_region_gd [mpEq (.pointer (some ⟨q, 0, none⟩)), mpEq (.int .i64 Lo), mpEq (.int .i64 s), mpEq (.agg #[.slice B nb cb, .int .i64 db]), mpEq (.int .i64 T), mpEq (.bool true), mpEq (.bool false), mpEq (.bool false), mpEq (.pointer (some ⟨q, 1, none⟩)), mpEq (.int .i64 Hi), mpEq (.pointer (some ⟨q, 0, none⟩)), mpEq (.int .i64 Lo), mpEq (.agg #[.slice B nb cb, .int .i64 db]), mpEq (.int .i64 T), mpEq (.bool true), mpEq (.bool false), mpEq (.bool false), mpEq (.bool false), mpEq (.agg #[.slice A na ca, .int .i64 da]), mpEq (.agg #[.slice B nb cb, .int .i64 db]), mpEq (.int .i64 s), mpEq (.pointer (some ⟨q, 1, none⟩)), mpEq (.int .i64 Hi), mpEq (.bool true), mpEq (.bool false), mpEq (.bool false), mpEq (.bool false), mpEq (.pointer (some ⟨q, 1, none⟩)), mpEq (.int .i64 Hi), mpEq (.int .i64 s), mpEq (.bool (decide (s < Hi))), mpEq (.bool (decide (s < Hi))), mpIf (s < Hi) (.agg #[.slice A na ca, .int .i64 da]), mpIf (s < Hi) (.agg #[.slice B nb cb, .int .i64 db]), mpIf (s < Hi) (.int .i64 s), mpIf (s < Hi) (.pointer (some ⟨q, 1, none⟩)), mpIf (s < Hi) (.int .i64 Hi), mpIf (s < Hi) (.int .i64 (Hi - 1)), mpIf (s < Hi) (.bool false), mpEq (.bool false), mpEq (.bool false), mpEq (.bool false), mpEq (.pointer (some ⟨q, 0, none⟩)), mpEq (.int .i64 Lo), mpEq (.int .i64 s), mpEq (.bool (decide (s < Lo))), mpEq (.bool (decide (s < Lo))), mpIf (s < Lo) (.agg #[.slice A na ca, .int .i64 da]), mpIf (s < Lo) (.agg #[.slice B nb cb, .int .i64 db]), mpIf (s < Lo) (.int .i64 s), mpIf (s < Lo) (.pointer (some ⟨q, 0, none⟩)), mpIf (s < Lo) (.int .i64 Lo), mpIf (s < Lo) (.bool true), mpIf (s < Lo) (.bool false), mpEq (.bool false), mpEq (.bool false), mpEq (.bool false), mpEq (.pointer (some ⟨q, 0, none⟩)), mpEq (.int .i64 Lo), mpEq (.agg #[.slice B nb cb, .int .i64 db]), mpEq (.int .i64 T), mpEq (.bool (decide (Lo < T))), mpEq (.bool (decide (Lo < T))), mpIf (Lo < T) (.agg #[.slice A na ca, .int .i64 da]), mpIf (Lo < T) (.agg #[.slice B nb cb, .int .i64 db]), mpIf (Lo < T) (.int .i64 s), mpIf (Lo < T) (.pointer (some ⟨q, 0, none⟩)), mpIf (Lo < T) (.int .i64 Lo), mpIf (Lo < T) (.int .i64 (Lo + 1)), mpIf (Lo < T) (.bool false), mpEq (.bool false), mpEq (.bool false)] mk1 (by kernel_rfl) (by kernel_rfl) (by kernel_rfl) (
      allOps_cons (fun a' w' hb hs hd => Or.inl ⟨wanted_n rfl, by
    exact op1 (φ := (mpEq (.pointer (some ⟨q, 0, none⟩))).p) ((hs.get 7 (by kernel_rfl)).trans (show _ = Value.pointer (some ⟨q, 0, none⟩) from rfl)) (fun ρ e c => by simp [go_sem, e]) rfl⟩) <|
      allOps_cons (fun a' w' hb hs hd => Or.inl ⟨wanted_n rfl, by
    exact op1 (φ := (mpEq (.int .i64 Lo)).p) ((show a'.eval (.tmp 48) = .pointer (some ⟨q, 0, none⟩) from hd.get 0 48 (by kernel_rfl) (by kernel_rfl))) (fun ρ e c => by simp [go_sem, e, keep hb q0_5]) rfl⟩) <|
      allOps_cons (fun a' w' hb hs hd => Or.inl ⟨wanted_n rfl, by
    exact op1 (φ := (mpEq (.int .i64 s)).p) ((hs.get 2 (by kernel_rfl)).trans (show _ = Value.int .i64 s from rfl)) (fun ρ e c => by simp [go_sem, e]) rfl⟩) <|
      allOps_cons (fun a' w' hb hs hd => Or.inl ⟨wanted_n rfl, by
    exact op1 (φ := (mpEq (.agg #[.slice B nb cb, .int .i64 db])).p) ((hs.get 4 (by kernel_rfl)).trans (show _ = Value.pointer (some ⟨w.heap.size + 1, 0, none⟩) from rfl)) (fun ρ e c => by simp [go_sem, e, keep hb b0_5, keep hb b1_5]) rfl⟩) <|
      allOps_cons (fun a' w' hb hs hd => Or.inl ⟨wanted_n rfl, by
    have e0 := (show a'.eval (.tmp 51) = .agg #[.slice B nb cb, .int .i64 db] from hd.get 3 51 (by kernel_rfl) (by kernel_rfl))
    exact rg_fn (φ := (mpEq (.int .i64 T)).p) (vs := #[.agg #[.slice B nb cb, .int .i64 db]]) rfl (enters_of Tryz.func27 (by kernel_rfl) rfl) (by simp [e0]) ((KLT.out w' (HA_5.out.bel hb) (HB_5.out.bel hb)).mono (by rintro e w1 ⟨rfl, h1⟩; exact ⟨_, rfl, h1, rfl⟩))⟩) <|
      allOps_cons (fun a' w' hb hs hd => Or.inl ⟨wanted_n rfl, by
    have e0 := (show a'.eval (.tmp 49) = .int .i64 Lo from hd.get 1 49 (by kernel_rfl) (by kernel_rfl))
    have e1 := (show a'.eval (.tmp 50) = .int .i64 s from hd.get 2 50 (by kernel_rfl) (by kernel_rfl))
    have e2 := (show a'.eval (.tmp 52) = .int .i64 T from hd.get 4 52 (by kernel_rfl) (by kernel_rfl))
    exact rg_fn (φ := (mpEq (.bool true)).p) (vs := #[.int .i64 Lo, .int .i64 s, .int .i64 T]) rfl (enters_of Tryz.func26 (by kernel_rfl) rfl) (by simp [e0, e1, e2]) (((show Calls Tryz.prog 26 #[.int .i64 Lo, .int .i64 s, .int .i64 T] w' fun e w1 => e = .returned (.bool true) ∧ Below w'.heap.size w' w1 from (bwithin_any _ _ _ w').mono (by rintro e w1 ⟨rfl, rfl⟩; exact ⟨ret_bool (wi_t.2 (by omega)), Below.refl _ _⟩))).mono (by rintro e w1 ⟨rfl, h1⟩; exact ⟨_, rfl, h1, rfl⟩))⟩) <|
      allOps_cons (fun a' w' hb hs hd => Or.inl ⟨wanted_n rfl, by
    exact op1 (φ := (mpEq (.bool false)).p) ((show a'.eval (.tmp 53) = .bool true from hd.get 5 53 (by kernel_rfl) (by kernel_rfl))) (fun ρ e c => by simp [go_sem, e]) rfl⟩) <|
      allOps_cons (fun a' w' hb hs hd => Or.inl ⟨wanted_n rfl, by
    exact op1 (φ := (mpEq (.bool false)).p) ((show a'.eval (.tmp 54) = .bool false from hd.get 6 54 (by kernel_rfl) (by kernel_rfl))) (fun ρ e c => by simp [go_sem, e]) rfl⟩) <|
      allOps_cons (fun a' w' hb hs hd => Or.inl ⟨wanted_t (j := 7) (d := 55) rfl (by kernel_rfl) (show a'.eval (.tmp 55) = .bool false from hd.get 7 55 (by kernel_rfl) (by kernel_rfl)), by
    exact op1 (φ := (mpEq (.pointer (some ⟨q, 1, none⟩))).p) ((hs.get 7 (by kernel_rfl)).trans (show _ = Value.pointer (some ⟨q, 0, none⟩) from rfl)) (fun ρ e c => by simp [go_sem, e]) rfl⟩) <|
      allOps_cons (fun a' w' hb hs hd => Or.inl ⟨wanted_t (j := 7) (d := 55) rfl (by kernel_rfl) (show a'.eval (.tmp 55) = .bool false from hd.get 7 55 (by kernel_rfl) (by kernel_rfl)), by
    exact op1 (φ := (mpEq (.int .i64 Hi)).p) ((show a'.eval (.tmp 56) = .pointer (some ⟨q, 1, none⟩) from hd.get 8 56 (by kernel_rfl) (by kernel_rfl))) (fun ρ e c => by simp [go_sem, e, keep hb q1_5]) rfl⟩) <|
      allOps_cons (fun a' w' hb hs hd => Or.inl ⟨wanted_t (j := 7) (d := 55) rfl (by kernel_rfl) (show a'.eval (.tmp 55) = .bool false from hd.get 7 55 (by kernel_rfl) (by kernel_rfl)), by
    exact op1 (φ := (mpEq (.pointer (some ⟨q, 0, none⟩))).p) ((hs.get 7 (by kernel_rfl)).trans (show _ = Value.pointer (some ⟨q, 0, none⟩) from rfl)) (fun ρ e c => by simp [go_sem, e]) rfl⟩) <|
      allOps_cons (fun a' w' hb hs hd => Or.inl ⟨wanted_t (j := 7) (d := 55) rfl (by kernel_rfl) (show a'.eval (.tmp 55) = .bool false from hd.get 7 55 (by kernel_rfl) (by kernel_rfl)), by
    exact op1 (φ := (mpEq (.int .i64 Lo)).p) ((show a'.eval (.tmp 58) = .pointer (some ⟨q, 0, none⟩) from hd.get 10 58 (by kernel_rfl) (by kernel_rfl))) (fun ρ e c => by simp [go_sem, e, keep hb q0_5]) rfl⟩) <|
      allOps_cons (fun a' w' hb hs hd => Or.inl ⟨wanted_t (j := 7) (d := 55) rfl (by kernel_rfl) (show a'.eval (.tmp 55) = .bool false from hd.get 7 55 (by kernel_rfl) (by kernel_rfl)), by
    exact op1 (φ := (mpEq (.agg #[.slice B nb cb, .int .i64 db])).p) ((hs.get 4 (by kernel_rfl)).trans (show _ = Value.pointer (some ⟨w.heap.size + 1, 0, none⟩) from rfl)) (fun ρ e c => by simp [go_sem, e, keep hb b0_5, keep hb b1_5]) rfl⟩) <|
      allOps_cons (fun a' w' hb hs hd => Or.inl ⟨wanted_t (j := 7) (d := 55) rfl (by kernel_rfl) (show a'.eval (.tmp 55) = .bool false from hd.get 7 55 (by kernel_rfl) (by kernel_rfl)), by
    have e0 := (show a'.eval (.tmp 60) = .agg #[.slice B nb cb, .int .i64 db] from hd.get 12 60 (by kernel_rfl) (by kernel_rfl))
    exact rg_fn (φ := (mpEq (.int .i64 T)).p) (vs := #[.agg #[.slice B nb cb, .int .i64 db]]) rfl (enters_of Tryz.func27 (by kernel_rfl) rfl) (by simp [e0]) ((KLT.out w' (HA_5.out.bel hb) (HB_5.out.bel hb)).mono (by rintro e w1 ⟨rfl, h1⟩; exact ⟨_, rfl, h1, rfl⟩))⟩) <|
      allOps_cons (fun a' w' hb hs hd => Or.inl ⟨wanted_t (j := 7) (d := 55) rfl (by kernel_rfl) (show a'.eval (.tmp 55) = .bool false from hd.get 7 55 (by kernel_rfl) (by kernel_rfl)), by
    have e0 := (show a'.eval (.tmp 57) = .int .i64 Hi from hd.get 9 57 (by kernel_rfl) (by kernel_rfl))
    have e1 := (show a'.eval (.tmp 59) = .int .i64 Lo from hd.get 11 59 (by kernel_rfl) (by kernel_rfl))
    have e2 := (show a'.eval (.tmp 61) = .int .i64 T from hd.get 13 61 (by kernel_rfl) (by kernel_rfl))
    exact rg_fn (φ := (mpEq (.bool true)).p) (vs := #[.int .i64 Hi, .int .i64 Lo, .int .i64 T]) rfl (enters_of Tryz.func26 (by kernel_rfl) rfl) (by simp [e0, e1, e2]) (((show Calls Tryz.prog 26 #[.int .i64 Hi, .int .i64 Lo, .int .i64 T] w' fun e w1 => e = .returned (.bool true) ∧ Below w'.heap.size w' w1 from (bwithin_any _ _ _ w').mono (by rintro e w1 ⟨rfl, rfl⟩; exact ⟨ret_bool (wi_t.2 (by omega)), Below.refl _ _⟩))).mono (by rintro e w1 ⟨rfl, h1⟩; exact ⟨_, rfl, h1, rfl⟩))⟩) <|
      allOps_cons (fun a' w' hb hs hd => Or.inl ⟨wanted_t (j := 7) (d := 55) rfl (by kernel_rfl) (show a'.eval (.tmp 55) = .bool false from hd.get 7 55 (by kernel_rfl) (by kernel_rfl)), by
    exact op1 (φ := (mpEq (.bool false)).p) ((show a'.eval (.tmp 62) = .bool true from hd.get 14 62 (by kernel_rfl) (by kernel_rfl))) (fun ρ e c => by simp [go_sem, e]) rfl⟩) <|
      allOps_cons (fun a' w' hb hs hd => Or.inl ⟨wanted_n rfl, by
    exact op2 (φ := (mpEq (.bool false)).p) ((show a'.eval (.tmp 55) = .bool false from hd.get 7 55 (by kernel_rfl) (by kernel_rfl))) ((show a'.eval (.tmp 63) = .bool false from hd.get 15 63 (by kernel_rfl) (by kernel_rfl))) (fun ρ e e' c => by simp [go_sem, e, e', c]) rfl⟩) <|
      allOps_cons (fun a' w' hb hs hd => Or.inl ⟨wanted_n rfl, by
    exact op1 (φ := (mpEq (.bool false)).p) ((show a'.eval (.tmp 64) = .bool false from hd.get 16 64 (by kernel_rfl) (by kernel_rfl))) (fun ρ e c => by simp [go_sem, e]) rfl⟩) <|
      allOps_cons (fun a' w' hb hs hd => Or.inl ⟨wanted_t (j := 17) (d := 65) rfl (by kernel_rfl) (show a'.eval (.tmp 65) = .bool false from hd.get 17 65 (by kernel_rfl) (by kernel_rfl)), by
    exact op1 (φ := (mpEq (.agg #[.slice A na ca, .int .i64 da])).p) ((hs.get 3 (by kernel_rfl)).trans (show _ = Value.pointer (some ⟨w.heap.size, 0, none⟩) from rfl)) (fun ρ e c => by simp [go_sem, e, keep hb a0_5, keep hb a1_5]) rfl⟩) <|
      allOps_cons (fun a' w' hb hs hd => Or.inl ⟨wanted_t (j := 17) (d := 65) rfl (by kernel_rfl) (show a'.eval (.tmp 65) = .bool false from hd.get 17 65 (by kernel_rfl) (by kernel_rfl)), by
    exact op1 (φ := (mpEq (.agg #[.slice B nb cb, .int .i64 db])).p) ((hs.get 4 (by kernel_rfl)).trans (show _ = Value.pointer (some ⟨w.heap.size + 1, 0, none⟩) from rfl)) (fun ρ e c => by simp [go_sem, e, keep hb b0_5, keep hb b1_5]) rfl⟩) <|
      allOps_cons (fun a' w' hb hs hd => Or.inl ⟨wanted_t (j := 17) (d := 65) rfl (by kernel_rfl) (show a'.eval (.tmp 65) = .bool false from hd.get 17 65 (by kernel_rfl) (by kernel_rfl)), by
    exact op1 (φ := (mpEq (.int .i64 s)).p) ((hs.get 2 (by kernel_rfl)).trans (show _ = Value.int .i64 s from rfl)) (fun ρ e c => by simp [go_sem, e]) rfl⟩) <|
      allOps_cons (fun a' w' hb hs hd => Or.inl ⟨wanted_t (j := 17) (d := 65) rfl (by kernel_rfl) (show a'.eval (.tmp 65) = .bool false from hd.get 17 65 (by kernel_rfl) (by kernel_rfl)), by
    exact op1 (φ := (mpEq (.pointer (some ⟨q, 1, none⟩))).p) ((hs.get 7 (by kernel_rfl)).trans (show _ = Value.pointer (some ⟨q, 0, none⟩) from rfl)) (fun ρ e c => by simp [go_sem, e]) rfl⟩) <|
      allOps_cons (fun a' w' hb hs hd => Or.inl ⟨wanted_t (j := 17) (d := 65) rfl (by kernel_rfl) (show a'.eval (.tmp 65) = .bool false from hd.get 17 65 (by kernel_rfl) (by kernel_rfl)), by
    exact op1 (φ := (mpEq (.int .i64 Hi)).p) ((show a'.eval (.tmp 69) = .pointer (some ⟨q, 1, none⟩) from hd.get 21 69 (by kernel_rfl) (by kernel_rfl))) (fun ρ e c => by simp [go_sem, e, keep hb q1_5]) rfl⟩) <|
      allOps_cons (fun a' w' hb hs hd => Or.inl ⟨wanted_t (j := 17) (d := 65) rfl (by kernel_rfl) (show a'.eval (.tmp 65) = .bool false from hd.get 17 65 (by kernel_rfl) (by kernel_rfl)), by
    have e0 := (show a'.eval (.tmp 66) = .agg #[.slice A na ca, .int .i64 da] from hd.get 18 66 (by kernel_rfl) (by kernel_rfl))
    have e1 := (show a'.eval (.tmp 67) = .agg #[.slice B nb cb, .int .i64 db] from hd.get 19 67 (by kernel_rfl) (by kernel_rfl))
    have e2 := (show a'.eval (.tmp 68) = .int .i64 s from hd.get 20 68 (by kernel_rfl) (by kernel_rfl))
    have e3 := (show a'.eval (.tmp 70) = .int .i64 Hi from hd.get 22 70 (by kernel_rfl) (by kernel_rfl))
    exact rg_fn (φ := (mpEq (.bool true)).p) (vs := #[.agg #[.slice A na ca, .int .i64 da], .agg #[.slice B nb cb, .int .i64 db], .int .i64 s, .int .i64 Hi]) rfl (enters_of Tryz.func28 (by kernel_rfl) rfl) (by simp [e0, e1, e2, e3]) ((KA1.out w' (HA_5.out.bel hb) (HB_5.out.bel hb)).mono (by rintro e w1 ⟨rfl, h1⟩; exact ⟨_, rfl, h1, rfl⟩))⟩) <|
      allOps_cons (fun a' w' hb hs hd => Or.inl ⟨wanted_t (j := 17) (d := 65) rfl (by kernel_rfl) (show a'.eval (.tmp 65) = .bool false from hd.get 17 65 (by kernel_rfl) (by kernel_rfl)), by
    exact op1 (φ := (mpEq (.bool false)).p) ((show a'.eval (.tmp 71) = .bool true from hd.get 23 71 (by kernel_rfl) (by kernel_rfl))) (fun ρ e c => by simp [go_sem, e]) rfl⟩) <|
      allOps_cons (fun a' w' hb hs hd => Or.inl ⟨wanted_n rfl, by
    exact op2 (φ := (mpEq (.bool false)).p) ((show a'.eval (.tmp 65) = .bool false from hd.get 17 65 (by kernel_rfl) (by kernel_rfl))) ((show a'.eval (.tmp 72) = .bool false from hd.get 24 72 (by kernel_rfl) (by kernel_rfl))) (fun ρ e e' c => by simp [go_sem, e, e', c]) rfl⟩) <|
      allOps_cons (fun a' w' hb hs hd => Or.inl ⟨wanted_n rfl, by
    exact op1 (φ := (mpEq (.bool false)).p) ((show a'.eval (.tmp 73) = .bool false from hd.get 25 73 (by kernel_rfl) (by kernel_rfl))) (fun ρ e c => by simp [go_sem, e]) rfl⟩) <|
      allOps_cons (fun a' w' hb hs hd => Or.inl ⟨wanted_t (j := 26) (d := 74) rfl (by kernel_rfl) (show a'.eval (.tmp 74) = .bool false from hd.get 26 74 (by kernel_rfl) (by kernel_rfl)), by
    exact op1 (φ := (mpEq (.pointer (some ⟨q, 1, none⟩))).p) ((hs.get 7 (by kernel_rfl)).trans (show _ = Value.pointer (some ⟨q, 0, none⟩) from rfl)) (fun ρ e c => by simp [go_sem, e]) rfl⟩) <|
      allOps_cons (fun a' w' hb hs hd => Or.inl ⟨wanted_t (j := 26) (d := 74) rfl (by kernel_rfl) (show a'.eval (.tmp 74) = .bool false from hd.get 26 74 (by kernel_rfl) (by kernel_rfl)), by
    exact op1 (φ := (mpEq (.int .i64 Hi)).p) ((show a'.eval (.tmp 75) = .pointer (some ⟨q, 1, none⟩) from hd.get 27 75 (by kernel_rfl) (by kernel_rfl))) (fun ρ e c => by simp [go_sem, e, keep hb q1_5]) rfl⟩) <|
      allOps_cons (fun a' w' hb hs hd => Or.inl ⟨wanted_t (j := 26) (d := 74) rfl (by kernel_rfl) (show a'.eval (.tmp 74) = .bool false from hd.get 26 74 (by kernel_rfl) (by kernel_rfl)), by
    exact op1 (φ := (mpEq (.int .i64 s)).p) ((hs.get 2 (by kernel_rfl)).trans (show _ = Value.int .i64 s from rfl)) (fun ρ e c => by simp [go_sem, e]) rfl⟩) <|
      allOps_cons (fun a' w' hb hs hd => Or.inl ⟨wanted_t (j := 26) (d := 74) rfl (by kernel_rfl) (show a'.eval (.tmp 74) = .bool false from hd.get 26 74 (by kernel_rfl) (by kernel_rfl)), by
    exact op2 (φ := (mpEq (.bool (decide (s < Hi)))).p) ((show a'.eval (.tmp 76) = .int .i64 Hi from hd.get 28 76 (by kernel_rfl) (by kernel_rfl))) ((show a'.eval (.tmp 77) = .int .i64 s from hd.get 29 77 (by kernel_rfl) (by kernel_rfl))) (fun ρ e e' c => by simp [go_sem, e, e']) rfl⟩) <|
      allOps_cons (fun a' w' hb hs hd => Or.inl ⟨wanted_t (j := 26) (d := 74) rfl (by kernel_rfl) (show a'.eval (.tmp 74) = .bool false from hd.get 26 74 (by kernel_rfl) (by kernel_rfl)), by
    exact op1 (φ := (mpEq (.bool (decide (s < Hi)))).p) ((show a'.eval (.tmp 78) = .bool (decide (s < Hi)) from hd.get 30 78 (by kernel_rfl) (by kernel_rfl))) (fun ρ e c => by simp [go_sem, e]) rfl⟩) <|
      allOps_cons (fun a' w' hb hs hd => by
    have eg := (show a'.eval (.tmp 79) = .bool (decide (s < Hi)) from hd.get 31 79 (by kernel_rfl) (by kernel_rfl))
    by_cases hq : s < Hi
    · refine Or.inl ⟨wanted_t (j := 31) (d := 79) rfl (by kernel_rfl) (eg.trans (show _ = Value.bool true by first | (simp [hq]; done) | (simp; omega))), ?_⟩
      clear eg
      exact op1 (φ := (mpIf (s < Hi) (.agg #[.slice A na ca, .int .i64 da])).p) ((hs.get 3 (by kernel_rfl)).trans (show _ = Value.pointer (some ⟨w.heap.size, 0, none⟩) from rfl)) (fun ρ e c => by simp [go_sem, e, keep hb a0_5, keep hb a1_5]) (if_pos hq).symm
    · refine Or.inr ⟨wanted_f (j := 31) (d := 79) (b' := false) rfl (by kernel_rfl) (eg.trans (by first | (simp [hq]; done) | (simp; omega))) rfl, ?_⟩
      show undef = if s < Hi then .agg #[.slice A na ca, .int .i64 da] else undef
      rw [if_neg hq]) <|
      allOps_cons (fun a' w' hb hs hd => by
    have eg := (show a'.eval (.tmp 79) = .bool (decide (s < Hi)) from hd.get 31 79 (by kernel_rfl) (by kernel_rfl))
    by_cases hq : s < Hi
    · refine Or.inl ⟨wanted_t (j := 31) (d := 79) rfl (by kernel_rfl) (eg.trans (show _ = Value.bool true by first | (simp [hq]; done) | (simp; omega))), ?_⟩
      clear eg
      exact op1 (φ := (mpIf (s < Hi) (.agg #[.slice B nb cb, .int .i64 db])).p) ((hs.get 4 (by kernel_rfl)).trans (show _ = Value.pointer (some ⟨w.heap.size + 1, 0, none⟩) from rfl)) (fun ρ e c => by simp [go_sem, e, keep hb b0_5, keep hb b1_5]) (if_pos hq).symm
    · refine Or.inr ⟨wanted_f (j := 31) (d := 79) (b' := false) rfl (by kernel_rfl) (eg.trans (by first | (simp [hq]; done) | (simp; omega))) rfl, ?_⟩
      show undef = if s < Hi then .agg #[.slice B nb cb, .int .i64 db] else undef
      rw [if_neg hq]) <|
      allOps_cons (fun a' w' hb hs hd => by
    have eg := (show a'.eval (.tmp 79) = .bool (decide (s < Hi)) from hd.get 31 79 (by kernel_rfl) (by kernel_rfl))
    by_cases hq : s < Hi
    · refine Or.inl ⟨wanted_t (j := 31) (d := 79) rfl (by kernel_rfl) (eg.trans (show _ = Value.bool true by first | (simp [hq]; done) | (simp; omega))), ?_⟩
      clear eg
      exact op1 (φ := (mpIf (s < Hi) (.int .i64 s)).p) ((hs.get 2 (by kernel_rfl)).trans (show _ = Value.int .i64 s from rfl)) (fun ρ e c => by simp [go_sem, e]) (if_pos hq).symm
    · refine Or.inr ⟨wanted_f (j := 31) (d := 79) (b' := false) rfl (by kernel_rfl) (eg.trans (by first | (simp [hq]; done) | (simp; omega))) rfl, ?_⟩
      show undef = if s < Hi then .int .i64 s else undef
      rw [if_neg hq]) <|
      allOps_cons (fun a' w' hb hs hd => by
    have eg := (show a'.eval (.tmp 79) = .bool (decide (s < Hi)) from hd.get 31 79 (by kernel_rfl) (by kernel_rfl))
    by_cases hq : s < Hi
    · refine Or.inl ⟨wanted_t (j := 31) (d := 79) rfl (by kernel_rfl) (eg.trans (show _ = Value.bool true by first | (simp [hq]; done) | (simp; omega))), ?_⟩
      clear eg
      exact op1 (φ := (mpIf (s < Hi) (.pointer (some ⟨q, 1, none⟩))).p) ((hs.get 7 (by kernel_rfl)).trans (show _ = Value.pointer (some ⟨q, 0, none⟩) from rfl)) (fun ρ e c => by simp [go_sem, e]) (if_pos hq).symm
    · refine Or.inr ⟨wanted_f (j := 31) (d := 79) (b' := false) rfl (by kernel_rfl) (eg.trans (by first | (simp [hq]; done) | (simp; omega))) rfl, ?_⟩
      show undef = if s < Hi then .pointer (some ⟨q, 1, none⟩) else undef
      rw [if_neg hq]) <|
      allOps_cons (fun a' w' hb hs hd => by
    have eg := (show a'.eval (.tmp 79) = .bool (decide (s < Hi)) from hd.get 31 79 (by kernel_rfl) (by kernel_rfl))
    by_cases hq : s < Hi
    · refine Or.inl ⟨wanted_t (j := 31) (d := 79) rfl (by kernel_rfl) (eg.trans (show _ = Value.bool true by first | (simp [hq]; done) | (simp; omega))), ?_⟩
      clear eg
      exact op1 (φ := (mpIf (s < Hi) (.int .i64 Hi)).p) (((show a'.eval (.tmp 83) = (if s < Hi then .pointer (some ⟨q, 1, none⟩) else undef) from hd.get 35 83 (by kernel_rfl) (by kernel_rfl))).trans (if_pos hq)) (fun ρ e c => by simp [go_sem, e, keep hb q1_5]) (if_pos hq).symm
    · refine Or.inr ⟨wanted_f (j := 31) (d := 79) (b' := false) rfl (by kernel_rfl) (eg.trans (by first | (simp [hq]; done) | (simp; omega))) rfl, ?_⟩
      show undef = if s < Hi then .int .i64 Hi else undef
      rw [if_neg hq]) <|
      allOps_cons (fun a' w' hb hs hd => by
    have eg := (show a'.eval (.tmp 79) = .bool (decide (s < Hi)) from hd.get 31 79 (by kernel_rfl) (by kernel_rfl))
    by_cases hq : s < Hi
    · refine Or.inl ⟨wanted_t (j := 31) (d := 79) rfl (by kernel_rfl) (eg.trans (show _ = Value.bool true by first | (simp [hq]; done) | (simp; omega))), ?_⟩
      clear eg
      exact op1 (φ := (mpIf (s < Hi) (.int .i64 (Hi - 1))).p) (((show a'.eval (.tmp 84) = (if s < Hi then .int .i64 Hi else undef) from hd.get 36 84 (by kernel_rfl) (by kernel_rfl))).trans (if_pos hq)) (fun ρ e c => by simp [go_sem, e, c, x1]) (if_pos hq).symm
    · refine Or.inr ⟨wanted_f (j := 31) (d := 79) (b' := false) rfl (by kernel_rfl) (eg.trans (by first | (simp [hq]; done) | (simp; omega))) rfl, ?_⟩
      show undef = if s < Hi then .int .i64 (Hi - 1) else undef
      rw [if_neg hq]) <|
      allOps_cons (fun a' w' hb hs hd => by
    have eg := (show a'.eval (.tmp 79) = .bool (decide (s < Hi)) from hd.get 31 79 (by kernel_rfl) (by kernel_rfl))
    by_cases hq : s < Hi
    · refine Or.inl ⟨wanted_t (j := 31) (d := 79) rfl (by kernel_rfl) (eg.trans (show _ = Value.bool true by first | (simp [hq]; done) | (simp; omega))), ?_⟩
      clear eg
      have e0 := ((show a'.eval (.tmp 80) = (if s < Hi then .agg #[.slice A na ca, .int .i64 da] else undef) from hd.get 32 80 (by kernel_rfl) (by kernel_rfl))).trans (if_pos hq)
      have e1 := ((show a'.eval (.tmp 81) = (if s < Hi then .agg #[.slice B nb cb, .int .i64 db] else undef) from hd.get 33 81 (by kernel_rfl) (by kernel_rfl))).trans (if_pos hq)
      have e2 := ((show a'.eval (.tmp 82) = (if s < Hi then .int .i64 s else undef) from hd.get 34 82 (by kernel_rfl) (by kernel_rfl))).trans (if_pos hq)
      have e3 := ((show a'.eval (.tmp 85) = (if s < Hi then .int .i64 (Hi - 1) else undef) from hd.get 37 85 (by kernel_rfl) (by kernel_rfl))).trans (if_pos hq)
      exact rg_fn (φ := (mpIf (s < Hi) (.bool false)).p) (vs := #[.agg #[.slice A na ca, .int .i64 da], .agg #[.slice B nb cb, .int .i64 db], .int .i64 s, .int .i64 (Hi - 1)]) rfl (enters_of Tryz.func28 (by kernel_rfl) rfl) (by simp [e0, e1, e2, e3]) ((KA2.out hq w' (HA_5.out.bel hb) (HB_5.out.bel hb)).mono (by rintro e w1 ⟨rfl, h1⟩; exact ⟨_, rfl, h1, (if_pos hq).symm⟩))
    · refine Or.inr ⟨wanted_f (j := 31) (d := 79) (b' := false) rfl (by kernel_rfl) (eg.trans (by first | (simp [hq]; done) | (simp; omega))) rfl, ?_⟩
      show undef = if s < Hi then .bool false else undef
      rw [if_neg hq]) <|
      allOps_cons (fun a' w' hb hs hd => Or.inl ⟨wanted_t (j := 26) (d := 74) rfl (by kernel_rfl) (show a'.eval (.tmp 74) = .bool false from hd.get 26 74 (by kernel_rfl) (by kernel_rfl)), by
    exact op2 (φ := (mpEq (.bool false)).p) (show a'.eval (.tmp 79) = .bool (decide (s < Hi)) from hd.get 31 79 (by kernel_rfl) (by kernel_rfl)) (show a'.eval (.tmp 86) = (if s < Hi then .bool false else undef) from hd.get 38 86 (by kernel_rfl) (by kernel_rfl)) (fun ρ e e' c => by by_cases hq : s < Hi <;> simp [hq] at e' <;> simp [go_sem, e, e', c, hq]) rfl⟩) <|
      allOps_cons (fun a' w' hb hs hd => Or.inl ⟨wanted_n rfl, by
    exact op2 (φ := (mpEq (.bool false)).p) ((show a'.eval (.tmp 74) = .bool false from hd.get 26 74 (by kernel_rfl) (by kernel_rfl))) ((show a'.eval (.tmp 87) = .bool false from hd.get 39 87 (by kernel_rfl) (by kernel_rfl))) (fun ρ e e' c => by simp [go_sem, e, e', c]) rfl⟩) <|
      allOps_cons (fun a' w' hb hs hd => Or.inl ⟨wanted_n rfl, by
    exact op1 (φ := (mpEq (.bool false)).p) ((show a'.eval (.tmp 88) = .bool false from hd.get 40 88 (by kernel_rfl) (by kernel_rfl))) (fun ρ e c => by simp [go_sem, e]) rfl⟩) <|
      allOps_cons (fun a' w' hb hs hd => Or.inl ⟨wanted_t (j := 41) (d := 89) rfl (by kernel_rfl) (show a'.eval (.tmp 89) = .bool false from hd.get 41 89 (by kernel_rfl) (by kernel_rfl)), by
    exact op1 (φ := (mpEq (.pointer (some ⟨q, 0, none⟩))).p) ((hs.get 7 (by kernel_rfl)).trans (show _ = Value.pointer (some ⟨q, 0, none⟩) from rfl)) (fun ρ e c => by simp [go_sem, e]) rfl⟩) <|
      allOps_cons (fun a' w' hb hs hd => Or.inl ⟨wanted_t (j := 41) (d := 89) rfl (by kernel_rfl) (show a'.eval (.tmp 89) = .bool false from hd.get 41 89 (by kernel_rfl) (by kernel_rfl)), by
    exact op1 (φ := (mpEq (.int .i64 Lo)).p) ((show a'.eval (.tmp 90) = .pointer (some ⟨q, 0, none⟩) from hd.get 42 90 (by kernel_rfl) (by kernel_rfl))) (fun ρ e c => by simp [go_sem, e, keep hb q0_5]) rfl⟩) <|
      allOps_cons (fun a' w' hb hs hd => Or.inl ⟨wanted_t (j := 41) (d := 89) rfl (by kernel_rfl) (show a'.eval (.tmp 89) = .bool false from hd.get 41 89 (by kernel_rfl) (by kernel_rfl)), by
    exact op1 (φ := (mpEq (.int .i64 s)).p) ((hs.get 2 (by kernel_rfl)).trans (show _ = Value.int .i64 s from rfl)) (fun ρ e c => by simp [go_sem, e]) rfl⟩) <|
      allOps_cons (fun a' w' hb hs hd => Or.inl ⟨wanted_t (j := 41) (d := 89) rfl (by kernel_rfl) (show a'.eval (.tmp 89) = .bool false from hd.get 41 89 (by kernel_rfl) (by kernel_rfl)), by
    exact op2 (φ := (mpEq (.bool (decide (s < Lo)))).p) ((show a'.eval (.tmp 91) = .int .i64 Lo from hd.get 43 91 (by kernel_rfl) (by kernel_rfl))) ((show a'.eval (.tmp 92) = .int .i64 s from hd.get 44 92 (by kernel_rfl) (by kernel_rfl))) (fun ρ e e' c => by simp [go_sem, e, e']) rfl⟩) <|
      allOps_cons (fun a' w' hb hs hd => Or.inl ⟨wanted_t (j := 41) (d := 89) rfl (by kernel_rfl) (show a'.eval (.tmp 89) = .bool false from hd.get 41 89 (by kernel_rfl) (by kernel_rfl)), by
    exact op1 (φ := (mpEq (.bool (decide (s < Lo)))).p) ((show a'.eval (.tmp 93) = .bool (decide (s < Lo)) from hd.get 45 93 (by kernel_rfl) (by kernel_rfl))) (fun ρ e c => by simp [go_sem, e]) rfl⟩) <|
      allOps_cons (fun a' w' hb hs hd => by
    have eg := (show a'.eval (.tmp 94) = .bool (decide (s < Lo)) from hd.get 46 94 (by kernel_rfl) (by kernel_rfl))
    by_cases hq : s < Lo
    · refine Or.inl ⟨wanted_t (j := 46) (d := 94) rfl (by kernel_rfl) (eg.trans (show _ = Value.bool true by first | (simp [hq]; done) | (simp; omega))), ?_⟩
      clear eg
      exact op1 (φ := (mpIf (s < Lo) (.agg #[.slice A na ca, .int .i64 da])).p) ((hs.get 3 (by kernel_rfl)).trans (show _ = Value.pointer (some ⟨w.heap.size, 0, none⟩) from rfl)) (fun ρ e c => by simp [go_sem, e, keep hb a0_5, keep hb a1_5]) (if_pos hq).symm
    · refine Or.inr ⟨wanted_f (j := 46) (d := 94) (b' := false) rfl (by kernel_rfl) (eg.trans (by first | (simp [hq]; done) | (simp; omega))) rfl, ?_⟩
      show undef = if s < Lo then .agg #[.slice A na ca, .int .i64 da] else undef
      rw [if_neg hq]) <|
      allOps_cons (fun a' w' hb hs hd => by
    have eg := (show a'.eval (.tmp 94) = .bool (decide (s < Lo)) from hd.get 46 94 (by kernel_rfl) (by kernel_rfl))
    by_cases hq : s < Lo
    · refine Or.inl ⟨wanted_t (j := 46) (d := 94) rfl (by kernel_rfl) (eg.trans (show _ = Value.bool true by first | (simp [hq]; done) | (simp; omega))), ?_⟩
      clear eg
      exact op1 (φ := (mpIf (s < Lo) (.agg #[.slice B nb cb, .int .i64 db])).p) ((hs.get 4 (by kernel_rfl)).trans (show _ = Value.pointer (some ⟨w.heap.size + 1, 0, none⟩) from rfl)) (fun ρ e c => by simp [go_sem, e, keep hb b0_5, keep hb b1_5]) (if_pos hq).symm
    · refine Or.inr ⟨wanted_f (j := 46) (d := 94) (b' := false) rfl (by kernel_rfl) (eg.trans (by first | (simp [hq]; done) | (simp; omega))) rfl, ?_⟩
      show undef = if s < Lo then .agg #[.slice B nb cb, .int .i64 db] else undef
      rw [if_neg hq]) <|
      allOps_cons (fun a' w' hb hs hd => by
    have eg := (show a'.eval (.tmp 94) = .bool (decide (s < Lo)) from hd.get 46 94 (by kernel_rfl) (by kernel_rfl))
    by_cases hq : s < Lo
    · refine Or.inl ⟨wanted_t (j := 46) (d := 94) rfl (by kernel_rfl) (eg.trans (show _ = Value.bool true by first | (simp [hq]; done) | (simp; omega))), ?_⟩
      clear eg
      exact op1 (φ := (mpIf (s < Lo) (.int .i64 s)).p) ((hs.get 2 (by kernel_rfl)).trans (show _ = Value.int .i64 s from rfl)) (fun ρ e c => by simp [go_sem, e]) (if_pos hq).symm
    · refine Or.inr ⟨wanted_f (j := 46) (d := 94) (b' := false) rfl (by kernel_rfl) (eg.trans (by first | (simp [hq]; done) | (simp; omega))) rfl, ?_⟩
      show undef = if s < Lo then .int .i64 s else undef
      rw [if_neg hq]) <|
      allOps_cons (fun a' w' hb hs hd => by
    have eg := (show a'.eval (.tmp 94) = .bool (decide (s < Lo)) from hd.get 46 94 (by kernel_rfl) (by kernel_rfl))
    by_cases hq : s < Lo
    · refine Or.inl ⟨wanted_t (j := 46) (d := 94) rfl (by kernel_rfl) (eg.trans (show _ = Value.bool true by first | (simp [hq]; done) | (simp; omega))), ?_⟩
      clear eg
      exact op1 (φ := (mpIf (s < Lo) (.pointer (some ⟨q, 0, none⟩))).p) ((hs.get 7 (by kernel_rfl)).trans (show _ = Value.pointer (some ⟨q, 0, none⟩) from rfl)) (fun ρ e c => by simp [go_sem, e]) (if_pos hq).symm
    · refine Or.inr ⟨wanted_f (j := 46) (d := 94) (b' := false) rfl (by kernel_rfl) (eg.trans (by first | (simp [hq]; done) | (simp; omega))) rfl, ?_⟩
      show undef = if s < Lo then .pointer (some ⟨q, 0, none⟩) else undef
      rw [if_neg hq]) <|
      allOps_cons (fun a' w' hb hs hd => by
    have eg := (show a'.eval (.tmp 94) = .bool (decide (s < Lo)) from hd.get 46 94 (by kernel_rfl) (by kernel_rfl))
    by_cases hq : s < Lo
    · refine Or.inl ⟨wanted_t (j := 46) (d := 94) rfl (by kernel_rfl) (eg.trans (show _ = Value.bool true by first | (simp [hq]; done) | (simp; omega))), ?_⟩
      clear eg
      exact op1 (φ := (mpIf (s < Lo) (.int .i64 Lo)).p) (((show a'.eval (.tmp 98) = (if s < Lo then .pointer (some ⟨q, 0, none⟩) else undef) from hd.get 50 98 (by kernel_rfl) (by kernel_rfl))).trans (if_pos hq)) (fun ρ e c => by simp [go_sem, e, keep hb q0_5]) (if_pos hq).symm
    · refine Or.inr ⟨wanted_f (j := 46) (d := 94) (b' := false) rfl (by kernel_rfl) (eg.trans (by first | (simp [hq]; done) | (simp; omega))) rfl, ?_⟩
      show undef = if s < Lo then .int .i64 Lo else undef
      rw [if_neg hq]) <|
      allOps_cons (fun a' w' hb hs hd => by
    have eg := (show a'.eval (.tmp 94) = .bool (decide (s < Lo)) from hd.get 46 94 (by kernel_rfl) (by kernel_rfl))
    by_cases hq : s < Lo
    · refine Or.inl ⟨wanted_t (j := 46) (d := 94) rfl (by kernel_rfl) (eg.trans (show _ = Value.bool true by first | (simp [hq]; done) | (simp; omega))), ?_⟩
      clear eg
      have e0 := ((show a'.eval (.tmp 95) = (if s < Lo then .agg #[.slice A na ca, .int .i64 da] else undef) from hd.get 47 95 (by kernel_rfl) (by kernel_rfl))).trans (if_pos hq)
      have e1 := ((show a'.eval (.tmp 96) = (if s < Lo then .agg #[.slice B nb cb, .int .i64 db] else undef) from hd.get 48 96 (by kernel_rfl) (by kernel_rfl))).trans (if_pos hq)
      have e2 := ((show a'.eval (.tmp 97) = (if s < Lo then .int .i64 s else undef) from hd.get 49 97 (by kernel_rfl) (by kernel_rfl))).trans (if_pos hq)
      have e3 := ((show a'.eval (.tmp 99) = (if s < Lo then .int .i64 Lo else undef) from hd.get 51 99 (by kernel_rfl) (by kernel_rfl))).trans (if_pos hq)
      exact rg_fn (φ := (mpIf (s < Lo) (.bool true)).p) (vs := #[.agg #[.slice A na ca, .int .i64 da], .agg #[.slice B nb cb, .int .i64 db], .int .i64 s, .int .i64 Lo]) rfl (enters_of Tryz.func29 (by kernel_rfl) rfl) (by simp [e0, e1, e2, e3]) ((KW1.out hq w' (HA_5.out.bel hb) (HB_5.out.bel hb)).mono (by rintro e w1 ⟨rfl, h1⟩; exact ⟨_, rfl, h1, (if_pos hq).symm⟩))
    · refine Or.inr ⟨wanted_f (j := 46) (d := 94) (b' := false) rfl (by kernel_rfl) (eg.trans (by first | (simp [hq]; done) | (simp; omega))) rfl, ?_⟩
      show undef = if s < Lo then .bool true else undef
      rw [if_neg hq]) <|
      allOps_cons (fun a' w' hb hs hd => by
    have eg := (show a'.eval (.tmp 94) = .bool (decide (s < Lo)) from hd.get 46 94 (by kernel_rfl) (by kernel_rfl))
    by_cases hq : s < Lo
    · refine Or.inl ⟨wanted_t (j := 46) (d := 94) rfl (by kernel_rfl) (eg.trans (show _ = Value.bool true by first | (simp [hq]; done) | (simp; omega))), ?_⟩
      clear eg
      exact op1 (φ := (mpIf (s < Lo) (.bool false)).p) (((show a'.eval (.tmp 100) = (if s < Lo then .bool true else undef) from hd.get 52 100 (by kernel_rfl) (by kernel_rfl))).trans (if_pos hq)) (fun ρ e c => by simp [go_sem, e]) (if_pos hq).symm
    · refine Or.inr ⟨wanted_f (j := 46) (d := 94) (b' := false) rfl (by kernel_rfl) (eg.trans (by first | (simp [hq]; done) | (simp; omega))) rfl, ?_⟩
      show undef = if s < Lo then .bool false else undef
      rw [if_neg hq]) <|
      allOps_cons (fun a' w' hb hs hd => Or.inl ⟨wanted_t (j := 41) (d := 89) rfl (by kernel_rfl) (show a'.eval (.tmp 89) = .bool false from hd.get 41 89 (by kernel_rfl) (by kernel_rfl)), by
    exact op2 (φ := (mpEq (.bool false)).p) (show a'.eval (.tmp 94) = .bool (decide (s < Lo)) from hd.get 46 94 (by kernel_rfl) (by kernel_rfl)) (show a'.eval (.tmp 101) = (if s < Lo then .bool false else undef) from hd.get 53 101 (by kernel_rfl) (by kernel_rfl)) (fun ρ e e' c => by by_cases hq : s < Lo <;> simp [hq] at e' <;> simp [go_sem, e, e', c, hq]) rfl⟩) <|
      allOps_cons (fun a' w' hb hs hd => Or.inl ⟨wanted_n rfl, by
    exact op2 (φ := (mpEq (.bool false)).p) ((show a'.eval (.tmp 89) = .bool false from hd.get 41 89 (by kernel_rfl) (by kernel_rfl))) ((show a'.eval (.tmp 102) = .bool false from hd.get 54 102 (by kernel_rfl) (by kernel_rfl))) (fun ρ e e' c => by simp [go_sem, e, e', c]) rfl⟩) <|
      allOps_cons (fun a' w' hb hs hd => Or.inl ⟨wanted_n rfl, by
    exact op1 (φ := (mpEq (.bool false)).p) ((show a'.eval (.tmp 103) = .bool false from hd.get 55 103 (by kernel_rfl) (by kernel_rfl))) (fun ρ e c => by simp [go_sem, e]) rfl⟩) <|
      allOps_cons (fun a' w' hb hs hd => Or.inl ⟨wanted_t (j := 56) (d := 104) rfl (by kernel_rfl) (show a'.eval (.tmp 104) = .bool false from hd.get 56 104 (by kernel_rfl) (by kernel_rfl)), by
    exact op1 (φ := (mpEq (.pointer (some ⟨q, 0, none⟩))).p) ((hs.get 7 (by kernel_rfl)).trans (show _ = Value.pointer (some ⟨q, 0, none⟩) from rfl)) (fun ρ e c => by simp [go_sem, e]) rfl⟩) <|
      allOps_cons (fun a' w' hb hs hd => Or.inl ⟨wanted_t (j := 56) (d := 104) rfl (by kernel_rfl) (show a'.eval (.tmp 104) = .bool false from hd.get 56 104 (by kernel_rfl) (by kernel_rfl)), by
    exact op1 (φ := (mpEq (.int .i64 Lo)).p) ((show a'.eval (.tmp 105) = .pointer (some ⟨q, 0, none⟩) from hd.get 57 105 (by kernel_rfl) (by kernel_rfl))) (fun ρ e c => by simp [go_sem, e, keep hb q0_5]) rfl⟩) <|
      allOps_cons (fun a' w' hb hs hd => Or.inl ⟨wanted_t (j := 56) (d := 104) rfl (by kernel_rfl) (show a'.eval (.tmp 104) = .bool false from hd.get 56 104 (by kernel_rfl) (by kernel_rfl)), by
    exact op1 (φ := (mpEq (.agg #[.slice B nb cb, .int .i64 db])).p) ((hs.get 4 (by kernel_rfl)).trans (show _ = Value.pointer (some ⟨w.heap.size + 1, 0, none⟩) from rfl)) (fun ρ e c => by simp [go_sem, e, keep hb b0_5, keep hb b1_5]) rfl⟩) <|
      allOps_cons (fun a' w' hb hs hd => Or.inl ⟨wanted_t (j := 56) (d := 104) rfl (by kernel_rfl) (show a'.eval (.tmp 104) = .bool false from hd.get 56 104 (by kernel_rfl) (by kernel_rfl)), by
    have e0 := (show a'.eval (.tmp 107) = .agg #[.slice B nb cb, .int .i64 db] from hd.get 59 107 (by kernel_rfl) (by kernel_rfl))
    exact rg_fn (φ := (mpEq (.int .i64 T)).p) (vs := #[.agg #[.slice B nb cb, .int .i64 db]]) rfl (enters_of Tryz.func27 (by kernel_rfl) rfl) (by simp [e0]) ((KLT.out w' (HA_5.out.bel hb) (HB_5.out.bel hb)).mono (by rintro e w1 ⟨rfl, h1⟩; exact ⟨_, rfl, h1, rfl⟩))⟩) <|
      allOps_cons (fun a' w' hb hs hd => Or.inl ⟨wanted_t (j := 56) (d := 104) rfl (by kernel_rfl) (show a'.eval (.tmp 104) = .bool false from hd.get 56 104 (by kernel_rfl) (by kernel_rfl)), by
    exact op2 (φ := (mpEq (.bool (decide (Lo < T)))).p) ((show a'.eval (.tmp 106) = .int .i64 Lo from hd.get 58 106 (by kernel_rfl) (by kernel_rfl))) ((show a'.eval (.tmp 108) = .int .i64 T from hd.get 60 108 (by kernel_rfl) (by kernel_rfl))) (fun ρ e e' c => by simp [go_sem, e, e']) rfl⟩) <|
      allOps_cons (fun a' w' hb hs hd => Or.inl ⟨wanted_t (j := 56) (d := 104) rfl (by kernel_rfl) (show a'.eval (.tmp 104) = .bool false from hd.get 56 104 (by kernel_rfl) (by kernel_rfl)), by
    exact op1 (φ := (mpEq (.bool (decide (Lo < T)))).p) ((show a'.eval (.tmp 109) = .bool (decide (Lo < T)) from hd.get 61 109 (by kernel_rfl) (by kernel_rfl))) (fun ρ e c => by simp [go_sem, e]) rfl⟩) <|
      allOps_cons (fun a' w' hb hs hd => by
    have eg := (show a'.eval (.tmp 110) = .bool (decide (Lo < T)) from hd.get 62 110 (by kernel_rfl) (by kernel_rfl))
    by_cases hq : Lo < T
    · refine Or.inl ⟨wanted_t (j := 62) (d := 110) rfl (by kernel_rfl) (eg.trans (show _ = Value.bool true by first | (simp [hq]; done) | (simp; omega))), ?_⟩
      clear eg
      exact op1 (φ := (mpIf (Lo < T) (.agg #[.slice A na ca, .int .i64 da])).p) ((hs.get 3 (by kernel_rfl)).trans (show _ = Value.pointer (some ⟨w.heap.size, 0, none⟩) from rfl)) (fun ρ e c => by simp [go_sem, e, keep hb a0_5, keep hb a1_5]) (if_pos hq).symm
    · refine Or.inr ⟨wanted_f (j := 62) (d := 110) (b' := false) rfl (by kernel_rfl) (eg.trans (by first | (simp [hq]; done) | (simp; omega))) rfl, ?_⟩
      show undef = if Lo < T then .agg #[.slice A na ca, .int .i64 da] else undef
      rw [if_neg hq]) <|
      allOps_cons (fun a' w' hb hs hd => by
    have eg := (show a'.eval (.tmp 110) = .bool (decide (Lo < T)) from hd.get 62 110 (by kernel_rfl) (by kernel_rfl))
    by_cases hq : Lo < T
    · refine Or.inl ⟨wanted_t (j := 62) (d := 110) rfl (by kernel_rfl) (eg.trans (show _ = Value.bool true by first | (simp [hq]; done) | (simp; omega))), ?_⟩
      clear eg
      exact op1 (φ := (mpIf (Lo < T) (.agg #[.slice B nb cb, .int .i64 db])).p) ((hs.get 4 (by kernel_rfl)).trans (show _ = Value.pointer (some ⟨w.heap.size + 1, 0, none⟩) from rfl)) (fun ρ e c => by simp [go_sem, e, keep hb b0_5, keep hb b1_5]) (if_pos hq).symm
    · refine Or.inr ⟨wanted_f (j := 62) (d := 110) (b' := false) rfl (by kernel_rfl) (eg.trans (by first | (simp [hq]; done) | (simp; omega))) rfl, ?_⟩
      show undef = if Lo < T then .agg #[.slice B nb cb, .int .i64 db] else undef
      rw [if_neg hq]) <|
      allOps_cons (fun a' w' hb hs hd => by
    have eg := (show a'.eval (.tmp 110) = .bool (decide (Lo < T)) from hd.get 62 110 (by kernel_rfl) (by kernel_rfl))
    by_cases hq : Lo < T
    · refine Or.inl ⟨wanted_t (j := 62) (d := 110) rfl (by kernel_rfl) (eg.trans (show _ = Value.bool true by first | (simp [hq]; done) | (simp; omega))), ?_⟩
      clear eg
      exact op1 (φ := (mpIf (Lo < T) (.int .i64 s)).p) ((hs.get 2 (by kernel_rfl)).trans (show _ = Value.int .i64 s from rfl)) (fun ρ e c => by simp [go_sem, e]) (if_pos hq).symm
    · refine Or.inr ⟨wanted_f (j := 62) (d := 110) (b' := false) rfl (by kernel_rfl) (eg.trans (by first | (simp [hq]; done) | (simp; omega))) rfl, ?_⟩
      show undef = if Lo < T then .int .i64 s else undef
      rw [if_neg hq]) <|
      allOps_cons (fun a' w' hb hs hd => by
    have eg := (show a'.eval (.tmp 110) = .bool (decide (Lo < T)) from hd.get 62 110 (by kernel_rfl) (by kernel_rfl))
    by_cases hq : Lo < T
    · refine Or.inl ⟨wanted_t (j := 62) (d := 110) rfl (by kernel_rfl) (eg.trans (show _ = Value.bool true by first | (simp [hq]; done) | (simp; omega))), ?_⟩
      clear eg
      exact op1 (φ := (mpIf (Lo < T) (.pointer (some ⟨q, 0, none⟩))).p) ((hs.get 7 (by kernel_rfl)).trans (show _ = Value.pointer (some ⟨q, 0, none⟩) from rfl)) (fun ρ e c => by simp [go_sem, e]) (if_pos hq).symm
    · refine Or.inr ⟨wanted_f (j := 62) (d := 110) (b' := false) rfl (by kernel_rfl) (eg.trans (by first | (simp [hq]; done) | (simp; omega))) rfl, ?_⟩
      show undef = if Lo < T then .pointer (some ⟨q, 0, none⟩) else undef
      rw [if_neg hq]) <|
      allOps_cons (fun a' w' hb hs hd => by
    have eg := (show a'.eval (.tmp 110) = .bool (decide (Lo < T)) from hd.get 62 110 (by kernel_rfl) (by kernel_rfl))
    by_cases hq : Lo < T
    · refine Or.inl ⟨wanted_t (j := 62) (d := 110) rfl (by kernel_rfl) (eg.trans (show _ = Value.bool true by first | (simp [hq]; done) | (simp; omega))), ?_⟩
      clear eg
      exact op1 (φ := (mpIf (Lo < T) (.int .i64 Lo)).p) (((show a'.eval (.tmp 114) = (if Lo < T then .pointer (some ⟨q, 0, none⟩) else undef) from hd.get 66 114 (by kernel_rfl) (by kernel_rfl))).trans (if_pos hq)) (fun ρ e c => by simp [go_sem, e, keep hb q0_5]) (if_pos hq).symm
    · refine Or.inr ⟨wanted_f (j := 62) (d := 110) (b' := false) rfl (by kernel_rfl) (eg.trans (by first | (simp [hq]; done) | (simp; omega))) rfl, ?_⟩
      show undef = if Lo < T then .int .i64 Lo else undef
      rw [if_neg hq]) <|
      allOps_cons (fun a' w' hb hs hd => by
    have eg := (show a'.eval (.tmp 110) = .bool (decide (Lo < T)) from hd.get 62 110 (by kernel_rfl) (by kernel_rfl))
    by_cases hq : Lo < T
    · refine Or.inl ⟨wanted_t (j := 62) (d := 110) rfl (by kernel_rfl) (eg.trans (show _ = Value.bool true by first | (simp [hq]; done) | (simp; omega))), ?_⟩
      clear eg
      exact op1 (φ := (mpIf (Lo < T) (.int .i64 (Lo + 1))).p) (((show a'.eval (.tmp 115) = (if Lo < T then .int .i64 Lo else undef) from hd.get 67 115 (by kernel_rfl) (by kernel_rfl))).trans (if_pos hq)) (fun ρ e c => by simp [go_sem, e, c, x2]) (if_pos hq).symm
    · refine Or.inr ⟨wanted_f (j := 62) (d := 110) (b' := false) rfl (by kernel_rfl) (eg.trans (by first | (simp [hq]; done) | (simp; omega))) rfl, ?_⟩
      show undef = if Lo < T then .int .i64 (Lo + 1) else undef
      rw [if_neg hq]) <|
      allOps_cons (fun a' w' hb hs hd => by
    have eg := (show a'.eval (.tmp 110) = .bool (decide (Lo < T)) from hd.get 62 110 (by kernel_rfl) (by kernel_rfl))
    by_cases hq : Lo < T
    · refine Or.inl ⟨wanted_t (j := 62) (d := 110) rfl (by kernel_rfl) (eg.trans (show _ = Value.bool true by first | (simp [hq]; done) | (simp; omega))), ?_⟩
      clear eg
      have e0 := ((show a'.eval (.tmp 111) = (if Lo < T then .agg #[.slice A na ca, .int .i64 da] else undef) from hd.get 63 111 (by kernel_rfl) (by kernel_rfl))).trans (if_pos hq)
      have e1 := ((show a'.eval (.tmp 112) = (if Lo < T then .agg #[.slice B nb cb, .int .i64 db] else undef) from hd.get 64 112 (by kernel_rfl) (by kernel_rfl))).trans (if_pos hq)
      have e2 := ((show a'.eval (.tmp 113) = (if Lo < T then .int .i64 s else undef) from hd.get 65 113 (by kernel_rfl) (by kernel_rfl))).trans (if_pos hq)
      have e3 := ((show a'.eval (.tmp 116) = (if Lo < T then .int .i64 (Lo + 1) else undef) from hd.get 68 116 (by kernel_rfl) (by kernel_rfl))).trans (if_pos hq)
      exact rg_fn (φ := (mpIf (Lo < T) (.bool false)).p) (vs := #[.agg #[.slice A na ca, .int .i64 da], .agg #[.slice B nb cb, .int .i64 db], .int .i64 s, .int .i64 (Lo + 1)]) rfl (enters_of Tryz.func29 (by kernel_rfl) rfl) (by simp [e0, e1, e2, e3]) ((KW2.out hq w' (HA_5.out.bel hb) (HB_5.out.bel hb)).mono (by rintro e w1 ⟨rfl, h1⟩; exact ⟨_, rfl, h1, (if_pos hq).symm⟩))
    · refine Or.inr ⟨wanted_f (j := 62) (d := 110) (b' := false) rfl (by kernel_rfl) (eg.trans (by first | (simp [hq]; done) | (simp; omega))) rfl, ?_⟩
      show undef = if Lo < T then .bool false else undef
      rw [if_neg hq]) <|
      allOps_cons (fun a' w' hb hs hd => Or.inl ⟨wanted_t (j := 56) (d := 104) rfl (by kernel_rfl) (show a'.eval (.tmp 104) = .bool false from hd.get 56 104 (by kernel_rfl) (by kernel_rfl)), by
    exact op2 (φ := (mpEq (.bool false)).p) (show a'.eval (.tmp 110) = .bool (decide (Lo < T)) from hd.get 62 110 (by kernel_rfl) (by kernel_rfl)) (show a'.eval (.tmp 117) = (if Lo < T then .bool false else undef) from hd.get 69 117 (by kernel_rfl) (by kernel_rfl)) (fun ρ e e' c => by by_cases hq : Lo < T <;> simp [hq] at e' <;> simp [go_sem, e, e', c, hq]) rfl⟩) <|
      allOps_cons (fun a' w' hb hs hd => Or.inl ⟨wanted_n rfl, by
    exact op2 (φ := (mpEq (.bool false)).p) ((show a'.eval (.tmp 104) = .bool false from hd.get 56 104 (by kernel_rfl) (by kernel_rfl))) ((show a'.eval (.tmp 118) = .bool false from hd.get 70 118 (by kernel_rfl) (by kernel_rfl))) (fun ρ e e' c => by simp [go_sem, e, e', c]) rfl⟩) <| allOps_nil) (fun V5 y6 hb5 hall => ?_)
  have h8 : V5 119 = .bool false := hall.get 71 rfl
  clear hall
  simp only [mk1, maskPut, Nat.reduceAdd]
  rw [h8]
  clear h8
  have a0_6 := keep hb5 a0_5
  have a1_6 := keep hb5 a1_5
  have b0_6 := keep hb5 b0_5
  have b1_6 := keep hb5 b1_5
  have q0_6 := keep hb5 q0_5
  have q1_6 := keep hb5 q1_5
  have B_6 := Lib.hid (thenB B_5.out hb5)
  have HA_6 := Lib.hid (HA.out.bel B_6.out)
  have HB_6 := Lib.hid (HB.out.bel B_6.out)
  clear hb5 B_5 HA_5 HB_5 a0_5 a1_5 b0_5 b1_5 q0_5 q1_5
  clear x1 x2
  go_upto_region 9 with (fail)
  refine wp_region_mp [mpEq (.agg #[.slice A na ca, .int .i64 da]), mpCp na da ka, mpEq (.agg #[.slice B nb cb, .int .i64 db]), mpCp nb db kb, mpEq (.int .i64 s), mpEq (.agg #[.int .i64 Lo, .int .i64 Hi]), mpEq (.agg #[.int .i64 s, .int .i64 Lo, .int .i64 Hi]), mpEq (.int .i64 C), mpEq (.int .i64 C)] mk2 (by kernel_rfl) (by kernel_rfl) (by kernel_rfl) (
      allOps_cons (fun a' w' hb hs hd => rg_op fun K hK => by
    have e1 := (hs.get 3 (by kernel_rfl)).trans (show _ = Value.pointer (some ⟨w.heap.size, 0, none⟩) from rfl)
    have c0 := keep hb a0_6
    have c1 := keep hb a1_6
    clear hs hd
    unfold Oper.wp
    generalize a'.eval = ρ at e1 ⊢
    simp [go_sem, e1, c0, c1]
    exact hK _ _ (Below.refl _ _) rfl) <|
      allOps_cons (fun a' w' hb hs hd => by
    exact rg_fn (φ := (mpCp na da ka).p) (vs := #[.agg #[.slice A na ca, .int .i64 da]]) rfl (enters_of Tryz.func14 (by kernel_rfl) rfl) (by simp [(show a'.eval (.tmp 120) = .agg #[.slice A na ca, .int .i64 da] from hd.get 0 120 (by kernel_rfl) (by kernel_rfl))]) ((copyT_any A na ca da ka w' (by omega) HA0.out (HA_6.out.bel hb)).mono (by rintro e w1 ⟨X, c1, rfl, hk, h1⟩; exact ⟨_, rfl, h1, X, c1, rfl, hk⟩))) <|
      allOps_cons (fun a' w' hb hs hd => rg_op fun K hK => by
    have e1 := (hs.get 4 (by kernel_rfl)).trans (show _ = Value.pointer (some ⟨w.heap.size + 1, 0, none⟩) from rfl)
    have c0 := keep hb b0_6
    have c1 := keep hb b1_6
    clear hs hd
    unfold Oper.wp
    generalize a'.eval = ρ at e1 ⊢
    simp [go_sem, e1, c0, c1]
    exact hK _ _ (Below.refl _ _) rfl) <|
      allOps_cons (fun a' w' hb hs hd => by
    exact rg_fn (φ := (mpCp nb db kb).p) (vs := #[.agg #[.slice B nb cb, .int .i64 db]]) rfl (enters_of Tryz.func14 (by kernel_rfl) rfl) (by simp [(show a'.eval (.tmp 122) = .agg #[.slice B nb cb, .int .i64 db] from hd.get 2 122 (by kernel_rfl) (by kernel_rfl))]) ((copyT_any B nb cb db kb w' (by omega) HB0.out (HB_6.out.bel hb)).mono (by rintro e w1 ⟨X, c1, rfl, hk, h1⟩; exact ⟨_, rfl, h1, X, c1, rfl, hk⟩))) <|
      allOps_cons (fun a' w' hb hs hd => rg_op fun K hK => by
    have e1 := (hs.get 2 (by kernel_rfl)).trans (show _ = .int .i64 s from rfl)
    clear hs hd
    unfold Oper.wp
    generalize a'.eval = ρ at e1 ⊢
    simp [go_sem, e1]
    exact hK _ _ (Below.refl _ _) rfl) <|
      allOps_cons (fun a' w' hb hs hd => rg_op fun K hK => by
    have e1 := (hs.get 7 (by kernel_rfl)).trans (show _ = Value.pointer (some ⟨q, 0, none⟩) from rfl)
    have c0 := keep hb q0_6
    have c1 := keep hb q1_6
    clear hs hd
    unfold Oper.wp
    generalize a'.eval = ρ at e1 ⊢
    simp [go_sem, e1, c0, c1]
    exact hK _ _ (Below.refl _ _) rfl) <|
      allOps_cons (fun a' w' hb hs hd => rg_op fun K hK => by
    have e0 := (show a'.eval (.tmp 124) = .int .i64 s from hd.get 4 124 (by kernel_rfl) (by kernel_rfl))
    have e1 := (show a'.eval (.tmp 125) = .agg #[.int .i64 Lo, .int .i64 Hi] from hd.get 5 125 (by kernel_rfl) (by kernel_rfl))
    clear hs hd
    unfold Oper.wp
    generalize a'.eval = ρ at e0 e1 ⊢
    simp [go_sem, e0, e1]
    exact hK _ _ (Below.refl _ _) rfl) <|
      allOps_cons (fun a' w' hb hs hd => by
    obtain ⟨X1, c1, e1, k1⟩ := (show (mpCp na da ka).p (a'.eval (.tmp 121)) w' from hd.get 1 121 (by kernel_rfl) (by kernel_rfl))
    obtain ⟨X2, c2, e2, k2⟩ := (show (mpCp nb db kb).p (a'.eval (.tmp 123)) w' from hd.get 3 123 (by kernel_rfl) (by kernel_rfl))
    exact rg_fn (φ := (mpEq (.int .i64 C)).p) (vs := #[.agg #[.slice X1 na c1, .int .i64 da], .agg #[.slice X2 nb c2, .int .i64 db], .agg #[.int .i64 s, .int .i64 Lo, .int .i64 Hi]]) rfl (enters_of Tryz.func24 (by kernel_rfl) rfl) (by simp [e1, e2, (show a'.eval (.tmp 126) = .agg #[.int .i64 s, .int .i64 Lo, .int .i64 Hi] from hd.get 6 126 (by kernel_rfl) (by kernel_rfl))]) ((KCR.out w' X1 c1 X2 c2 k1 k2).mono (by rintro e w1 ⟨rfl, h1⟩; exact ⟨_, rfl, h1, rfl⟩))) <|
      allOps_cons (fun a' w' hb hs hd => rg_op fun K hK => by
    have e1 := (show a'.eval (.tmp 127) = .int .i64 C from hd.get 7 127 (by kernel_rfl) (by kernel_rfl))
    clear hs hd
    unfold Oper.wp
    generalize a'.eval = ρ at e1 ⊢
    simp [go_sem, e1]
    exact hK _ _ (Below.refl _ _) rfl) <| allOps_nil) (fun V6 y7 hb6 hall => ?_)
  have h8 : V6 9 = .int .i64 C := hall.get 8 rfl
  clear hall
  simp only [mk2, maskPut, Nat.reduceAdd]
  rw [h8]
  clear h8
  have a0_7 := keep hb6 a0_6
  have a1_7 := keep hb6 a1_6
  have b0_7 := keep hb6 b0_6
  have b1_7 := keep hb6 b1_6
  have q0_7 := keep hb6 q0_6
  have q1_7 := keep hb6 q1_6
  have B_7 := Lib.hid (thenB B_6.out hb6)
  have HA_7 := Lib.hid (HA.out.bel B_7.out)
  have HB_7 := Lib.hid (HB.out.bel B_7.out)
  clear hb6 B_6 HA_6 HB_6 a0_6 a1_6 b0_6 b1_6 q0_6 q1_6
  go_upto_region 10 with (fail)
  refine wp_region_gd [mpEq (.int .i64 C), mpEq (.bool (C != 0)), mpEq (.bool (C != 0)), mpIf (C ≠ 0) (.int .i64 C), mpIf (C ≠ 0) (.bool true), mpIf (C ≠ 0) (.bool true), mpIf (C ≠ 0) (.agg #[.slice A na ca, .int .i64 da]), mpIf (C ≠ 0) (.agg #[.slice B nb cb, .int .i64 db]), mpIf (C ≠ 0) (.pointer (some ⟨q, 1, none⟩)), mpIf (C ≠ 0) (.int .i64 Hi), mpIf (C ≠ 0) (.int .i64 2), mpIf (C ≠ 0) (.bool true), mpIf (C ≠ 0) (.bool true), mpIf (C ≠ 0) (.bool false), mpEq (.bool false)] mk3 (by kernel_rfl) (by kernel_rfl) (by kernel_rfl) (
      allOps_cons (fun a' w' hb hs hd => Or.inl ⟨wanted_n rfl, by
    exact op1 (φ := (mpEq (.int .i64 C)).p) ((hs.get 9 (by kernel_rfl)).trans (show _ = Value.int .i64 C from rfl)) (fun ρ e c => by simp [go_sem, e]) rfl⟩) <|
      allOps_cons (fun a' w' hb hs hd => Or.inl ⟨wanted_n rfl, by
    exact op1 (φ := (mpEq (.bool (C != 0))).p) ((show a'.eval (.tmp 128) = .int .i64 C from hd.get 0 128 (by kernel_rfl) (by kernel_rfl))) (fun ρ e c => by simp [go_sem, e, c]) rfl⟩) <|
      allOps_cons (fun a' w' hb hs hd => Or.inl ⟨wanted_n rfl, by
    exact op1 (φ := (mpEq (.bool (C != 0))).p) ((show a'.eval (.tmp 129) = .bool (C != 0) from hd.get 1 129 (by kernel_rfl) (by kernel_rfl))) (fun ρ e c => by simp [go_sem, e]) rfl⟩) <|
      allOps_cons (fun a' w' hb hs hd => by
    have eg := (show a'.eval (.tmp 130) = .bool (C != 0) from hd.get 2 130 (by kernel_rfl) (by kernel_rfl))
    by_cases hq : C ≠ 0
    · refine Or.inl ⟨wanted_t (j := 2) (d := 130) rfl (by kernel_rfl) (eg.trans (show _ = Value.bool true by first | (simp [hq]; done) | (simp; omega))), ?_⟩
      clear eg
      exact op1 (φ := (mpIf (C ≠ 0) (.int .i64 C)).p) ((hs.get 9 (by kernel_rfl)).trans (show _ = Value.int .i64 C from rfl)) (fun ρ e c => by simp [go_sem, e]) (if_pos hq).symm
    · refine Or.inr ⟨wanted_f (j := 2) (d := 130) (b' := false) rfl (by kernel_rfl) (eg.trans (by first | (simp; done) | (simp; omega))) rfl, ?_⟩
      show undef = if C ≠ 0 then .int .i64 C else undef
      rw [if_neg hq]) <|
      allOps_cons (fun a' w' hb hs hd => by
    have eg := (show a'.eval (.tmp 130) = .bool (C != 0) from hd.get 2 130 (by kernel_rfl) (by kernel_rfl))
    by_cases hq : C ≠ 0
    · refine Or.inl ⟨wanted_t (j := 2) (d := 130) rfl (by kernel_rfl) (eg.trans (show _ = Value.bool true by first | (simp [hq]; done) | (simp; omega))), ?_⟩
      clear eg
      exact op1 (φ := (mpIf (C ≠ 0) (.bool true)).p) (((show a'.eval (.tmp 131) = (if C ≠ 0 then .int .i64 C else undef) from hd.get 3 131 (by kernel_rfl) (by kernel_rfl))).trans (if_pos hq)) (fun ρ e c => by simp [go_sem, e, c, hC hq]) (if_pos hq).symm
    · refine Or.inr ⟨wanted_f (j := 2) (d := 130) (b' := false) rfl (by kernel_rfl) (eg.trans (by first | (simp; done) | (simp; omega))) rfl, ?_⟩
      show undef = if C ≠ 0 then .bool true else undef
      rw [if_neg hq]) <|
      allOps_cons (fun a' w' hb hs hd => by
    have eg := (show a'.eval (.tmp 130) = .bool (C != 0) from hd.get 2 130 (by kernel_rfl) (by kernel_rfl))
    by_cases hq : C ≠ 0
    · refine Or.inl ⟨wanted_t (j := 2) (d := 130) rfl (by kernel_rfl) (eg.trans (show _ = Value.bool true by first | (simp [hq]; done) | (simp; omega))), ?_⟩
      clear eg
      exact op1 (φ := (mpIf (C ≠ 0) (.bool true)).p) (((show a'.eval (.tmp 132) = (if C ≠ 0 then .bool true else undef) from hd.get 4 132 (by kernel_rfl) (by kernel_rfl))).trans (if_pos hq)) (fun ρ e c => by simp [go_sem, e]) (if_pos hq).symm
    · refine Or.inr ⟨wanted_f (j := 2) (d := 130) (b' := false) rfl (by kernel_rfl) (eg.trans (by first | (simp; done) | (simp; omega))) rfl, ?_⟩
      show undef = if C ≠ 0 then .bool true else undef
      rw [if_neg hq]) <|
      allOps_cons (fun a' w' hb hs hd => by
    have eg := (show a'.eval (.tmp 133) = (if C ≠ 0 then .bool true else undef) from hd.get 5 133 (by kernel_rfl) (by kernel_rfl))
    by_cases hq : C ≠ 0
    · refine Or.inl ⟨wanted_t (j := 5) (d := 133) rfl (by kernel_rfl) (eg.trans (if_pos hq)), ?_⟩
      clear eg
      exact op1 (φ := (mpIf (C ≠ 0) (.agg #[.slice A na ca, .int .i64 da])).p) ((hs.get 3 (by kernel_rfl)).trans (show _ = Value.pointer (some ⟨w.heap.size, 0, none⟩) from rfl)) (fun ρ e c => by simp [go_sem, e, keep hb a0_7, keep hb a1_7]) (if_pos hq).symm
    · refine Or.inr ⟨wanted_u (j := 5) (d := 133) rfl (by kernel_rfl) (eg.trans (if_neg hq)), ?_⟩
      show undef = if C ≠ 0 then .agg #[.slice A na ca, .int .i64 da] else undef
      rw [if_neg hq]) <|
      allOps_cons (fun a' w' hb hs hd => by
    have eg := (show a'.eval (.tmp 133) = (if C ≠ 0 then .bool true else undef) from hd.get 5 133 (by kernel_rfl) (by kernel_rfl))
    by_cases hq : C ≠ 0
    · refine Or.inl ⟨wanted_t (j := 5) (d := 133) rfl (by kernel_rfl) (eg.trans (if_pos hq)), ?_⟩
      clear eg
      exact op1 (φ := (mpIf (C ≠ 0) (.agg #[.slice B nb cb, .int .i64 db])).p) ((hs.get 4 (by kernel_rfl)).trans (show _ = Value.pointer (some ⟨w.heap.size + 1, 0, none⟩) from rfl)) (fun ρ e c => by simp [go_sem, e, keep hb b0_7, keep hb b1_7]) (if_pos hq).symm
    · refine Or.inr ⟨wanted_u (j := 5) (d := 133) rfl (by kernel_rfl) (eg.trans (if_neg hq)), ?_⟩
      show undef = if C ≠ 0 then .agg #[.slice B nb cb, .int .i64 db] else undef
      rw [if_neg hq]) <|
      allOps_cons (fun a' w' hb hs hd => by
    have eg := (show a'.eval (.tmp 133) = (if C ≠ 0 then .bool true else undef) from hd.get 5 133 (by kernel_rfl) (by kernel_rfl))
    by_cases hq : C ≠ 0
    · refine Or.inl ⟨wanted_t (j := 5) (d := 133) rfl (by kernel_rfl) (eg.trans (if_pos hq)), ?_⟩
      clear eg
      exact op1 (φ := (mpIf (C ≠ 0) (.pointer (some ⟨q, 1, none⟩))).p) ((hs.get 7 (by kernel_rfl)).trans (show _ = Value.pointer (some ⟨q, 0, none⟩) from rfl)) (fun ρ e c => by simp [go_sem, e]) (if_pos hq).symm
    · refine Or.inr ⟨wanted_u (j := 5) (d := 133) rfl (by kernel_rfl) (eg.trans (if_neg hq)), ?_⟩
      show undef = if C ≠ 0 then .pointer (some ⟨q, 1, none⟩) else undef
      rw [if_neg hq]) <|
      allOps_cons (fun a' w' hb hs hd => by
    have eg := (show a'.eval (.tmp 133) = (if C ≠ 0 then .bool true else undef) from hd.get 5 133 (by kernel_rfl) (by kernel_rfl))
    by_cases hq : C ≠ 0
    · refine Or.inl ⟨wanted_t (j := 5) (d := 133) rfl (by kernel_rfl) (eg.trans (if_pos hq)), ?_⟩
      clear eg
      exact op1 (φ := (mpIf (C ≠ 0) (.int .i64 Hi)).p) (((show a'.eval (.tmp 136) = (if C ≠ 0 then .pointer (some ⟨q, 1, none⟩) else undef) from hd.get 8 136 (by kernel_rfl) (by kernel_rfl))).trans (if_pos hq)) (fun ρ e c => by simp [go_sem, e, keep hb q1_7]) (if_pos hq).symm
    · refine Or.inr ⟨wanted_u (j := 5) (d := 133) rfl (by kernel_rfl) (eg.trans (if_neg hq)), ?_⟩
      show undef = if C ≠ 0 then .int .i64 Hi else undef
      rw [if_neg hq]) <|
      allOps_cons (fun a' w' hb hs hd => by
    have eg := (show a'.eval (.tmp 133) = (if C ≠ 0 then .bool true else undef) from hd.get 5 133 (by kernel_rfl) (by kernel_rfl))
    by_cases hq : C ≠ 0
    · refine Or.inl ⟨wanted_t (j := 5) (d := 133) rfl (by kernel_rfl) (eg.trans (if_pos hq)), ?_⟩
      clear eg
      have e0 := ((show a'.eval (.tmp 134) = (if C ≠ 0 then .agg #[.slice A na ca, .int .i64 da] else undef) from hd.get 6 134 (by kernel_rfl) (by kernel_rfl))).trans (if_pos hq)
      have e1 := ((show a'.eval (.tmp 135) = (if C ≠ 0 then .agg #[.slice B nb cb, .int .i64 db] else undef) from hd.get 7 135 (by kernel_rfl) (by kernel_rfl))).trans (if_pos hq)
      have e2 := ((show a'.eval (.tmp 137) = (if C ≠ 0 then .int .i64 Hi else undef) from hd.get 9 137 (by kernel_rfl) (by kernel_rfl))).trans (if_pos hq)
      exact rg_fn (φ := (mpIf (C ≠ 0) (.int .i64 2)).p) (vs := #[.agg #[.slice A na ca, .int .i64 da], .agg #[.slice B nb cb, .int .i64 db], .int .i64 Hi]) rfl (enters_of Tryz.func17 (by kernel_rfl) rfl) (by simp [e0, e1, e2]) ((KTH.out hq w' (HA_7.out.bel hb) (HB_7.out.bel hb)).mono (by rintro e w1 ⟨rfl, h1⟩; exact ⟨_, rfl, h1, (if_pos hq).symm⟩))
    · refine Or.inr ⟨wanted_u (j := 5) (d := 133) rfl (by kernel_rfl) (eg.trans (if_neg hq)), ?_⟩
      show undef = if C ≠ 0 then .int .i64 2 else undef
      rw [if_neg hq]) <|
      allOps_cons (fun a' w' hb hs hd => by
    have eg := (show a'.eval (.tmp 133) = (if C ≠ 0 then .bool true else undef) from hd.get 5 133 (by kernel_rfl) (by kernel_rfl))
    by_cases hq : C ≠ 0
    · refine Or.inl ⟨wanted_t (j := 5) (d := 133) rfl (by kernel_rfl) (eg.trans (if_pos hq)), ?_⟩
      clear eg
      exact op1 (φ := (mpIf (C ≠ 0) (.bool true)).p) (((show a'.eval (.tmp 138) = (if C ≠ 0 then .int .i64 2 else undef) from hd.get 10 138 (by kernel_rfl) (by kernel_rfl))).trans (if_pos hq)) (fun ρ e c => by simp [go_sem, e, c]) (if_pos hq).symm
    · refine Or.inr ⟨wanted_u (j := 5) (d := 133) rfl (by kernel_rfl) (eg.trans (if_neg hq)), ?_⟩
      show undef = if C ≠ 0 then .bool true else undef
      rw [if_neg hq]) <|
      allOps_cons (fun a' w' hb hs hd => by
    have eg := (show a'.eval (.tmp 130) = .bool (C != 0) from hd.get 2 130 (by kernel_rfl) (by kernel_rfl))
    by_cases hq : C ≠ 0
    · refine Or.inl ⟨wanted_t (j := 2) (d := 130) rfl (by kernel_rfl) (eg.trans (show _ = Value.bool true by first | (simp [hq]; done) | (simp; omega))), ?_⟩
      clear eg
      exact op2 (φ := (mpIf (C ≠ 0) (.bool true)).p) (((show a'.eval (.tmp 133) = (if C ≠ 0 then .bool true else undef) from hd.get 5 133 (by kernel_rfl) (by kernel_rfl))).trans (if_pos hq)) (((show a'.eval (.tmp 139) = (if C ≠ 0 then .bool true else undef) from hd.get 11 139 (by kernel_rfl) (by kernel_rfl))).trans (if_pos hq)) (fun ρ e e' c => by simp [go_sem, e, e', c]) (if_pos hq).symm
    · refine Or.inr ⟨wanted_f (j := 2) (d := 130) (b' := false) rfl (by kernel_rfl) (eg.trans (by first | (simp; done) | (simp; omega))) rfl, ?_⟩
      show undef = if C ≠ 0 then .bool true else undef
      rw [if_neg hq]) <|
      allOps_cons (fun a' w' hb hs hd => by
    have eg := (show a'.eval (.tmp 130) = .bool (C != 0) from hd.get 2 130 (by kernel_rfl) (by kernel_rfl))
    by_cases hq : C ≠ 0
    · refine Or.inl ⟨wanted_t (j := 2) (d := 130) rfl (by kernel_rfl) (eg.trans (show _ = Value.bool true by first | (simp [hq]; done) | (simp; omega))), ?_⟩
      clear eg
      exact op1 (φ := (mpIf (C ≠ 0) (.bool false)).p) (((show a'.eval (.tmp 140) = (if C ≠ 0 then .bool true else undef) from hd.get 12 140 (by kernel_rfl) (by kernel_rfl))).trans (if_pos hq)) (fun ρ e c => by simp [go_sem, e]) (if_pos hq).symm
    · refine Or.inr ⟨wanted_f (j := 2) (d := 130) (b' := false) rfl (by kernel_rfl) (eg.trans (by first | (simp; done) | (simp; omega))) rfl, ?_⟩
      show undef = if C ≠ 0 then .bool false else undef
      rw [if_neg hq]) <|
      allOps_cons (fun a' w' hb hs hd => Or.inl ⟨wanted_n rfl, by
    exact op2 (φ := (mpEq (.bool false)).p) (show a'.eval (.tmp 130) = .bool (C != 0) from hd.get 2 130 (by kernel_rfl) (by kernel_rfl)) (show a'.eval (.tmp 141) = (if C ≠ 0 then .bool false else undef) from hd.get 13 141 (by kernel_rfl) (by kernel_rfl)) (fun ρ e e' c => by by_cases hq : C = 0 <;> simp [hq] at e' <;> simp [go_sem, e, e', c, hq]) rfl⟩) <| allOps_nil) (fun V7 y8 hb7 hall => ?_)
  have h8 : V7 142 = .bool false := hall.get 14 rfl
  clear hall
  simp only [mk3, maskPut, Nat.reduceAdd]
  rw [h8]
  clear h8
  have a0_8 := keep hb7 a0_7
  have a1_8 := keep hb7 a1_7
  have b0_8 := keep hb7 b0_7
  have b1_8 := keep hb7 b1_7
  have q0_8 := keep hb7 q0_7
  have q1_8 := keep hb7 q1_7
  have B_8 := Lib.hid (thenB B_7.out hb7)
  have HA_8 := Lib.hid (HA.out.bel B_8.out)
  have HB_8 := Lib.hid (HB.out.bel B_8.out)
  clear hb7 B_7 HA_7 HB_7 a0_7 a1_7 b0_7 b1_7 q0_7 q1_7
  go_upto_region 14 with (fail)
  refine wp_region_st mk4 (by kernel_rfl) [mpEq (.agg #[.slice A na ca, .int .i64 da]), mpCp na da ka, mpEq (.agg #[.slice B nb cb, .int .i64 db]), mpCp nb db kb, mpEq (.int .i64 s), mpEq (.tuple #[.agg #[.int .i64 sL, .int .i64 sH], .int .i64 G]), mpEq (.tuple #[.agg #[.int .i64 sL, .int .i64 sH], .int .i64 G]), mpEq (.agg #[.int .i64 sL, .int .i64 sH]), mpTop, mpNew (y8).heap.size, mpTop, mpTop] [(fun _ => True), (fun _ => True), (fun _ => True), (fun _ => True), (fun _ => True), (fun _ => True), (· = .tuple #[.agg #[.int .i64 sL, .int .i64 sH], .int .i64 G]), (fun _ => True), (· = .int .i64 G), (fun _ => True), (fun _ => True), (· = .int .i64 G)] (mpVar (y8).heap.size (sL) (sH)) 10 9 10 (by kernel_rfl) (by kernel_rfl) (by kernel_rfl) (by kernel_rfl) rfl (
      allOps_cons (rs_not (by kernel_rfl) (fun a' w' hb hs hd hp => rs_op fun K hK => by
    have e1 := (hs.get 3 (by kernel_rfl)).trans (show _ = Value.pointer (some ⟨w.heap.size, 0, none⟩) from rfl)
    have c0 := keep hb a0_8
    have c1 := keep hb a1_8
    clear hs hd hp
    unfold Oper.wp
    generalize a'.eval = ρ at e1 ⊢
    simp [go_sem, e1, c0, c1]
    exact hK _ _ (Below.refl _ _) rfl trivial)) <|
      allOps_cons (rs_not (by kernel_rfl) (fun a' w' hb hs hd hp => by
    exact rs_fn (φ := (mpCp na da ka).p) (ψ := (fun _ => True)) (vs := #[.agg #[.slice A na ca, .int .i64 da]]) rfl (enters_of Tryz.func14 (by kernel_rfl) rfl) (by simp [(show a'.eval (.tmp 154) = .agg #[.slice A na ca, .int .i64 da] from RDeps.get (hd (by kernel_rfl)) 0 154 (by kernel_rfl) (by kernel_rfl))]) ((copyT_any A na ca da ka w' (by omega) HA0.out (HA_8.out.bel hb)).mono (by rintro e w1 ⟨X, c1, rfl, hk, h1⟩; exact ⟨_, rfl, h1, ⟨X, c1, rfl, hk⟩, trivial⟩)))) <|
      allOps_cons (rs_not (by kernel_rfl) (fun a' w' hb hs hd hp => rs_op fun K hK => by
    have e1 := (hs.get 4 (by kernel_rfl)).trans (show _ = Value.pointer (some ⟨w.heap.size + 1, 0, none⟩) from rfl)
    have c0 := keep hb b0_8
    have c1 := keep hb b1_8
    clear hs hd hp
    unfold Oper.wp
    generalize a'.eval = ρ at e1 ⊢
    simp [go_sem, e1, c0, c1]
    exact hK _ _ (Below.refl _ _) rfl trivial)) <|
      allOps_cons (rs_not (by kernel_rfl) (fun a' w' hb hs hd hp => by
    exact rs_fn (φ := (mpCp nb db kb).p) (ψ := (fun _ => True)) (vs := #[.agg #[.slice B nb cb, .int .i64 db]]) rfl (enters_of Tryz.func14 (by kernel_rfl) rfl) (by simp [(show a'.eval (.tmp 156) = .agg #[.slice B nb cb, .int .i64 db] from RDeps.get (hd (by kernel_rfl)) 2 156 (by kernel_rfl) (by kernel_rfl))]) ((copyT_any B nb cb db kb w' (by omega) HB0.out (HB_8.out.bel hb)).mono (by rintro e w1 ⟨X, c1, rfl, hk, h1⟩; exact ⟨_, rfl, h1, ⟨X, c1, rfl, hk⟩, trivial⟩)))) <|
      allOps_cons (rs_not (by kernel_rfl) (fun a' w' hb hs hd hp => rs_op fun K hK => by
    have e1 := (hs.get 2 (by kernel_rfl)).trans (show _ = .int .i64 s from rfl)
    clear hs hd hp
    unfold Oper.wp
    generalize a'.eval = ρ at e1 ⊢
    simp [go_sem, e1]
    exact hK _ _ (Below.refl _ _) rfl trivial)) <|
      allOps_cons (rs_not (by kernel_rfl) (fun a' w' hb hs hd hp => by
    obtain ⟨X1, c1, e1, k1⟩ := (show (mpCp na da ka).p (a'.eval (.tmp 155)) w' from RDeps.get (hd (by kernel_rfl)) 1 155 (by kernel_rfl) (by kernel_rfl))
    obtain ⟨X2, c2, e2, k2⟩ := (show (mpCp nb db kb).p (a'.eval (.tmp 157)) w' from RDeps.get (hd (by kernel_rfl)) 3 157 (by kernel_rfl) (by kernel_rfl))
    exact rs_fn (φ := (mpEq (.tuple #[.agg #[.int .i64 sL, .int .i64 sH], .int .i64 G])).p) (ψ := (fun _ => True)) (vs := #[.agg #[.slice X1 na c1, .int .i64 da], .agg #[.slice X2 nb c2, .int .i64 db], .int .i64 s]) rfl (enters_of Tryz.func21 (by kernel_rfl) rfl) (by simp [e1, e2, (show a'.eval (.tmp 158) = .int .i64 s from RDeps.get (hd (by kernel_rfl)) 4 158 (by kernel_rfl) (by kernel_rfl))]) ((KSA.out w' X1 c1 X2 c2 k1 k2).mono (by rintro e w1 ⟨rfl, h1⟩; exact ⟨_, rfl, h1, rfl, trivial⟩)))) <|
      allOps_cons (rs_not (by kernel_rfl) (fun a' w' hb hs hd hp => rs_op fun K hK => by
    have e1 := (show a'.eval (.tmp 159) = .tuple #[.agg #[.int .i64 sL, .int .i64 sH], .int .i64 G] from RDeps.get (hd (by kernel_rfl)) 5 159 (by kernel_rfl) (by kernel_rfl))
    clear hs hd hp
    unfold Oper.wp
    generalize a'.eval = ρ at e1 ⊢
    simp [go_sem, e1]
    exact hK _ _ (Below.refl _ _) rfl rfl)) <|
      allOps_cons (rs_not (by kernel_rfl) (fun a' w' hb hs hd hp => rs_op fun K hK => by
    have e1 := (show a'.eval (.tmp 153) = .tuple #[.agg #[.int .i64 sL, .int .i64 sH], .int .i64 G] from RDeps.get (hd (by kernel_rfl)) 6 153 (by kernel_rfl) (by kernel_rfl))
    clear hs hd hp
    unfold Oper.wp
    generalize a'.eval = ρ at e1 ⊢
    simp [go_sem, e1]
    exact hK _ _ (Below.refl _ _) rfl trivial)) <|
      allOps_cons (rs_not (by kernel_rfl) (fun a' w' hb hs hd hp => rs_op fun K hK => by
    have e1 := (show a'.eval (.tmp 153) = .tuple #[.agg #[.int .i64 sL, .int .i64 sH], .int .i64 G] from hp.get 6 153 (by kernel_rfl) (by kernel_rfl))
    clear hs hd hp
    unfold Oper.wp
    generalize a'.eval = ρ at e1 ⊢
    simp [go_sem, e1]
    exact hK _ _ (Below.refl _ _) trivial rfl)) <|
      allOps_cons (rs_not (by kernel_rfl) (fun a' w' hb hs hd hp => rs_op fun K hK => by
    have hz := hb.size
    clear hs hd hp
    unfold Oper.wp
    generalize a'.eval = ρ
    simp [go_sem]
    exact hK _ _ ((Below.refl _ _).alloc (Nat.le_refl _) _) ⟨_, rfl, hz, by simp [go_sem], by simp [go_sem], by simp [go_sem], by simp [go_sem]⟩ trivial)) <|
      allOps_cons (rs_is (by kernel_rfl) (fun a' w' hb hs hd => rs_st rfl fun K hK => by
    obtain ⟨q, e1, z1, c0, c1, f0, f1⟩ := (show (mpNew (y8).heap.size).p (a'.eval (.tmp 10)) w' from hd.get 9 10 (by kernel_rfl) (by kernel_rfl))
    have e2 := (show a'.eval (.tmp 160) = .agg #[.int .i64 (sL), .int .i64 (sH)] from hd.get 7 160 (by kernel_rfl) (by kernel_rfl))
    have hz := lt_of c0
    clear hs hd
    unfold Oper.wp
    generalize a'.eval = ρ at e1 e2 hK ⊢
    simp [go_sem, e1, e2, c0, c1, f0, f1]
    exact hK _ (Below.setCell (Below.setCell hb z1 _) z1 _) ⟨q, e1, z1, by simp [go_sem, c0], by simp [go_sem, c1], by simp [go_sem, f0], by simp [go_sem, f1]⟩)) <|
      allOps_cons (rs_not (by kernel_rfl) (fun a' w' hb hs hd hp => rs_op fun K hK => by
    have e1 := (show a'.eval (.tmp 161) = .int .i64 G from hp.get 8 161 (by kernel_rfl) (by kernel_rfl))
    clear hs hd hp
    unfold Oper.wp
    generalize a'.eval = ρ at e1 ⊢
    simp [go_sem, e1]
    exact hK _ _ (Below.refl _ _) trivial rfl)) <| allOps_nil) (fun V8 y9 hb8 hall hv => ?_)
  have h8 : V8 11 = .int .i64 G := hall.get 11 rfl (by decide)
  obtain ⟨p, h7, _, p0_9, p1_9, _, _⟩ := hv
  clear hall
  simp only [mk4, maskPut, Nat.reduceAdd]
  rw [h7, h8]
  clear h7 h8
  have a0_9 := keep hb8 a0_8
  have a1_9 := keep hb8 a1_8
  have b0_9 := keep hb8 b0_8
  have b1_9 := keep hb8 b1_8
  have q0_9 := keep hb8 q0_8
  have q1_9 := keep hb8 q1_8
  have B_9 := Lib.hid (thenB B_8.out hb8)
  have HA_9 := Lib.hid (HA.out.bel B_9.out)
  have HB_9 := Lib.hid (HB.out.bel B_9.out)
  clear hb8 B_8 HA_8 HB_8 a0_8 a1_8 b0_8 b1_8 q0_8 q1_8
  by_cases hg : G = 0
  · subst hg
    obtain ⟨f1, f2, f3⟩ := f0 rfl
    go_upto_region 16 with (fail)
    have x3 : IntKind.i64.wrap (sL + 1) = sL + 1 := IntWalk.i64_in _ (by omega)
    refine wp_region_gd [mpEq (.pointer (some ⟨p, 0, none⟩)), mpEq (.int .i64 sL), mpEq (.agg #[.slice A na ca, .int .i64 da]), mpEq (.int .i64 F), mpEq (.int .i64 s), mpEq (.bool true), mpEq (.bool false), mpEq (.bool false), mpEq (.pointer (some ⟨p, 1, none⟩)), mpEq (.int .i64 sH), mpEq (.pointer (some ⟨p, 0, none⟩)), mpEq (.int .i64 sL), mpEq (.int .i64 s), mpEq (.bool true), mpEq (.bool false), mpEq (.bool false), mpEq (.bool false), mpEq (.agg #[.slice A na ca, .int .i64 da]), mpEq (.agg #[.slice B nb cb, .int .i64 db]), mpEq (.pointer (some ⟨p, 0, none⟩)), mpEq (.int .i64 sL), mpEq (.int .i64 s), mpEq (.bool true), mpEq (.bool false), mpEq (.bool false), mpEq (.bool false), mpEq (.pointer (some ⟨p, 0, none⟩)), mpEq (.int .i64 sL), mpEq (.int .i64 s), mpEq (.bool (decide (sL < s))), mpEq (.bool (decide (sL < s))), mpIf (sL < s) (.agg #[.slice A na ca, .int .i64 da]), mpIf (sL < s) (.agg #[.slice B nb cb, .int .i64 db]), mpIf (sL < s) (.pointer (some ⟨p, 0, none⟩)), mpIf (sL < s) (.int .i64 sL), mpIf (sL < s) (.int .i64 (sL + 1)), mpIf (sL < s) (.int .i64 s), mpIf (sL < s) (.bool false), mpEq (.bool false), mpEq (.bool false)] mk5 (by kernel_rfl) (by kernel_rfl) (by kernel_rfl) (
        allOps_cons (fun a' w' hb hs hd => Or.inl ⟨wanted_n rfl, by
      exact op1 (φ := (mpEq (.pointer (some ⟨p, 0, none⟩))).p) ((hs.get 10 (by kernel_rfl)).trans (show _ = Value.pointer (some ⟨p, 0, none⟩) from rfl)) (fun ρ e c => by simp [go_sem, e]) rfl⟩) <|
        allOps_cons (fun a' w' hb hs hd => Or.inl ⟨wanted_n rfl, by
      exact op1 (φ := (mpEq (.int .i64 sL)).p) ((show a'.eval (.tmp 164) = .pointer (some ⟨p, 0, none⟩) from hd.get 0 164 (by kernel_rfl) (by kernel_rfl))) (fun ρ e c => by simp [go_sem, e, keep hb p0_9]) rfl⟩) <|
        allOps_cons (fun a' w' hb hs hd => Or.inl ⟨wanted_n rfl, by
      exact op1 (φ := (mpEq (.agg #[.slice A na ca, .int .i64 da])).p) ((hs.get 3 (by kernel_rfl)).trans (show _ = Value.pointer (some ⟨w.heap.size, 0, none⟩) from rfl)) (fun ρ e c => by simp [go_sem, e, keep hb a0_9, keep hb a1_9]) rfl⟩) <|
        allOps_cons (fun a' w' hb hs hd => Or.inl ⟨wanted_n rfl, by
      have e0 := (show a'.eval (.tmp 166) = .agg #[.slice A na ca, .int .i64 da] from hd.get 2 166 (by kernel_rfl) (by kernel_rfl))
      exact rg_fn (φ := (mpEq (.int .i64 F)).p) (vs := #[.agg #[.slice A na ca, .int .i64 da]]) rfl (enters_of Tryz.func30 (by kernel_rfl) rfl) (by simp [e0]) ((KFT.out w' (HA_9.out.bel hb) (HB_9.out.bel hb)).mono (by rintro e w1 ⟨rfl, h1⟩; exact ⟨_, rfl, h1, rfl⟩))⟩) <|
        allOps_cons (fun a' w' hb hs hd => Or.inl ⟨wanted_n rfl, by
      exact op1 (φ := (mpEq (.int .i64 s)).p) ((hs.get 2 (by kernel_rfl)).trans (show _ = Value.int .i64 s from rfl)) (fun ρ e c => by simp [go_sem, e]) rfl⟩) <|
        allOps_cons (fun a' w' hb hs hd => Or.inl ⟨wanted_n rfl, by
      have e0 := (show a'.eval (.tmp 165) = .int .i64 sL from hd.get 1 165 (by kernel_rfl) (by kernel_rfl))
      have e1 := (show a'.eval (.tmp 167) = .int .i64 F from hd.get 3 167 (by kernel_rfl) (by kernel_rfl))
      have e2 := (show a'.eval (.tmp 168) = .int .i64 s from hd.get 4 168 (by kernel_rfl) (by kernel_rfl))
      exact rg_fn (φ := (mpEq (.bool true)).p) (vs := #[.int .i64 sL, .int .i64 F, .int .i64 s]) rfl (enters_of Tryz.func26 (by kernel_rfl) rfl) (by simp [e0, e1, e2]) (((show Calls Tryz.prog 26 #[.int .i64 sL, .int .i64 F, .int .i64 s] w' fun e w1 => e = .returned (.bool true) ∧ Below w'.heap.size w' w1 from (bwithin_any _ _ _ w').mono (by rintro e w1 ⟨rfl, rfl⟩; exact ⟨ret_bool (wi_t.2 (by omega)), Below.refl _ _⟩))).mono (by rintro e w1 ⟨rfl, h1⟩; exact ⟨_, rfl, h1, rfl⟩))⟩) <|
        allOps_cons (fun a' w' hb hs hd => Or.inl ⟨wanted_n rfl, by
      exact op1 (φ := (mpEq (.bool false)).p) ((show a'.eval (.tmp 169) = .bool true from hd.get 5 169 (by kernel_rfl) (by kernel_rfl))) (fun ρ e c => by simp [go_sem, e]) rfl⟩) <|
        allOps_cons (fun a' w' hb hs hd => Or.inl ⟨wanted_n rfl, by
      exact op1 (φ := (mpEq (.bool false)).p) ((show a'.eval (.tmp 170) = .bool false from hd.get 6 170 (by kernel_rfl) (by kernel_rfl))) (fun ρ e c => by simp [go_sem, e]) rfl⟩) <|
        allOps_cons (fun a' w' hb hs hd => Or.inl ⟨wanted_t (j := 7) (d := 171) rfl (by kernel_rfl) (show a'.eval (.tmp 171) = .bool false from hd.get 7 171 (by kernel_rfl) (by kernel_rfl)), by
      exact op1 (φ := (mpEq (.pointer (some ⟨p, 1, none⟩))).p) ((hs.get 10 (by kernel_rfl)).trans (show _ = Value.pointer (some ⟨p, 0, none⟩) from rfl)) (fun ρ e c => by simp [go_sem, e]) rfl⟩) <|
        allOps_cons (fun a' w' hb hs hd => Or.inl ⟨wanted_t (j := 7) (d := 171) rfl (by kernel_rfl) (show a'.eval (.tmp 171) = .bool false from hd.get 7 171 (by kernel_rfl) (by kernel_rfl)), by
      exact op1 (φ := (mpEq (.int .i64 sH)).p) ((show a'.eval (.tmp 172) = .pointer (some ⟨p, 1, none⟩) from hd.get 8 172 (by kernel_rfl) (by kernel_rfl))) (fun ρ e c => by simp [go_sem, e, keep hb p1_9]) rfl⟩) <|
        allOps_cons (fun a' w' hb hs hd => Or.inl ⟨wanted_t (j := 7) (d := 171) rfl (by kernel_rfl) (show a'.eval (.tmp 171) = .bool false from hd.get 7 171 (by kernel_rfl) (by kernel_rfl)), by
      exact op1 (φ := (mpEq (.pointer (some ⟨p, 0, none⟩))).p) ((hs.get 10 (by kernel_rfl)).trans (show _ = Value.pointer (some ⟨p, 0, none⟩) from rfl)) (fun ρ e c => by simp [go_sem, e]) rfl⟩) <|
        allOps_cons (fun a' w' hb hs hd => Or.inl ⟨wanted_t (j := 7) (d := 171) rfl (by kernel_rfl) (show a'.eval (.tmp 171) = .bool false from hd.get 7 171 (by kernel_rfl) (by kernel_rfl)), by
      exact op1 (φ := (mpEq (.int .i64 sL)).p) ((show a'.eval (.tmp 174) = .pointer (some ⟨p, 0, none⟩) from hd.get 10 174 (by kernel_rfl) (by kernel_rfl))) (fun ρ e c => by simp [go_sem, e, keep hb p0_9]) rfl⟩) <|
        allOps_cons (fun a' w' hb hs hd => Or.inl ⟨wanted_t (j := 7) (d := 171) rfl (by kernel_rfl) (show a'.eval (.tmp 171) = .bool false from hd.get 7 171 (by kernel_rfl) (by kernel_rfl)), by
      exact op1 (φ := (mpEq (.int .i64 s)).p) ((hs.get 2 (by kernel_rfl)).trans (show _ = Value.int .i64 s from rfl)) (fun ρ e c => by simp [go_sem, e]) rfl⟩) <|
        allOps_cons (fun a' w' hb hs hd => Or.inl ⟨wanted_t (j := 7) (d := 171) rfl (by kernel_rfl) (show a'.eval (.tmp 171) = .bool false from hd.get 7 171 (by kernel_rfl) (by kernel_rfl)), by
      have e0 := (show a'.eval (.tmp 173) = .int .i64 sH from hd.get 9 173 (by kernel_rfl) (by kernel_rfl))
      have e1 := (show a'.eval (.tmp 175) = .int .i64 sL from hd.get 11 175 (by kernel_rfl) (by kernel_rfl))
      have e2 := (show a'.eval (.tmp 176) = .int .i64 s from hd.get 12 176 (by kernel_rfl) (by kernel_rfl))
      exact rg_fn (φ := (mpEq (.bool true)).p) (vs := #[.int .i64 sH, .int .i64 sL, .int .i64 s]) rfl (enters_of Tryz.func26 (by kernel_rfl) rfl) (by simp [e0, e1, e2]) (((show Calls Tryz.prog 26 #[.int .i64 sH, .int .i64 sL, .int .i64 s] w' fun e w1 => e = .returned (.bool true) ∧ Below w'.heap.size w' w1 from (bwithin_any _ _ _ w').mono (by rintro e w1 ⟨rfl, rfl⟩; exact ⟨ret_bool (wi_t.2 (by omega)), Below.refl _ _⟩))).mono (by rintro e w1 ⟨rfl, h1⟩; exact ⟨_, rfl, h1, rfl⟩))⟩) <|
        allOps_cons (fun a' w' hb hs hd => Or.inl ⟨wanted_t (j := 7) (d := 171) rfl (by kernel_rfl) (show a'.eval (.tmp 171) = .bool false from hd.get 7 171 (by kernel_rfl) (by kernel_rfl)), by
      exact op1 (φ := (mpEq (.bool false)).p) ((show a'.eval (.tmp 177) = .bool true from hd.get 13 177 (by kernel_rfl) (by kernel_rfl))) (fun ρ e c => by simp [go_sem, e]) rfl⟩) <|
        allOps_cons (fun a' w' hb hs hd => Or.inl ⟨wanted_n rfl, by
      exact op2 (φ := (mpEq (.bool false)).p) ((show a'.eval (.tmp 171) = .bool false from hd.get 7 171 (by kernel_rfl) (by kernel_rfl))) ((show a'.eval (.tmp 178) = .bool false from hd.get 14 178 (by kernel_rfl) (by kernel_rfl))) (fun ρ e e' c => by simp [go_sem, e, e', c]) rfl⟩) <|
        allOps_cons (fun a' w' hb hs hd => Or.inl ⟨wanted_n rfl, by
      exact op1 (φ := (mpEq (.bool false)).p) ((show a'.eval (.tmp 179) = .bool false from hd.get 15 179 (by kernel_rfl) (by kernel_rfl))) (fun ρ e c => by simp [go_sem, e]) rfl⟩) <|
        allOps_cons (fun a' w' hb hs hd => Or.inl ⟨wanted_t (j := 16) (d := 180) rfl (by kernel_rfl) (show a'.eval (.tmp 180) = .bool false from hd.get 16 180 (by kernel_rfl) (by kernel_rfl)), by
      exact op1 (φ := (mpEq (.agg #[.slice A na ca, .int .i64 da])).p) ((hs.get 3 (by kernel_rfl)).trans (show _ = Value.pointer (some ⟨w.heap.size, 0, none⟩) from rfl)) (fun ρ e c => by simp [go_sem, e, keep hb a0_9, keep hb a1_9]) rfl⟩) <|
        allOps_cons (fun a' w' hb hs hd => Or.inl ⟨wanted_t (j := 16) (d := 180) rfl (by kernel_rfl) (show a'.eval (.tmp 180) = .bool false from hd.get 16 180 (by kernel_rfl) (by kernel_rfl)), by
      exact op1 (φ := (mpEq (.agg #[.slice B nb cb, .int .i64 db])).p) ((hs.get 4 (by kernel_rfl)).trans (show _ = Value.pointer (some ⟨w.heap.size + 1, 0, none⟩) from rfl)) (fun ρ e c => by simp [go_sem, e, keep hb b0_9, keep hb b1_9]) rfl⟩) <|
        allOps_cons (fun a' w' hb hs hd => Or.inl ⟨wanted_t (j := 16) (d := 180) rfl (by kernel_rfl) (show a'.eval (.tmp 180) = .bool false from hd.get 16 180 (by kernel_rfl) (by kernel_rfl)), by
      exact op1 (φ := (mpEq (.pointer (some ⟨p, 0, none⟩))).p) ((hs.get 10 (by kernel_rfl)).trans (show _ = Value.pointer (some ⟨p, 0, none⟩) from rfl)) (fun ρ e c => by simp [go_sem, e]) rfl⟩) <|
        allOps_cons (fun a' w' hb hs hd => Or.inl ⟨wanted_t (j := 16) (d := 180) rfl (by kernel_rfl) (show a'.eval (.tmp 180) = .bool false from hd.get 16 180 (by kernel_rfl) (by kernel_rfl)), by
      exact op1 (φ := (mpEq (.int .i64 sL)).p) ((show a'.eval (.tmp 183) = .pointer (some ⟨p, 0, none⟩) from hd.get 19 183 (by kernel_rfl) (by kernel_rfl))) (fun ρ e c => by simp [go_sem, e, keep hb p0_9]) rfl⟩) <|
        allOps_cons (fun a' w' hb hs hd => Or.inl ⟨wanted_t (j := 16) (d := 180) rfl (by kernel_rfl) (show a'.eval (.tmp 180) = .bool false from hd.get 16 180 (by kernel_rfl) (by kernel_rfl)), by
      exact op1 (φ := (mpEq (.int .i64 s)).p) ((hs.get 2 (by kernel_rfl)).trans (show _ = Value.int .i64 s from rfl)) (fun ρ e c => by simp [go_sem, e]) rfl⟩) <|
        allOps_cons (fun a' w' hb hs hd => Or.inl ⟨wanted_t (j := 16) (d := 180) rfl (by kernel_rfl) (show a'.eval (.tmp 180) = .bool false from hd.get 16 180 (by kernel_rfl) (by kernel_rfl)), by
      have e0 := (show a'.eval (.tmp 181) = .agg #[.slice A na ca, .int .i64 da] from hd.get 17 181 (by kernel_rfl) (by kernel_rfl))
      have e1 := (show a'.eval (.tmp 182) = .agg #[.slice B nb cb, .int .i64 db] from hd.get 18 182 (by kernel_rfl) (by kernel_rfl))
      have e2 := (show a'.eval (.tmp 184) = .int .i64 sL from hd.get 20 184 (by kernel_rfl) (by kernel_rfl))
      have e3 := (show a'.eval (.tmp 185) = .int .i64 s from hd.get 21 185 (by kernel_rfl) (by kernel_rfl))
      exact rg_fn (φ := (mpEq (.bool true)).p) (vs := #[.agg #[.slice A na ca, .int .i64 da], .agg #[.slice B nb cb, .int .i64 db], .int .i64 sL, .int .i64 s]) rfl (enters_of Tryz.func28 (by kernel_rfl) rfl) (by simp [e0, e1, e2, e3]) ((KS1.out rfl w' (HA_9.out.bel hb) (HB_9.out.bel hb)).mono (by rintro e w1 ⟨rfl, h1⟩; exact ⟨_, rfl, h1, rfl⟩))⟩) <|
        allOps_cons (fun a' w' hb hs hd => Or.inl ⟨wanted_t (j := 16) (d := 180) rfl (by kernel_rfl) (show a'.eval (.tmp 180) = .bool false from hd.get 16 180 (by kernel_rfl) (by kernel_rfl)), by
      exact op1 (φ := (mpEq (.bool false)).p) ((show a'.eval (.tmp 186) = .bool true from hd.get 22 186 (by kernel_rfl) (by kernel_rfl))) (fun ρ e c => by simp [go_sem, e]) rfl⟩) <|
        allOps_cons (fun a' w' hb hs hd => Or.inl ⟨wanted_n rfl, by
      exact op2 (φ := (mpEq (.bool false)).p) ((show a'.eval (.tmp 180) = .bool false from hd.get 16 180 (by kernel_rfl) (by kernel_rfl))) ((show a'.eval (.tmp 187) = .bool false from hd.get 23 187 (by kernel_rfl) (by kernel_rfl))) (fun ρ e e' c => by simp [go_sem, e, e', c]) rfl⟩) <|
        allOps_cons (fun a' w' hb hs hd => Or.inl ⟨wanted_n rfl, by
      exact op1 (φ := (mpEq (.bool false)).p) ((show a'.eval (.tmp 188) = .bool false from hd.get 24 188 (by kernel_rfl) (by kernel_rfl))) (fun ρ e c => by simp [go_sem, e]) rfl⟩) <|
        allOps_cons (fun a' w' hb hs hd => Or.inl ⟨wanted_t (j := 25) (d := 189) rfl (by kernel_rfl) (show a'.eval (.tmp 189) = .bool false from hd.get 25 189 (by kernel_rfl) (by kernel_rfl)), by
      exact op1 (φ := (mpEq (.pointer (some ⟨p, 0, none⟩))).p) ((hs.get 10 (by kernel_rfl)).trans (show _ = Value.pointer (some ⟨p, 0, none⟩) from rfl)) (fun ρ e c => by simp [go_sem, e]) rfl⟩) <|
        allOps_cons (fun a' w' hb hs hd => Or.inl ⟨wanted_t (j := 25) (d := 189) rfl (by kernel_rfl) (show a'.eval (.tmp 189) = .bool false from hd.get 25 189 (by kernel_rfl) (by kernel_rfl)), by
      exact op1 (φ := (mpEq (.int .i64 sL)).p) ((show a'.eval (.tmp 190) = .pointer (some ⟨p, 0, none⟩) from hd.get 26 190 (by kernel_rfl) (by kernel_rfl))) (fun ρ e c => by simp [go_sem, e, keep hb p0_9]) rfl⟩) <|
        allOps_cons (fun a' w' hb hs hd => Or.inl ⟨wanted_t (j := 25) (d := 189) rfl (by kernel_rfl) (show a'.eval (.tmp 189) = .bool false from hd.get 25 189 (by kernel_rfl) (by kernel_rfl)), by
      exact op1 (φ := (mpEq (.int .i64 s)).p) ((hs.get 2 (by kernel_rfl)).trans (show _ = Value.int .i64 s from rfl)) (fun ρ e c => by simp [go_sem, e]) rfl⟩) <|
        allOps_cons (fun a' w' hb hs hd => Or.inl ⟨wanted_t (j := 25) (d := 189) rfl (by kernel_rfl) (show a'.eval (.tmp 189) = .bool false from hd.get 25 189 (by kernel_rfl) (by kernel_rfl)), by
      exact op2 (φ := (mpEq (.bool (decide (sL < s)))).p) ((show a'.eval (.tmp 191) = .int .i64 sL from hd.get 27 191 (by kernel_rfl) (by kernel_rfl))) ((show a'.eval (.tmp 192) = .int .i64 s from hd.get 28 192 (by kernel_rfl) (by kernel_rfl))) (fun ρ e e' c => by simp [go_sem, e, e']) rfl⟩) <|
        allOps_cons (fun a' w' hb hs hd => Or.inl ⟨wanted_t (j := 25) (d := 189) rfl (by kernel_rfl) (show a'.eval (.tmp 189) = .bool false from hd.get 25 189 (by kernel_rfl) (by kernel_rfl)), by
      exact op1 (φ := (mpEq (.bool (decide (sL < s)))).p) ((show a'.eval (.tmp 193) = .bool (decide (sL < s)) from hd.get 29 193 (by kernel_rfl) (by kernel_rfl))) (fun ρ e c => by simp [go_sem, e]) rfl⟩) <|
        allOps_cons (fun a' w' hb hs hd => by
      have eg := (show a'.eval (.tmp 194) = .bool (decide (sL < s)) from hd.get 30 194 (by kernel_rfl) (by kernel_rfl))
      by_cases hq : sL < s
      · refine Or.inl ⟨wanted_t (j := 30) (d := 194) rfl (by kernel_rfl) (eg.trans (show _ = Value.bool true by first | (simp [hq]; done) | (simp; omega))), ?_⟩
        clear eg
        exact op1 (φ := (mpIf (sL < s) (.agg #[.slice A na ca, .int .i64 da])).p) ((hs.get 3 (by kernel_rfl)).trans (show _ = Value.pointer (some ⟨w.heap.size, 0, none⟩) from rfl)) (fun ρ e c => by simp [go_sem, e, keep hb a0_9, keep hb a1_9]) (if_pos hq).symm
      · refine Or.inr ⟨wanted_f (j := 30) (d := 194) (b' := false) rfl (by kernel_rfl) (eg.trans (by first | (simp [hq]; done) | (simp; omega))) rfl, ?_⟩
        show undef = if sL < s then .agg #[.slice A na ca, .int .i64 da] else undef
        rw [if_neg hq]) <|
        allOps_cons (fun a' w' hb hs hd => by
      have eg := (show a'.eval (.tmp 194) = .bool (decide (sL < s)) from hd.get 30 194 (by kernel_rfl) (by kernel_rfl))
      by_cases hq : sL < s
      · refine Or.inl ⟨wanted_t (j := 30) (d := 194) rfl (by kernel_rfl) (eg.trans (show _ = Value.bool true by first | (simp [hq]; done) | (simp; omega))), ?_⟩
        clear eg
        exact op1 (φ := (mpIf (sL < s) (.agg #[.slice B nb cb, .int .i64 db])).p) ((hs.get 4 (by kernel_rfl)).trans (show _ = Value.pointer (some ⟨w.heap.size + 1, 0, none⟩) from rfl)) (fun ρ e c => by simp [go_sem, e, keep hb b0_9, keep hb b1_9]) (if_pos hq).symm
      · refine Or.inr ⟨wanted_f (j := 30) (d := 194) (b' := false) rfl (by kernel_rfl) (eg.trans (by first | (simp [hq]; done) | (simp; omega))) rfl, ?_⟩
        show undef = if sL < s then .agg #[.slice B nb cb, .int .i64 db] else undef
        rw [if_neg hq]) <|
        allOps_cons (fun a' w' hb hs hd => by
      have eg := (show a'.eval (.tmp 194) = .bool (decide (sL < s)) from hd.get 30 194 (by kernel_rfl) (by kernel_rfl))
      by_cases hq : sL < s
      · refine Or.inl ⟨wanted_t (j := 30) (d := 194) rfl (by kernel_rfl) (eg.trans (show _ = Value.bool true by first | (simp [hq]; done) | (simp; omega))), ?_⟩
        clear eg
        exact op1 (φ := (mpIf (sL < s) (.pointer (some ⟨p, 0, none⟩))).p) ((hs.get 10 (by kernel_rfl)).trans (show _ = Value.pointer (some ⟨p, 0, none⟩) from rfl)) (fun ρ e c => by simp [go_sem, e]) (if_pos hq).symm
      · refine Or.inr ⟨wanted_f (j := 30) (d := 194) (b' := false) rfl (by kernel_rfl) (eg.trans (by first | (simp [hq]; done) | (simp; omega))) rfl, ?_⟩
        show undef = if sL < s then .pointer (some ⟨p, 0, none⟩) else undef
        rw [if_neg hq]) <|
        allOps_cons (fun a' w' hb hs hd => by
      have eg := (show a'.eval (.tmp 194) = .bool (decide (sL < s)) from hd.get 30 194 (by kernel_rfl) (by kernel_rfl))
      by_cases hq : sL < s
      · refine Or.inl ⟨wanted_t (j := 30) (d := 194) rfl (by kernel_rfl) (eg.trans (show _ = Value.bool true by first | (simp [hq]; done) | (simp; omega))), ?_⟩
        clear eg
        exact op1 (φ := (mpIf (sL < s) (.int .i64 sL)).p) (((show a'.eval (.tmp 197) = (if sL < s then .pointer (some ⟨p, 0, none⟩) else undef) from hd.get 33 197 (by kernel_rfl) (by kernel_rfl))).trans (if_pos hq)) (fun ρ e c => by simp [go_sem, e, keep hb p0_9]) (if_pos hq).symm
      · refine Or.inr ⟨wanted_f (j := 30) (d := 194) (b' := false) rfl (by kernel_rfl) (eg.trans (by first | (simp [hq]; done) | (simp; omega))) rfl, ?_⟩
        show undef = if sL < s then .int .i64 sL else undef
        rw [if_neg hq]) <|
        allOps_cons (fun a' w' hb hs hd => by
      have eg := (show a'.eval (.tmp 194) = .bool (decide (sL < s)) from hd.get 30 194 (by kernel_rfl) (by kernel_rfl))
      by_cases hq : sL < s
      · refine Or.inl ⟨wanted_t (j := 30) (d := 194) rfl (by kernel_rfl) (eg.trans (show _ = Value.bool true by first | (simp [hq]; done) | (simp; omega))), ?_⟩
        clear eg
        exact op1 (φ := (mpIf (sL < s) (.int .i64 (sL + 1))).p) (((show a'.eval (.tmp 198) = (if sL < s then .int .i64 sL else undef) from hd.get 34 198 (by kernel_rfl) (by kernel_rfl))).trans (if_pos hq)) (fun ρ e c => by simp [go_sem, e, c, x3]) (if_pos hq).symm
      · refine Or.inr ⟨wanted_f (j := 30) (d := 194) (b' := false) rfl (by kernel_rfl) (eg.trans (by first | (simp [hq]; done) | (simp; omega))) rfl, ?_⟩
        show undef = if sL < s then .int .i64 (sL + 1) else undef
        rw [if_neg hq]) <|
        allOps_cons (fun a' w' hb hs hd => by
      have eg := (show a'.eval (.tmp 194) = .bool (decide (sL < s)) from hd.get 30 194 (by kernel_rfl) (by kernel_rfl))
      by_cases hq : sL < s
      · refine Or.inl ⟨wanted_t (j := 30) (d := 194) rfl (by kernel_rfl) (eg.trans (show _ = Value.bool true by first | (simp [hq]; done) | (simp; omega))), ?_⟩
        clear eg
        exact op1 (φ := (mpIf (sL < s) (.int .i64 s)).p) ((hs.get 2 (by kernel_rfl)).trans (show _ = Value.int .i64 s from rfl)) (fun ρ e c => by simp [go_sem, e]) (if_pos hq).symm
      · refine Or.inr ⟨wanted_f (j := 30) (d := 194) (b' := false) rfl (by kernel_rfl) (eg.trans (by first | (simp [hq]; done) | (simp; omega))) rfl, ?_⟩
        show undef = if sL < s then .int .i64 s else undef
        rw [if_neg hq]) <|
        allOps_cons (fun a' w' hb hs hd => by
      have eg := (show a'.eval (.tmp 194) = .bool (decide (sL < s)) from hd.get 30 194 (by kernel_rfl) (by kernel_rfl))
      by_cases hq : sL < s
      · refine Or.inl ⟨wanted_t (j := 30) (d := 194) rfl (by kernel_rfl) (eg.trans (show _ = Value.bool true by first | (simp [hq]; done) | (simp; omega))), ?_⟩
        clear eg
        have e0 := ((show a'.eval (.tmp 195) = (if sL < s then .agg #[.slice A na ca, .int .i64 da] else undef) from hd.get 31 195 (by kernel_rfl) (by kernel_rfl))).trans (if_pos hq)
        have e1 := ((show a'.eval (.tmp 196) = (if sL < s then .agg #[.slice B nb cb, .int .i64 db] else undef) from hd.get 32 196 (by kernel_rfl) (by kernel_rfl))).trans (if_pos hq)
        have e2 := ((show a'.eval (.tmp 199) = (if sL < s then .int .i64 (sL + 1) else undef) from hd.get 35 199 (by kernel_rfl) (by kernel_rfl))).trans (if_pos hq)
        have e3 := ((show a'.eval (.tmp 200) = (if sL < s then .int .i64 s else undef) from hd.get 36 200 (by kernel_rfl) (by kernel_rfl))).trans (if_pos hq)
        exact rg_fn (φ := (mpIf (sL < s) (.bool false)).p) (vs := #[.agg #[.slice A na ca, .int .i64 da], .agg #[.slice B nb cb, .int .i64 db], .int .i64 (sL + 1), .int .i64 s]) rfl (enters_of Tryz.func28 (by kernel_rfl) rfl) (by simp [e0, e1, e2, e3]) ((KS2.out rfl hq w' (HA_9.out.bel hb) (HB_9.out.bel hb)).mono (by rintro e w1 ⟨rfl, h1⟩; exact ⟨_, rfl, h1, (if_pos hq).symm⟩))
      · refine Or.inr ⟨wanted_f (j := 30) (d := 194) (b' := false) rfl (by kernel_rfl) (eg.trans (by first | (simp [hq]; done) | (simp; omega))) rfl, ?_⟩
        show undef = if sL < s then .bool false else undef
        rw [if_neg hq]) <|
        allOps_cons (fun a' w' hb hs hd => Or.inl ⟨wanted_t (j := 25) (d := 189) rfl (by kernel_rfl) (show a'.eval (.tmp 189) = .bool false from hd.get 25 189 (by kernel_rfl) (by kernel_rfl)), by
      exact op2 (φ := (mpEq (.bool false)).p) (show a'.eval (.tmp 194) = .bool (decide (sL < s)) from hd.get 30 194 (by kernel_rfl) (by kernel_rfl)) (show a'.eval (.tmp 201) = (if sL < s then .bool false else undef) from hd.get 37 201 (by kernel_rfl) (by kernel_rfl)) (fun ρ e e' c => by by_cases hq : sL < s <;> simp [hq] at e' <;> simp [go_sem, e, e', c, hq]) rfl⟩) <|
        allOps_cons (fun a' w' hb hs hd => Or.inl ⟨wanted_n rfl, by
      exact op2 (φ := (mpEq (.bool false)).p) ((show a'.eval (.tmp 189) = .bool false from hd.get 25 189 (by kernel_rfl) (by kernel_rfl))) ((show a'.eval (.tmp 202) = .bool false from hd.get 38 202 (by kernel_rfl) (by kernel_rfl))) (fun ρ e e' c => by simp [go_sem, e, e', c]) rfl⟩) <| allOps_nil) (fun V9 y10 hb9 hall => ?_)
    have h8 : V9 203 = .bool false := hall.get 39 rfl
    clear hall
    simp only [mk5, maskPut, Nat.reduceAdd]
    rw [h8]
    clear h8
    have a0_10 := keep hb9 a0_9
    have a1_10 := keep hb9 a1_9
    have b0_10 := keep hb9 b0_9
    have b1_10 := keep hb9 b1_9
    have q0_10 := keep hb9 q0_9
    have q1_10 := keep hb9 q1_9
    have p0_10 := keep hb9 p0_9
    have p1_10 := keep hb9 p1_9
    have B_10 := Lib.hid (thenB B_9.out hb9)
    have HA_10 := Lib.hid (HA.out.bel B_10.out)
    have HB_10 := Lib.hid (HB.out.bel B_10.out)
    clear hb9 B_9 HA_9 HB_9 a0_9 a1_9 b0_9 b1_9 q0_9 q1_9 p0_9 p1_9
    clear x3
    go_upto_region 18 with (fail)
    refine wp_region_gd [mpEq (.agg #[.slice A na ca, .int .i64 da]), mpEq (.agg #[.slice B nb cb, .int .i64 db]), mpEq (.pointer (some ⟨p, 0, none⟩)), mpEq (.int .i64 sL), mpEq (.int .i64 Z), mpEq (.bool (Z == 0))] mk6 (by kernel_rfl) (by kernel_rfl) (by kernel_rfl) (
        allOps_cons (fun a' w' hb hs hd => Or.inl ⟨wanted_n rfl, by
      exact op1 (φ := (mpEq (.agg #[.slice A na ca, .int .i64 da])).p) ((hs.get 3 (by kernel_rfl)).trans (show _ = Value.pointer (some ⟨w.heap.size, 0, none⟩) from rfl)) (fun ρ e c => by simp [go_sem, e, keep hb a0_10, keep hb a1_10]) rfl⟩) <|
        allOps_cons (fun a' w' hb hs hd => Or.inl ⟨wanted_n rfl, by
      exact op1 (φ := (mpEq (.agg #[.slice B nb cb, .int .i64 db])).p) ((hs.get 4 (by kernel_rfl)).trans (show _ = Value.pointer (some ⟨w.heap.size + 1, 0, none⟩) from rfl)) (fun ρ e c => by simp [go_sem, e, keep hb b0_10, keep hb b1_10]) rfl⟩) <|
        allOps_cons (fun a' w' hb hs hd => Or.inl ⟨wanted_n rfl, by
      exact op1 (φ := (mpEq (.pointer (some ⟨p, 0, none⟩))).p) ((hs.get 10 (by kernel_rfl)).trans (show _ = Value.pointer (some ⟨p, 0, none⟩) from rfl)) (fun ρ e c => by simp [go_sem, e]) rfl⟩) <|
        allOps_cons (fun a' w' hb hs hd => Or.inl ⟨wanted_n rfl, by
      exact op1 (φ := (mpEq (.int .i64 sL)).p) ((show a'.eval (.tmp 206) = .pointer (some ⟨p, 0, none⟩) from hd.get 2 206 (by kernel_rfl) (by kernel_rfl))) (fun ρ e c => by simp [go_sem, e, keep hb p0_10]) rfl⟩) <|
        allOps_cons (fun a' w' hb hs hd => Or.inl ⟨wanted_n rfl, by
      have e0 := (show a'.eval (.tmp 204) = .agg #[.slice A na ca, .int .i64 da] from hd.get 0 204 (by kernel_rfl) (by kernel_rfl))
      have e1 := (show a'.eval (.tmp 205) = .agg #[.slice B nb cb, .int .i64 db] from hd.get 1 205 (by kernel_rfl) (by kernel_rfl))
      have e2 := (show a'.eval (.tmp 207) = .int .i64 sL from hd.get 3 207 (by kernel_rfl) (by kernel_rfl))
      exact rg_fn (φ := (mpEq (.int .i64 Z)).p) (vs := #[.agg #[.slice A na ca, .int .i64 da], .agg #[.slice B nb cb, .int .i64 db], .int .i64 sL]) rfl (enters_of Tryz.func17 (by kernel_rfl) rfl) (by simp [e0, e1, e2]) ((KTS.out rfl w' (HA_10.out.bel hb) (HB_10.out.bel hb)).mono (by rintro e w1 ⟨rfl, h1⟩; exact ⟨_, rfl, h1, rfl⟩))⟩) <|
        allOps_cons (fun a' w' hb hs hd => Or.inl ⟨wanted_n rfl, by
      exact op1 (φ := (mpEq (.bool (Z == 0))).p) ((show a'.eval (.tmp 208) = .int .i64 Z from hd.get 4 208 (by kernel_rfl) (by kernel_rfl))) (fun ρ e c => by simp [go_sem, e, c]) rfl⟩) <| allOps_nil) (fun V10 y11 hb10 hall => ?_)
    have h8 : V10 209 = .bool (Z == 0) := hall.get 5 rfl
    clear hall
    simp only [mk6, maskPut, Nat.reduceAdd]
    rw [h8]
    clear h8
    have a0_11 := keep hb10 a0_10
    have a1_11 := keep hb10 a1_10
    have b0_11 := keep hb10 b0_10
    have b1_11 := keep hb10 b1_10
    have q0_11 := keep hb10 q0_10
    have q1_11 := keep hb10 q1_10
    have p0_11 := keep hb10 p0_10
    have p1_11 := keep hb10 p1_10
    have B_11 := Lib.hid (thenB B_10.out hb10)
    have HA_11 := Lib.hid (HA.out.bel B_11.out)
    have HB_11 := Lib.hid (HB.out.bel B_11.out)
    clear hb10 B_10 HA_10 HB_10 a0_10 a1_10 b0_10 b1_10 q0_10 q1_10 p0_10 p1_10
    by_cases hz : Z = 0
    · subst hz
      go_upto_region 19 with (fail)
      refine wp_region_st mk7 (by kernel_rfl) [mpEq (.agg #[.slice A na ca, .int .i64 da]), mpCp na da ka, mpEq (.agg #[.slice B nb cb, .int .i64 db]), mpCp nb db kb, mpEq (.pointer (some ⟨p, 0, none⟩)), mpEq (.int .i64 sL), mpEq (.tuple #[.agg #[.int .i64 bL, .int .i64 bH], .int .i64 0]), mpEq (.tuple #[.agg #[.int .i64 bL, .int .i64 bH], .int .i64 0]), mpEq (.agg #[.int .i64 bL, .int .i64 bH]), mpTop, mpNew (y11).heap.size, mpTop, mpTop] [(fun _ => True), (fun _ => True), (fun _ => True), (fun _ => True), (fun _ => True), (fun _ => True), (fun _ => True), (· = .tuple #[.agg #[.int .i64 bL, .int .i64 bH], .int .i64 0]), (fun _ => True), (· = .int .i64 0), (fun _ => True), (fun _ => True), (· = .int .i64 0)] (mpVar (y11).heap.size (bL) (bH)) 11 10 12 (by kernel_rfl) (by kernel_rfl) (by kernel_rfl) (by kernel_rfl) rfl (
          allOps_cons (rs_not (by kernel_rfl) (fun a' w' hb hs hd hp => rs_op fun K hK => by
        have e1 := (hs.get 3 (by kernel_rfl)).trans (show _ = Value.pointer (some ⟨w.heap.size, 0, none⟩) from rfl)
        have c0 := keep hb a0_11
        have c1 := keep hb a1_11
        clear hs hd hp
        unfold Oper.wp
        generalize a'.eval = ρ at e1 ⊢
        simp [go_sem, e1, c0, c1]
        exact hK _ _ (Below.refl _ _) rfl trivial)) <|
          allOps_cons (rs_not (by kernel_rfl) (fun a' w' hb hs hd hp => by
        exact rs_fn (φ := (mpCp na da ka).p) (ψ := (fun _ => True)) (vs := #[.agg #[.slice A na ca, .int .i64 da]]) rfl (enters_of Tryz.func14 (by kernel_rfl) rfl) (by simp [(show a'.eval (.tmp 211) = .agg #[.slice A na ca, .int .i64 da] from RDeps.get (hd (by kernel_rfl)) 0 211 (by kernel_rfl) (by kernel_rfl))]) ((copyT_any A na ca da ka w' (by omega) HA0.out (HA_11.out.bel hb)).mono (by rintro e w1 ⟨X, c1, rfl, hk, h1⟩; exact ⟨_, rfl, h1, ⟨X, c1, rfl, hk⟩, trivial⟩)))) <|
          allOps_cons (rs_not (by kernel_rfl) (fun a' w' hb hs hd hp => rs_op fun K hK => by
        have e1 := (hs.get 4 (by kernel_rfl)).trans (show _ = Value.pointer (some ⟨w.heap.size + 1, 0, none⟩) from rfl)
        have c0 := keep hb b0_11
        have c1 := keep hb b1_11
        clear hs hd hp
        unfold Oper.wp
        generalize a'.eval = ρ at e1 ⊢
        simp [go_sem, e1, c0, c1]
        exact hK _ _ (Below.refl _ _) rfl trivial)) <|
          allOps_cons (rs_not (by kernel_rfl) (fun a' w' hb hs hd hp => by
        exact rs_fn (φ := (mpCp nb db kb).p) (ψ := (fun _ => True)) (vs := #[.agg #[.slice B nb cb, .int .i64 db]]) rfl (enters_of Tryz.func14 (by kernel_rfl) rfl) (by simp [(show a'.eval (.tmp 213) = .agg #[.slice B nb cb, .int .i64 db] from RDeps.get (hd (by kernel_rfl)) 2 213 (by kernel_rfl) (by kernel_rfl))]) ((copyT_any B nb cb db kb w' (by omega) HB0.out (HB_11.out.bel hb)).mono (by rintro e w1 ⟨X, c1, rfl, hk, h1⟩; exact ⟨_, rfl, h1, ⟨X, c1, rfl, hk⟩, trivial⟩)))) <|
          allOps_cons (rs_not (by kernel_rfl) (fun a' w' hb hs hd hp => rs_op fun K hK => by
        have e1 := (hs.get 10 (by kernel_rfl)).trans (show _ = Value.pointer (some ⟨p, 0, none⟩) from rfl)
        clear hs hd hp
        unfold Oper.wp
        generalize a'.eval = ρ at e1 ⊢
        simp [go_sem, e1]
        exact hK _ _ (Below.refl _ _) rfl trivial)) <|
          allOps_cons (rs_not (by kernel_rfl) (fun a' w' hb hs hd hp => rs_op fun K hK => by
        have e1 := (show a'.eval (.tmp 215) = .pointer (some ⟨p, 0, none⟩) from RDeps.get (hd (by kernel_rfl)) 4 215 (by kernel_rfl) (by kernel_rfl))
        have c0 := keep hb p0_11
        clear hs hd hp
        unfold Oper.wp
        generalize a'.eval = ρ at e1 ⊢
        simp [go_sem, e1, c0]
        exact hK _ _ (Below.refl _ _) rfl trivial)) <|
          allOps_cons (rs_not (by kernel_rfl) (fun a' w' hb hs hd hp => by
        obtain ⟨X1, c1, e1, k1⟩ := (show (mpCp na da ka).p (a'.eval (.tmp 212)) w' from RDeps.get (hd (by kernel_rfl)) 1 212 (by kernel_rfl) (by kernel_rfl))
        obtain ⟨X2, c2, e2, k2⟩ := (show (mpCp nb db kb).p (a'.eval (.tmp 214)) w' from RDeps.get (hd (by kernel_rfl)) 3 214 (by kernel_rfl) (by kernel_rfl))
        exact rs_fn (φ := (mpEq (.tuple #[.agg #[.int .i64 bL, .int .i64 bH], .int .i64 0])).p) (ψ := (fun _ => True)) (vs := #[.agg #[.slice X1 na c1, .int .i64 da], .agg #[.slice X2 nb c2, .int .i64 db], .int .i64 sL]) rfl (enters_of Tryz.func20 (by kernel_rfl) rfl) (by simp [e1, e2, (show a'.eval (.tmp 216) = .int .i64 sL from RDeps.get (hd (by kernel_rfl)) 5 216 (by kernel_rfl) (by kernel_rfl))]) (((KRB.out rfl rfl) w' X1 c1 X2 c2 k1 k2).mono (by rintro e w1 ⟨rfl, h1⟩; exact ⟨_, rfl, h1, rfl, trivial⟩)))) <|
          allOps_cons (rs_not (by kernel_rfl) (fun a' w' hb hs hd hp => rs_op fun K hK => by
        have e1 := (show a'.eval (.tmp 217) = .tuple #[.agg #[.int .i64 bL, .int .i64 bH], .int .i64 0] from RDeps.get (hd (by kernel_rfl)) 6 217 (by kernel_rfl) (by kernel_rfl))
        clear hs hd hp
        unfold Oper.wp
        generalize a'.eval = ρ at e1 ⊢
        simp [go_sem, e1]
        exact hK _ _ (Below.refl _ _) rfl rfl)) <|
          allOps_cons (rs_not (by kernel_rfl) (fun a' w' hb hs hd hp => rs_op fun K hK => by
        have e1 := (show a'.eval (.tmp 210) = .tuple #[.agg #[.int .i64 bL, .int .i64 bH], .int .i64 0] from RDeps.get (hd (by kernel_rfl)) 7 210 (by kernel_rfl) (by kernel_rfl))
        clear hs hd hp
        unfold Oper.wp
        generalize a'.eval = ρ at e1 ⊢
        simp [go_sem, e1]
        exact hK _ _ (Below.refl _ _) rfl trivial)) <|
          allOps_cons (rs_not (by kernel_rfl) (fun a' w' hb hs hd hp => rs_op fun K hK => by
        have e1 := (show a'.eval (.tmp 210) = .tuple #[.agg #[.int .i64 bL, .int .i64 bH], .int .i64 0] from hp.get 7 210 (by kernel_rfl) (by kernel_rfl))
        clear hs hd hp
        unfold Oper.wp
        generalize a'.eval = ρ at e1 ⊢
        simp [go_sem, e1]
        exact hK _ _ (Below.refl _ _) trivial rfl)) <|
          allOps_cons (rs_not (by kernel_rfl) (fun a' w' hb hs hd hp => rs_op fun K hK => by
        have hz := hb.size
        clear hs hd hp
        unfold Oper.wp
        generalize a'.eval = ρ
        simp [go_sem]
        exact hK _ _ ((Below.refl _ _).alloc (Nat.le_refl _) _) ⟨_, rfl, hz, by simp [go_sem], by simp [go_sem], by simp [go_sem], by simp [go_sem]⟩ trivial)) <|
          allOps_cons (rs_is (by kernel_rfl) (fun a' w' hb hs hd => rs_st rfl fun K hK => by
        obtain ⟨q, e1, z1, c0, c1, f0, f1⟩ := (show (mpNew (y11).heap.size).p (a'.eval (.tmp 12)) w' from hd.get 10 12 (by kernel_rfl) (by kernel_rfl))
        have e2 := (show a'.eval (.tmp 218) = .agg #[.int .i64 (bL), .int .i64 (bH)] from hd.get 8 218 (by kernel_rfl) (by kernel_rfl))
        have hz := lt_of c0
        clear hs hd
        unfold Oper.wp
        generalize a'.eval = ρ at e1 e2 hK ⊢
        simp [go_sem, e1, e2, c0, c1, f0, f1]
        exact hK _ (Below.setCell (Below.setCell hb z1 _) z1 _) ⟨q, e1, z1, by simp [go_sem, c0], by simp [go_sem, c1], by simp [go_sem, f0], by simp [go_sem, f1]⟩)) <|
          allOps_cons (rs_not (by kernel_rfl) (fun a' w' hb hs hd hp => rs_op fun K hK => by
        have e1 := (show a'.eval (.tmp 219) = .int .i64 0 from hp.get 9 219 (by kernel_rfl) (by kernel_rfl))
        clear hs hd hp
        unfold Oper.wp
        generalize a'.eval = ρ at e1 ⊢
        simp [go_sem, e1]
        exact hK _ _ (Below.refl _ _) trivial rfl)) <| allOps_nil) (fun V11 y12 hb11 hall hv => ?_)
      have h8 : V11 13 = .int .i64 0 := hall.get 12 rfl (by decide)
      obtain ⟨r, h7, _, r0_12, r1_12, _, _⟩ := hv
      clear hall
      simp only [mk7, maskPut, Nat.reduceAdd]
      rw [h7, h8]
      clear h7 h8
      have a0_12 := keep hb11 a0_11
      have a1_12 := keep hb11 a1_11
      have b0_12 := keep hb11 b0_11
      have b1_12 := keep hb11 b1_11
      have q0_12 := keep hb11 q0_11
      have q1_12 := keep hb11 q1_11
      have p0_12 := keep hb11 p0_11
      have p1_12 := keep hb11 p1_11
      have B_12 := Lib.hid (thenB B_11.out hb11)
      have HA_12 := Lib.hid (HA.out.bel B_12.out)
      have HB_12 := Lib.hid (HB.out.bel B_12.out)
      clear hb11 B_11 HA_11 HB_11 a0_11 a1_11 b0_11 b1_11 q0_11 q1_11 p0_11 p1_11
      have d1 : decide (s < bH) = false := by have := b1 rfl rfl; simp; omega
      go_upto_region 24 with (fail)
      refine wp_region_st mk8 (by kernel_rfl) [mpEq (.agg #[.slice A na ca, .int .i64 da]), mpCp na da ka, mpEq (.agg #[.slice B nb cb, .int .i64 db]), mpCp nb db kb, mpEq (.int .i64 s), mpEq (.tuple #[.agg #[.int .i64 tL, .int .i64 tH], .int .i64 R]), mpEq (.tuple #[.agg #[.int .i64 tL, .int .i64 tH], .int .i64 R]), mpEq (.agg #[.int .i64 tL, .int .i64 tH]), mpTop, mpNew (y12).heap.size, mpTop, mpTop] [(fun _ => True), (fun _ => True), (fun _ => True), (fun _ => True), (fun _ => True), (fun _ => True), (· = .tuple #[.agg #[.int .i64 tL, .int .i64 tH], .int .i64 R]), (fun _ => True), (· = .int .i64 R), (fun _ => True), (fun _ => True), (· = .int .i64 R)] (mpVar (y12).heap.size (tL) (tH)) 10 9 14 (by kernel_rfl) (by kernel_rfl) (by kernel_rfl) (by kernel_rfl) rfl (
          allOps_cons (rs_not (by kernel_rfl) (fun a' w' hb hs hd hp => rs_op fun K hK => by
        have e1 := (hs.get 3 (by kernel_rfl)).trans (show _ = Value.pointer (some ⟨w.heap.size, 0, none⟩) from rfl)
        have c0 := keep hb a0_12
        have c1 := keep hb a1_12
        clear hs hd hp
        unfold Oper.wp
        generalize a'.eval = ρ at e1 ⊢
        simp [go_sem, e1, c0, c1]
        exact hK _ _ (Below.refl _ _) rfl trivial)) <|
          allOps_cons (rs_not (by kernel_rfl) (fun a' w' hb hs hd hp => by
        exact rs_fn (φ := (mpCp na da ka).p) (ψ := (fun _ => True)) (vs := #[.agg #[.slice A na ca, .int .i64 da]]) rfl (enters_of Tryz.func14 (by kernel_rfl) rfl) (by simp [(show a'.eval (.tmp 239) = .agg #[.slice A na ca, .int .i64 da] from RDeps.get (hd (by kernel_rfl)) 0 239 (by kernel_rfl) (by kernel_rfl))]) ((copyT_any A na ca da ka w' (by omega) HA0.out (HA_12.out.bel hb)).mono (by rintro e w1 ⟨X, c1, rfl, hk, h1⟩; exact ⟨_, rfl, h1, ⟨X, c1, rfl, hk⟩, trivial⟩)))) <|
          allOps_cons (rs_not (by kernel_rfl) (fun a' w' hb hs hd hp => rs_op fun K hK => by
        have e1 := (hs.get 4 (by kernel_rfl)).trans (show _ = Value.pointer (some ⟨w.heap.size + 1, 0, none⟩) from rfl)
        have c0 := keep hb b0_12
        have c1 := keep hb b1_12
        clear hs hd hp
        unfold Oper.wp
        generalize a'.eval = ρ at e1 ⊢
        simp [go_sem, e1, c0, c1]
        exact hK _ _ (Below.refl _ _) rfl trivial)) <|
          allOps_cons (rs_not (by kernel_rfl) (fun a' w' hb hs hd hp => by
        exact rs_fn (φ := (mpCp nb db kb).p) (ψ := (fun _ => True)) (vs := #[.agg #[.slice B nb cb, .int .i64 db]]) rfl (enters_of Tryz.func14 (by kernel_rfl) rfl) (by simp [(show a'.eval (.tmp 241) = .agg #[.slice B nb cb, .int .i64 db] from RDeps.get (hd (by kernel_rfl)) 2 241 (by kernel_rfl) (by kernel_rfl))]) ((copyT_any B nb cb db kb w' (by omega) HB0.out (HB_12.out.bel hb)).mono (by rintro e w1 ⟨X, c1, rfl, hk, h1⟩; exact ⟨_, rfl, h1, ⟨X, c1, rfl, hk⟩, trivial⟩)))) <|
          allOps_cons (rs_not (by kernel_rfl) (fun a' w' hb hs hd hp => rs_op fun K hK => by
        have e1 := (hs.get 2 (by kernel_rfl)).trans (show _ = .int .i64 s from rfl)
        clear hs hd hp
        unfold Oper.wp
        generalize a'.eval = ρ at e1 ⊢
        simp [go_sem, e1]
        exact hK _ _ (Below.refl _ _) rfl trivial)) <|
          allOps_cons (rs_not (by kernel_rfl) (fun a' w' hb hs hd hp => by
        obtain ⟨X1, c1, e1, k1⟩ := (show (mpCp na da ka).p (a'.eval (.tmp 240)) w' from RDeps.get (hd (by kernel_rfl)) 1 240 (by kernel_rfl) (by kernel_rfl))
        obtain ⟨X2, c2, e2, k2⟩ := (show (mpCp nb db kb).p (a'.eval (.tmp 242)) w' from RDeps.get (hd (by kernel_rfl)) 3 242 (by kernel_rfl) (by kernel_rfl))
        exact rs_fn (φ := (mpEq (.tuple #[.agg #[.int .i64 tL, .int .i64 tH], .int .i64 R])).p) (ψ := (fun _ => True)) (vs := #[.agg #[.slice X1 na c1, .int .i64 da], .agg #[.slice X2 nb c2, .int .i64 db], .int .i64 s]) rfl (enters_of Tryz.func31 (by kernel_rfl) rfl) (by simp [e1, e2, (show a'.eval (.tmp 243) = .int .i64 s from RDeps.get (hd (by kernel_rfl)) 4 243 (by kernel_rfl) (by kernel_rfl))]) ((KRT.out w' X1 c1 X2 c2 k1 k2).mono (by rintro e w1 ⟨rfl, h1⟩; exact ⟨_, rfl, h1, rfl, trivial⟩)))) <|
          allOps_cons (rs_not (by kernel_rfl) (fun a' w' hb hs hd hp => rs_op fun K hK => by
        have e1 := (show a'.eval (.tmp 244) = .tuple #[.agg #[.int .i64 tL, .int .i64 tH], .int .i64 R] from RDeps.get (hd (by kernel_rfl)) 5 244 (by kernel_rfl) (by kernel_rfl))
        clear hs hd hp
        unfold Oper.wp
        generalize a'.eval = ρ at e1 ⊢
        simp [go_sem, e1]
        exact hK _ _ (Below.refl _ _) rfl rfl)) <|
          allOps_cons (rs_not (by kernel_rfl) (fun a' w' hb hs hd hp => rs_op fun K hK => by
        have e1 := (show a'.eval (.tmp 238) = .tuple #[.agg #[.int .i64 tL, .int .i64 tH], .int .i64 R] from RDeps.get (hd (by kernel_rfl)) 6 238 (by kernel_rfl) (by kernel_rfl))
        clear hs hd hp
        unfold Oper.wp
        generalize a'.eval = ρ at e1 ⊢
        simp [go_sem, e1]
        exact hK _ _ (Below.refl _ _) rfl trivial)) <|
          allOps_cons (rs_not (by kernel_rfl) (fun a' w' hb hs hd hp => rs_op fun K hK => by
        have e1 := (show a'.eval (.tmp 238) = .tuple #[.agg #[.int .i64 tL, .int .i64 tH], .int .i64 R] from hp.get 6 238 (by kernel_rfl) (by kernel_rfl))
        clear hs hd hp
        unfold Oper.wp
        generalize a'.eval = ρ at e1 ⊢
        simp [go_sem, e1]
        exact hK _ _ (Below.refl _ _) trivial rfl)) <|
          allOps_cons (rs_not (by kernel_rfl) (fun a' w' hb hs hd hp => rs_op fun K hK => by
        have hz := hb.size
        clear hs hd hp
        unfold Oper.wp
        generalize a'.eval = ρ
        simp [go_sem]
        exact hK _ _ ((Below.refl _ _).alloc (Nat.le_refl _) _) ⟨_, rfl, hz, by simp [go_sem], by simp [go_sem], by simp [go_sem], by simp [go_sem]⟩ trivial)) <|
          allOps_cons (rs_is (by kernel_rfl) (fun a' w' hb hs hd => rs_st rfl fun K hK => by
        obtain ⟨q, e1, z1, c0, c1, f0, f1⟩ := (show (mpNew (y12).heap.size).p (a'.eval (.tmp 14)) w' from hd.get 9 14 (by kernel_rfl) (by kernel_rfl))
        have e2 := (show a'.eval (.tmp 245) = .agg #[.int .i64 (tL), .int .i64 (tH)] from hd.get 7 245 (by kernel_rfl) (by kernel_rfl))
        have hz := lt_of c0
        clear hs hd
        unfold Oper.wp
        generalize a'.eval = ρ at e1 e2 hK ⊢
        simp [go_sem, e1, e2, c0, c1, f0, f1]
        exact hK _ (Below.setCell (Below.setCell hb z1 _) z1 _) ⟨q, e1, z1, by simp [go_sem, c0], by simp [go_sem, c1], by simp [go_sem, f0], by simp [go_sem, f1]⟩)) <|
          allOps_cons (rs_not (by kernel_rfl) (fun a' w' hb hs hd hp => rs_op fun K hK => by
        have e1 := (show a'.eval (.tmp 246) = .int .i64 R from hp.get 8 246 (by kernel_rfl) (by kernel_rfl))
        clear hs hd hp
        unfold Oper.wp
        generalize a'.eval = ρ at e1 ⊢
        simp [go_sem, e1]
        exact hK _ _ (Below.refl _ _) trivial rfl)) <| allOps_nil) (fun V12 y13 hb12 hall hv => ?_)
      have h8 : V12 15 = .int .i64 R := hall.get 11 rfl (by decide)
      obtain ⟨t, h7, _, t0_13, t1_13, _, _⟩ := hv
      clear hall
      simp only [mk8, maskPut, Nat.reduceAdd]
      rw [h7, h8]
      clear h7 h8
      have a0_13 := keep hb12 a0_12
      have a1_13 := keep hb12 a1_12
      have b0_13 := keep hb12 b0_12
      have b1_13 := keep hb12 b1_12
      have q0_13 := keep hb12 q0_12
      have q1_13 := keep hb12 q1_12
      have p0_13 := keep hb12 p0_12
      have p1_13 := keep hb12 p1_12
      have r0_13 := keep hb12 r0_12
      have r1_13 := keep hb12 r1_12
      have B_13 := Lib.hid (thenB B_12.out hb12)
      have HA_13 := Lib.hid (HA.out.bel B_13.out)
      have HB_13 := Lib.hid (HB.out.bel B_13.out)
      clear hb12 B_12 HA_12 HB_12 a0_12 a1_12 b0_12 b1_12 q0_12 q1_12 p0_12 p1_12 r0_12 r1_12
      by_cases hi : R = 0
      · subst hi
        obtain ⟨t1, t2, t3, t4⟩ := t0 rfl
        have d3 : decide (s ≤ tL) = true := by simp; omega
        have d4 : decide (tL ≤ tH) = true := by simp; omega
        have d5 : decide (Lo ≤ tL) = true := by simp; omega
        have d6 : decide (Hi ≤ tH) = true := by simp; omega
        clear t1 t2 t3 t4 t0
        go_wp2_with (first
          | (go_at_call 32; (with_reducible refine Calls.mono (KRR.out _ HA_13.out HB_13.out) ?_); rintro e y14 ⟨rfl, hb13⟩; have q0_14 := keep hb13 q0_13; have q1_14 := keep hb13 q1_13; have t0_14 := keep hb13 t0_13; have t1_14 := keep hb13 t1_13; have B_14 := Lib.hid (thenB B_13.out hb13); clear hb13)
          | fail)
        go_ret
        exact ⟨ret_bool (by simp), by have Bq := B_14.out; have Bz := Bq.size; (repeat (first | with_reducible exact Below.refl _ _ | with_reducible assumption | with_reducible refine Below.alloc ?_ (by first | (simp; done) | (simp; omega) | omega) _ | with_reducible refine Below.setCell ?_ (by first | (simp; done) | (simp; omega) | omega) _ | with_reducible refine Below.drew ?_ | with_reducible refine below_drewN ?_ _))⟩
      · have d3 : (R != 0) = true := by simpa using hi
        clear hi t0
        go_wp2_with (first
          | (go_at_call 32; (with_reducible refine Calls.mono (KRR.out _ HA_13.out HB_13.out) ?_); rintro e y14 ⟨rfl, hb13⟩; have q0_14 := keep hb13 q0_13; have q1_14 := keep hb13 q1_13; have t0_14 := keep hb13 t0_13; have t1_14 := keep hb13 t1_13; have B_14 := Lib.hid (thenB B_13.out hb13); clear hb13)
          | fail)
        go_ret
        exact ⟨ret_bool (by simp), by have Bq := B_14.out; have Bz := Bq.size; (repeat (first | with_reducible exact Below.refl _ _ | with_reducible assumption | with_reducible refine Below.alloc ?_ (by first | (simp; done) | (simp; omega) | omega) _ | with_reducible refine Below.setCell ?_ (by first | (simp; done) | (simp; omega) | omega) _ | with_reducible refine Below.drew ?_ | with_reducible refine below_drewN ?_ _))⟩
    · have d2 : (Z == 0) = false := by simpa using hz
      clear hz
      go_upto_region 24 with (fail)
      refine wp_region_st mk8 (by kernel_rfl) [mpEq (.agg #[.slice A na ca, .int .i64 da]), mpCp na da ka, mpEq (.agg #[.slice B nb cb, .int .i64 db]), mpCp nb db kb, mpEq (.int .i64 s), mpEq (.tuple #[.agg #[.int .i64 tL, .int .i64 tH], .int .i64 R]), mpEq (.tuple #[.agg #[.int .i64 tL, .int .i64 tH], .int .i64 R]), mpEq (.agg #[.int .i64 tL, .int .i64 tH]), mpTop, mpNew (y11).heap.size, mpTop, mpTop] [(fun _ => True), (fun _ => True), (fun _ => True), (fun _ => True), (fun _ => True), (fun _ => True), (· = .tuple #[.agg #[.int .i64 tL, .int .i64 tH], .int .i64 R]), (fun _ => True), (· = .int .i64 R), (fun _ => True), (fun _ => True), (· = .int .i64 R)] (mpVar (y11).heap.size (tL) (tH)) 10 9 14 (by kernel_rfl) (by kernel_rfl) (by kernel_rfl) (by kernel_rfl) rfl (
          allOps_cons (rs_not (by kernel_rfl) (fun a' w' hb hs hd hp => rs_op fun K hK => by
        have e1 := (hs.get 3 (by kernel_rfl)).trans (show _ = Value.pointer (some ⟨w.heap.size, 0, none⟩) from rfl)
        have c0 := keep hb a0_11
        have c1 := keep hb a1_11
        clear hs hd hp
        unfold Oper.wp
        generalize a'.eval = ρ at e1 ⊢
        simp [go_sem, e1, c0, c1]
        exact hK _ _ (Below.refl _ _) rfl trivial)) <|
          allOps_cons (rs_not (by kernel_rfl) (fun a' w' hb hs hd hp => by
        exact rs_fn (φ := (mpCp na da ka).p) (ψ := (fun _ => True)) (vs := #[.agg #[.slice A na ca, .int .i64 da]]) rfl (enters_of Tryz.func14 (by kernel_rfl) rfl) (by simp [(show a'.eval (.tmp 239) = .agg #[.slice A na ca, .int .i64 da] from RDeps.get (hd (by kernel_rfl)) 0 239 (by kernel_rfl) (by kernel_rfl))]) ((copyT_any A na ca da ka w' (by omega) HA0.out (HA_11.out.bel hb)).mono (by rintro e w1 ⟨X, c1, rfl, hk, h1⟩; exact ⟨_, rfl, h1, ⟨X, c1, rfl, hk⟩, trivial⟩)))) <|
          allOps_cons (rs_not (by kernel_rfl) (fun a' w' hb hs hd hp => rs_op fun K hK => by
        have e1 := (hs.get 4 (by kernel_rfl)).trans (show _ = Value.pointer (some ⟨w.heap.size + 1, 0, none⟩) from rfl)
        have c0 := keep hb b0_11
        have c1 := keep hb b1_11
        clear hs hd hp
        unfold Oper.wp
        generalize a'.eval = ρ at e1 ⊢
        simp [go_sem, e1, c0, c1]
        exact hK _ _ (Below.refl _ _) rfl trivial)) <|
          allOps_cons (rs_not (by kernel_rfl) (fun a' w' hb hs hd hp => by
        exact rs_fn (φ := (mpCp nb db kb).p) (ψ := (fun _ => True)) (vs := #[.agg #[.slice B nb cb, .int .i64 db]]) rfl (enters_of Tryz.func14 (by kernel_rfl) rfl) (by simp [(show a'.eval (.tmp 241) = .agg #[.slice B nb cb, .int .i64 db] from RDeps.get (hd (by kernel_rfl)) 2 241 (by kernel_rfl) (by kernel_rfl))]) ((copyT_any B nb cb db kb w' (by omega) HB0.out (HB_11.out.bel hb)).mono (by rintro e w1 ⟨X, c1, rfl, hk, h1⟩; exact ⟨_, rfl, h1, ⟨X, c1, rfl, hk⟩, trivial⟩)))) <|
          allOps_cons (rs_not (by kernel_rfl) (fun a' w' hb hs hd hp => rs_op fun K hK => by
        have e1 := (hs.get 2 (by kernel_rfl)).trans (show _ = .int .i64 s from rfl)
        clear hs hd hp
        unfold Oper.wp
        generalize a'.eval = ρ at e1 ⊢
        simp [go_sem, e1]
        exact hK _ _ (Below.refl _ _) rfl trivial)) <|
          allOps_cons (rs_not (by kernel_rfl) (fun a' w' hb hs hd hp => by
        obtain ⟨X1, c1, e1, k1⟩ := (show (mpCp na da ka).p (a'.eval (.tmp 240)) w' from RDeps.get (hd (by kernel_rfl)) 1 240 (by kernel_rfl) (by kernel_rfl))
        obtain ⟨X2, c2, e2, k2⟩ := (show (mpCp nb db kb).p (a'.eval (.tmp 242)) w' from RDeps.get (hd (by kernel_rfl)) 3 242 (by kernel_rfl) (by kernel_rfl))
        exact rs_fn (φ := (mpEq (.tuple #[.agg #[.int .i64 tL, .int .i64 tH], .int .i64 R])).p) (ψ := (fun _ => True)) (vs := #[.agg #[.slice X1 na c1, .int .i64 da], .agg #[.slice X2 nb c2, .int .i64 db], .int .i64 s]) rfl (enters_of Tryz.func31 (by kernel_rfl) rfl) (by simp [e1, e2, (show a'.eval (.tmp 243) = .int .i64 s from RDeps.get (hd (by kernel_rfl)) 4 243 (by kernel_rfl) (by kernel_rfl))]) ((KRT.out w' X1 c1 X2 c2 k1 k2).mono (by rintro e w1 ⟨rfl, h1⟩; exact ⟨_, rfl, h1, rfl, trivial⟩)))) <|
          allOps_cons (rs_not (by kernel_rfl) (fun a' w' hb hs hd hp => rs_op fun K hK => by
        have e1 := (show a'.eval (.tmp 244) = .tuple #[.agg #[.int .i64 tL, .int .i64 tH], .int .i64 R] from RDeps.get (hd (by kernel_rfl)) 5 244 (by kernel_rfl) (by kernel_rfl))
        clear hs hd hp
        unfold Oper.wp
        generalize a'.eval = ρ at e1 ⊢
        simp [go_sem, e1]
        exact hK _ _ (Below.refl _ _) rfl rfl)) <|
          allOps_cons (rs_not (by kernel_rfl) (fun a' w' hb hs hd hp => rs_op fun K hK => by
        have e1 := (show a'.eval (.tmp 238) = .tuple #[.agg #[.int .i64 tL, .int .i64 tH], .int .i64 R] from RDeps.get (hd (by kernel_rfl)) 6 238 (by kernel_rfl) (by kernel_rfl))
        clear hs hd hp
        unfold Oper.wp
        generalize a'.eval = ρ at e1 ⊢
        simp [go_sem, e1]
        exact hK _ _ (Below.refl _ _) rfl trivial)) <|
          allOps_cons (rs_not (by kernel_rfl) (fun a' w' hb hs hd hp => rs_op fun K hK => by
        have e1 := (show a'.eval (.tmp 238) = .tuple #[.agg #[.int .i64 tL, .int .i64 tH], .int .i64 R] from hp.get 6 238 (by kernel_rfl) (by kernel_rfl))
        clear hs hd hp
        unfold Oper.wp
        generalize a'.eval = ρ at e1 ⊢
        simp [go_sem, e1]
        exact hK _ _ (Below.refl _ _) trivial rfl)) <|
          allOps_cons (rs_not (by kernel_rfl) (fun a' w' hb hs hd hp => rs_op fun K hK => by
        have hz := hb.size
        clear hs hd hp
        unfold Oper.wp
        generalize a'.eval = ρ
        simp [go_sem]
        exact hK _ _ ((Below.refl _ _).alloc (Nat.le_refl _) _) ⟨_, rfl, hz, by simp [go_sem], by simp [go_sem], by simp [go_sem], by simp [go_sem]⟩ trivial)) <|
          allOps_cons (rs_is (by kernel_rfl) (fun a' w' hb hs hd => rs_st rfl fun K hK => by
        obtain ⟨q, e1, z1, c0, c1, f0, f1⟩ := (show (mpNew (y11).heap.size).p (a'.eval (.tmp 14)) w' from hd.get 9 14 (by kernel_rfl) (by kernel_rfl))
        have e2 := (show a'.eval (.tmp 245) = .agg #[.int .i64 (tL), .int .i64 (tH)] from hd.get 7 245 (by kernel_rfl) (by kernel_rfl))
        have hz := lt_of c0
        clear hs hd
        unfold Oper.wp
        generalize a'.eval = ρ at e1 e2 hK ⊢
        simp [go_sem, e1, e2, c0, c1, f0, f1]
        exact hK _ (Below.setCell (Below.setCell hb z1 _) z1 _) ⟨q, e1, z1, by simp [go_sem, c0], by simp [go_sem, c1], by simp [go_sem, f0], by simp [go_sem, f1]⟩)) <|
          allOps_cons (rs_not (by kernel_rfl) (fun a' w' hb hs hd hp => rs_op fun K hK => by
        have e1 := (show a'.eval (.tmp 246) = .int .i64 R from hp.get 8 246 (by kernel_rfl) (by kernel_rfl))
        clear hs hd hp
        unfold Oper.wp
        generalize a'.eval = ρ at e1 ⊢
        simp [go_sem, e1]
        exact hK _ _ (Below.refl _ _) trivial rfl)) <| allOps_nil) (fun V11 y12 hb11 hall hv => ?_)
      have h8 : V11 15 = .int .i64 R := hall.get 11 rfl (by decide)
      obtain ⟨t, h7, _, t0_12, t1_12, _, _⟩ := hv
      clear hall
      simp only [mk8, maskPut, Nat.reduceAdd]
      rw [h7, h8]
      clear h7 h8
      have a0_12 := keep hb11 a0_11
      have a1_12 := keep hb11 a1_11
      have b0_12 := keep hb11 b0_11
      have b1_12 := keep hb11 b1_11
      have q0_12 := keep hb11 q0_11
      have q1_12 := keep hb11 q1_11
      have p0_12 := keep hb11 p0_11
      have p1_12 := keep hb11 p1_11
      have B_12 := Lib.hid (thenB B_11.out hb11)
      have HA_12 := Lib.hid (HA.out.bel B_12.out)
      have HB_12 := Lib.hid (HB.out.bel B_12.out)
      clear hb11 B_11 HA_11 HB_11 a0_11 a1_11 b0_11 b1_11 q0_11 q1_11 p0_11 p1_11
      by_cases hi : R = 0
      · subst hi
        obtain ⟨t1, t2, t3, t4⟩ := t0 rfl
        have d3 : decide (s ≤ tL) = true := by simp; omega
        have d4 : decide (tL ≤ tH) = true := by simp; omega
        have d5 : decide (Lo ≤ tL) = true := by simp; omega
        have d6 : decide (Hi ≤ tH) = true := by simp; omega
        clear t1 t2 t3 t4 t0
        go_wp2_with (first
          | (go_at_call 32; (with_reducible refine Calls.mono (KRR.out _ HA_12.out HB_12.out) ?_); rintro e y13 ⟨rfl, hb12⟩; have q0_13 := keep hb12 q0_12; have q1_13 := keep hb12 q1_12; have t0_13 := keep hb12 t0_12; have t1_13 := keep hb12 t1_12; have B_13 := Lib.hid (thenB B_12.out hb12); clear hb12)
          | fail)
        go_ret
        exact ⟨ret_bool (by simp), by have Bq := B_13.out; have Bz := Bq.size; (repeat (first | with_reducible exact Below.refl _ _ | with_reducible assumption | with_reducible refine Below.alloc ?_ (by first | (simp; done) | (simp; omega) | omega) _ | with_reducible refine Below.setCell ?_ (by first | (simp; done) | (simp; omega) | omega) _ | with_reducible refine Below.drew ?_ | with_reducible refine below_drewN ?_ _))⟩
      · have d3 : (R != 0) = true := by simpa using hi
        clear hi t0
        go_wp2_with (first
          | (go_at_call 32; (with_reducible refine Calls.mono (KRR.out _ HA_12.out HB_12.out) ?_); rintro e y13 ⟨rfl, hb12⟩; have q0_13 := keep hb12 q0_12; have q1_13 := keep hb12 q1_12; have t0_13 := keep hb12 t0_12; have t1_13 := keep hb12 t1_12; have B_13 := Lib.hid (thenB B_12.out hb12); clear hb12)
          | fail)
        go_ret
        exact ⟨ret_bool (by simp), by have Bq := B_13.out; have Bz := Bq.size; (repeat (first | with_reducible exact Below.refl _ _ | with_reducible assumption | with_reducible refine Below.alloc ?_ (by first | (simp; done) | (simp; omega) | omega) _ | with_reducible refine Below.setCell ?_ (by first | (simp; done) | (simp; omega) | omega) _ | with_reducible refine Below.drew ?_ | with_reducible refine below_drewN ?_ _))⟩
  · obtain rfl : G = 12 := hG hg
    clear hg
    go_upto_region 22 with (fail)
    refine wp_region_gd [mpEq (.int .i64 12), mpEq (.bool false), mpEq (.bool false), mpEq (.agg #[.slice A na ca, .int .i64 da]), mpEq (.agg #[.slice B nb cb, .int .i64 db]), mpEq (.agg #[.slice A na ca, .int .i64 da]), mpEq (.int .i64 F), mpEq (.int .i64 s), mpEq (.bool false), mpEq (.bool false)] mk9 (by kernel_rfl) (by kernel_rfl) (by kernel_rfl) (
        allOps_cons (fun a' w' hb hs hd => Or.inl ⟨wanted_n rfl, by
      exact op1 (φ := (mpEq (.int .i64 12)).p) ((hs.get 11 (by kernel_rfl)).trans (show _ = Value.int .i64 12 from rfl)) (fun ρ e c => by simp [go_sem, e]) rfl⟩) <|
        allOps_cons (fun a' w' hb hs hd => Or.inl ⟨wanted_n rfl, by
      exact op1 (φ := (mpEq (.bool false)).p) ((show a'.eval (.tmp 228) = .int .i64 12 from hd.get 0 228 (by kernel_rfl) (by kernel_rfl))) (fun ρ e c => by simp [go_sem, e, c]) rfl⟩) <|
        allOps_cons (fun a' w' hb hs hd => Or.inl ⟨wanted_n rfl, by
      exact op1 (φ := (mpEq (.bool false)).p) ((show a'.eval (.tmp 229) = .bool false from hd.get 1 229 (by kernel_rfl) (by kernel_rfl))) (fun ρ e c => by simp [go_sem, e]) rfl⟩) <|
        allOps_cons (fun a' w' hb hs hd => Or.inl ⟨wanted_t (j := 2) (d := 230) rfl (by kernel_rfl) (show a'.eval (.tmp 230) = .bool false from hd.get 2 230 (by kernel_rfl) (by kernel_rfl)), by
      exact op1 (φ := (mpEq (.agg #[.slice A na ca, .int .i64 da])).p) ((hs.get 3 (by kernel_rfl)).trans (show _ = Value.pointer (some ⟨w.heap.size, 0, none⟩) from rfl)) (fun ρ e c => by simp [go_sem, e, keep hb a0_9, keep hb a1_9]) rfl⟩) <|
        allOps_cons (fun a' w' hb hs hd => Or.inl ⟨wanted_t (j := 2) (d := 230) rfl (by kernel_rfl) (show a'.eval (.tmp 230) = .bool false from hd.get 2 230 (by kernel_rfl) (by kernel_rfl)), by
      exact op1 (φ := (mpEq (.agg #[.slice B nb cb, .int .i64 db])).p) ((hs.get 4 (by kernel_rfl)).trans (show _ = Value.pointer (some ⟨w.heap.size + 1, 0, none⟩) from rfl)) (fun ρ e c => by simp [go_sem, e, keep hb b0_9, keep hb b1_9]) rfl⟩) <|
        allOps_cons (fun a' w' hb hs hd => Or.inl ⟨wanted_t (j := 2) (d := 230) rfl (by kernel_rfl) (show a'.eval (.tmp 230) = .bool false from hd.get 2 230 (by kernel_rfl) (by kernel_rfl)), by
      exact op1 (φ := (mpEq (.agg #[.slice A na ca, .int .i64 da])).p) ((hs.get 3 (by kernel_rfl)).trans (show _ = Value.pointer (some ⟨w.heap.size, 0, none⟩) from rfl)) (fun ρ e c => by simp [go_sem, e, keep hb a0_9, keep hb a1_9]) rfl⟩) <|
        allOps_cons (fun a' w' hb hs hd => Or.inl ⟨wanted_t (j := 2) (d := 230) rfl (by kernel_rfl) (show a'.eval (.tmp 230) = .bool false from hd.get 2 230 (by kernel_rfl) (by kernel_rfl)), by
      have e0 := (show a'.eval (.tmp 233) = .agg #[.slice A na ca, .int .i64 da] from hd.get 5 233 (by kernel_rfl) (by kernel_rfl))
      exact rg_fn (φ := (mpEq (.int .i64 F)).p) (vs := #[.agg #[.slice A na ca, .int .i64 da]]) rfl (enters_of Tryz.func30 (by kernel_rfl) rfl) (by simp [e0]) ((KFT.out w' (HA_9.out.bel hb) (HB_9.out.bel hb)).mono (by rintro e w1 ⟨rfl, h1⟩; exact ⟨_, rfl, h1, rfl⟩))⟩) <|
        allOps_cons (fun a' w' hb hs hd => Or.inl ⟨wanted_t (j := 2) (d := 230) rfl (by kernel_rfl) (show a'.eval (.tmp 230) = .bool false from hd.get 2 230 (by kernel_rfl) (by kernel_rfl)), by
      exact op1 (φ := (mpEq (.int .i64 s)).p) ((hs.get 2 (by kernel_rfl)).trans (show _ = Value.int .i64 s from rfl)) (fun ρ e c => by simp [go_sem, e]) rfl⟩) <|
        allOps_cons (fun a' w' hb hs hd => Or.inl ⟨wanted_t (j := 2) (d := 230) rfl (by kernel_rfl) (show a'.eval (.tmp 230) = .bool false from hd.get 2 230 (by kernel_rfl) (by kernel_rfl)), by
      have e0 := (show a'.eval (.tmp 231) = .agg #[.slice A na ca, .int .i64 da] from hd.get 3 231 (by kernel_rfl) (by kernel_rfl))
      have e1 := (show a'.eval (.tmp 232) = .agg #[.slice B nb cb, .int .i64 db] from hd.get 4 232 (by kernel_rfl) (by kernel_rfl))
      have e2 := (show a'.eval (.tmp 234) = .int .i64 F from hd.get 6 234 (by kernel_rfl) (by kernel_rfl))
      have e3 := (show a'.eval (.tmp 235) = .int .i64 s from hd.get 7 235 (by kernel_rfl) (by kernel_rfl))
      exact rg_fn (φ := (mpEq (.bool false)).p) (vs := #[.agg #[.slice A na ca, .int .i64 da], .agg #[.slice B nb cb, .int .i64 db], .int .i64 F, .int .i64 s]) rfl (enters_of Tryz.func28 (by kernel_rfl) rfl) (by simp [e0, e1, e2, e3]) ((KS0.out (by decide) w' (HA_9.out.bel hb) (HB_9.out.bel hb)).mono (by rintro e w1 ⟨rfl, h1⟩; exact ⟨_, rfl, h1, rfl⟩))⟩) <|
        allOps_cons (fun a' w' hb hs hd => Or.inl ⟨wanted_n rfl, by
      exact op2 (φ := (mpEq (.bool false)).p) ((show a'.eval (.tmp 230) = .bool false from hd.get 2 230 (by kernel_rfl) (by kernel_rfl))) ((show a'.eval (.tmp 236) = .bool false from hd.get 8 236 (by kernel_rfl) (by kernel_rfl))) (fun ρ e e' c => by simp [go_sem, e, e', c]) rfl⟩) <| allOps_nil) (fun V9 y10 hb9 hall => ?_)
    have h8 : V9 237 = .bool false := hall.get 9 rfl
    clear hall
    simp only [mk9, maskPut, Nat.reduceAdd]
    rw [h8]
    clear h8
    have a0_10 := keep hb9 a0_9
    have a1_10 := keep hb9 a1_9
    have b0_10 := keep hb9 b0_9
    have b1_10 := keep hb9 b1_9
    have q0_10 := keep hb9 q0_9
    have q1_10 := keep hb9 q1_9
    have p0_10 := keep hb9 p0_9
    have p1_10 := keep hb9 p1_9
    have B_10 := Lib.hid (thenB B_9.out hb9)
    have HA_10 := Lib.hid (HA.out.bel B_10.out)
    have HB_10 := Lib.hid (HB.out.bel B_10.out)
    clear hb9 B_9 HA_9 HB_9 a0_9 a1_9 b0_9 b1_9 q0_9 q1_9 p0_9 p1_9
    go_upto_region 24 with (fail)
    refine wp_region_st mk8 (by kernel_rfl) [mpEq (.agg #[.slice A na ca, .int .i64 da]), mpCp na da ka, mpEq (.agg #[.slice B nb cb, .int .i64 db]), mpCp nb db kb, mpEq (.int .i64 s), mpEq (.tuple #[.agg #[.int .i64 tL, .int .i64 tH], .int .i64 R]), mpEq (.tuple #[.agg #[.int .i64 tL, .int .i64 tH], .int .i64 R]), mpEq (.agg #[.int .i64 tL, .int .i64 tH]), mpTop, mpNew (y10).heap.size, mpTop, mpTop] [(fun _ => True), (fun _ => True), (fun _ => True), (fun _ => True), (fun _ => True), (fun _ => True), (· = .tuple #[.agg #[.int .i64 tL, .int .i64 tH], .int .i64 R]), (fun _ => True), (· = .int .i64 R), (fun _ => True), (fun _ => True), (· = .int .i64 R)] (mpVar (y10).heap.size (tL) (tH)) 10 9 14 (by kernel_rfl) (by kernel_rfl) (by kernel_rfl) (by kernel_rfl) rfl (
        allOps_cons (rs_not (by kernel_rfl) (fun a' w' hb hs hd hp => rs_op fun K hK => by
      have e1 := (hs.get 3 (by kernel_rfl)).trans (show _ = Value.pointer (some ⟨w.heap.size, 0, none⟩) from rfl)
      have c0 := keep hb a0_10
      have c1 := keep hb a1_10
      clear hs hd hp
      unfold Oper.wp
      generalize a'.eval = ρ at e1 ⊢
      simp [go_sem, e1, c0, c1]
      exact hK _ _ (Below.refl _ _) rfl trivial)) <|
        allOps_cons (rs_not (by kernel_rfl) (fun a' w' hb hs hd hp => by
      exact rs_fn (φ := (mpCp na da ka).p) (ψ := (fun _ => True)) (vs := #[.agg #[.slice A na ca, .int .i64 da]]) rfl (enters_of Tryz.func14 (by kernel_rfl) rfl) (by simp [(show a'.eval (.tmp 239) = .agg #[.slice A na ca, .int .i64 da] from RDeps.get (hd (by kernel_rfl)) 0 239 (by kernel_rfl) (by kernel_rfl))]) ((copyT_any A na ca da ka w' (by omega) HA0.out (HA_10.out.bel hb)).mono (by rintro e w1 ⟨X, c1, rfl, hk, h1⟩; exact ⟨_, rfl, h1, ⟨X, c1, rfl, hk⟩, trivial⟩)))) <|
        allOps_cons (rs_not (by kernel_rfl) (fun a' w' hb hs hd hp => rs_op fun K hK => by
      have e1 := (hs.get 4 (by kernel_rfl)).trans (show _ = Value.pointer (some ⟨w.heap.size + 1, 0, none⟩) from rfl)
      have c0 := keep hb b0_10
      have c1 := keep hb b1_10
      clear hs hd hp
      unfold Oper.wp
      generalize a'.eval = ρ at e1 ⊢
      simp [go_sem, e1, c0, c1]
      exact hK _ _ (Below.refl _ _) rfl trivial)) <|
        allOps_cons (rs_not (by kernel_rfl) (fun a' w' hb hs hd hp => by
      exact rs_fn (φ := (mpCp nb db kb).p) (ψ := (fun _ => True)) (vs := #[.agg #[.slice B nb cb, .int .i64 db]]) rfl (enters_of Tryz.func14 (by kernel_rfl) rfl) (by simp [(show a'.eval (.tmp 241) = .agg #[.slice B nb cb, .int .i64 db] from RDeps.get (hd (by kernel_rfl)) 2 241 (by kernel_rfl) (by kernel_rfl))]) ((copyT_any B nb cb db kb w' (by omega) HB0.out (HB_10.out.bel hb)).mono (by rintro e w1 ⟨X, c1, rfl, hk, h1⟩; exact ⟨_, rfl, h1, ⟨X, c1, rfl, hk⟩, trivial⟩)))) <|
        allOps_cons (rs_not (by kernel_rfl) (fun a' w' hb hs hd hp => rs_op fun K hK => by
      have e1 := (hs.get 2 (by kernel_rfl)).trans (show _ = .int .i64 s from rfl)
      clear hs hd hp
      unfold Oper.wp
      generalize a'.eval = ρ at e1 ⊢
      simp [go_sem, e1]
      exact hK _ _ (Below.refl _ _) rfl trivial)) <|
        allOps_cons (rs_not (by kernel_rfl) (fun a' w' hb hs hd hp => by
      obtain ⟨X1, c1, e1, k1⟩ := (show (mpCp na da ka).p (a'.eval (.tmp 240)) w' from RDeps.get (hd (by kernel_rfl)) 1 240 (by kernel_rfl) (by kernel_rfl))
      obtain ⟨X2, c2, e2, k2⟩ := (show (mpCp nb db kb).p (a'.eval (.tmp 242)) w' from RDeps.get (hd (by kernel_rfl)) 3 242 (by kernel_rfl) (by kernel_rfl))
      exact rs_fn (φ := (mpEq (.tuple #[.agg #[.int .i64 tL, .int .i64 tH], .int .i64 R])).p) (ψ := (fun _ => True)) (vs := #[.agg #[.slice X1 na c1, .int .i64 da], .agg #[.slice X2 nb c2, .int .i64 db], .int .i64 s]) rfl (enters_of Tryz.func31 (by kernel_rfl) rfl) (by simp [e1, e2, (show a'.eval (.tmp 243) = .int .i64 s from RDeps.get (hd (by kernel_rfl)) 4 243 (by kernel_rfl) (by kernel_rfl))]) ((KRT.out w' X1 c1 X2 c2 k1 k2).mono (by rintro e w1 ⟨rfl, h1⟩; exact ⟨_, rfl, h1, rfl, trivial⟩)))) <|
        allOps_cons (rs_not (by kernel_rfl) (fun a' w' hb hs hd hp => rs_op fun K hK => by
      have e1 := (show a'.eval (.tmp 244) = .tuple #[.agg #[.int .i64 tL, .int .i64 tH], .int .i64 R] from RDeps.get (hd (by kernel_rfl)) 5 244 (by kernel_rfl) (by kernel_rfl))
      clear hs hd hp
      unfold Oper.wp
      generalize a'.eval = ρ at e1 ⊢
      simp [go_sem, e1]
      exact hK _ _ (Below.refl _ _) rfl rfl)) <|
        allOps_cons (rs_not (by kernel_rfl) (fun a' w' hb hs hd hp => rs_op fun K hK => by
      have e1 := (show a'.eval (.tmp 238) = .tuple #[.agg #[.int .i64 tL, .int .i64 tH], .int .i64 R] from RDeps.get (hd (by kernel_rfl)) 6 238 (by kernel_rfl) (by kernel_rfl))
      clear hs hd hp
      unfold Oper.wp
      generalize a'.eval = ρ at e1 ⊢
      simp [go_sem, e1]
      exact hK _ _ (Below.refl _ _) rfl trivial)) <|
        allOps_cons (rs_not (by kernel_rfl) (fun a' w' hb hs hd hp => rs_op fun K hK => by
      have e1 := (show a'.eval (.tmp 238) = .tuple #[.agg #[.int .i64 tL, .int .i64 tH], .int .i64 R] from hp.get 6 238 (by kernel_rfl) (by kernel_rfl))
      clear hs hd hp
      unfold Oper.wp
      generalize a'.eval = ρ at e1 ⊢
      simp [go_sem, e1]
      exact hK _ _ (Below.refl _ _) trivial rfl)) <|
        allOps_cons (rs_not (by kernel_rfl) (fun a' w' hb hs hd hp => rs_op fun K hK => by
      have hz := hb.size
      clear hs hd hp
      unfold Oper.wp
      generalize a'.eval = ρ
      simp [go_sem]
      exact hK _ _ ((Below.refl _ _).alloc (Nat.le_refl _) _) ⟨_, rfl, hz, by simp [go_sem], by simp [go_sem], by simp [go_sem], by simp [go_sem]⟩ trivial)) <|
        allOps_cons (rs_is (by kernel_rfl) (fun a' w' hb hs hd => rs_st rfl fun K hK => by
      obtain ⟨q, e1, z1, c0, c1, f0, f1⟩ := (show (mpNew (y10).heap.size).p (a'.eval (.tmp 14)) w' from hd.get 9 14 (by kernel_rfl) (by kernel_rfl))
      have e2 := (show a'.eval (.tmp 245) = .agg #[.int .i64 (tL), .int .i64 (tH)] from hd.get 7 245 (by kernel_rfl) (by kernel_rfl))
      have hz := lt_of c0
      clear hs hd
      unfold Oper.wp
      generalize a'.eval = ρ at e1 e2 hK ⊢
      simp [go_sem, e1, e2, c0, c1, f0, f1]
      exact hK _ (Below.setCell (Below.setCell hb z1 _) z1 _) ⟨q, e1, z1, by simp [go_sem, c0], by simp [go_sem, c1], by simp [go_sem, f0], by simp [go_sem, f1]⟩)) <|
        allOps_cons (rs_not (by kernel_rfl) (fun a' w' hb hs hd hp => rs_op fun K hK => by
      have e1 := (show a'.eval (.tmp 246) = .int .i64 R from hp.get 8 246 (by kernel_rfl) (by kernel_rfl))
      clear hs hd hp
      unfold Oper.wp
      generalize a'.eval = ρ at e1 ⊢
      simp [go_sem, e1]
      exact hK _ _ (Below.refl _ _) trivial rfl)) <| allOps_nil) (fun V10 y11 hb10 hall hv => ?_)
    have h8 : V10 15 = .int .i64 R := hall.get 11 rfl (by decide)
    obtain ⟨t, h7, _, t0_11, t1_11, _, _⟩ := hv
    clear hall
    simp only [mk8, maskPut, Nat.reduceAdd]
    rw [h7, h8]
    clear h7 h8
    have a0_11 := keep hb10 a0_10
    have a1_11 := keep hb10 a1_10
    have b0_11 := keep hb10 b0_10
    have b1_11 := keep hb10 b1_10
    have q0_11 := keep hb10 q0_10
    have q1_11 := keep hb10 q1_10
    have p0_11 := keep hb10 p0_10
    have p1_11 := keep hb10 p1_10
    have B_11 := Lib.hid (thenB B_10.out hb10)
    have HA_11 := Lib.hid (HA.out.bel B_11.out)
    have HB_11 := Lib.hid (HB.out.bel B_11.out)
    clear hb10 B_10 HA_10 HB_10 a0_10 a1_10 b0_10 b1_10 q0_10 q1_10 p0_10 p1_10
    by_cases hi : R = 0
    · subst hi
      obtain ⟨t1, t2, t3, t4⟩ := t0 rfl
      have d3 : decide (s ≤ tL) = true := by simp; omega
      have d4 : decide (tL ≤ tH) = true := by simp; omega
      have d5 : decide (Lo ≤ tL) = true := by simp; omega
      have d6 : decide (Hi ≤ tH) = true := by simp; omega
      clear t1 t2 t3 t4 t0
      go_wp2_with (first
        | (go_at_call 32; (with_reducible refine Calls.mono (KRR.out _ HA_11.out HB_11.out) ?_); rintro e y12 ⟨rfl, hb11⟩; have q0_12 := keep hb11 q0_11; have q1_12 := keep hb11 q1_11; have t0_12 := keep hb11 t0_11; have t1_12 := keep hb11 t1_11; have B_12 := Lib.hid (thenB B_11.out hb11); clear hb11)
        | fail)
      go_ret
      exact ⟨ret_bool (by simp), by have Bq := B_12.out; have Bz := Bq.size; (repeat (first | with_reducible exact Below.refl _ _ | with_reducible assumption | with_reducible refine Below.alloc ?_ (by first | (simp; done) | (simp; omega) | omega) _ | with_reducible refine Below.setCell ?_ (by first | (simp; done) | (simp; omega) | omega) _ | with_reducible refine Below.drew ?_ | with_reducible refine below_drewN ?_ _))⟩
    · have d3 : (R != 0) = true := by simpa using hi
      clear hi t0
      go_wp2_with (first
        | (go_at_call 32; (with_reducible refine Calls.mono (KRR.out _ HA_11.out HB_11.out) ?_); rintro e y12 ⟨rfl, hb11⟩; have q0_12 := keep hb11 q0_11; have q1_12 := keep hb11 q1_11; have t0_12 := keep hb11 t0_11; have t1_12 := keep hb11 t1_11; have B_12 := Lib.hid (thenB B_11.out hb11); clear hb11)
        | fail)
      go_ret
      exact ⟨ret_bool (by simp), by have Bq := B_12.out; have Bz := Bq.size; (repeat (first | with_reducible exact Below.refl _ _ | with_reducible assumption | with_reducible refine Below.alloc ?_ (by first | (simp; done) | (simp; omega) | omega) _ | with_reducible refine Below.setCell ?_ (by first | (simp; done) | (simp; omega) | omega) _ | with_reducible refine Below.drew ?_ | with_reducible refine below_drewN ?_ _))⟩
end Go.Proofs.YtnfoagcpgegldaaGreat
