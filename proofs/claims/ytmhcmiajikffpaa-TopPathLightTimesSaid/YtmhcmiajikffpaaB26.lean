/- Helpers: TopPathLightTimes where the known tracks are no valid ones. No condition but the hypotheses. -/
import Derived.Test.YtmhcmiajikffpaaB25
namespace Go.Proofs.Ytmhcmiajikffpaa
open Go.RowKit Go.Shelf Go.Sort
attribute [local go_sem] idx3_0 idx3_1 idx3_2 old1 fro1 old2 fro2 old3 fro3 old4 fro4 old5 fro5 old6 fro6 old7 fro7 old8 fro8 old9 fro9 old10 fro10 old11 fro11 old12 fro12
def my1 : List Bool := [false, false, false, false, false, true, true, false, false, false, false, false, false, false, false, false, false, false, false, false, false, false, false, false, false, false, false, false, false, false, false, false, false, false, false, false, false, false, false, false, false, false, false, false, false, false, false, false, false, false, false, false, false, false, false, false, false, false, false, false, false, false, false, false, false, false, false, false, false, false, false, false, false, false, false, false, false, false, false, false, false, false, false, false, false, true, true, true, true, true, true, true, true, true, true, true, true, true, true, true, true, false, false, false, false, false, false, false, false, false, false, false, false, false, false, false, false, false, false, false, false, false, false, false, false, false, false, false, false, false, false, false, false, false, false, false, false, false, false, false, false, false, false, false, false, false, false, false, false, false, false, false, false, false, false, false, false, false, false, false, false, false, false, false, false, false, false, false, false, false, false, false, false, false, false, false, false, false, false, false, false, false, false, false, false, false, false, false, false, false, false, false, false, false, false, false, false, false, false, false, false, false, false, false, false, false, false, false, false, false, false, false, false, false, false, false, false, false, false, false, false, false, false, false, false, false, false, false, false]
abbrev TK (V0 : World) (na nb : Nat) (m0 m1 x0 y0 z0 x1 y1 z1 : Int) (kc kd : Nat → Knot) (w : World) (XA XB : Option Addr) (cA cB : Nat) (L : Nat → Bool) (V : Nat → Value) (W : World) : Prop :=
  Below V0.heap.size V0 W ∧ (L 0 = true → V 85 = .agg #[.slice XA na cA, .int .i64 0]) ∧ (L 1 = true → V 86 = .pointer (some ⟨w.heap.size, 6, none⟩)) ∧ (L 2 = true → V 87 = .pointer (some ⟨w.heap.size, 6, none⟩)) ∧ (L 3 = true → V 88 = .agg #[.int .i64 x0, .int .i64 y0, .int .i64 z0]) ∧ (L 4 = true → V 89 = .pointer (some ⟨w.heap.size, 4, none⟩)) ∧ (L 5 = true → V 90 = .pointer (some ⟨w.heap.size, 4, none⟩)) ∧ (L 6 = true → V 91 = .int .i64 m0) ∧ (L 8 = true → V 93 = .agg #[.slice XB nb cB, .int .i64 0]) ∧ (L 9 = true → V 94 = .pointer (some ⟨w.heap.size, 6, none⟩)) ∧ (L 10 = true → V 95 = .pointer (some ⟨w.heap.size, 9, none⟩)) ∧ (L 11 = true → V 96 = .agg #[.int .i64 x1, .int .i64 y1, .int .i64 z1]) ∧ (L 12 = true → V 97 = .pointer (some ⟨w.heap.size, 4, none⟩)) ∧ (L 13 = true → V 98 = .pointer (some ⟨w.heap.size, 5, none⟩)) ∧ (L 14 = true → V 99 = .int .i64 m1) ∧ ∃ X Y c e p q, TwoV V0.heap.size na nb m0 m1 kc kd (L 7) (L 15) (L 16) (L 17) (L 18) (L 19) (V 92) (V 100) (V 5) (V 6) X Y c e p q W
set_option maxRecDepth 100000 in
set_option maxHeartbeats 8000000 in
theorem tp_e8 (A B : Option Addr) (na nb ca cb : Nat) (da db m0 m1 x0 y0 z0 x1 y1 z1 s : Int) (ka kb : Nat → Knot) (w : World) (hna : na ≤ 4398046510976) (hnb : nb ≤ 4398046510976) (hA0 : A = none → na = 0 ∧ ca = 0) (hB0 : B = none → nb = 0 ∧ cb = 0) (hA : KA w A na ka) (hB : KA w B nb kb) (kc kd : Nat → Knot) {D : Int} (hFa : ∀ W X cx, Calls Try.prog 8 #[.agg #[.slice X na cx, .int .i64 0]] W fun e w' => e = .returned (.bool true) ∧ Below W.heap.size W w') (hFb : ∀ W X cx, Calls Try.prog 8 #[.agg #[.slice X nb cx, .int .i64 0]] W fun e w' => e = .returned (.bool true) ∧ Below W.heap.size W w') (hBE : ∀ W X cx Y cy, KA W X na ka → KA W Y nb kb → Calls Try.prog 9 #[.agg #[.slice X na cx, .int .i64 0], .agg #[.slice Y nb cy, .int .i64 0]] W fun e w' => e = .returned (.int .i64 0) ∧ Below W.heap.size W w') (v0 : wi m0 0 1000 = true) (v1 : wi m1 0 1000 = true) (hW0 : ∀ W, Calls Try.prog 28 #[.agg #[.int .i64 x0, .int .i64 y0, .int .i64 z0], .int .i64 m0] W fun e w' => e = .returned (.bool true) ∧ Below W.heap.size W w') (hW1 : ∀ W, Calls Try.prog 28 #[.agg #[.int .i64 x1, .int .i64 y1, .int .i64 z1], .int .i64 m1] W fun e w' => e = .returned (.bool true) ∧ Below W.heap.size W w') (hTE : ∀ W X cx Y cy, KA W X na ka → KA W Y nb kb → Calls Try.prog 11 #[.agg #[.slice X na cx, .int .i64 0], .agg #[.slice Y nb cy, .int .i64 0], .int .i64 s] W fun e w' => e = .returned (.int .i64 0) ∧ Below W.heap.size W w') (hSa : ∀ W X cx, KA W X na ka → Calls Try.prog 29 #[.agg #[.slice X na cx, .int .i64 0], .agg #[.int .i64 x0, .int .i64 y0, .int .i64 z0], .int .i64 m0] W fun e w' => ∃ X1 c1, e = .returned (.agg #[.slice X1 na c1, .int .i64 m0]) ∧ KA w' X1 na kc ∧ (0 < na → W.heap.size ≤ ob X1) ∧ Below W.heap.size W w') (hSb : ∀ W X cx, KA W X nb kb → Calls Try.prog 29 #[.agg #[.slice X nb cx, .int .i64 0], .agg #[.int .i64 x1, .int .i64 y1, .int .i64 z1], .int .i64 m1] W fun e w' => ∃ X1 c1, e = .returned (.agg #[.slice X1 nb c1, .int .i64 m1]) ∧ KA w' X1 nb kd ∧ (0 < nb → W.heap.size ≤ ob X1) ∧ Below W.heap.size W w') (hBC : ∀ W X cx Y cy, KA W X na kc → KA W Y nb kd → Calls Try.prog 9 #[.agg #[.slice X na cx, .int .i64 m0], .agg #[.slice Y nb cy, .int .i64 m1]] W fun e w' => e = .returned (.int .i64 D) ∧ Below W.heap.size W w') (hD : D ≠ 0) :
    Calls Try.prog 5 #[.agg #[.slice A na ca, .int .i64 da, .slice B nb cb, .int .i64 db, .int .i64 m0, .int .i64 m1, .int .i64 x0, .int .i64 y0, .int .i64 z0, .int .i64 x1, .int .i64 y1, .int .i64 z1, .int .i64 s]] w fun e w' => e = .returned (.bool true) ∧ Below w.heap.size w w' := by
  have HA0 := Lib.hid hA0
  have HB0 := Lib.hid hB0
  have HA := Lib.hid hA
  have HB := Lib.hid hB
  have HFa := Lib.hid hFa
  have HFb := Lib.hid hFb
  have HBE := Lib.hid hBE
  have HW0 := Lib.hid hW0
  have HW1 := Lib.hid hW1
  have HTE := Lib.hid hTE
  have HSa := Lib.hid hSa
  have HSb := Lib.hid hSb
  have HBC := Lib.hid hBC
  have g0 : (D == 0) = false := by simp [hD]
  have g1 : (D != 0) = true := by simp [hD]
  clear hD
  clear hA hB hA0 hB0 hFa hFb hBE hW0 hW1 hTE hSa hSb hBC
  go_enter Try.func5, Try.ntmps5
  go_wp2_with (go_at_call 27; (with_reducible refine Calls.mono (pathAwake_any _) ?_); rintro e w1 ⟨rfl, hb1⟩; have B1 := Lib.hid (thenB (show Below w.heap.size w _ by (repeat (first | with_reducible exact Below.refl _ _ | with_reducible assumption | with_reducible refine Below.alloc ?_ (by first | (simp; done) | (simp; omega) | omega) _ | with_reducible refine Below.setCell ?_ (by first | (simp; done) | (simp; omega) | omega) _ | with_reducible refine Below.drew ?_ | with_reducible refine below_drewN ?_ _))) hb1); have l0_ := keep hb1 (b := w.heap.size) (o := 0) (v := .slice A na ca) (by simp [go_sem]); have l1_ := keep hb1 (b := w.heap.size) (o := 1) (v := .int .i64 da) (by simp [go_sem]); have l2_ := keep hb1 (b := w.heap.size) (o := 2) (v := .slice B nb cb) (by simp [go_sem]); have l3_ := keep hb1 (b := w.heap.size) (o := 3) (v := .int .i64 db) (by simp [go_sem]); have l4_ := keep hb1 (b := w.heap.size) (o := 4) (v := .int .i64 m0) (by simp [go_sem]); have l5_ := keep hb1 (b := w.heap.size) (o := 5) (v := .int .i64 m1) (by simp [go_sem]); have l6_ := keep hb1 (b := w.heap.size) (o := 6) (v := .int .i64 x0) (by simp [go_sem]); have l7_ := keep hb1 (b := w.heap.size) (o := 7) (v := .int .i64 y0) (by simp [go_sem]); have l8_ := keep hb1 (b := w.heap.size) (o := 8) (v := .int .i64 z0) (by simp [go_sem]); have l9_ := keep hb1 (b := w.heap.size) (o := 9) (v := .int .i64 x1) (by simp [go_sem]); have l10_ := keep hb1 (b := w.heap.size) (o := 10) (v := .int .i64 y1) (by simp [go_sem]); have l11_ := keep hb1 (b := w.heap.size) (o := 11) (v := .int .i64 z1) (by simp [go_sem]); have l12_ := keep hb1 (b := w.heap.size) (o := 12) (v := .int .i64 s) (by simp [go_sem]); clear hb1)
  have HA_ := Lib.hid (HA.out.bel B1.out)
  have HB_ := Lib.hid (HB.out.bel B1.out)
  refine wp_region_inv my0 (by kernel_rfl) (TJ w1 na nb da db ka kb (.pointer (some ⟨w.heap.size, 0, none⟩)) (.agg #[.slice A na ca, .int .i64 da]) (.pointer (some ⟨w.heap.size, 2, none⟩)) (.agg #[.slice B nb cb, .int .i64 db])) rfl (by kernel_rfl) ⟨(Below.refl _ _).drew, nofun, nofun, nofun, nofun, none, none, 0, 0, 0, 0, TwoV.start⟩ (allOps_cons (fun L a' w' hL hD hs hJ K hK => by
    obtain ⟨hb, h0, h1, h3, h4, X, Y, c, e, p, q, hT⟩ := hJ
    have e1 := (hs.get 1 (by kernel_rfl)).trans (show _ = Value.pointer (some ⟨w.heap.size, 0, none⟩) from rfl)
    unfold Oper.wp
    generalize a'.eval = ρ at e1 ⊢
    simp [go_sem, e1]
    exact hK _ _ ⟨hb, fun _ => rfl, h1, h3, h4, X, Y, c, e, p, q, hT⟩) <|
      allOps_cons (fun L a' w' hL hD hs hJ K hK => by
    obtain ⟨hb, h0, h1, h3, h4, X, Y, c, e, p, q, hT⟩ := hJ
    have e1 : a'.eval (.tmp 21) = .pointer (some ⟨w.heap.size, 0, none⟩) := h0 (dep_of hD 0 (by kernel_rfl))
    have c0 := keep hb l0_
    have c1 := keep hb l1_
    unfold Oper.wp
    generalize a'.eval = ρ at e1 ⊢
    simp [go_sem, e1, c0, c1]
    exact hK _ _ ⟨hb, h0, fun _ => rfl, h3, h4, X, Y, c, e, p, q, hT⟩) <|
      allOps_cons (fun L a' w' hL hD hs hJ K hK => by
    obtain ⟨hb, h0, h1, h3, h4, X, Y, c, e, p, q, hT⟩ := hJ
    have e1 : a'.eval (.tmp 22) = .agg #[.slice A na ca, .int .i64 da] := h1 (dep_of hD 1 (by kernel_rfl))
    refine Oper.wp_mono ?_ (rg_fn (φ := fun v w'' => ∃ X1 c1, v = .agg #[.slice X1 na c1, .int .i64 da] ∧ KA w'' X1 na ka ∧ (0 < na → w'.heap.size ≤ ob X1)) (vs := #[.agg #[.slice A na ca, .int .i64 da]]) rfl (enters_of Try.func14 (by kernel_rfl) rfl) (by simp [e1]) ((copyT_new A na ca da ka w' (by omega) HA0.out (HA_.out.bel hb)).mono (by rintro e w1 ⟨X1, c1, rfl, hk, hn, h⟩; exact ⟨_, rfl, h, X1, c1, rfl, hk, hn⟩)))
    rintro a'' w'' ⟨v, rfl, h, X1, c1, rfl, hk, hn⟩
    exact hK _ _ ⟨belowT hb h, h0, h1, h3, h4, X1, Y, c1, e, p, q, hT.copyA hL h hk hn⟩) <|
      allOps_cons (fun L a' w' hL hD hs hJ K hK => by
    obtain ⟨hb, h0, h1, h3, h4, X, Y, c, e, p, q, hT⟩ := hJ
    have e1 := (hs.get 1 (by kernel_rfl)).trans (show _ = Value.pointer (some ⟨w.heap.size, 0, none⟩) from rfl)
    unfold Oper.wp
    generalize a'.eval = ρ at e1 ⊢
    simp [go_sem, e1]
    exact hK _ _ ⟨hb, h0, h1, fun _ => rfl, h4, X, Y, c, e, p, q, hT⟩) <|
      allOps_cons (fun L a' w' hL hD hs hJ K hK => by
    obtain ⟨hb, h0, h1, h3, h4, X, Y, c, e, p, q, hT⟩ := hJ
    have e1 : a'.eval (.tmp 24) = .pointer (some ⟨w.heap.size, 2, none⟩) := h3 (dep_of hD 3 (by kernel_rfl))
    have c0 := keep hb l2_
    have c1 := keep hb l3_
    unfold Oper.wp
    generalize a'.eval = ρ at e1 ⊢
    simp [go_sem, e1, c0, c1]
    exact hK _ _ ⟨hb, h0, h1, h3, fun _ => rfl, X, Y, c, e, p, q, hT⟩) <|
      allOps_cons (fun L a' w' hL hD hs hJ K hK => by
    obtain ⟨hb, h0, h1, h3, h4, X, Y, c, e, p, q, hT⟩ := hJ
    have e1 : a'.eval (.tmp 25) = .agg #[.slice B nb cb, .int .i64 db] := h4 (dep_of hD 4 (by kernel_rfl))
    refine Oper.wp_mono ?_ (rg_fn (φ := fun v w'' => ∃ X1 c1, v = .agg #[.slice X1 nb c1, .int .i64 db] ∧ KA w'' X1 nb kb ∧ (0 < nb → w'.heap.size ≤ ob X1)) (vs := #[.agg #[.slice B nb cb, .int .i64 db]]) rfl (enters_of Try.func14 (by kernel_rfl) rfl) (by simp [e1]) ((copyT_new B nb cb db kb w' (by omega) HB0.out (HB_.out.bel hb)).mono (by rintro e w1 ⟨X1, c1, rfl, hk, hn, h⟩; exact ⟨_, rfl, h, X1, c1, rfl, hk, hn⟩)))
    rintro a'' w'' ⟨v, rfl, h, Y1, c1, rfl, hk, hn⟩
    exact hK _ _ ⟨belowT hb h, h0, h1, h3, h4, X, Y1, c, c1, p, q, hT.copyB hL h hk hn⟩) <|
      allOps_cons (fun L a' w' hL hD hs hJ K hK => by
    obtain ⟨hb, h0, h1, h3, h4, X, Y, c, e, p, q, hT⟩ := hJ
    unfold Oper.wp
    generalize a'.eval = ρ
    simp [go_sem]
    exact hK _ _ ⟨hb.alloc hb.size _, h0, h1, h3, h4, X, Y, c, e, _, q, hT.newA hL hb.size⟩) <|
      allOps_cons (fun L a' w' hL hD hs hJ K hK => by
    obtain ⟨hb, h0, h1, h3, h4, X, Y, c, e, p, q, hT⟩ := hJ
    unfold Oper.wp
    generalize a'.eval = ρ
    simp [go_sem]
    exact hK _ _ ⟨hb.alloc hb.size _, h0, h1, h3, h4, X, Y, c, e, p, _, hT.newB hL hb.size⟩) <|
      allOps_cons (fun L a' w' hL hD hs hJ K hK => by
    obtain ⟨hb, h0, h1, h3, h4, X, Y, c, e, p, q, hT⟩ := hJ
    have dc : L 2 = true := dep_of hD 2 (by kernel_rfl)
    have dp : L 6 = true := dep_of hD 6 (by kernel_rfl)
    have hn := hT.nA dp
    have e1 : a'.eval (.tmp 3) = .pointer (some ⟨p, 0, none⟩) := hn.val
    have e2 : a'.eval (.tmp 23) = .agg #[.slice X na c, .int .i64 da] := (hT.cA dc).1
    have f0 := hn.f0
    have f1 := hn.f1
    obtain ⟨v0, c0⟩ := Option.isSome_iff_exists.1 hn.c0
    obtain ⟨v1, c1⟩ := Option.isSome_iff_exists.1 hn.c1
    unfold Oper.wp
    generalize a'.eval = ρ at e1 e2 ⊢
    simp [go_sem, e1, e2, f0, f1, c0, c1]
    exact hK undef _ ⟨(hb.setCell hn.new _).setCell hn.new _, h0, h1, h3, h4, X, Y, c, e, p, q, hT.stoA dc dp⟩) <|
      allOps_cons (fun L a' w' hL hD hs hJ K hK => by
    obtain ⟨hb, h0, h1, h3, h4, X, Y, c, e, p, q, hT⟩ := hJ
    have dc : L 5 = true := dep_of hD 5 (by kernel_rfl)
    have dp : L 7 = true := dep_of hD 7 (by kernel_rfl)
    have hn := hT.nB dp
    have e1 : a'.eval (.tmp 4) = .pointer (some ⟨q, 0, none⟩) := hn.val
    have e2 : a'.eval (.tmp 26) = .agg #[.slice Y nb e, .int .i64 db] := (hT.cB dc).1
    have f0 := hn.f0
    have f1 := hn.f1
    obtain ⟨v0, c0⟩ := Option.isSome_iff_exists.1 hn.c0
    obtain ⟨v1, c1⟩ := Option.isSome_iff_exists.1 hn.c1
    unfold Oper.wp
    generalize a'.eval = ρ at e1 e2 ⊢
    simp [go_sem, e1, e2, f0, f1, c0, c1]
    exact hK undef _ ⟨(hb.setCell hn.new _).setCell hn.new _, h0, h1, h3, h4, X, Y, c, e, p, q, hT.stoB dc dp⟩) <| allOps_nil) (fun L V V1 hall hJ => ?_)
  obtain ⟨hb, -, -, -, -, XA, XB, cA, cB, pa, pb, hT⟩ := hJ
  have n1 := hT.nA (hall 6 (by kernel_rfl))
  have n2 := hT.nB (hall 7 (by kernel_rfl))
  obtain ⟨W2, hW2, zA, zB, a0_2, a1_2, b0_2, b1_2, hb2⟩ := hT.zero (hall 2 (by kernel_rfl)) (hall 5 (by kernel_rfl)) (hall 6 (by kernel_rfl)) (hall 7 (by kernel_rfl)) (hall 8 (by kernel_rfl)) (hall 9 (by kernel_rfl)) hb
  simp only [my0, maskPut, Nat.reduceAdd]
  rw [n1.val, n2.val]
  have fz1 := n1.f1
  have fz2 : (V1.setCell ⟨pa, 1, none⟩ (.int .i64 0)).frozen? ⟨pb, 1, none⟩ = false := (World.frozen?_setCell _ _ _ _).trans n2.f1
  obtain ⟨q9, x1c⟩ := Option.isSome_iff_exists.1 n1.c1
  obtain ⟨q8, x2c⟩ := Option.isSome_iff_exists.1 (someS (b := ⟨pa, 1, none⟩) (v := .int .i64 0) n2.c1)
  clear hT hall n1 n2 hb
  go_upto_region 5 with fail
  rw [← hW2]
  have BV := Lib.hid (thenB B1.out hb2)
  have l4_2 := keep hb2 l4_
  have l5_2 := keep hb2 l5_
  have l6_2 := keep hb2 l6_
  have l7_2 := keep hb2 l7_
  have l8_2 := keep hb2 l8_
  have l9_2 := keep hb2 l9_
  have l10_2 := keep hb2 l10_
  have l11_2 := keep hb2 l11_
  have l12_2 := keep hb2 l12_
  clear hb2 hW2 fz1 fz2 x1c x2c l0_ l1_ l2_ l3_ l4_ l5_ l6_ l7_ l8_ l9_ l10_ l11_ l12_ HA_ HB_ B1 HA HB
  clear V1
  clear w1
  have HXA := Lib.hid zA
  have HXB := Lib.hid zB
  have C2 := Lib.hid (Below.refl W2.heap.size W2)
  clear zA zB
  go_wp2_with (first
    | (go_at_call 8; (with_reducible refine Calls.mono (HFa.out _ XA cA) ?_); rintro e w3 ⟨rfl, hb3⟩; have C3 := Lib.hid (thenB C2.out hb3); have a0_3 := keep hb3 a0_2; have a1_3 := keep hb3 a1_2; have b0_3 := keep hb3 b0_2; have b1_3 := keep hb3 b1_2; have l4_3 := keep hb3 l4_2; have l5_3 := keep hb3 l5_2; have l6_3 := keep hb3 l6_2; have l7_3 := keep hb3 l7_2; have l8_3 := keep hb3 l8_2; have l9_3 := keep hb3 l9_2; have l10_3 := keep hb3 l10_2; have l11_3 := keep hb3 l11_2; have l12_3 := keep hb3 l12_2; clear hb3)
    | (go_at_call 8; (with_reducible refine Calls.mono (HFb.out _ XB cB) ?_); rintro e w4 ⟨rfl, hb4⟩; have C4 := Lib.hid (thenB C3.out hb4); have a0_4 := keep hb4 a0_3; have a1_4 := keep hb4 a1_3; have b0_4 := keep hb4 b0_3; have b1_4 := keep hb4 b1_3; have l4_4 := keep hb4 l4_3; have l5_4 := keep hb4 l5_3; have l6_4 := keep hb4 l6_3; have l7_4 := keep hb4 l7_3; have l8_4 := keep hb4 l8_3; have l9_4 := keep hb4 l9_3; have l10_4 := keep hb4 l10_3; have l11_4 := keep hb4 l11_3; have l12_4 := keep hb4 l12_3; clear hb4)
    | (go_at_call 9; (with_reducible refine Calls.mono (HBE.out _ XA cA XB cB (HXA.out.bel C4.out) (HXB.out.bel C4.out)) ?_); rintro e w5 ⟨rfl, hb5⟩; have C5 := Lib.hid (thenB C4.out hb5); have a0_5 := keep hb5 a0_4; have a1_5 := keep hb5 a1_4; have b0_5 := keep hb5 b0_4; have b1_5 := keep hb5 b1_4; have l4_5 := keep hb5 l4_4; have l5_5 := keep hb5 l5_4; have l6_5 := keep hb5 l6_4; have l7_5 := keep hb5 l7_4; have l8_5 := keep hb5 l8_4; have l9_5 := keep hb5 l9_4; have l10_5 := keep hb5 l10_4; have l11_5 := keep hb5 l11_4; have l12_5 := keep hb5 l12_4; clear hb5)
    | (go_at_call 28; (with_reducible refine Calls.mono (HW0.out _) ?_); rintro e w6 ⟨rfl, hb6⟩; have C6 := Lib.hid (thenB C5.out hb6); have a0_6 := keep hb6 a0_5; have a1_6 := keep hb6 a1_5; have b0_6 := keep hb6 b0_5; have b1_6 := keep hb6 b1_5; have l4_6 := keep hb6 l4_5; have l5_6 := keep hb6 l5_5; have l6_6 := keep hb6 l6_5; have l7_6 := keep hb6 l7_5; have l8_6 := keep hb6 l8_5; have l9_6 := keep hb6 l9_5; have l10_6 := keep hb6 l10_5; have l11_6 := keep hb6 l11_5; have l12_6 := keep hb6 l12_5; clear hb6)
    | (go_at_call 28; (with_reducible refine Calls.mono (HW1.out _) ?_); rintro e w7 ⟨rfl, hb7⟩; have C7 := Lib.hid (thenB C6.out hb7); have a0_7 := keep hb7 a0_6; have a1_7 := keep hb7 a1_6; have b0_7 := keep hb7 b0_6; have b1_7 := keep hb7 b1_6; have l4_7 := keep hb7 l4_6; have l5_7 := keep hb7 l5_6; have l6_7 := keep hb7 l6_6; have l7_7 := keep hb7 l7_6; have l8_7 := keep hb7 l8_6; have l9_7 := keep hb7 l9_6; have l10_7 := keep hb7 l10_6; have l11_7 := keep hb7 l11_6; have l12_7 := keep hb7 l12_6; clear hb7)
    | (go_at_call 11; (with_reducible refine Calls.mono (HTE.out _ XA cA XB cB (HXA.out.bel C7.out) (HXB.out.bel C7.out)) ?_); rintro e w8 ⟨rfl, hb8⟩; have C8 := Lib.hid (thenB C7.out hb8); have a0_8 := keep hb8 a0_7; have a1_8 := keep hb8 a1_7; have b0_8 := keep hb8 b0_7; have b1_8 := keep hb8 b1_7; have l4_8 := keep hb8 l4_7; have l5_8 := keep hb8 l5_7; have l6_8 := keep hb8 l6_7; have l7_8 := keep hb8 l7_7; have l8_8 := keep hb8 l8_7; have l9_8 := keep hb8 l9_7; have l10_8 := keep hb8 l10_7; have l11_8 := keep hb8 l11_7; have l12_8 := keep hb8 l12_7; clear hb8)
    | (go_at_call 13; (with_reducible refine (bwithin_any _ _ _ _).mono ?_); rintro e w' ⟨rfl, rfl⟩)
    | fail)
  replace BV := Lib.hid (thenB BV.out C8.out)
  have HXA_ := Lib.hid (HXA.out.bel C8.out)
  have HXB_ := Lib.hid (HXB.out.bel C8.out)
  clear HXA HXB a0_2 a1_2 b0_2 b1_2 l4_2 l5_2 l6_2 l7_2 l8_2 l9_2 l10_2 l11_2 l12_2 a0_3 a1_3 b0_3 b1_3 l4_3 l5_3 l6_3 l7_3 l8_3 l9_3 l10_3 l11_3 l12_3 a0_4 a1_4 b0_4 b1_4 l4_4 l5_4 l6_4 l7_4 l8_4 l9_4 l10_4 l11_4 l12_4 a0_5 a1_5 b0_5 b1_5 l4_5 l5_5 l6_5 l7_5 l8_5 l9_5 l10_5 l11_5 l12_5 a0_6 a1_6 b0_6 b1_6 l4_6 l5_6 l6_6 l7_6 l8_6 l9_6 l10_6 l11_6 l12_6 a0_7 a1_7 b0_7 b1_7 l4_7 l5_7 l6_7 l7_7 l8_7 l9_7 l10_7 l11_7 l12_7 C2 C3 C4 C5 C6 C7 C8
  refine wp_region_inv my1 (by kernel_rfl) (TK w8 na nb m0 m1 x0 y0 z0 x1 y1 z1 kc kd w XA XB cA cB) rfl (by kernel_rfl) ⟨(Below.refl _ _).drew, nofun, nofun, nofun, nofun, nofun, nofun, nofun, nofun, nofun, nofun, nofun, nofun, nofun, nofun, none, none, 0, 0, 0, 0, TwoV.start⟩ (allOps_cons (fun L a' w' hL hD hs hJ K hK => by
    obtain ⟨hb, g0, g1, g2, g3, g4, g5, g6, g8, g9, g10, g11, g12, g13, g14, X, Y, c, e, p, q, hT⟩ := hJ
    have e1 := (hs.get 3 (by kernel_rfl)).trans (show _ = Value.pointer (some ⟨pa, 0, none⟩) from rfl)
    have c0 := keep hb a0_8
    have c1 := keep hb a1_8
    unfold Oper.wp
    generalize a'.eval = ρ at e1 ⊢
    simp [go_sem, e1, c0, c1]
    exact hK _ _ ⟨hb, fun _ => rfl, g1, g2, g3, g4, g5, g6, g8, g9, g10, g11, g12, g13, g14, X, Y, c, e, p, q, hT⟩) <|
      allOps_cons (fun L a' w' hL hD hs hJ K hK => by
    obtain ⟨hb, g0, g1, g2, g3, g4, g5, g6, g8, g9, g10, g11, g12, g13, g14, X, Y, c, e, p, q, hT⟩ := hJ
    have e1 := (hs.get 1 (by kernel_rfl)).trans (show _ = Value.pointer (some ⟨w.heap.size, 0, none⟩) from rfl)
    unfold Oper.wp
    generalize a'.eval = ρ at e1 ⊢
    simp [go_sem, e1]
    exact hK _ _ ⟨hb, g0, fun _ => rfl, g2, g3, g4, g5, g6, g8, g9, g10, g11, g12, g13, g14, X, Y, c, e, p, q, hT⟩) <|
      allOps_cons (fun L a' w' hL hD hs hJ K hK => by
    obtain ⟨hb, g0, g1, g2, g3, g4, g5, g6, g8, g9, g10, g11, g12, g13, g14, X, Y, c, e, p, q, hT⟩ := hJ
    have e1 : a'.eval (.tmp 86) = .pointer (some ⟨w.heap.size, 6, none⟩) := g1 (dep_of hD 1 (by kernel_rfl))
    have ec : a'.eval (.const (.int .i64 0)) = .int .i64 0 := rfl
    unfold Oper.wp
    generalize a'.eval = ρ at e1 ec ⊢
    simp [go_sem, e1, ec]
    exact hK _ _ ⟨hb, g0, g1, fun _ => rfl, g3, g4, g5, g6, g8, g9, g10, g11, g12, g13, g14, X, Y, c, e, p, q, hT⟩) <|
      allOps_cons (fun L a' w' hL hD hs hJ K hK => by
    obtain ⟨hb, g0, g1, g2, g3, g4, g5, g6, g8, g9, g10, g11, g12, g13, g14, X, Y, c, e, p, q, hT⟩ := hJ
    have e1 : a'.eval (.tmp 87) = .pointer (some ⟨w.heap.size, 6, none⟩) := g2 (dep_of hD 2 (by kernel_rfl))
    have c0 := keep hb l6_8
    have c1 := keep hb l7_8
    have c2 := keep hb l8_8
    unfold Oper.wp
    generalize a'.eval = ρ at e1 ⊢
    simp [go_sem, e1, c0, c1, c2]
    exact hK _ _ ⟨hb, g0, g1, g2, fun _ => rfl, g4, g5, g6, g8, g9, g10, g11, g12, g13, g14, X, Y, c, e, p, q, hT⟩) <|
      allOps_cons (fun L a' w' hL hD hs hJ K hK => by
    obtain ⟨hb, g0, g1, g2, g3, g4, g5, g6, g8, g9, g10, g11, g12, g13, g14, X, Y, c, e, p, q, hT⟩ := hJ
    have e1 := (hs.get 1 (by kernel_rfl)).trans (show _ = Value.pointer (some ⟨w.heap.size, 0, none⟩) from rfl)
    unfold Oper.wp
    generalize a'.eval = ρ at e1 ⊢
    simp [go_sem, e1]
    exact hK _ _ ⟨hb, g0, g1, g2, g3, fun _ => rfl, g5, g6, g8, g9, g10, g11, g12, g13, g14, X, Y, c, e, p, q, hT⟩) <|
      allOps_cons (fun L a' w' hL hD hs hJ K hK => by
    obtain ⟨hb, g0, g1, g2, g3, g4, g5, g6, g8, g9, g10, g11, g12, g13, g14, X, Y, c, e, p, q, hT⟩ := hJ
    have e1 : a'.eval (.tmp 89) = .pointer (some ⟨w.heap.size, 4, none⟩) := g4 (dep_of hD 4 (by kernel_rfl))
    have ec : a'.eval (.const (.int .i64 0)) = .int .i64 0 := rfl
    unfold Oper.wp
    generalize a'.eval = ρ at e1 ec ⊢
    simp [go_sem, e1, ec]
    exact hK _ _ ⟨hb, g0, g1, g2, g3, g4, fun _ => rfl, g6, g8, g9, g10, g11, g12, g13, g14, X, Y, c, e, p, q, hT⟩) <|
      allOps_cons (fun L a' w' hL hD hs hJ K hK => by
    obtain ⟨hb, g0, g1, g2, g3, g4, g5, g6, g8, g9, g10, g11, g12, g13, g14, X, Y, c, e, p, q, hT⟩ := hJ
    have e1 : a'.eval (.tmp 90) = .pointer (some ⟨w.heap.size, 4, none⟩) := g5 (dep_of hD 5 (by kernel_rfl))
    have c0 := keep hb l4_8
    unfold Oper.wp
    generalize a'.eval = ρ at e1 ⊢
    simp [go_sem, e1, c0]
    exact hK _ _ ⟨hb, g0, g1, g2, g3, g4, g5, fun _ => rfl, g8, g9, g10, g11, g12, g13, g14, X, Y, c, e, p, q, hT⟩) <|
      allOps_cons (fun L a' w' hL hD hs hJ K hK => by
    obtain ⟨hb, g0, g1, g2, g3, g4, g5, g6, g8, g9, g10, g11, g12, g13, g14, X, Y, c, e, p, q, hT⟩ := hJ
    have e1 : a'.eval (.tmp 85) = .agg #[.slice XA na cA, .int .i64 0] := g0 (dep_of hD 0 (by kernel_rfl))
    have e2 : a'.eval (.tmp 88) = .agg #[.int .i64 x0, .int .i64 y0, .int .i64 z0] := g3 (dep_of hD 3 (by kernel_rfl))
    have e3 : a'.eval (.tmp 91) = .int .i64 m0 := g6 (dep_of hD 6 (by kernel_rfl))
    refine Oper.wp_mono ?_ (rg_fn (φ := fun v w'' => ∃ X1 c1, v = .agg #[.slice X1 na c1, .int .i64 m0] ∧ KA w'' X1 na kc ∧ (0 < na → w'.heap.size ≤ ob X1)) (vs := #[.agg #[.slice XA na cA, .int .i64 0], .agg #[.int .i64 x0, .int .i64 y0, .int .i64 z0], .int .i64 m0]) rfl (enters_of Try.func29 (by kernel_rfl) rfl) (by simp [e1, e2, e3]) ((HSa.out w' XA cA (HXA_.out.bel hb)).mono (by rintro e w1 ⟨X1, c1, rfl, hk, hn, h⟩; exact ⟨_, rfl, h, X1, c1, rfl, hk, hn⟩)))
    rintro a'' w'' ⟨v, rfl, h, X1, c1, rfl, hk, hn⟩
    exact hK _ _ ⟨belowT hb h, g0, g1, g2, g3, g4, g5, g6, g8, g9, g10, g11, g12, g13, g14, X1, Y, c1, e, p, q, hT.copyA hL h hk hn⟩) <|
      allOps_cons (fun L a' w' hL hD hs hJ K hK => by
    obtain ⟨hb, g0, g1, g2, g3, g4, g5, g6, g8, g9, g10, g11, g12, g13, g14, X, Y, c, e, p, q, hT⟩ := hJ
    have e1 := (hs.get 4 (by kernel_rfl)).trans (show _ = Value.pointer (some ⟨pb, 0, none⟩) from rfl)
    have c0 := keep hb b0_8
    have c1 := keep hb b1_8
    unfold Oper.wp
    generalize a'.eval = ρ at e1 ⊢
    simp [go_sem, e1, c0, c1]
    exact hK _ _ ⟨hb, g0, g1, g2, g3, g4, g5, g6, fun _ => rfl, g9, g10, g11, g12, g13, g14, X, Y, c, e, p, q, hT⟩) <|
      allOps_cons (fun L a' w' hL hD hs hJ K hK => by
    obtain ⟨hb, g0, g1, g2, g3, g4, g5, g6, g8, g9, g10, g11, g12, g13, g14, X, Y, c, e, p, q, hT⟩ := hJ
    have e1 := (hs.get 1 (by kernel_rfl)).trans (show _ = Value.pointer (some ⟨w.heap.size, 0, none⟩) from rfl)
    unfold Oper.wp
    generalize a'.eval = ρ at e1 ⊢
    simp [go_sem, e1]
    exact hK _ _ ⟨hb, g0, g1, g2, g3, g4, g5, g6, g8, fun _ => rfl, g10, g11, g12, g13, g14, X, Y, c, e, p, q, hT⟩) <|
      allOps_cons (fun L a' w' hL hD hs hJ K hK => by
    obtain ⟨hb, g0, g1, g2, g3, g4, g5, g6, g8, g9, g10, g11, g12, g13, g14, X, Y, c, e, p, q, hT⟩ := hJ
    have e1 : a'.eval (.tmp 94) = .pointer (some ⟨w.heap.size, 6, none⟩) := g9 (dep_of hD 9 (by kernel_rfl))
    have ec : a'.eval (.const (.int .i64 1)) = .int .i64 1 := rfl
    unfold Oper.wp
    generalize a'.eval = ρ at e1 ec ⊢
    simp [go_sem, e1, ec]
    exact hK _ _ ⟨hb, g0, g1, g2, g3, g4, g5, g6, g8, g9, fun _ => rfl, g11, g12, g13, g14, X, Y, c, e, p, q, hT⟩) <|
      allOps_cons (fun L a' w' hL hD hs hJ K hK => by
    obtain ⟨hb, g0, g1, g2, g3, g4, g5, g6, g8, g9, g10, g11, g12, g13, g14, X, Y, c, e, p, q, hT⟩ := hJ
    have e1 : a'.eval (.tmp 95) = .pointer (some ⟨w.heap.size, 9, none⟩) := g10 (dep_of hD 10 (by kernel_rfl))
    have c0 := keep hb l9_8
    have c1 := keep hb l10_8
    have c2 := keep hb l11_8
    unfold Oper.wp
    generalize a'.eval = ρ at e1 ⊢
    simp [go_sem, e1, c0, c1, c2]
    exact hK _ _ ⟨hb, g0, g1, g2, g3, g4, g5, g6, g8, g9, g10, fun _ => rfl, g12, g13, g14, X, Y, c, e, p, q, hT⟩) <|
      allOps_cons (fun L a' w' hL hD hs hJ K hK => by
    obtain ⟨hb, g0, g1, g2, g3, g4, g5, g6, g8, g9, g10, g11, g12, g13, g14, X, Y, c, e, p, q, hT⟩ := hJ
    have e1 := (hs.get 1 (by kernel_rfl)).trans (show _ = Value.pointer (some ⟨w.heap.size, 0, none⟩) from rfl)
    unfold Oper.wp
    generalize a'.eval = ρ at e1 ⊢
    simp [go_sem, e1]
    exact hK _ _ ⟨hb, g0, g1, g2, g3, g4, g5, g6, g8, g9, g10, g11, fun _ => rfl, g13, g14, X, Y, c, e, p, q, hT⟩) <|
      allOps_cons (fun L a' w' hL hD hs hJ K hK => by
    obtain ⟨hb, g0, g1, g2, g3, g4, g5, g6, g8, g9, g10, g11, g12, g13, g14, X, Y, c, e, p, q, hT⟩ := hJ
    have e1 : a'.eval (.tmp 97) = .pointer (some ⟨w.heap.size, 4, none⟩) := g12 (dep_of hD 12 (by kernel_rfl))
    have ec : a'.eval (.const (.int .i64 1)) = .int .i64 1 := rfl
    unfold Oper.wp
    generalize a'.eval = ρ at e1 ec ⊢
    simp [go_sem, e1, ec]
    exact hK _ _ ⟨hb, g0, g1, g2, g3, g4, g5, g6, g8, g9, g10, g11, g12, fun _ => rfl, g14, X, Y, c, e, p, q, hT⟩) <|
      allOps_cons (fun L a' w' hL hD hs hJ K hK => by
    obtain ⟨hb, g0, g1, g2, g3, g4, g5, g6, g8, g9, g10, g11, g12, g13, g14, X, Y, c, e, p, q, hT⟩ := hJ
    have e1 : a'.eval (.tmp 98) = .pointer (some ⟨w.heap.size, 5, none⟩) := g13 (dep_of hD 13 (by kernel_rfl))
    have c0 := keep hb l5_8
    unfold Oper.wp
    generalize a'.eval = ρ at e1 ⊢
    simp [go_sem, e1, c0]
    exact hK _ _ ⟨hb, g0, g1, g2, g3, g4, g5, g6, g8, g9, g10, g11, g12, g13, fun _ => rfl, X, Y, c, e, p, q, hT⟩) <|
      allOps_cons (fun L a' w' hL hD hs hJ K hK => by
    obtain ⟨hb, g0, g1, g2, g3, g4, g5, g6, g8, g9, g10, g11, g12, g13, g14, X, Y, c, e, p, q, hT⟩ := hJ
    have e1 : a'.eval (.tmp 93) = .agg #[.slice XB nb cB, .int .i64 0] := g8 (dep_of hD 8 (by kernel_rfl))
    have e2 : a'.eval (.tmp 96) = .agg #[.int .i64 x1, .int .i64 y1, .int .i64 z1] := g11 (dep_of hD 11 (by kernel_rfl))
    have e3 : a'.eval (.tmp 99) = .int .i64 m1 := g14 (dep_of hD 14 (by kernel_rfl))
    refine Oper.wp_mono ?_ (rg_fn (φ := fun v w'' => ∃ X1 c1, v = .agg #[.slice X1 nb c1, .int .i64 m1] ∧ KA w'' X1 nb kd ∧ (0 < nb → w'.heap.size ≤ ob X1)) (vs := #[.agg #[.slice XB nb cB, .int .i64 0], .agg #[.int .i64 x1, .int .i64 y1, .int .i64 z1], .int .i64 m1]) rfl (enters_of Try.func29 (by kernel_rfl) rfl) (by simp [e1, e2, e3]) ((HSb.out w' XB cB (HXB_.out.bel hb)).mono (by rintro e w1 ⟨X1, c1, rfl, hk, hn, h⟩; exact ⟨_, rfl, h, X1, c1, rfl, hk, hn⟩)))
    rintro a'' w'' ⟨v, rfl, h, Y1, c1, rfl, hk, hn⟩
    exact hK _ _ ⟨belowT hb h, g0, g1, g2, g3, g4, g5, g6, g8, g9, g10, g11, g12, g13, g14, X, Y1, c, c1, p, q, hT.copyB hL h hk hn⟩) <|
      allOps_cons (fun L a' w' hL hD hs hJ K hK => by
    obtain ⟨hb, g0, g1, g2, g3, g4, g5, g6, g8, g9, g10, g11, g12, g13, g14, X, Y, c, e, p, q, hT⟩ := hJ
    unfold Oper.wp
    generalize a'.eval = ρ
    simp [go_sem]
    exact hK _ _ ⟨hb.alloc hb.size _, g0, g1, g2, g3, g4, g5, g6, g8, g9, g10, g11, g12, g13, g14, X, Y, c, e, _, q, hT.newA hL hb.size⟩) <|
      allOps_cons (fun L a' w' hL hD hs hJ K hK => by
    obtain ⟨hb, g0, g1, g2, g3, g4, g5, g6, g8, g9, g10, g11, g12, g13, g14, X, Y, c, e, p, q, hT⟩ := hJ
    unfold Oper.wp
    generalize a'.eval = ρ
    simp [go_sem]
    exact hK _ _ ⟨hb.alloc hb.size _, g0, g1, g2, g3, g4, g5, g6, g8, g9, g10, g11, g12, g13, g14, X, Y, c, e, p, _, hT.newB hL hb.size⟩) <|
      allOps_cons (fun L a' w' hL hD hs hJ K hK => by
    obtain ⟨hb, g0, g1, g2, g3, g4, g5, g6, g8, g9, g10, g11, g12, g13, g14, X, Y, c, e, p, q, hT⟩ := hJ
    have dc : L 7 = true := dep_of hD 7 (by kernel_rfl)
    have dp : L 16 = true := dep_of hD 16 (by kernel_rfl)
    have hn := hT.nA dp
    have e1 : a'.eval (.tmp 5) = .pointer (some ⟨p, 0, none⟩) := hn.val
    have e2 : a'.eval (.tmp 92) = .agg #[.slice X na c, .int .i64 m0] := (hT.cA dc).1
    have f0 := hn.f0
    have f1 := hn.f1
    obtain ⟨v0, c0⟩ := Option.isSome_iff_exists.1 hn.c0
    obtain ⟨v1, c1⟩ := Option.isSome_iff_exists.1 hn.c1
    unfold Oper.wp
    generalize a'.eval = ρ at e1 e2 ⊢
    simp [go_sem, e1, e2, f0, f1, c0, c1]
    exact hK undef _ ⟨(hb.setCell hn.new _).setCell hn.new _, g0, g1, g2, g3, g4, g5, g6, g8, g9, g10, g11, g12, g13, g14, X, Y, c, e, p, q, hT.stoA dc dp⟩) <|
      allOps_cons (fun L a' w' hL hD hs hJ K hK => by
    obtain ⟨hb, g0, g1, g2, g3, g4, g5, g6, g8, g9, g10, g11, g12, g13, g14, X, Y, c, e, p, q, hT⟩ := hJ
    have dc : L 15 = true := dep_of hD 15 (by kernel_rfl)
    have dp : L 17 = true := dep_of hD 17 (by kernel_rfl)
    have hn := hT.nB dp
    have e1 : a'.eval (.tmp 6) = .pointer (some ⟨q, 0, none⟩) := hn.val
    have e2 : a'.eval (.tmp 100) = .agg #[.slice Y nb e, .int .i64 m1] := (hT.cB dc).1
    have f0 := hn.f0
    have f1 := hn.f1
    obtain ⟨v0, c0⟩ := Option.isSome_iff_exists.1 hn.c0
    obtain ⟨v1, c1⟩ := Option.isSome_iff_exists.1 hn.c1
    unfold Oper.wp
    generalize a'.eval = ρ at e1 e2 ⊢
    simp [go_sem, e1, e2, f0, f1, c0, c1]
    exact hK undef _ ⟨(hb.setCell hn.new _).setCell hn.new _, g0, g1, g2, g3, g4, g5, g6, g8, g9, g10, g11, g12, g13, g14, X, Y, c, e, p, q, hT.stoB dc dp⟩) <| allOps_nil) (fun L V V1 hall hJ => ?_)
  obtain ⟨hb, -, -, -, -, -, -, -, -, -, -, -, -, -, -, XC, XD, cC, cD, pc, pd, hT⟩ := hJ
  have n1 := hT.nA (hall 16 (by kernel_rfl))
  have n2 := hT.nB (hall 17 (by kernel_rfl))
  obtain ⟨-, -, c0_, c1_⟩ := hT.sA (hall 18 (by kernel_rfl))
  obtain ⟨-, -, d0_, d1_⟩ := hT.sB (hall 19 (by kernel_rfl))
  have HXC_ := Lib.hid (hT.cA (hall 7 (by kernel_rfl))).2
  have HXD_ := Lib.hid (hT.cB (hall 15 (by kernel_rfl))).2
  simp only [my1, maskPut, Nat.reduceAdd]
  rw [n1.val, n2.val]
  clear hT hall n1 n2
  replace BV := Lib.hid (thenB BV.out hb)
  replace HXA_ := Lib.hid (HXA_.out.bel hb)
  replace HXB_ := Lib.hid (HXB_.out.bel hb)
  have a0_ := keep hb a0_8
  have a1_ := keep hb a1_8
  have b0_ := keep hb b0_8
  have b1_ := keep hb b1_8
  have l12_ := keep hb l12_8
  clear hb a0_8 a1_8 b0_8 b1_8 l4_8 l5_8 l6_8 l7_8 l8_8 l9_8 l10_8 l11_8 l12_8
  go_wp2_with (first
    | (go_at_call 9; (with_reducible refine Calls.mono (HBC.out _ XC cC XD cD HXC_.out HXD_.out) ?_); rintro e w9 ⟨rfl, hb9⟩; replace BV := Lib.hid (thenB BV.out hb9); replace HXA_ := Lib.hid (HXA_.out.bel hb9); replace HXB_ := Lib.hid (HXB_.out.bel hb9); replace HXC_ := Lib.hid (HXC_.out.bel hb9); replace HXD_ := Lib.hid (HXD_.out.bel hb9); replace a0_ := keep hb9 a0_; replace a1_ := keep hb9 a1_; replace b0_ := keep hb9 b0_; replace b1_ := keep hb9 b1_; replace c0_ := keep hb9 c0_; replace c1_ := keep hb9 c1_; replace d0_ := keep hb9 d0_; replace d1_ := keep hb9 d1_; replace l12_ := keep hb9 l12_; clear hb9)
    | fail)
  go_ret
  exact ⟨rfl, BV.out⟩
end Go.Proofs.Ytmhcmiajikffpaa
