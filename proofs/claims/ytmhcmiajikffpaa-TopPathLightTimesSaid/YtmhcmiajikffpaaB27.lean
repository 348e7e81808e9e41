/- Helpers: TopPathLightTimes, to its end. No condition but the hypotheses. -/
import Derived.Test.YtmhcmiajikffpaaB26
namespace Go.Proofs.Ytmhcmiajikffpaa
open Go.RowKit Go.Shelf Go.Sort
attribute [local go_sem] idx3_0 idx3_1 idx3_2 old1 fro1 old2 fro2 old3 fro3 old4 fro4 old5 fro5 old6 fro6 old7 fro7 old8 fro8 old9 fro9 old10 fro10 old11 fro11 old12 fro12
def my2 : List Bool := [false, false, false, false, false, false, false, true, true, false, false, false, false, false, false, false, false, false, false, false, false, false, false, false, false, false, false, false, false, false, false, false, false, false, false, false, false, false, false, false, false, false, false, false, false, false, false, false, false, false, false, false, false, false, false, false, false, false, false, false, false, false, false, false, false, false, false, false, false, false, false, false, false, false, false, false, false, false, false, false, false, false, false, false, false, false, false, false, false, false, false, false, false, false, false, false, false, false, false, false, false, false, false, false, false, true, true, true, true, true, true, true, true, true, true, false, false, false, false, false, false, false, false, false, false, false, false, false, false, false, false, false, false, false, false, false, false, false, false, false, false, false, false, false, false, false, false, false, false, false, false, false, false, false, false, false, false, false, false, false, false, false, false, false, false, false, false, false, false, false, false, false, false, false, false, false, false, false, false, false, false, false, false, false, false, false, false, false, false, false, false, false, false, false, false, false, false, false, false, false, false, false, false, false, false, false, false, false, false, false, false, false, false, false, false, false, false, false, false, false, false, false, false, false, false, false, false, false, false]
def my3 : List Bool := [false, false, false, false, false, false, false, false, false, true, true, false, false, false, false, false, false, false, false, false, false, false, false, false, false, false, false, false, false, false, false, false, false, false, false, false, false, false, false, false, false, false, false, false, false, false, false, false, false, false, false, false, false, false, false, false, false, false, false, false, false, false, false, false, false, false, false, false, false, false, false, false, false, false, false, false, false, false, false, false, false, false, false, false, false, false, false, false, false, false, false, false, false, false, false, false, false, false, false, false, false, false, false, false, false, false, false, false, false, false, false, false, false, false, false, true, true, true, true, true, true, true, true, true, true, false, false, false, false, false, false, false, false, false, false, false, false, false, false, false, false, false, false, false, false, false, false, false, false, false, false, false, false, false, false, false, false, false, false, false, false, false, false, false, false, false, false, false, false, false, false, false, false, false, false, false, false, false, false, false, false, false, false, false, false, false, false, false, false, false, false, false, false, false, false, false, false, false, false, false, false, false, false, false, false, false, false, false, false, false, false, false, false, false, false, false, false, false, false, false, false, false, false, false, false, false, false, false, false]
def my4 : List Bool := [false, false, false, false, false, false, false, false, false, false, false, true, true, false, false, false, false, false, false, false, false, false, false, false, false, false, false, false, false, false, false, false, false, false, false, false, false, false, false, false, false, false, false, false, false, false, false, false, false, false, false, false, false, false, false, false, false, false, false, false, false, false, false, false, false, false, false, false, false, false, false, false, false, false, false, false, false, false, false, false, false, false, false, false, false, false, false, false, false, false, false, false, false, false, false, false, false, false, false, false, false, false, false, false, false, false, false, false, false, false, false, false, false, false, false, false, false, false, false, false, false, false, false, false, false, false, false, false, false, false, false, false, false, false, false, false, false, false, false, false, false, false, false, false, false, true, true, true, true, true, true, true, true, true, true, false, false, false, false, false, false, false, false, false, false, false, false, false, false, false, false, false, false, false, false, false, false, false, false, false, false, false, false, false, false, false, false, false, false, false, false, false, false, false, false, false, false, false, false, false, false, false, false, false, false, false, false, false, false, false, false, false, false, false, false, false, false, false, false, false, false, false, false, false, false, false, false, false, false]
def my5 : List Bool := [false, false, false, false, false, false, false, false, false, false, false, false, false, true, true, false, false, false, false, false, false, false, false, false, false, false, false, false, false, false, false, false, false, false, false, false, false, false, false, false, false, false, false, false, false, false, false, false, false, false, false, false, false, false, false, false, false, false, false, false, false, false, false, false, false, false, false, false, false, false, false, false, false, false, false, false, false, false, false, false, false, false, false, false, false, false, false, false, false, false, false, false, false, false, false, false, false, false, false, false, false, false, false, false, false, false, false, false, false, false, false, false, false, false, false, false, false, false, false, false, false, false, false, false, false, false, false, false, false, false, false, false, false, false, false, false, false, false, false, false, false, false, false, false, false, false, false, false, false, false, false, false, false, false, false, false, false, false, false, true, true, true, true, true, true, true, true, true, true, false, false, false, false, false, false, false, false, false, false, false, false, false, false, false, false, false, false, false, false, false, false, false, false, false, false, false, false, false, false, false, false, false, false, false, false, false, false, false, false, false, false, false, false, false, false, false, false, false, false, false, false, false, false, false, false, false, false, false, false]
def my6 : List Bool := [false, false, false, false, false, false, false, false, false, false, false, false, false, false, false, true, true, false, false, false, false, false, false, false, false, false, false, false, false, false, false, false, false, false, false, false, false, false, false, false, false, false, false, false, false, false, false, false, false, false, false, false, false, false, false, false, false, false, false, false, false, false, false, false, false, false, false, false, false, false, false, false, false, false, false, false, false, false, false, false, false, false, false, false, false, false, false, false, false, false, false, false, false, false, false, false, false, false, false, false, false, false, false, false, false, false, false, false, false, false, false, false, false, false, false, false, false, false, false, false, false, false, false, false, false, false, false, false, false, false, false, false, false, false, false, false, false, false, false, false, false, false, false, false, false, false, false, false, false, false, false, false, false, false, false, false, false, false, false, false, false, false, false, false, false, false, false, false, false, false, false, false, false, false, false, false, false, false, false, false, false, false, false, false, false, true, true, true, true, true, true, true, true, true, true, false, false, false, false, false, false, false, false, false, false, false, false, false, false, false, false, false, false, false, false, false, false, false, false, false, false, false, false, false, false, false, false, false, false]
def my7 : List Bool := [false, false, false, false, false, false, false, false, false, false, false, false, false, false, false, false, false, true, true, false, false, false, false, false, false, false, false, false, false, false, false, false, false, false, false, false, false, false, false, false, false, false, false, false, false, false, false, false, false, false, false, false, false, false, false, false, false, false, false, false, false, false, false, false, false, false, false, false, false, false, false, false, false, false, false, false, false, false, false, false, false, false, false, false, false, false, false, false, false, false, false, false, false, false, false, false, false, false, false, false, false, false, false, false, false, false, false, false, false, false, false, false, false, false, false, false, false, false, false, false, false, false, false, false, false, false, false, false, false, false, false, false, false, false, false, false, false, false, false, false, false, false, false, false, false, false, false, false, false, false, false, false, false, false, false, false, false, false, false, false, false, false, false, false, false, false, false, false, false, false, false, false, false, false, false, false, false, false, false, false, false, false, false, false, false, false, false, false, false, false, false, false, false, false, false, false, false, false, false, false, false, false, false, true, true, true, true, true, true, true, true, true, true, false, false, false, false, false, false, false, false, false, false, false, false, false, false, false, false]
theorem KA.some0 {W : World} {X : Option Addr} {n : Nat} {k : Nat → Knot} (h : KA W X n k) (h0 : 0 < n) (c : Nat) : X = none → n = 0 ∧ c = 0 := by
  rintro rfl
  obtain ⟨b, off, e, _⟩ := h h0
  cases e
set_option maxRecDepth 100000 in
set_option maxHeartbeats 16000000 in
theorem tp_main (A B : Option Addr) (na nb ca cb : Nat) (da db m0 m1 x0 y0 z0 x1 y1 z1 s : Int) (ka kb : Nat → Knot) (w : World) (hna : na ≤ 4398046510976) (hnb : nb ≤ 4398046510976) (hA0 : A = none → na = 0 ∧ ca = 0) (hB0 : B = none → nb = 0 ∧ cb = 0) (hA : KA w A na ka) (hB : KA w B nb kb) (na0 : 0 < na) (nb0 : 0 < nb) (na1 : na ≤ 12) (nb1 : nb ≤ 12) (kc kd : Nat → Knot) (o1 o2 lo9 hi9 r1 r2 rE t1 t2 s1 s2 sE u1 u2 : Int) (hFa : ∀ W X cx, Calls Try.prog 8 #[.agg #[.slice X na cx, .int .i64 0]] W fun e w' => e = .returned (.bool true) ∧ Below W.heap.size W w') (hFb : ∀ W X cx, Calls Try.prog 8 #[.agg #[.slice X nb cx, .int .i64 0]] W fun e w' => e = .returned (.bool true) ∧ Below W.heap.size W w') (hBE : ∀ W X cx Y cy, KA W X na ka → KA W Y nb kb → Calls Try.prog 9 #[.agg #[.slice X na cx, .int .i64 0], .agg #[.slice Y nb cy, .int .i64 0]] W fun e w' => e = .returned (.int .i64 0) ∧ Below W.heap.size W w') (v0 : wi m0 0 1000 = true) (v1 : wi m1 0 1000 = true) (hW0 : ∀ W, Calls Try.prog 28 #[.agg #[.int .i64 x0, .int .i64 y0, .int .i64 z0], .int .i64 m0] W fun e w' => e = .returned (.bool true) ∧ Below W.heap.size W w') (hW1 : ∀ W, Calls Try.prog 28 #[.agg #[.int .i64 x1, .int .i64 y1, .int .i64 z1], .int .i64 m1] W fun e w' => e = .returned (.bool true) ∧ Below W.heap.size W w') (hTE : ∀ W X cx Y cy, KA W X na ka → KA W Y nb kb → Calls Try.prog 11 #[.agg #[.slice X na cx, .int .i64 0], .agg #[.slice Y nb cy, .int .i64 0], .int .i64 s] W fun e w' => e = .returned (.int .i64 0) ∧ Below W.heap.size W w') (hSa : ∀ W X cx, KA W X na ka → Calls Try.prog 29 #[.agg #[.slice X na cx, .int .i64 0], .agg #[.int .i64 x0, .int .i64 y0, .int .i64 z0], .int .i64 m0] W fun e w' => ∃ X1 c1, e = .returned (.agg #[.slice X1 na c1, .int .i64 m0]) ∧ KA w' X1 na kc ∧ (0 < na → W.heap.size ≤ ob X1) ∧ Below W.heap.size W w') (hSb : ∀ W X cx, KA W X nb kb → Calls Try.prog 29 #[.agg #[.slice X nb cx, .int .i64 0], .agg #[.int .i64 x1, .int .i64 y1, .int .i64 z1], .int .i64 m1] W fun e w' => ∃ X1 c1, e = .returned (.agg #[.slice X1 nb c1, .int .i64 m1]) ∧ KA w' X1 nb kd ∧ (0 < nb → W.heap.size ≤ ob X1) ∧ Below W.heap.size W w') (hBC : ∀ W X cx Y cy, KA W X na kc → KA W Y nb kd → Calls Try.prog 9 #[.agg #[.slice X na cx, .int .i64 m0], .agg #[.slice Y nb cy, .int .i64 m1]] W fun e w' => e = .returned (.int .i64 0) ∧ Below W.heap.size W w') (hO : ∀ W X cx Y cy, KA W X na ka → KA W Y nb kb → Calls Try.prog 15 #[.agg #[.slice X na cx, .int .i64 0], .agg #[.slice Y nb cy, .int .i64 0], .int .i64 s] W fun e w' => e = .returned (.tuple #[.agg #[.int .i64 o1, .int .i64 o2], .int .i64 0]) ∧ Below W.heap.size W w') (hK : ∀ W X cx Y cy, KA W X na kc → KA W Y nb kd → Calls Try.prog 15 #[.agg #[.slice X na cx, .int .i64 m0], .agg #[.slice Y nb cy, .int .i64 m1], .int .i64 s] W fun e w' => e = .returned (.tuple #[.agg #[.int .i64 lo9, .int .i64 hi9], .int .i64 0]) ∧ Below W.heap.size W w') (hR : ∀ W X cx Y cy, KA W X na kc → KA W Y nb kd → Calls Try.prog 30 #[.agg #[.slice X na cx, .int .i64 m0], .agg #[.slice Y nb cy, .int .i64 m1], .int .i64 s] W fun e w' => e = .returned (.tuple #[.agg #[.int .i64 r1, .int .i64 r2], .int .i64 rE]) ∧ Below W.heap.size W w') (hT : rE = 0 → ∀ W X cx Y cy, KA W X na ka → KA W Y nb kb → Calls Try.prog 30 #[.agg #[.slice X na cx, .int .i64 0], .agg #[.slice Y nb cy, .int .i64 0], .int .i64 s] W fun e w' => e = .returned (.tuple #[.agg #[.int .i64 t1, .int .i64 t2], .int .i64 0]) ∧ Below W.heap.size W w') (hS : rE = 0 → ∀ W X cx Y cy, KA W X na kc → KA W Y nb kd → Calls Try.prog 31 #[.agg #[.slice X na cx, .int .i64 m0], .agg #[.slice Y nb cy, .int .i64 m1], .int .i64 s] W fun e w' => e = .returned (.tuple #[.agg #[.int .i64 s1, .int .i64 s2], .int .i64 sE]) ∧ Below W.heap.size W w') (hU : rE = 0 → sE = 0 → ∀ W X cx Y cy, KA W X na ka → KA W Y nb kb → Calls Try.prog 31 #[.agg #[.slice X na cx, .int .i64 0], .agg #[.slice Y nb cy, .int .i64 0], .int .i64 s] W fun e w' => e = .returned (.tuple #[.agg #[.int .i64 u1, .int .i64 u2], .int .i64 0]) ∧ Below W.heap.size W w') (i1 : lo9 ≤ o1) (i2 : o2 ≤ hi9) (hrE : rE = 0 ∨ rE = 12) (i3 : rE = 0 → r1 ≤ t1 ∧ t2 ≤ r2) (hsE : rE = 0 → sE = 0 ∨ sE = 12 ∨ sE = 2) (i4 : rE = 0 → sE = 0 → s1 ≤ u1 ∧ u2 ≤ s2) :
    Calls Try.prog 5 #[.agg #[.slice A na ca, .int .i64 da, .slice B nb cb, .int .i64 db, .int .i64 m0, .int .i64 m1, .int .i64 x0, .int .i64 y0, .int .i64 z0, .int .i64 x1, .int .i64 y1, .int .i64 z1, .int .i64 s]] w fun e w' => e = .returned (.bool true) ∧ Below w.heap.size w w' := by
  have HA0 := Lib.hid hA0
  have HB0 := Lib.hid hB0
  have HA := Lib.hid hA
  have HB := Lib.hid hB
  have HFa := Lib.hid hFa
  have HFb := Lib.hid hFb
  have HBE := Lib.hid hBE
  have HW0 := Lib.hid hW0
  have HW1 := Lib.hid hW1
  have HTE := Lib.hid hTE
  have HSa := Lib.hid hSa
  have HSb := Lib.hid hSb
  have HBC := Lib.hid hBC
  have HO := Lib.hid hO
  have HK := Lib.hid hK
  have HR := Lib.hid hR
  have HT := Lib.hid hT
  have HS := Lib.hid hS
  have HU := Lib.hid hU
  clear hA hB hA0 hB0 hFa hFb hBE hW0 hW1 hTE hSa hSb hBC hO hK hR hT hS hU
  go_enter Try.func5, Try.ntmps5
  go_wp2_with (go_at_call 27; (with_reducible refine Calls.mono (pathAwake_any _) ?_); rintro e w1 ⟨rfl, hb1⟩; have B1 := Lib.hid (thenB (show Below w.heap.size w _ by (repeat (first | with_reducible exact Below.refl _ _ | with_reducible assumption | with_reducible refine Below.alloc ?_ (by first | (simp; done) | (simp; omega) | omega) _ | with_reducible refine Below.setCell ?_ (by first | (simp; done) | (simp; omega) | omega) _ | with_reducible refine Below.drew ?_ | with_reducible refine below_drewN ?_ _))) hb1); have l0_ := keep hb1 (b := w.heap.size) (o := 0) (v := .slice A na ca) (by simp [go_sem]); have l1_ := keep hb1 (b := w.heap.size) (o := 1) (v := .int .i64 da) (by simp [go_sem]); have l2_ := keep hb1 (b := w.heap.size) (o := 2) (v := .slice B nb cb) (by simp [go_sem]); have l3_ := keep hb1 (b := w.heap.size) (o := 3) (v := .int .i64 db) (by simp [go_sem]); have l4_ := keep hb1 (b := w.heap.size) (o := 4) (v := .int .i64 m0) (by simp [go_sem]); have l5_ := keep hb1 (b := w.heap.size) (o := 5) (v := .int .i64 m1) (by simp [go_sem]); have l6_ := keep hb1 (b := w.heap.size) (o := 6) (v := .int .i64 x0) (by simp [go_sem]); have l7_ := keep hb1 (b := w.heap.size) (o := 7) (v := .int .i64 y0) (by simp [go_sem]); have l8_ := keep hb1 (b := w.heap.size) (o := 8) (v := .int .i64 z0) (by simp [go_sem]); have l9_ := keep hb1 (b := w.heap.size) (o := 9) (v := .int .i64 x1) (by simp [go_sem]); have l10_ := keep hb1 (b := w.heap.size) (o := 10) (v := .int .i64 y1) (by simp [go_sem]); have l11_ := keep hb1 (b := w.heap.size) (o := 11) (v := .int .i64 z1) (by simp [go_sem]); have l12_ := keep hb1 (b := w.heap.size) (o := 12) (v := .int .i64 s) (by simp [go_sem]); clear hb1)
  have HA_ := Lib.hid (HA.out.bel B1.out)
  have HB_ := Lib.hid (HB.out.bel B1.out)
  refine wp_region_inv my0 (by kernel_rfl) (TJ w1 na nb da db ka kb (.pointer (some ⟨w.heap.size, 0, none⟩)) (.agg #[.slice A na ca, .int .i64 da]) (.pointer (some ⟨w.heap.size, 2, none⟩)) (.agg #[.slice B nb cb, .int .i64 db])) rfl (by kernel_rfl) ⟨(Below.refl _ _).drew, nofun, nofun, nofun, nofun, none, none, 0, 0, 0, 0, TwoV.start⟩ (allOps_cons (fun L a' w' hL hD hs hJ K hK => by
    obtain ⟨hb, h0, h1, h3, h4, X, Y, c, e, p, q, hT⟩ := hJ
    have e1 := (hs.get 1 (by kernel_rfl)).trans (show _ = Value.pointer (some ⟨w.heap.size, 0, none⟩) from rfl)
    unfold Oper.wp
    generalize a'.eval = ρ at e1 ⊢
    simp [go_sem, e1]
    exact hK _ _ ⟨hb, fun _ => rfl, h1, h3, h4, X, Y, c, e, p, q, hT⟩) <|
      allOps_cons (fun L a' w' hL hD hs hJ K hK => by
    obtain ⟨hb, h0, h1, h3, h4, X, Y, c, e, p, q, hT⟩ := hJ
    have e1 : a'.eval (.tmp 21) = .pointer (some ⟨w.heap.size, 0, none⟩) := h0 (dep_of hD 0 (by kernel_rfl))
    have c0 := keep hb l0_
    have c1 := keep hb l1_
    unfold Oper.wp
    generalize a'.eval = ρ at e1 ⊢
    simp [go_sem, e1, c0, c1]
    exact hK _ _ ⟨hb, h0, fun _ => rfl, h3, h4, X, Y, c, e, p, q, hT⟩) <|
      allOps_cons (fun L a' w' hL hD hs hJ K hK => by
    obtain ⟨hb, h0, h1, h3, h4, X, Y, c, e, p, q, hT⟩ := hJ
    have e1 : a'.eval (.tmp 22) = .agg #[.slice A na ca, .int .i64 da] := h1 (dep_of hD 1 (by kernel_rfl))
    refine Oper.wp_mono ?_ (rg_fn (φ := fun v w'' => ∃ X1 c1, v = .agg #[.slice X1 na c1, .int .i64 da] ∧ KA w'' X1 na ka ∧ (0 < na → w'.heap.size ≤ ob X1)) (vs := #[.agg #[.slice A na ca, .int .i64 da]]) rfl (enters_of Try.func14 (by kernel_rfl) rfl) (by simp [e1]) ((copyT_new A na ca da ka w' (by omega) HA0.out (HA_.out.bel hb)).mono (by rintro e w1 ⟨X1, c1, rfl, hk, hn, h⟩; exact ⟨_, rfl, h, X1, c1, rfl, hk, hn⟩)))
    rintro a'' w'' ⟨v, rfl, h, X1, c1, rfl, hk, hn⟩
    exact hK _ _ ⟨belowT hb h, h0, h1, h3, h4, X1, Y, c1, e, p, q, hT.copyA hL h hk hn⟩) <|
      allOps_cons (fun L a' w' hL hD hs hJ K hK => by
    obtain ⟨hb, h0, h1, h3, h4, X, Y, c, e, p, q, hT⟩ := hJ
    have e1 := (hs.get 1 (by kernel_rfl)).trans (show _ = Value.pointer (some ⟨w.heap.size, 0, none⟩) from rfl)
    unfold Oper.wp
    generalize a'.eval = ρ at e1 ⊢
    simp [go_sem, e1]
    exact hK _ _ ⟨hb, h0, h1, fun _ => rfl, h4, X, Y, c, e, p, q, hT⟩) <|
      allOps_cons (fun L a' w' hL hD hs hJ K hK => by
    obtain ⟨hb, h0, h1, h3, h4, X, Y, c, e, p, q, hT⟩ := hJ
    have e1 : a'.eval (.tmp 24) = .pointer (some ⟨w.heap.size, 2, none⟩) := h3 (dep_of hD 3 (by kernel_rfl))
    have c0 := keep hb l2_
    have c1 := keep hb l3_
    unfold Oper.wp
    generalize a'.eval = ρ at e1 ⊢
    simp [go_sem, e1, c0, c1]
    exact hK _ _ ⟨hb, h0, h1, h3, fun _ => rfl, X, Y, c, e, p, q, hT⟩) <|
      allOps_cons (fun L a' w' hL hD hs hJ K hK => by
    obtain ⟨hb, h0, h1, h3, h4, X, Y, c, e, p, q, hT⟩ := hJ
    have e1 : a'.eval (.tmp 25) = .agg #[.slice B nb cb, .int .i64 db] := h4 (dep_of hD 4 (by kernel_rfl))
    refine Oper.wp_mono ?_ (rg_fn (φ := fun v w'' => ∃ X1 c1, v = .agg #[.slice X1 nb c1, .int .i64 db] ∧ KA w'' X1 nb kb ∧ (0 < nb → w'.heap.size ≤ ob X1)) (vs := #[.agg #[.slice B nb cb, .int .i64 db]]) rfl (enters_of Try.func14 (by kernel_rfl) rfl) (by simp [e1]) ((copyT_new B nb cb db kb w' (by omega) HB0.out (HB_.out.bel hb)).mono (by rintro e w1 ⟨X1, c1, rfl, hk, hn, h⟩; exact ⟨_, rfl, h, X1, c1, rfl, hk, hn⟩)))
    rintro a'' w'' ⟨v, rfl, h, Y1, c1, rfl, hk, hn⟩
    exact hK _ _ ⟨belowT hb h, h0, h1, h3, h4, X, Y1, c, c1, p, q, hT.copyB hL h hk hn⟩) <|
      allOps_cons (fun L a' w' hL hD hs hJ K hK => by
    obtain ⟨hb, h0, h1, h3, h4, X, Y, c, e, p, q, hT⟩ := hJ
    unfold Oper.wp
    generalize a'.eval = ρ
    simp [go_sem]
    exact hK _ _ ⟨hb.alloc hb.size _, h0, h1, h3, h4, X, Y, c, e, _, q, hT.newA hL hb.size⟩) <|
      allOps_cons (fun L a' w' hL hD hs hJ K hK => by
    obtain ⟨hb, h0, h1, h3, h4, X, Y, c, e, p, q, hT⟩ := hJ
    unfold Oper.wp
    generalize a'.eval = ρ
    simp [go_sem]
    exact hK _ _ ⟨hb.alloc hb.size _, h0, h1, h3, h4, X, Y, c, e, p, _, hT.newB hL hb.size⟩) <|
      allOps_cons (fun L a' w' hL hD hs hJ K hK => by
    obtain ⟨hb, h0, h1, h3, h4, X, Y, c, e, p, q, hT⟩ := hJ
    have dc : L 2 = true := dep_of hD 2 (by kernel_rfl)
    have dp : L 6 = true := dep_of hD 6 (by kernel_rfl)
    have hn := hT.nA dp
    have e1 : a'.eval (.tmp 3) = .pointer (some ⟨p, 0, none⟩) := hn.val
    have e2 : a'.eval (.tmp 23) = .agg #[.slice X na c, .int .i64 da] := (hT.cA dc).1
    have f0 := hn.f0
    have f1 := hn.f1
    obtain ⟨v0, c0⟩ := Option.isSome_iff_exists.1 hn.c0
    obtain ⟨v1, c1⟩ := Option.isSome_iff_exists.1 hn.c1
    unfold Oper.wp
    generalize a'.eval = ρ at e1 e2 ⊢
    simp [go_sem, e1, e2, f0, f1, c0, c1]
    exact hK undef _ ⟨(hb.setCell hn.new _).setCell hn.new _, h0, h1, h3, h4, X, Y, c, e, p, q, hT.stoA dc dp⟩) <|
      allOps_cons (fun L a' w' hL hD hs hJ K hK => by
    obtain ⟨hb, h0, h1, h3, h4, X, Y, c, e, p, q, hT⟩ := hJ
    have dc : L 5 = true := dep_of hD 5 (by kernel_rfl)
    have dp : L 7 = true := dep_of hD 7 (by kernel_rfl)
    have hn := hT.nB dp
    have e1 : a'.eval (.tmp 4) = .pointer (some ⟨q, 0, none⟩) := hn.val
    have e2 : a'.eval (.tmp 26) = .agg #[.slice Y nb e, .int .i64 db] := (hT.cB dc).1
    have f0 := hn.f0
    have f1 := hn.f1
    obtain ⟨v0, c0⟩ := Option.isSome_iff_exists.1 hn.c0
    obtain ⟨v1, c1⟩ := Option.isSome_iff_exists.1 hn.c1
    unfold Oper.wp
    generalize a'.eval = ρ at e1 e2 ⊢
    simp [go_sem, e1, e2, f0, f1, c0, c1]
    exact hK undef _ ⟨(hb.setCell hn.new _).setCell hn.new _, h0, h1, h3, h4, X, Y, c, e, p, q, hT.stoB dc dp⟩) <| allOps_nil) (fun L V V1 hall hJ => ?_)
  obtain ⟨hb, -, -, -, -, XA, XB, cA, cB, pa, pb, hT⟩ := hJ
  have n1 := hT.nA (hall 6 (by kernel_rfl))
  have n2 := hT.nB (hall 7 (by kernel_rfl))
  obtain ⟨W2, hW2, zA, zB, a0_2, a1_2, b0_2, b1_2, hb2⟩ := hT.zero (hall 2 (by kernel_rfl)) (hall 5 (by kernel_rfl)) (hall 6 (by kernel_rfl)) (hall 7 (by kernel_rfl)) (hall 8 (by kernel_rfl)) (hall 9 (by kernel_rfl)) hb
  simp only [my0, maskPut, Nat.reduceAdd]
  rw [n1.val, n2.val]
  have fz1 := n1.f1
  have fz2 : (V1.setCell ⟨pa, 1, none⟩ (.int .i64 0)).frozen? ⟨pb, 1, none⟩ = false := (World.frozen?_setCell _ _ _ _).trans n2.f1
  obtain ⟨q9, x1c⟩ := Option.isSome_iff_exists.1 n1.c1
  obtain ⟨q8, x2c⟩ := Option.isSome_iff_exists.1 (someS (b := ⟨pa, 1, none⟩) (v := .int .i64 0) n2.c1)
  clear hT hall n1 n2 hb
  go_upto_region 5 with fail
  rw [← hW2]
  have BV := Lib.hid (thenB B1.out hb2)
  have l4_2 := keep hb2 l4_
  have l5_2 := keep hb2 l5_
  have l6_2 := keep hb2 l6_
  have l7_2 := keep hb2 l7_
  have l8_2 := keep hb2 l8_
  have l9_2 := keep hb2 l9_
  have l10_2 := keep hb2 l10_
  have l11_2 := keep hb2 l11_
  have l12_2 := keep hb2 l12_
  clear hb2 hW2 fz1 fz2 x1c x2c l0_ l1_ l2_ l3_ l4_ l5_ l6_ l7_ l8_ l9_ l10_ l11_ l12_ HA_ HB_ B1 HA HB
  clear V1
  clear w1
  have HXA := Lib.hid zA
  have HXB := Lib.hid zB
  have C2 := Lib.hid (Below.refl W2.heap.size W2)
  clear zA zB
  go_wp2_with (first
    | (go_at_call 8; (with_reducible refine Calls.mono (HFa.out _ XA cA) ?_); rintro e w3 ⟨rfl, hb3⟩; have C3 := Lib.hid (thenB C2.out hb3); have a0_3 := keep hb3 a0_2; have a1_3 := keep hb3 a1_2; have b0_3 := keep hb3 b0_2; have b1_3 := keep hb3 b1_2; have l4_3 := keep hb3 l4_2; have l5_3 := keep hb3 l5_2; have l6_3 := keep hb3 l6_2; have l7_3 := keep hb3 l7_2; have l8_3 := keep hb3 l8_2; have l9_3 := keep hb3 l9_2; have l10_3 := keep hb3 l10_2; have l11_3 := keep hb3 l11_2; have l12_3 := keep hb3 l12_2; clear hb3)
    | (go_at_call 8; (with_reducible refine Calls.mono (HFb.out _ XB cB) ?_); rintro e w4 ⟨rfl, hb4⟩; have C4 := Lib.hid (thenB C3.out hb4); have a0_4 := keep hb4 a0_3; have a1_4 := keep hb4 a1_3; have b0_4 := keep hb4 b0_3; have b1_4 := keep hb4 b1_3; have l4_4 := keep hb4 l4_3; have l5_4 := keep hb4 l5_3; have l6_4 := keep hb4 l6_3; have l7_4 := keep hb4 l7_3; have l8_4 := keep hb4 l8_3; have l9_4 := keep hb4 l9_3; have l10_4 := keep hb4 l10_3; have l11_4 := keep hb4 l11_3; have l12_4 := keep hb4 l12_3; clear hb4)
    | (go_at_call 9; (with_reducible refine Calls.mono (HBE.out _ XA cA XB cB (HXA.out.bel C4.out) (HXB.out.bel C4.out)) ?_); rintro e w5 ⟨rfl, hb5⟩; have C5 := Lib.hid (thenB C4.out hb5); have a0_5 := keep hb5 a0_4; have a1_5 := keep hb5 a1_4; have b0_5 := keep hb5 b0_4; have b1_5 := keep hb5 b1_4; have l4_5 := keep hb5 l4_4; have l5_5 := keep hb5 l5_4; have l6_5 := keep hb5 l6_4; have l7_5 := keep hb5 l7_4; have l8_5 := keep hb5 l8_4; have l9_5 := keep hb5 l9_4; have l10_5 := keep hb5 l10_4; have l11_5 := keep hb5 l11_4; have l12_5 := keep hb5 l12_4; clear hb5)
    | (go_at_call 28; (with_reducible refine Calls.mono (HW0.out _) ?_); rintro e w6 ⟨rfl, hb6⟩; have C6 := Lib.hid (thenB C5.out hb6); have a0_6 := keep hb6 a0_5; have a1_6 := keep hb6 a1_5; have b0_6 := keep hb6 b0_5; have b1_6 := keep hb6 b1_5; have l4_6 := keep hb6 l4_5; have l5_6 := keep hb6 l5_5; have l6_6 := keep hb6 l6_5; have l7_6 := keep hb6 l7_5; have l8_6 := keep hb6 l8_5; have l9_6 := keep hb6 l9_5; have l10_6 := keep hb6 l10_5; have l11_6 := keep hb6 l11_5; have l12_6 := keep hb6 l12_5; clear hb6)
    | (go_at_call 28; (with_reducible refine Calls.mono (HW1.out _) ?_); rintro e w7 ⟨rfl, hb7⟩; have C7 := Lib.hid (thenB C6.out hb7); have a0_7 := keep hb7 a0_6; have a1_7 := keep hb7 a1_6; have b0_7 := keep hb7 b0_6; have b1_7 := keep hb7 b1_6; have l4_7 := keep hb7 l4_6; have l5_7 := keep hb7 l5_6; have l6_7 := keep hb7 l6_6; have l7_7 := keep hb7 l7_6; have l8_7 := keep hb7 l8_6; have l9_7 := keep hb7 l9_6; have l10_7 := keep hb7 l10_6; have l11_7 := keep hb7 l11_6; have l12_7 := keep hb7 l12_6; clear hb7)
    | (go_at_call 11; (with_reducible refine Calls.mono (HTE.out _ XA cA XB cB (HXA.out.bel C7.out) (HXB.out.bel C7.out)) ?_); rintro e w8 ⟨rfl, hb8⟩; have C8 := Lib.hid (thenB C7.out hb8); have a0_8 := keep hb8 a0_7; have a1_8 := keep hb8 a1_7; have b0_8 := keep hb8 b0_7; have b1_8 := keep hb8 b1_7; have l4_8 := keep hb8 l4_7; have l5_8 := keep hb8 l5_7; have l6_8 := keep hb8 l6_7; have l7_8 := keep hb8 l7_7; have l8_8 := keep hb8 l8_7; have l9_8 := keep hb8 l9_7; have l10_8 := keep hb8 l10_7; have l11_8 := keep hb8 l11_7; have l12_8 := keep hb8 l12_7; clear hb8)
    | (go_at_call 13; (with_reducible refine (bwithin_any _ _ _ _).mono ?_); rintro e w' ⟨rfl, rfl⟩)
    | fail)
  replace BV := Lib.hid (thenB BV.out C8.out)
  have HXA_ := Lib.hid (HXA.out.bel C8.out)
  have HXB_ := Lib.hid (HXB.out.bel C8.out)
  clear HXA HXB a0_2 a1_2 b0_2 b1_2 l4_2 l5_2 l6_2 l7_2 l8_2 l9_2 l10_2 l11_2 l12_2 a0_3 a1_3 b0_3 b1_3 l4_3 l5_3 l6_3 l7_3 l8_3 l9_3 l10_3 l11_3 l12_3 a0_4 a1_4 b0_4 b1_4 l4_4 l5_4 l6_4 l7_4 l8_4 l9_4 l10_4 l11_4 l12_4 a0_5 a1_5 b0_5 b1_5 l4_5 l5_5 l6_5 l7_5 l8_5 l9_5 l10_5 l11_5 l12_5 a0_6 a1_6 b0_6 b1_6 l4_6 l5_6 l6_6 l7_6 l8_6 l9_6 l10_6 l11_6 l12_6 a0_7 a1_7 b0_7 b1_7 l4_7 l5_7 l6_7 l7_7 l8_7 l9_7 l10_7 l11_7 l12_7 C2 C3 C4 C5 C6 C7 C8
  refine wp_region_inv my1 (by kernel_rfl) (TK w8 na nb m0 m1 x0 y0 z0 x1 y1 z1 kc kd w XA XB cA cB) rfl (by kernel_rfl) ⟨(Below.refl _ _).drew, nofun, nofun, nofun, nofun, nofun, nofun, nofun, nofun, nofun, nofun, nofun, nofun, nofun, nofun, none, none, 0, 0, 0, 0, TwoV.start⟩ (allOps_cons (fun L a' w' hL hD hs hJ K hK => by
    obtain ⟨hb, g0, g1, g2, g3, g4, g5, g6, g8, g9, g10, g11, g12, g13, g14, X, Y, c, e, p, q, hT⟩ := hJ
    have e1 := (hs.get 3 (by kernel_rfl)).trans (show _ = Value.pointer (some ⟨pa, 0, none⟩) from rfl)
    have c0 := keep hb a0_8
    have c1 := keep hb a1_8
    unfold Oper.wp
    generalize a'.eval = ρ at e1 ⊢
    simp [go_sem, e1, c0, c1]
    exact hK _ _ ⟨hb, fun _ => rfl, g1, g2, g3, g4, g5, g6, g8, g9, g10, g11, g12, g13, g14, X, Y, c, e, p, q, hT⟩) <|
      allOps_cons (fun L a' w' hL hD hs hJ K hK => by
    obtain ⟨hb, g0, g1, g2, g3, g4, g5, g6, g8, g9, g10, g11, g12, g13, g14, X, Y, c, e, p, q, hT⟩ := hJ
    have e1 := (hs.get 1 (by kernel_rfl)).trans (show _ = Value.pointer (some ⟨w.heap.size, 0, none⟩) from rfl)
    unfold Oper.wp
    generalize a'.eval = ρ at e1 ⊢
    simp [go_sem, e1]
    exact hK _ _ ⟨hb, g0, fun _ => rfl, g2, g3, g4, g5, g6, g8, g9, g10, g11, g12, g13, g14, X, Y, c, e, p, q, hT⟩) <|
      allOps_cons (fun L a' w' hL hD hs hJ K hK => by
    obtain ⟨hb, g0, g1, g2, g3, g4, g5, g6, g8, g9, g10, g11, g12, g13, g14, X, Y, c, e, p, q, hT⟩ := hJ
    have e1 : a'.eval (.tmp 86) = .pointer (some ⟨w.heap.size, 6, none⟩) := g1 (dep_of hD 1 (by kernel_rfl))
    have ec : a'.eval (.const (.int .i64 0)) = .int .i64 0 := rfl
    unfold Oper.wp
    generalize a'.eval = ρ at e1 ec ⊢
    simp [go_sem, e1, ec]
    exact hK _ _ ⟨hb, g0, g1, fun _ => rfl, g3, g4, g5, g6, g8, g9, g10, g11, g12, g13, g14, X, Y, c, e, p, q, hT⟩) <|
      allOps_cons (fun L a' w' hL hD hs hJ K hK => by
    obtain ⟨hb, g0, g1, g2, g3, g4, g5, g6, g8, g9, g10, g11, g12, g13, g14, X, Y, c, e, p, q, hT⟩ := hJ
    have e1 : a'.eval (.tmp 87) = .pointer (some ⟨w.heap.size, 6, none⟩) := g2 (dep_of hD 2 (by kernel_rfl))
    have c0 := keep hb l6_8
    have c1 := keep hb l7_8
    have c2 := keep hb l8_8
    unfold Oper.wp
    generalize a'.eval = ρ at e1 ⊢
    simp [go_sem, e1, c0, c1, c2]
    exact hK _ _ ⟨hb, g0, g1, g2, fun _ => rfl, g4, g5, g6, g8, g9, g10, g11, g12, g13, g14, X, Y, c, e, p, q, hT⟩) <|
      allOps_cons (fun L a' w' hL hD hs hJ K hK => by
    obtain ⟨hb, g0, g1, g2, g3, g4, g5, g6, g8, g9, g10, g11, g12, g13, g14, X, Y, c, e, p, q, hT⟩ := hJ
    have e1 := (hs.get 1 (by kernel_rfl)).trans (show _ = Value.pointer (some ⟨w.heap.size, 0, none⟩) from rfl)
    unfold Oper.wp
    generalize a'.eval = ρ at e1 ⊢
    simp [go_sem, e1]
    exact hK _ _ ⟨hb, g0, g1, g2, g3, fun _ => rfl, g5, g6, g8, g9, g10, g11, g12, g13, g14, X, Y, c, e, p, q, hT⟩) <|
      allOps_cons (fun L a' w' hL hD hs hJ K hK => by
    obtain ⟨hb, g0, g1, g2, g3, g4, g5, g6, g8, g9, g10, g11, g12, g13, g14, X, Y, c, e, p, q, hT⟩ := hJ
    have e1 : a'.eval (.tmp 89) = .pointer (some ⟨w.heap.size, 4, none⟩) := g4 (dep_of hD 4 (by kernel_rfl))
    have ec : a'.eval (.const (.int .i64 0)) = .int .i64 0 := rfl
    unfold Oper.wp
    generalize a'.eval = ρ at e1 ec ⊢
    simp [go_sem, e1, ec]
    exact hK _ _ ⟨hb, g0, g1, g2, g3, g4, fun _ => rfl, g6, g8, g9, g10, g11, g12, g13, g14, X, Y, c, e, p, q, hT⟩) <|
      allOps_cons (fun L a' w' hL hD hs hJ K hK => by
    obtain ⟨hb, g0, g1, g2, g3, g4, g5, g6, g8, g9, g10, g11, g12, g13, g14, X, Y, c, e, p, q, hT⟩ := hJ
    have e1 : a'.eval (.tmp 90) = .pointer (some ⟨w.heap.size, 4, none⟩) := g5 (dep_of hD 5 (by kernel_rfl))
    have c0 := keep hb l4_8
    unfold Oper.wp
    generalize a'.eval = ρ at e1 ⊢
    simp [go_sem, e1, c0]
    exact hK _ _ ⟨hb, g0, g1, g2, g3, g4, g5, fun _ => rfl, g8, g9, g10, g11, g12, g13, g14, X, Y, c, e, p, q, hT⟩) <|
      allOps_cons (fun L a' w' hL hD hs hJ K hK => by
    obtain ⟨hb, g0, g1, g2, g3, g4, g5, g6, g8, g9, g10, g11, g12, g13, g14, X, Y, c, e, p, q, hT⟩ := hJ
    have e1 : a'.eval (.tmp 85) = .agg #[.slice XA na cA, .int .i64 0] := g0 (dep_of hD 0 (by kernel_rfl))
    have e2 : a'.eval (.tmp 88) = .agg #[.int .i64 x0, .int .i64 y0, .int .i64 z0] := g3 (dep_of hD 3 (by kernel_rfl))
    have e3 : a'.eval (.tmp 91) = .int .i64 m0 := g6 (dep_of hD 6 (by kernel_rfl))
    refine Oper.wp_mono ?_ (rg_fn (φ := fun v w'' => ∃ X1 c1, v = .agg #[.slice X1 na c1, .int .i64 m0] ∧ KA w'' X1 na kc ∧ (0 < na → w'.heap.size ≤ ob X1)) (vs := #[.agg #[.slice XA na cA, .int .i64 0], .agg #[.int .i64 x0, .int .i64 y0, .int .i64 z0], .int .i64 m0]) rfl (enters_of Try.func29 (by kernel_rfl) rfl) (by simp [e1, e2, e3]) ((HSa.out w' XA cA (HXA_.out.bel hb)).mono (by rintro e w1 ⟨X1, c1, rfl, hk, hn, h⟩; exact ⟨_, rfl, h, X1, c1, rfl, hk, hn⟩)))
    rintro a'' w'' ⟨v, rfl, h, X1, c1, rfl, hk, hn⟩
    exact hK _ _ ⟨belowT hb h, g0, g1, g2, g3, g4, g5, g6, g8, g9, g10, g11, g12, g13, g14, X1, Y, c1, e, p, q, hT.copyA hL h hk hn⟩) <|
      allOps_cons (fun L a' w' hL hD hs hJ K hK => by
    obtain ⟨hb, g0, g1, g2, g3, g4, g5, g6, g8, g9, g10, g11, g12, g13, g14, X, Y, c, e, p, q, hT⟩ := hJ
    have e1 := (hs.get 4 (by kernel_rfl)).trans (show _ = Value.pointer (some ⟨pb, 0, none⟩) from rfl)
    have c0 := keep hb b0_8
    have c1 := keep hb b1_8
    unfold Oper.wp
    generalize a'.eval = ρ at e1 ⊢
    simp [go_sem, e1, c0, c1]
    exact hK _ _ ⟨hb, g0, g1, g2, g3, g4, g5, g6, fun _ => rfl, g9, g10, g11, g12, g13, g14, X, Y, c, e, p, q, hT⟩) <|
      allOps_cons (fun L a' w' hL hD hs hJ K hK => by
    obtain ⟨hb, g0, g1, g2, g3, g4, g5, g6, g8, g9, g10, g11, g12, g13, g14, X, Y, c, e, p, q, hT⟩ := hJ
    have e1 := (hs.get 1 (by kernel_rfl)).trans (show _ = Value.pointer (some ⟨w.heap.size, 0, none⟩) from rfl)
    unfold Oper.wp
    generalize a'.eval = ρ at e1 ⊢
    simp [go_sem, e1]
    exact hK _ _ ⟨hb, g0, g1, g2, g3, g4, g5, g6, g8, fun _ => rfl, g10, g11, g12, g13, g14, X, Y, c, e, p, q, hT⟩) <|
      allOps_cons (fun L a' w' hL hD hs hJ K hK => by
    obtain ⟨hb, g0, g1, g2, g3, g4, g5, g6, g8, g9, g10, g11, g12, g13, g14, X, Y, c, e, p, q, hT⟩ := hJ
    have e1 : a'.eval (.tmp 94) = .pointer (some ⟨w.heap.size, 6, none⟩) := g9 (dep_of hD 9 (by kernel_rfl))
    have ec : a'.eval (.const (.int .i64 1)) = .int .i64 1 := rfl
    unfold Oper.wp
    generalize a'.eval = ρ at e1 ec ⊢
    simp [go_sem, e1, ec]
    exact hK _ _ ⟨hb, g0, g1, g2, g3, g4, g5, g6, g8, g9, fun _ => rfl, g11, g12, g13, g14, X, Y, c, e, p, q, hT⟩) <|
      allOps_cons (fun L a' w' hL hD hs hJ K hK => by
    obtain ⟨hb, g0, g1, g2, g3, g4, g5, g6, g8, g9, g10, g11, g12, g13, g14, X, Y, c, e, p, q, hT⟩ := hJ
    have e1 : a'.eval (.tmp 95) = .pointer (some ⟨w.heap.size, 9, none⟩) := g10 (dep_of hD 10 (by kernel_rfl))
    have c0 := keep hb l9_8
    have c1 := keep hb l10_8
    have c2 := keep hb l11_8
    unfold Oper.wp
    generalize a'.eval = ρ at e1 ⊢
    simp [go_sem, e1, c0, c1, c2]
    exact hK _ _ ⟨hb, g0, g1, g2, g3, g4, g5, g6, g8, g9, g10, fun _ => rfl, g12, g13, g14, X, Y, c, e, p, q, hT⟩) <|
      allOps_cons (fun L a' w' hL hD hs hJ K hK => by
    obtain ⟨hb, g0, g1, g2, g3, g4, g5, g6, g8, g9, g10, g11, g12, g13, g14, X, Y, c, e, p, q, hT⟩ := hJ
    have e1 := (hs.get 1 (by kernel_rfl)).trans (show _ = Value.pointer (some ⟨w.heap.size, 0, none⟩) from rfl)
    unfold Oper.wp
    generalize a'.eval = ρ at e1 ⊢
    simp [go_sem, e1]
    exact hK _ _ ⟨hb, g0, g1, g2, g3, g4, g5, g6, g8, g9, g10, g11, fun _ => rfl, g13, g14, X, Y, c, e, p, q, hT⟩) <|
      allOps_cons (fun L a' w' hL hD hs hJ K hK => by
    obtain ⟨hb, g0, g1, g2, g3, g4, g5, g6, g8, g9, g10, g11, g12, g13, g14, X, Y, c, e, p, q, hT⟩ := hJ
    have e1 : a'.eval (.tmp 97) = .pointer (some ⟨w.heap.size, 4, none⟩) := g12 (dep_of hD 12 (by kernel_rfl))
    have ec : a'.eval (.const (.int .i64 1)) = .int .i64 1 := rfl
    unfold Oper.wp
    generalize a'.eval = ρ at e1 ec ⊢
    simp [go_sem, e1, ec]
    exact hK _ _ ⟨hb, g0, g1, g2, g3, g4, g5, g6, g8, g9, g10, g11, g12, fun _ => rfl, g14, X, Y, c, e, p, q, hT⟩) <|
      allOps_cons (fun L a' w' hL hD hs hJ K hK => by
    obtain ⟨hb, g0, g1, g2, g3, g4, g5, g6, g8, g9, g10, g11, g12, g13, g14, X, Y, c, e, p, q, hT⟩ := hJ
    have e1 : a'.eval (.tmp 98) = .pointer (some ⟨w.heap.size, 5, none⟩) := g13 (dep_of hD 13 (by kernel_rfl))
    have c0 := keep hb l5_8
    unfold Oper.wp
    generalize a'.eval = ρ at e1 ⊢
    simp [go_sem, e1, c0]
    exact hK _ _ ⟨hb, g0, g1, g2, g3, g4, g5, g6, g8, g9, g10, g11, g12, g13, fun _ => rfl, X, Y, c, e, p, q, hT⟩) <|
      allOps_cons (fun L a' w' hL hD hs hJ K hK => by
    obtain ⟨hb, g0, g1, g2, g3, g4, g5, g6, g8, g9, g10, g11, g12, g13, g14, X, Y, c, e, p, q, hT⟩ := hJ
    have e1 : a'.eval (.tmp 93) = .agg #[.slice XB nb cB, .int .i64 0] := g8 (dep_of hD 8 (by kernel_rfl))
    have e2 : a'.eval (.tmp 96) = .agg #[.int .i64 x1, .int .i64 y1, .int .i64 z1] := g11 (dep_of hD 11 (by kernel_rfl))
    have e3 : a'.eval (.tmp 99) = .int .i64 m1 := g14 (dep_of hD 14 (by kernel_rfl))
    refine Oper.wp_mono ?_ (rg_fn (φ := fun v w'' => ∃ X1 c1, v = .agg #[.slice X1 nb c1, .int .i64 m1] ∧ KA w'' X1 nb kd ∧ (0 < nb → w'.heap.size ≤ ob X1)) (vs := #[.agg #[.slice XB nb cB, .int .i64 0], .agg #[.int .i64 x1, .int .i64 y1, .int .i64 z1], .int .i64 m1]) rfl (enters_of Try.func29 (by kernel_rfl) rfl) (by simp [e1, e2, e3]) ((HSb.out w' XB cB (HXB_.out.bel hb)).mono (by rintro e w1 ⟨X1, c1, rfl, hk, hn, h⟩; exact ⟨_, rfl, h, X1, c1, rfl, hk, hn⟩)))
    rintro a'' w'' ⟨v, rfl, h, Y1, c1, rfl, hk, hn⟩
    exact hK _ _ ⟨belowT hb h, g0, g1, g2, g3, g4, g5, g6, g8, g9, g10, g11, g12, g13, g14, X, Y1, c, c1, p, q, hT.copyB hL h hk hn⟩) <|
      allOps_cons (fun L a' w' hL hD hs hJ K hK => by
    obtain ⟨hb, g0, g1, g2, g3, g4, g5, g6, g8, g9, g10, g11, g12, g13, g14, X, Y, c, e, p, q, hT⟩ := hJ
    unfold Oper.wp
    generalize a'.eval = ρ
    simp [go_sem]
    exact hK _ _ ⟨hb.alloc hb.size _, g0, g1, g2, g3, g4, g5, g6, g8, g9, g10, g11, g12, g13, g14, X, Y, c, e, _, q, hT.newA hL hb.size⟩) <|
      allOps_cons (fun L a' w' hL hD hs hJ K hK => by
    obtain ⟨hb, g0, g1, g2, g3, g4, g5, g6, g8, g9, g10, g11, g12, g13, g14, X, Y, c, e, p, q, hT⟩ := hJ
    unfold Oper.wp
    generalize a'.eval = ρ
    simp [go_sem]
    exact hK _ _ ⟨hb.alloc hb.size _, g0, g1, g2, g3, g4, g5, g6, g8, g9, g10, g11, g12, g13, g14, X, Y, c, e, p, _, hT.newB hL hb.size⟩) <|
      allOps_cons (fun L a' w' hL hD hs hJ K hK => by
    obtain ⟨hb, g0, g1, g2, g3, g4, g5, g6, g8, g9, g10, g11, g12, g13, g14, X, Y, c, e, p, q, hT⟩ := hJ
    have dc : L 7 = true := dep_of hD 7 (by kernel_rfl)
    have dp : L 16 = true := dep_of hD 16 (by kernel_rfl)
    have hn := hT.nA dp
    have e1 : a'.eval (.tmp 5) = .pointer (some ⟨p, 0, none⟩) := hn.val
    have e2 : a'.eval (.tmp 92) = .agg #[.slice X na c, .int .i64 m0] := (hT.cA dc).1
    have f0 := hn.f0
    have f1 := hn.f1
    obtain ⟨v0, c0⟩ := Option.isSome_iff_exists.1 hn.c0
    obtain ⟨v1, c1⟩ := Option.isSome_iff_exists.1 hn.c1
    unfold Oper.wp
    generalize a'.eval = ρ at e1 e2 ⊢
    simp [go_sem, e1, e2, f0, f1, c0, c1]
    exact hK undef _ ⟨(hb.setCell hn.new _).setCell hn.new _, g0, g1, g2, g3, g4, g5, g6, g8, g9, g10, g11, g12, g13, g14, X, Y, c, e, p, q, hT.stoA dc dp⟩) <|
      allOps_cons (fun L a' w' hL hD hs hJ K hK => by
    obtain ⟨hb, g0, g1, g2, g3, g4, g5, g6, g8, g9, g10, g11, g12, g13, g14, X, Y, c, e, p, q, hT⟩ := hJ
    have dc : L 15 = true := dep_of hD 15 (by kernel_rfl)
    have dp : L 17 = true := dep_of hD 17 (by kernel_rfl)
    have hn := hT.nB dp
    have e1 : a'.eval (.tmp 6) = .pointer (some ⟨q, 0, none⟩) := hn.val
    have e2 : a'.eval (.tmp 100) = .agg #[.slice Y nb e, .int .i64 m1] := (hT.cB dc).1
    have f0 := hn.f0
    have f1 := hn.f1
    obtain ⟨v0, c0⟩ := Option.isSome_iff_exists.1 hn.c0
    obtain ⟨v1, c1⟩ := Option.isSome_iff_exists.1 hn.c1
    unfold Oper.wp
    generalize a'.eval = ρ at e1 e2 ⊢
    simp [go_sem, e1, e2, f0, f1, c0, c1]
    exact hK undef _ ⟨(hb.setCell hn.new _).setCell hn.new _, g0, g1, g2, g3, g4, g5, g6, g8, g9, g10, g11, g12, g13, g14, X, Y, c, e, p, q, hT.stoB dc dp⟩) <| allOps_nil) (fun L V V1 hall hJ => ?_)
  obtain ⟨hb, -, -, -, -, -, -, -, -, -, -, -, -, -, -, XC, XD, cC, cD, pc, pd, hT⟩ := hJ
  have n1 := hT.nA (hall 16 (by kernel_rfl))
  have n2 := hT.nB (hall 17 (by kernel_rfl))
  obtain ⟨-, -, c0_, c1_⟩ := hT.sA (hall 18 (by kernel_rfl))
  obtain ⟨-, -, d0_, d1_⟩ := hT.sB (hall 19 (by kernel_rfl))
  have HXC_ := Lib.hid (hT.cA (hall 7 (by kernel_rfl))).2
  have HXD_ := Lib.hid (hT.cB (hall 15 (by kernel_rfl))).2
  simp only [my1, maskPut, Nat.reduceAdd]
  rw [n1.val, n2.val]
  clear hT hall n1 n2
  replace BV := Lib.hid (thenB BV.out hb)
  replace HXA_ := Lib.hid (HXA_.out.bel hb)
  replace HXB_ := Lib.hid (HXB_.out.bel hb)
  have a0_ := keep hb a0_8
  have a1_ := keep hb a1_8
  have b0_ := keep hb b0_8
  have b1_ := keep hb b1_8
  have l12_ := keep hb l12_8
  clear hb a0_8 a1_8 b0_8 b1_8 l4_8 l5_8 l6_8 l7_8 l8_8 l9_8 l10_8 l11_8 l12_8
  have HZA := Lib.hid (HXA_.out.some0 na0 cA)
  have HZB := Lib.hid (HXB_.out.some0 nb0 cB)
  have HZC := Lib.hid (HXC_.out.some0 na0 cC)
  have HZD := Lib.hid (HXD_.out.some0 nb0 cD)
  go_wp2_with (first
    | (go_at_call 9; (with_reducible refine Calls.mono (HBC.out _ XC cC XD cD HXC_.out HXD_.out) ?_); rintro e w9 ⟨rfl, hb9⟩; replace BV := Lib.hid (thenB BV.out hb9); replace HXA_ := Lib.hid (HXA_.out.bel hb9); replace HXB_ := Lib.hid (HXB_.out.bel hb9); replace HXC_ := Lib.hid (HXC_.out.bel hb9); replace HXD_ := Lib.hid (HXD_.out.bel hb9); replace a0_ := keep hb9 a0_; replace a1_ := keep hb9 a1_; replace b0_ := keep hb9 b0_; replace b1_ := keep hb9 b1_; replace c0_ := keep hb9 c0_; replace c1_ := keep hb9 c1_; replace d0_ := keep hb9 d0_; replace d1_ := keep hb9 d1_; replace l12_ := keep hb9 l12_; clear hb9)
    | fail)
  clear HFa HFb HBE HW0 HW1 HTE HSa HSb HBC
  refine wp_region_st my2 (by kernel_rfl) [mpEq (.agg #[.slice XA na cA, .int .i64 0]), mpCp na 0 ka, mpEq (.agg #[.slice XB nb cB, .int .i64 0]), mpCp nb 0 kb, mpEq (.pointer (some ⟨w.heap.size, 12, none⟩)), mpEq (.int .i64 s), mpEq (.tuple #[.agg #[.int .i64 o1, .int .i64 o2], .int .i64 0]), mpEq (.tuple #[.agg #[.int .i64 o1, .int .i64 o2], .int .i64 0]), mpEq (.agg #[.int .i64 o1, .int .i64 o2]), mpTop, mpNew (w9).heap.size, mpTop, mpTop] [(fun _ => True), (fun _ => True), (fun _ => True), (fun _ => True), (fun _ => True), (fun _ => True), (fun _ => True), (· = .tuple #[.agg #[.int .i64 o1, .int .i64 o2], .int .i64 0]), (fun _ => True), (· = .int .i64 0), (fun _ => True), (fun _ => True), (· = .int .i64 0)] (mpVar (w9).heap.size (o1) (o2)) 11 10 7 (by kernel_rfl) (by kernel_rfl) (by kernel_rfl) (by kernel_rfl) rfl (
      allOps_cons (rs_not (by kernel_rfl) (fun a' w' hb hs hd hp => rs_op fun K hK => by
    have e1 := (hs.get 3 (by kernel_rfl)).trans (show _ = Value.pointer (some ⟨pa, 0, none⟩) from rfl)
    have c0 := keep hb a0_
    have c1 := keep hb a1_
    clear hs hd hp
    unfold Oper.wp
    generalize a'.eval = ρ at e1 ⊢
    simp [go_sem, e1, c0, c1]
    exact hK _ _ (Below.refl _ _) rfl trivial)) <|
      allOps_cons (rs_not (by kernel_rfl) (fun a' w' hb hs hd hp => by
    exact rs_fn (φ := (mpCp na 0 ka).p) (ψ := (fun _ => True)) (vs := #[.agg #[.slice XA na cA, .int .i64 0]]) rfl (enters_of Try.func14 (by kernel_rfl) rfl) (by simp [(show a'.eval (.tmp 106) = .agg #[.slice XA na cA, .int .i64 0] from RDeps.get (hd (by kernel_rfl)) 0 106 (by kernel_rfl) (by kernel_rfl))]) ((copyT_any XA na cA 0 ka w' (by omega) HZA.out (HXA_.out.bel hb)).mono (by rintro e w1 ⟨X, c1, rfl, hk, h1⟩; exact ⟨_, rfl, h1, ⟨X, c1, rfl, hk⟩, trivial⟩)))) <|
      allOps_cons (rs_not (by kernel_rfl) (fun a' w' hb hs hd hp => rs_op fun K hK => by
    have e1 := (hs.get 4 (by kernel_rfl)).trans (show _ = Value.pointer (some ⟨pb, 0, none⟩) from rfl)
    have c0 := keep hb b0_
    have c1 := keep hb b1_
    clear hs hd hp
    unfold Oper.wp
    generalize a'.eval = ρ at e1 ⊢
    simp [go_sem, e1, c0, c1]
    exact hK _ _ (Below.refl _ _) rfl trivial)) <|
      allOps_cons (rs_not (by kernel_rfl) (fun a' w' hb hs hd hp => by
    exact rs_fn (φ := (mpCp nb 0 kb).p) (ψ := (fun _ => True)) (vs := #[.agg #[.slice XB nb cB, .int .i64 0]]) rfl (enters_of Try.func14 (by kernel_rfl) rfl) (by simp [(show a'.eval (.tmp 108) = .agg #[.slice XB nb cB, .int .i64 0] from RDeps.get (hd (by kernel_rfl)) 2 108 (by kernel_rfl) (by kernel_rfl))]) ((copyT_any XB nb cB 0 kb w' (by omega) HZB.out (HXB_.out.bel hb)).mono (by rintro e w1 ⟨X, c1, rfl, hk, h1⟩; exact ⟨_, rfl, h1, ⟨X, c1, rfl, hk⟩, trivial⟩)))) <|
      allOps_cons (rs_not (by kernel_rfl) (fun a' w' hb hs hd hp => rs_op fun K hK => by
    have e1 := (hs.get 1 (by kernel_rfl)).trans (show _ = Value.pointer (some ⟨w.heap.size, 0, none⟩) from rfl)
    clear hs hd hp
    unfold Oper.wp
    generalize a'.eval = ρ at e1 ⊢
    simp [go_sem, e1]
    exact hK _ _ (Below.refl _ _) rfl trivial)) <|
      allOps_cons (rs_not (by kernel_rfl) (fun a' w' hb hs hd hp => rs_op fun K hK => by
    have e1 := (show a'.eval (.tmp 110) = .pointer (some ⟨w.heap.size, 12, none⟩) from RDeps.get (hd (by kernel_rfl)) 4 110 (by kernel_rfl) (by kernel_rfl))
    have c0 := keep hb l12_
    clear hs hd hp
    unfold Oper.wp
    generalize a'.eval = ρ at e1 ⊢
    simp [go_sem, e1, c0]
    exact hK _ _ (Below.refl _ _) rfl trivial)) <|
      allOps_cons (rs_not (by kernel_rfl) (fun a' w' hb hs hd hp => by
    obtain ⟨X1, c1, e1, k1⟩ := (show (mpCp na 0 ka).p (a'.eval (.tmp 107)) w' from RDeps.get (hd (by kernel_rfl)) 1 107 (by kernel_rfl) (by kernel_rfl))
    obtain ⟨X2, c2, e2, k2⟩ := (show (mpCp nb 0 kb).p (a'.eval (.tmp 109)) w' from RDeps.get (hd (by kernel_rfl)) 3 109 (by kernel_rfl) (by kernel_rfl))
    exact rs_fn (φ := (mpEq (.tuple #[.agg #[.int .i64 o1, .int .i64 o2], .int .i64 0])).p) (ψ := (fun _ => True)) (vs := #[.agg #[.slice X1 na c1, .int .i64 0], .agg #[.slice X2 nb c2, .int .i64 0], .int .i64 s]) rfl (enters_of Try.func15 (by kernel_rfl) rfl) (by simp [e1, e2, (show a'.eval (.tmp 111) = .int .i64 s from RDeps.get (hd (by kernel_rfl)) 5 111 (by kernel_rfl) (by kernel_rfl))]) ((HO.out w' X1 c1 X2 c2 k1 k2).mono (by rintro e w1 ⟨rfl, h1⟩; exact ⟨_, rfl, h1, rfl, trivial⟩)))) <|
      allOps_cons (rs_not (by kernel_rfl) (fun a' w' hb hs hd hp => rs_op fun K hK => by
    have e1 := (show a'.eval (.tmp 112) = .tuple #[.agg #[.int .i64 o1, .int .i64 o2], .int .i64 0] from RDeps.get (hd (by kernel_rfl)) 6 112 (by kernel_rfl) (by kernel_rfl))
    clear hs hd hp
    unfold Oper.wp
    generalize a'.eval = ρ at e1 ⊢
    simp [go_sem, e1]
    exact hK _ _ (Below.refl _ _) rfl rfl)) <|
      allOps_cons (rs_not (by kernel_rfl) (fun a' w' hb hs hd hp => rs_op fun K hK => by
    have e1 := (show a'.eval (.tmp 105) = .tuple #[.agg #[.int .i64 o1, .int .i64 o2], .int .i64 0] from RDeps.get (hd (by kernel_rfl)) 7 105 (by kernel_rfl) (by kernel_rfl))
    clear hs hd hp
    unfold Oper.wp
    generalize a'.eval = ρ at e1 ⊢
    simp [go_sem, e1]
    exact hK _ _ (Below.refl _ _) rfl trivial)) <|
      allOps_cons (rs_not (by kernel_rfl) (fun a' w' hb hs hd hp => rs_op fun K hK => by
    have e1 := (show a'.eval (.tmp 105) = .tuple #[.agg #[.int .i64 o1, .int .i64 o2], .int .i64 0] from hp.get 7 105 (by kernel_rfl) (by kernel_rfl))
    clear hs hd hp
    unfold Oper.wp
    generalize a'.eval = ρ at e1 ⊢
    simp [go_sem, e1]
    exact hK _ _ (Below.refl _ _) trivial rfl)) <|
      allOps_cons (rs_not (by kernel_rfl) (fun a' w' hb hs hd hp => rs_op fun K hK => by
    have hz := hb.size
    clear hs hd hp
    unfold Oper.wp
    generalize a'.eval = ρ
    simp [go_sem]
    exact hK _ _ ((Below.refl _ _).alloc (Nat.le_refl _) _) ⟨_, rfl, hz, by simp [go_sem], by simp [go_sem], by simp [go_sem], by simp [go_sem]⟩ trivial)) <|
      allOps_cons (rs_is (by kernel_rfl) (fun a' w' hb hs hd => rs_st rfl fun K hK => by
    obtain ⟨q, e1, zq, c0, c1, f0, f1⟩ := (show (mpNew (w9).heap.size).p (a'.eval (.tmp 7)) w' from hd.get 10 7 (by kernel_rfl) (by kernel_rfl))
    have e2 := (show a'.eval (.tmp 113) = .agg #[.int .i64 (o1), .int .i64 (o2)] from hd.get 8 113 (by kernel_rfl) (by kernel_rfl))
    have hz := lt_of c0
    clear hs hd
    unfold Oper.wp
    generalize a'.eval = ρ at e1 e2 hK ⊢
    simp [go_sem, e1, e2, c0, c1, f0, f1]
    exact hK _ (Below.setCell (Below.setCell hb zq _) zq _) ⟨q, e1, zq, by simp [go_sem, c0], by simp [go_sem, c1], by simp [go_sem, f0], by simp [go_sem, f1]⟩)) <|
      allOps_cons (rs_not (by kernel_rfl) (fun a' w' hb hs hd hp => rs_op fun K hK => by
    have e1 := (show a'.eval (.tmp 114) = .int .i64 0 from hp.get 9 114 (by kernel_rfl) (by kernel_rfl))
    clear hs hd hp
    unfold Oper.wp
    generalize a'.eval = ρ at e1 ⊢
    simp [go_sem, e1]
    exact hK _ _ (Below.refl _ _) trivial rfl)) <| allOps_nil) (fun Q U1 hb hall hv => ?_)
  have h8 : Q 8 = .int .i64 0 := hall.get 12 rfl (by decide)
  obtain ⟨vo, h7, -, go0, go1, -, -⟩ := hv
  clear hall
  simp only [my2, maskPut, Nat.reduceAdd]
  rw [h7, h8]
  clear h7 h8
  replace a0_ := keep hb a0_
  replace a1_ := keep hb a1_
  replace b0_ := keep hb b0_
  replace b1_ := keep hb b1_
  replace c0_ := keep hb c0_
  replace c1_ := keep hb c1_
  replace d0_ := keep hb d0_
  replace d1_ := keep hb d1_
  replace l12_ := keep hb l12_
  replace HXA_ := Lib.hid (HXA_.out.bel hb)
  replace HXB_ := Lib.hid (HXB_.out.bel hb)
  replace HXC_ := Lib.hid (HXC_.out.bel hb)
  replace HXD_ := Lib.hid (HXD_.out.bel hb)
  replace BV := Lib.hid (thenB BV.out hb)
  clear hb
  clear w9
  go_wp2_with fail
  refine wp_region_st my3 (by kernel_rfl) [mpEq (.agg #[.slice XC na cC, .int .i64 m0]), mpCp na m0 kc, mpEq (.agg #[.slice XD nb cD, .int .i64 m1]), mpCp nb m1 kd, mpEq (.pointer (some ⟨w.heap.size, 12, none⟩)), mpEq (.int .i64 s), mpEq (.tuple #[.agg #[.int .i64 lo9, .int .i64 hi9], .int .i64 0]), mpEq (.tuple #[.agg #[.int .i64 lo9, .int .i64 hi9], .int .i64 0]), mpEq (.agg #[.int .i64 lo9, .int .i64 hi9]), mpTop, mpNew (U1).heap.size, mpTop, mpTop] [(fun _ => True), (fun _ => True), (fun _ => True), (fun _ => True), (fun _ => True), (fun _ => True), (fun _ => True), (· = .tuple #[.agg #[.int .i64 lo9, .int .i64 hi9], .int .i64 0]), (fun _ => True), (· = .int .i64 0), (fun _ => True), (fun _ => True), (· = .int .i64 0)] (mpVar (U1).heap.size (lo9) (hi9)) 11 10 9 (by kernel_rfl) (by kernel_rfl) (by kernel_rfl) (by kernel_rfl) rfl (
      allOps_cons (rs_not (by kernel_rfl) (fun a' w' hb hs hd hp => rs_op fun K hK => by
    have e1 := (hs.get 5 (by kernel_rfl)).trans (show _ = Value.pointer (some ⟨pc, 0, none⟩) from rfl)
    have c0 := keep hb c0_
    have c1 := keep hb c1_
    clear hs hd hp
    unfold Oper.wp
    generalize a'.eval = ρ at e1 ⊢
    simp [go_sem, e1, c0, c1]
    exact hK _ _ (Below.refl _ _) rfl trivial)) <|
      allOps_cons (rs_not (by kernel_rfl) (fun a' w' hb hs hd hp => by
    exact rs_fn (φ := (mpCp na m0 kc).p) (ψ := (fun _ => True)) (vs := #[.agg #[.slice XC na cC, .int .i64 m0]]) rfl (enters_of Try.func14 (by kernel_rfl) rfl) (by simp [(show a'.eval (.tmp 116) = .agg #[.slice XC na cC, .int .i64 m0] from RDeps.get (hd (by kernel_rfl)) 0 116 (by kernel_rfl) (by kernel_rfl))]) ((copyT_any XC na cC m0 kc w' (by omega) HZC.out (HXC_.out.bel hb)).mono (by rintro e w1 ⟨X, c1, rfl, hk, h1⟩; exact ⟨_, rfl, h1, ⟨X, c1, rfl, hk⟩, trivial⟩)))) <|
      allOps_cons (rs_not (by kernel_rfl) (fun a' w' hb hs hd hp => rs_op fun K hK => by
    have e1 := (hs.get 6 (by kernel_rfl)).trans (show _ = Value.pointer (some ⟨pd, 0, none⟩) from rfl)
    have c0 := keep hb d0_
    have c1 := keep hb d1_
    clear hs hd hp
    unfold Oper.wp
    generalize a'.eval = ρ at e1 ⊢
    simp [go_sem, e1, c0, c1]
    exact hK _ _ (Below.refl _ _) rfl trivial)) <|
      allOps_cons (rs_not (by kernel_rfl) (fun a' w' hb hs hd hp => by
    exact rs_fn (φ := (mpCp nb m1 kd).p) (ψ := (fun _ => True)) (vs := #[.agg #[.slice XD nb cD, .int .i64 m1]]) rfl (enters_of Try.func14 (by kernel_rfl) rfl) (by simp [(show a'.eval (.tmp 118) = .agg #[.slice XD nb cD, .int .i64 m1] from RDeps.get (hd (by kernel_rfl)) 2 118 (by kernel_rfl) (by kernel_rfl))]) ((copyT_any XD nb cD m1 kd w' (by omega) HZD.out (HXD_.out.bel hb)).mono (by rintro e w1 ⟨X, c1, rfl, hk, h1⟩; exact ⟨_, rfl, h1, ⟨X, c1, rfl, hk⟩, trivial⟩)))) <|
      allOps_cons (rs_not (by kernel_rfl) (fun a' w' hb hs hd hp => rs_op fun K hK => by
    have e1 := (hs.get 1 (by kernel_rfl)).trans (show _ = Value.pointer (some ⟨w.heap.size, 0, none⟩) from rfl)
    clear hs hd hp
    unfold Oper.wp
    generalize a'.eval = ρ at e1 ⊢
    simp [go_sem, e1]
    exact hK _ _ (Below.refl _ _) rfl trivial)) <|
      allOps_cons (rs_not (by kernel_rfl) (fun a' w' hb hs hd hp => rs_op fun K hK => by
    have e1 := (show a'.eval (.tmp 120) = .pointer (some ⟨w.heap.size, 12, none⟩) from RDeps.get (hd (by kernel_rfl)) 4 120 (by kernel_rfl) (by kernel_rfl))
    have c0 := keep hb l12_
    clear hs hd hp
    unfold Oper.wp
    generalize a'.eval = ρ at e1 ⊢
    simp [go_sem, e1, c0]
    exact hK _ _ (Below.refl _ _) rfl trivial)) <|
      allOps_cons (rs_not (by kernel_rfl) (fun a' w' hb hs hd hp => by
    obtain ⟨X1, c1, e1, k1⟩ := (show (mpCp na m0 kc).p (a'.eval (.tmp 117)) w' from RDeps.get (hd (by kernel_rfl)) 1 117 (by kernel_rfl) (by kernel_rfl))
    obtain ⟨X2, c2, e2, k2⟩ := (show (mpCp nb m1 kd).p (a'.eval (.tmp 119)) w' from RDeps.get (hd (by kernel_rfl)) 3 119 (by kernel_rfl) (by kernel_rfl))
    exact rs_fn (φ := (mpEq (.tuple #[.agg #[.int .i64 lo9, .int .i64 hi9], .int .i64 0])).p) (ψ := (fun _ => True)) (vs := #[.agg #[.slice X1 na c1, .int .i64 m0], .agg #[.slice X2 nb c2, .int .i64 m1], .int .i64 s]) rfl (enters_of Try.func15 (by kernel_rfl) rfl) (by simp [e1, e2, (show a'.eval (.tmp 121) = .int .i64 s from RDeps.get (hd (by kernel_rfl)) 5 121 (by kernel_rfl) (by kernel_rfl))]) ((HK.out w' X1 c1 X2 c2 k1 k2).mono (by rintro e w1 ⟨rfl, h1⟩; exact ⟨_, rfl, h1, rfl, trivial⟩)))) <|
      allOps_cons (rs_not (by kernel_rfl) (fun a' w' hb hs hd hp => rs_op fun K hK => by
    have e1 := (show a'.eval (.tmp 122) = .tuple #[.agg #[.int .i64 lo9, .int .i64 hi9], .int .i64 0] from RDeps.get (hd (by kernel_rfl)) 6 122 (by kernel_rfl) (by kernel_rfl))
    clear hs hd hp
    unfold Oper.wp
    generalize a'.eval = ρ at e1 ⊢
    simp [go_sem, e1]
    exact hK _ _ (Below.refl _ _) rfl rfl)) <|
      allOps_cons (rs_not (by kernel_rfl) (fun a' w' hb hs hd hp => rs_op fun K hK => by
    have e1 := (show a'.eval (.tmp 115) = .tuple #[.agg #[.int .i64 lo9, .int .i64 hi9], .int .i64 0] from RDeps.get (hd (by kernel_rfl)) 7 115 (by kernel_rfl) (by kernel_rfl))
    clear hs hd hp
    unfold Oper.wp
    generalize a'.eval = ρ at e1 ⊢
    simp [go_sem, e1]
    exact hK _ _ (Below.refl _ _) rfl trivial)) <|
      allOps_cons (rs_not (by kernel_rfl) (fun a' w' hb hs hd hp => rs_op fun K hK => by
    have e1 := (show a'.eval (.tmp 115) = .tuple #[.agg #[.int .i64 lo9, .int .i64 hi9], .int .i64 0] from hp.get 7 115 (by kernel_rfl) (by kernel_rfl))
    clear hs hd hp
    unfold Oper.wp
    generalize a'.eval = ρ at e1 ⊢
    simp [go_sem, e1]
    exact hK _ _ (Below.refl _ _) trivial rfl)) <|
      allOps_cons (rs_not (by kernel_rfl) (fun a' w' hb hs hd hp => rs_op fun K hK => by
    have hz := hb.size
    clear hs hd hp
    unfold Oper.wp
    generalize a'.eval = ρ
    simp [go_sem]
    exact hK _ _ ((Below.refl _ _).alloc (Nat.le_refl _) _) ⟨_, rfl, hz, by simp [go_sem], by simp [go_sem], by simp [go_sem], by simp [go_sem]⟩ trivial)) <|
      allOps_cons (rs_is (by kernel_rfl) (fun a' w' hb hs hd => rs_st rfl fun K hK => by
    obtain ⟨q, e1, zq, c0, c1, f0, f1⟩ := (show (mpNew (U1).heap.size).p (a'.eval (.tmp 9)) w' from hd.get 10 9 (by kernel_rfl) (by kernel_rfl))
    have e2 := (show a'.eval (.tmp 123) = .agg #[.int .i64 (lo9), .int .i64 (hi9)] from hd.get 8 123 (by kernel_rfl) (by kernel_rfl))
    have hz := lt_of c0
    clear hs hd
    unfold Oper.wp
    generalize a'.eval = ρ at e1 e2 hK ⊢
    simp [go_sem, e1, e2, c0, c1, f0, f1]
    exact hK _ (Below.setCell (Below.setCell hb zq _) zq _) ⟨q, e1, zq, by simp [go_sem, c0], by simp [go_sem, c1], by simp [go_sem, f0], by simp [go_sem, f1]⟩)) <|
      allOps_cons (rs_not (by kernel_rfl) (fun a' w' hb hs hd hp => rs_op fun K hK => by
    have e1 := (show a'.eval (.tmp 124) = .int .i64 0 from hp.get 9 124 (by kernel_rfl) (by kernel_rfl))
    clear hs hd hp
    unfold Oper.wp
    generalize a'.eval = ρ at e1 ⊢
    simp [go_sem, e1]
    exact hK _ _ (Below.refl _ _) trivial rfl)) <| allOps_nil) (fun Q U2 hb hall hv => ?_)
  have h8 : Q 10 = .int .i64 0 := hall.get 12 rfl (by decide)
  obtain ⟨vk, h7, -, gk0, gk1, -, -⟩ := hv
  clear hall
  simp only [my3, maskPut, Nat.reduceAdd]
  rw [h7, h8]
  clear h7 h8
  replace a0_ := keep hb a0_
  replace a1_ := keep hb a1_
  replace b0_ := keep hb b0_
  replace b1_ := keep hb b1_
  replace c0_ := keep hb c0_
  replace c1_ := keep hb c1_
  replace d0_ := keep hb d0_
  replace d1_ := keep hb d1_
  replace l12_ := keep hb l12_
  replace go0 := keep hb go0
  replace go1 := keep hb go1
  replace HXA_ := Lib.hid (HXA_.out.bel hb)
  replace HXB_ := Lib.hid (HXB_.out.bel hb)
  replace HXC_ := Lib.hid (HXC_.out.bel hb)
  replace HXD_ := Lib.hid (HXD_.out.bel hb)
  replace BV := Lib.hid (thenB BV.out hb)
  clear hb
  clear U1
  have j1 : decide (lo9 > o1) = false := by rw [decide_eq_false_iff_not]; omega
  have j2 : decide (hi9 < o2) = false := by rw [decide_eq_false_iff_not]; omega
  go_wp2_with fail
  clear go0 go1 gk0 gk1 j1 j2 i1 i2 HO HK
  refine wp_region_st my4 (by kernel_rfl) [mpEq (.agg #[.slice XC na cC, .int .i64 m0]), mpCp na m0 kc, mpEq (.agg #[.slice XD nb cD, .int .i64 m1]), mpCp nb m1 kd, mpEq (.pointer (some ⟨w.heap.size, 12, none⟩)), mpEq (.int .i64 s), mpEq (.tuple #[.agg #[.int .i64 r1, .int .i64 r2], .int .i64 rE]), mpEq (.tuple #[.agg #[.int .i64 r1, .int .i64 r2], .int .i64 rE]), mpEq (.agg #[.int .i64 r1, .int .i64 r2]), mpTop, mpNew (U2).heap.size, mpTop, mpTop] [(fun _ => True), (fun _ => True), (fun _ => True), (fun _ => True), (fun _ => True), (fun _ => True), (fun _ => True), (· = .tuple #[.agg #[.int .i64 r1, .int .i64 r2], .int .i64 rE]), (fun _ => True), (· = .int .i64 rE), (fun _ => True), (fun _ => True), (· = .int .i64 rE)] (mpVar (U2).heap.size (r1) (r2)) 11 10 11 (by kernel_rfl) (by kernel_rfl) (by kernel_rfl) (by kernel_rfl) rfl (
      allOps_cons (rs_not (by kernel_rfl) (fun a' w' hb hs hd hp => rs_op fun K hK => by
    have e1 := (hs.get 5 (by kernel_rfl)).trans (show _ = Value.pointer (some ⟨pc, 0, none⟩) from rfl)
    have c0 := keep hb c0_
    have c1 := keep hb c1_
    clear hs hd hp
    unfold Oper.wp
    generalize a'.eval = ρ at e1 ⊢
    simp [go_sem, e1, c0, c1]
    exact hK _ _ (Below.refl _ _) rfl trivial)) <|
      allOps_cons (rs_not (by kernel_rfl) (fun a' w' hb hs hd hp => by
    exact rs_fn (φ := (mpCp na m0 kc).p) (ψ := (fun _ => True)) (vs := #[.agg #[.slice XC na cC, .int .i64 m0]]) rfl (enters_of Try.func14 (by kernel_rfl) rfl) (by simp [(show a'.eval (.tmp 146) = .agg #[.slice XC na cC, .int .i64 m0] from RDeps.get (hd (by kernel_rfl)) 0 146 (by kernel_rfl) (by kernel_rfl))]) ((copyT_any XC na cC m0 kc w' (by omega) HZC.out (HXC_.out.bel hb)).mono (by rintro e w1 ⟨X, c1, rfl, hk, h1⟩; exact ⟨_, rfl, h1, ⟨X, c1, rfl, hk⟩, trivial⟩)))) <|
      allOps_cons (rs_not (by kernel_rfl) (fun a' w' hb hs hd hp => rs_op fun K hK => by
    have e1 := (hs.get 6 (by kernel_rfl)).trans (show _ = Value.pointer (some ⟨pd, 0, none⟩) from rfl)
    have c0 := keep hb d0_
    have c1 := keep hb d1_
    clear hs hd hp
    unfold Oper.wp
    generalize a'.eval = ρ at e1 ⊢
    simp [go_sem, e1, c0, c1]
    exact hK _ _ (Below.refl _ _) rfl trivial)) <|
      allOps_cons (rs_not (by kernel_rfl) (fun a' w' hb hs hd hp => by
    exact rs_fn (φ := (mpCp nb m1 kd).p) (ψ := (fun _ => True)) (vs := #[.agg #[.slice XD nb cD, .int .i64 m1]]) rfl (enters_of Try.func14 (by kernel_rfl) rfl) (by simp [(show a'.eval (.tmp 148) = .agg #[.slice XD nb cD, .int .i64 m1] from RDeps.get (hd (by kernel_rfl)) 2 148 (by kernel_rfl) (by kernel_rfl))]) ((copyT_any XD nb cD m1 kd w' (by omega) HZD.out (HXD_.out.bel hb)).mono (by rintro e w1 ⟨X, c1, rfl, hk, h1⟩; exact ⟨_, rfl, h1, ⟨X, c1, rfl, hk⟩, trivial⟩)))) <|
      allOps_cons (rs_not (by kernel_rfl) (fun a' w' hb hs hd hp => rs_op fun K hK => by
    have e1 := (hs.get 1 (by kernel_rfl)).trans (show _ = Value.pointer (some ⟨w.heap.size, 0, none⟩) from rfl)
    clear hs hd hp
    unfold Oper.wp
    generalize a'.eval = ρ at e1 ⊢
    simp [go_sem, e1]
    exact hK _ _ (Below.refl _ _) rfl trivial)) <|
      allOps_cons (rs_not (by kernel_rfl) (fun a' w' hb hs hd hp => rs_op fun K hK => by
    have e1 := (show a'.eval (.tmp 150) = .pointer (some ⟨w.heap.size, 12, none⟩) from RDeps.get (hd (by kernel_rfl)) 4 150 (by kernel_rfl) (by kernel_rfl))
    have c0 := keep hb l12_
    clear hs hd hp
    unfold Oper.wp
    generalize a'.eval = ρ at e1 ⊢
    simp [go_sem, e1, c0]
    exact hK _ _ (Below.refl _ _) rfl trivial)) <|
      allOps_cons (rs_not (by kernel_rfl) (fun a' w' hb hs hd hp => by
    obtain ⟨X1, c1, e1, k1⟩ := (show (mpCp na m0 kc).p (a'.eval (.tmp 147)) w' from RDeps.get (hd (by kernel_rfl)) 1 147 (by kernel_rfl) (by kernel_rfl))
    obtain ⟨X2, c2, e2, k2⟩ := (show (mpCp nb m1 kd).p (a'.eval (.tmp 149)) w' from RDeps.get (hd (by kernel_rfl)) 3 149 (by kernel_rfl) (by kernel_rfl))
    exact rs_fn (φ := (mpEq (.tuple #[.agg #[.int .i64 r1, .int .i64 r2], .int .i64 rE])).p) (ψ := (fun _ => True)) (vs := #[.agg #[.slice X1 na c1, .int .i64 m0], .agg #[.slice X2 nb c2, .int .i64 m1], .int .i64 s]) rfl (enters_of Try.func30 (by kernel_rfl) rfl) (by simp [e1, e2, (show a'.eval (.tmp 151) = .int .i64 s from RDeps.get (hd (by kernel_rfl)) 5 151 (by kernel_rfl) (by kernel_rfl))]) ((HR.out w' X1 c1 X2 c2 k1 k2).mono (by rintro e w1 ⟨rfl, h1⟩; exact ⟨_, rfl, h1, rfl, trivial⟩)))) <|
      allOps_cons (rs_not (by kernel_rfl) (fun a' w' hb hs hd hp => rs_op fun K hK => by
    have e1 := (show a'.eval (.tmp 152) = .tuple #[.agg #[.int .i64 r1, .int .i64 r2], .int .i64 rE] from RDeps.get (hd (by kernel_rfl)) 6 152 (by kernel_rfl) (by kernel_rfl))
    clear hs hd hp
    unfold Oper.wp
    generalize a'.eval = ρ at e1 ⊢
    simp [go_sem, e1]
    exact hK _ _ (Below.refl _ _) rfl rfl)) <|
      allOps_cons (rs_not (by kernel_rfl) (fun a' w' hb hs hd hp => rs_op fun K hK => by
    have e1 := (show a'.eval (.tmp 145) = .tuple #[.agg #[.int .i64 r1, .int .i64 r2], .int .i64 rE] from RDeps.get (hd (by kernel_rfl)) 7 145 (by kernel_rfl) (by kernel_rfl))
    clear hs hd hp
    unfold Oper.wp
    generalize a'.eval = ρ at e1 ⊢
    simp [go_sem, e1]
    exact hK _ _ (Below.refl _ _) rfl trivial)) <|
      allOps_cons (rs_not (by kernel_rfl) (fun a' w' hb hs hd hp => rs_op fun K hK => by
    have e1 := (show a'.eval (.tmp 145) = .tuple #[.agg #[.int .i64 r1, .int .i64 r2], .int .i64 rE] from hp.get 7 145 (by kernel_rfl) (by kernel_rfl))
    clear hs hd hp
    unfold Oper.wp
    generalize a'.eval = ρ at e1 ⊢
    simp [go_sem, e1]
    exact hK _ _ (Below.refl _ _) trivial rfl)) <|
      allOps_cons (rs_not (by kernel_rfl) (fun a' w' hb hs hd hp => rs_op fun K hK => by
    have hz := hb.size
    clear hs hd hp
    unfold Oper.wp
    generalize a'.eval = ρ
    simp [go_sem]
    exact hK _ _ ((Below.refl _ _).alloc (Nat.le_refl _) _) ⟨_, rfl, hz, by simp [go_sem], by simp [go_sem], by simp [go_sem], by simp [go_sem]⟩ trivial)) <|
      allOps_cons (rs_is (by kernel_rfl) (fun a' w' hb hs hd => rs_st rfl fun K hK => by
    obtain ⟨q, e1, zq, c0, c1, f0, f1⟩ := (show (mpNew (U2).heap.size).p (a'.eval (.tmp 11)) w' from hd.get 10 11 (by kernel_rfl) (by kernel_rfl))
    have e2 := (show a'.eval (.tmp 153) = .agg #[.int .i64 (r1), .int .i64 (r2)] from hd.get 8 153 (by kernel_rfl) (by kernel_rfl))
    have hz := lt_of c0
    clear hs hd
    unfold Oper.wp
    generalize a'.eval = ρ at e1 e2 hK ⊢
    simp [go_sem, e1, e2, c0, c1, f0, f1]
    exact hK _ (Below.setCell (Below.setCell hb zq _) zq _) ⟨q, e1, zq, by simp [go_sem, c0], by simp [go_sem, c1], by simp [go_sem, f0], by simp [go_sem, f1]⟩)) <|
      allOps_cons (rs_not (by kernel_rfl) (fun a' w' hb hs hd hp => rs_op fun K hK => by
    have e1 := (show a'.eval (.tmp 154) = .int .i64 rE from hp.get 9 154 (by kernel_rfl) (by kernel_rfl))
    clear hs hd hp
    unfold Oper.wp
    generalize a'.eval = ρ at e1 ⊢
    simp [go_sem, e1]
    exact hK _ _ (Below.refl _ _) trivial rfl)) <| allOps_nil) (fun Q U3 hb hall hv => ?_)
  have h8 : Q 12 = .int .i64 rE := hall.get 12 rfl (by decide)
  obtain ⟨vr, h7, -, gr0, gr1, -, -⟩ := hv
  clear hall
  simp only [my4, maskPut, Nat.reduceAdd]
  rw [h7, h8]
  clear h7 h8
  replace a0_ := keep hb a0_
  replace a1_ := keep hb a1_
  replace b0_ := keep hb b0_
  replace b1_ := keep hb b1_
  replace c0_ := keep hb c0_
  replace c1_ := keep hb c1_
  replace d0_ := keep hb d0_
  replace d1_ := keep hb d1_
  replace l12_ := keep hb l12_
  replace HXA_ := Lib.hid (HXA_.out.bel hb)
  replace HXB_ := Lib.hid (HXB_.out.bel hb)
  replace HXC_ := Lib.hid (HXC_.out.bel hb)
  replace HXD_ := Lib.hid (HXD_.out.bel hb)
  replace BV := Lib.hid (thenB BV.out hb)
  clear hb
  clear U2
  rcases hrE with rfl | rfl
  case inr =>
    go_wp2_with fail
    go_ret
    exact ⟨rfl, BV.out⟩
  obtain ⟨i5, i6⟩ := i3 rfl
  replace i4 := i4 rfl
  replace hsE := hsE rfl
  replace HT := Lib.hid (HT.out rfl)
  replace HS := Lib.hid (HS.out rfl)
  replace HU := Lib.hid (HU.out rfl)
  go_wp2_with fail
  refine wp_region_st my5 (by kernel_rfl) [mpEq (.agg #[.slice XA na cA, .int .i64 0]), mpCp na 0 ka, mpEq (.agg #[.slice XB nb cB, .int .i64 0]), mpCp nb 0 kb, mpEq (.pointer (some ⟨w.heap.size, 12, none⟩)), mpEq (.int .i64 s), mpEq (.tuple #[.agg #[.int .i64 t1, .int .i64 t2], .int .i64 0]), mpEq (.tuple #[.agg #[.int .i64 t1, .int .i64 t2], .int .i64 0]), mpEq (.agg #[.int .i64 t1, .int .i64 t2]), mpTop, mpNew (U3).heap.size, mpTop, mpTop] [(fun _ => True), (fun _ => True), (fun _ => True), (fun _ => True), (fun _ => True), (fun _ => True), (fun _ => True), (· = .tuple #[.agg #[.int .i64 t1, .int .i64 t2], .int .i64 0]), (fun _ => True), (· = .int .i64 0), (fun _ => True), (fun _ => True), (· = .int .i64 0)] (mpVar (U3).heap.size (t1) (t2)) 11 10 13 (by kernel_rfl) (by kernel_rfl) (by kernel_rfl) (by kernel_rfl) rfl (
      allOps_cons (rs_not (by kernel_rfl) (fun a' w' hb hs hd hp => rs_op fun K hK => by
    have e1 := (hs.get 3 (by kernel_rfl)).trans (show _ = Value.pointer (some ⟨pa, 0, none⟩) from rfl)
    have c0 := keep hb a0_
    have c1 := keep hb a1_
    clear hs hd hp
    unfold Oper.wp
    generalize a'.eval = ρ at e1 ⊢
    simp [go_sem, e1, c0, c1]
    exact hK _ _ (Below.refl _ _) rfl trivial)) <|
      allOps_cons (rs_not (by kernel_rfl) (fun a' w' hb hs hd hp => by
    exact rs_fn (φ := (mpCp na 0 ka).p) (ψ := (fun _ => True)) (vs := #[.agg #[.slice XA na cA, .int .i64 0]]) rfl (enters_of Try.func14 (by kernel_rfl) rfl) (by simp [(show a'.eval (.tmp 160) = .agg #[.slice XA na cA, .int .i64 0] from RDeps.get (hd (by kernel_rfl)) 0 160 (by kernel_rfl) (by kernel_rfl))]) ((copyT_any XA na cA 0 ka w' (by omega) HZA.out (HXA_.out.bel hb)).mono (by rintro e w1 ⟨X, c1, rfl, hk, h1⟩; exact ⟨_, rfl, h1, ⟨X, c1, rfl, hk⟩, trivial⟩)))) <|
      allOps_cons (rs_not (by kernel_rfl) (fun a' w' hb hs hd hp => rs_op fun K hK => by
    have e1 := (hs.get 4 (by kernel_rfl)).trans (show _ = Value.pointer (some ⟨pb, 0, none⟩) from rfl)
    have c0 := keep hb b0_
    have c1 := keep hb b1_
    clear hs hd hp
    unfold Oper.wp
    generalize a'.eval = ρ at e1 ⊢
    simp [go_sem, e1, c0, c1]
    exact hK _ _ (Below.refl _ _) rfl trivial)) <|
      allOps_cons (rs_not (by kernel_rfl) (fun a' w' hb hs hd hp => by
    exact rs_fn (φ := (mpCp nb 0 kb).p) (ψ := (fun _ => True)) (vs := #[.agg #[.slice XB nb cB, .int .i64 0]]) rfl (enters_of Try.func14 (by kernel_rfl) rfl) (by simp [(show a'.eval (.tmp 162) = .agg #[.slice XB nb cB, .int .i64 0] from RDeps.get (hd (by kernel_rfl)) 2 162 (by kernel_rfl) (by kernel_rfl))]) ((copyT_any XB nb cB 0 kb w' (by omega) HZB.out (HXB_.out.bel hb)).mono (by rintro e w1 ⟨X, c1, rfl, hk, h1⟩; exact ⟨_, rfl, h1, ⟨X, c1, rfl, hk⟩, trivial⟩)))) <|
      allOps_cons (rs_not (by kernel_rfl) (fun a' w' hb hs hd hp => rs_op fun K hK => by
    have e1 := (hs.get 1 (by kernel_rfl)).trans (show _ = Value.pointer (some ⟨w.heap.size, 0, none⟩) from rfl)
    clear hs hd hp
    unfold Oper.wp
    generalize a'.eval = ρ at e1 ⊢
    simp [go_sem, e1]
    exact hK _ _ (Below.refl _ _) rfl trivial)) <|
      allOps_cons (rs_not (by kernel_rfl) (fun a' w' hb hs hd hp => rs_op fun K hK => by
    have e1 := (show a'.eval (.tmp 164) = .pointer (some ⟨w.heap.size, 12, none⟩) from RDeps.get (hd (by kernel_rfl)) 4 164 (by kernel_rfl) (by kernel_rfl))
    have c0 := keep hb l12_
    clear hs hd hp
    unfold Oper.wp
    generalize a'.eval = ρ at e1 ⊢
    simp [go_sem, e1, c0]
    exact hK _ _ (Below.refl _ _) rfl trivial)) <|
      allOps_cons (rs_not (by kernel_rfl) (fun a' w' hb hs hd hp => by
    obtain ⟨X1, c1, e1, k1⟩ := (show (mpCp na 0 ka).p (a'.eval (.tmp 161)) w' from RDeps.get (hd (by kernel_rfl)) 1 161 (by kernel_rfl) (by kernel_rfl))
    obtain ⟨X2, c2, e2, k2⟩ := (show (mpCp nb 0 kb).p (a'.eval (.tmp 163)) w' from RDeps.get (hd (by kernel_rfl)) 3 163 (by kernel_rfl) (by kernel_rfl))
    exact rs_fn (φ := (mpEq (.tuple #[.agg #[.int .i64 t1, .int .i64 t2], .int .i64 0])).p) (ψ := (fun _ => True)) (vs := #[.agg #[.slice X1 na c1, .int .i64 0], .agg #[.slice X2 nb c2, .int .i64 0], .int .i64 s]) rfl (enters_of Try.func30 (by kernel_rfl) rfl) (by simp [e1, e2, (show a'.eval (.tmp 165) = .int .i64 s from RDeps.get (hd (by kernel_rfl)) 5 165 (by kernel_rfl) (by kernel_rfl))]) ((HT.out w' X1 c1 X2 c2 k1 k2).mono (by rintro e w1 ⟨rfl, h1⟩; exact ⟨_, rfl, h1, rfl, trivial⟩)))) <|
      allOps_cons (rs_not (by kernel_rfl) (fun a' w' hb hs hd hp => rs_op fun K hK => by
    have e1 := (show a'.eval (.tmp 166) = .tuple #[.agg #[.int .i64 t1, .int .i64 t2], .int .i64 0] from RDeps.get (hd (by kernel_rfl)) 6 166 (by kernel_rfl) (by kernel_rfl))
    clear hs hd hp
    unfold Oper.wp
    generalize a'.eval = ρ at e1 ⊢
    simp [go_sem, e1]
    exact hK _ _ (Below.refl _ _) rfl rfl)) <|
      allOps_cons (rs_not (by kernel_rfl) (fun a' w' hb hs hd hp => rs_op fun K hK => by
    have e1 := (show a'.eval (.tmp 159) = .tuple #[.agg #[.int .i64 t1, .int .i64 t2], .int .i64 0] from RDeps.get (hd (by kernel_rfl)) 7 159 (by kernel_rfl) (by kernel_rfl))
    clear hs hd hp
    unfold Oper.wp
    generalize a'.eval = ρ at e1 ⊢
    simp [go_sem, e1]
    exact hK _ _ (Below.refl _ _) rfl trivial)) <|
      allOps_cons (rs_not (by kernel_rfl) (fun a' w' hb hs hd hp => rs_op fun K hK => by
    have e1 := (show a'.eval (.tmp 159) = .tuple #[.agg #[.int .i64 t1, .int .i64 t2], .int .i64 0] from hp.get 7 159 (by kernel_rfl) (by kernel_rfl))
    clear hs hd hp
    unfold Oper.wp
    generalize a'.eval = ρ at e1 ⊢
    simp [go_sem, e1]
    exact hK _ _ (Below.refl _ _) trivial rfl)) <|
      allOps_cons (rs_not (by kernel_rfl) (fun a' w' hb hs hd hp => rs_op fun K hK => by
    have hz := hb.size
    clear hs hd hp
    unfold Oper.wp
    generalize a'.eval = ρ
    simp [go_sem]
    exact hK _ _ ((Below.refl _ _).alloc (Nat.le_refl _) _) ⟨_, rfl, hz, by simp [go_sem], by simp [go_sem], by simp [go_sem], by simp [go_sem]⟩ trivial)) <|
      allOps_cons (rs_is (by kernel_rfl) (fun a' w' hb hs hd => rs_st rfl fun K hK => by
    obtain ⟨q, e1, zq, c0, c1, f0, f1⟩ := (show (mpNew (U3).heap.size).p (a'.eval (.tmp 13)) w' from hd.get 10 13 (by kernel_rfl) (by kernel_rfl))
    have e2 := (show a'.eval (.tmp 167) = .agg #[.int .i64 (t1), .int .i64 (t2)] from hd.get 8 167 (by kernel_rfl) (by kernel_rfl))
    have hz := lt_of c0
    clear hs hd
    unfold Oper.wp
    generalize a'.eval = ρ at e1 e2 hK ⊢
    simp [go_sem, e1, e2, c0, c1, f0, f1]
    exact hK _ (Below.setCell (Below.setCell hb zq _) zq _) ⟨q, e1, zq, by simp [go_sem, c0], by simp [go_sem, c1], by simp [go_sem, f0], by simp [go_sem, f1]⟩)) <|
      allOps_cons (rs_not (by kernel_rfl) (fun a' w' hb hs hd hp => rs_op fun K hK => by
    have e1 := (show a'.eval (.tmp 168) = .int .i64 0 from hp.get 9 168 (by kernel_rfl) (by kernel_rfl))
    clear hs hd hp
    unfold Oper.wp
    generalize a'.eval = ρ at e1 ⊢
    simp [go_sem, e1]
    exact hK _ _ (Below.refl _ _) trivial rfl)) <| allOps_nil) (fun Q U4 hb hall hv => ?_)
  have h8 : Q 14 = .int .i64 0 := hall.get 12 rfl (by decide)
  obtain ⟨vt, h7, -, gt0, gt1, -, -⟩ := hv
  clear hall
  simp only [my5, maskPut, Nat.reduceAdd]
  rw [h7, h8]
  clear h7 h8
  replace a0_ := keep hb a0_
  replace a1_ := keep hb a1_
  replace b0_ := keep hb b0_
  replace b1_ := keep hb b1_
  replace c0_ := keep hb c0_
  replace c1_ := keep hb c1_
  replace d0_ := keep hb d0_
  replace d1_ := keep hb d1_
  replace l12_ := keep hb l12_
  replace gr0 := keep hb gr0
  replace gr1 := keep hb gr1
  replace HXA_ := Lib.hid (HXA_.out.bel hb)
  replace HXB_ := Lib.hid (HXB_.out.bel hb)
  replace HXC_ := Lib.hid (HXC_.out.bel hb)
  replace HXD_ := Lib.hid (HXD_.out.bel hb)
  replace BV := Lib.hid (thenB BV.out hb)
  clear hb
  clear U3
  have j1 : decide (t1 < r1) = false := by rw [decide_eq_false_iff_not]; omega
  have j2 : decide (t2 > r2) = false := by rw [decide_eq_false_iff_not]; omega
  go_wp2_with fail
  clear gr0 gr1 gt0 gt1 j1 j2 i5 i6 HR HT
  refine wp_region_st my6 (by kernel_rfl) [mpEq (.agg #[.slice XC na cC, .int .i64 m0]), mpCp na m0 kc, mpEq (.agg #[.slice XD nb cD, .int .i64 m1]), mpCp nb m1 kd, mpEq (.pointer (some ⟨w.heap.size, 12, none⟩)), mpEq (.int .i64 s), mpEq (.tuple #[.agg #[.int .i64 s1, .int .i64 s2], .int .i64 sE]), mpEq (.tuple #[.agg #[.int .i64 s1, .int .i64 s2], .int .i64 sE]), mpEq (.agg #[.int .i64 s1, .int .i64 s2]), mpTop, mpNew (U4).heap.size, mpTop, mpTop] [(fun _ => True), (fun _ => True), (fun _ => True), (fun _ => True), (fun _ => True), (fun _ => True), (fun _ => True), (· = .tuple #[.agg #[.int .i64 s1, .int .i64 s2], .int .i64 sE]), (fun _ => True), (· = .int .i64 sE), (fun _ => True), (fun _ => True), (· = .int .i64 sE)] (mpVar (U4).heap.size (s1) (s2)) 11 10 15 (by kernel_rfl) (by kernel_rfl) (by kernel_rfl) (by kernel_rfl) rfl (
      allOps_cons (rs_not (by kernel_rfl) (fun a' w' hb hs hd hp => rs_op fun K hK => by
    have e1 := (hs.get 5 (by kernel_rfl)).trans (show _ = Value.pointer (some ⟨pc, 0, none⟩) from rfl)
    have c0 := keep hb c0_
    have c1 := keep hb c1_
    clear hs hd hp
    unfold Oper.wp
    generalize a'.eval = ρ at e1 ⊢
    simp [go_sem, e1, c0, c1]
    exact hK _ _ (Below.refl _ _) rfl trivial)) <|
      allOps_cons (rs_not (by kernel_rfl) (fun a' w' hb hs hd hp => by
    exact rs_fn (φ := (mpCp na m0 kc).p) (ψ := (fun _ => True)) (vs := #[.agg #[.slice XC na cC, .int .i64 m0]]) rfl (enters_of Try.func14 (by kernel_rfl) rfl) (by simp [(show a'.eval (.tmp 186) = .agg #[.slice XC na cC, .int .i64 m0] from RDeps.get (hd (by kernel_rfl)) 0 186 (by kernel_rfl) (by kernel_rfl))]) ((copyT_any XC na cC m0 kc w' (by omega) HZC.out (HXC_.out.bel hb)).mono (by rintro e w1 ⟨X, c1, rfl, hk, h1⟩; exact ⟨_, rfl, h1, ⟨X, c1, rfl, hk⟩, trivial⟩)))) <|
      allOps_cons (rs_not (by kernel_rfl) (fun a' w' hb hs hd hp => rs_op fun K hK => by
    have e1 := (hs.get 6 (by kernel_rfl)).trans (show _ = Value.pointer (some ⟨pd, 0, none⟩) from rfl)
    have c0 := keep hb d0_
    have c1 := keep hb d1_
    clear hs hd hp
    unfold Oper.wp
    generalize a'.eval = ρ at e1 ⊢
    simp [go_sem, e1, c0, c1]
    exact hK _ _ (Below.refl _ _) rfl trivial)) <|
      allOps_cons (rs_not (by kernel_rfl) (fun a' w' hb hs hd hp => by
    exact rs_fn (φ := (mpCp nb m1 kd).p) (ψ := (fun _ => True)) (vs := #[.agg #[.slice XD nb cD, .int .i64 m1]]) rfl (enters_of Try.func14 (by kernel_rfl) rfl) (by simp [(show a'.eval (.tmp 188) = .agg #[.slice XD nb cD, .int .i64 m1] from RDeps.get (hd (by kernel_rfl)) 2 188 (by kernel_rfl) (by kernel_rfl))]) ((copyT_any XD nb cD m1 kd w' (by omega) HZD.out (HXD_.out.bel hb)).mono (by rintro e w1 ⟨X, c1, rfl, hk, h1⟩; exact ⟨_, rfl, h1, ⟨X, c1, rfl, hk⟩, trivial⟩)))) <|
      allOps_cons (rs_not (by kernel_rfl) (fun a' w' hb hs hd hp => rs_op fun K hK => by
    have e1 := (hs.get 1 (by kernel_rfl)).trans (show _ = Value.pointer (some ⟨w.heap.size, 0, none⟩) from rfl)
    clear hs hd hp
    unfold Oper.wp
    generalize a'.eval = ρ at e1 ⊢
    simp [go_sem, e1]
    exact hK _ _ (Below.refl _ _) rfl trivial)) <|
      allOps_cons (rs_not (by kernel_rfl) (fun a' w' hb hs hd hp => rs_op fun K hK => by
    have e1 := (show a'.eval (.tmp 190) = .pointer (some ⟨w.heap.size, 12, none⟩) from RDeps.get (hd (by kernel_rfl)) 4 190 (by kernel_rfl) (by kernel_rfl))
    have c0 := keep hb l12_
    clear hs hd hp
    unfold Oper.wp
    generalize a'.eval = ρ at e1 ⊢
    simp [go_sem, e1, c0]
    exact hK _ _ (Below.refl _ _) rfl trivial)) <|
      allOps_cons (rs_not (by kernel_rfl) (fun a' w' hb hs hd hp => by
    obtain ⟨X1, c1, e1, k1⟩ := (show (mpCp na m0 kc).p (a'.eval (.tmp 187)) w' from RDeps.get (hd (by kernel_rfl)) 1 187 (by kernel_rfl) (by kernel_rfl))
    obtain ⟨X2, c2, e2, k2⟩ := (show (mpCp nb m1 kd).p (a'.eval (.tmp 189)) w' from RDeps.get (hd (by kernel_rfl)) 3 189 (by kernel_rfl) (by kernel_rfl))
    exact rs_fn (φ := (mpEq (.tuple #[.agg #[.int .i64 s1, .int .i64 s2], .int .i64 sE])).p) (ψ := (fun _ => True)) (vs := #[.agg #[.slice X1 na c1, .int .i64 m0], .agg #[.slice X2 nb c2, .int .i64 m1], .int .i64 s]) rfl (enters_of Try.func31 (by kernel_rfl) rfl) (by simp [e1, e2, (show a'.eval (.tmp 191) = .int .i64 s from RDeps.get (hd (by kernel_rfl)) 5 191 (by kernel_rfl) (by kernel_rfl))]) ((HS.out w' X1 c1 X2 c2 k1 k2).mono (by rintro e w1 ⟨rfl, h1⟩; exact ⟨_, rfl, h1, rfl, trivial⟩)))) <|
      allOps_cons (rs_not (by kernel_rfl) (fun a' w' hb hs hd hp => rs_op fun K hK => by
    have e1 := (show a'.eval (.tmp 192) = .tuple #[.agg #[.int .i64 s1, .int .i64 s2], .int .i64 sE] from RDeps.get (hd (by kernel_rfl)) 6 192 (by kernel_rfl) (by kernel_rfl))
    clear hs hd hp
    unfold Oper.wp
    generalize a'.eval = ρ at e1 ⊢
    simp [go_sem, e1]
    exact hK _ _ (Below.refl _ _) rfl rfl)) <|
      allOps_cons (rs_not (by kernel_rfl) (fun a' w' hb hs hd hp => rs_op fun K hK => by
    have e1 := (show a'.eval (.tmp 185) = .tuple #[.agg #[.int .i64 s1, .int .i64 s2], .int .i64 sE] from RDeps.get (hd (by kernel_rfl)) 7 185 (by kernel_rfl) (by kernel_rfl))
    clear hs hd hp
    unfold Oper.wp
    generalize a'.eval = ρ at e1 ⊢
    simp [go_sem, e1]
    exact hK _ _ (Below.refl _ _) rfl trivial)) <|
      allOps_cons (rs_not (by kernel_rfl) (fun a' w' hb hs hd hp => rs_op fun K hK => by
    have e1 := (show a'.eval (.tmp 185) = .tuple #[.agg #[.int .i64 s1, .int .i64 s2], .int .i64 sE] from hp.get 7 185 (by kernel_rfl) (by kernel_rfl))
    clear hs hd hp
    unfold Oper.wp
    generalize a'.eval = ρ at e1 ⊢
    simp [go_sem, e1]
    exact hK _ _ (Below.refl _ _) trivial rfl)) <|
      allOps_cons (rs_not (by kernel_rfl) (fun a' w' hb hs hd hp => rs_op fun K hK => by
    have hz := hb.size
    clear hs hd hp
    unfold Oper.wp
    generalize a'.eval = ρ
    simp [go_sem]
    exact hK _ _ ((Below.refl _ _).alloc (Nat.le_refl _) _) ⟨_, rfl, hz, by simp [go_sem], by simp [go_sem], by simp [go_sem], by simp [go_sem]⟩ trivial)) <|
      allOps_cons (rs_is (by kernel_rfl) (fun a' w' hb hs hd => rs_st rfl fun K hK => by
    obtain ⟨q, e1, zq, c0, c1, f0, f1⟩ := (show (mpNew (U4).heap.size).p (a'.eval (.tmp 15)) w' from hd.get 10 15 (by kernel_rfl) (by kernel_rfl))
    have e2 := (show a'.eval (.tmp 193) = .agg #[.int .i64 (s1), .int .i64 (s2)] from hd.get 8 193 (by kernel_rfl) (by kernel_rfl))
    have hz := lt_of c0
    clear hs hd
    unfold Oper.wp
    generalize a'.eval = ρ at e1 e2 hK ⊢
    simp [go_sem, e1, e2, c0, c1, f0, f1]
    exact hK _ (Below.setCell (Below.setCell hb zq _) zq _) ⟨q, e1, zq, by simp [go_sem, c0], by simp [go_sem, c1], by simp [go_sem, f0], by simp [go_sem, f1]⟩)) <|
      allOps_cons (rs_not (by kernel_rfl) (fun a' w' hb hs hd hp => rs_op fun K hK => by
    have e1 := (show a'.eval (.tmp 194) = .int .i64 sE from hp.get 9 194 (by kernel_rfl) (by kernel_rfl))
    clear hs hd hp
    unfold Oper.wp
    generalize a'.eval = ρ at e1 ⊢
    simp [go_sem, e1]
    exact hK _ _ (Below.refl _ _) trivial rfl)) <| allOps_nil) (fun Q U5 hb hall hv => ?_)
  have h8 : Q 16 = .int .i64 sE := hall.get 12 rfl (by decide)
  obtain ⟨vs, h7, -, gs0, gs1, -, -⟩ := hv
  clear hall
  simp only [my6, maskPut, Nat.reduceAdd]
  rw [h7, h8]
  clear h7 h8
  replace a0_ := keep hb a0_
  replace a1_ := keep hb a1_
  replace b0_ := keep hb b0_
  replace b1_ := keep hb b1_
  replace c0_ := keep hb c0_
  replace c1_ := keep hb c1_
  replace d0_ := keep hb d0_
  replace d1_ := keep hb d1_
  replace l12_ := keep hb l12_
  replace HXA_ := Lib.hid (HXA_.out.bel hb)
  replace HXB_ := Lib.hid (HXB_.out.bel hb)
  replace HXC_ := Lib.hid (HXC_.out.bel hb)
  replace HXD_ := Lib.hid (HXD_.out.bel hb)
  replace BV := Lib.hid (thenB BV.out hb)
  clear hb
  clear U4
  rcases hsE with rfl | rfl | rfl
  rotate_left
  · go_wp2_with fail
    go_ret
    exact ⟨rfl, BV.out⟩
  · go_wp2_with fail
    go_ret
    exact ⟨rfl, BV.out⟩
  obtain ⟨i5, i6⟩ := i4 rfl
  replace HU := Lib.hid (HU.out rfl)
  go_wp2_with fail
  refine wp_region_st my7 (by kernel_rfl) [mpEq (.agg #[.slice XA na cA, .int .i64 0]), mpCp na 0 ka, mpEq (.agg #[.slice XB nb cB, .int .i64 0]), mpCp nb 0 kb, mpEq (.pointer (some ⟨w.heap.size, 12, none⟩)), mpEq (.int .i64 s), mpEq (.tuple #[.agg #[.int .i64 u1, .int .i64 u2], .int .i64 0]), mpEq (.tuple #[.agg #[.int .i64 u1, .int .i64 u2], .int .i64 0]), mpEq (.agg #[.int .i64 u1, .int .i64 u2]), mpTop, mpNew (U5).heap.size, mpTop, mpTop] [(fun _ => True), (fun _ => True), (fun _ => True), (fun _ => True), (fun _ => True), (fun _ => True), (fun _ => True), (· = .tuple #[.agg #[.int .i64 u1, .int .i64 u2], .int .i64 0]), (fun _ => True), (· = .int .i64 0), (fun _ => True), (fun _ => True), (· = .int .i64 0)] (mpVar (U5).heap.size (u1) (u2)) 11 10 17 (by kernel_rfl) (by kernel_rfl) (by kernel_rfl) (by kernel_rfl) rfl (
      allOps_cons (rs_not (by kernel_rfl) (fun a' w' hb hs hd hp => rs_op fun K hK => by
    have e1 := (hs.get 3 (by kernel_rfl)).trans (show _ = Value.pointer (some ⟨pa, 0, none⟩) from rfl)
    have c0 := keep hb a0_
    have c1 := keep hb a1_
    clear hs hd hp
    unfold Oper.wp
    generalize a'.eval = ρ at e1 ⊢
    simp [go_sem, e1, c0, c1]
    exact hK _ _ (Below.refl _ _) rfl trivial)) <|
      allOps_cons (rs_not (by kernel_rfl) (fun a' w' hb hs hd hp => by
    exact rs_fn (φ := (mpCp na 0 ka).p) (ψ := (fun _ => True)) (vs := #[.agg #[.slice XA na cA, .int .i64 0]]) rfl (enters_of Try.func14 (by kernel_rfl) rfl) (by simp [(show a'.eval (.tmp 204) = .agg #[.slice XA na cA, .int .i64 0] from RDeps.get (hd (by kernel_rfl)) 0 204 (by kernel_rfl) (by kernel_rfl))]) ((copyT_any XA na cA 0 ka w' (by omega) HZA.out (HXA_.out.bel hb)).mono (by rintro e w1 ⟨X, c1, rfl, hk, h1⟩; exact ⟨_, rfl, h1, ⟨X, c1, rfl, hk⟩, trivial⟩)))) <|
      allOps_cons (rs_not (by kernel_rfl) (fun a' w' hb hs hd hp => rs_op fun K hK => by
    have e1 := (hs.get 4 (by kernel_rfl)).trans (show _ = Value.pointer (some ⟨pb, 0, none⟩) from rfl)
    have c0 := keep hb b0_
    have c1 := keep hb b1_
    clear hs hd hp
    unfold Oper.wp
    generalize a'.eval = ρ at e1 ⊢
    simp [go_sem, e1, c0, c1]
    exact hK _ _ (Below.refl _ _) rfl trivial)) <|
      allOps_cons (rs_not (by kernel_rfl) (fun a' w' hb hs hd hp => by
    exact rs_fn (φ := (mpCp nb 0 kb).p) (ψ := (fun _ => True)) (vs := #[.agg #[.slice XB nb cB, .int .i64 0]]) rfl (enters_of Try.func14 (by kernel_rfl) rfl) (by simp [(show a'.eval (.tmp 206) = .agg #[.slice XB nb cB, .int .i64 0] from RDeps.get (hd (by kernel_rfl)) 2 206 (by kernel_rfl) (by kernel_rfl))]) ((copyT_any XB nb cB 0 kb w' (by omega) HZB.out (HXB_.out.bel hb)).mono (by rintro e w1 ⟨X, c1, rfl, hk, h1⟩; exact ⟨_, rfl, h1, ⟨X, c1, rfl, hk⟩, trivial⟩)))) <|
      allOps_cons (rs_not (by kernel_rfl) (fun a' w' hb hs hd hp => rs_op fun K hK => by
    have e1 := (hs.get 1 (by kernel_rfl)).trans (show _ = Value.pointer (some ⟨w.heap.size, 0, none⟩) from rfl)
    clear hs hd hp
    unfold Oper.wp
    generalize a'.eval = ρ at e1 ⊢
    simp [go_sem, e1]
    exact hK _ _ (Below.refl _ _) rfl trivial)) <|
      allOps_cons (rs_not (by kernel_rfl) (fun a' w' hb hs hd hp => rs_op fun K hK => by
    have e1 := (show a'.eval (.tmp 208) = .pointer (some ⟨w.heap.size, 12, none⟩) from RDeps.get (hd (by kernel_rfl)) 4 208 (by kernel_rfl) (by kernel_rfl))
    have c0 := keep hb l12_
    clear hs hd hp
    unfold Oper.wp
    generalize a'.eval = ρ at e1 ⊢
    simp [go_sem, e1, c0]
    exact hK _ _ (Below.refl _ _) rfl trivial)) <|
      allOps_cons (rs_not (by kernel_rfl) (fun a' w' hb hs hd hp => by
    obtain ⟨X1, c1, e1, k1⟩ := (show (mpCp na 0 ka).p (a'.eval (.tmp 205)) w' from RDeps.get (hd (by kernel_rfl)) 1 205 (by kernel_rfl) (by kernel_rfl))
    obtain ⟨X2, c2, e2, k2⟩ := (show (mpCp nb 0 kb).p (a'.eval (.tmp 207)) w' from RDeps.get (hd (by kernel_rfl)) 3 207 (by kernel_rfl) (by kernel_rfl))
    exact rs_fn (φ := (mpEq (.tuple #[.agg #[.int .i64 u1, .int .i64 u2], .int .i64 0])).p) (ψ := (fun _ => True)) (vs := #[.agg #[.slice X1 na c1, .int .i64 0], .agg #[.slice X2 nb c2, .int .i64 0], .int .i64 s]) rfl (enters_of Try.func31 (by kernel_rfl) rfl) (by simp [e1, e2, (show a'.eval (.tmp 209) = .int .i64 s from RDeps.get (hd (by kernel_rfl)) 5 209 (by kernel_rfl) (by kernel_rfl))]) ((HU.out w' X1 c1 X2 c2 k1 k2).mono (by rintro e w1 ⟨rfl, h1⟩; exact ⟨_, rfl, h1, rfl, trivial⟩)))) <|
      allOps_cons (rs_not (by kernel_rfl) (fun a' w' hb hs hd hp => rs_op fun K hK => by
    have e1 := (show a'.eval (.tmp 210) = .tuple #[.agg #[.int .i64 u1, .int .i64 u2], .int .i64 0] from RDeps.get (hd (by kernel_rfl)) 6 210 (by kernel_rfl) (by kernel_rfl))
    clear hs hd hp
    unfold Oper.wp
    generalize a'.eval = ρ at e1 ⊢
    simp [go_sem, e1]
    exact hK _ _ (Below.refl _ _) rfl rfl)) <|
      allOps_cons (rs_not (by kernel_rfl) (fun a' w' hb hs hd hp => rs_op fun K hK => by
    have e1 := (show a'.eval (.tmp 203) = .tuple #[.agg #[.int .i64 u1, .int .i64 u2], .int .i64 0] from RDeps.get (hd (by kernel_rfl)) 7 203 (by kernel_rfl) (by kernel_rfl))
    clear hs hd hp
    unfold Oper.wp
    generalize a'.eval = ρ at e1 ⊢
    simp [go_sem, e1]
    exact hK _ _ (Below.refl _ _) rfl trivial)) <|
      allOps_cons (rs_not (by kernel_rfl) (fun a' w' hb hs hd hp => rs_op fun K hK => by
    have e1 := (show a'.eval (.tmp 203) = .tuple #[.agg #[.int .i64 u1, .int .i64 u2], .int .i64 0] from hp.get 7 203 (by kernel_rfl) (by kernel_rfl))
    clear hs hd hp
    unfold Oper.wp
    generalize a'.eval = ρ at e1 ⊢
    simp [go_sem, e1]
    exact hK _ _ (Below.refl _ _) trivial rfl)) <|
      allOps_cons (rs_not (by kernel_rfl) (fun a' w' hb hs hd hp => rs_op fun K hK => by
    have hz := hb.size
    clear hs hd hp
    unfold Oper.wp
    generalize a'.eval = ρ
    simp [go_sem]
    exact hK _ _ ((Below.refl _ _).alloc (Nat.le_refl _) _) ⟨_, rfl, hz, by simp [go_sem], by simp [go_sem], by simp [go_sem], by simp [go_sem]⟩ trivial)) <|
      allOps_cons (rs_is (by kernel_rfl) (fun a' w' hb hs hd => rs_st rfl fun K hK => by
    obtain ⟨q, e1, zq, c0, c1, f0, f1⟩ := (show (mpNew (U5).heap.size).p (a'.eval (.tmp 17)) w' from hd.get 10 17 (by kernel_rfl) (by kernel_rfl))
    have e2 := (show a'.eval (.tmp 211) = .agg #[.int .i64 (u1), .int .i64 (u2)] from hd.get 8 211 (by kernel_rfl) (by kernel_rfl))
    have hz := lt_of c0
    clear hs hd
    unfold Oper.wp
    generalize a'.eval = ρ at e1 e2 hK ⊢
    simp [go_sem, e1, e2, c0, c1, f0, f1]
    exact hK _ (Below.setCell (Below.setCell hb zq _) zq _) ⟨q, e1, zq, by simp [go_sem, c0], by simp [go_sem, c1], by simp [go_sem, f0], by simp [go_sem, f1]⟩)) <|
      allOps_cons (rs_not (by kernel_rfl) (fun a' w' hb hs hd hp => rs_op fun K hK => by
    have e1 := (show a'.eval (.tmp 212) = .int .i64 0 from hp.get 9 212 (by kernel_rfl) (by kernel_rfl))
    clear hs hd hp
    unfold Oper.wp
    generalize a'.eval = ρ at e1 ⊢
    simp [go_sem, e1]
    exact hK _ _ (Below.refl _ _) trivial rfl)) <| allOps_nil) (fun Q U6 hb hall hv => ?_)
  have h8 : Q 18 = .int .i64 0 := hall.get 12 rfl (by decide)
  obtain ⟨vu, h7, -, gu0, gu1, -, -⟩ := hv
  clear hall
  simp only [my7, maskPut, Nat.reduceAdd]
  rw [h7, h8]
  clear h7 h8
  replace a0_ := keep hb a0_
  replace a1_ := keep hb a1_
  replace b0_ := keep hb b0_
  replace b1_ := keep hb b1_
  replace c0_ := keep hb c0_
  replace c1_ := keep hb c1_
  replace d0_ := keep hb d0_
  replace d1_ := keep hb d1_
  replace l12_ := keep hb l12_
  replace gs0 := keep hb gs0
  replace gs1 := keep hb gs1
  replace HXA_ := Lib.hid (HXA_.out.bel hb)
  replace HXB_ := Lib.hid (HXB_.out.bel hb)
  replace HXC_ := Lib.hid (HXC_.out.bel hb)
  replace HXD_ := Lib.hid (HXD_.out.bel hb)
  replace BV := Lib.hid (thenB BV.out hb)
  clear hb
  clear U5
  have j1 : decide (s1 ≤ u1) = true := decide_eq_true i5
  have j2 : decide (u2 ≤ s2) = true := decide_eq_true i6
  go_wp2_with fail
  go_ret
  exact ⟨rfl, BV.out⟩
end Go.Proofs.Ytmhcmiajikffpaa
