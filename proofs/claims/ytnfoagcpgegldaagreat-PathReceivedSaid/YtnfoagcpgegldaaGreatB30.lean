/- The statement PathTripsSaid: whatever the two tracks and the time, the law PathTrips returns true, and its arguments read afterwards as before. -/
import Derived.Test.YtnfoagcpgegldaaGreatB17
import Derived.Test.YtnfoagcpgegldaaGreatB20
import Derived.Test.YtnfoagcpgegldaaGreatB29
import Derived.ProofKit
import Derived.OpenShut
import Derived.ShutString
import Derived.ChangeOld
import Derived.Below
import Derived.Lib.SmallJoins
import Derived.Deep.Slices
namespace Go.Proofs.YtnfoagcpgegldaaGreat
open Go.RowKit Go.Shelf Go.Sort
attribute [local go_sem] idx3_0 idx3_1 idx3_2 old1 fro1 old2 fro2 old3 fro3 old4 fro4 old5 fro5 old6 fro6 old7 fro7 old8 fro8 old9 fro9 old10 fro10 old11 fro11 old12 fro12
theorem VT.tin {W : World} {A : Trk} {s : Int} (h : VT W A s) : TIn A s := h.2
theorem rrcv_facts {W : World} {A B : Trk} {s : Int} (hA : VT W A s) (hB : VT W B s) :
    (0 < B.n ∧ B.n ≤ 100) ∧ 0 ≤ s ∧ s ≤ lastT B ∧ lastT B ≤ 1000000000000 ∧ (∀ W', Below W.heap.size W W' → W'.cell? ⟨B.b, B.off + (B.n - 1) * 4, none⟩ = some (.int .i64 (lastT B))) ∧
    ∀ W' r, Below W.heap.size W W' → s ≤ r → r ≤ lastT B → VT W' A s ∧ VT W' B r ∧ r - s ≤ 20000000000 := by
  have tB : TIn B s := hB.2
  have tL := tB.to tB.last (Int.le_refl _)
  have l1 := time_bd hA.2
  have l2 := time_bd tL
  refine ⟨⟨hB.1.1, hB.1.2.1⟩, l1.1, tB.last, l2.2, fun W' hb => ((hB.1.below hb).2.2.2 (B.n - 1) (by have := hB.1.1; omega)).1, fun W' r hb h1 h2 => ⟨hA.below hb, ⟨hB.1.below hb, tB.to h1 h2⟩, ?_⟩⟩
  have := span_t hB.2.1 hB.2.2 (tB.to h1 h2).2
  omega
theorem rrcv_no (A B : Trk) (s : Int) (W : World) (hA : VT W A s) (hB : VT W B s) (h : arrB A B s (lastT B) = false) :
    Calls Tryz.prog 22 #[.agg #[.slice (some ⟨A.b, A.off, none⟩) A.n A.c, .int .i64 A.d], .agg #[.slice (some ⟨B.b, B.off, none⟩) B.n B.c, .int .i64 B.d], .int .i64 s] W fun e w' => e = .returned (.tuple #[.agg #[.int .i64 0, .int .i64 0], .bool false]) ∧ Below W.heap.size W w' := by
  obtain ⟨⟨n1, n2⟩, s0, sT, T1, hL, hV⟩ := rrcv_facts hA hB
  exact rrec_no A.b A.off A.n A.c B.b B.off B.n B.c A.d B.d s (lastT B) W n1 n2 hL (fun W' hb => by
    obtain ⟨v1, v2, v3⟩ := hV W' (lastT B) hb sT (Int.le_refl _)
    have := rarrived_any W' A B s (lastT B) v1 v2 sT v3
    rw [h] at this
    exact this)
theorem rrcv_yes (A B : Trk) (s : Int) (W : World) (hA : VT W A s) (hB : VT W B s) (h : arrB A B s (lastT B) = true) :
    Calls Tryz.prog 22 #[.agg #[.slice (some ⟨A.b, A.off, none⟩) A.n A.c, .int .i64 A.d], .agg #[.slice (some ⟨B.b, B.off, none⟩) B.n B.c, .int .i64 B.d], .int .i64 s] W fun e w' => e = .returned (.tuple #[.agg #[.int .i64 (rcLo A B s), .int .i64 (rcHi A B s)], .bool true]) ∧ Below W.heap.size W w' := by
  obtain ⟨⟨n1, n2⟩, s0, sT, T1, hL, hV⟩ := rrcv_facts hA hB
  have hl := rc_some hB.tin h
  exact rrec_yes A.b A.off A.n A.c B.b B.off B.n B.c A.d B.d s (lastT B) (arrB A B s) (awayB A B s) (rcLo A B s) (rcHi A B s) W n1 n2 s0 sT T1 hL h
    (fun W' r hb h1 h2 => by
      obtain ⟨v1, v2, v3⟩ := hV W' r hb h1 h2
      exact rarrived_any W' A B s r v1 v2 h1 v3)
    (fun W' r hb h1 h2 => by
      obtain ⟨v1, v2, v3⟩ := hV W' r hb h1 h2
      exact raway_any W' A B s r v1 v2 h1 v3)
    (fun x h1 h2 h3 h4 => hi_same hA.tin hB.tin ⟨h1, by omega, h3, .inr h4⟩)
    (fun x h1 h2 h3 h4 => lo_same hA.tin hB.tin hl h1 h2 h3 h4)
def Trk.tv (A : Trk) : TV := ⟨some ⟨A.b, A.off, none⟩, A.n, A.c, A.k, A.d⟩
theorem rv_1 {A B : TV} {s : Int} (eA : A.err = 0) (eB : B.err = 0) (h : timesErr A B s ≠ 0) : rvE A B s = timesErr A B s ∧ rvE A B s ≠ 0 := by
  have hd : distErr A B s = timesErr A B s := by unfold distErr bothErr; rw [if_pos eA, if_pos eB]
  have : rvE A B s = timesErr A B s := by unfold rvE; rw [hd, if_neg h]
  exact ⟨this, by rw [this]; exact h⟩
theorem rv_0 {A B : TV} {s : Int} (eA : A.err = 0) (eB : B.err = 0) (h : timesErr A B s = 0) : distErr A B s = 0 := by
  unfold distErr bothErr; rw [if_pos eA, if_pos eB]; exact h
theorem rv_2 {A B : TV} {s : Int} (hd : distErr A B s = 0) (h : arrB A.t B.t s (lastT B.t) = false) : rvE A B s = 12 := by
  obtain ⟨tA, tB⟩ := distErr_in hd
  unfold rvE
  rw [if_pos hd, if_pos (rc_none tA tB h)]
theorem rv_3 {A B : TV} {s : Int} (hd : distErr A B s = 0) (h : arrB A.t B.t s (lastT B.t) = true) : rvE A B s = 0 ∧ rvLo A B s = rcLo A.t B.t s ∧ rvHi A B s = rcHi A.t B.t s := by
  obtain ⟨tA, tB⟩ := distErr_in hd
  have := rc_some tB h
  have e : rvE A B s = 0 := by
    unfold rvE
    rw [if_pos hd, if_neg (by omega)]
  exact ⟨e, by unfold rvLo; rw [if_pos e], by unfold rvHi; rw [if_pos e]⟩
theorem times_0 {A B : Trk} {s : Int} (h : timesErr A.tv B.tv s = 0) : outside s A.k A.n = false ∧ outside s B.k B.n = false := by
  unfold timesErr at h
  change (if outside s A.k A.n || outside s B.k B.n then (2 : Int) else 0) = 0 at h
  cases h1 : outside s A.k A.n <;> cases h2 : outside s B.k B.n <;> rw [h1, h2] at h <;> first | exact ⟨rfl, rfl⟩ | (exact absurd h (by decide))
/-- The document's RoundTrip, by its numbers. -/
theorem rroundTrip_n (A B : Trk) (s : Int) (W : World) (hA : A.At W) (hB : B.At W) (eA : ctErr A.k A.n A.d = 0) (eB : ctErr B.k B.n B.d = 0) :
    Calls Tryz.prog 32 #[.agg #[.slice (some ⟨A.b, A.off, none⟩) A.n A.c, .int .i64 A.d], .agg #[.slice (some ⟨B.b, B.off, none⟩) B.n B.c, .int .i64 B.d], .int .i64 s] W fun e w' => e = .returned (.tuple #[.agg #[.int .i64 (tripLo A.tv B.tv s), .int .i64 (tripHi A.tv B.tv s)], .int .i64 (tripE A.tv B.tv s)]) ∧ Below W.heap.size W w' := by
  have t1 := fun W' (hb : Below W.heap.size W W') => timesErr_any A.b A.off B.b B.off A.n A.c B.n B.c A.d B.d s A.k B.k W' hA.1 hA.2.1 hB.1 hB.2.1 (hA.below hb).2.2 (hB.below hb).2.2
  have t2 := fun (r : Int) W' (hb : Below W.heap.size W W') => timesErr_any B.b B.off A.b A.off B.n B.c A.n A.c B.d A.d r B.k A.k W' hB.1 hB.2.1 hA.1 hA.2.1 (hB.below hb).2.2 (hA.below hb).2.2
  change ∀ W', _ → Calls _ _ _ _ (fun e w' => e = .returned (.int .i64 (timesErr A.tv B.tv s)) ∧ _) at t1
  change ∀ (r : Int) W', _ → Calls _ _ _ _ (fun e w' => e = .returned (.int .i64 (timesErr B.tv A.tv r)) ∧ _) at t2
  have eA' : A.tv.err = 0 := eA
  have eB' : B.tv.err = 0 := eB
  by_cases z1 : timesErr A.tv B.tv s = 0
  · rw [z1] at t1
    have d1 := rv_0 eA' eB' z1
    obtain ⟨oA, oB⟩ := times_0 z1
    have vA := fun W' (hb : Below W.heap.size W W') => (⟨hA.below hb, eA, oA⟩ : VT W' A s)
    have vB := fun W' (hb : Below W.heap.size W W') => (⟨hB.below hb, eB, oB⟩ : VT W' B s)
    cases q1 : arrB A B s (lastT B)
    · have e1 := rv_2 d1 q1
      have et : tripE A.tv B.tv s = 12 := by unfold tripE; rw [e1, if_neg (by decide)]
      unfold tripLo tripHi
      rw [et, if_neg (by decide), if_neg (by decide)]
      exact rtrip_2 _ _ _ _ _ _ _ _ _ _ s 0 0 0 0 0 0 W t1 (fun W' hb => rrcv_no A B s W' (vA W' hb) (vB W' hb) q1)
    · obtain ⟨e1, e2, e3⟩ := rv_3 d1 q1
      have h1 := fun W' (hb : Below W.heap.size W W') => rrcv_yes A B s W' (vA W' hb) (vB W' hb) q1
      change rvLo A.tv B.tv s = rcLo A B s at e2
      change rvHi A.tv B.tv s = rcHi A B s at e3
      rw [← e2, ← e3] at h1
      have t2a := t2 (rvLo A.tv B.tv s)
      have t2b := t2 (rvHi A.tv B.tv s)
      generalize eL : rvLo A.tv B.tv s = l at h1 t2a e2
      generalize eU : rvHi A.tv B.tv s = u at h1 t2b e3
      clear e2 e3
      by_cases z2 : timesErr B.tv A.tv l = 0
      · rw [z2] at t2a
        have d2 := rv_0 eB' eA' z2
        obtain ⟨o1, o2⟩ := times_0 z2
        have v1 := fun W' (hb : Below W.heap.size W W') => (⟨hB.below hb, eB, o1⟩ : VT W' B l)
        have v2 := fun W' (hb : Below W.heap.size W W') => (⟨hA.below hb, eA, o2⟩ : VT W' A l)
        cases q2 : arrB B A l (lastT A)
        · have f1 := rv_2 d2 q2
          have et : tripE A.tv B.tv s = 12 := by unfold tripE; rw [if_pos e1, eL, if_neg (by rw [f1]; decide), f1]
          unfold tripLo tripHi
          rw [et, if_neg (by decide), if_neg (by decide)]
          exact rtrip_4 _ _ _ _ _ _ _ _ _ _ s l u 0 0 0 0 W t1 h1 t2a (fun W' hb => rrcv_no B A l W' (v1 W' hb) (v2 W' hb) q2)
        · obtain ⟨f1, f2, f3⟩ := rv_3 d2 q2
          have h2 := fun W' (hb : Below W.heap.size W W') => rrcv_yes B A l W' (v1 W' hb) (v2 W' hb) q2
          change rvLo B.tv A.tv l = rcLo B A l at f2
          rw [← f2] at h2
          by_cases z3 : timesErr B.tv A.tv u = 0
          · rw [z3] at t2b
            have d3 := rv_0 eB' eA' z3
            obtain ⟨o3, o4⟩ := times_0 z3
            have v3 := fun W' (hb : Below W.heap.size W W') => (⟨hB.below hb, eB, o3⟩ : VT W' B u)
            have v4 := fun W' (hb : Below W.heap.size W W') => (⟨hA.below hb, eA, o4⟩ : VT W' A u)
            cases q3 : arrB B A u (lastT A)
            · have g1 := rv_2 d3 q3
              have et : tripE A.tv B.tv s = 12 := by unfold tripE; rw [if_pos e1, eL, if_pos f1, eU, g1]
              unfold tripLo tripHi
              rw [et, if_neg (by decide), if_neg (by decide)]
              exact rtrip_6 _ _ _ _ _ _ _ _ _ _ s l u _ _ 0 0 W t1 h1 t2a h2 t2b (fun W' hb => rrcv_no B A u W' (v3 W' hb) (v4 W' hb) q3)
            · obtain ⟨g1, g2, g3⟩ := rv_3 d3 q3
              have h3 := fun W' (hb : Below W.heap.size W W') => rrcv_yes B A u W' (v3 W' hb) (v4 W' hb) q3
              change rvHi B.tv A.tv u = rcHi B A u at g3
              rw [← g3] at h3
              have et : tripE A.tv B.tv s = 0 := by unfold tripE; rw [if_pos e1, eL, if_pos f1, eU, g1]
              have el : tripLo A.tv B.tv s = rvLo B.tv A.tv l := by unfold tripLo; rw [if_pos et, eL]
              have eu : tripHi A.tv B.tv s = rvHi B.tv A.tv u := by unfold tripHi; rw [if_pos et, eU]
              rw [et, el, eu]
              exact rtrip_7 _ _ _ _ _ _ _ _ _ _ s l u _ _ _ _ W t1 h1 t2a h2 t2b h3
          · obtain ⟨g1, g2⟩ := rv_1 eB' eA' z3
            have et : tripE A.tv B.tv s = (timesErr B.tv A.tv u) := by unfold tripE; rw [if_pos e1, eL, if_pos f1, eU, g1]
            unfold tripLo tripHi
            rw [et, if_neg z3, if_neg z3]
            exact rtrip_5 _ _ _ _ _ _ _ _ _ _ s _ l u _ _ 0 0 W t1 h1 t2a h2 t2b (by simpa using z3)
      · obtain ⟨f1, f2⟩ := rv_1 eB' eA' z2
        have et : tripE A.tv B.tv s = (timesErr B.tv A.tv l) := by unfold tripE; rw [if_pos e1, eL, if_neg f2, f1]
        unfold tripLo tripHi
        rw [et, if_neg z2, if_neg z2]
        exact rtrip_3 _ _ _ _ _ _ _ _ _ _ s _ l u 0 0 0 0 W t1 h1 t2a (by simpa using z2)
  · obtain ⟨e1, e2⟩ := rv_1 eA' eB' z1
    have et : tripE A.tv B.tv s = timesErr A.tv B.tv s := by unfold tripE; rw [if_neg e2, e1]
    unfold tripLo tripHi
    rw [et, if_neg z1, if_neg z1]
    exact rtrip_1 _ _ _ _ _ _ _ _ _ _ s _ 0 0 0 0 0 0 W t1 (by simpa using z1)
end Go.Proofs.YtnfoagcpgegldaaGreat
namespace Go.Proofs.YtnfoagcpgegldaaGreat
open Go.RowKit Go.Shelf Go.Sort
attribute [local go_sem] idx3_0 idx3_1 idx3_2 old1 fro1 old2 fro2 old3 fro3 old4 fro4 old5 fro5 old6 fro6 old7 fro7 old8 fro8 old9 fro9 old10 fro10 old11 fro11 old12 fro12
set_option maxRecDepth 100000 in
set_option maxHeartbeats 4000000 in
theorem trips_1 (A B : Option Addr) (na nb ca cb : Nat) (da db s D : Int) (ka kb : Nat → Knot) (w : World) (hA0 : A = none → na = 0 ∧ ca = 0) (hB0 : B = none → nb = 0 ∧ cb = 0) (hA : KA w A na ka) (hB : KA w B nb kb) (na1 : na ≤ 14) (nb1 : nb ≤ 14)
    (hFW : ∀ W, Calls Tryz.prog 12 #[.agg #[.slice A na ca, .int .i64 da], .agg #[.slice B nb cb, .int .i64 db]] W fun e w' => e = .returned (.bool true) ∧ Below W.heap.size W w')
    (hRT : ∀ W X cx Y cy, KA W X na ka → KA W Y nb kb → Calls Tryz.prog 31 #[.agg #[.slice X na cx, .int .i64 da], .agg #[.slice Y nb cy, .int .i64 db], .int .i64 s] W fun e w' => e = .returned (.tuple #[.agg #[.int .i64 0, .int .i64 0], .int .i64 D]) ∧ Below W.heap.size W w')
    (hBE : ∀ W, KA W A na ka → KA W B nb kb → Calls Tryz.prog 16 #[.agg #[.slice A na ca, .int .i64 da], .agg #[.slice B nb cb, .int .i64 db]] W fun e w' => e = .returned (.int .i64 D) ∧ Below W.heap.size W w')
    (hD : (D != 0) = true) :
    Calls Tryz.prog 7 #[.agg #[.slice A na ca, .int .i64 da], .agg #[.slice B nb cb, .int .i64 db], .int .i64 s] w fun e w' => e = .returned (.bool true) ∧ Below w.heap.size w w' := by
  have HA0 := Lib.hid hA0
  have HB0 := Lib.hid hB0
  have HA := Lib.hid hA
  have HB := Lib.hid hB
  have HFW := Lib.hid hFW
  have HRT := Lib.hid hRT
  have HBE := Lib.hid hBE
  clear hA0 hB0 hA hB hFW hRT hBE
  go_enter Tryz.func7, Tryz.ntmps7
  go_wp2_with (first
    | (go_at_call 11; (with_reducible refine Calls.mono (awake_any _) ?_); rintro e w1 ⟨rfl, hb1⟩; have B1 := Lib.hid (thenB (show Below w.heap.size w _ by (repeat (first | with_reducible exact Below.refl _ _ | with_reducible assumption | with_reducible refine Below.alloc ?_ (by first | (simp; done) | (simp; omega) | omega) _ | with_reducible refine Below.setCell ?_ (by first | (simp; done) | (simp; omega) | omega) _ | with_reducible refine Below.drew ?_ | with_reducible refine below_drewN ?_ _))) hb1); go_must (have a0_1 := keep hb1 (b := w.heap.size) (o := 0) (v := .slice A na ca) (by simp [go_sem, *])); go_must (have a1_1 := keep hb1 (b := w.heap.size) (o := 1) (v := .int .i64 da) (by simp [go_sem, *])); go_must (have b0_1 := keep hb1 (b := w.heap.size + 1) (o := 0) (v := .slice B nb cb) (by simp [go_sem, *])); go_must (have b1_1 := keep hb1 (b := w.heap.size + 1) (o := 1) (v := .int .i64 db) (by simp [go_sem, *])); clear hb1)
    | (go_at_call 12; (with_reducible refine Calls.mono (HFW.out _) ?_); rintro e w2 ⟨rfl, hb2⟩; have B2 := Lib.hid (thenB (show Below w.heap.size w _ by have Bq := B1.out; have Bz := Bq.size; (repeat (first | with_reducible exact Below.refl _ _ | with_reducible assumption | with_reducible refine Below.alloc ?_ (by first | (simp; done) | (simp; omega) | omega) _ | with_reducible refine Below.setCell ?_ (by first | (simp; done) | (simp; omega) | omega) _ | with_reducible refine Below.drew ?_ | with_reducible refine below_drewN ?_ _))) hb2); go_must (have a0_2 := keep hb2 (b := w.heap.size) (o := 0) (v := .slice A na ca) (by simp [go_sem, *])); go_must (have a1_2 := keep hb2 (b := w.heap.size) (o := 1) (v := .int .i64 da) (by simp [go_sem, *])); go_must (have b0_2 := keep hb2 (b := w.heap.size + 1) (o := 0) (v := .slice B nb cb) (by simp [go_sem, *])); go_must (have b1_2 := keep hb2 (b := w.heap.size + 1) (o := 1) (v := .int .i64 db) (by simp [go_sem, *])); clear hb2)
    | fail)
  have HA_ := Lib.hid (HA.out.bel B2.out)
  have HB_ := Lib.hid (HB.out.bel B2.out)
  clear a0_1 a1_1 b0_1 b1_1
  go_cut [7, 8] from 19 to 26 (fun s7 s8 wx => ∃ q : Nat, s7 = .pointer (some ⟨q, 0, none⟩) ∧ s8 = .int .i64 D ∧ Below w2.heap.size w2 wx ∧ wx.cell? ⟨q, 0, none⟩ = some (.int .i64 0) ∧ wx.cell? ⟨q, 1, none⟩ = some (.int .i64 0))
  case first =>
    have na0_0 := Nat.ne_of_lt (lt_of a0_2)
    have ma0_0 := na0_0.symm
    have nb0_0 := Nat.ne_of_lt (lt_of b0_2)
    have mb0_0 := nb0_0.symm
    go_region_held3 (fun w' => w'.cell? ⟨w.heap.size, 0, none⟩ = some (.slice A na ca) ∧ w'.cell? ⟨w.heap.size, 1, none⟩ = some (.int .i64 da) ∧ w'.cell? ⟨w.heap.size + 1, 0, none⟩ = some (.slice B nb cb) ∧ w'.cell? ⟨w.heap.size + 1, 1, none⟩ = some (.int .i64 db)) (simp [go_sem, *])
      (first
        | (go_at_call 14; (with_reducible refine Calls.mono (copyT_any A na ca da ka _ (by omega) HA0.out (HA_.out.bel (by (repeat (first | with_reducible exact Below.refl _ _ | with_reducible assumption | with_reducible refine Below.alloc ?_ (by first | (simp; done) | (simp; omega) | omega) _ | with_reducible refine Below.setCell ?_ (by first | (simp; done) | (simp; omega) | omega) _ | with_reducible refine Below.drew ?_ | with_reducible refine below_drewN ?_ _))))) ?_); rintro e y1 ⟨X1, e1, rfl, hk1, hb1⟩; have D1 := Lib.hid (thenB (show Below w2.heap.size w2 _ by (repeat (first | with_reducible exact Below.refl _ _ | with_reducible assumption | with_reducible refine Below.alloc ?_ (by first | (simp; done) | (simp; omega) | omega) _ | with_reducible refine Below.setCell ?_ (by first | (simp; done) | (simp; omega) | omega) _ | with_reducible refine Below.drew ?_ | with_reducible refine below_drewN ?_ _))) hb1); have a0_y1 := keep D1.out a0_2; have a1_y1 := keep D1.out a1_2; have b0_y1 := keep D1.out b0_2; have b1_y1 := keep D1.out b1_2; have na0_y1 := Nat.ne_of_lt (lt_of a0_y1); have ma0_y1 := na0_y1.symm; have nb0_y1 := Nat.ne_of_lt (lt_of b0_y1); have mb0_y1 := nb0_y1.symm; have HX1 := Lib.hid hk1; obtain ⟨hc1, hf1⟩ := bcell hb1; have hz1 := hb1.size; (try simp at hz1); (try replace hz1 := Nat.lt_of_succ_le hz1); clear hk1 hb1)
        | (go_at_call 14; (with_reducible refine Calls.mono (copyT_any B nb cb db kb _ (by omega) HB0.out (HB_.out.bel (by have Bq := D1.out; have Bz := Bq.size; (repeat (first | with_reducible exact Below.refl _ _ | with_reducible assumption | with_reducible refine Below.alloc ?_ (by first | (simp; done) | (simp; omega) | omega) _ | with_reducible refine Below.setCell ?_ (by first | (simp; done) | (simp; omega) | omega) _ | with_reducible refine Below.drew ?_ | with_reducible refine below_drewN ?_ _))))) ?_); rintro e y2 ⟨X2, e2, rfl, hk2, hb2⟩; have HX12 := Lib.hid (HX1.out.bel (thenB (show Below y1.heap.size y1 _ by (repeat (first | with_reducible exact Below.refl _ _ | with_reducible assumption | with_reducible refine Below.alloc ?_ (by first | (simp; done) | (simp; omega) | omega) _ | with_reducible refine Below.setCell ?_ (by first | (simp; done) | (simp; omega) | omega) _ | with_reducible refine Below.drew ?_ | with_reducible refine below_drewN ?_ _))) hb2)); have D2 := Lib.hid (thenB (show Below w2.heap.size w2 _ by have Bq := D1.out; have Bz := Bq.size; (repeat (first | with_reducible exact Below.refl _ _ | with_reducible assumption | with_reducible refine Below.alloc ?_ (by first | (simp; done) | (simp; omega) | omega) _ | with_reducible refine Below.setCell ?_ (by first | (simp; done) | (simp; omega) | omega) _ | with_reducible refine Below.drew ?_ | with_reducible refine below_drewN ?_ _))) hb2); have a0_y2 := keep D2.out a0_2; have a1_y2 := keep D2.out a1_2; have b0_y2 := keep D2.out b0_2; have b1_y2 := keep D2.out b1_2; have na0_y2 := Nat.ne_of_lt (lt_of a0_y2); have ma0_y2 := na0_y2.symm; have nb0_y2 := Nat.ne_of_lt (lt_of b0_y2); have mb0_y2 := nb0_y2.symm; have HX2 := Lib.hid hk2; obtain ⟨hc2, hf2⟩ := bcell hb2; have hz2 := hb2.size; (try simp at hz2); (try replace hz2 := Nat.lt_of_succ_le hz2); (try have hl1 : w2.heap.size < y2.heap.size := by omega); clear hk2 hb2)
        | (go_at_call 31; (with_reducible refine Calls.mono (HRT.out _ X1 e1 X2 e2 (HX12.out.bel (show Below y2.heap.size y2 _ by (repeat (first | with_reducible exact Below.refl _ _ | with_reducible assumption | with_reducible refine Below.alloc ?_ (by first | (simp; done) | (simp; omega) | omega) _ | with_reducible refine Below.setCell ?_ (by first | (simp; done) | (simp; omega) | omega) _ | with_reducible refine Below.drew ?_ | with_reducible refine below_drewN ?_ _)))) (HX2.out.bel (show Below y2.heap.size y2 _ by (repeat (first | with_reducible exact Below.refl _ _ | with_reducible assumption | with_reducible refine Below.alloc ?_ (by first | (simp; done) | (simp; omega) | omega) _ | with_reducible refine Below.setCell ?_ (by first | (simp; done) | (simp; omega) | omega) _ | with_reducible refine Below.drew ?_ | with_reducible refine below_drewN ?_ _))))) ?_); rintro e y3 ⟨rfl, hb3⟩; have D3 := Lib.hid (thenB (show Below w2.heap.size w2 _ by have Bq := D2.out; have Bz := Bq.size; (repeat (first | with_reducible exact Below.refl _ _ | with_reducible assumption | with_reducible refine Below.alloc ?_ (by first | (simp; done) | (simp; omega) | omega) _ | with_reducible refine Below.setCell ?_ (by first | (simp; done) | (simp; omega) | omega) _ | with_reducible refine Below.drew ?_ | with_reducible refine below_drewN ?_ _))) hb3); have a0_y3 := keep D3.out a0_2; have a1_y3 := keep D3.out a1_2; have b0_y3 := keep D3.out b0_2; have b1_y3 := keep D3.out b1_2; obtain ⟨hc3, hf3⟩ := bcell hb3; have hz3 := hb3.size; (try simp at hz3); (try replace hz3 := Nat.lt_of_succ_le hz3); (try have hl2 : w2.heap.size < y3.heap.size := by omega); (try have hl3 : y1.heap.size < y3.heap.size := by omega); clear hb3))
    all_goals
      have Dq := D3.out
      have Dz := Dq.size
      go_wp2_with fail
      go_meet
      exact ⟨_, rfl, rfl, by (repeat (first | with_reducible exact Below.refl _ _ | with_reducible assumption | with_reducible refine Below.alloc ?_ (by first | (simp; done) | (simp; omega) | omega) _ | with_reducible refine Below.setCell ?_ (by first | (simp; done) | (simp; omega) | omega) _ | with_reducible refine Below.drew ?_ | with_reducible refine below_drewN ?_ _)), by simp [go_sem, *], by simp [go_sem, *]⟩
  case rest =>
    obtain ⟨q, rfl, rfl, hb, g0, g1⟩ := hcut
    have a0_3 := keep hb a0_2
    have a1_3 := keep hb a1_2
    have b0_3 := keep hb b0_2
    have b1_3 := keep hb b1_2
    have B3 := Lib.hid (thenB B2.out hb)
    clear a0_2 a1_2 b0_2 b1_2 hb
    go_wp2_with (first
      | (go_at_call 16; (with_reducible refine Calls.mono (HBE.out _ (HA.out.bel B3.out) (HB.out.bel B3.out)) ?_); rintro e w4 ⟨rfl, hb4⟩; have B4 := Lib.hid (thenB (show Below w.heap.size w _ by have Bq := B3.out; have Bz := Bq.size; (repeat (first | with_reducible exact Below.refl _ _ | with_reducible assumption | with_reducible refine Below.alloc ?_ (by first | (simp; done) | (simp; omega) | omega) _ | with_reducible refine Below.setCell ?_ (by first | (simp; done) | (simp; omega) | omega) _ | with_reducible refine Below.drew ?_ | with_reducible refine below_drewN ?_ _))) hb4); go_must (have a0_4 := keep hb4 (b := w.heap.size) (o := 0) (v := .slice A na ca) (by simp [go_sem, *])); go_must (have a1_4 := keep hb4 (b := w.heap.size) (o := 1) (v := .int .i64 da) (by simp [go_sem, *])); go_must (have b0_4 := keep hb4 (b := w.heap.size + 1) (o := 0) (v := .slice B nb cb) (by simp [go_sem, *])); go_must (have b1_4 := keep hb4 (b := w.heap.size + 1) (o := 1) (v := .int .i64 db) (by simp [go_sem, *])); go_must (have g0_4 := keep hb4 (b := q) (o := 0) (v := .int .i64 0) (by simp [go_sem, *])); go_must (have g1_4 := keep hb4 (b := q) (o := 1) (v := .int .i64 0) (by simp [go_sem, *])); clear hb4)
      | fail)
    go_ret
    have Bq := B4.out
    have Bz := Bq.size
    exact ⟨ret_bool (by simp), by (repeat (first | with_reducible exact Below.refl _ _ | with_reducible assumption | with_reducible refine Below.alloc ?_ (by first | (simp; done) | (simp; omega) | omega) _ | with_reducible refine Below.setCell ?_ (by first | (simp; done) | (simp; omega) | omega) _ | with_reducible refine Below.drew ?_ | with_reducible refine below_drewN ?_ _))⟩
set_option maxRecDepth 100000 in
set_option maxHeartbeats 4000000 in
theorem trips_2 (A B : Option Addr) (na nb ca cb : Nat) (da db s x0 x1 E : Int) (ka kb : Nat → Knot) (w : World) (hA0 : A = none → na = 0 ∧ ca = 0) (hB0 : B = none → nb = 0 ∧ cb = 0) (hA : KA w A na ka) (hB : KA w B nb kb) (na1 : na ≤ 14) (nb1 : nb ≤ 14)
    (hFW : ∀ W, Calls Tryz.prog 12 #[.agg #[.slice A na ca, .int .i64 da], .agg #[.slice B nb cb, .int .i64 db]] W fun e w' => e = .returned (.bool true) ∧ Below W.heap.size W w')
    (hRT : ∀ W X cx Y cy, KA W X na ka → KA W Y nb kb → Calls Tryz.prog 31 #[.agg #[.slice X na cx, .int .i64 da], .agg #[.slice Y nb cy, .int .i64 db], .int .i64 s] W fun e w' => e = .returned (.tuple #[.agg #[.int .i64 x0, .int .i64 x1], .int .i64 E]) ∧ Below W.heap.size W w')
    (hBE : ∀ W, KA W A na ka → KA W B nb kb → Calls Tryz.prog 16 #[.agg #[.slice A na ca, .int .i64 da], .agg #[.slice B nb cb, .int .i64 db]] W fun e w' => e = .returned (.int .i64 0) ∧ Below W.heap.size W w')
    (hRR : ∀ W, KA W A na ka → KA W B nb kb → Calls Tryz.prog 32 #[.agg #[.slice A na ca, .int .i64 da], .agg #[.slice B nb cb, .int .i64 db], .int .i64 s] W fun e w' => e = .returned (.tuple #[.agg #[.int .i64 x0, .int .i64 x1], .int .i64 E]) ∧ Below W.heap.size W w') :
    Calls Tryz.prog 7 #[.agg #[.slice A na ca, .int .i64 da], .agg #[.slice B nb cb, .int .i64 db], .int .i64 s] w fun e w' => e = .returned (.bool true) ∧ Below w.heap.size w w' := by
  have HA0 := Lib.hid hA0
  have HB0 := Lib.hid hB0
  have HA := Lib.hid hA
  have HB := Lib.hid hB
  have HFW := Lib.hid hFW
  have HRT := Lib.hid hRT
  have HBE := Lib.hid hBE
  have HRR := Lib.hid hRR
  clear hA0 hB0 hA hB hFW hRT hBE hRR
  go_enter Tryz.func7, Tryz.ntmps7
  go_wp2_with (first
    | (go_at_call 11; (with_reducible refine Calls.mono (awake_any _) ?_); rintro e w1 ⟨rfl, hb1⟩; have B1 := Lib.hid (thenB (show Below w.heap.size w _ by (repeat (first | with_reducible exact Below.refl _ _ | with_reducible assumption | with_reducible refine Below.alloc ?_ (by first | (simp; done) | (simp; omega) | omega) _ | with_reducible refine Below.setCell ?_ (by first | (simp; done) | (simp; omega) | omega) _ | with_reducible refine Below.drew ?_ | with_reducible refine below_drewN ?_ _))) hb1); go_must (have a0_1 := keep hb1 (b := w.heap.size) (o := 0) (v := .slice A na ca) (by simp [go_sem, *])); go_must (have a1_1 := keep hb1 (b := w.heap.size) (o := 1) (v := .int .i64 da) (by simp [go_sem, *])); go_must (have b0_1 := keep hb1 (b := w.heap.size + 1) (o := 0) (v := .slice B nb cb) (by simp [go_sem, *])); go_must (have b1_1 := keep hb1 (b := w.heap.size + 1) (o := 1) (v := .int .i64 db) (by simp [go_sem, *])); clear hb1)
    | (go_at_call 12; (with_reducible refine Calls.mono (HFW.out _) ?_); rintro e w2 ⟨rfl, hb2⟩; have B2 := Lib.hid (thenB (show Below w.heap.size w _ by have Bq := B1.out; have Bz := Bq.size; (repeat (first | with_reducible exact Below.refl _ _ | with_reducible assumption | with_reducible refine Below.alloc ?_ (by first | (simp; done) | (simp; omega) | omega) _ | with_reducible refine Below.setCell ?_ (by first | (simp; done) | (simp; omega) | omega) _ | with_reducible refine Below.drew ?_ | with_reducible refine below_drewN ?_ _))) hb2); go_must (have a0_2 := keep hb2 (b := w.heap.size) (o := 0) (v := .slice A na ca) (by simp [go_sem, *])); go_must (have a1_2 := keep hb2 (b := w.heap.size) (o := 1) (v := .int .i64 da) (by simp [go_sem, *])); go_must (have b0_2 := keep hb2 (b := w.heap.size + 1) (o := 0) (v := .slice B nb cb) (by simp [go_sem, *])); go_must (have b1_2 := keep hb2 (b := w.heap.size + 1) (o := 1) (v := .int .i64 db) (by simp [go_sem, *])); clear hb2)
    | fail)
  have HA_ := Lib.hid (HA.out.bel B2.out)
  have HB_ := Lib.hid (HB.out.bel B2.out)
  clear a0_1 a1_1 b0_1 b1_1
  go_cut [7, 8] from 19 to 26 (fun s7 s8 wx => ∃ q : Nat, s7 = .pointer (some ⟨q, 0, none⟩) ∧ s8 = .int .i64 E ∧ Below w2.heap.size w2 wx ∧ wx.cell? ⟨q, 0, none⟩ = some (.int .i64 x0) ∧ wx.cell? ⟨q, 1, none⟩ = some (.int .i64 x1))
  case first =>
    have na0_0 := Nat.ne_of_lt (lt_of a0_2)
    have ma0_0 := na0_0.symm
    have nb0_0 := Nat.ne_of_lt (lt_of b0_2)
    have mb0_0 := nb0_0.symm
    go_region_held3 (fun w' => w'.cell? ⟨w.heap.size, 0, none⟩ = some (.slice A na ca) ∧ w'.cell? ⟨w.heap.size, 1, none⟩ = some (.int .i64 da) ∧ w'.cell? ⟨w.heap.size + 1, 0, none⟩ = some (.slice B nb cb) ∧ w'.cell? ⟨w.heap.size + 1, 1, none⟩ = some (.int .i64 db)) (simp [go_sem, *])
      (first
        | (go_at_call 14; (with_reducible refine Calls.mono (copyT_any A na ca da ka _ (by omega) HA0.out (HA_.out.bel (by (repeat (first | with_reducible exact Below.refl _ _ | with_reducible assumption | with_reducible refine Below.alloc ?_ (by first | (simp; done) | (simp; omega) | omega) _ | with_reducible refine Below.setCell ?_ (by first | (simp; done) | (simp; omega) | omega) _ | with_reducible refine Below.drew ?_ | with_reducible refine below_drewN ?_ _))))) ?_); rintro e y1 ⟨X1, e1, rfl, hk1, hb1⟩; have D1 := Lib.hid (thenB (show Below w2.heap.size w2 _ by (repeat (first | with_reducible exact Below.refl _ _ | with_reducible assumption | with_reducible refine Below.alloc ?_ (by first | (simp; done) | (simp; omega) | omega) _ | with_reducible refine Below.setCell ?_ (by first | (simp; done) | (simp; omega) | omega) _ | with_reducible refine Below.drew ?_ | with_reducible refine below_drewN ?_ _))) hb1); have a0_y1 := keep D1.out a0_2; have a1_y1 := keep D1.out a1_2; have b0_y1 := keep D1.out b0_2; have b1_y1 := keep D1.out b1_2; have na0_y1 := Nat.ne_of_lt (lt_of a0_y1); have ma0_y1 := na0_y1.symm; have nb0_y1 := Nat.ne_of_lt (lt_of b0_y1); have mb0_y1 := nb0_y1.symm; have HX1 := Lib.hid hk1; obtain ⟨hc1, hf1⟩ := bcell hb1; have hz1 := hb1.size; (try simp at hz1); (try replace hz1 := Nat.lt_of_succ_le hz1); clear hk1 hb1)
        | (go_at_call 14; (with_reducible refine Calls.mono (copyT_any B nb cb db kb _ (by omega) HB0.out (HB_.out.bel (by have Bq := D1.out; have Bz := Bq.size; (repeat (first | with_reducible exact Below.refl _ _ | with_reducible assumption | with_reducible refine Below.alloc ?_ (by first | (simp; done) | (simp; omega) | omega) _ | with_reducible refine Below.setCell ?_ (by first | (simp; done) | (simp; omega) | omega) _ | with_reducible refine Below.drew ?_ | with_reducible refine below_drewN ?_ _))))) ?_); rintro e y2 ⟨X2, e2, rfl, hk2, hb2⟩; have HX12 := Lib.hid (HX1.out.bel (thenB (show Below y1.heap.size y1 _ by (repeat (first | with_reducible exact Below.refl _ _ | with_reducible assumption | with_reducible refine Below.alloc ?_ (by first | (simp; done) | (simp; omega) | omega) _ | with_reducible refine Below.setCell ?_ (by first | (simp; done) | (simp; omega) | omega) _ | with_reducible refine Below.drew ?_ | with_reducible refine below_drewN ?_ _))) hb2)); have D2 := Lib.hid (thenB (show Below w2.heap.size w2 _ by have Bq := D1.out; have Bz := Bq.size; (repeat (first | with_reducible exact Below.refl _ _ | with_reducible assumption | with_reducible refine Below.alloc ?_ (by first | (simp; done) | (simp; omega) | omega) _ | with_reducible refine Below.setCell ?_ (by first | (simp; done) | (simp; omega) | omega) _ | with_reducible refine Below.drew ?_ | with_reducible refine below_drewN ?_ _))) hb2); have a0_y2 := keep D2.out a0_2; have a1_y2 := keep D2.out a1_2; have b0_y2 := keep D2.out b0_2; have b1_y2 := keep D2.out b1_2; have na0_y2 := Nat.ne_of_lt (lt_of a0_y2); have ma0_y2 := na0_y2.symm; have nb0_y2 := Nat.ne_of_lt (lt_of b0_y2); have mb0_y2 := nb0_y2.symm; have HX2 := Lib.hid hk2; obtain ⟨hc2, hf2⟩ := bcell hb2; have hz2 := hb2.size; (try simp at hz2); (try replace hz2 := Nat.lt_of_succ_le hz2); (try have hl1 : w2.heap.size < y2.heap.size := by omega); clear hk2 hb2)
        | (go_at_call 31; (with_reducible refine Calls.mono (HRT.out _ X1 e1 X2 e2 (HX12.out.bel (show Below y2.heap.size y2 _ by (repeat (first | with_reducible exact Below.refl _ _ | with_reducible assumption | with_reducible refine Below.alloc ?_ (by first | (simp; done) | (simp; omega) | omega) _ | with_reducible refine Below.setCell ?_ (by first | (simp; done) | (simp; omega) | omega) _ | with_reducible refine Below.drew ?_ | with_reducible refine below_drewN ?_ _)))) (HX2.out.bel (show Below y2.heap.size y2 _ by (repeat (first | with_reducible exact Below.refl _ _ | with_reducible assumption | with_reducible refine Below.alloc ?_ (by first | (simp; done) | (simp; omega) | omega) _ | with_reducible refine Below.setCell ?_ (by first | (simp; done) | (simp; omega) | omega) _ | with_reducible refine Below.drew ?_ | with_reducible refine below_drewN ?_ _))))) ?_); rintro e y3 ⟨rfl, hb3⟩; have D3 := Lib.hid (thenB (show Below w2.heap.size w2 _ by have Bq := D2.out; have Bz := Bq.size; (repeat (first | with_reducible exact Below.refl _ _ | with_reducible assumption | with_reducible refine Below.alloc ?_ (by first | (simp; done) | (simp; omega) | omega) _ | with_reducible refine Below.setCell ?_ (by first | (simp; done) | (simp; omega) | omega) _ | with_reducible refine Below.drew ?_ | with_reducible refine below_drewN ?_ _))) hb3); have a0_y3 := keep D3.out a0_2; have a1_y3 := keep D3.out a1_2; have b0_y3 := keep D3.out b0_2; have b1_y3 := keep D3.out b1_2; obtain ⟨hc3, hf3⟩ := bcell hb3; have hz3 := hb3.size; (try simp at hz3); (try replace hz3 := Nat.lt_of_succ_le hz3); (try have hl2 : w2.heap.size < y3.heap.size := by omega); (try have hl3 : y1.heap.size < y3.heap.size := by omega); clear hb3))
    all_goals
      have Dq := D3.out
      have Dz := Dq.size
      go_wp2_with fail
      go_meet
      exact ⟨_, rfl, rfl, by (repeat (first | with_reducible exact Below.refl _ _ | with_reducible assumption | with_reducible refine Below.alloc ?_ (by first | (simp; done) | (simp; omega) | omega) _ | with_reducible refine Below.setCell ?_ (by first | (simp; done) | (simp; omega) | omega) _ | with_reducible refine Below.drew ?_ | with_reducible refine below_drewN ?_ _)), by simp [go_sem, *], by simp [go_sem, *]⟩
  case rest =>
    obtain ⟨q, rfl, rfl, hb, g0, g1⟩ := hcut
    have a0_3 := keep hb a0_2
    have a1_3 := keep hb a1_2
    have b0_3 := keep hb b0_2
    have b1_3 := keep hb b1_2
    have B3 := Lib.hid (thenB B2.out hb)
    clear a0_2 a1_2 b0_2 b1_2 hb
    go_wp2_with (first
      | (go_at_call 16; (with_reducible refine Calls.mono (HBE.out _ (HA.out.bel B3.out) (HB.out.bel B3.out)) ?_); rintro e w4 ⟨rfl, hb4⟩; have B4 := Lib.hid (thenB (show Below w.heap.size w _ by have Bq := B3.out; have Bz := Bq.size; (repeat (first | with_reducible exact Below.refl _ _ | with_reducible assumption | with_reducible refine Below.alloc ?_ (by first | (simp; done) | (simp; omega) | omega) _ | with_reducible refine Below.setCell ?_ (by first | (simp; done) | (simp; omega) | omega) _ | with_reducible refine Below.drew ?_ | with_reducible refine below_drewN ?_ _))) hb4); go_must (have a0_4 := keep hb4 (b := w.heap.size) (o := 0) (v := .slice A na ca) (by simp [go_sem, *])); go_must (have a1_4 := keep hb4 (b := w.heap.size) (o := 1) (v := .int .i64 da) (by simp [go_sem, *])); go_must (have b0_4 := keep hb4 (b := w.heap.size + 1) (o := 0) (v := .slice B nb cb) (by simp [go_sem, *])); go_must (have b1_4 := keep hb4 (b := w.heap.size + 1) (o := 1) (v := .int .i64 db) (by simp [go_sem, *])); go_must (have g0_4 := keep hb4 (b := q) (o := 0) (v := .int .i64 x0) (by simp [go_sem, *])); go_must (have g1_4 := keep hb4 (b := q) (o := 1) (v := .int .i64 x1) (by simp [go_sem, *])); clear hb4)
      | (go_at_call 32; (with_reducible refine Calls.mono (HRR.out _ (HA.out.bel B4.out) (HB.out.bel B4.out)) ?_); rintro e w5 ⟨rfl, hb5⟩; have B5 := Lib.hid (thenB (show Below w.heap.size w _ by have Bq := B4.out; have Bz := Bq.size; (repeat (first | with_reducible exact Below.refl _ _ | with_reducible assumption | with_reducible refine Below.alloc ?_ (by first | (simp; done) | (simp; omega) | omega) _ | with_reducible refine Below.setCell ?_ (by first | (simp; done) | (simp; omega) | omega) _ | with_reducible refine Below.drew ?_ | with_reducible refine below_drewN ?_ _))) hb5); go_must (have a0_5 := keep hb5 (b := w.heap.size) (o := 0) (v := .slice A na ca) (by simp [go_sem, *])); go_must (have a1_5 := keep hb5 (b := w.heap.size) (o := 1) (v := .int .i64 da) (by simp [go_sem, *])); go_must (have b0_5 := keep hb5 (b := w.heap.size + 1) (o := 0) (v := .slice B nb cb) (by simp [go_sem, *])); go_must (have b1_5 := keep hb5 (b := w.heap.size + 1) (o := 1) (v := .int .i64 db) (by simp [go_sem, *])); go_must (have g0_5 := keep hb5 (b := q) (o := 0) (v := .int .i64 x0) (by simp [go_sem, *])); go_must (have g1_5 := keep hb5 (b := q) (o := 1) (v := .int .i64 x1) (by simp [go_sem, *])); clear hb5)
      | fail)
    go_ret
    have Bq := B5.out
    have Bz := Bq.size
    exact ⟨ret_bool (by simp), by (repeat (first | with_reducible exact Below.refl _ _ | with_reducible assumption | with_reducible refine Below.alloc ?_ (by first | (simp; done) | (simp; omega) | omega) _ | with_reducible refine Below.setCell ?_ (by first | (simp; done) | (simp; omega) | omega) _ | with_reducible refine Below.drew ?_ | with_reducible refine below_drewN ?_ _))⟩
end Go.Proofs.YtnfoagcpgegldaaGreat
namespace Go.Proofs.YtnfoagcpgegldaaGreat
open Go.ChangeShapes Go.WideShapes Go.ChangeAt Go.RowKit Go.Joins Go.Deep
theorem owned : ownKnob Tryz.prog.godebug = none := by kernel_rfl
theorem laidAll : laidOutB Tryz.prog = true := by kernel_rfl
theorem cells1 : Tryz.prog.cellsOf 3 = 1 := by kernel_rfl
theorem cells3 : Tryz.prog.cellsOf 114 = 3 := by kernel_rfl
theorem cells4 : Tryz.prog.cellsOf 116 = 4 := by kernel_rfl
theorem cells2 : Tryz.prog.cellsOf 24 = 2 := by kernel_rfl
instance : Inhabited Knot := ⟨⟨0, 0, 0, 0⟩⟩
set_option maxRecDepth 100000 in
theorem read_point {H : Type} {enc : TypeId × Value → H} {w : World} {base : Nat} {sp : Nat → Bool} {held : Bool} {n : Nat} {c0 c1 c2 : Value} {x : DataW H × List MemPlace} (h : DataW.trod enc Tryz.prog w base sp held n 114 [c0, c1, c2] = some x) : ∃ a b c : Int, c0 = .int .i64 a ∧ c1 = .int .i64 b ∧ c2 = .int .i64 c := by
  obtain ⟨xs, m, _, _, hl, hlen, hg⟩ := DataW.trod_struct Tryz.underlying114 h
  match xs, hlen with
  | [y0, y1, y2], _ =>
    have h0 := hg 0 _ rfl
    have h1 := hg 1 _ rfl
    have h2 := hg 2 _ rfl
    simp [cells1] at h0 h1 h2
    obtain ⟨a, e0, _, _⟩ := DataW.trod_int Tryz.underlying3 h0
    obtain ⟨b, e1, _, _⟩ := DataW.trod_int Tryz.underlying3 h1
    obtain ⟨c, e2, _, _⟩ := DataW.trod_int Tryz.underlying3 h2
    simp at e0 e1 e2
    exact ⟨a, b, c, e0, e1, e2⟩
set_option maxRecDepth 100000 in
theorem read_knot {H : Type} {enc : TypeId × Value → H} {w : World} {base : Nat} {sp : Nat → Bool} {held : Bool} {n : Nat} {c0 c1 c2 c3 : Value} {x : DataW H × List MemPlace} (h : DataW.trod enc Tryz.prog w base sp held n 116 [c0, c1, c2, c3] = some x) : ∃ q : Knot, c0 = .int .i64 q.t ∧ c1 = .int .i64 q.x ∧ c2 = .int .i64 q.y ∧ c3 = .int .i64 q.z := by
  obtain ⟨xs, m, _, _, hl, hlen, hg⟩ := DataW.trod_struct Tryz.underlying116 h
  match xs, hlen with
  | [y0, y1], _ =>
    have h0 := hg 0 _ rfl
    have h1 := hg 1 _ rfl
    simp [cells1, cells3] at h0 h1
    obtain ⟨a, e0, _, _⟩ := DataW.trod_int Tryz.underlying3 h0
    obtain ⟨b, c, d, e1, e2, e3⟩ := read_point h1
    simp at e0
    exact ⟨⟨a, b, c, d⟩, e0, e1, e2, e3⟩
set_option maxRecDepth 100000 in
theorem open_track {H : Type} {enc : TypeId × Value → H} {w : World} {base : Nat} {sp : Nat → Bool} {held : Bool} {r : Reach} {b0 : Nat} {v : Value} {d : DataW H} {p : List MemPlace} (hv : Value.okWide Tryz.prog w r b0 24 v) (h : DataW.Trod enc Tryz.prog w base sp held 24 v d p) :
    ∃ (A : Option Addr) (n c : Nat) (k : Nat → Knot) (db : Int), v = .agg #[.slice A n c, .int .i64 db] ∧ n ≤ 9223372036854775807 ∧ (A = none → n = 0 ∧ c = 0) ∧ KA w A n k := by
  obtain ⟨c0, c1, y0, y1, m, rfl, _, _, hy0, hy1⟩ := open_agg2 Tryz.underlying24 (by kernel_rfl) cells2 hv h
  obtain ⟨db, e1, _, _⟩ := DataW.trod_int Tryz.underlying3 hy1
  simp at e1
  subst e1
  rcases open_slice Tryz.underlying22 hy0 with ⟨hcs, _⟩ | ⟨a, len, cap, m', n', D, Pl, hcs, _, hl, hm, hmm, _, hx⟩
  · simp at hcs
    subst hcs
    exact ⟨none, 0, 0, fun _ => default, db, rfl, by omega, fun _ => ⟨rfl, rfl⟩, fun h => absurd h (Nat.lt_irrefl 0)⟩
  · simp at hcs
    subst hcs
    rw [cells4] at hx
    have hlm : len ≤ m' := by rw [hmm]; split <;> omega
    have hq : ∀ i, i < len → ∃ q : Knot, w.cell? (a.add (i * 4)) = some (.int .i64 q.t) ∧ w.cell? ((a.add (i * 4)).add 1) = some (.int .i64 q.x) ∧ w.cell? ((a.add (i * 4)).add 2) = some (.int .i64 q.y) ∧ w.cell? ((a.add (i * 4)).add 3) = some (.int .i64 q.z) := by
      intro i hi
      obtain ⟨cs', g1, g2⟩ := hx i (by omega)
      obtain ⟨_, hlen, hc⟩ := World.cells?_some g1
      match cs', hlen with
      | [v0, v1, v2, v3], _ =>
        obtain ⟨q, rfl, rfl, rfl, rfl⟩ := read_knot g2
        have z0 := hc 0 (by omega)
        have z1 := hc 1 (by omega)
        have z2 := hc 2 (by omega)
        have z3 := hc 3 (by omega)
        refine ⟨q, ?_, z1, z2, z3⟩
        simpa [Addr.add] using z0
    obtain ⟨k, hk⟩ := choose_lt hq
    refine ⟨some a, len, cap, k, db, rfl, by unfold maxLen at hm; omega, fun h => (by cases h), fun h0 => ?_⟩
    obtain ⟨b, off, spot⟩ := a
    have hc := (hk 0 h0).1
    have hspot : spot = none := by simpa [Addr.add] using World.cell?_spot hc
    subst hspot
    have hc2 : w.cell? ⟨b, off, none⟩ = some (.int .i64 (k 0).t) := by simpa [Addr.add] using hc
    refine ⟨b, off, rfl, lt_of hc2, fun i hi => ?_⟩
    obtain ⟨z0, z1, z2, z3⟩ := hk i hi
    rw [addr_add] at z0 z1 z2 z3
    rw [addr_add] at z1 z2 z3
    exact ⟨z0, z1, z2, z3⟩
end Go.Proofs.YtnfoagcpgegldaaGreat
namespace Go.Proofs.YtnfoagcpgegldaaGreat
open Go.ChangeShapes Go.WideShapes Go.ChangeAt Go.RowKit Go.Joins Go.Deep Go.Shelf Go.Sort
set_option maxRecDepth 100000 in
set_option maxHeartbeats 800000 in
theorem trips_0 (A B : Option Addr) (na nb ca cb : Nat) (da db s : Int) (w : World)
    (hFW : ∀ W, Calls Tryz.prog 12 #[.agg #[.slice A na ca, .int .i64 da], .agg #[.slice B nb cb, .int .i64 db]] W fun e w' => e = .returned (.bool false) ∧ Below W.heap.size W w') :
    Calls Tryz.prog 7 #[.agg #[.slice A na ca, .int .i64 da], .agg #[.slice B nb cb, .int .i64 db], .int .i64 s] w fun e w' => e = .returned (.bool true) ∧ Below w.heap.size w w' := by
  have HFW := Lib.hid hFW
  clear hFW
  go_enter Tryz.func7, Tryz.ntmps7
  go_wp2_with (first
    | (go_at_call 11; (with_reducible refine Calls.mono (awake_any _) ?_); rintro e w1 ⟨rfl, hb1⟩; have B1 := Lib.hid (thenB (show Below w.heap.size w _ by (repeat (first | with_reducible exact Below.refl _ _ | with_reducible assumption | with_reducible refine Below.alloc ?_ (by first | (simp; done) | (simp; omega) | omega) _ | with_reducible refine Below.setCell ?_ (by first | (simp; done) | (simp; omega) | omega) _ | with_reducible refine Below.drew ?_ | with_reducible refine below_drewN ?_ _))) hb1); have a0 := keep hb1 (b := w.heap.size) (o := 0) (v := .slice A na ca) (by simp [go_sem]); have a1 := keep hb1 (b := w.heap.size) (o := 1) (v := .int .i64 da) (by simp [go_sem]); have b0 := keep hb1 (b := w.heap.size + 1) (o := 0) (v := .slice B nb cb) (by simp [go_sem]); have b1 := keep hb1 (b := w.heap.size + 1) (o := 1) (v := .int .i64 db) (by simp [go_sem]); clear hb1)
    | (go_at_call 12; (with_reducible refine Calls.mono (HFW.out _) ?_); rintro e w2 ⟨rfl, hb2⟩; have B2 := Lib.hid (thenB B1.out hb2); clear hb2)
    | fail)
  go_ret
  exact ⟨rfl, B2.out⟩
theorem pathTrips_any (A B : Option Addr) (na nb ca cb : Nat) (da db s : Int) (ka kb : Nat → Knot) (w : World) (hn : na ≤ 9223372036854775807) (hm : nb ≤ 9223372036854775807) (hA0 : A = none → na = 0 ∧ ca = 0) (hB0 : B = none → nb = 0 ∧ cb = 0) (hA : KA w A na ka) (hB : KA w B nb kb) :
    Calls Tryz.prog 7 #[.agg #[.slice A na ca, .int .i64 da], .agg #[.slice B nb cb, .int .i64 db], .int .i64 s] w fun e w' => e = .returned (.bool true) ∧ Below w.heap.size w w' := by
  have hF := fun W => few2_any A B na ca nb cb da db W hn hm
  by_cases h : na ≤ 14 ∧ nb ≤ 14
  · obtain ⟨na1, nb1⟩ := h
    have q : (decide ((na : Int) ≤ 14) && decide ((nb : Int) ≤ 14)) = true := by simp; omega
    rw [q] at hF
    have hRT : ∀ W X cx Y cy, KA W X na ka → KA W Y nb kb → Calls Tryz.prog 31 #[.agg #[.slice X na cx, .int .i64 da], .agg #[.slice Y nb cy, .int .i64 db], .int .i64 s] W fun e w' => e = .returned (.tuple #[.agg #[.int .i64 (tripLo ⟨A, na, ca, ka, da⟩ ⟨B, nb, cb, kb, db⟩ s), .int .i64 (tripHi ⟨A, na, ca, ka, da⟩ ⟨B, nb, cb, kb, db⟩ s)], .int .i64 (tripE ⟨A, na, ca, ka, da⟩ ⟨B, nb, cb, kb, db⟩ s)]) ∧ Below W.heap.size W w' :=
      fun W X cx Y cy h1 h2 => roundTrip_n ⟨X, na, cx, ka, da⟩ ⟨Y, nb, cy, kb, db⟩ s W ⟨h1, by show na ≤ _; omega⟩ ⟨h2, by show nb ≤ _; omega⟩
    have hBE := fun W (h1 : KA W A na ka) (h2 : KA W B nb kb) => bothErr_any A B na ca nb cb da db ka kb W hn hm h1 h2
    by_cases hD : (if ctErr ka na da = 0 then ctErr kb nb db else ctErr ka na da) = 0
    · rw [hD] at hBE
      have eA : ctErr ka na da = 0 := by
        by_cases e : ctErr ka na da = 0
        · exact e
        · rw [if_neg e] at hD; exact hD
      have eB : ctErr kb nb db = 0 := by rw [if_pos eA] at hD; exact hD
      refine trips_2 A B na nb ca cb da db s _ _ _ ka kb w hA0 hB0 hA hB na1 nb1 hF hRT hBE (fun W h1 h2 => ?_)
      obtain ⟨ba, oa, e1, hta⟩ := TV.valid (t := ⟨A, na, ca, ka, da⟩) (w := W) ⟨h1, by show na ≤ _; omega⟩ eA
      obtain ⟨bb, ob, e2, htb⟩ := TV.valid (t := ⟨B, nb, cb, kb, db⟩) (w := W) ⟨h2, by show nb ≤ _; omega⟩ eB
      simp only at e1 e2
      subst e1 e2
      exact rroundTrip_n ⟨ba, oa, na, ca, ka, da⟩ ⟨bb, ob, nb, cb, kb, db⟩ s W hta htb eA eB
    · have hd : distErr ⟨A, na, ca, ka, da⟩ ⟨B, nb, cb, kb, db⟩ s = if ctErr ka na da = 0 then ctErr kb nb db else ctErr ka na da := by
        unfold distErr bothErr TV.err
        exact if_neg hD
      generalize (if ctErr ka na da = 0 then ctErr kb nb db else ctErr ka na da) = D at *
      have e1 : rvE ⟨A, na, ca, ka, da⟩ ⟨B, nb, cb, kb, db⟩ s = D := by unfold rvE; rw [hd, if_neg hD]
      have et : tripE ⟨A, na, ca, ka, da⟩ ⟨B, nb, cb, kb, db⟩ s = D := by unfold tripE; rw [e1, if_neg hD]
      unfold tripLo tripHi at hRT
      rw [et] at hRT
      simp only [if_neg hD] at hRT
      exact trips_1 A B na nb ca cb da db s D ka kb w hA0 hB0 hA hB na1 nb1 hF hRT hBE (by simpa using hD)
  · have q : (decide ((na : Int) ≤ 14) && decide ((nb : Int) ≤ 14)) = false := by simp; omega
    rw [q] at hF
    exact trips_0 A B na nb ca cb da db s w hF
set_option maxRecDepth 100000 in
theorem pathTrips_lifted (os : Os) (started : os.Started) (H : Type) (enc : TypeId × Value → H) :
    ReturnsInHanded {} Tryz.checked os 7 .any (Rows.pathTripsSpec.pre6 enc Tryz.prog Tryz.f7 Rows.pathTripsRow.domain false) (Rows.pathTripsSpec.post enc Tryz.prog Tryz.f7 false true false false) := by
  refine returnsInHanded_of_change (C := Tryz.checked) owned started (by kernel_rfl) Tryz.func7
    (ChangeSpec.witness6 (enc := enc) (C := Tryz.checked) false ⟨#[], #[.agg #[.slice none 0 0, .int .i64 0], .agg #[.slice none 0 0, .int .i64 0], .int .i64 0], []⟩ 8 (by kernel_rfl) (by kernel_rfl) (by kernel_rfl) (by kernel_rfl)) ?_
  intro W base args ds gs before hval0 hW hcnd _
  have hval : ∀ (j : Nat) t v, Tryz.f7.params[j]? = some t → args[j]? = some v → Value.okWide Tryz.prog W .any base t v := hval0
  have hW' := hW
  obtain ⟨p, q, hA0, hV, rfl, hfz, hnd⟩ := hW
  have hA : DataW.TrodAll enc Tryz.prog W 0 (fun _ => true) true Tryz.f7.params.toList args.toList ds p := hA0
  rw [Tryz.params7] at hA hval
  obtain ⟨v0, vs0, d0, ds0, p0, q0, hargs, rfl, rfl, h0, r0⟩ := trodAll_cons hA
  obtain ⟨v1, vs1, d1, ds1, p1, q1, rfl, rfl, rfl, h1, r1⟩ := trodAll_cons r0
  obtain ⟨v2, vs2, d2, ds2, p2, q2, rfl, rfl, rfl, h2, r2⟩ := trodAll_cons r1
  obtain ⟨rfl, rfl, rfl⟩ := trodAll_nil r2
  obtain rfl : args = #[v0, v1, v2] := by cases args; simp_all
  obtain ⟨rfl, rfl⟩ := trodVars_none hV
  have k0 := h0
  have k1 := h1
  have lt0 : ∀ x ∈ p0, x.block < W.heap.size := by obtain ⟨m, hm⟩ := k0; exact DataW.trod_lt m _ _ _ hm
  have lt1 : ∀ x ∈ p1, x.block < W.heap.size := by obtain ⟨m, hm⟩ := k1; exact DataW.trod_lt m _ _ _ hm
  obtain ⟨A, n, c, k, db, rfl, hn, hA1, hA2⟩ := open_track (hval 0 24 v0 rfl rfl) h0
  obtain ⟨B, m, c', k', db', rfl, hm, hB1, hB2⟩ := open_track (hval 1 24 v1 rfl rfl) h1
  obtain ⟨a1, rfl, rfl, rfl, w1⟩ := open_int Tryz.underlying3 (hval 2 3 v2 rfl rfl) h2
  clear hA0 hval0
  refine (pathTrips_any A B n m c c' db db' a1 k k' W hn hm hA1 hB1 hA2 hB2).mono fun e W' ⟨he, bel⟩ => ?_
  subst he
  exact ⟨_, rfl, _, _, _, [], _, [], hW', trodAll_mk1 (shut_bool Tryz.underlying4 _), (trodAll_cons_mk (Below.trod laidAll (by kernel_rfl) (of_decide_eq_true (by kernel_rfl)) k0 bel lt0) (trodAll_cons_mk (Below.trod laidAll (by kernel_rfl) (of_decide_eq_true (by kernel_rfl)) k1 bel lt1) (trodAll_cons_mk (shut_int Tryz.underlying3 w1) trodAll_mk0))), rfl, bel.frame _, fun h => by cases h⟩
theorem pathTrips_over : Rows.pathTripsRow.holds Tryz.pinned (OpenSpec.ofChange Rows.pathTripsSpec) :=
  OpenClaim.holds_of_wide 7 Tryz.f7 rfl rfl rfl rfl rfl rfl rfl ⟨by kernel_rfl, by kernel_rfl, by kernel_rfl, by kernel_rfl, by kernel_rfl⟩ rfl rfl rfl rfl rfl (by kernel_rfl) Tryz.func7 (by kernel_rfl)
    (of_decide_eq_true (by kernel_rfl)) (by unfold Func.isWrapper; first | (rw [if_pos (by decide +kernel)]; kernel_rfl) | (rw [if_neg (by decide +kernel)]; exact ⟨rfl, rfl⟩))
    (fun os started H enc _ => pathTrips_lifted os started H enc)
/-- THE STATEMENT. -/
theorem pathTrips_holds : Rows.PathTripsSaid := pathTrips_over
end Go.Proofs.YtnfoagcpgegldaaGreat
