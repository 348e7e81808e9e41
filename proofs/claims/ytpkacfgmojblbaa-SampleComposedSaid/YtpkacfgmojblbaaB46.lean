/- Helpers: the law SampleComposed. No condition but the hypotheses that each theorem names. -/
import Derived.Test.YtpkacfgmojblbaaB45
import Derived.Test.YtpkacfgmojblbaaB06
import Derived.Test.YtpkacfgmojblbaaB12
namespace Go.Proofs.Ytpkacfgmojblbaa
open Go.RowKit
attribute [local go_sem] old1 fro1 old2 fro2 old3 fro3 old4 fro4 old5 fro5 old6 fro6 old7 fro7 old8 fro8 old9 fro9 old10 fro10 old11 fro11 old12 fro12
def se0 : List Bool := [false, false, false, false, false, false, false, true, true, false, false, false, false, false, false, false, false, false, false, false, false, false, false, false, false, false, true, true, true, true, true, true, true, true, false, false, false, false, false, false, false, false, false, false, false, false, false, false, false, false, false, false, false, false, false, false, false, false, false, false, false, false, false, false, false, false, false, false, false, false, false, false, false, false, false, false, false, false, false, false, false, false, false, false, false, false, false, false, false, false, false, false, false, false, false, false, false, false, false, false, false, false, false, false, false, false, false, false, false, false, false, false, false, false, false, false, false, false, false, false, false, false, false, false]
def se1 : List Bool := [false, false, false, false, false, false, false, false, false, false, false, false, false, false, false, false, false, false, false, false, false, false, false, false, false, false, false, false, false, false, false, false, false, false, false, false, false, false, false, false, false, false, false, false, false, false, false, false, false, false, false, false, false, false, false, false, false, false, false, false, false, false, false, false, false, true, true, true, true, true, true, true, true, true, true, true, true, true, true, true, true, true, true, true, true, true, true, true, true, true, true, true, false, false, false, false, false, false, false, false, false, false, false, false, false, false, false, false, false, false, false, false, false, false, false, false, false, false, false, false, false, false, false, false]
/-- numbers from the first cell of their block on -/
def IZ (w : World) (A : Option Addr) (n : Nat) (zs : Nat → Int) : Prop := 0 < n → ∃ b, A = some ⟨b, 0, none⟩ ∧ ∀ i, i < n → w.cell? ⟨b, i, none⟩ = some (.int .i64 (zs i))
theorem IZ.ia {w : World} {A : Option Addr} {n : Nat} {zs : Nat → Int} (h : IZ w A n zs) : IA w A n zs := fun hn => by
  obtain ⟨b, e, hc⟩ := h hn
  exact ⟨b, 0, e, fun i hi => by rw [Nat.zero_add]; exact hc i hi⟩
theorem IZ.on {w w1 : World} {A : Option Addr} {n : Nat} {zs : Nat → Int} (h : IZ w A n zs) (hb : Below w.heap.size w w1) : IZ w1 A n zs := fun hn => by
  obtain ⟨b, e, hc⟩ := h hn
  exact ⟨b, e, fun i hi => keep hb (hc i hi)⟩
theorem IZ.set {w : World} {A : Option Addr} {n q o : Nat} {zs : Nat → Int} {v : Value} (h : IZ w A n zs) (hq : ∀ b, A = some ⟨b, 0, none⟩ → 0 < n → b ≠ q) : IZ (w.setCell ⟨q, o, none⟩ v) A n zs := fun hn => by
  obtain ⟨b, e, hc⟩ := h hn
  exact ⟨b, e, fun i hi => (World.cell?_setCell_far _ _ _ _ (Ne.symm (hq b e hn))).trans (hc i hi)⟩
/-- a filter as a value -/
def mpCF (n : Nat) (xs : Nat → Int) (d : Int) : MP := ⟨fun v w => ∃ A c, v = .agg #[.slice A n c, .int .i64 d] ∧ IA w A n xs, fun _ _ _ ⟨A, c, e, h⟩ hb => ⟨A, c, e, h.bel hb⟩⟩
def mpCZ (n : Nat) (xs : Nat → Int) (d : Int) : MP := ⟨fun v w => ∃ A c, v = .agg #[.slice A n c, .int .i64 d] ∧ IZ w A n xs, fun _ _ _ ⟨A, c, e, h⟩ hb => ⟨A, c, e, h.on hb⟩⟩
/-- what Composed answers -/
def tcV (n : Nat) (d E : Int) (v : Value) : Prop := ∃ A c, v = .tuple #[.agg #[.slice A n c, .int .i64 d], .int .i64 E]
def mpTC (n : Nat) (zs : Nat → Int) (d E : Int) : MP := ⟨fun v w => ∃ A c, v = .tuple #[.agg #[.slice A n c, .int .i64 d], .int .i64 E] ∧ IZ w A n zs, fun _ _ _ ⟨A, c, e, h⟩ hb => ⟨A, c, e, h.on hb⟩⟩
/-- a new variable that holds a filter -/
def mpVC (B n : Nat) (zs : Nat → Int) (d : Int) : MP := ⟨fun v w => ∃ q A c, v = .pointer (some ⟨q, 0, none⟩) ∧ B ≤ q ∧ w.cell? ⟨q, 0, none⟩ = some (.slice A n c) ∧ w.cell? ⟨q, 1, none⟩ = some (.int .i64 d) ∧ IZ w A n zs,
  fun _ _ _ ⟨q, A, c, e, hB, h0, h1, h⟩ hb => ⟨q, A, c, e, hB, keep hb h0, keep hb h1, h.on hb⟩⟩
theorem composedS_e (A A2 : Option Addr) (L cA M cB : Nat) (xs ys zs : Nat → Int) (d1 d2 E : Int) (h : (coE L xs d1 M ys d2 = E ∧ E ≠ 0) ∨ (coE L xs d1 M ys d2 = 0 ∧ flE (L + M - 1) (cvK xs ys M L) (d1 * d2) ≠ 0 ∧ E = 8)) (hL : L ≤ 10) (hM : M ≤ 10) (w : World) (hA : IA w A L xs) (hB : IA w A2 M ys) :
    Calls Try.prog 64 #[.agg #[.slice A L cA, .int .i64 d1], .agg #[.slice A2 M cB, .int .i64 d2]] w fun e w' => ∃ A' c', e = .returned (.tuple #[.agg #[.slice A' 0 c', .int .i64 0], .int .i64 E]) ∧ Below w.heap.size w w' ∧ IZ w' A' 0 zs := by
  rcases h with ⟨h1, h2⟩ | ⟨h1, h2, rfl⟩
  · exact (composedS_err A A2 L cA M cB xs ys d1 d2 E h1 h2 (by omega) (by omega) w hA hB).mono (by rintro e w' ⟨rfl, hb⟩; exact ⟨none, 0, rfl, hb, fun h => absurd h (by omega)⟩)
  · exact (composedS_big A A2 L cA M cB xs ys d1 d2 h1 h2 w hA hB).mono (by rintro e w' ⟨rfl, hb⟩; exact ⟨none, 0, rfl, hb, fun h => absurd h (by omega)⟩)
theorem composedS_k (A A2 : Option Addr) (L cA M cB : Nat) (xs ys : Nat → Int) (d1 d2 : Int) (hE : coE L xs d1 M ys d2 = 0) (hgood : flE (L + M - 1) (cvK xs ys M L) (d1 * d2) = 0) (w : World) (hA : IA w A L xs) (hB : IA w A2 M ys) :
    Calls Try.prog 64 #[.agg #[.slice A L cA, .int .i64 d1], .agg #[.slice A2 M cB, .int .i64 d2]] w fun e w' => ∃ A' c', e = .returned (.tuple #[.agg #[.slice A' (L + M - 1) c', .int .i64 (d1 * d2)], .int .i64 0]) ∧ Below w.heap.size w w' ∧ IZ w' A' (L + M - 1) (cvK xs ys M L) :=
  (composedS_ok A A2 L cA M cB xs ys d1 d2 hE hgood w hA hB).mono (by
    rintro e w' ⟨G, rfl, hb, hI⟩
    refine ⟨_, _, rfl, hb, fun hn => ?_⟩
    obtain ⟨b, o, e1, hc⟩ := hI hn
    cases e1
    exact ⟨_, rfl, fun i hi => by have := hc i hi; rwa [Nat.zero_add] at this⟩)
set_option maxRecDepth 100000 in
set_option maxHeartbeats 800000 in
theorem sc_long1 (A A2 : Option Addr) (L cA M cB : Nat) (d1 d2 q : Int) (w : World) (hL : 10 < L) :
    Calls Try.prog 10 #[.agg #[.slice A L cA, .int .i64 d1], .agg #[.slice A2 M cB, .int .i64 d2], .int .i64 q] w fun e w' => e = .returned (.bool true) ∧ Below w.heap.size w w' := by
  have hL2 : (L : Int) > 10 := by omega
  go_enter Try.func10, Try.ntmps10
  go_wp2_with (go_at_call 17; (with_reducible refine Calls.mono (awake_any _) ?_); rintro e yx ⟨rfl, hbx⟩; (try replace l0 := keep hbx l0); (try replace l1 := keep hbx l1); (try replace m0 := keep hbx m0); (try replace m1 := keep hbx m1); (try replace g0 := keep hbx g0); (try replace g1 := keep hbx g1); (try replace p0 := keep hbx p0); (try replace p1 := keep hbx p1); (try replace r0 := keep hbx r0); (try replace r1 := keep hbx r1); (try replace T1 := Lib.hid (T1.out.bel hbx)); (try replace T7 := Lib.hid (T7.out.on hbx)); (try replace TW := Lib.hid (TW.out.bel hbx)); (first | replace BV := Lib.hid (belowT (show Below w.heap.size w _ by have Bq := BV.out; have Bz := Bq.size; (repeat (first | with_reducible exact Below.refl _ _ | with_reducible assumption | with_reducible refine Below.alloc ?_ (by first | (simp; done) | (simp; omega) | omega) _ | with_reducible refine Below.setCell ?_ (by first | (simp; done) | (simp; omega) | omega) _ | with_reducible refine Below.drew ?_ | with_reducible refine below_drewN ?_ _))) hbx) | have BV := Lib.hid (belowT (show Below w.heap.size w _ by (repeat (first | with_reducible exact Below.refl _ _ | with_reducible assumption | with_reducible refine Below.alloc ?_ (by first | (simp; done) | (simp; omega) | omega) _ | with_reducible refine Below.setCell ?_ (by first | (simp; done) | (simp; omega) | omega) _ | with_reducible refine Below.drew ?_ | with_reducible refine below_drewN ?_ _))) hbx)); have l0 := keep hbx (b := w.heap.size) (o := 0) (v := .slice A L cA) (by simp [go_sem]); have l1 := keep hbx (b := w.heap.size) (o := 1) (v := .int .i64 d1) (by simp [go_sem]); have m0 := keep hbx (b := w.heap.size + 1) (o := 0) (v := .slice A2 M cB) (by simp [go_sem]); have m1 := keep hbx (b := w.heap.size + 1) (o := 1) (v := .int .i64 d2) (by simp [go_sem]); clear hbx)
  go_ret
  exact ⟨rfl, BV.out⟩
set_option maxRecDepth 100000 in
set_option maxHeartbeats 800000 in
theorem sc_long2 (A A2 : Option Addr) (L cA M cB : Nat) (d1 d2 q : Int) (w : World) (hL : L ≤ 10) (hM : 10 < M) :
    Calls Try.prog 10 #[.agg #[.slice A L cA, .int .i64 d1], .agg #[.slice A2 M cB, .int .i64 d2], .int .i64 q] w fun e w' => e = .returned (.bool true) ∧ Below w.heap.size w w' := by
  have hL2 : ¬ (L : Int) > 10 := by omega
  have hM2 : (M : Int) > 10 := by omega
  go_enter Try.func10, Try.ntmps10
  go_wp2_with (go_at_call 17; (with_reducible refine Calls.mono (awake_any _) ?_); rintro e yx ⟨rfl, hbx⟩; (try replace l0 := keep hbx l0); (try replace l1 := keep hbx l1); (try replace m0 := keep hbx m0); (try replace m1 := keep hbx m1); (try replace g0 := keep hbx g0); (try replace g1 := keep hbx g1); (try replace p0 := keep hbx p0); (try replace p1 := keep hbx p1); (try replace r0 := keep hbx r0); (try replace r1 := keep hbx r1); (try replace T1 := Lib.hid (T1.out.bel hbx)); (try replace T7 := Lib.hid (T7.out.on hbx)); (try replace TW := Lib.hid (TW.out.bel hbx)); (first | replace BV := Lib.hid (belowT (show Below w.heap.size w _ by have Bq := BV.out; have Bz := Bq.size; (repeat (first | with_reducible exact Below.refl _ _ | with_reducible assumption | with_reducible refine Below.alloc ?_ (by first | (simp; done) | (simp; omega) | omega) _ | with_reducible refine Below.setCell ?_ (by first | (simp; done) | (simp; omega) | omega) _ | with_reducible refine Below.drew ?_ | with_reducible refine below_drewN ?_ _))) hbx) | have BV := Lib.hid (belowT (show Below w.heap.size w _ by (repeat (first | with_reducible exact Below.refl _ _ | with_reducible assumption | with_reducible refine Below.alloc ?_ (by first | (simp; done) | (simp; omega) | omega) _ | with_reducible refine Below.setCell ?_ (by first | (simp; done) | (simp; omega) | omega) _ | with_reducible refine Below.drew ?_ | with_reducible refine below_drewN ?_ _))) hbx)); have l0 := keep hbx (b := w.heap.size) (o := 0) (v := .slice A L cA) (by simp [go_sem]); have l1 := keep hbx (b := w.heap.size) (o := 1) (v := .int .i64 d1) (by simp [go_sem]); have m0 := keep hbx (b := w.heap.size + 1) (o := 0) (v := .slice A2 M cB) (by simp [go_sem]); have m1 := keep hbx (b := w.heap.size + 1) (o := 1) (v := .int .i64 d2) (by simp [go_sem]); clear hbx)
  go_ret
  exact ⟨rfl, BV.out⟩
set_option maxRecDepth 100000 in
set_option maxHeartbeats 4000000 in
theorem sc_f (A A2 : Option Addr) (L cA M cB : Nat) (xs ys : Nat → Int) (d1 d2 q : Int) (F : Int) (F0 : F ≠ 0) (w : World) (hL : L ≤ 10) (hM : M ≤ 10) (hF : flE L xs d1 = F) (hI : IS w (.slice A L cA) L xs) (hJ : IS w (.slice A2 M cB) M ys) :
    Calls Try.prog 10 #[.agg #[.slice A L cA, .int .i64 d1], .agg #[.slice A2 M cB, .int .i64 d2], .int .i64 q] w fun e w' => e = .returned (.bool true) ∧ Below w.heap.size w w' := by
  have hL2 : ¬ (L : Int) > 10 := by omega
  have hM2 : ¬ (M : Int) > 10 := by omega
  have hA : IA w A L xs := by obtain ⟨A', c', e, h, _⟩ := hI; cases e; exact h
  have hB : IA w A2 M ys := by obtain ⟨A', c', e, h, _⟩ := hJ; cases e; exact h
  have HCF := Lib.hid (fun W (hW : Below w.heap.size w W) => copyFilter_any A L cA xs d1 W (by omega) (hI.on hW))
  have HCG := Lib.hid (fun W (hW : Below w.heap.size w W) => copyFilter_any A2 M cB ys d2 W (by omega) (hJ.on hW))
  have HFE := Lib.hid (fun W (hW : Below w.heap.size w W) => filterErr_any A L cA xs d1 W (by omega) (hA.bel hW))
  rw [hF] at HFE
  have HRA := Lib.hid (fun A1 c1 W (h : IA W A1 L xs) => responseAt_err A1 L c1 xs d1 q (F) (by unfold fs2; rw [hF, if_neg F0]) F0 W (by omega) h)
  have HCO := Lib.hid (fun A1 c1 A3 c3 W (h1 : IA W A1 L xs) (h2 : IA W A3 M ys) => composedS_e A1 A3 L c1 M c3 xs ys (fun _ => 0) d1 d2 (F) (Or.inl ⟨by unfold coE fs2; rw [hF, if_neg F0], F0⟩) hL hM W h1 h2)
  have HSF := Lib.hid (fun A1 c1 W (h1 : IA W A1 0 (fun _ => 0)) => sameFilter_any A1 none 0 c1 0 (fun _ => 0) 0 W (by omega) h1 (fun h => absurd h (by omega)))
  have x1 : (F == 0) = false := by simpa using F0
  have x2 : (F != 0) = true := by simpa using F0
  clear F0
  clear hA hB hI hJ hF
  go_enter Try.func10, Try.ntmps10
  go_upto_region 5 with (go_at_call 17; (with_reducible refine Calls.mono (awake_any _) ?_); rintro e yx ⟨rfl, hbx⟩; (try replace l0 := keep hbx l0); (try replace l1 := keep hbx l1); (try replace m0 := keep hbx m0); (try replace m1 := keep hbx m1); (try replace g0 := keep hbx g0); (try replace g1 := keep hbx g1); (try replace p0 := keep hbx p0); (try replace p1 := keep hbx p1); (try replace r0 := keep hbx r0); (try replace r1 := keep hbx r1); (try replace T1 := Lib.hid (T1.out.bel hbx)); (try replace T7 := Lib.hid (T7.out.on hbx)); (try replace TW := Lib.hid (TW.out.bel hbx)); (first | replace BV := Lib.hid (belowT (show Below w.heap.size w _ by have Bq := BV.out; have Bz := Bq.size; (repeat (first | with_reducible exact Below.refl _ _ | with_reducible assumption | with_reducible refine Below.alloc ?_ (by first | (simp; done) | (simp; omega) | omega) _ | with_reducible refine Below.setCell ?_ (by first | (simp; done) | (simp; omega) | omega) _ | with_reducible refine Below.drew ?_ | with_reducible refine below_drewN ?_ _))) hbx) | have BV := Lib.hid (belowT (show Below w.heap.size w _ by (repeat (first | with_reducible exact Below.refl _ _ | with_reducible assumption | with_reducible refine Below.alloc ?_ (by first | (simp; done) | (simp; omega) | omega) _ | with_reducible refine Below.setCell ?_ (by first | (simp; done) | (simp; omega) | omega) _ | with_reducible refine Below.drew ?_ | with_reducible refine below_drewN ?_ _))) hbx)); have l0 := keep hbx (b := w.heap.size) (o := 0) (v := .slice A L cA) (by simp [go_sem]); have l1 := keep hbx (b := w.heap.size) (o := 1) (v := .int .i64 d1) (by simp [go_sem]); have m0 := keep hbx (b := w.heap.size + 1) (o := 0) (v := .slice A2 M cB) (by simp [go_sem]); have m1 := keep hbx (b := w.heap.size + 1) (o := 1) (v := .int .i64 d2) (by simp [go_sem]); clear hbx)
  have HB0 := BV
  generalize yx = v0 at *
  clear BV
  refine wp_region_st se0 (by kernel_rfl) [mpEq (.agg #[.slice A L cA, .int .i64 d1]), mpCF L xs d1, mpEq (.agg #[.slice A2 M cB, .int .i64 d2]), mpCF M ys d2, mpTC (0) (fun _ => 0) (0) (F), mpTC (0) (fun _ => 0) (0) (F), mpCZ (0) (fun _ => 0) (0), mpTop, mpF0 v0.heap.size, mpTop, mpTop] [(fun _ => True), (fun _ => True), (fun _ => True), (fun _ => True), tcV (0) (0) (F), tcV (0) (0) (F), (fun _ => True), (· = .int .i64 (F)), (fun _ => True), (fun _ => True), (· = .int .i64 (F))] (mpVC v0.heap.size (0) (fun _ => 0) (0)) 9 8 7 (by kernel_rfl) (by kernel_rfl) (by kernel_rfl) (by kernel_rfl) rfl (
        allOps_cons (rs_not (by kernel_rfl) (fun a' w' hb hs hd hp => rs_op fun K hK => by
      have e1 := (hs.get 3 (by kernel_rfl)).trans (show _ = Value.pointer (some ⟨w.heap.size, 0, none⟩) from rfl)
      have c0 := keep hb l0
      have c1 := keep hb l1
      clear hs hd hp
      unfold Oper.wp
      generalize a'.eval = ρ at e1 ⊢
      simp [go_sem, e1, c0, c1]
      exact hK _ _ (Below.refl _ _) rfl trivial)) <|
        allOps_cons (rs_not (by kernel_rfl) (fun a' w' hb hs hd hp => by
      exact rs_fn (φ := (mpCF L xs d1).p) (ψ := (fun _ => True)) (vs := #[.agg #[.slice A L cA, .int .i64 d1]]) rfl (enters_of Try.func58 (by kernel_rfl) rfl) (by simp [(show a'.eval (.tmp 27) = .agg #[.slice A L cA, .int .i64 d1] from RDeps.get (hd (by kernel_rfl)) 0 27 (by kernel_rfl) (by kernel_rfl))]) ((HCF.out w' (belowT HB0.out hb)).mono (by rintro e w1 ⟨A', c', rfl, h1, h2, _⟩; exact ⟨_, rfl, h1, ⟨A', c', rfl, h2⟩, trivial⟩)))) <|
        allOps_cons (rs_not (by kernel_rfl) (fun a' w' hb hs hd hp => rs_op fun K hK => by
      have e1 := (hs.get 4 (by kernel_rfl)).trans (show _ = Value.pointer (some ⟨w.heap.size + 1, 0, none⟩) from rfl)
      have c0 := keep hb m0
      have c1 := keep hb m1
      clear hs hd hp
      unfold Oper.wp
      generalize a'.eval = ρ at e1 ⊢
      simp [go_sem, e1, c0, c1]
      exact hK _ _ (Below.refl _ _) rfl trivial)) <|
        allOps_cons (rs_not (by kernel_rfl) (fun a' w' hb hs hd hp => by
      exact rs_fn (φ := (mpCF M ys d2).p) (ψ := (fun _ => True)) (vs := #[.agg #[.slice A2 M cB, .int .i64 d2]]) rfl (enters_of Try.func58 (by kernel_rfl) rfl) (by simp [(show a'.eval (.tmp 29) = .agg #[.slice A2 M cB, .int .i64 d2] from RDeps.get (hd (by kernel_rfl)) 2 29 (by kernel_rfl) (by kernel_rfl))]) ((HCG.out w' (belowT HB0.out hb)).mono (by rintro e w1 ⟨A', c', rfl, h1, h2, _⟩; exact ⟨_, rfl, h1, ⟨A', c', rfl, h2⟩, trivial⟩)))) <|
        allOps_cons (rs_not (by kernel_rfl) (fun a' w' hb hs hd hp => by
      obtain ⟨X1, c1, e1, k1⟩ := (show (mpCF L xs d1).p (a'.eval (.tmp 28)) w' from RDeps.get (hd (by kernel_rfl)) 1 28 (by kernel_rfl) (by kernel_rfl))
      obtain ⟨X2, c2, e2, k2⟩ := (show (mpCF M ys d2).p (a'.eval (.tmp 30)) w' from RDeps.get (hd (by kernel_rfl)) 3 30 (by kernel_rfl) (by kernel_rfl))
      exact rs_fn (φ := (mpTC (0) (fun _ => 0) (0) (F)).p) (ψ := tcV (0) (0) (F)) (vs := #[.agg #[.slice X1 L c1, .int .i64 d1], .agg #[.slice X2 M c2, .int .i64 d2]]) rfl (enters_of Try.func64 (by kernel_rfl) rfl) (by simp [e1, e2]) ((HCO.out X1 c1 X2 c2 w' k1 k2).mono (by rintro e w1 ⟨A', c', rfl, h1, h2⟩; exact ⟨_, rfl, h1, ⟨A', c', rfl, h2⟩, A', c', rfl⟩)))) <|
        allOps_cons (rs_not (by kernel_rfl) (fun a' w' hb hs hd hp => rs_op fun K hK => by
      obtain ⟨At, ct, e0, ht⟩ := (show (mpTC (0) (fun _ => 0) (0) (F)).p (a'.eval (.tmp 31)) w' from RDeps.get (hd (by kernel_rfl)) 4 31 (by kernel_rfl) (by kernel_rfl))
      clear hs hd hp
      unfold Oper.wp
      generalize a'.eval = ρ at e0 ⊢
      simp [go_sem, e0]
      exact hK _ _ (Below.refl _ _) ⟨At, ct, rfl, ht⟩ ⟨At, ct, rfl⟩)) <|
        allOps_cons (rs_not (by kernel_rfl) (fun a' w' hb hs hd hp => rs_op fun K hK => by
      obtain ⟨At, ct, e0, ht⟩ := (show (mpTC (0) (fun _ => 0) (0) (F)).p (a'.eval (.tmp 26)) w' from RDeps.get (hd (by kernel_rfl)) 5 26 (by kernel_rfl) (by kernel_rfl))
      clear hs hd hp
      unfold Oper.wp
      generalize a'.eval = ρ at e0 ⊢
      simp [go_sem, e0]
      exact hK _ _ (Below.refl _ _) ⟨At, ct, rfl, ht⟩ trivial)) <|
        allOps_cons (rs_not (by kernel_rfl) (fun a' w' hb hs hd hp => rs_op fun K hK => by
      obtain ⟨At, ct, e0⟩ := (show tcV (0) (0) (F) (a'.eval (.tmp 26)) from hp.get 5 26 (by kernel_rfl) (by kernel_rfl))
      clear hs hd hp
      unfold Oper.wp
      generalize a'.eval = ρ at e0 ⊢
      simp [go_sem, e0]
      exact hK _ _ (Below.refl _ _) trivial rfl)) <|
        allOps_cons (rs_not (by kernel_rfl) (fun a' w' hb hs hd hp => rs_op fun K hK => by
      have hz := hb.size
      clear hs hd hp
      unfold Oper.wp
      generalize a'.eval = ρ
      simp [go_sem]
      exact hK _ _ ((Below.refl _ _).alloc (Nat.le_refl _) _) ⟨_, rfl, hz, ⟨by simp [go_sem], by simp [go_sem]⟩, by simp [go_sem], by simp [go_sem]⟩ trivial)) <|
        allOps_cons (rs_is (by kernel_rfl) (fun a' w' hb hs hd => rs_st rfl fun K hK => by
      obtain ⟨q7, e1, zq, ⟨c0, c1⟩, f0, f1⟩ := (show (mpF0 v0.heap.size).p (a'.eval (.tmp 7)) w' from hd.get 8 7 (by kernel_rfl) (by kernel_rfl))
      obtain ⟨At, ct, e2, ht⟩ := (show (mpCZ (0) (fun _ => 0) (0)).p (a'.eval (.tmp 32)) w' from hd.get 6 32 (by kernel_rfl) (by kernel_rfl))
      have hne : ∀ b, At = some ⟨b, 0, none⟩ → 0 < (0) → b ≠ q7 := fun b e hn he => by
        obtain ⟨b2, e3, hc⟩ := ht hn
        rw [e] at e3
        cases e3
        rw [he] at hc
        have := (hc 0 hn).symm.trans c0
        simp at this
      have hz := lt_of c0
      clear hs hd
      unfold Oper.wp
      generalize a'.eval = ρ at e1 e2 hK ⊢
      simp [go_sem, e1, e2, c0, c1, f0, f1]
      exact hK _ (Below.setCell (Below.setCell hb zq _) zq _) ⟨q7, At, ct, e1, zq, by simp [go_sem, c0], by simp [go_sem, c1], (ht.set hne).set hne⟩)) <|
        allOps_cons (rs_not (by kernel_rfl) (fun a' w' hb hs hd hp => rs_op fun K hK => by
      have e1 := (show a'.eval (.tmp 33) = .int .i64 (F) from hp.get 7 33 (by kernel_rfl) (by kernel_rfl))
      clear hs hd hp
      unfold Oper.wp
      generalize a'.eval = ρ at e1 ⊢
      simp [go_sem, e1]
      exact hK _ _ (Below.refl _ _) trivial rfl)) <| allOps_nil) (fun V v1 hv1 hall hv => ?_)
  have h8 : V 8 = .int .i64 (F) := hall.get 10 rfl (by decide)
  obtain ⟨q7, A7, c7, h7, hBq, g0, g1, hZ⟩ := hv
  clear hall
  simp only [se0, maskPut, Nat.reduceAdd]
  rw [h7, h8]
  clear h7 h8 hBq
  have BV := Lib.hid (belowT HB0.out hv1)
  have T7 := Lib.hid hZ
  replace l0 := keep hv1 l0
  replace l1 := keep hv1 l1
  replace m0 := keep hv1 m0
  replace m1 := keep hv1 m1
  clear hv1 hZ HB0 HCO HCG
  go_upto_region 7 with (first
    | (go_at_call 58; (with_reducible refine Calls.mono (HCF.out _ BV.out) ?_); rintro e yx ⟨AF, cF, rfl, hbx, hIF, _⟩; (try replace l0 := keep hbx l0); (try replace l1 := keep hbx l1); (try replace m0 := keep hbx m0); (try replace m1 := keep hbx m1); (try replace g0 := keep hbx g0); (try replace g1 := keep hbx g1); (try replace p0 := keep hbx p0); (try replace p1 := keep hbx p1); (try replace r0 := keep hbx r0); (try replace r1 := keep hbx r1); (try replace T1 := Lib.hid (T1.out.bel hbx)); (try replace T7 := Lib.hid (T7.out.on hbx)); (try replace TW := Lib.hid (TW.out.bel hbx)); (first | replace BV := Lib.hid (belowT (show Below w.heap.size w _ by have Bq := BV.out; have Bz := Bq.size; (repeat (first | with_reducible exact Below.refl _ _ | with_reducible assumption | with_reducible refine Below.alloc ?_ (by first | (simp; done) | (simp; omega) | omega) _ | with_reducible refine Below.setCell ?_ (by first | (simp; done) | (simp; omega) | omega) _ | with_reducible refine Below.drew ?_ | with_reducible refine below_drewN ?_ _))) hbx) | have BV := Lib.hid (belowT (show Below w.heap.size w _ by (repeat (first | with_reducible exact Below.refl _ _ | with_reducible assumption | with_reducible refine Below.alloc ?_ (by first | (simp; done) | (simp; omega) | omega) _ | with_reducible refine Below.setCell ?_ (by first | (simp; done) | (simp; omega) | omega) _ | with_reducible refine Below.drew ?_ | with_reducible refine below_drewN ?_ _))) hbx)); have T1 := Lib.hid hIF; clear hIF; clear hbx)
    | (go_at_call 65; (with_reducible refine Calls.mono (HRA.out _ _ _ T1.out) ?_); rintro e yx ⟨rfl, hbx⟩; (try replace l0 := keep hbx l0); (try replace l1 := keep hbx l1); (try replace m0 := keep hbx m0); (try replace m1 := keep hbx m1); (try replace g0 := keep hbx g0); (try replace g1 := keep hbx g1); (try replace p0 := keep hbx p0); (try replace p1 := keep hbx p1); (try replace r0 := keep hbx r0); (try replace r1 := keep hbx r1); (try replace T1 := Lib.hid (T1.out.bel hbx)); (try replace T7 := Lib.hid (T7.out.on hbx)); (try replace TW := Lib.hid (TW.out.bel hbx)); (first | replace BV := Lib.hid (belowT (show Below w.heap.size w _ by have Bq := BV.out; have Bz := Bq.size; (repeat (first | with_reducible exact Below.refl _ _ | with_reducible assumption | with_reducible refine Below.alloc ?_ (by first | (simp; done) | (simp; omega) | omega) _ | with_reducible refine Below.setCell ?_ (by first | (simp; done) | (simp; omega) | omega) _ | with_reducible refine Below.drew ?_ | with_reducible refine below_drewN ?_ _))) hbx) | have BV := Lib.hid (belowT (show Below w.heap.size w _ by (repeat (first | with_reducible exact Below.refl _ _ | with_reducible assumption | with_reducible refine Below.alloc ?_ (by first | (simp; done) | (simp; omega) | omega) _ | with_reducible refine Below.setCell ?_ (by first | (simp; done) | (simp; omega) | omega) _ | with_reducible refine Below.drew ?_ | with_reducible refine below_drewN ?_ _))) hbx)); clear hbx))
  obtain ⟨b9, hb9⟩ : ∃ b9, yx.heap.size = b9 := ⟨_, rfl⟩
  have hvv : Below yx.heap.size yx (yx.alloc (.cells #[.int .i64 0, .int .i64 0] 23)) := (Below.refl _ _).alloc (Nat.le_refl _) _
  have p0 : (yx.alloc (.cells #[.int .i64 0, .int .i64 0] 23)).cell? ⟨b9, 0, none⟩ = some (.int .i64 0) := by rw [← hb9]; simp [go_sem]
  have p1 : (yx.alloc (.cells #[.int .i64 0, .int .i64 0] 23)).cell? ⟨b9, 1, none⟩ = some (.int .i64 0) := by rw [← hb9]; simp [go_sem]
  replace l0 := keep hvv l0
  replace l1 := keep hvv l1
  replace m0 := keep hvv m0
  replace m1 := keep hvv m1
  replace g0 := keep hvv g0
  replace g1 := keep hvv g1
  replace T7 := Lib.hid (T7.out.on hvv)
  replace BV := Lib.hid (belowT BV.out hvv)
  clear hvv
  generalize (yx.alloc (.cells #[.int .i64 0, .int .i64 0] 23)) = v2 at *
  rw [hb9]
  clear hb9
  go_wp2_with (first
    | (go_at_call 60; (with_reducible refine Calls.mono (HFE.out _ BV.out) ?_); rintro e yx ⟨rfl, hbx⟩; (try replace l0 := keep hbx l0); (try replace l1 := keep hbx l1); (try replace m0 := keep hbx m0); (try replace m1 := keep hbx m1); (try replace g0 := keep hbx g0); (try replace g1 := keep hbx g1); (try replace p0 := keep hbx p0); (try replace p1 := keep hbx p1); (try replace r0 := keep hbx r0); (try replace r1 := keep hbx r1); (try replace T1 := Lib.hid (T1.out.bel hbx)); (try replace T7 := Lib.hid (T7.out.on hbx)); (try replace TW := Lib.hid (TW.out.bel hbx)); (first | replace BV := Lib.hid (belowT (show Below w.heap.size w _ by have Bq := BV.out; have Bz := Bq.size; (repeat (first | with_reducible exact Below.refl _ _ | with_reducible assumption | with_reducible refine Below.alloc ?_ (by first | (simp; done) | (simp; omega) | omega) _ | with_reducible refine Below.setCell ?_ (by first | (simp; done) | (simp; omega) | omega) _ | with_reducible refine Below.drew ?_ | with_reducible refine below_drewN ?_ _))) hbx) | have BV := Lib.hid (belowT (show Below w.heap.size w _ by (repeat (first | with_reducible exact Below.refl _ _ | with_reducible assumption | with_reducible refine Below.alloc ?_ (by first | (simp; done) | (simp; omega) | omega) _ | with_reducible refine Below.setCell ?_ (by first | (simp; done) | (simp; omega) | omega) _ | with_reducible refine Below.drew ?_ | with_reducible refine below_drewN ?_ _))) hbx)); clear hbx)
    | (go_at_call 66; (with_reducible refine Calls.mono (HSF.out _ _ _ T7.out.ia) ?_); rintro e yx ⟨rfl, hbx⟩; (try replace l0 := keep hbx l0); (try replace l1 := keep hbx l1); (try replace m0 := keep hbx m0); (try replace m1 := keep hbx m1); (try replace g0 := keep hbx g0); (try replace g1 := keep hbx g1); (try replace p0 := keep hbx p0); (try replace p1 := keep hbx p1); (try replace r0 := keep hbx r0); (try replace r1 := keep hbx r1); (try replace T1 := Lib.hid (T1.out.bel hbx)); (try replace T7 := Lib.hid (T7.out.on hbx)); (try replace TW := Lib.hid (TW.out.bel hbx)); (first | replace BV := Lib.hid (belowT (show Below w.heap.size w _ by have Bq := BV.out; have Bz := Bq.size; (repeat (first | with_reducible exact Below.refl _ _ | with_reducible assumption | with_reducible refine Below.alloc ?_ (by first | (simp; done) | (simp; omega) | omega) _ | with_reducible refine Below.setCell ?_ (by first | (simp; done) | (simp; omega) | omega) _ | with_reducible refine Below.drew ?_ | with_reducible refine below_drewN ?_ _))) hbx) | have BV := Lib.hid (belowT (show Below w.heap.size w _ by (repeat (first | with_reducible exact Below.refl _ _ | with_reducible assumption | with_reducible refine Below.alloc ?_ (by first | (simp; done) | (simp; omega) | omega) _ | with_reducible refine Below.setCell ?_ (by first | (simp; done) | (simp; omega) | omega) _ | with_reducible refine Below.drew ?_ | with_reducible refine below_drewN ?_ _))) hbx)); clear hbx))
  go_ret
  exact ⟨rfl, BV.out⟩
set_option maxRecDepth 100000 in
set_option maxHeartbeats 4000000 in
theorem sc_qG (A A2 : Option Addr) (L cA M cB : Nat) (xs ys : Nat → Int) (d1 d2 q : Int) (G : Int) (G0 : G ≠ 0) (w : World) (hL : L ≤ 10) (hM : M ≤ 10) (hF : flE L xs d1 = 0) (hQ : rgE q 0 3 = 2) (hG : flE M ys d2 = G) (hI : IS w (.slice A L cA) L xs) (hJ : IS w (.slice A2 M cB) M ys) :
    Calls Try.prog 10 #[.agg #[.slice A L cA, .int .i64 d1], .agg #[.slice A2 M cB, .int .i64 d2], .int .i64 q] w fun e w' => e = .returned (.bool true) ∧ Below w.heap.size w w' := by
  have hL2 : ¬ (L : Int) > 10 := by omega
  have hM2 : ¬ (M : Int) > 10 := by omega
  have hA : IA w A L xs := by obtain ⟨A', c', e, h, _⟩ := hI; cases e; exact h
  have hB : IA w A2 M ys := by obtain ⟨A', c', e, h, _⟩ := hJ; cases e; exact h
  have HCF := Lib.hid (fun W (hW : Below w.heap.size w W) => copyFilter_any A L cA xs d1 W (by omega) (hI.on hW))
  have HCG := Lib.hid (fun W (hW : Below w.heap.size w W) => copyFilter_any A2 M cB ys d2 W (by omega) (hJ.on hW))
  have HFE := Lib.hid (fun W (hW : Below w.heap.size w W) => filterErr_any A L cA xs d1 W (by omega) (hA.bel hW))
  rw [hF] at HFE
  have HFG := Lib.hid (fun W (hW : Below w.heap.size w W) => filterErr_any A2 M cB ys d2 W (by omega) (hB.bel hW))
  rw [hG] at HFG
  have HQE := Lib.hid (fun W => quarterR_any q W)
  rw [hQ] at HQE
  have HRA := Lib.hid (fun A1 c1 W (h : IA W A1 L xs) => responseAt_err A1 L c1 xs d1 q (2) (by rw [hF, hQ]; rfl) (by decide) W (by omega) h)
  have HCO := Lib.hid (fun A1 c1 A3 c3 W (h1 : IA W A1 L xs) (h2 : IA W A3 M ys) => composedS_e A1 A3 L c1 M c3 xs ys (fun _ => 0) d1 d2 (G) (Or.inl ⟨by unfold coE fs2; rw [hF, if_pos rfl]; exact hG, G0⟩) hL hM W h1 h2)
  have HSF := Lib.hid (fun A1 c1 W (h1 : IA W A1 0 (fun _ => 0)) => sameFilter_any A1 none 0 c1 0 (fun _ => 0) 0 W (by omega) h1 (fun h => absurd h (by omega)))
  have x1 : (G == 0) = false := by simpa using G0
  have x2 : (G != 0) = true := by simpa using G0
  clear G0
  clear hA hB hI hJ hF hQ hG
  go_enter Try.func10, Try.ntmps10
  go_upto_region 5 with (go_at_call 17; (with_reducible refine Calls.mono (awake_any _) ?_); rintro e yx ⟨rfl, hbx⟩; (try replace l0 := keep hbx l0); (try replace l1 := keep hbx l1); (try replace m0 := keep hbx m0); (try replace m1 := keep hbx m1); (try replace g0 := keep hbx g0); (try replace g1 := keep hbx g1); (try replace p0 := keep hbx p0); (try replace p1 := keep hbx p1); (try replace r0 := keep hbx r0); (try replace r1 := keep hbx r1); (try replace T1 := Lib.hid (T1.out.bel hbx)); (try replace T7 := Lib.hid (T7.out.on hbx)); (try replace TW := Lib.hid (TW.out.bel hbx)); (first | replace BV := Lib.hid (belowT (show Below w.heap.size w _ by have Bq := BV.out; have Bz := Bq.size; (repeat (first | with_reducible exact Below.refl _ _ | with_reducible assumption | with_reducible refine Below.alloc ?_ (by first | (simp; done) | (simp; omega) | omega) _ | with_reducible refine Below.setCell ?_ (by first | (simp; done) | (simp; omega) | omega) _ | with_reducible refine Below.drew ?_ | with_reducible refine below_drewN ?_ _))) hbx) | have BV := Lib.hid (belowT (show Below w.heap.size w _ by (repeat (first | with_reducible exact Below.refl _ _ | with_reducible assumption | with_reducible refine Below.alloc ?_ (by first | (simp; done) | (simp; omega) | omega) _ | with_reducible refine Below.setCell ?_ (by first | (simp; done) | (simp; omega) | omega) _ | with_reducible refine Below.drew ?_ | with_reducible refine below_drewN ?_ _))) hbx)); have l0 := keep hbx (b := w.heap.size) (o := 0) (v := .slice A L cA) (by simp [go_sem]); have l1 := keep hbx (b := w.heap.size) (o := 1) (v := .int .i64 d1) (by simp [go_sem]); have m0 := keep hbx (b := w.heap.size + 1) (o := 0) (v := .slice A2 M cB) (by simp [go_sem]); have m1 := keep hbx (b := w.heap.size + 1) (o := 1) (v := .int .i64 d2) (by simp [go_sem]); clear hbx)
  have HB0 := BV
  generalize yx = v0 at *
  clear BV
  refine wp_region_st se0 (by kernel_rfl) [mpEq (.agg #[.slice A L cA, .int .i64 d1]), mpCF L xs d1, mpEq (.agg #[.slice A2 M cB, .int .i64 d2]), mpCF M ys d2, mpTC (0) (fun _ => 0) (0) (G), mpTC (0) (fun _ => 0) (0) (G), mpCZ (0) (fun _ => 0) (0), mpTop, mpF0 v0.heap.size, mpTop, mpTop] [(fun _ => True), (fun _ => True), (fun _ => True), (fun _ => True), tcV (0) (0) (G), tcV (0) (0) (G), (fun _ => True), (· = .int .i64 (G)), (fun _ => True), (fun _ => True), (· = .int .i64 (G))] (mpVC v0.heap.size (0) (fun _ => 0) (0)) 9 8 7 (by kernel_rfl) (by kernel_rfl) (by kernel_rfl) (by kernel_rfl) rfl (
        allOps_cons (rs_not (by kernel_rfl) (fun a' w' hb hs hd hp => rs_op fun K hK => by
      have e1 := (hs.get 3 (by kernel_rfl)).trans (show _ = Value.pointer (some ⟨w.heap.size, 0, none⟩) from rfl)
      have c0 := keep hb l0
      have c1 := keep hb l1
      clear hs hd hp
      unfold Oper.wp
      generalize a'.eval = ρ at e1 ⊢
      simp [go_sem, e1, c0, c1]
      exact hK _ _ (Below.refl _ _) rfl trivial)) <|
        allOps_cons (rs_not (by kernel_rfl) (fun a' w' hb hs hd hp => by
      exact rs_fn (φ := (mpCF L xs d1).p) (ψ := (fun _ => True)) (vs := #[.agg #[.slice A L cA, .int .i64 d1]]) rfl (enters_of Try.func58 (by kernel_rfl) rfl) (by simp [(show a'.eval (.tmp 27) = .agg #[.slice A L cA, .int .i64 d1] from RDeps.get (hd (by kernel_rfl)) 0 27 (by kernel_rfl) (by kernel_rfl))]) ((HCF.out w' (belowT HB0.out hb)).mono (by rintro e w1 ⟨A', c', rfl, h1, h2, _⟩; exact ⟨_, rfl, h1, ⟨A', c', rfl, h2⟩, trivial⟩)))) <|
        allOps_cons (rs_not (by kernel_rfl) (fun a' w' hb hs hd hp => rs_op fun K hK => by
      have e1 := (hs.get 4 (by kernel_rfl)).trans (show _ = Value.pointer (some ⟨w.heap.size + 1, 0, none⟩) from rfl)
      have c0 := keep hb m0
      have c1 := keep hb m1
      clear hs hd hp
      unfold Oper.wp
      generalize a'.eval = ρ at e1 ⊢
      simp [go_sem, e1, c0, c1]
      exact hK _ _ (Below.refl _ _) rfl trivial)) <|
        allOps_cons (rs_not (by kernel_rfl) (fun a' w' hb hs hd hp => by
      exact rs_fn (φ := (mpCF M ys d2).p) (ψ := (fun _ => True)) (vs := #[.agg #[.slice A2 M cB, .int .i64 d2]]) rfl (enters_of Try.func58 (by kernel_rfl) rfl) (by simp [(show a'.eval (.tmp 29) = .agg #[.slice A2 M cB, .int .i64 d2] from RDeps.get (hd (by kernel_rfl)) 2 29 (by kernel_rfl) (by kernel_rfl))]) ((HCG.out w' (belowT HB0.out hb)).mono (by rintro e w1 ⟨A', c', rfl, h1, h2, _⟩; exact ⟨_, rfl, h1, ⟨A', c', rfl, h2⟩, trivial⟩)))) <|
        allOps_cons (rs_not (by kernel_rfl) (fun a' w' hb hs hd hp => by
      obtain ⟨X1, c1, e1, k1⟩ := (show (mpCF L xs d1).p (a'.eval (.tmp 28)) w' from RDeps.get (hd (by kernel_rfl)) 1 28 (by kernel_rfl) (by kernel_rfl))
      obtain ⟨X2, c2, e2, k2⟩ := (show (mpCF M ys d2).p (a'.eval (.tmp 30)) w' from RDeps.get (hd (by kernel_rfl)) 3 30 (by kernel_rfl) (by kernel_rfl))
      exact rs_fn (φ := (mpTC (0) (fun _ => 0) (0) (G)).p) (ψ := tcV (0) (0) (G)) (vs := #[.agg #[.slice X1 L c1, .int .i64 d1], .agg #[.slice X2 M c2, .int .i64 d2]]) rfl (enters_of Try.func64 (by kernel_rfl) rfl) (by simp [e1, e2]) ((HCO.out X1 c1 X2 c2 w' k1 k2).mono (by rintro e w1 ⟨A', c', rfl, h1, h2⟩; exact ⟨_, rfl, h1, ⟨A', c', rfl, h2⟩, A', c', rfl⟩)))) <|
        allOps_cons (rs_not (by kernel_rfl) (fun a' w' hb hs hd hp => rs_op fun K hK => by
      obtain ⟨At, ct, e0, ht⟩ := (show (mpTC (0) (fun _ => 0) (0) (G)).p (a'.eval (.tmp 31)) w' from RDeps.get (hd (by kernel_rfl)) 4 31 (by kernel_rfl) (by kernel_rfl))
      clear hs hd hp
      unfold Oper.wp
      generalize a'.eval = ρ at e0 ⊢
      simp [go_sem, e0]
      exact hK _ _ (Below.refl _ _) ⟨At, ct, rfl, ht⟩ ⟨At, ct, rfl⟩)) <|
        allOps_cons (rs_not (by kernel_rfl) (fun a' w' hb hs hd hp => rs_op fun K hK => by
      obtain ⟨At, ct, e0, ht⟩ := (show (mpTC (0) (fun _ => 0) (0) (G)).p (a'.eval (.tmp 26)) w' from RDeps.get (hd (by kernel_rfl)) 5 26 (by kernel_rfl) (by kernel_rfl))
      clear hs hd hp
      unfold Oper.wp
      generalize a'.eval = ρ at e0 ⊢
      simp [go_sem, e0]
      exact hK _ _ (Below.refl _ _) ⟨At, ct, rfl, ht⟩ trivial)) <|
        allOps_cons (rs_not (by kernel_rfl) (fun a' w' hb hs hd hp => rs_op fun K hK => by
      obtain ⟨At, ct, e0⟩ := (show tcV (0) (0) (G) (a'.eval (.tmp 26)) from hp.get 5 26 (by kernel_rfl) (by kernel_rfl))
      clear hs hd hp
      unfold Oper.wp
      generalize a'.eval = ρ at e0 ⊢
      simp [go_sem, e0]
      exact hK _ _ (Below.refl _ _) trivial rfl)) <|
        allOps_cons (rs_not (by kernel_rfl) (fun a' w' hb hs hd hp => rs_op fun K hK => by
      have hz := hb.size
      clear hs hd hp
      unfold Oper.wp
      generalize a'.eval = ρ
      simp [go_sem]
      exact hK _ _ ((Below.refl _ _).alloc (Nat.le_refl _) _) ⟨_, rfl, hz, ⟨by simp [go_sem], by simp [go_sem]⟩, by simp [go_sem], by simp [go_sem]⟩ trivial)) <|
        allOps_cons (rs_is (by kernel_rfl) (fun a' w' hb hs hd => rs_st rfl fun K hK => by
      obtain ⟨q7, e1, zq, ⟨c0, c1⟩, f0, f1⟩ := (show (mpF0 v0.heap.size).p (a'.eval (.tmp 7)) w' from hd.get 8 7 (by kernel_rfl) (by kernel_rfl))
      obtain ⟨At, ct, e2, ht⟩ := (show (mpCZ (0) (fun _ => 0) (0)).p (a'.eval (.tmp 32)) w' from hd.get 6 32 (by kernel_rfl) (by kernel_rfl))
      have hne : ∀ b, At = some ⟨b, 0, none⟩ → 0 < (0) → b ≠ q7 := fun b e hn he => by
        obtain ⟨b2, e3, hc⟩ := ht hn
        rw [e] at e3
        cases e3
        rw [he] at hc
        have := (hc 0 hn).symm.trans c0
        simp at this
      have hz := lt_of c0
      clear hs hd
      unfold Oper.wp
      generalize a'.eval = ρ at e1 e2 hK ⊢
      simp [go_sem, e1, e2, c0, c1, f0, f1]
      exact hK _ (Below.setCell (Below.setCell hb zq _) zq _) ⟨q7, At, ct, e1, zq, by simp [go_sem, c0], by simp [go_sem, c1], (ht.set hne).set hne⟩)) <|
        allOps_cons (rs_not (by kernel_rfl) (fun a' w' hb hs hd hp => rs_op fun K hK => by
      have e1 := (show a'.eval (.tmp 33) = .int .i64 (G) from hp.get 7 33 (by kernel_rfl) (by kernel_rfl))
      clear hs hd hp
      unfold Oper.wp
      generalize a'.eval = ρ at e1 ⊢
      simp [go_sem, e1]
      exact hK _ _ (Below.refl _ _) trivial rfl)) <| allOps_nil) (fun V v1 hv1 hall hv => ?_)
  have h8 : V 8 = .int .i64 (G) := hall.get 10 rfl (by decide)
  obtain ⟨q7, A7, c7, h7, hBq, g0, g1, hZ⟩ := hv
  clear hall
  simp only [se0, maskPut, Nat.reduceAdd]
  rw [h7, h8]
  clear h7 h8 hBq
  have BV := Lib.hid (belowT HB0.out hv1)
  have T7 := Lib.hid hZ
  replace l0 := keep hv1 l0
  replace l1 := keep hv1 l1
  replace m0 := keep hv1 m0
  replace m1 := keep hv1 m1
  clear hv1 hZ HB0 HCO HCG
  go_upto_region 7 with (first
    | (go_at_call 58; (with_reducible refine Calls.mono (HCF.out _ BV.out) ?_); rintro e yx ⟨AF, cF, rfl, hbx, hIF, _⟩; (try replace l0 := keep hbx l0); (try replace l1 := keep hbx l1); (try replace m0 := keep hbx m0); (try replace m1 := keep hbx m1); (try replace g0 := keep hbx g0); (try replace g1 := keep hbx g1); (try replace p0 := keep hbx p0); (try replace p1 := keep hbx p1); (try replace r0 := keep hbx r0); (try replace r1 := keep hbx r1); (try replace T1 := Lib.hid (T1.out.bel hbx)); (try replace T7 := Lib.hid (T7.out.on hbx)); (try replace TW := Lib.hid (TW.out.bel hbx)); (first | replace BV := Lib.hid (belowT (show Below w.heap.size w _ by have Bq := BV.out; have Bz := Bq.size; (repeat (first | with_reducible exact Below.refl _ _ | with_reducible assumption | with_reducible refine Below.alloc ?_ (by first | (simp; done) | (simp; omega) | omega) _ | with_reducible refine Below.setCell ?_ (by first | (simp; done) | (simp; omega) | omega) _ | with_reducible refine Below.drew ?_ | with_reducible refine below_drewN ?_ _))) hbx) | have BV := Lib.hid (belowT (show Below w.heap.size w _ by (repeat (first | with_reducible exact Below.refl _ _ | with_reducible assumption | with_reducible refine Below.alloc ?_ (by first | (simp; done) | (simp; omega) | omega) _ | with_reducible refine Below.setCell ?_ (by first | (simp; done) | (simp; omega) | omega) _ | with_reducible refine Below.drew ?_ | with_reducible refine below_drewN ?_ _))) hbx)); have T1 := Lib.hid hIF; clear hIF; clear hbx)
    | (go_at_call 65; (with_reducible refine Calls.mono (HRA.out _ _ _ T1.out) ?_); rintro e yx ⟨rfl, hbx⟩; (try replace l0 := keep hbx l0); (try replace l1 := keep hbx l1); (try replace m0 := keep hbx m0); (try replace m1 := keep hbx m1); (try replace g0 := keep hbx g0); (try replace g1 := keep hbx g1); (try replace p0 := keep hbx p0); (try replace p1 := keep hbx p1); (try replace r0 := keep hbx r0); (try replace r1 := keep hbx r1); (try replace T1 := Lib.hid (T1.out.bel hbx)); (try replace T7 := Lib.hid (T7.out.on hbx)); (try replace TW := Lib.hid (TW.out.bel hbx)); (first | replace BV := Lib.hid (belowT (show Below w.heap.size w _ by have Bq := BV.out; have Bz := Bq.size; (repeat (first | with_reducible exact Below.refl _ _ | with_reducible assumption | with_reducible refine Below.alloc ?_ (by first | (simp; done) | (simp; omega) | omega) _ | with_reducible refine Below.setCell ?_ (by first | (simp; done) | (simp; omega) | omega) _ | with_reducible refine Below.drew ?_ | with_reducible refine below_drewN ?_ _))) hbx) | have BV := Lib.hid (belowT (show Below w.heap.size w _ by (repeat (first | with_reducible exact Below.refl _ _ | with_reducible assumption | with_reducible refine Below.alloc ?_ (by first | (simp; done) | (simp; omega) | omega) _ | with_reducible refine Below.setCell ?_ (by first | (simp; done) | (simp; omega) | omega) _ | with_reducible refine Below.drew ?_ | with_reducible refine below_drewN ?_ _))) hbx)); clear hbx))
  obtain ⟨b9, hb9⟩ : ∃ b9, yx.heap.size = b9 := ⟨_, rfl⟩
  have hvv : Below yx.heap.size yx (yx.alloc (.cells #[.int .i64 0, .int .i64 0] 23)) := (Below.refl _ _).alloc (Nat.le_refl _) _
  have p0 : (yx.alloc (.cells #[.int .i64 0, .int .i64 0] 23)).cell? ⟨b9, 0, none⟩ = some (.int .i64 0) := by rw [← hb9]; simp [go_sem]
  have p1 : (yx.alloc (.cells #[.int .i64 0, .int .i64 0] 23)).cell? ⟨b9, 1, none⟩ = some (.int .i64 0) := by rw [← hb9]; simp [go_sem]
  replace l0 := keep hvv l0
  replace l1 := keep hvv l1
  replace m0 := keep hvv m0
  replace m1 := keep hvv m1
  replace g0 := keep hvv g0
  replace g1 := keep hvv g1
  replace T7 := Lib.hid (T7.out.on hvv)
  replace BV := Lib.hid (belowT BV.out hvv)
  clear hvv
  generalize (yx.alloc (.cells #[.int .i64 0, .int .i64 0] 23)) = v2 at *
  rw [hb9]
  clear hb9
  go_upto_region 11 with (first
    | (go_at_call 60; (with_reducible refine Calls.mono (HFE.out _ BV.out) ?_); rintro e yx ⟨rfl, hbx⟩; (try replace l0 := keep hbx l0); (try replace l1 := keep hbx l1); (try replace m0 := keep hbx m0); (try replace m1 := keep hbx m1); (try replace g0 := keep hbx g0); (try replace g1 := keep hbx g1); (try replace p0 := keep hbx p0); (try replace p1 := keep hbx p1); (try replace r0 := keep hbx r0); (try replace r1 := keep hbx r1); (try replace T1 := Lib.hid (T1.out.bel hbx)); (try replace T7 := Lib.hid (T7.out.on hbx)); (try replace TW := Lib.hid (TW.out.bel hbx)); (first | replace BV := Lib.hid (belowT (show Below w.heap.size w _ by have Bq := BV.out; have Bz := Bq.size; (repeat (first | with_reducible exact Below.refl _ _ | with_reducible assumption | with_reducible refine Below.alloc ?_ (by first | (simp; done) | (simp; omega) | omega) _ | with_reducible refine Below.setCell ?_ (by first | (simp; done) | (simp; omega) | omega) _ | with_reducible refine Below.drew ?_ | with_reducible refine below_drewN ?_ _))) hbx) | have BV := Lib.hid (belowT (show Below w.heap.size w _ by (repeat (first | with_reducible exact Below.refl _ _ | with_reducible assumption | with_reducible refine Below.alloc ?_ (by first | (simp; done) | (simp; omega) | omega) _ | with_reducible refine Below.setCell ?_ (by first | (simp; done) | (simp; omega) | omega) _ | with_reducible refine Below.drew ?_ | with_reducible refine below_drewN ?_ _))) hbx)); clear hbx)
    | (go_at_call 67; (with_reducible refine Calls.mono (HQE.out _) ?_); rintro e yx ⟨rfl, hbx⟩; (try replace l0 := keep hbx l0); (try replace l1 := keep hbx l1); (try replace m0 := keep hbx m0); (try replace m1 := keep hbx m1); (try replace g0 := keep hbx g0); (try replace g1 := keep hbx g1); (try replace p0 := keep hbx p0); (try replace p1 := keep hbx p1); (try replace r0 := keep hbx r0); (try replace r1 := keep hbx r1); (try replace T1 := Lib.hid (T1.out.bel hbx)); (try replace T7 := Lib.hid (T7.out.on hbx)); (try replace TW := Lib.hid (TW.out.bel hbx)); (first | replace BV := Lib.hid (belowT (show Below w.heap.size w _ by have Bq := BV.out; have Bz := Bq.size; (repeat (first | with_reducible exact Below.refl _ _ | with_reducible assumption | with_reducible refine Below.alloc ?_ (by first | (simp; done) | (simp; omega) | omega) _ | with_reducible refine Below.setCell ?_ (by first | (simp; done) | (simp; omega) | omega) _ | with_reducible refine Below.drew ?_ | with_reducible refine below_drewN ?_ _))) hbx) | have BV := Lib.hid (belowT (show Below w.heap.size w _ by (repeat (first | with_reducible exact Below.refl _ _ | with_reducible assumption | with_reducible refine Below.alloc ?_ (by first | (simp; done) | (simp; omega) | omega) _ | with_reducible refine Below.setCell ?_ (by first | (simp; done) | (simp; omega) | omega) _ | with_reducible refine Below.drew ?_ | with_reducible refine below_drewN ?_ _))) hbx)); clear hbx))
  generalize yx = vx at *
  refine wp_region_gd [mpEq (.int .i64 2), mpEq (.bool true), mpEq (.bool true), mpEq (.int .i64 2), mpEq (.int .i64 2), mpEq (.bool false), mpEq (.bool false), mpEq (.agg #[.int .i64 0, .int .i64 0]), mpEq (.agg #[.int .i64 0, .int .i64 0]), mpEq (.bool false), mpEq (.bool false), mpEq (.bool false), mpEq (.bool false), mpEq (.int .i64 2), mpEq (.bool false), mpEq (.bool false), mpEq undef, mpEq undef, mpEq undef, mpEq undef, mpEq undef, mpEq undef, mpEq undef, mpEq undef, mpEq undef, mpEq (.bool false), mpEq (.bool false)] se1 (by kernel_rfl) (by kernel_rfl) (by kernel_rfl) (
        allOps_cons (fun a' w' hb hs hd => Or.inl ⟨wanted_n rfl, rg_op fun K hK => by
      have e0 := (hs.get 12 (by kernel_rfl)).trans (show _ = .int .i64 2 from rfl)
      have ec : ∀ v, a'.eval (.const v) = v := fun _ => rfl
      clear hs hd
      unfold Oper.wp
      generalize a'.eval = ρ at e0 ec ⊢
      simp [go_sem, e0]
      exact hK _ _ (Below.refl _ _) rfl⟩) <|
        allOps_cons (fun a' w' hb hs hd => Or.inl ⟨wanted_n rfl, rg_op fun K hK => by
      have e0 := (show a'.eval (.tmp 65) = .int .i64 2 from hd.get 0 65 (by kernel_rfl) (by kernel_rfl))
      have ec : ∀ v, a'.eval (.const v) = v := fun _ => rfl
      clear hs hd
      unfold Oper.wp
      generalize a'.eval = ρ at e0 ec ⊢
      simp [go_sem, e0, ec]
      exact hK _ _ (Below.refl _ _) rfl⟩) <|
        allOps_cons (fun a' w' hb hs hd => Or.inl ⟨wanted_n rfl, rg_op fun K hK => by
      have e0 := (show a'.eval (.tmp 66) = .bool true from hd.get 1 66 (by kernel_rfl) (by kernel_rfl))
      have ec : ∀ v, a'.eval (.const v) = v := fun _ => rfl
      clear hs hd
      unfold Oper.wp
      generalize a'.eval = ρ at e0 ec ⊢
      simp [go_sem, e0]
      exact hK _ _ (Below.refl _ _) rfl⟩) <|
        allOps_cons (fun a' w' hb hs hd => Or.inl ⟨wanted_t (j := 2) (d := 67) rfl (by kernel_rfl) (show a'.eval (.tmp 67) = .bool true from hd.get 2 67 (by kernel_rfl) (by kernel_rfl)), rg_op fun K hK => by
      have e0 := (hs.get 10 (by kernel_rfl)).trans (show _ = .int .i64 2 from rfl)
      have ec : ∀ v, a'.eval (.const v) = v := fun _ => rfl
      clear hs hd
      unfold Oper.wp
      generalize a'.eval = ρ at e0 ec ⊢
      simp [go_sem, e0]
      exact hK _ _ (Below.refl _ _) rfl⟩) <|
        allOps_cons (fun a' w' hb hs hd => Or.inl ⟨wanted_t (j := 2) (d := 67) rfl (by kernel_rfl) (show a'.eval (.tmp 67) = .bool true from hd.get 2 67 (by kernel_rfl) (by kernel_rfl)), rg_op fun K hK => by
      have e0 := (hs.get 12 (by kernel_rfl)).trans (show _ = .int .i64 2 from rfl)
      have ec : ∀ v, a'.eval (.const v) = v := fun _ => rfl
      clear hs hd
      unfold Oper.wp
      generalize a'.eval = ρ at e0 ec ⊢
      simp [go_sem, e0]
      exact hK _ _ (Below.refl _ _) rfl⟩) <|
        allOps_cons (fun a' w' hb hs hd => Or.inl ⟨wanted_t (j := 2) (d := 67) rfl (by kernel_rfl) (show a'.eval (.tmp 67) = .bool true from hd.get 2 67 (by kernel_rfl) (by kernel_rfl)), rg_op fun K hK => by
      have e0 := (show a'.eval (.tmp 68) = .int .i64 2 from hd.get 3 68 (by kernel_rfl) (by kernel_rfl))
      have e1 := (show a'.eval (.tmp 69) = .int .i64 2 from hd.get 4 69 (by kernel_rfl) (by kernel_rfl))
      have ec : ∀ v, a'.eval (.const v) = v := fun _ => rfl
      clear hs hd
      unfold Oper.wp
      generalize a'.eval = ρ at e0 e1 ec ⊢
      simp [go_sem, e0, e1]
      exact hK _ _ (Below.refl _ _) rfl⟩) <|
        allOps_cons (fun a' w' hb hs hd => Or.inl ⟨wanted_t (j := 2) (d := 67) rfl (by kernel_rfl) (show a'.eval (.tmp 67) = .bool true from hd.get 2 67 (by kernel_rfl) (by kernel_rfl)), rg_op fun K hK => by
      have e0 := (show a'.eval (.tmp 70) = .bool false from hd.get 5 70 (by kernel_rfl) (by kernel_rfl))
      have ec : ∀ v, a'.eval (.const v) = v := fun _ => rfl
      clear hs hd
      unfold Oper.wp
      generalize a'.eval = ρ at e0 ec ⊢
      simp [go_sem, e0]
      exact hK _ _ (Below.refl _ _) rfl⟩) <|
        allOps_cons (fun a' w' hb hs hd => Or.inl ⟨wanted_t (j := 6) (d := 71) rfl (by kernel_rfl) (show a'.eval (.tmp 71) = .bool false from hd.get 6 71 (by kernel_rfl) (by kernel_rfl)), rg_op fun K hK => by
      have e0 := (hs.get 9 (by kernel_rfl)).trans (show _ = .pointer (some ⟨b9, 0, none⟩) from rfl)
      have ec : ∀ v, a'.eval (.const v) = v := fun _ => rfl
      have c0 := keep hb p0
      have c1 := keep hb p1
      clear hs hd
      unfold Oper.wp
      generalize a'.eval = ρ at e0 ec ⊢
      simp [go_sem, e0, c0, c1]
      exact hK _ _ (Below.refl _ _) rfl⟩) <|
        allOps_cons (fun a' w' hb hs hd => Or.inl ⟨wanted_t (j := 6) (d := 71) rfl (by kernel_rfl) (show a'.eval (.tmp 71) = .bool false from hd.get 6 71 (by kernel_rfl) (by kernel_rfl)), rg_op fun K hK => by
      have ec : ∀ v, a'.eval (.const v) = v := fun _ => rfl
      clear hs hd
      unfold Oper.wp
      generalize a'.eval = ρ at ec ⊢
      simp [go_sem]
      exact hK _ _ (Below.refl _ _) rfl⟩) <|
        allOps_cons (fun a' w' hb hs hd => Or.inl ⟨wanted_t (j := 6) (d := 71) rfl (by kernel_rfl) (show a'.eval (.tmp 71) = .bool false from hd.get 6 71 (by kernel_rfl) (by kernel_rfl)), rg_op fun K hK => by
      have e0 := (show a'.eval (.tmp 72) = .agg #[.int .i64 0, .int .i64 0] from hd.get 7 72 (by kernel_rfl) (by kernel_rfl))
      have e1 := (show a'.eval (.tmp 73) = .agg #[.int .i64 0, .int .i64 0] from hd.get 8 73 (by kernel_rfl) (by kernel_rfl))
      have ec : ∀ v, a'.eval (.const v) = v := fun _ => rfl
      clear hs hd
      unfold Oper.wp
      generalize a'.eval = ρ at e0 e1 ec ⊢
      simp [go_sem, e0, e1]
      exact hK _ _ (Below.refl _ _) rfl⟩) <|
        allOps_cons (fun a' w' hb hs hd => Or.inl ⟨wanted_t (j := 2) (d := 67) rfl (by kernel_rfl) (show a'.eval (.tmp 67) = .bool true from hd.get 2 67 (by kernel_rfl) (by kernel_rfl)), rg_op fun K hK => by
      have e0 := (show a'.eval (.tmp 71) = .bool false from hd.get 6 71 (by kernel_rfl) (by kernel_rfl))
      have e1 := (show a'.eval (.tmp 74) = .bool false from hd.get 9 74 (by kernel_rfl) (by kernel_rfl))
      have ec : ∀ v, a'.eval (.const v) = v := fun _ => rfl
      clear hs hd
      unfold Oper.wp
      generalize a'.eval = ρ at e0 e1 ec ⊢
      simp [go_sem, e0, e1, ec]
      exact hK _ _ (Below.refl _ _) rfl⟩) <|
        allOps_cons (fun a' w' hb hs hd => Or.inl ⟨wanted_n rfl, rg_op fun K hK => by
      have e0 := (show a'.eval (.tmp 67) = .bool true from hd.get 2 67 (by kernel_rfl) (by kernel_rfl))
      have e1 := (show a'.eval (.tmp 75) = .bool false from hd.get 10 75 (by kernel_rfl) (by kernel_rfl))
      have ec : ∀ v, a'.eval (.const v) = v := fun _ => rfl
      clear hs hd
      unfold Oper.wp
      generalize a'.eval = ρ at e0 e1 ec ⊢
      simp [go_sem, e0, e1, ec]
      exact hK _ _ (Below.refl _ _) rfl⟩) <|
        allOps_cons (fun a' w' hb hs hd => Or.inl ⟨wanted_n rfl, rg_op fun K hK => by
      have e0 := (show a'.eval (.tmp 76) = .bool false from hd.get 11 76 (by kernel_rfl) (by kernel_rfl))
      have ec : ∀ v, a'.eval (.const v) = v := fun _ => rfl
      clear hs hd
      unfold Oper.wp
      generalize a'.eval = ρ at e0 ec ⊢
      simp [go_sem, e0]
      exact hK _ _ (Below.refl _ _) rfl⟩) <|
        allOps_cons (fun a' w' hb hs hd => Or.inl ⟨wanted_t (j := 12) (d := 77) rfl (by kernel_rfl) (show a'.eval (.tmp 77) = .bool false from hd.get 12 77 (by kernel_rfl) (by kernel_rfl)), rg_op fun K hK => by
      have e0 := (hs.get 12 (by kernel_rfl)).trans (show _ = .int .i64 2 from rfl)
      have ec : ∀ v, a'.eval (.const v) = v := fun _ => rfl
      clear hs hd
      unfold Oper.wp
      generalize a'.eval = ρ at e0 ec ⊢
      simp [go_sem, e0]
      exact hK _ _ (Below.refl _ _) rfl⟩) <|
        allOps_cons (fun a' w' hb hs hd => Or.inl ⟨wanted_t (j := 12) (d := 77) rfl (by kernel_rfl) (show a'.eval (.tmp 77) = .bool false from hd.get 12 77 (by kernel_rfl) (by kernel_rfl)), rg_op fun K hK => by
      have e0 := (show a'.eval (.tmp 78) = .int .i64 2 from hd.get 13 78 (by kernel_rfl) (by kernel_rfl))
      have ec : ∀ v, a'.eval (.const v) = v := fun _ => rfl
      clear hs hd
      unfold Oper.wp
      generalize a'.eval = ρ at e0 ec ⊢
      simp [go_sem, e0, ec]
      exact hK _ _ (Below.refl _ _) rfl⟩) <|
        allOps_cons (fun a' w' hb hs hd => Or.inl ⟨wanted_t (j := 12) (d := 77) rfl (by kernel_rfl) (show a'.eval (.tmp 77) = .bool false from hd.get 12 77 (by kernel_rfl) (by kernel_rfl)), rg_op fun K hK => by
      have e0 := (show a'.eval (.tmp 79) = .bool false from hd.get 14 79 (by kernel_rfl) (by kernel_rfl))
      have ec : ∀ v, a'.eval (.const v) = v := fun _ => rfl
      clear hs hd
      unfold Oper.wp
      generalize a'.eval = ρ at e0 ec ⊢
      simp [go_sem, e0]
      exact hK _ _ (Below.refl _ _) rfl⟩) <|
        allOps_cons (fun a' w' hb hs hd => Or.inr ⟨wanted_f (j := 15) (d := 80) rfl (by kernel_rfl) (show a'.eval (.tmp 80) = .bool false from hd.get 15 80 (by kernel_rfl) (by kernel_rfl)) rfl, rfl⟩) <|
        allOps_cons (fun a' w' hb hs hd => Or.inr ⟨wanted_f (j := 15) (d := 80) rfl (by kernel_rfl) (show a'.eval (.tmp 80) = .bool false from hd.get 15 80 (by kernel_rfl) (by kernel_rfl)) rfl, rfl⟩) <|
        allOps_cons (fun a' w' hb hs hd => Or.inr ⟨wanted_f (j := 15) (d := 80) rfl (by kernel_rfl) (show a'.eval (.tmp 80) = .bool false from hd.get 15 80 (by kernel_rfl) (by kernel_rfl)) rfl, rfl⟩) <|
        allOps_cons (fun a' w' hb hs hd => Or.inr ⟨wanted_u (j := 18) (d := 83) rfl (by kernel_rfl) (show a'.eval (.tmp 83) = undef from hd.get 18 83 (by kernel_rfl) (by kernel_rfl)), rfl⟩) <|
        allOps_cons (fun a' w' hb hs hd => Or.inr ⟨wanted_u (j := 18) (d := 83) rfl (by kernel_rfl) (show a'.eval (.tmp 83) = undef from hd.get 18 83 (by kernel_rfl) (by kernel_rfl)), rfl⟩) <|
        allOps_cons (fun a' w' hb hs hd => Or.inr ⟨wanted_u (j := 18) (d := 83) rfl (by kernel_rfl) (show a'.eval (.tmp 83) = undef from hd.get 18 83 (by kernel_rfl) (by kernel_rfl)), rfl⟩) <|
        allOps_cons (fun a' w' hb hs hd => Or.inr ⟨wanted_u (j := 18) (d := 83) rfl (by kernel_rfl) (show a'.eval (.tmp 83) = undef from hd.get 18 83 (by kernel_rfl) (by kernel_rfl)), rfl⟩) <|
        allOps_cons (fun a' w' hb hs hd => Or.inr ⟨wanted_u (j := 18) (d := 83) rfl (by kernel_rfl) (show a'.eval (.tmp 83) = undef from hd.get 18 83 (by kernel_rfl) (by kernel_rfl)), rfl⟩) <|
        allOps_cons (fun a' w' hb hs hd => Or.inr ⟨wanted_f (j := 15) (d := 80) rfl (by kernel_rfl) (show a'.eval (.tmp 80) = .bool false from hd.get 15 80 (by kernel_rfl) (by kernel_rfl)) rfl, rfl⟩) <|
        allOps_cons (fun a' w' hb hs hd => Or.inl ⟨wanted_t (j := 12) (d := 77) rfl (by kernel_rfl) (show a'.eval (.tmp 77) = .bool false from hd.get 12 77 (by kernel_rfl) (by kernel_rfl)), rg_op fun K hK => by
      have e0 := (show a'.eval (.tmp 80) = .bool false from hd.get 15 80 (by kernel_rfl) (by kernel_rfl))
      have ec : ∀ v, a'.eval (.const v) = v := fun _ => rfl
      clear hs hd
      unfold Oper.wp
      generalize a'.eval = ρ at e0 ec ⊢
      simp [go_sem, e0, ec]
      exact hK _ _ (Below.refl _ _) rfl⟩) <|
        allOps_cons (fun a' w' hb hs hd => Or.inl ⟨wanted_n rfl, rg_op fun K hK => by
      have e0 := (show a'.eval (.tmp 77) = .bool false from hd.get 12 77 (by kernel_rfl) (by kernel_rfl))
      have e1 := (show a'.eval (.tmp 90) = .bool false from hd.get 25 90 (by kernel_rfl) (by kernel_rfl))
      have ec : ∀ v, a'.eval (.const v) = v := fun _ => rfl
      clear hs hd
      unfold Oper.wp
      generalize a'.eval = ρ at e0 e1 ec ⊢
      simp [go_sem, e0, e1, ec]
      exact hK _ _ (Below.refl _ _) rfl⟩) <| allOps_nil) (fun V v5 hv5 hall => ?_)
  have h91 : V 91 = .bool false := hall.get 26 rfl
  clear hall
  simp only [se1, maskPut, Nat.reduceAdd]
  rw [h91]
  clear h91
  replace BV := Lib.hid (belowT BV.out hv5)
  replace l0 := keep hv5 l0
  replace l1 := keep hv5 l1
  replace m0 := keep hv5 m0
  replace m1 := keep hv5 m1
  replace g0 := keep hv5 g0
  replace g1 := keep hv5 g1
  replace T7 := Lib.hid (T7.out.on hv5)
  clear hv5 p0 p1
  go_wp2_with (first
    | (go_at_call 60; (with_reducible refine Calls.mono (HFG.out _ BV.out) ?_); rintro e yx ⟨rfl, hbx⟩; (try replace l0 := keep hbx l0); (try replace l1 := keep hbx l1); (try replace m0 := keep hbx m0); (try replace m1 := keep hbx m1); (try replace g0 := keep hbx g0); (try replace g1 := keep hbx g1); (try replace p0 := keep hbx p0); (try replace p1 := keep hbx p1); (try replace r0 := keep hbx r0); (try replace r1 := keep hbx r1); (try replace T1 := Lib.hid (T1.out.bel hbx)); (try replace T7 := Lib.hid (T7.out.on hbx)); (try replace TW := Lib.hid (TW.out.bel hbx)); (first | replace BV := Lib.hid (belowT (show Below w.heap.size w _ by have Bq := BV.out; have Bz := Bq.size; (repeat (first | with_reducible exact Below.refl _ _ | with_reducible assumption | with_reducible refine Below.alloc ?_ (by first | (simp; done) | (simp; omega) | omega) _ | with_reducible refine Below.setCell ?_ (by first | (simp; done) | (simp; omega) | omega) _ | with_reducible refine Below.drew ?_ | with_reducible refine below_drewN ?_ _))) hbx) | have BV := Lib.hid (belowT (show Below w.heap.size w _ by (repeat (first | with_reducible exact Below.refl _ _ | with_reducible assumption | with_reducible refine Below.alloc ?_ (by first | (simp; done) | (simp; omega) | omega) _ | with_reducible refine Below.setCell ?_ (by first | (simp; done) | (simp; omega) | omega) _ | with_reducible refine Below.drew ?_ | with_reducible refine below_drewN ?_ _))) hbx)); clear hbx)
    | (go_at_call 66; (with_reducible refine Calls.mono (HSF.out _ _ _ T7.out.ia) ?_); rintro e yx ⟨rfl, hbx⟩; (try replace l0 := keep hbx l0); (try replace l1 := keep hbx l1); (try replace m0 := keep hbx m0); (try replace m1 := keep hbx m1); (try replace g0 := keep hbx g0); (try replace g1 := keep hbx g1); (try replace p0 := keep hbx p0); (try replace p1 := keep hbx p1); (try replace r0 := keep hbx r0); (try replace r1 := keep hbx r1); (try replace T1 := Lib.hid (T1.out.bel hbx)); (try replace T7 := Lib.hid (T7.out.on hbx)); (try replace TW := Lib.hid (TW.out.bel hbx)); (first | replace BV := Lib.hid (belowT (show Below w.heap.size w _ by have Bq := BV.out; have Bz := Bq.size; (repeat (first | with_reducible exact Below.refl _ _ | with_reducible assumption | with_reducible refine Below.alloc ?_ (by first | (simp; done) | (simp; omega) | omega) _ | with_reducible refine Below.setCell ?_ (by first | (simp; done) | (simp; omega) | omega) _ | with_reducible refine Below.drew ?_ | with_reducible refine below_drewN ?_ _))) hbx) | have BV := Lib.hid (belowT (show Below w.heap.size w _ by (repeat (first | with_reducible exact Below.refl _ _ | with_reducible assumption | with_reducible refine Below.alloc ?_ (by first | (simp; done) | (simp; omega) | omega) _ | with_reducible refine Below.setCell ?_ (by first | (simp; done) | (simp; omega) | omega) _ | with_reducible refine Below.drew ?_ | with_reducible refine below_drewN ?_ _))) hbx)); clear hbx))
  go_ret
  exact ⟨rfl, BV.out⟩
set_option maxRecDepth 100000 in
set_option maxHeartbeats 4000000 in
theorem sc_qbig (A A2 : Option Addr) (L cA M cB : Nat) (xs ys : Nat → Int) (d1 d2 q : Int) (B : Int) (B0 : B ≠ 0) (w : World) (hL : L ≤ 10) (hM : M ≤ 10) (hF : flE L xs d1 = 0) (hQ : rgE q 0 3 = 2) (hG : flE M ys d2 = 0) (hW : flE (L + M - 1) (cvK xs ys M L) (d1 * d2) = B) (hI : IS w (.slice A L cA) L xs) (hJ : IS w (.slice A2 M cB) M ys) :
    Calls Try.prog 10 #[.agg #[.slice A L cA, .int .i64 d1], .agg #[.slice A2 M cB, .int .i64 d2], .int .i64 q] w fun e w' => e = .returned (.bool true) ∧ Below w.heap.size w w' := by
  have hL2 : ¬ (L : Int) > 10 := by omega
  have hM2 : ¬ (M : Int) > 10 := by omega
  have hA : IA w A L xs := by obtain ⟨A', c', e, h, _⟩ := hI; cases e; exact h
  have hB : IA w A2 M ys := by obtain ⟨A', c', e, h, _⟩ := hJ; cases e; exact h
  have HCF := Lib.hid (fun W (hW : Below w.heap.size w W) => copyFilter_any A L cA xs d1 W (by omega) (hI.on hW))
  have HCG := Lib.hid (fun W (hW : Below w.heap.size w W) => copyFilter_any A2 M cB ys d2 W (by omega) (hJ.on hW))
  have HFE := Lib.hid (fun W (hW : Below w.heap.size w W) => filterErr_any A L cA xs d1 W (by omega) (hA.bel hW))
  rw [hF] at HFE
  have HFG := Lib.hid (fun W (hW : Below w.heap.size w W) => filterErr_any A2 M cB ys d2 W (by omega) (hB.bel hW))
  rw [hG] at HFG
  have HQE := Lib.hid (fun W => quarterR_any q W)
  rw [hQ] at HQE
  have HRA := Lib.hid (fun A1 c1 W (h : IA W A1 L xs) => responseAt_err A1 L c1 xs d1 q (2) (by rw [hF, hQ]; rfl) (by decide) W (by omega) h)
  have HCO := Lib.hid (fun A1 c1 A3 c3 W (h1 : IA W A1 L xs) (h2 : IA W A3 M ys) => composedS_e A1 A3 L c1 M c3 xs ys (fun _ => 0) d1 d2 (8) (Or.inr ⟨by unfold coE fs2; rw [hF, if_pos rfl]; exact hG, by rw [hW]; exact B0, rfl⟩) hL hM W h1 h2)
  have HSF := Lib.hid (fun A1 c1 W (h1 : IA W A1 0 (fun _ => 0)) => sameFilter_any A1 none 0 c1 0 (fun _ => 0) 0 W (by omega) h1 (fun h => absurd h (by omega)))
  have hE : coE L xs d1 M ys d2 = 0 := by unfold coE fs2; rw [hF, if_pos rfl]; exact hG
  have HCR := Lib.hid (fun W (hW : Below w.heap.size w W) => composedR_any A A2 L cA M cB xs ys d1 d2 hE W (hA.bel hW) (hB.bel hW))
  have HFW := Lib.hid (fun G W (h : IA W (some ⟨G, 0, none⟩) (L + M - 1) (cvK xs ys M L)) => filterErr_any (some ⟨G, 0, none⟩) (L + M - 1) (L + M - 1) (cvK xs ys M L) (d1 * d2) W (by omega) h)
  rw [hW] at HFW
  clear hE hW
  generalize cvK xs ys M L = zs at *
  generalize d1 * d2 = dd at *
  obtain ⟨N, hN⟩ : ∃ N, L + M - 1 = N := ⟨_, rfl⟩
  rw [hN] at HCR HFW
  clear hN
  have x1 : (B == 0) = false := by simpa using B0
  have x2 : (B != 0) = true := by simpa using B0
  clear B0
  clear hA hB hI hJ hF hQ hG
  go_enter Try.func10, Try.ntmps10
  go_upto_region 5 with (go_at_call 17; (with_reducible refine Calls.mono (awake_any _) ?_); rintro e yx ⟨rfl, hbx⟩; (try replace l0 := keep hbx l0); (try replace l1 := keep hbx l1); (try replace m0 := keep hbx m0); (try replace m1 := keep hbx m1); (try replace g0 := keep hbx g0); (try replace g1 := keep hbx g1); (try replace p0 := keep hbx p0); (try replace p1 := keep hbx p1); (try replace r0 := keep hbx r0); (try replace r1 := keep hbx r1); (try replace T1 := Lib.hid (T1.out.bel hbx)); (try replace T7 := Lib.hid (T7.out.on hbx)); (try replace TW := Lib.hid (TW.out.bel hbx)); (first | replace BV := Lib.hid (belowT (show Below w.heap.size w _ by have Bq := BV.out; have Bz := Bq.size; (repeat (first | with_reducible exact Below.refl _ _ | with_reducible assumption | with_reducible refine Below.alloc ?_ (by first | (simp; done) | (simp; omega) | omega) _ | with_reducible refine Below.setCell ?_ (by first | (simp; done) | (simp; omega) | omega) _ | with_reducible refine Below.drew ?_ | with_reducible refine below_drewN ?_ _))) hbx) | have BV := Lib.hid (belowT (show Below w.heap.size w _ by (repeat (first | with_reducible exact Below.refl _ _ | with_reducible assumption | with_reducible refine Below.alloc ?_ (by first | (simp; done) | (simp; omega) | omega) _ | with_reducible refine Below.setCell ?_ (by first | (simp; done) | (simp; omega) | omega) _ | with_reducible refine Below.drew ?_ | with_reducible refine below_drewN ?_ _))) hbx)); have l0 := keep hbx (b := w.heap.size) (o := 0) (v := .slice A L cA) (by simp [go_sem]); have l1 := keep hbx (b := w.heap.size) (o := 1) (v := .int .i64 d1) (by simp [go_sem]); have m0 := keep hbx (b := w.heap.size + 1) (o := 0) (v := .slice A2 M cB) (by simp [go_sem]); have m1 := keep hbx (b := w.heap.size + 1) (o := 1) (v := .int .i64 d2) (by simp [go_sem]); clear hbx)
  have HB0 := BV
  generalize yx = v0 at *
  clear BV
  refine wp_region_st se0 (by kernel_rfl) [mpEq (.agg #[.slice A L cA, .int .i64 d1]), mpCF L xs d1, mpEq (.agg #[.slice A2 M cB, .int .i64 d2]), mpCF M ys d2, mpTC (0) (fun _ => 0) (0) (8), mpTC (0) (fun _ => 0) (0) (8), mpCZ (0) (fun _ => 0) (0), mpTop, mpF0 v0.heap.size, mpTop, mpTop] [(fun _ => True), (fun _ => True), (fun _ => True), (fun _ => True), tcV (0) (0) (8), tcV (0) (0) (8), (fun _ => True), (· = .int .i64 (8)), (fun _ => True), (fun _ => True), (· = .int .i64 (8))] (mpVC v0.heap.size (0) (fun _ => 0) (0)) 9 8 7 (by kernel_rfl) (by kernel_rfl) (by kernel_rfl) (by kernel_rfl) rfl (
        allOps_cons (rs_not (by kernel_rfl) (fun a' w' hb hs hd hp => rs_op fun K hK => by
      have e1 := (hs.get 3 (by kernel_rfl)).trans (show _ = Value.pointer (some ⟨w.heap.size, 0, none⟩) from rfl)
      have c0 := keep hb l0
      have c1 := keep hb l1
      clear hs hd hp
      unfold Oper.wp
      generalize a'.eval = ρ at e1 ⊢
      simp [go_sem, e1, c0, c1]
      exact hK _ _ (Below.refl _ _) rfl trivial)) <|
        allOps_cons (rs_not (by kernel_rfl) (fun a' w' hb hs hd hp => by
      exact rs_fn (φ := (mpCF L xs d1).p) (ψ := (fun _ => True)) (vs := #[.agg #[.slice A L cA, .int .i64 d1]]) rfl (enters_of Try.func58 (by kernel_rfl) rfl) (by simp [(show a'.eval (.tmp 27) = .agg #[.slice A L cA, .int .i64 d1] from RDeps.get (hd (by kernel_rfl)) 0 27 (by kernel_rfl) (by kernel_rfl))]) ((HCF.out w' (belowT HB0.out hb)).mono (by rintro e w1 ⟨A', c', rfl, h1, h2, _⟩; exact ⟨_, rfl, h1, ⟨A', c', rfl, h2⟩, trivial⟩)))) <|
        allOps_cons (rs_not (by kernel_rfl) (fun a' w' hb hs hd hp => rs_op fun K hK => by
      have e1 := (hs.get 4 (by kernel_rfl)).trans (show _ = Value.pointer (some ⟨w.heap.size + 1, 0, none⟩) from rfl)
      have c0 := keep hb m0
      have c1 := keep hb m1
      clear hs hd hp
      unfold Oper.wp
      generalize a'.eval = ρ at e1 ⊢
      simp [go_sem, e1, c0, c1]
      exact hK _ _ (Below.refl _ _) rfl trivial)) <|
        allOps_cons (rs_not (by kernel_rfl) (fun a' w' hb hs hd hp => by
      exact rs_fn (φ := (mpCF M ys d2).p) (ψ := (fun _ => True)) (vs := #[.agg #[.slice A2 M cB, .int .i64 d2]]) rfl (enters_of Try.func58 (by kernel_rfl) rfl) (by simp [(show a'.eval (.tmp 29) = .agg #[.slice A2 M cB, .int .i64 d2] from RDeps.get (hd (by kernel_rfl)) 2 29 (by kernel_rfl) (by kernel_rfl))]) ((HCG.out w' (belowT HB0.out hb)).mono (by rintro e w1 ⟨A', c', rfl, h1, h2, _⟩; exact ⟨_, rfl, h1, ⟨A', c', rfl, h2⟩, trivial⟩)))) <|
        allOps_cons (rs_not (by kernel_rfl) (fun a' w' hb hs hd hp => by
      obtain ⟨X1, c1, e1, k1⟩ := (show (mpCF L xs d1).p (a'.eval (.tmp 28)) w' from RDeps.get (hd (by kernel_rfl)) 1 28 (by kernel_rfl) (by kernel_rfl))
      obtain ⟨X2, c2, e2, k2⟩ := (show (mpCF M ys d2).p (a'.eval (.tmp 30)) w' from RDeps.get (hd (by kernel_rfl)) 3 30 (by kernel_rfl) (by kernel_rfl))
      exact rs_fn (φ := (mpTC (0) (fun _ => 0) (0) (8)).p) (ψ := tcV (0) (0) (8)) (vs := #[.agg #[.slice X1 L c1, .int .i64 d1], .agg #[.slice X2 M c2, .int .i64 d2]]) rfl (enters_of Try.func64 (by kernel_rfl) rfl) (by simp [e1, e2]) ((HCO.out X1 c1 X2 c2 w' k1 k2).mono (by rintro e w1 ⟨A', c', rfl, h1, h2⟩; exact ⟨_, rfl, h1, ⟨A', c', rfl, h2⟩, A', c', rfl⟩)))) <|
        allOps_cons (rs_not (by kernel_rfl) (fun a' w' hb hs hd hp => rs_op fun K hK => by
      obtain ⟨At, ct, e0, ht⟩ := (show (mpTC (0) (fun _ => 0) (0) (8)).p (a'.eval (.tmp 31)) w' from RDeps.get (hd (by kernel_rfl)) 4 31 (by kernel_rfl) (by kernel_rfl))
      clear hs hd hp
      unfold Oper.wp
      generalize a'.eval = ρ at e0 ⊢
      simp [go_sem, e0]
      exact hK _ _ (Below.refl _ _) ⟨At, ct, rfl, ht⟩ ⟨At, ct, rfl⟩)) <|
        allOps_cons (rs_not (by kernel_rfl) (fun a' w' hb hs hd hp => rs_op fun K hK => by
      obtain ⟨At, ct, e0, ht⟩ := (show (mpTC (0) (fun _ => 0) (0) (8)).p (a'.eval (.tmp 26)) w' from RDeps.get (hd (by kernel_rfl)) 5 26 (by kernel_rfl) (by kernel_rfl))
      clear hs hd hp
      unfold Oper.wp
      generalize a'.eval = ρ at e0 ⊢
      simp [go_sem, e0]
      exact hK _ _ (Below.refl _ _) ⟨At, ct, rfl, ht⟩ trivial)) <|
        allOps_cons (rs_not (by kernel_rfl) (fun a' w' hb hs hd hp => rs_op fun K hK => by
      obtain ⟨At, ct, e0⟩ := (show tcV (0) (0) (8) (a'.eval (.tmp 26)) from hp.get 5 26 (by kernel_rfl) (by kernel_rfl))
      clear hs hd hp
      unfold Oper.wp
      generalize a'.eval = ρ at e0 ⊢
      simp [go_sem, e0]
      exact hK _ _ (Below.refl _ _) trivial rfl)) <|
        allOps_cons (rs_not (by kernel_rfl) (fun a' w' hb hs hd hp => rs_op fun K hK => by
      have hz := hb.size
      clear hs hd hp
      unfold Oper.wp
      generalize a'.eval = ρ
      simp [go_sem]
      exact hK _ _ ((Below.refl _ _).alloc (Nat.le_refl _) _) ⟨_, rfl, hz, ⟨by simp [go_sem], by simp [go_sem]⟩, by simp [go_sem], by simp [go_sem]⟩ trivial)) <|
        allOps_cons (rs_is (by kernel_rfl) (fun a' w' hb hs hd => rs_st rfl fun K hK => by
      obtain ⟨q7, e1, zq, ⟨c0, c1⟩, f0, f1⟩ := (show (mpF0 v0.heap.size).p (a'.eval (.tmp 7)) w' from hd.get 8 7 (by kernel_rfl) (by kernel_rfl))
      obtain ⟨At, ct, e2, ht⟩ := (show (mpCZ (0) (fun _ => 0) (0)).p (a'.eval (.tmp 32)) w' from hd.get 6 32 (by kernel_rfl) (by kernel_rfl))
      have hne : ∀ b, At = some ⟨b, 0, none⟩ → 0 < (0) → b ≠ q7 := fun b e hn he => by
        obtain ⟨b2, e3, hc⟩ := ht hn
        rw [e] at e3
        cases e3
        rw [he] at hc
        have := (hc 0 hn).symm.trans c0
        simp at this
      have hz := lt_of c0
      clear hs hd
      unfold Oper.wp
      generalize a'.eval = ρ at e1 e2 hK ⊢
      simp [go_sem, e1, e2, c0, c1, f0, f1]
      exact hK _ (Below.setCell (Below.setCell hb zq _) zq _) ⟨q7, At, ct, e1, zq, by simp [go_sem, c0], by simp [go_sem, c1], (ht.set hne).set hne⟩)) <|
        allOps_cons (rs_not (by kernel_rfl) (fun a' w' hb hs hd hp => rs_op fun K hK => by
      have e1 := (show a'.eval (.tmp 33) = .int .i64 (8) from hp.get 7 33 (by kernel_rfl) (by kernel_rfl))
      clear hs hd hp
      unfold Oper.wp
      generalize a'.eval = ρ at e1 ⊢
      simp [go_sem, e1]
      exact hK _ _ (Below.refl _ _) trivial rfl)) <| allOps_nil) (fun V v1 hv1 hall hv => ?_)
  have h8 : V 8 = .int .i64 (8) := hall.get 10 rfl (by decide)
  obtain ⟨q7, A7, c7, h7, hBq, g0, g1, hZ⟩ := hv
  clear hall
  simp only [se0, maskPut, Nat.reduceAdd]
  rw [h7, h8]
  clear h7 h8 hBq
  have BV := Lib.hid (belowT HB0.out hv1)
  have T7 := Lib.hid hZ
  replace l0 := keep hv1 l0
  replace l1 := keep hv1 l1
  replace m0 := keep hv1 m0
  replace m1 := keep hv1 m1
  clear hv1 hZ HB0 HCO HCG
  go_upto_region 7 with (first
    | (go_at_call 58; (with_reducible refine Calls.mono (HCF.out _ BV.out) ?_); rintro e yx ⟨AF, cF, rfl, hbx, hIF, _⟩; (try replace l0 := keep hbx l0); (try replace l1 := keep hbx l1); (try replace m0 := keep hbx m0); (try replace m1 := keep hbx m1); (try replace g0 := keep hbx g0); (try replace g1 := keep hbx g1); (try replace p0 := keep hbx p0); (try replace p1 := keep hbx p1); (try replace r0 := keep hbx r0); (try replace r1 := keep hbx r1); (try replace T1 := Lib.hid (T1.out.bel hbx)); (try replace T7 := Lib.hid (T7.out.on hbx)); (try replace TW := Lib.hid (TW.out.bel hbx)); (first | replace BV := Lib.hid (belowT (show Below w.heap.size w _ by have Bq := BV.out; have Bz := Bq.size; (repeat (first | with_reducible exact Below.refl _ _ | with_reducible assumption | with_reducible refine Below.alloc ?_ (by first | (simp; done) | (simp; omega) | omega) _ | with_reducible refine Below.setCell ?_ (by first | (simp; done) | (simp; omega) | omega) _ | with_reducible refine Below.drew ?_ | with_reducible refine below_drewN ?_ _))) hbx) | have BV := Lib.hid (belowT (show Below w.heap.size w _ by (repeat (first | with_reducible exact Below.refl _ _ | with_reducible assumption | with_reducible refine Below.alloc ?_ (by first | (simp; done) | (simp; omega) | omega) _ | with_reducible refine Below.setCell ?_ (by first | (simp; done) | (simp; omega) | omega) _ | with_reducible refine Below.drew ?_ | with_reducible refine below_drewN ?_ _))) hbx)); have T1 := Lib.hid hIF; clear hIF; clear hbx)
    | (go_at_call 65; (with_reducible refine Calls.mono (HRA.out _ _ _ T1.out) ?_); rintro e yx ⟨rfl, hbx⟩; (try replace l0 := keep hbx l0); (try replace l1 := keep hbx l1); (try replace m0 := keep hbx m0); (try replace m1 := keep hbx m1); (try replace g0 := keep hbx g0); (try replace g1 := keep hbx g1); (try replace p0 := keep hbx p0); (try replace p1 := keep hbx p1); (try replace r0 := keep hbx r0); (try replace r1 := keep hbx r1); (try replace T1 := Lib.hid (T1.out.bel hbx)); (try replace T7 := Lib.hid (T7.out.on hbx)); (try replace TW := Lib.hid (TW.out.bel hbx)); (first | replace BV := Lib.hid (belowT (show Below w.heap.size w _ by have Bq := BV.out; have Bz := Bq.size; (repeat (first | with_reducible exact Below.refl _ _ | with_reducible assumption | with_reducible refine Below.alloc ?_ (by first | (simp; done) | (simp; omega) | omega) _ | with_reducible refine Below.setCell ?_ (by first | (simp; done) | (simp; omega) | omega) _ | with_reducible refine Below.drew ?_ | with_reducible refine below_drewN ?_ _))) hbx) | have BV := Lib.hid (belowT (show Below w.heap.size w _ by (repeat (first | with_reducible exact Below.refl _ _ | with_reducible assumption | with_reducible refine Below.alloc ?_ (by first | (simp; done) | (simp; omega) | omega) _ | with_reducible refine Below.setCell ?_ (by first | (simp; done) | (simp; omega) | omega) _ | with_reducible refine Below.drew ?_ | with_reducible refine below_drewN ?_ _))) hbx)); clear hbx))
  obtain ⟨b9, hb9⟩ : ∃ b9, yx.heap.size = b9 := ⟨_, rfl⟩
  have hvv : Below yx.heap.size yx (yx.alloc (.cells #[.int .i64 0, .int .i64 0] 23)) := (Below.refl _ _).alloc (Nat.le_refl _) _
  have p0 : (yx.alloc (.cells #[.int .i64 0, .int .i64 0] 23)).cell? ⟨b9, 0, none⟩ = some (.int .i64 0) := by rw [← hb9]; simp [go_sem]
  have p1 : (yx.alloc (.cells #[.int .i64 0, .int .i64 0] 23)).cell? ⟨b9, 1, none⟩ = some (.int .i64 0) := by rw [← hb9]; simp [go_sem]
  replace l0 := keep hvv l0
  replace l1 := keep hvv l1
  replace m0 := keep hvv m0
  replace m1 := keep hvv m1
  replace g0 := keep hvv g0
  replace g1 := keep hvv g1
  replace T7 := Lib.hid (T7.out.on hvv)
  replace BV := Lib.hid (belowT BV.out hvv)
  clear hvv
  generalize (yx.alloc (.cells #[.int .i64 0, .int .i64 0] 23)) = v2 at *
  rw [hb9]
  clear hb9
  go_upto_region 11 with (first
    | (go_at_call 60; (with_reducible refine Calls.mono (HFE.out _ BV.out) ?_); rintro e yx ⟨rfl, hbx⟩; (try replace l0 := keep hbx l0); (try replace l1 := keep hbx l1); (try replace m0 := keep hbx m0); (try replace m1 := keep hbx m1); (try replace g0 := keep hbx g0); (try replace g1 := keep hbx g1); (try replace p0 := keep hbx p0); (try replace p1 := keep hbx p1); (try replace r0 := keep hbx r0); (try replace r1 := keep hbx r1); (try replace T1 := Lib.hid (T1.out.bel hbx)); (try replace T7 := Lib.hid (T7.out.on hbx)); (try replace TW := Lib.hid (TW.out.bel hbx)); (first | replace BV := Lib.hid (belowT (show Below w.heap.size w _ by have Bq := BV.out; have Bz := Bq.size; (repeat (first | with_reducible exact Below.refl _ _ | with_reducible assumption | with_reducible refine Below.alloc ?_ (by first | (simp; done) | (simp; omega) | omega) _ | with_reducible refine Below.setCell ?_ (by first | (simp; done) | (simp; omega) | omega) _ | with_reducible refine Below.drew ?_ | with_reducible refine below_drewN ?_ _))) hbx) | have BV := Lib.hid (belowT (show Below w.heap.size w _ by (repeat (first | with_reducible exact Below.refl _ _ | with_reducible assumption | with_reducible refine Below.alloc ?_ (by first | (simp; done) | (simp; omega) | omega) _ | with_reducible refine Below.setCell ?_ (by first | (simp; done) | (simp; omega) | omega) _ | with_reducible refine Below.drew ?_ | with_reducible refine below_drewN ?_ _))) hbx)); clear hbx)
    | (go_at_call 67; (with_reducible refine Calls.mono (HQE.out _) ?_); rintro e yx ⟨rfl, hbx⟩; (try replace l0 := keep hbx l0); (try replace l1 := keep hbx l1); (try replace m0 := keep hbx m0); (try replace m1 := keep hbx m1); (try replace g0 := keep hbx g0); (try replace g1 := keep hbx g1); (try replace p0 := keep hbx p0); (try replace p1 := keep hbx p1); (try replace r0 := keep hbx r0); (try replace r1 := keep hbx r1); (try replace T1 := Lib.hid (T1.out.bel hbx)); (try replace T7 := Lib.hid (T7.out.on hbx)); (try replace TW := Lib.hid (TW.out.bel hbx)); (first | replace BV := Lib.hid (belowT (show Below w.heap.size w _ by have Bq := BV.out; have Bz := Bq.size; (repeat (first | with_reducible exact Below.refl _ _ | with_reducible assumption | with_reducible refine Below.alloc ?_ (by first | (simp; done) | (simp; omega) | omega) _ | with_reducible refine Below.setCell ?_ (by first | (simp; done) | (simp; omega) | omega) _ | with_reducible refine Below.drew ?_ | with_reducible refine below_drewN ?_ _))) hbx) | have BV := Lib.hid (belowT (show Below w.heap.size w _ by (repeat (first | with_reducible exact Below.refl _ _ | with_reducible assumption | with_reducible refine Below.alloc ?_ (by first | (simp; done) | (simp; omega) | omega) _ | with_reducible refine Below.setCell ?_ (by first | (simp; done) | (simp; omega) | omega) _ | with_reducible refine Below.drew ?_ | with_reducible refine below_drewN ?_ _))) hbx)); clear hbx))
  generalize yx = vx at *
  refine wp_region_gd [mpEq (.int .i64 2), mpEq (.bool true), mpEq (.bool true), mpEq (.int .i64 2), mpEq (.int .i64 2), mpEq (.bool false), mpEq (.bool false), mpEq (.agg #[.int .i64 0, .int .i64 0]), mpEq (.agg #[.int .i64 0, .int .i64 0]), mpEq (.bool false), mpEq (.bool false), mpEq (.bool false), mpEq (.bool false), mpEq (.int .i64 2), mpEq (.bool false), mpEq (.bool false), mpEq undef, mpEq undef, mpEq undef, mpEq undef, mpEq undef, mpEq undef, mpEq undef, mpEq undef, mpEq undef, mpEq (.bool false), mpEq (.bool false)] se1 (by kernel_rfl) (by kernel_rfl) (by kernel_rfl) (
        allOps_cons (fun a' w' hb hs hd => Or.inl ⟨wanted_n rfl, rg_op fun K hK => by
      have e0 := (hs.get 12 (by kernel_rfl)).trans (show _ = .int .i64 2 from rfl)
      have ec : ∀ v, a'.eval (.const v) = v := fun _ => rfl
      clear hs hd
      unfold Oper.wp
      generalize a'.eval = ρ at e0 ec ⊢
      simp [go_sem, e0]
      exact hK _ _ (Below.refl _ _) rfl⟩) <|
        allOps_cons (fun a' w' hb hs hd => Or.inl ⟨wanted_n rfl, rg_op fun K hK => by
      have e0 := (show a'.eval (.tmp 65) = .int .i64 2 from hd.get 0 65 (by kernel_rfl) (by kernel_rfl))
      have ec : ∀ v, a'.eval (.const v) = v := fun _ => rfl
      clear hs hd
      unfold Oper.wp
      generalize a'.eval = ρ at e0 ec ⊢
      simp [go_sem, e0, ec]
      exact hK _ _ (Below.refl _ _) rfl⟩) <|
        allOps_cons (fun a' w' hb hs hd => Or.inl ⟨wanted_n rfl, rg_op fun K hK => by
      have e0 := (show a'.eval (.tmp 66) = .bool true from hd.get 1 66 (by kernel_rfl) (by kernel_rfl))
      have ec : ∀ v, a'.eval (.const v) = v := fun _ => rfl
      clear hs hd
      unfold Oper.wp
      generalize a'.eval = ρ at e0 ec ⊢
      simp [go_sem, e0]
      exact hK _ _ (Below.refl _ _) rfl⟩) <|
        allOps_cons (fun a' w' hb hs hd => Or.inl ⟨wanted_t (j := 2) (d := 67) rfl (by kernel_rfl) (show a'.eval (.tmp 67) = .bool true from hd.get 2 67 (by kernel_rfl) (by kernel_rfl)), rg_op fun K hK => by
      have e0 := (hs.get 10 (by kernel_rfl)).trans (show _ = .int .i64 2 from rfl)
      have ec : ∀ v, a'.eval (.const v) = v := fun _ => rfl
      clear hs hd
      unfold Oper.wp
      generalize a'.eval = ρ at e0 ec ⊢
      simp [go_sem, e0]
      exact hK _ _ (Below.refl _ _) rfl⟩) <|
        allOps_cons (fun a' w' hb hs hd => Or.inl ⟨wanted_t (j := 2) (d := 67) rfl (by kernel_rfl) (show a'.eval (.tmp 67) = .bool true from hd.get 2 67 (by kernel_rfl) (by kernel_rfl)), rg_op fun K hK => by
      have e0 := (hs.get 12 (by kernel_rfl)).trans (show _ = .int .i64 2 from rfl)
      have ec : ∀ v, a'.eval (.const v) = v := fun _ => rfl
      clear hs hd
      unfold Oper.wp
      generalize a'.eval = ρ at e0 ec ⊢
      simp [go_sem, e0]
      exact hK _ _ (Below.refl _ _) rfl⟩) <|
        allOps_cons (fun a' w' hb hs hd => Or.inl ⟨wanted_t (j := 2) (d := 67) rfl (by kernel_rfl) (show a'.eval (.tmp 67) = .bool true from hd.get 2 67 (by kernel_rfl) (by kernel_rfl)), rg_op fun K hK => by
      have e0 := (show a'.eval (.tmp 68) = .int .i64 2 from hd.get 3 68 (by kernel_rfl) (by kernel_rfl))
      have e1 := (show a'.eval (.tmp 69) = .int .i64 2 from hd.get 4 69 (by kernel_rfl) (by kernel_rfl))
      have ec : ∀ v, a'.eval (.const v) = v := fun _ => rfl
      clear hs hd
      unfold Oper.wp
      generalize a'.eval = ρ at e0 e1 ec ⊢
      simp [go_sem, e0, e1]
      exact hK _ _ (Below.refl _ _) rfl⟩) <|
        allOps_cons (fun a' w' hb hs hd => Or.inl ⟨wanted_t (j := 2) (d := 67) rfl (by kernel_rfl) (show a'.eval (.tmp 67) = .bool true from hd.get 2 67 (by kernel_rfl) (by kernel_rfl)), rg_op fun K hK => by
      have e0 := (show a'.eval (.tmp 70) = .bool false from hd.get 5 70 (by kernel_rfl) (by kernel_rfl))
      have ec : ∀ v, a'.eval (.const v) = v := fun _ => rfl
      clear hs hd
      unfold Oper.wp
      generalize a'.eval = ρ at e0 ec ⊢
      simp [go_sem, e0]
      exact hK _ _ (Below.refl _ _) rfl⟩) <|
        allOps_cons (fun a' w' hb hs hd => Or.inl ⟨wanted_t (j := 6) (d := 71) rfl (by kernel_rfl) (show a'.eval (.tmp 71) = .bool false from hd.get 6 71 (by kernel_rfl) (by kernel_rfl)), rg_op fun K hK => by
      have e0 := (hs.get 9 (by kernel_rfl)).trans (show _ = .pointer (some ⟨b9, 0, none⟩) from rfl)
      have ec : ∀ v, a'.eval (.const v) = v := fun _ => rfl
      have c0 := keep hb p0
      have c1 := keep hb p1
      clear hs hd
      unfold Oper.wp
      generalize a'.eval = ρ at e0 ec ⊢
      simp [go_sem, e0, c0, c1]
      exact hK _ _ (Below.refl _ _) rfl⟩) <|
        allOps_cons (fun a' w' hb hs hd => Or.inl ⟨wanted_t (j := 6) (d := 71) rfl (by kernel_rfl) (show a'.eval (.tmp 71) = .bool false from hd.get 6 71 (by kernel_rfl) (by kernel_rfl)), rg_op fun K hK => by
      have ec : ∀ v, a'.eval (.const v) = v := fun _ => rfl
      clear hs hd
      unfold Oper.wp
      generalize a'.eval = ρ at ec ⊢
      simp [go_sem]
      exact hK _ _ (Below.refl _ _) rfl⟩) <|
        allOps_cons (fun a' w' hb hs hd => Or.inl ⟨wanted_t (j := 6) (d := 71) rfl (by kernel_rfl) (show a'.eval (.tmp 71) = .bool false from hd.get 6 71 (by kernel_rfl) (by kernel_rfl)), rg_op fun K hK => by
      have e0 := (show a'.eval (.tmp 72) = .agg #[.int .i64 0, .int .i64 0] from hd.get 7 72 (by kernel_rfl) (by kernel_rfl))
      have e1 := (show a'.eval (.tmp 73) = .agg #[.int .i64 0, .int .i64 0] from hd.get 8 73 (by kernel_rfl) (by kernel_rfl))
      have ec : ∀ v, a'.eval (.const v) = v := fun _ => rfl
      clear hs hd
      unfold Oper.wp
      generalize a'.eval = ρ at e0 e1 ec ⊢
      simp [go_sem, e0, e1]
      exact hK _ _ (Below.refl _ _) rfl⟩) <|
        allOps_cons (fun a' w' hb hs hd => Or.inl ⟨wanted_t (j := 2) (d := 67) rfl (by kernel_rfl) (show a'.eval (.tmp 67) = .bool true from hd.get 2 67 (by kernel_rfl) (by kernel_rfl)), rg_op fun K hK => by
      have e0 := (show a'.eval (.tmp 71) = .bool false from hd.get 6 71 (by kernel_rfl) (by kernel_rfl))
      have e1 := (show a'.eval (.tmp 74) = .bool false from hd.get 9 74 (by kernel_rfl) (by kernel_rfl))
      have ec : ∀ v, a'.eval (.const v) = v := fun _ => rfl
      clear hs hd
      unfold Oper.wp
      generalize a'.eval = ρ at e0 e1 ec ⊢
      simp [go_sem, e0, e1, ec]
      exact hK _ _ (Below.refl _ _) rfl⟩) <|
        allOps_cons (fun a' w' hb hs hd => Or.inl ⟨wanted_n rfl, rg_op fun K hK => by
      have e0 := (show a'.eval (.tmp 67) = .bool true from hd.get 2 67 (by kernel_rfl) (by kernel_rfl))
      have e1 := (show a'.eval (.tmp 75) = .bool false from hd.get 10 75 (by kernel_rfl) (by kernel_rfl))
      have ec : ∀ v, a'.eval (.const v) = v := fun _ => rfl
      clear hs hd
      unfold Oper.wp
      generalize a'.eval = ρ at e0 e1 ec ⊢
      simp [go_sem, e0, e1, ec]
      exact hK _ _ (Below.refl _ _) rfl⟩) <|
        allOps_cons (fun a' w' hb hs hd => Or.inl ⟨wanted_n rfl, rg_op fun K hK => by
      have e0 := (show a'.eval (.tmp 76) = .bool false from hd.get 11 76 (by kernel_rfl) (by kernel_rfl))
      have ec : ∀ v, a'.eval (.const v) = v := fun _ => rfl
      clear hs hd
      unfold Oper.wp
      generalize a'.eval = ρ at e0 ec ⊢
      simp [go_sem, e0]
      exact hK _ _ (Below.refl _ _) rfl⟩) <|
        allOps_cons (fun a' w' hb hs hd => Or.inl ⟨wanted_t (j := 12) (d := 77) rfl (by kernel_rfl) (show a'.eval (.tmp 77) = .bool false from hd.get 12 77 (by kernel_rfl) (by kernel_rfl)), rg_op fun K hK => by
      have e0 := (hs.get 12 (by kernel_rfl)).trans (show _ = .int .i64 2 from rfl)
      have ec : ∀ v, a'.eval (.const v) = v := fun _ => rfl
      clear hs hd
      unfold Oper.wp
      generalize a'.eval = ρ at e0 ec ⊢
      simp [go_sem, e0]
      exact hK _ _ (Below.refl _ _) rfl⟩) <|
        allOps_cons (fun a' w' hb hs hd => Or.inl ⟨wanted_t (j := 12) (d := 77) rfl (by kernel_rfl) (show a'.eval (.tmp 77) = .bool false from hd.get 12 77 (by kernel_rfl) (by kernel_rfl)), rg_op fun K hK => by
      have e0 := (show a'.eval (.tmp 78) = .int .i64 2 from hd.get 13 78 (by kernel_rfl) (by kernel_rfl))
      have ec : ∀ v, a'.eval (.const v) = v := fun _ => rfl
      clear hs hd
      unfold Oper.wp
      generalize a'.eval = ρ at e0 ec ⊢
      simp [go_sem, e0, ec]
      exact hK _ _ (Below.refl _ _) rfl⟩) <|
        allOps_cons (fun a' w' hb hs hd => Or.inl ⟨wanted_t (j := 12) (d := 77) rfl (by kernel_rfl) (show a'.eval (.tmp 77) = .bool false from hd.get 12 77 (by kernel_rfl) (by kernel_rfl)), rg_op fun K hK => by
      have e0 := (show a'.eval (.tmp 79) = .bool false from hd.get 14 79 (by kernel_rfl) (by kernel_rfl))
      have ec : ∀ v, a'.eval (.const v) = v := fun _ => rfl
      clear hs hd
      unfold Oper.wp
      generalize a'.eval = ρ at e0 ec ⊢
      simp [go_sem, e0]
      exact hK _ _ (Below.refl _ _) rfl⟩) <|
        allOps_cons (fun a' w' hb hs hd => Or.inr ⟨wanted_f (j := 15) (d := 80) rfl (by kernel_rfl) (show a'.eval (.tmp 80) = .bool false from hd.get 15 80 (by kernel_rfl) (by kernel_rfl)) rfl, rfl⟩) <|
        allOps_cons (fun a' w' hb hs hd => Or.inr ⟨wanted_f (j := 15) (d := 80) rfl (by kernel_rfl) (show a'.eval (.tmp 80) = .bool false from hd.get 15 80 (by kernel_rfl) (by kernel_rfl)) rfl, rfl⟩) <|
        allOps_cons (fun a' w' hb hs hd => Or.inr ⟨wanted_f (j := 15) (d := 80) rfl (by kernel_rfl) (show a'.eval (.tmp 80) = .bool false from hd.get 15 80 (by kernel_rfl) (by kernel_rfl)) rfl, rfl⟩) <|
        allOps_cons (fun a' w' hb hs hd => Or.inr ⟨wanted_u (j := 18) (d := 83) rfl (by kernel_rfl) (show a'.eval (.tmp 83) = undef from hd.get 18 83 (by kernel_rfl) (by kernel_rfl)), rfl⟩) <|
        allOps_cons (fun a' w' hb hs hd => Or.inr ⟨wanted_u (j := 18) (d := 83) rfl (by kernel_rfl) (show a'.eval (.tmp 83) = undef from hd.get 18 83 (by kernel_rfl) (by kernel_rfl)), rfl⟩) <|
        allOps_cons (fun a' w' hb hs hd => Or.inr ⟨wanted_u (j := 18) (d := 83) rfl (by kernel_rfl) (show a'.eval (.tmp 83) = undef from hd.get 18 83 (by kernel_rfl) (by kernel_rfl)), rfl⟩) <|
        allOps_cons (fun a' w' hb hs hd => Or.inr ⟨wanted_u (j := 18) (d := 83) rfl (by kernel_rfl) (show a'.eval (.tmp 83) = undef from hd.get 18 83 (by kernel_rfl) (by kernel_rfl)), rfl⟩) <|
        allOps_cons (fun a' w' hb hs hd => Or.inr ⟨wanted_u (j := 18) (d := 83) rfl (by kernel_rfl) (show a'.eval (.tmp 83) = undef from hd.get 18 83 (by kernel_rfl) (by kernel_rfl)), rfl⟩) <|
        allOps_cons (fun a' w' hb hs hd => Or.inr ⟨wanted_f (j := 15) (d := 80) rfl (by kernel_rfl) (show a'.eval (.tmp 80) = .bool false from hd.get 15 80 (by kernel_rfl) (by kernel_rfl)) rfl, rfl⟩) <|
        allOps_cons (fun a' w' hb hs hd => Or.inl ⟨wanted_t (j := 12) (d := 77) rfl (by kernel_rfl) (show a'.eval (.tmp 77) = .bool false from hd.get 12 77 (by kernel_rfl) (by kernel_rfl)), rg_op fun K hK => by
      have e0 := (show a'.eval (.tmp 80) = .bool false from hd.get 15 80 (by kernel_rfl) (by kernel_rfl))
      have ec : ∀ v, a'.eval (.const v) = v := fun _ => rfl
      clear hs hd
      unfold Oper.wp
      generalize a'.eval = ρ at e0 ec ⊢
      simp [go_sem, e0, ec]
      exact hK _ _ (Below.refl _ _) rfl⟩) <|
        allOps_cons (fun a' w' hb hs hd => Or.inl ⟨wanted_n rfl, rg_op fun K hK => by
      have e0 := (show a'.eval (.tmp 77) = .bool false from hd.get 12 77 (by kernel_rfl) (by kernel_rfl))
      have e1 := (show a'.eval (.tmp 90) = .bool false from hd.get 25 90 (by kernel_rfl) (by kernel_rfl))
      have ec : ∀ v, a'.eval (.const v) = v := fun _ => rfl
      clear hs hd
      unfold Oper.wp
      generalize a'.eval = ρ at e0 e1 ec ⊢
      simp [go_sem, e0, e1, ec]
      exact hK _ _ (Below.refl _ _) rfl⟩) <| allOps_nil) (fun V v5 hv5 hall => ?_)
  have h91 : V 91 = .bool false := hall.get 26 rfl
  clear hall
  simp only [se1, maskPut, Nat.reduceAdd]
  rw [h91]
  clear h91
  replace BV := Lib.hid (belowT BV.out hv5)
  replace l0 := keep hv5 l0
  replace l1 := keep hv5 l1
  replace m0 := keep hv5 m0
  replace m1 := keep hv5 m1
  replace g0 := keep hv5 g0
  replace g1 := keep hv5 g1
  replace T7 := Lib.hid (T7.out.on hv5)
  clear hv5 p0 p1
  go_upto_region 17 with (first
    | (go_at_call 60; (with_reducible refine Calls.mono (HFG.out _ BV.out) ?_); rintro e yx ⟨rfl, hbx⟩; (try replace l0 := keep hbx l0); (try replace l1 := keep hbx l1); (try replace m0 := keep hbx m0); (try replace m1 := keep hbx m1); (try replace g0 := keep hbx g0); (try replace g1 := keep hbx g1); (try replace p0 := keep hbx p0); (try replace p1 := keep hbx p1); (try replace r0 := keep hbx r0); (try replace r1 := keep hbx r1); (try replace T1 := Lib.hid (T1.out.bel hbx)); (try replace T7 := Lib.hid (T7.out.on hbx)); (try replace TW := Lib.hid (TW.out.bel hbx)); (first | replace BV := Lib.hid (belowT (show Below w.heap.size w _ by have Bq := BV.out; have Bz := Bq.size; (repeat (first | with_reducible exact Below.refl _ _ | with_reducible assumption | with_reducible refine Below.alloc ?_ (by first | (simp; done) | (simp; omega) | omega) _ | with_reducible refine Below.setCell ?_ (by first | (simp; done) | (simp; omega) | omega) _ | with_reducible refine Below.drew ?_ | with_reducible refine below_drewN ?_ _))) hbx) | have BV := Lib.hid (belowT (show Below w.heap.size w _ by (repeat (first | with_reducible exact Below.refl _ _ | with_reducible assumption | with_reducible refine Below.alloc ?_ (by first | (simp; done) | (simp; omega) | omega) _ | with_reducible refine Below.setCell ?_ (by first | (simp; done) | (simp; omega) | omega) _ | with_reducible refine Below.drew ?_ | with_reducible refine below_drewN ?_ _))) hbx)); clear hbx)
    | (go_at_call 69; (with_reducible refine Calls.mono (HCR.out _ BV.out) ?_); rintro e yx ⟨GW, rfl, hbx, hIW⟩; (try replace l0 := keep hbx l0); (try replace l1 := keep hbx l1); (try replace m0 := keep hbx m0); (try replace m1 := keep hbx m1); (try replace g0 := keep hbx g0); (try replace g1 := keep hbx g1); (try replace p0 := keep hbx p0); (try replace p1 := keep hbx p1); (try replace r0 := keep hbx r0); (try replace r1 := keep hbx r1); (try replace T1 := Lib.hid (T1.out.bel hbx)); (try replace T7 := Lib.hid (T7.out.on hbx)); (try replace TW := Lib.hid (TW.out.bel hbx)); (first | replace BV := Lib.hid (belowT (show Below w.heap.size w _ by have Bq := BV.out; have Bz := Bq.size; (repeat (first | with_reducible exact Below.refl _ _ | with_reducible assumption | with_reducible refine Below.alloc ?_ (by first | (simp; done) | (simp; omega) | omega) _ | with_reducible refine Below.setCell ?_ (by first | (simp; done) | (simp; omega) | omega) _ | with_reducible refine Below.drew ?_ | with_reducible refine below_drewN ?_ _))) hbx) | have BV := Lib.hid (belowT (show Below w.heap.size w _ by (repeat (first | with_reducible exact Below.refl _ _ | with_reducible assumption | with_reducible refine Below.alloc ?_ (by first | (simp; done) | (simp; omega) | omega) _ | with_reducible refine Below.setCell ?_ (by first | (simp; done) | (simp; omega) | omega) _ | with_reducible refine Below.drew ?_ | with_reducible refine below_drewN ?_ _))) hbx)); have TW := Lib.hid hIW; clear hIW; clear hbx))
  obtain ⟨b13, hb13⟩ : ∃ b13, yx.heap.size = b13 := ⟨_, rfl⟩
  have hvv : Below yx.heap.size yx (yx.alloc (.cells #[.slice (some ⟨GW, 0, none⟩) N N, .int .i64 dd] 82)) := (Below.refl _ _).alloc (Nat.le_refl _) _
  have r0 : (yx.alloc (.cells #[.slice (some ⟨GW, 0, none⟩) N N, .int .i64 dd] 82)).cell? ⟨b13, 0, none⟩ = some (.slice (some ⟨GW, 0, none⟩) N N) := by rw [← hb13]; simp [go_sem]
  have r1 : (yx.alloc (.cells #[.slice (some ⟨GW, 0, none⟩) N N, .int .i64 dd] 82)).cell? ⟨b13, 1, none⟩ = some (.int .i64 dd) := by rw [← hb13]; simp [go_sem]
  replace g0 := keep hvv g0
  replace g1 := keep hvv g1
  replace T7 := Lib.hid (T7.out.on hvv)
  replace TW := Lib.hid (TW.out.bel hvv)
  replace BV := Lib.hid (belowT BV.out hvv)
  clear hvv
  generalize (yx.alloc (.cells #[.slice (some ⟨GW, 0, none⟩) N N, .int .i64 dd] 82)) = v6 at *
  rw [hb13]
  clear hb13
  go_wp2_with (first
    | (go_at_call 60; (with_reducible refine Calls.mono (HFW.out _ _ TW.out) ?_); rintro e yx ⟨rfl, hbx⟩; (try replace l0 := keep hbx l0); (try replace l1 := keep hbx l1); (try replace m0 := keep hbx m0); (try replace m1 := keep hbx m1); (try replace g0 := keep hbx g0); (try replace g1 := keep hbx g1); (try replace p0 := keep hbx p0); (try replace p1 := keep hbx p1); (try replace r0 := keep hbx r0); (try replace r1 := keep hbx r1); (try replace T1 := Lib.hid (T1.out.bel hbx)); (try replace T7 := Lib.hid (T7.out.on hbx)); (try replace TW := Lib.hid (TW.out.bel hbx)); (first | replace BV := Lib.hid (belowT (show Below w.heap.size w _ by have Bq := BV.out; have Bz := Bq.size; (repeat (first | with_reducible exact Below.refl _ _ | with_reducible assumption | with_reducible refine Below.alloc ?_ (by first | (simp; done) | (simp; omega) | omega) _ | with_reducible refine Below.setCell ?_ (by first | (simp; done) | (simp; omega) | omega) _ | with_reducible refine Below.drew ?_ | with_reducible refine below_drewN ?_ _))) hbx) | have BV := Lib.hid (belowT (show Below w.heap.size w _ by (repeat (first | with_reducible exact Below.refl _ _ | with_reducible assumption | with_reducible refine Below.alloc ?_ (by first | (simp; done) | (simp; omega) | omega) _ | with_reducible refine Below.setCell ?_ (by first | (simp; done) | (simp; omega) | omega) _ | with_reducible refine Below.drew ?_ | with_reducible refine below_drewN ?_ _))) hbx)); clear hbx)
    | (go_at_call 66; (with_reducible refine Calls.mono (HSF.out _ _ _ T7.out.ia) ?_); rintro e yx ⟨rfl, hbx⟩; (try replace l0 := keep hbx l0); (try replace l1 := keep hbx l1); (try replace m0 := keep hbx m0); (try replace m1 := keep hbx m1); (try replace g0 := keep hbx g0); (try replace g1 := keep hbx g1); (try replace p0 := keep hbx p0); (try replace p1 := keep hbx p1); (try replace r0 := keep hbx r0); (try replace r1 := keep hbx r1); (try replace T1 := Lib.hid (T1.out.bel hbx)); (try replace T7 := Lib.hid (T7.out.on hbx)); (try replace TW := Lib.hid (TW.out.bel hbx)); (first | replace BV := Lib.hid (belowT (show Below w.heap.size w _ by have Bq := BV.out; have Bz := Bq.size; (repeat (first | with_reducible exact Below.refl _ _ | with_reducible assumption | with_reducible refine Below.alloc ?_ (by first | (simp; done) | (simp; omega) | omega) _ | with_reducible refine Below.setCell ?_ (by first | (simp; done) | (simp; omega) | omega) _ | with_reducible refine Below.drew ?_ | with_reducible refine below_drewN ?_ _))) hbx) | have BV := Lib.hid (belowT (show Below w.heap.size w _ by (repeat (first | with_reducible exact Below.refl _ _ | with_reducible assumption | with_reducible refine Below.alloc ?_ (by first | (simp; done) | (simp; omega) | omega) _ | with_reducible refine Below.setCell ?_ (by first | (simp; done) | (simp; omega) | omega) _ | with_reducible refine Below.drew ?_ | with_reducible refine below_drewN ?_ _))) hbx)); clear hbx))
  go_ret
  exact ⟨rfl, BV.out⟩
set_option maxRecDepth 100000 in
set_option maxHeartbeats 4000000 in
theorem sc_qok (A A2 : Option Addr) (L cA M cB : Nat) (xs ys : Nat → Int) (d1 d2 q : Int) (w : World) (hL : L ≤ 10) (hM : M ≤ 10) (hF : flE L xs d1 = 0) (hQ : rgE q 0 3 = 2) (hG : flE M ys d2 = 0) (hW : flE (L + M - 1) (cvK xs ys M L) (d1 * d2) = 0) (hI : IS w (.slice A L cA) L xs) (hJ : IS w (.slice A2 M cB) M ys) :
    Calls Try.prog 10 #[.agg #[.slice A L cA, .int .i64 d1], .agg #[.slice A2 M cB, .int .i64 d2], .int .i64 q] w fun e w' => e = .returned (.bool true) ∧ Below w.heap.size w w' := by
  have hL2 : ¬ (L : Int) > 10 := by omega
  have hM2 : ¬ (M : Int) > 10 := by omega
  have hA : IA w A L xs := by obtain ⟨A', c', e, h, _⟩ := hI; cases e; exact h
  have hB : IA w A2 M ys := by obtain ⟨A', c', e, h, _⟩ := hJ; cases e; exact h
  have HCF := Lib.hid (fun W (hW : Below w.heap.size w W) => copyFilter_any A L cA xs d1 W (by omega) (hI.on hW))
  have HCG := Lib.hid (fun W (hW : Below w.heap.size w W) => copyFilter_any A2 M cB ys d2 W (by omega) (hJ.on hW))
  have HFE := Lib.hid (fun W (hW : Below w.heap.size w W) => filterErr_any A L cA xs d1 W (by omega) (hA.bel hW))
  rw [hF] at HFE
  have HFG := Lib.hid (fun W (hW : Below w.heap.size w W) => filterErr_any A2 M cB ys d2 W (by omega) (hB.bel hW))
  rw [hG] at HFG
  have HQE := Lib.hid (fun W => quarterR_any q W)
  rw [hQ] at HQE
  have HRA := Lib.hid (fun A1 c1 W (h : IA W A1 L xs) => responseAt_err A1 L c1 xs d1 q (2) (by rw [hF, hQ]; rfl) (by decide) W (by omega) h)
  have hE : coE L xs d1 M ys d2 = 0 := by unfold coE fs2; rw [hF, if_pos rfl]; exact hG
  have HCR := Lib.hid (fun W (hW : Below w.heap.size w W) => composedR_any A A2 L cA M cB xs ys d1 d2 hE W (hA.bel hW) (hB.bel hW))
  have HCO := Lib.hid (fun A1 c1 A3 c3 W (h1 : IA W A1 L xs) (h2 : IA W A3 M ys) => composedS_k A1 A3 L c1 M c3 xs ys d1 d2 hE hW W h1 h2)
  have HFW := Lib.hid (fun G W (h : IA W (some ⟨G, 0, none⟩) (L + M - 1) (cvK xs ys M L)) => filterErr_any (some ⟨G, 0, none⟩) (L + M - 1) (L + M - 1) (cvK xs ys M L) (d1 * d2) W (by omega) h)
  rw [hW] at HFW
  have HSF := Lib.hid (fun A1 c1 A3 c3 W (h1 : IA W A1 (L + M - 1) (cvK xs ys M L)) (h2 : IA W A3 (L + M - 1) (cvK xs ys M L)) => sameFilter_any A1 A3 (L + M - 1) c1 c3 (cvK xs ys M L) (d1 * d2) W (by omega) h1 h2)
  clear hE hW
  generalize cvK xs ys M L = zs at *
  generalize d1 * d2 = dd at *
  obtain ⟨N, hN⟩ : ∃ N, L + M - 1 = N := ⟨_, rfl⟩
  rw [hN] at HCR HFW HCO HSF
  clear hN
  clear hA hB hI hJ hF hQ hG
  go_enter Try.func10, Try.ntmps10
  go_upto_region 5 with (go_at_call 17; (with_reducible refine Calls.mono (awake_any _) ?_); rintro e yx ⟨rfl, hbx⟩; (try replace l0 := keep hbx l0); (try replace l1 := keep hbx l1); (try replace m0 := keep hbx m0); (try replace m1 := keep hbx m1); (try replace g0 := keep hbx g0); (try replace g1 := keep hbx g1); (try replace p0 := keep hbx p0); (try replace p1 := keep hbx p1); (try replace r0 := keep hbx r0); (try replace r1 := keep hbx r1); (try replace T1 := Lib.hid (T1.out.bel hbx)); (try replace T7 := Lib.hid (T7.out.on hbx)); (try replace TW := Lib.hid (TW.out.bel hbx)); (first | replace BV := Lib.hid (belowT (show Below w.heap.size w _ by have Bq := BV.out; have Bz := Bq.size; (repeat (first | with_reducible exact Below.refl _ _ | with_reducible assumption | with_reducible refine Below.alloc ?_ (by first | (simp; done) | (simp; omega) | omega) _ | with_reducible refine Below.setCell ?_ (by first | (simp; done) | (simp; omega) | omega) _ | with_reducible refine Below.drew ?_ | with_reducible refine below_drewN ?_ _))) hbx) | have BV := Lib.hid (belowT (show Below w.heap.size w _ by (repeat (first | with_reducible exact Below.refl _ _ | with_reducible assumption | with_reducible refine Below.alloc ?_ (by first | (simp; done) | (simp; omega) | omega) _ | with_reducible refine Below.setCell ?_ (by first | (simp; done) | (simp; omega) | omega) _ | with_reducible refine Below.drew ?_ | with_reducible refine below_drewN ?_ _))) hbx)); have l0 := keep hbx (b := w.heap.size) (o := 0) (v := .slice A L cA) (by simp [go_sem]); have l1 := keep hbx (b := w.heap.size) (o := 1) (v := .int .i64 d1) (by simp [go_sem]); have m0 := keep hbx (b := w.heap.size + 1) (o := 0) (v := .slice A2 M cB) (by simp [go_sem]); have m1 := keep hbx (b := w.heap.size + 1) (o := 1) (v := .int .i64 d2) (by simp [go_sem]); clear hbx)
  have HB0 := BV
  generalize yx = v0 at *
  clear BV
  refine wp_region_st se0 (by kernel_rfl) [mpEq (.agg #[.slice A L cA, .int .i64 d1]), mpCF L xs d1, mpEq (.agg #[.slice A2 M cB, .int .i64 d2]), mpCF M ys d2, mpTC (N) (zs) (dd) (0), mpTC (N) (zs) (dd) (0), mpCZ (N) (zs) (dd), mpTop, mpF0 v0.heap.size, mpTop, mpTop] [(fun _ => True), (fun _ => True), (fun _ => True), (fun _ => True), tcV (N) (dd) (0), tcV (N) (dd) (0), (fun _ => True), (· = .int .i64 (0)), (fun _ => True), (fun _ => True), (· = .int .i64 (0))] (mpVC v0.heap.size (N) (zs) (dd)) 9 8 7 (by kernel_rfl) (by kernel_rfl) (by kernel_rfl) (by kernel_rfl) rfl (
        allOps_cons (rs_not (by kernel_rfl) (fun a' w' hb hs hd hp => rs_op fun K hK => by
      have e1 := (hs.get 3 (by kernel_rfl)).trans (show _ = Value.pointer (some ⟨w.heap.size, 0, none⟩) from rfl)
      have c0 := keep hb l0
      have c1 := keep hb l1
      clear hs hd hp
      unfold Oper.wp
      generalize a'.eval = ρ at e1 ⊢
      simp [go_sem, e1, c0, c1]
      exact hK _ _ (Below.refl _ _) rfl trivial)) <|
        allOps_cons (rs_not (by kernel_rfl) (fun a' w' hb hs hd hp => by
      exact rs_fn (φ := (mpCF L xs d1).p) (ψ := (fun _ => True)) (vs := #[.agg #[.slice A L cA, .int .i64 d1]]) rfl (enters_of Try.func58 (by kernel_rfl) rfl) (by simp [(show a'.eval (.tmp 27) = .agg #[.slice A L cA, .int .i64 d1] from RDeps.get (hd (by kernel_rfl)) 0 27 (by kernel_rfl) (by kernel_rfl))]) ((HCF.out w' (belowT HB0.out hb)).mono (by rintro e w1 ⟨A', c', rfl, h1, h2, _⟩; exact ⟨_, rfl, h1, ⟨A', c', rfl, h2⟩, trivial⟩)))) <|
        allOps_cons (rs_not (by kernel_rfl) (fun a' w' hb hs hd hp => rs_op fun K hK => by
      have e1 := (hs.get 4 (by kernel_rfl)).trans (show _ = Value.pointer (some ⟨w.heap.size + 1, 0, none⟩) from rfl)
      have c0 := keep hb m0
      have c1 := keep hb m1
      clear hs hd hp
      unfold Oper.wp
      generalize a'.eval = ρ at e1 ⊢
      simp [go_sem, e1, c0, c1]
      exact hK _ _ (Below.refl _ _) rfl trivial)) <|
        allOps_cons (rs_not (by kernel_rfl) (fun a' w' hb hs hd hp => by
      exact rs_fn (φ := (mpCF M ys d2).p) (ψ := (fun _ => True)) (vs := #[.agg #[.slice A2 M cB, .int .i64 d2]]) rfl (enters_of Try.func58 (by kernel_rfl) rfl) (by simp [(show a'.eval (.tmp 29) = .agg #[.slice A2 M cB, .int .i64 d2] from RDeps.get (hd (by kernel_rfl)) 2 29 (by kernel_rfl) (by kernel_rfl))]) ((HCG.out w' (belowT HB0.out hb)).mono (by rintro e w1 ⟨A', c', rfl, h1, h2, _⟩; exact ⟨_, rfl, h1, ⟨A', c', rfl, h2⟩, trivial⟩)))) <|
        allOps_cons (rs_not (by kernel_rfl) (fun a' w' hb hs hd hp => by
      obtain ⟨X1, c1, e1, k1⟩ := (show (mpCF L xs d1).p (a'.eval (.tmp 28)) w' from RDeps.get (hd (by kernel_rfl)) 1 28 (by kernel_rfl) (by kernel_rfl))
      obtain ⟨X2, c2, e2, k2⟩ := (show (mpCF M ys d2).p (a'.eval (.tmp 30)) w' from RDeps.get (hd (by kernel_rfl)) 3 30 (by kernel_rfl) (by kernel_rfl))
      exact rs_fn (φ := (mpTC (N) (zs) (dd) (0)).p) (ψ := tcV (N) (dd) (0)) (vs := #[.agg #[.slice X1 L c1, .int .i64 d1], .agg #[.slice X2 M c2, .int .i64 d2]]) rfl (enters_of Try.func64 (by kernel_rfl) rfl) (by simp [e1, e2]) ((HCO.out X1 c1 X2 c2 w' k1 k2).mono (by rintro e w1 ⟨A', c', rfl, h1, h2⟩; exact ⟨_, rfl, h1, ⟨A', c', rfl, h2⟩, A', c', rfl⟩)))) <|
        allOps_cons (rs_not (by kernel_rfl) (fun a' w' hb hs hd hp => rs_op fun K hK => by
      obtain ⟨At, ct, e0, ht⟩ := (show (mpTC (N) (zs) (dd) (0)).p (a'.eval (.tmp 31)) w' from RDeps.get (hd (by kernel_rfl)) 4 31 (by kernel_rfl) (by kernel_rfl))
      clear hs hd hp
      unfold Oper.wp
      generalize a'.eval = ρ at e0 ⊢
      simp [go_sem, e0]
      exact hK _ _ (Below.refl _ _) ⟨At, ct, rfl, ht⟩ ⟨At, ct, rfl⟩)) <|
        allOps_cons (rs_not (by kernel_rfl) (fun a' w' hb hs hd hp => rs_op fun K hK => by
      obtain ⟨At, ct, e0, ht⟩ := (show (mpTC (N) (zs) (dd) (0)).p (a'.eval (.tmp 26)) w' from RDeps.get (hd (by kernel_rfl)) 5 26 (by kernel_rfl) (by kernel_rfl))
      clear hs hd hp
      unfold Oper.wp
      generalize a'.eval = ρ at e0 ⊢
      simp [go_sem, e0]
      exact hK _ _ (Below.refl _ _) ⟨At, ct, rfl, ht⟩ trivial)) <|
        allOps_cons (rs_not (by kernel_rfl) (fun a' w' hb hs hd hp => rs_op fun K hK => by
      obtain ⟨At, ct, e0⟩ := (show tcV (N) (dd) (0) (a'.eval (.tmp 26)) from hp.get 5 26 (by kernel_rfl) (by kernel_rfl))
      clear hs hd hp
      unfold Oper.wp
      generalize a'.eval = ρ at e0 ⊢
      simp [go_sem, e0]
      exact hK _ _ (Below.refl _ _) trivial rfl)) <|
        allOps_cons (rs_not (by kernel_rfl) (fun a' w' hb hs hd hp => rs_op fun K hK => by
      have hz := hb.size
      clear hs hd hp
      unfold Oper.wp
      generalize a'.eval = ρ
      simp [go_sem]
      exact hK _ _ ((Below.refl _ _).alloc (Nat.le_refl _) _) ⟨_, rfl, hz, ⟨by simp [go_sem], by simp [go_sem]⟩, by simp [go_sem], by simp [go_sem]⟩ trivial)) <|
        allOps_cons (rs_is (by kernel_rfl) (fun a' w' hb hs hd => rs_st rfl fun K hK => by
      obtain ⟨q7, e1, zq, ⟨c0, c1⟩, f0, f1⟩ := (show (mpF0 v0.heap.size).p (a'.eval (.tmp 7)) w' from hd.get 8 7 (by kernel_rfl) (by kernel_rfl))
      obtain ⟨At, ct, e2, ht⟩ := (show (mpCZ (N) (zs) (dd)).p (a'.eval (.tmp 32)) w' from hd.get 6 32 (by kernel_rfl) (by kernel_rfl))
      have hne : ∀ b, At = some ⟨b, 0, none⟩ → 0 < (N) → b ≠ q7 := fun b e hn he => by
        obtain ⟨b2, e3, hc⟩ := ht hn
        rw [e] at e3
        cases e3
        rw [he] at hc
        have := (hc 0 hn).symm.trans c0
        simp at this
      have hz := lt_of c0
      clear hs hd
      unfold Oper.wp
      generalize a'.eval = ρ at e1 e2 hK ⊢
      simp [go_sem, e1, e2, c0, c1, f0, f1]
      exact hK _ (Below.setCell (Below.setCell hb zq _) zq _) ⟨q7, At, ct, e1, zq, by simp [go_sem, c0], by simp [go_sem, c1], (ht.set hne).set hne⟩)) <|
        allOps_cons (rs_not (by kernel_rfl) (fun a' w' hb hs hd hp => rs_op fun K hK => by
      have e1 := (show a'.eval (.tmp 33) = .int .i64 (0) from hp.get 7 33 (by kernel_rfl) (by kernel_rfl))
      clear hs hd hp
      unfold Oper.wp
      generalize a'.eval = ρ at e1 ⊢
      simp [go_sem, e1]
      exact hK _ _ (Below.refl _ _) trivial rfl)) <| allOps_nil) (fun V v1 hv1 hall hv => ?_)
  have h8 : V 8 = .int .i64 (0) := hall.get 10 rfl (by decide)
  obtain ⟨q7, A7, c7, h7, hBq, g0, g1, hZ⟩ := hv
  clear hall
  simp only [se0, maskPut, Nat.reduceAdd]
  rw [h7, h8]
  clear h7 h8 hBq
  have BV := Lib.hid (belowT HB0.out hv1)
  have T7 := Lib.hid hZ
  replace l0 := keep hv1 l0
  replace l1 := keep hv1 l1
  replace m0 := keep hv1 m0
  replace m1 := keep hv1 m1
  clear hv1 hZ HB0 HCO HCG
  go_upto_region 7 with (first
    | (go_at_call 58; (with_reducible refine Calls.mono (HCF.out _ BV.out) ?_); rintro e yx ⟨AF, cF, rfl, hbx, hIF, _⟩; (try replace l0 := keep hbx l0); (try replace l1 := keep hbx l1); (try replace m0 := keep hbx m0); (try replace m1 := keep hbx m1); (try replace g0 := keep hbx g0); (try replace g1 := keep hbx g1); (try replace p0 := keep hbx p0); (try replace p1 := keep hbx p1); (try replace r0 := keep hbx r0); (try replace r1 := keep hbx r1); (try replace T1 := Lib.hid (T1.out.bel hbx)); (try replace T7 := Lib.hid (T7.out.on hbx)); (try replace TW := Lib.hid (TW.out.bel hbx)); (first | replace BV := Lib.hid (belowT (show Below w.heap.size w _ by have Bq := BV.out; have Bz := Bq.size; (repeat (first | with_reducible exact Below.refl _ _ | with_reducible assumption | with_reducible refine Below.alloc ?_ (by first | (simp; done) | (simp; omega) | omega) _ | with_reducible refine Below.setCell ?_ (by first | (simp; done) | (simp; omega) | omega) _ | with_reducible refine Below.drew ?_ | with_reducible refine below_drewN ?_ _))) hbx) | have BV := Lib.hid (belowT (show Below w.heap.size w _ by (repeat (first | with_reducible exact Below.refl _ _ | with_reducible assumption | with_reducible refine Below.alloc ?_ (by first | (simp; done) | (simp; omega) | omega) _ | with_reducible refine Below.setCell ?_ (by first | (simp; done) | (simp; omega) | omega) _ | with_reducible refine Below.drew ?_ | with_reducible refine below_drewN ?_ _))) hbx)); have T1 := Lib.hid hIF; clear hIF; clear hbx)
    | (go_at_call 65; (with_reducible refine Calls.mono (HRA.out _ _ _ T1.out) ?_); rintro e yx ⟨rfl, hbx⟩; (try replace l0 := keep hbx l0); (try replace l1 := keep hbx l1); (try replace m0 := keep hbx m0); (try replace m1 := keep hbx m1); (try replace g0 := keep hbx g0); (try replace g1 := keep hbx g1); (try replace p0 := keep hbx p0); (try replace p1 := keep hbx p1); (try replace r0 := keep hbx r0); (try replace r1 := keep hbx r1); (try replace T1 := Lib.hid (T1.out.bel hbx)); (try replace T7 := Lib.hid (T7.out.on hbx)); (try replace TW := Lib.hid (TW.out.bel hbx)); (first | replace BV := Lib.hid (belowT (show Below w.heap.size w _ by have Bq := BV.out; have Bz := Bq.size; (repeat (first | with_reducible exact Below.refl _ _ | with_reducible assumption | with_reducible refine Below.alloc ?_ (by first | (simp; done) | (simp; omega) | omega) _ | with_reducible refine Below.setCell ?_ (by first | (simp; done) | (simp; omega) | omega) _ | with_reducible refine Below.drew ?_ | with_reducible refine below_drewN ?_ _))) hbx) | have BV := Lib.hid (belowT (show Below w.heap.size w _ by (repeat (first | with_reducible exact Below.refl _ _ | with_reducible assumption | with_reducible refine Below.alloc ?_ (by first | (simp; done) | (simp; omega) | omega) _ | with_reducible refine Below.setCell ?_ (by first | (simp; done) | (simp; omega) | omega) _ | with_reducible refine Below.drew ?_ | with_reducible refine below_drewN ?_ _))) hbx)); clear hbx))
  obtain ⟨b9, hb9⟩ : ∃ b9, yx.heap.size = b9 := ⟨_, rfl⟩
  have hvv : Below yx.heap.size yx (yx.alloc (.cells #[.int .i64 0, .int .i64 0] 23)) := (Below.refl _ _).alloc (Nat.le_refl _) _
  have p0 : (yx.alloc (.cells #[.int .i64 0, .int .i64 0] 23)).cell? ⟨b9, 0, none⟩ = some (.int .i64 0) := by rw [← hb9]; simp [go_sem]
  have p1 : (yx.alloc (.cells #[.int .i64 0, .int .i64 0] 23)).cell? ⟨b9, 1, none⟩ = some (.int .i64 0) := by rw [← hb9]; simp [go_sem]
  replace l0 := keep hvv l0
  replace l1 := keep hvv l1
  replace m0 := keep hvv m0
  replace m1 := keep hvv m1
  replace g0 := keep hvv g0
  replace g1 := keep hvv g1
  replace T7 := Lib.hid (T7.out.on hvv)
  replace BV := Lib.hid (belowT BV.out hvv)
  clear hvv
  generalize (yx.alloc (.cells #[.int .i64 0, .int .i64 0] 23)) = v2 at *
  rw [hb9]
  clear hb9
  go_upto_region 11 with (first
    | (go_at_call 60; (with_reducible refine Calls.mono (HFE.out _ BV.out) ?_); rintro e yx ⟨rfl, hbx⟩; (try replace l0 := keep hbx l0); (try replace l1 := keep hbx l1); (try replace m0 := keep hbx m0); (try replace m1 := keep hbx m1); (try replace g0 := keep hbx g0); (try replace g1 := keep hbx g1); (try replace p0 := keep hbx p0); (try replace p1 := keep hbx p1); (try replace r0 := keep hbx r0); (try replace r1 := keep hbx r1); (try replace T1 := Lib.hid (T1.out.bel hbx)); (try replace T7 := Lib.hid (T7.out.on hbx)); (try replace TW := Lib.hid (TW.out.bel hbx)); (first | replace BV := Lib.hid (belowT (show Below w.heap.size w _ by have Bq := BV.out; have Bz := Bq.size; (repeat (first | with_reducible exact Below.refl _ _ | with_reducible assumption | with_reducible refine Below.alloc ?_ (by first | (simp; done) | (simp; omega) | omega) _ | with_reducible refine Below.setCell ?_ (by first | (simp; done) | (simp; omega) | omega) _ | with_reducible refine Below.drew ?_ | with_reducible refine below_drewN ?_ _))) hbx) | have BV := Lib.hid (belowT (show Below w.heap.size w _ by (repeat (first | with_reducible exact Below.refl _ _ | with_reducible assumption | with_reducible refine Below.alloc ?_ (by first | (simp; done) | (simp; omega) | omega) _ | with_reducible refine Below.setCell ?_ (by first | (simp; done) | (simp; omega) | omega) _ | with_reducible refine Below.drew ?_ | with_reducible refine below_drewN ?_ _))) hbx)); clear hbx)
    | (go_at_call 67; (with_reducible refine Calls.mono (HQE.out _) ?_); rintro e yx ⟨rfl, hbx⟩; (try replace l0 := keep hbx l0); (try replace l1 := keep hbx l1); (try replace m0 := keep hbx m0); (try replace m1 := keep hbx m1); (try replace g0 := keep hbx g0); (try replace g1 := keep hbx g1); (try replace p0 := keep hbx p0); (try replace p1 := keep hbx p1); (try replace r0 := keep hbx r0); (try replace r1 := keep hbx r1); (try replace T1 := Lib.hid (T1.out.bel hbx)); (try replace T7 := Lib.hid (T7.out.on hbx)); (try replace TW := Lib.hid (TW.out.bel hbx)); (first | replace BV := Lib.hid (belowT (show Below w.heap.size w _ by have Bq := BV.out; have Bz := Bq.size; (repeat (first | with_reducible exact Below.refl _ _ | with_reducible assumption | with_reducible refine Below.alloc ?_ (by first | (simp; done) | (simp; omega) | omega) _ | with_reducible refine Below.setCell ?_ (by first | (simp; done) | (simp; omega) | omega) _ | with_reducible refine Below.drew ?_ | with_reducible refine below_drewN ?_ _))) hbx) | have BV := Lib.hid (belowT (show Below w.heap.size w _ by (repeat (first | with_reducible exact Below.refl _ _ | with_reducible assumption | with_reducible refine Below.alloc ?_ (by first | (simp; done) | (simp; omega) | omega) _ | with_reducible refine Below.setCell ?_ (by first | (simp; done) | (simp; omega) | omega) _ | with_reducible refine Below.drew ?_ | with_reducible refine below_drewN ?_ _))) hbx)); clear hbx))
  generalize yx = vx at *
  refine wp_region_gd [mpEq (.int .i64 2), mpEq (.bool true), mpEq (.bool true), mpEq (.int .i64 2), mpEq (.int .i64 2), mpEq (.bool false), mpEq (.bool false), mpEq (.agg #[.int .i64 0, .int .i64 0]), mpEq (.agg #[.int .i64 0, .int .i64 0]), mpEq (.bool false), mpEq (.bool false), mpEq (.bool false), mpEq (.bool false), mpEq (.int .i64 2), mpEq (.bool false), mpEq (.bool false), mpEq undef, mpEq undef, mpEq undef, mpEq undef, mpEq undef, mpEq undef, mpEq undef, mpEq undef, mpEq undef, mpEq (.bool false), mpEq (.bool false)] se1 (by kernel_rfl) (by kernel_rfl) (by kernel_rfl) (
        allOps_cons (fun a' w' hb hs hd => Or.inl ⟨wanted_n rfl, rg_op fun K hK => by
      have e0 := (hs.get 12 (by kernel_rfl)).trans (show _ = .int .i64 2 from rfl)
      have ec : ∀ v, a'.eval (.const v) = v := fun _ => rfl
      clear hs hd
      unfold Oper.wp
      generalize a'.eval = ρ at e0 ec ⊢
      simp [go_sem, e0]
      exact hK _ _ (Below.refl _ _) rfl⟩) <|
        allOps_cons (fun a' w' hb hs hd => Or.inl ⟨wanted_n rfl, rg_op fun K hK => by
      have e0 := (show a'.eval (.tmp 65) = .int .i64 2 from hd.get 0 65 (by kernel_rfl) (by kernel_rfl))
      have ec : ∀ v, a'.eval (.const v) = v := fun _ => rfl
      clear hs hd
      unfold Oper.wp
      generalize a'.eval = ρ at e0 ec ⊢
      simp [go_sem, e0, ec]
      exact hK _ _ (Below.refl _ _) rfl⟩) <|
        allOps_cons (fun a' w' hb hs hd => Or.inl ⟨wanted_n rfl, rg_op fun K hK => by
      have e0 := (show a'.eval (.tmp 66) = .bool true from hd.get 1 66 (by kernel_rfl) (by kernel_rfl))
      have ec : ∀ v, a'.eval (.const v) = v := fun _ => rfl
      clear hs hd
      unfold Oper.wp
      generalize a'.eval = ρ at e0 ec ⊢
      simp [go_sem, e0]
      exact hK _ _ (Below.refl _ _) rfl⟩) <|
        allOps_cons (fun a' w' hb hs hd => Or.inl ⟨wanted_t (j := 2) (d := 67) rfl (by kernel_rfl) (show a'.eval (.tmp 67) = .bool true from hd.get 2 67 (by kernel_rfl) (by kernel_rfl)), rg_op fun K hK => by
      have e0 := (hs.get 10 (by kernel_rfl)).trans (show _ = .int .i64 2 from rfl)
      have ec : ∀ v, a'.eval (.const v) = v := fun _ => rfl
      clear hs hd
      unfold Oper.wp
      generalize a'.eval = ρ at e0 ec ⊢
      simp [go_sem, e0]
      exact hK _ _ (Below.refl _ _) rfl⟩) <|
        allOps_cons (fun a' w' hb hs hd => Or.inl ⟨wanted_t (j := 2) (d := 67) rfl (by kernel_rfl) (show a'.eval (.tmp 67) = .bool true from hd.get 2 67 (by kernel_rfl) (by kernel_rfl)), rg_op fun K hK => by
      have e0 := (hs.get 12 (by kernel_rfl)).trans (show _ = .int .i64 2 from rfl)
      have ec : ∀ v, a'.eval (.const v) = v := fun _ => rfl
      clear hs hd
      unfold Oper.wp
      generalize a'.eval = ρ at e0 ec ⊢
      simp [go_sem, e0]
      exact hK _ _ (Below.refl _ _) rfl⟩) <|
        allOps_cons (fun a' w' hb hs hd => Or.inl ⟨wanted_t (j := 2) (d := 67) rfl (by kernel_rfl) (show a'.eval (.tmp 67) = .bool true from hd.get 2 67 (by kernel_rfl) (by kernel_rfl)), rg_op fun K hK => by
      have e0 := (show a'.eval (.tmp 68) = .int .i64 2 from hd.get 3 68 (by kernel_rfl) (by kernel_rfl))
      have e1 := (show a'.eval (.tmp 69) = .int .i64 2 from hd.get 4 69 (by kernel_rfl) (by kernel_rfl))
      have ec : ∀ v, a'.eval (.const v) = v := fun _ => rfl
      clear hs hd
      unfold Oper.wp
      generalize a'.eval = ρ at e0 e1 ec ⊢
      simp [go_sem, e0, e1]
      exact hK _ _ (Below.refl _ _) rfl⟩) <|
        allOps_cons (fun a' w' hb hs hd => Or.inl ⟨wanted_t (j := 2) (d := 67) rfl (by kernel_rfl) (show a'.eval (.tmp 67) = .bool true from hd.get 2 67 (by kernel_rfl) (by kernel_rfl)), rg_op fun K hK => by
      have e0 := (show a'.eval (.tmp 70) = .bool false from hd.get 5 70 (by kernel_rfl) (by kernel_rfl))
      have ec : ∀ v, a'.eval (.const v) = v := fun _ => rfl
      clear hs hd
      unfold Oper.wp
      generalize a'.eval = ρ at e0 ec ⊢
      simp [go_sem, e0]
      exact hK _ _ (Below.refl _ _) rfl⟩) <|
        allOps_cons (fun a' w' hb hs hd => Or.inl ⟨wanted_t (j := 6) (d := 71) rfl (by kernel_rfl) (show a'.eval (.tmp 71) = .bool false from hd.get 6 71 (by kernel_rfl) (by kernel_rfl)), rg_op fun K hK => by
      have e0 := (hs.get 9 (by kernel_rfl)).trans (show _ = .pointer (some ⟨b9, 0, none⟩) from rfl)
      have ec : ∀ v, a'.eval (.const v) = v := fun _ => rfl
      have c0 := keep hb p0
      have c1 := keep hb p1
      clear hs hd
      unfold Oper.wp
      generalize a'.eval = ρ at e0 ec ⊢
      simp [go_sem, e0, c0, c1]
      exact hK _ _ (Below.refl _ _) rfl⟩) <|
        allOps_cons (fun a' w' hb hs hd => Or.inl ⟨wanted_t (j := 6) (d := 71) rfl (by kernel_rfl) (show a'.eval (.tmp 71) = .bool false from hd.get 6 71 (by kernel_rfl) (by kernel_rfl)), rg_op fun K hK => by
      have ec : ∀ v, a'.eval (.const v) = v := fun _ => rfl
      clear hs hd
      unfold Oper.wp
      generalize a'.eval = ρ at ec ⊢
      simp [go_sem]
      exact hK _ _ (Below.refl _ _) rfl⟩) <|
        allOps_cons (fun a' w' hb hs hd => Or.inl ⟨wanted_t (j := 6) (d := 71) rfl (by kernel_rfl) (show a'.eval (.tmp 71) = .bool false from hd.get 6 71 (by kernel_rfl) (by kernel_rfl)), rg_op fun K hK => by
      have e0 := (show a'.eval (.tmp 72) = .agg #[.int .i64 0, .int .i64 0] from hd.get 7 72 (by kernel_rfl) (by kernel_rfl))
      have e1 := (show a'.eval (.tmp 73) = .agg #[.int .i64 0, .int .i64 0] from hd.get 8 73 (by kernel_rfl) (by kernel_rfl))
      have ec : ∀ v, a'.eval (.const v) = v := fun _ => rfl
      clear hs hd
      unfold Oper.wp
      generalize a'.eval = ρ at e0 e1 ec ⊢
      simp [go_sem, e0, e1]
      exact hK _ _ (Below.refl _ _) rfl⟩) <|
        allOps_cons (fun a' w' hb hs hd => Or.inl ⟨wanted_t (j := 2) (d := 67) rfl (by kernel_rfl) (show a'.eval (.tmp 67) = .bool true from hd.get 2 67 (by kernel_rfl) (by kernel_rfl)), rg_op fun K hK => by
      have e0 := (show a'.eval (.tmp 71) = .bool false from hd.get 6 71 (by kernel_rfl) (by kernel_rfl))
      have e1 := (show a'.eval (.tmp 74) = .bool false from hd.get 9 74 (by kernel_rfl) (by kernel_rfl))
      have ec : ∀ v, a'.eval (.const v) = v := fun _ => rfl
      clear hs hd
      unfold Oper.wp
      generalize a'.eval = ρ at e0 e1 ec ⊢
      simp [go_sem, e0, e1, ec]
      exact hK _ _ (Below.refl _ _) rfl⟩) <|
        allOps_cons (fun a' w' hb hs hd => Or.inl ⟨wanted_n rfl, rg_op fun K hK => by
      have e0 := (show a'.eval (.tmp 67) = .bool true from hd.get 2 67 (by kernel_rfl) (by kernel_rfl))
      have e1 := (show a'.eval (.tmp 75) = .bool false from hd.get 10 75 (by kernel_rfl) (by kernel_rfl))
      have ec : ∀ v, a'.eval (.const v) = v := fun _ => rfl
      clear hs hd
      unfold Oper.wp
      generalize a'.eval = ρ at e0 e1 ec ⊢
      simp [go_sem, e0, e1, ec]
      exact hK _ _ (Below.refl _ _) rfl⟩) <|
        allOps_cons (fun a' w' hb hs hd => Or.inl ⟨wanted_n rfl, rg_op fun K hK => by
      have e0 := (show a'.eval (.tmp 76) = .bool false from hd.get 11 76 (by kernel_rfl) (by kernel_rfl))
      have ec : ∀ v, a'.eval (.const v) = v := fun _ => rfl
      clear hs hd
      unfold Oper.wp
      generalize a'.eval = ρ at e0 ec ⊢
      simp [go_sem, e0]
      exact hK _ _ (Below.refl _ _) rfl⟩) <|
        allOps_cons (fun a' w' hb hs hd => Or.inl ⟨wanted_t (j := 12) (d := 77) rfl (by kernel_rfl) (show a'.eval (.tmp 77) = .bool false from hd.get 12 77 (by kernel_rfl) (by kernel_rfl)), rg_op fun K hK => by
      have e0 := (hs.get 12 (by kernel_rfl)).trans (show _ = .int .i64 2 from rfl)
      have ec : ∀ v, a'.eval (.const v) = v := fun _ => rfl
      clear hs hd
      unfold Oper.wp
      generalize a'.eval = ρ at e0 ec ⊢
      simp [go_sem, e0]
      exact hK _ _ (Below.refl _ _) rfl⟩) <|
        allOps_cons (fun a' w' hb hs hd => Or.inl ⟨wanted_t (j := 12) (d := 77) rfl (by kernel_rfl) (show a'.eval (.tmp 77) = .bool false from hd.get 12 77 (by kernel_rfl) (by kernel_rfl)), rg_op fun K hK => by
      have e0 := (show a'.eval (.tmp 78) = .int .i64 2 from hd.get 13 78 (by kernel_rfl) (by kernel_rfl))
      have ec : ∀ v, a'.eval (.const v) = v := fun _ => rfl
      clear hs hd
      unfold Oper.wp
      generalize a'.eval = ρ at e0 ec ⊢
      simp [go_sem, e0, ec]
      exact hK _ _ (Below.refl _ _) rfl⟩) <|
        allOps_cons (fun a' w' hb hs hd => Or.inl ⟨wanted_t (j := 12) (d := 77) rfl (by kernel_rfl) (show a'.eval (.tmp 77) = .bool false from hd.get 12 77 (by kernel_rfl) (by kernel_rfl)), rg_op fun K hK => by
      have e0 := (show a'.eval (.tmp 79) = .bool false from hd.get 14 79 (by kernel_rfl) (by kernel_rfl))
      have ec : ∀ v, a'.eval (.const v) = v := fun _ => rfl
      clear hs hd
      unfold Oper.wp
      generalize a'.eval = ρ at e0 ec ⊢
      simp [go_sem, e0]
      exact hK _ _ (Below.refl _ _) rfl⟩) <|
        allOps_cons (fun a' w' hb hs hd => Or.inr ⟨wanted_f (j := 15) (d := 80) rfl (by kernel_rfl) (show a'.eval (.tmp 80) = .bool false from hd.get 15 80 (by kernel_rfl) (by kernel_rfl)) rfl, rfl⟩) <|
        allOps_cons (fun a' w' hb hs hd => Or.inr ⟨wanted_f (j := 15) (d := 80) rfl (by kernel_rfl) (show a'.eval (.tmp 80) = .bool false from hd.get 15 80 (by kernel_rfl) (by kernel_rfl)) rfl, rfl⟩) <|
        allOps_cons (fun a' w' hb hs hd => Or.inr ⟨wanted_f (j := 15) (d := 80) rfl (by kernel_rfl) (show a'.eval (.tmp 80) = .bool false from hd.get 15 80 (by kernel_rfl) (by kernel_rfl)) rfl, rfl⟩) <|
        allOps_cons (fun a' w' hb hs hd => Or.inr ⟨wanted_u (j := 18) (d := 83) rfl (by kernel_rfl) (show a'.eval (.tmp 83) = undef from hd.get 18 83 (by kernel_rfl) (by kernel_rfl)), rfl⟩) <|
        allOps_cons (fun a' w' hb hs hd => Or.inr ⟨wanted_u (j := 18) (d := 83) rfl (by kernel_rfl) (show a'.eval (.tmp 83) = undef from hd.get 18 83 (by kernel_rfl) (by kernel_rfl)), rfl⟩) <|
        allOps_cons (fun a' w' hb hs hd => Or.inr ⟨wanted_u (j := 18) (d := 83) rfl (by kernel_rfl) (show a'.eval (.tmp 83) = undef from hd.get 18 83 (by kernel_rfl) (by kernel_rfl)), rfl⟩) <|
        allOps_cons (fun a' w' hb hs hd => Or.inr ⟨wanted_u (j := 18) (d := 83) rfl (by kernel_rfl) (show a'.eval (.tmp 83) = undef from hd.get 18 83 (by kernel_rfl) (by kernel_rfl)), rfl⟩) <|
        allOps_cons (fun a' w' hb hs hd => Or.inr ⟨wanted_u (j := 18) (d := 83) rfl (by kernel_rfl) (show a'.eval (.tmp 83) = undef from hd.get 18 83 (by kernel_rfl) (by kernel_rfl)), rfl⟩) <|
        allOps_cons (fun a' w' hb hs hd => Or.inr ⟨wanted_f (j := 15) (d := 80) rfl (by kernel_rfl) (show a'.eval (.tmp 80) = .bool false from hd.get 15 80 (by kernel_rfl) (by kernel_rfl)) rfl, rfl⟩) <|
        allOps_cons (fun a' w' hb hs hd => Or.inl ⟨wanted_t (j := 12) (d := 77) rfl (by kernel_rfl) (show a'.eval (.tmp 77) = .bool false from hd.get 12 77 (by kernel_rfl) (by kernel_rfl)), rg_op fun K hK => by
      have e0 := (show a'.eval (.tmp 80) = .bool false from hd.get 15 80 (by kernel_rfl) (by kernel_rfl))
      have ec : ∀ v, a'.eval (.const v) = v := fun _ => rfl
      clear hs hd
      unfold Oper.wp
      generalize a'.eval = ρ at e0 ec ⊢
      simp [go_sem, e0, ec]
      exact hK _ _ (Below.refl _ _) rfl⟩) <|
        allOps_cons (fun a' w' hb hs hd => Or.inl ⟨wanted_n rfl, rg_op fun K hK => by
      have e0 := (show a'.eval (.tmp 77) = .bool false from hd.get 12 77 (by kernel_rfl) (by kernel_rfl))
      have e1 := (show a'.eval (.tmp 90) = .bool false from hd.get 25 90 (by kernel_rfl) (by kernel_rfl))
      have ec : ∀ v, a'.eval (.const v) = v := fun _ => rfl
      clear hs hd
      unfold Oper.wp
      generalize a'.eval = ρ at e0 e1 ec ⊢
      simp [go_sem, e0, e1, ec]
      exact hK _ _ (Below.refl _ _) rfl⟩) <| allOps_nil) (fun V v5 hv5 hall => ?_)
  have h91 : V 91 = .bool false := hall.get 26 rfl
  clear hall
  simp only [se1, maskPut, Nat.reduceAdd]
  rw [h91]
  clear h91
  replace BV := Lib.hid (belowT BV.out hv5)
  replace l0 := keep hv5 l0
  replace l1 := keep hv5 l1
  replace m0 := keep hv5 m0
  replace m1 := keep hv5 m1
  replace g0 := keep hv5 g0
  replace g1 := keep hv5 g1
  replace T7 := Lib.hid (T7.out.on hv5)
  clear hv5 p0 p1
  go_upto_region 17 with (first
    | (go_at_call 60; (with_reducible refine Calls.mono (HFG.out _ BV.out) ?_); rintro e yx ⟨rfl, hbx⟩; (try replace l0 := keep hbx l0); (try replace l1 := keep hbx l1); (try replace m0 := keep hbx m0); (try replace m1 := keep hbx m1); (try replace g0 := keep hbx g0); (try replace g1 := keep hbx g1); (try replace p0 := keep hbx p0); (try replace p1 := keep hbx p1); (try replace r0 := keep hbx r0); (try replace r1 := keep hbx r1); (try replace T1 := Lib.hid (T1.out.bel hbx)); (try replace T7 := Lib.hid (T7.out.on hbx)); (try replace TW := Lib.hid (TW.out.bel hbx)); (first | replace BV := Lib.hid (belowT (show Below w.heap.size w _ by have Bq := BV.out; have Bz := Bq.size; (repeat (first | with_reducible exact Below.refl _ _ | with_reducible assumption | with_reducible refine Below.alloc ?_ (by first | (simp; done) | (simp; omega) | omega) _ | with_reducible refine Below.setCell ?_ (by first | (simp; done) | (simp; omega) | omega) _ | with_reducible refine Below.drew ?_ | with_reducible refine below_drewN ?_ _))) hbx) | have BV := Lib.hid (belowT (show Below w.heap.size w _ by (repeat (first | with_reducible exact Below.refl _ _ | with_reducible assumption | with_reducible refine Below.alloc ?_ (by first | (simp; done) | (simp; omega) | omega) _ | with_reducible refine Below.setCell ?_ (by first | (simp; done) | (simp; omega) | omega) _ | with_reducible refine Below.drew ?_ | with_reducible refine below_drewN ?_ _))) hbx)); clear hbx)
    | (go_at_call 69; (with_reducible refine Calls.mono (HCR.out _ BV.out) ?_); rintro e yx ⟨GW, rfl, hbx, hIW⟩; (try replace l0 := keep hbx l0); (try replace l1 := keep hbx l1); (try replace m0 := keep hbx m0); (try replace m1 := keep hbx m1); (try replace g0 := keep hbx g0); (try replace g1 := keep hbx g1); (try replace p0 := keep hbx p0); (try replace p1 := keep hbx p1); (try replace r0 := keep hbx r0); (try replace r1 := keep hbx r1); (try replace T1 := Lib.hid (T1.out.bel hbx)); (try replace T7 := Lib.hid (T7.out.on hbx)); (try replace TW := Lib.hid (TW.out.bel hbx)); (first | replace BV := Lib.hid (belowT (show Below w.heap.size w _ by have Bq := BV.out; have Bz := Bq.size; (repeat (first | with_reducible exact Below.refl _ _ | with_reducible assumption | with_reducible refine Below.alloc ?_ (by first | (simp; done) | (simp; omega) | omega) _ | with_reducible refine Below.setCell ?_ (by first | (simp; done) | (simp; omega) | omega) _ | with_reducible refine Below.drew ?_ | with_reducible refine below_drewN ?_ _))) hbx) | have BV := Lib.hid (belowT (show Below w.heap.size w _ by (repeat (first | with_reducible exact Below.refl _ _ | with_reducible assumption | with_reducible refine Below.alloc ?_ (by first | (simp; done) | (simp; omega) | omega) _ | with_reducible refine Below.setCell ?_ (by first | (simp; done) | (simp; omega) | omega) _ | with_reducible refine Below.drew ?_ | with_reducible refine below_drewN ?_ _))) hbx)); have TW := Lib.hid hIW; clear hIW; clear hbx))
  obtain ⟨b13, hb13⟩ : ∃ b13, yx.heap.size = b13 := ⟨_, rfl⟩
  have hvv : Below yx.heap.size yx (yx.alloc (.cells #[.slice (some ⟨GW, 0, none⟩) N N, .int .i64 dd] 82)) := (Below.refl _ _).alloc (Nat.le_refl _) _
  have r0 : (yx.alloc (.cells #[.slice (some ⟨GW, 0, none⟩) N N, .int .i64 dd] 82)).cell? ⟨b13, 0, none⟩ = some (.slice (some ⟨GW, 0, none⟩) N N) := by rw [← hb13]; simp [go_sem]
  have r1 : (yx.alloc (.cells #[.slice (some ⟨GW, 0, none⟩) N N, .int .i64 dd] 82)).cell? ⟨b13, 1, none⟩ = some (.int .i64 dd) := by rw [← hb13]; simp [go_sem]
  replace g0 := keep hvv g0
  replace g1 := keep hvv g1
  replace T7 := Lib.hid (T7.out.on hvv)
  replace TW := Lib.hid (TW.out.bel hvv)
  replace BV := Lib.hid (belowT BV.out hvv)
  clear hvv
  generalize (yx.alloc (.cells #[.slice (some ⟨GW, 0, none⟩) N N, .int .i64 dd] 82)) = v6 at *
  rw [hb13]
  clear hb13
  go_wp2_with (first
    | (go_at_call 60; (with_reducible refine Calls.mono (HFW.out _ _ TW.out) ?_); rintro e yx ⟨rfl, hbx⟩; (try replace l0 := keep hbx l0); (try replace l1 := keep hbx l1); (try replace m0 := keep hbx m0); (try replace m1 := keep hbx m1); (try replace g0 := keep hbx g0); (try replace g1 := keep hbx g1); (try replace p0 := keep hbx p0); (try replace p1 := keep hbx p1); (try replace r0 := keep hbx r0); (try replace r1 := keep hbx r1); (try replace T1 := Lib.hid (T1.out.bel hbx)); (try replace T7 := Lib.hid (T7.out.on hbx)); (try replace TW := Lib.hid (TW.out.bel hbx)); (first | replace BV := Lib.hid (belowT (show Below w.heap.size w _ by have Bq := BV.out; have Bz := Bq.size; (repeat (first | with_reducible exact Below.refl _ _ | with_reducible assumption | with_reducible refine Below.alloc ?_ (by first | (simp; done) | (simp; omega) | omega) _ | with_reducible refine Below.setCell ?_ (by first | (simp; done) | (simp; omega) | omega) _ | with_reducible refine Below.drew ?_ | with_reducible refine below_drewN ?_ _))) hbx) | have BV := Lib.hid (belowT (show Below w.heap.size w _ by (repeat (first | with_reducible exact Below.refl _ _ | with_reducible assumption | with_reducible refine Below.alloc ?_ (by first | (simp; done) | (simp; omega) | omega) _ | with_reducible refine Below.setCell ?_ (by first | (simp; done) | (simp; omega) | omega) _ | with_reducible refine Below.drew ?_ | with_reducible refine below_drewN ?_ _))) hbx)); clear hbx)
    | (go_at_call 66; (with_reducible refine Calls.mono (HSF.out _ _ _ _ _ T7.out.ia TW.out) ?_); rintro e yx ⟨rfl, hbx⟩; (try replace l0 := keep hbx l0); (try replace l1 := keep hbx l1); (try replace m0 := keep hbx m0); (try replace m1 := keep hbx m1); (try replace g0 := keep hbx g0); (try replace g1 := keep hbx g1); (try replace p0 := keep hbx p0); (try replace p1 := keep hbx p1); (try replace r0 := keep hbx r0); (try replace r1 := keep hbx r1); (try replace T1 := Lib.hid (T1.out.bel hbx)); (try replace T7 := Lib.hid (T7.out.on hbx)); (try replace TW := Lib.hid (TW.out.bel hbx)); (first | replace BV := Lib.hid (belowT (show Below w.heap.size w _ by have Bq := BV.out; have Bz := Bq.size; (repeat (first | with_reducible exact Below.refl _ _ | with_reducible assumption | with_reducible refine Below.alloc ?_ (by first | (simp; done) | (simp; omega) | omega) _ | with_reducible refine Below.setCell ?_ (by first | (simp; done) | (simp; omega) | omega) _ | with_reducible refine Below.drew ?_ | with_reducible refine below_drewN ?_ _))) hbx) | have BV := Lib.hid (belowT (show Below w.heap.size w _ by (repeat (first | with_reducible exact Below.refl _ _ | with_reducible assumption | with_reducible refine Below.alloc ?_ (by first | (simp; done) | (simp; omega) | omega) _ | with_reducible refine Below.setCell ?_ (by first | (simp; done) | (simp; omega) | omega) _ | with_reducible refine Below.drew ?_ | with_reducible refine below_drewN ?_ _))) hbx)); clear hbx))
  go_ret
  exact ⟨rfl, BV.out⟩
set_option maxRecDepth 100000 in
set_option maxHeartbeats 4000000 in
theorem sc_oG (A A2 : Option Addr) (L cA M cB : Nat) (xs ys : Nat → Int) (d1 d2 q : Int) (G : Int) (G0 : G ≠ 0) (w : World) (hL : L ≤ 10) (hM : M ≤ 10) (hF : flE L xs d1 = 0) (hQ : rgE q 0 3 = 0) (hG : flE M ys d2 = G) (hI : IS w (.slice A L cA) L xs) (hJ : IS w (.slice A2 M cB) M ys) :
    Calls Try.prog 10 #[.agg #[.slice A L cA, .int .i64 d1], .agg #[.slice A2 M cB, .int .i64 d2], .int .i64 q] w fun e w' => e = .returned (.bool true) ∧ Below w.heap.size w w' := by
  have hL2 : ¬ (L : Int) > 10 := by omega
  have hM2 : ¬ (M : Int) > 10 := by omega
  have hA : IA w A L xs := by obtain ⟨A', c', e, h, _⟩ := hI; cases e; exact h
  have hB : IA w A2 M ys := by obtain ⟨A', c', e, h, _⟩ := hJ; cases e; exact h
  have HCF := Lib.hid (fun W (hW : Below w.heap.size w W) => copyFilter_any A L cA xs d1 W (by omega) (hI.on hW))
  have HCG := Lib.hid (fun W (hW : Below w.heap.size w W) => copyFilter_any A2 M cB ys d2 W (by omega) (hJ.on hW))
  have HFE := Lib.hid (fun W (hW : Below w.heap.size w W) => filterErr_any A L cA xs d1 W (by omega) (hA.bel hW))
  rw [hF] at HFE
  have HFG := Lib.hid (fun W (hW : Below w.heap.size w W) => filterErr_any A2 M cB ys d2 W (by omega) (hB.bel hW))
  rw [hG] at HFG
  have HQE := Lib.hid (fun W => quarterR_any q W)
  rw [hQ] at HQE
  have HRA := Lib.hid (fun A1 c1 W (h : IA W A1 L xs) => responseAt_ok A1 L c1 xs d1 q (by rw [hF, hQ]; rfl) W h)
  have HRR := Lib.hid (fun W (hW : Below w.heap.size w W) => responseR_any A L cA xs d1 q hF hQ W (hA.bel hW))
  generalize (bnS (-q) (re0 xs) L).1 = X at *
  generalize (bnS (-q) (re0 xs) L).2 = Y at *
  have HCO := Lib.hid (fun A1 c1 A3 c3 W (h1 : IA W A1 L xs) (h2 : IA W A3 M ys) => composedS_e A1 A3 L c1 M c3 xs ys (fun _ => 0) d1 d2 (G) (Or.inl ⟨by unfold coE fs2; rw [hF, if_pos rfl]; exact hG, G0⟩) hL hM W h1 h2)
  have HSF := Lib.hid (fun A1 c1 W (h1 : IA W A1 0 (fun _ => 0)) => sameFilter_any A1 none 0 c1 0 (fun _ => 0) 0 W (by omega) h1 (fun h => absurd h (by omega)))
  have x1 : (G == 0) = false := by simpa using G0
  have x2 : (G != 0) = true := by simpa using G0
  clear G0
  clear hA hB hI hJ hF hQ hG
  go_enter Try.func10, Try.ntmps10
  go_upto_region 5 with (go_at_call 17; (with_reducible refine Calls.mono (awake_any _) ?_); rintro e yx ⟨rfl, hbx⟩; (try replace l0 := keep hbx l0); (try replace l1 := keep hbx l1); (try replace m0 := keep hbx m0); (try replace m1 := keep hbx m1); (try replace g0 := keep hbx g0); (try replace g1 := keep hbx g1); (try replace p0 := keep hbx p0); (try replace p1 := keep hbx p1); (try replace r0 := keep hbx r0); (try replace r1 := keep hbx r1); (try replace T1 := Lib.hid (T1.out.bel hbx)); (try replace T7 := Lib.hid (T7.out.on hbx)); (try replace TW := Lib.hid (TW.out.bel hbx)); (first | replace BV := Lib.hid (belowT (show Below w.heap.size w _ by have Bq := BV.out; have Bz := Bq.size; (repeat (first | with_reducible exact Below.refl _ _ | with_reducible assumption | with_reducible refine Below.alloc ?_ (by first | (simp; done) | (simp; omega) | omega) _ | with_reducible refine Below.setCell ?_ (by first | (simp; done) | (simp; omega) | omega) _ | with_reducible refine Below.drew ?_ | with_reducible refine below_drewN ?_ _))) hbx) | have BV := Lib.hid (belowT (show Below w.heap.size w _ by (repeat (first | with_reducible exact Below.refl _ _ | with_reducible assumption | with_reducible refine Below.alloc ?_ (by first | (simp; done) | (simp; omega) | omega) _ | with_reducible refine Below.setCell ?_ (by first | (simp; done) | (simp; omega) | omega) _ | with_reducible refine Below.drew ?_ | with_reducible refine below_drewN ?_ _))) hbx)); have l0 := keep hbx (b := w.heap.size) (o := 0) (v := .slice A L cA) (by simp [go_sem]); have l1 := keep hbx (b := w.heap.size) (o := 1) (v := .int .i64 d1) (by simp [go_sem]); have m0 := keep hbx (b := w.heap.size + 1) (o := 0) (v := .slice A2 M cB) (by simp [go_sem]); have m1 := keep hbx (b := w.heap.size + 1) (o := 1) (v := .int .i64 d2) (by simp [go_sem]); clear hbx)
  have HB0 := BV
  generalize yx = v0 at *
  clear BV
  refine wp_region_st se0 (by kernel_rfl) [mpEq (.agg #[.slice A L cA, .int .i64 d1]), mpCF L xs d1, mpEq (.agg #[.slice A2 M cB, .int .i64 d2]), mpCF M ys d2, mpTC (0) (fun _ => 0) (0) (G), mpTC (0) (fun _ => 0) (0) (G), mpCZ (0) (fun _ => 0) (0), mpTop, mpF0 v0.heap.size, mpTop, mpTop] [(fun _ => True), (fun _ => True), (fun _ => True), (fun _ => True), tcV (0) (0) (G), tcV (0) (0) (G), (fun _ => True), (· = .int .i64 (G)), (fun _ => True), (fun _ => True), (· = .int .i64 (G))] (mpVC v0.heap.size (0) (fun _ => 0) (0)) 9 8 7 (by kernel_rfl) (by kernel_rfl) (by kernel_rfl) (by kernel_rfl) rfl (
        allOps_cons (rs_not (by kernel_rfl) (fun a' w' hb hs hd hp => rs_op fun K hK => by
      have e1 := (hs.get 3 (by kernel_rfl)).trans (show _ = Value.pointer (some ⟨w.heap.size, 0, none⟩) from rfl)
      have c0 := keep hb l0
      have c1 := keep hb l1
      clear hs hd hp
      unfold Oper.wp
      generalize a'.eval = ρ at e1 ⊢
      simp [go_sem, e1, c0, c1]
      exact hK _ _ (Below.refl _ _) rfl trivial)) <|
        allOps_cons (rs_not (by kernel_rfl) (fun a' w' hb hs hd hp => by
      exact rs_fn (φ := (mpCF L xs d1).p) (ψ := (fun _ => True)) (vs := #[.agg #[.slice A L cA, .int .i64 d1]]) rfl (enters_of Try.func58 (by kernel_rfl) rfl) (by simp [(show a'.eval (.tmp 27) = .agg #[.slice A L cA, .int .i64 d1] from RDeps.get (hd (by kernel_rfl)) 0 27 (by kernel_rfl) (by kernel_rfl))]) ((HCF.out w' (belowT HB0.out hb)).mono (by rintro e w1 ⟨A', c', rfl, h1, h2, _⟩; exact ⟨_, rfl, h1, ⟨A', c', rfl, h2⟩, trivial⟩)))) <|
        allOps_cons (rs_not (by kernel_rfl) (fun a' w' hb hs hd hp => rs_op fun K hK => by
      have e1 := (hs.get 4 (by kernel_rfl)).trans (show _ = Value.pointer (some ⟨w.heap.size + 1, 0, none⟩) from rfl)
      have c0 := keep hb m0
      have c1 := keep hb m1
      clear hs hd hp
      unfold Oper.wp
      generalize a'.eval = ρ at e1 ⊢
      simp [go_sem, e1, c0, c1]
      exact hK _ _ (Below.refl _ _) rfl trivial)) <|
        allOps_cons (rs_not (by kernel_rfl) (fun a' w' hb hs hd hp => by
      exact rs_fn (φ := (mpCF M ys d2).p) (ψ := (fun _ => True)) (vs := #[.agg #[.slice A2 M cB, .int .i64 d2]]) rfl (enters_of Try.func58 (by kernel_rfl) rfl) (by simp [(show a'.eval (.tmp 29) = .agg #[.slice A2 M cB, .int .i64 d2] from RDeps.get (hd (by kernel_rfl)) 2 29 (by kernel_rfl) (by kernel_rfl))]) ((HCG.out w' (belowT HB0.out hb)).mono (by rintro e w1 ⟨A', c', rfl, h1, h2, _⟩; exact ⟨_, rfl, h1, ⟨A', c', rfl, h2⟩, trivial⟩)))) <|
        allOps_cons (rs_not (by kernel_rfl) (fun a' w' hb hs hd hp => by
      obtain ⟨X1, c1, e1, k1⟩ := (show (mpCF L xs d1).p (a'.eval (.tmp 28)) w' from RDeps.get (hd (by kernel_rfl)) 1 28 (by kernel_rfl) (by kernel_rfl))
      obtain ⟨X2, c2, e2, k2⟩ := (show (mpCF M ys d2).p (a'.eval (.tmp 30)) w' from RDeps.get (hd (by kernel_rfl)) 3 30 (by kernel_rfl) (by kernel_rfl))
      exact rs_fn (φ := (mpTC (0) (fun _ => 0) (0) (G)).p) (ψ := tcV (0) (0) (G)) (vs := #[.agg #[.slice X1 L c1, .int .i64 d1], .agg #[.slice X2 M c2, .int .i64 d2]]) rfl (enters_of Try.func64 (by kernel_rfl) rfl) (by simp [e1, e2]) ((HCO.out X1 c1 X2 c2 w' k1 k2).mono (by rintro e w1 ⟨A', c', rfl, h1, h2⟩; exact ⟨_, rfl, h1, ⟨A', c', rfl, h2⟩, A', c', rfl⟩)))) <|
        allOps_cons (rs_not (by kernel_rfl) (fun a' w' hb hs hd hp => rs_op fun K hK => by
      obtain ⟨At, ct, e0, ht⟩ := (show (mpTC (0) (fun _ => 0) (0) (G)).p (a'.eval (.tmp 31)) w' from RDeps.get (hd (by kernel_rfl)) 4 31 (by kernel_rfl) (by kernel_rfl))
      clear hs hd hp
      unfold Oper.wp
      generalize a'.eval = ρ at e0 ⊢
      simp [go_sem, e0]
      exact hK _ _ (Below.refl _ _) ⟨At, ct, rfl, ht⟩ ⟨At, ct, rfl⟩)) <|
        allOps_cons (rs_not (by kernel_rfl) (fun a' w' hb hs hd hp => rs_op fun K hK => by
      obtain ⟨At, ct, e0, ht⟩ := (show (mpTC (0) (fun _ => 0) (0) (G)).p (a'.eval (.tmp 26)) w' from RDeps.get (hd (by kernel_rfl)) 5 26 (by kernel_rfl) (by kernel_rfl))
      clear hs hd hp
      unfold Oper.wp
      generalize a'.eval = ρ at e0 ⊢
      simp [go_sem, e0]
      exact hK _ _ (Below.refl _ _) ⟨At, ct, rfl, ht⟩ trivial)) <|
        allOps_cons (rs_not (by kernel_rfl) (fun a' w' hb hs hd hp => rs_op fun K hK => by
      obtain ⟨At, ct, e0⟩ := (show tcV (0) (0) (G) (a'.eval (.tmp 26)) from hp.get 5 26 (by kernel_rfl) (by kernel_rfl))
      clear hs hd hp
      unfold Oper.wp
      generalize a'.eval = ρ at e0 ⊢
      simp [go_sem, e0]
      exact hK _ _ (Below.refl _ _) trivial rfl)) <|
        allOps_cons (rs_not (by kernel_rfl) (fun a' w' hb hs hd hp => rs_op fun K hK => by
      have hz := hb.size
      clear hs hd hp
      unfold Oper.wp
      generalize a'.eval = ρ
      simp [go_sem]
      exact hK _ _ ((Below.refl _ _).alloc (Nat.le_refl _) _) ⟨_, rfl, hz, ⟨by simp [go_sem], by simp [go_sem]⟩, by simp [go_sem], by simp [go_sem]⟩ trivial)) <|
        allOps_cons (rs_is (by kernel_rfl) (fun a' w' hb hs hd => rs_st rfl fun K hK => by
      obtain ⟨q7, e1, zq, ⟨c0, c1⟩, f0, f1⟩ := (show (mpF0 v0.heap.size).p (a'.eval (.tmp 7)) w' from hd.get 8 7 (by kernel_rfl) (by kernel_rfl))
      obtain ⟨At, ct, e2, ht⟩ := (show (mpCZ (0) (fun _ => 0) (0)).p (a'.eval (.tmp 32)) w' from hd.get 6 32 (by kernel_rfl) (by kernel_rfl))
      have hne : ∀ b, At = some ⟨b, 0, none⟩ → 0 < (0) → b ≠ q7 := fun b e hn he => by
        obtain ⟨b2, e3, hc⟩ := ht hn
        rw [e] at e3
        cases e3
        rw [he] at hc
        have := (hc 0 hn).symm.trans c0
        simp at this
      have hz := lt_of c0
      clear hs hd
      unfold Oper.wp
      generalize a'.eval = ρ at e1 e2 hK ⊢
      simp [go_sem, e1, e2, c0, c1, f0, f1]
      exact hK _ (Below.setCell (Below.setCell hb zq _) zq _) ⟨q7, At, ct, e1, zq, by simp [go_sem, c0], by simp [go_sem, c1], (ht.set hne).set hne⟩)) <|
        allOps_cons (rs_not (by kernel_rfl) (fun a' w' hb hs hd hp => rs_op fun K hK => by
      have e1 := (show a'.eval (.tmp 33) = .int .i64 (G) from hp.get 7 33 (by kernel_rfl) (by kernel_rfl))
      clear hs hd hp
      unfold Oper.wp
      generalize a'.eval = ρ at e1 ⊢
      simp [go_sem, e1]
      exact hK _ _ (Below.refl _ _) trivial rfl)) <| allOps_nil) (fun V v1 hv1 hall hv => ?_)
  have h8 : V 8 = .int .i64 (G) := hall.get 10 rfl (by decide)
  obtain ⟨q7, A7, c7, h7, hBq, g0, g1, hZ⟩ := hv
  clear hall
  simp only [se0, maskPut, Nat.reduceAdd]
  rw [h7, h8]
  clear h7 h8 hBq
  have BV := Lib.hid (belowT HB0.out hv1)
  have T7 := Lib.hid hZ
  replace l0 := keep hv1 l0
  replace l1 := keep hv1 l1
  replace m0 := keep hv1 m0
  replace m1 := keep hv1 m1
  clear hv1 hZ HB0 HCO HCG
  go_upto_region 7 with (first
    | (go_at_call 58; (with_reducible refine Calls.mono (HCF.out _ BV.out) ?_); rintro e yx ⟨AF, cF, rfl, hbx, hIF, _⟩; (try replace l0 := keep hbx l0); (try replace l1 := keep hbx l1); (try replace m0 := keep hbx m0); (try replace m1 := keep hbx m1); (try replace g0 := keep hbx g0); (try replace g1 := keep hbx g1); (try replace p0 := keep hbx p0); (try replace p1 := keep hbx p1); (try replace r0 := keep hbx r0); (try replace r1 := keep hbx r1); (try replace T1 := Lib.hid (T1.out.bel hbx)); (try replace T7 := Lib.hid (T7.out.on hbx)); (try replace TW := Lib.hid (TW.out.bel hbx)); (first | replace BV := Lib.hid (belowT (show Below w.heap.size w _ by have Bq := BV.out; have Bz := Bq.size; (repeat (first | with_reducible exact Below.refl _ _ | with_reducible assumption | with_reducible refine Below.alloc ?_ (by first | (simp; done) | (simp; omega) | omega) _ | with_reducible refine Below.setCell ?_ (by first | (simp; done) | (simp; omega) | omega) _ | with_reducible refine Below.drew ?_ | with_reducible refine below_drewN ?_ _))) hbx) | have BV := Lib.hid (belowT (show Below w.heap.size w _ by (repeat (first | with_reducible exact Below.refl _ _ | with_reducible assumption | with_reducible refine Below.alloc ?_ (by first | (simp; done) | (simp; omega) | omega) _ | with_reducible refine Below.setCell ?_ (by first | (simp; done) | (simp; omega) | omega) _ | with_reducible refine Below.drew ?_ | with_reducible refine below_drewN ?_ _))) hbx)); have T1 := Lib.hid hIF; clear hIF; clear hbx)
    | (go_at_call 65; (with_reducible refine Calls.mono (HRA.out _ _ _ T1.out) ?_); rintro e yx ⟨rfl, hbx⟩; (try replace l0 := keep hbx l0); (try replace l1 := keep hbx l1); (try replace m0 := keep hbx m0); (try replace m1 := keep hbx m1); (try replace g0 := keep hbx g0); (try replace g1 := keep hbx g1); (try replace p0 := keep hbx p0); (try replace p1 := keep hbx p1); (try replace r0 := keep hbx r0); (try replace r1 := keep hbx r1); (try replace T1 := Lib.hid (T1.out.bel hbx)); (try replace T7 := Lib.hid (T7.out.on hbx)); (try replace TW := Lib.hid (TW.out.bel hbx)); (first | replace BV := Lib.hid (belowT (show Below w.heap.size w _ by have Bq := BV.out; have Bz := Bq.size; (repeat (first | with_reducible exact Below.refl _ _ | with_reducible assumption | with_reducible refine Below.alloc ?_ (by first | (simp; done) | (simp; omega) | omega) _ | with_reducible refine Below.setCell ?_ (by first | (simp; done) | (simp; omega) | omega) _ | with_reducible refine Below.drew ?_ | with_reducible refine below_drewN ?_ _))) hbx) | have BV := Lib.hid (belowT (show Below w.heap.size w _ by (repeat (first | with_reducible exact Below.refl _ _ | with_reducible assumption | with_reducible refine Below.alloc ?_ (by first | (simp; done) | (simp; omega) | omega) _ | with_reducible refine Below.setCell ?_ (by first | (simp; done) | (simp; omega) | omega) _ | with_reducible refine Below.drew ?_ | with_reducible refine below_drewN ?_ _))) hbx)); clear hbx))
  obtain ⟨b9, hb9⟩ : ∃ b9, yx.heap.size = b9 := ⟨_, rfl⟩
  have hvv : Below yx.heap.size yx (yx.alloc (.cells #[.int .i64 X, .int .i64 Y] 23)) := (Below.refl _ _).alloc (Nat.le_refl _) _
  have p0 : (yx.alloc (.cells #[.int .i64 X, .int .i64 Y] 23)).cell? ⟨b9, 0, none⟩ = some (.int .i64 X) := by rw [← hb9]; simp [go_sem]
  have p1 : (yx.alloc (.cells #[.int .i64 X, .int .i64 Y] 23)).cell? ⟨b9, 1, none⟩ = some (.int .i64 Y) := by rw [← hb9]; simp [go_sem]
  replace l0 := keep hvv l0
  replace l1 := keep hvv l1
  replace m0 := keep hvv m0
  replace m1 := keep hvv m1
  replace g0 := keep hvv g0
  replace g1 := keep hvv g1
  replace T7 := Lib.hid (T7.out.on hvv)
  replace BV := Lib.hid (belowT BV.out hvv)
  clear hvv
  generalize (yx.alloc (.cells #[.int .i64 X, .int .i64 Y] 23)) = v2 at *
  rw [hb9]
  clear hb9
  go_upto_region 11 with (first
    | (go_at_call 60; (with_reducible refine Calls.mono (HFE.out _ BV.out) ?_); rintro e yx ⟨rfl, hbx⟩; (try replace l0 := keep hbx l0); (try replace l1 := keep hbx l1); (try replace m0 := keep hbx m0); (try replace m1 := keep hbx m1); (try replace g0 := keep hbx g0); (try replace g1 := keep hbx g1); (try replace p0 := keep hbx p0); (try replace p1 := keep hbx p1); (try replace r0 := keep hbx r0); (try replace r1 := keep hbx r1); (try replace T1 := Lib.hid (T1.out.bel hbx)); (try replace T7 := Lib.hid (T7.out.on hbx)); (try replace TW := Lib.hid (TW.out.bel hbx)); (first | replace BV := Lib.hid (belowT (show Below w.heap.size w _ by have Bq := BV.out; have Bz := Bq.size; (repeat (first | with_reducible exact Below.refl _ _ | with_reducible assumption | with_reducible refine Below.alloc ?_ (by first | (simp; done) | (simp; omega) | omega) _ | with_reducible refine Below.setCell ?_ (by first | (simp; done) | (simp; omega) | omega) _ | with_reducible refine Below.drew ?_ | with_reducible refine below_drewN ?_ _))) hbx) | have BV := Lib.hid (belowT (show Below w.heap.size w _ by (repeat (first | with_reducible exact Below.refl _ _ | with_reducible assumption | with_reducible refine Below.alloc ?_ (by first | (simp; done) | (simp; omega) | omega) _ | with_reducible refine Below.setCell ?_ (by first | (simp; done) | (simp; omega) | omega) _ | with_reducible refine Below.drew ?_ | with_reducible refine below_drewN ?_ _))) hbx)); clear hbx)
    | (go_at_call 67; (with_reducible refine Calls.mono (HQE.out _) ?_); rintro e yx ⟨rfl, hbx⟩; (try replace l0 := keep hbx l0); (try replace l1 := keep hbx l1); (try replace m0 := keep hbx m0); (try replace m1 := keep hbx m1); (try replace g0 := keep hbx g0); (try replace g1 := keep hbx g1); (try replace p0 := keep hbx p0); (try replace p1 := keep hbx p1); (try replace r0 := keep hbx r0); (try replace r1 := keep hbx r1); (try replace T1 := Lib.hid (T1.out.bel hbx)); (try replace T7 := Lib.hid (T7.out.on hbx)); (try replace TW := Lib.hid (TW.out.bel hbx)); (first | replace BV := Lib.hid (belowT (show Below w.heap.size w _ by have Bq := BV.out; have Bz := Bq.size; (repeat (first | with_reducible exact Below.refl _ _ | with_reducible assumption | with_reducible refine Below.alloc ?_ (by first | (simp; done) | (simp; omega) | omega) _ | with_reducible refine Below.setCell ?_ (by first | (simp; done) | (simp; omega) | omega) _ | with_reducible refine Below.drew ?_ | with_reducible refine below_drewN ?_ _))) hbx) | have BV := Lib.hid (belowT (show Below w.heap.size w _ by (repeat (first | with_reducible exact Below.refl _ _ | with_reducible assumption | with_reducible refine Below.alloc ?_ (by first | (simp; done) | (simp; omega) | omega) _ | with_reducible refine Below.setCell ?_ (by first | (simp; done) | (simp; omega) | omega) _ | with_reducible refine Below.drew ?_ | with_reducible refine below_drewN ?_ _))) hbx)); clear hbx))
  generalize yx = vx at *
  refine wp_region_gd [mpEq (.int .i64 0), mpEq (.bool false), mpEq (.bool false), mpEq undef, mpEq undef, mpEq undef, mpEq undef, mpEq undef, mpEq undef, mpEq undef, mpEq undef, mpEq (.bool false), mpEq (.bool false), mpEq (.int .i64 0), mpEq (.bool true), mpEq (.bool true), mpEq (.int .i64 0), mpEq (.bool false), mpEq (.bool false), mpEq (.agg #[.int .i64 X, .int .i64 Y]), mpEq (.agg #[.slice A L cA, .int .i64 d1]), mpEq (.int .i64 q), mpEq (.agg #[.int .i64 X, .int .i64 Y]), mpEq (.bool false), mpEq (.bool false), mpEq (.bool false), mpEq (.bool false)] se1 (by kernel_rfl) (by kernel_rfl) (by kernel_rfl) (
        allOps_cons (fun a' w' hb hs hd => Or.inl ⟨wanted_n rfl, rg_op fun K hK => by
      have e0 := (hs.get 12 (by kernel_rfl)).trans (show _ = .int .i64 0 from rfl)
      have ec : ∀ v, a'.eval (.const v) = v := fun _ => rfl
      clear hs hd
      unfold Oper.wp
      generalize a'.eval = ρ at e0 ec ⊢
      simp [go_sem, e0]
      exact hK _ _ (Below.refl _ _) rfl⟩) <|
        allOps_cons (fun a' w' hb hs hd => Or.inl ⟨wanted_n rfl, rg_op fun K hK => by
      have e0 := (show a'.eval (.tmp 65) = .int .i64 0 from hd.get 0 65 (by kernel_rfl) (by kernel_rfl))
      have ec : ∀ v, a'.eval (.const v) = v := fun _ => rfl
      clear hs hd
      unfold Oper.wp
      generalize a'.eval = ρ at e0 ec ⊢
      simp [go_sem, e0, ec]
      exact hK _ _ (Below.refl _ _) rfl⟩) <|
        allOps_cons (fun a' w' hb hs hd => Or.inl ⟨wanted_n rfl, rg_op fun K hK => by
      have e0 := (show a'.eval (.tmp 66) = .bool false from hd.get 1 66 (by kernel_rfl) (by kernel_rfl))
      have ec : ∀ v, a'.eval (.const v) = v := fun _ => rfl
      clear hs hd
      unfold Oper.wp
      generalize a'.eval = ρ at e0 ec ⊢
      simp [go_sem, e0]
      exact hK _ _ (Below.refl _ _) rfl⟩) <|
        allOps_cons (fun a' w' hb hs hd => Or.inr ⟨wanted_f (j := 2) (d := 67) rfl (by kernel_rfl) (show a'.eval (.tmp 67) = .bool false from hd.get 2 67 (by kernel_rfl) (by kernel_rfl)) rfl, rfl⟩) <|
        allOps_cons (fun a' w' hb hs hd => Or.inr ⟨wanted_f (j := 2) (d := 67) rfl (by kernel_rfl) (show a'.eval (.tmp 67) = .bool false from hd.get 2 67 (by kernel_rfl) (by kernel_rfl)) rfl, rfl⟩) <|
        allOps_cons (fun a' w' hb hs hd => Or.inr ⟨wanted_f (j := 2) (d := 67) rfl (by kernel_rfl) (show a'.eval (.tmp 67) = .bool false from hd.get 2 67 (by kernel_rfl) (by kernel_rfl)) rfl, rfl⟩) <|
        allOps_cons (fun a' w' hb hs hd => Or.inr ⟨wanted_f (j := 2) (d := 67) rfl (by kernel_rfl) (show a'.eval (.tmp 67) = .bool false from hd.get 2 67 (by kernel_rfl) (by kernel_rfl)) rfl, rfl⟩) <|
        allOps_cons (fun a' w' hb hs hd => Or.inr ⟨wanted_u (j := 6) (d := 71) rfl (by kernel_rfl) (show a'.eval (.tmp 71) = undef from hd.get 6 71 (by kernel_rfl) (by kernel_rfl)), rfl⟩) <|
        allOps_cons (fun a' w' hb hs hd => Or.inr ⟨wanted_u (j := 6) (d := 71) rfl (by kernel_rfl) (show a'.eval (.tmp 71) = undef from hd.get 6 71 (by kernel_rfl) (by kernel_rfl)), rfl⟩) <|
        allOps_cons (fun a' w' hb hs hd => Or.inr ⟨wanted_u (j := 6) (d := 71) rfl (by kernel_rfl) (show a'.eval (.tmp 71) = undef from hd.get 6 71 (by kernel_rfl) (by kernel_rfl)), rfl⟩) <|
        allOps_cons (fun a' w' hb hs hd => Or.inr ⟨wanted_f (j := 2) (d := 67) rfl (by kernel_rfl) (show a'.eval (.tmp 67) = .bool false from hd.get 2 67 (by kernel_rfl) (by kernel_rfl)) rfl, rfl⟩) <|
        allOps_cons (fun a' w' hb hs hd => Or.inl ⟨wanted_n rfl, rg_op fun K hK => by
      have e0 := (show a'.eval (.tmp 67) = .bool false from hd.get 2 67 (by kernel_rfl) (by kernel_rfl))
      have ec : ∀ v, a'.eval (.const v) = v := fun _ => rfl
      clear hs hd
      unfold Oper.wp
      generalize a'.eval = ρ at e0 ec ⊢
      simp [go_sem, e0, ec]
      exact hK _ _ (Below.refl _ _) rfl⟩) <|
        allOps_cons (fun a' w' hb hs hd => Or.inl ⟨wanted_n rfl, rg_op fun K hK => by
      have e0 := (show a'.eval (.tmp 76) = .bool false from hd.get 11 76 (by kernel_rfl) (by kernel_rfl))
      have ec : ∀ v, a'.eval (.const v) = v := fun _ => rfl
      clear hs hd
      unfold Oper.wp
      generalize a'.eval = ρ at e0 ec ⊢
      simp [go_sem, e0]
      exact hK _ _ (Below.refl _ _) rfl⟩) <|
        allOps_cons (fun a' w' hb hs hd => Or.inl ⟨wanted_t (j := 12) (d := 77) rfl (by kernel_rfl) (show a'.eval (.tmp 77) = .bool false from hd.get 12 77 (by kernel_rfl) (by kernel_rfl)), rg_op fun K hK => by
      have e0 := (hs.get 12 (by kernel_rfl)).trans (show _ = .int .i64 0 from rfl)
      have ec : ∀ v, a'.eval (.const v) = v := fun _ => rfl
      clear hs hd
      unfold Oper.wp
      generalize a'.eval = ρ at e0 ec ⊢
      simp [go_sem, e0]
      exact hK _ _ (Below.refl _ _) rfl⟩) <|
        allOps_cons (fun a' w' hb hs hd => Or.inl ⟨wanted_t (j := 12) (d := 77) rfl (by kernel_rfl) (show a'.eval (.tmp 77) = .bool false from hd.get 12 77 (by kernel_rfl) (by kernel_rfl)), rg_op fun K hK => by
      have e0 := (show a'.eval (.tmp 78) = .int .i64 0 from hd.get 13 78 (by kernel_rfl) (by kernel_rfl))
      have ec : ∀ v, a'.eval (.const v) = v := fun _ => rfl
      clear hs hd
      unfold Oper.wp
      generalize a'.eval = ρ at e0 ec ⊢
      simp [go_sem, e0, ec]
      exact hK _ _ (Below.refl _ _) rfl⟩) <|
        allOps_cons (fun a' w' hb hs hd => Or.inl ⟨wanted_t (j := 12) (d := 77) rfl (by kernel_rfl) (show a'.eval (.tmp 77) = .bool false from hd.get 12 77 (by kernel_rfl) (by kernel_rfl)), rg_op fun K hK => by
      have e0 := (show a'.eval (.tmp 79) = .bool true from hd.get 14 79 (by kernel_rfl) (by kernel_rfl))
      have ec : ∀ v, a'.eval (.const v) = v := fun _ => rfl
      clear hs hd
      unfold Oper.wp
      generalize a'.eval = ρ at e0 ec ⊢
      simp [go_sem, e0]
      exact hK _ _ (Below.refl _ _) rfl⟩) <|
        allOps_cons (fun a' w' hb hs hd => Or.inl ⟨wanted_t (j := 15) (d := 80) rfl (by kernel_rfl) (show a'.eval (.tmp 80) = .bool true from hd.get 15 80 (by kernel_rfl) (by kernel_rfl)), rg_op fun K hK => by
      have e0 := (hs.get 10 (by kernel_rfl)).trans (show _ = .int .i64 0 from rfl)
      have ec : ∀ v, a'.eval (.const v) = v := fun _ => rfl
      clear hs hd
      unfold Oper.wp
      generalize a'.eval = ρ at e0 ec ⊢
      simp [go_sem, e0]
      exact hK _ _ (Below.refl _ _) rfl⟩) <|
        allOps_cons (fun a' w' hb hs hd => Or.inl ⟨wanted_t (j := 15) (d := 80) rfl (by kernel_rfl) (show a'.eval (.tmp 80) = .bool true from hd.get 15 80 (by kernel_rfl) (by kernel_rfl)), rg_op fun K hK => by
      have e0 := (show a'.eval (.tmp 81) = .int .i64 0 from hd.get 16 81 (by kernel_rfl) (by kernel_rfl))
      have ec : ∀ v, a'.eval (.const v) = v := fun _ => rfl
      clear hs hd
      unfold Oper.wp
      generalize a'.eval = ρ at e0 ec ⊢
      simp [go_sem, e0, ec]
      exact hK _ _ (Below.refl _ _) rfl⟩) <|
        allOps_cons (fun a' w' hb hs hd => Or.inl ⟨wanted_t (j := 15) (d := 80) rfl (by kernel_rfl) (show a'.eval (.tmp 80) = .bool true from hd.get 15 80 (by kernel_rfl) (by kernel_rfl)), rg_op fun K hK => by
      have e0 := (show a'.eval (.tmp 82) = .bool false from hd.get 17 82 (by kernel_rfl) (by kernel_rfl))
      have ec : ∀ v, a'.eval (.const v) = v := fun _ => rfl
      clear hs hd
      unfold Oper.wp
      generalize a'.eval = ρ at e0 ec ⊢
      simp [go_sem, e0]
      exact hK _ _ (Below.refl _ _) rfl⟩) <|
        allOps_cons (fun a' w' hb hs hd => Or.inl ⟨wanted_t (j := 18) (d := 83) rfl (by kernel_rfl) (show a'.eval (.tmp 83) = .bool false from hd.get 18 83 (by kernel_rfl) (by kernel_rfl)), rg_op fun K hK => by
      have e0 := (hs.get 9 (by kernel_rfl)).trans (show _ = .pointer (some ⟨b9, 0, none⟩) from rfl)
      have ec : ∀ v, a'.eval (.const v) = v := fun _ => rfl
      have c0 := keep hb p0
      have c1 := keep hb p1
      clear hs hd
      unfold Oper.wp
      generalize a'.eval = ρ at e0 ec ⊢
      simp [go_sem, e0, c0, c1]
      exact hK _ _ (Below.refl _ _) rfl⟩) <|
        allOps_cons (fun a' w' hb hs hd => Or.inl ⟨wanted_t (j := 18) (d := 83) rfl (by kernel_rfl) (show a'.eval (.tmp 83) = .bool false from hd.get 18 83 (by kernel_rfl) (by kernel_rfl)), rg_op fun K hK => by
      have e0 := (hs.get 3 (by kernel_rfl)).trans (show _ = .pointer (some ⟨w.heap.size, 0, none⟩) from rfl)
      have ec : ∀ v, a'.eval (.const v) = v := fun _ => rfl
      have c0 := keep hb l0
      have c1 := keep hb l1
      clear hs hd
      unfold Oper.wp
      generalize a'.eval = ρ at e0 ec ⊢
      simp [go_sem, e0, c0, c1]
      exact hK _ _ (Below.refl _ _) rfl⟩) <|
        allOps_cons (fun a' w' hb hs hd => Or.inl ⟨wanted_t (j := 18) (d := 83) rfl (by kernel_rfl) (show a'.eval (.tmp 83) = .bool false from hd.get 18 83 (by kernel_rfl) (by kernel_rfl)), rg_op fun K hK => by
      have e0 := (hs.get 2 (by kernel_rfl)).trans (show _ = .int .i64 q from rfl)
      have ec : ∀ v, a'.eval (.const v) = v := fun _ => rfl
      clear hs hd
      unfold Oper.wp
      generalize a'.eval = ρ at e0 ec ⊢
      simp [go_sem, e0]
      exact hK _ _ (Below.refl _ _) rfl⟩) <|
        allOps_cons (fun a' w' hb hs hd => Or.inl ⟨wanted_t (j := 18) (d := 83) rfl (by kernel_rfl) (show a'.eval (.tmp 83) = .bool false from hd.get 18 83 (by kernel_rfl) (by kernel_rfl)), by
      exact rg_fn (φ := (mpEq (.agg #[.int .i64 X, .int .i64 Y])).p) (vs := #[.agg #[.slice A L cA, .int .i64 d1], .int .i64 q]) rfl (enters_of Try.func68 (by kernel_rfl) rfl) (by simp [(show a'.eval (.tmp 85) = .agg #[.slice A L cA, .int .i64 d1] from hd.get 20 85 (by kernel_rfl) (by kernel_rfl)), (show a'.eval (.tmp 86) = .int .i64 q from hd.get 21 86 (by kernel_rfl) (by kernel_rfl))]) ((HRR.out w' (belowT BV.out hb)).mono (by rintro e w1 ⟨rfl, h1⟩; exact ⟨_, rfl, h1, rfl⟩))⟩) <|
        allOps_cons (fun a' w' hb hs hd => Or.inl ⟨wanted_t (j := 18) (d := 83) rfl (by kernel_rfl) (show a'.eval (.tmp 83) = .bool false from hd.get 18 83 (by kernel_rfl) (by kernel_rfl)), rg_op fun K hK => by
      have e0 := (show a'.eval (.tmp 84) = .agg #[.int .i64 X, .int .i64 Y] from hd.get 19 84 (by kernel_rfl) (by kernel_rfl))
      have e1 := (show a'.eval (.tmp 87) = .agg #[.int .i64 X, .int .i64 Y] from hd.get 22 87 (by kernel_rfl) (by kernel_rfl))
      have ec : ∀ v, a'.eval (.const v) = v := fun _ => rfl
      clear hs hd
      unfold Oper.wp
      generalize a'.eval = ρ at e0 e1 ec ⊢
      simp [go_sem, e0, e1]
      exact hK _ _ (Below.refl _ _) rfl⟩) <|
        allOps_cons (fun a' w' hb hs hd => Or.inl ⟨wanted_t (j := 15) (d := 80) rfl (by kernel_rfl) (show a'.eval (.tmp 80) = .bool true from hd.get 15 80 (by kernel_rfl) (by kernel_rfl)), rg_op fun K hK => by
      have e0 := (show a'.eval (.tmp 83) = .bool false from hd.get 18 83 (by kernel_rfl) (by kernel_rfl))
      have e1 := (show a'.eval (.tmp 88) = .bool false from hd.get 23 88 (by kernel_rfl) (by kernel_rfl))
      have ec : ∀ v, a'.eval (.const v) = v := fun _ => rfl
      clear hs hd
      unfold Oper.wp
      generalize a'.eval = ρ at e0 e1 ec ⊢
      simp [go_sem, e0, e1, ec]
      exact hK _ _ (Below.refl _ _) rfl⟩) <|
        allOps_cons (fun a' w' hb hs hd => Or.inl ⟨wanted_t (j := 12) (d := 77) rfl (by kernel_rfl) (show a'.eval (.tmp 77) = .bool false from hd.get 12 77 (by kernel_rfl) (by kernel_rfl)), rg_op fun K hK => by
      have e0 := (show a'.eval (.tmp 80) = .bool true from hd.get 15 80 (by kernel_rfl) (by kernel_rfl))
      have e1 := (show a'.eval (.tmp 89) = .bool false from hd.get 24 89 (by kernel_rfl) (by kernel_rfl))
      have ec : ∀ v, a'.eval (.const v) = v := fun _ => rfl
      clear hs hd
      unfold Oper.wp
      generalize a'.eval = ρ at e0 e1 ec ⊢
      simp [go_sem, e0, e1, ec]
      exact hK _ _ (Below.refl _ _) rfl⟩) <|
        allOps_cons (fun a' w' hb hs hd => Or.inl ⟨wanted_n rfl, rg_op fun K hK => by
      have e0 := (show a'.eval (.tmp 77) = .bool false from hd.get 12 77 (by kernel_rfl) (by kernel_rfl))
      have e1 := (show a'.eval (.tmp 90) = .bool false from hd.get 25 90 (by kernel_rfl) (by kernel_rfl))
      have ec : ∀ v, a'.eval (.const v) = v := fun _ => rfl
      clear hs hd
      unfold Oper.wp
      generalize a'.eval = ρ at e0 e1 ec ⊢
      simp [go_sem, e0, e1, ec]
      exact hK _ _ (Below.refl _ _) rfl⟩) <| allOps_nil) (fun V v5 hv5 hall => ?_)
  have h91 : V 91 = .bool false := hall.get 26 rfl
  clear hall
  simp only [se1, maskPut, Nat.reduceAdd]
  rw [h91]
  clear h91
  replace BV := Lib.hid (belowT BV.out hv5)
  replace l0 := keep hv5 l0
  replace l1 := keep hv5 l1
  replace m0 := keep hv5 m0
  replace m1 := keep hv5 m1
  replace g0 := keep hv5 g0
  replace g1 := keep hv5 g1
  replace T7 := Lib.hid (T7.out.on hv5)
  clear hv5 p0 p1
  go_wp2_with (first
    | (go_at_call 60; (with_reducible refine Calls.mono (HFG.out _ BV.out) ?_); rintro e yx ⟨rfl, hbx⟩; (try replace l0 := keep hbx l0); (try replace l1 := keep hbx l1); (try replace m0 := keep hbx m0); (try replace m1 := keep hbx m1); (try replace g0 := keep hbx g0); (try replace g1 := keep hbx g1); (try replace p0 := keep hbx p0); (try replace p1 := keep hbx p1); (try replace r0 := keep hbx r0); (try replace r1 := keep hbx r1); (try replace T1 := Lib.hid (T1.out.bel hbx)); (try replace T7 := Lib.hid (T7.out.on hbx)); (try replace TW := Lib.hid (TW.out.bel hbx)); (first | replace BV := Lib.hid (belowT (show Below w.heap.size w _ by have Bq := BV.out; have Bz := Bq.size; (repeat (first | with_reducible exact Below.refl _ _ | with_reducible assumption | with_reducible refine Below.alloc ?_ (by first | (simp; done) | (simp; omega) | omega) _ | with_reducible refine Below.setCell ?_ (by first | (simp; done) | (simp; omega) | omega) _ | with_reducible refine Below.drew ?_ | with_reducible refine below_drewN ?_ _))) hbx) | have BV := Lib.hid (belowT (show Below w.heap.size w _ by (repeat (first | with_reducible exact Below.refl _ _ | with_reducible assumption | with_reducible refine Below.alloc ?_ (by first | (simp; done) | (simp; omega) | omega) _ | with_reducible refine Below.setCell ?_ (by first | (simp; done) | (simp; omega) | omega) _ | with_reducible refine Below.drew ?_ | with_reducible refine below_drewN ?_ _))) hbx)); clear hbx)
    | (go_at_call 66; (with_reducible refine Calls.mono (HSF.out _ _ _ T7.out.ia) ?_); rintro e yx ⟨rfl, hbx⟩; (try replace l0 := keep hbx l0); (try replace l1 := keep hbx l1); (try replace m0 := keep hbx m0); (try replace m1 := keep hbx m1); (try replace g0 := keep hbx g0); (try replace g1 := keep hbx g1); (try replace p0 := keep hbx p0); (try replace p1 := keep hbx p1); (try replace r0 := keep hbx r0); (try replace r1 := keep hbx r1); (try replace T1 := Lib.hid (T1.out.bel hbx)); (try replace T7 := Lib.hid (T7.out.on hbx)); (try replace TW := Lib.hid (TW.out.bel hbx)); (first | replace BV := Lib.hid (belowT (show Below w.heap.size w _ by have Bq := BV.out; have Bz := Bq.size; (repeat (first | with_reducible exact Below.refl _ _ | with_reducible assumption | with_reducible refine Below.alloc ?_ (by first | (simp; done) | (simp; omega) | omega) _ | with_reducible refine Below.setCell ?_ (by first | (simp; done) | (simp; omega) | omega) _ | with_reducible refine Below.drew ?_ | with_reducible refine below_drewN ?_ _))) hbx) | have BV := Lib.hid (belowT (show Below w.heap.size w _ by (repeat (first | with_reducible exact Below.refl _ _ | with_reducible assumption | with_reducible refine Below.alloc ?_ (by first | (simp; done) | (simp; omega) | omega) _ | with_reducible refine Below.setCell ?_ (by first | (simp; done) | (simp; omega) | omega) _ | with_reducible refine Below.drew ?_ | with_reducible refine below_drewN ?_ _))) hbx)); clear hbx))
  go_ret
  exact ⟨rfl, BV.out⟩
set_option maxRecDepth 100000 in
set_option maxHeartbeats 4000000 in
theorem sc_obig (A A2 : Option Addr) (L cA M cB : Nat) (xs ys : Nat → Int) (d1 d2 q : Int) (B : Int) (B0 : B ≠ 0) (w : World) (hL : L ≤ 10) (hM : M ≤ 10) (hF : flE L xs d1 = 0) (hQ : rgE q 0 3 = 0) (hG : flE M ys d2 = 0) (hW : flE (L + M - 1) (cvK xs ys M L) (d1 * d2) = B) (hI : IS w (.slice A L cA) L xs) (hJ : IS w (.slice A2 M cB) M ys) :
    Calls Try.prog 10 #[.agg #[.slice A L cA, .int .i64 d1], .agg #[.slice A2 M cB, .int .i64 d2], .int .i64 q] w fun e w' => e = .returned (.bool true) ∧ Below w.heap.size w w' := by
  have hL2 : ¬ (L : Int) > 10 := by omega
  have hM2 : ¬ (M : Int) > 10 := by omega
  have hA : IA w A L xs := by obtain ⟨A', c', e, h, _⟩ := hI; cases e; exact h
  have hB : IA w A2 M ys := by obtain ⟨A', c', e, h, _⟩ := hJ; cases e; exact h
  have HCF := Lib.hid (fun W (hW : Below w.heap.size w W) => copyFilter_any A L cA xs d1 W (by omega) (hI.on hW))
  have HCG := Lib.hid (fun W (hW : Below w.heap.size w W) => copyFilter_any A2 M cB ys d2 W (by omega) (hJ.on hW))
  have HFE := Lib.hid (fun W (hW : Below w.heap.size w W) => filterErr_any A L cA xs d1 W (by omega) (hA.bel hW))
  rw [hF] at HFE
  have HFG := Lib.hid (fun W (hW : Below w.heap.size w W) => filterErr_any A2 M cB ys d2 W (by omega) (hB.bel hW))
  rw [hG] at HFG
  have HQE := Lib.hid (fun W => quarterR_any q W)
  rw [hQ] at HQE
  have HRA := Lib.hid (fun A1 c1 W (h : IA W A1 L xs) => responseAt_ok A1 L c1 xs d1 q (by rw [hF, hQ]; rfl) W h)
  have HRR := Lib.hid (fun W (hW : Below w.heap.size w W) => responseR_any A L cA xs d1 q hF hQ W (hA.bel hW))
  generalize (bnS (-q) (re0 xs) L).1 = X at *
  generalize (bnS (-q) (re0 xs) L).2 = Y at *
  have HCO := Lib.hid (fun A1 c1 A3 c3 W (h1 : IA W A1 L xs) (h2 : IA W A3 M ys) => composedS_e A1 A3 L c1 M c3 xs ys (fun _ => 0) d1 d2 (8) (Or.inr ⟨by unfold coE fs2; rw [hF, if_pos rfl]; exact hG, by rw [hW]; exact B0, rfl⟩) hL hM W h1 h2)
  have HSF := Lib.hid (fun A1 c1 W (h1 : IA W A1 0 (fun _ => 0)) => sameFilter_any A1 none 0 c1 0 (fun _ => 0) 0 W (by omega) h1 (fun h => absurd h (by omega)))
  have hE : coE L xs d1 M ys d2 = 0 := by unfold coE fs2; rw [hF, if_pos rfl]; exact hG
  have HCR := Lib.hid (fun W (hW : Below w.heap.size w W) => composedR_any A A2 L cA M cB xs ys d1 d2 hE W (hA.bel hW) (hB.bel hW))
  have HFW := Lib.hid (fun G W (h : IA W (some ⟨G, 0, none⟩) (L + M - 1) (cvK xs ys M L)) => filterErr_any (some ⟨G, 0, none⟩) (L + M - 1) (L + M - 1) (cvK xs ys M L) (d1 * d2) W (by omega) h)
  rw [hW] at HFW
  clear hE hW
  generalize cvK xs ys M L = zs at *
  generalize d1 * d2 = dd at *
  obtain ⟨N, hN⟩ : ∃ N, L + M - 1 = N := ⟨_, rfl⟩
  rw [hN] at HCR HFW
  clear hN
  have x1 : (B == 0) = false := by simpa using B0
  have x2 : (B != 0) = true := by simpa using B0
  clear B0
  clear hA hB hI hJ hF hQ hG
  go_enter Try.func10, Try.ntmps10
  go_upto_region 5 with (go_at_call 17; (with_reducible refine Calls.mono (awake_any _) ?_); rintro e yx ⟨rfl, hbx⟩; (try replace l0 := keep hbx l0); (try replace l1 := keep hbx l1); (try replace m0 := keep hbx m0); (try replace m1 := keep hbx m1); (try replace g0 := keep hbx g0); (try replace g1 := keep hbx g1); (try replace p0 := keep hbx p0); (try replace p1 := keep hbx p1); (try replace r0 := keep hbx r0); (try replace r1 := keep hbx r1); (try replace T1 := Lib.hid (T1.out.bel hbx)); (try replace T7 := Lib.hid (T7.out.on hbx)); (try replace TW := Lib.hid (TW.out.bel hbx)); (first | replace BV := Lib.hid (belowT (show Below w.heap.size w _ by have Bq := BV.out; have Bz := Bq.size; (repeat (first | with_reducible exact Below.refl _ _ | with_reducible assumption | with_reducible refine Below.alloc ?_ (by first | (simp; done) | (simp; omega) | omega) _ | with_reducible refine Below.setCell ?_ (by first | (simp; done) | (simp; omega) | omega) _ | with_reducible refine Below.drew ?_ | with_reducible refine below_drewN ?_ _))) hbx) | have BV := Lib.hid (belowT (show Below w.heap.size w _ by (repeat (first | with_reducible exact Below.refl _ _ | with_reducible assumption | with_reducible refine Below.alloc ?_ (by first | (simp; done) | (simp; omega) | omega) _ | with_reducible refine Below.setCell ?_ (by first | (simp; done) | (simp; omega) | omega) _ | with_reducible refine Below.drew ?_ | with_reducible refine below_drewN ?_ _))) hbx)); have l0 := keep hbx (b := w.heap.size) (o := 0) (v := .slice A L cA) (by simp [go_sem]); have l1 := keep hbx (b := w.heap.size) (o := 1) (v := .int .i64 d1) (by simp [go_sem]); have m0 := keep hbx (b := w.heap.size + 1) (o := 0) (v := .slice A2 M cB) (by simp [go_sem]); have m1 := keep hbx (b := w.heap.size + 1) (o := 1) (v := .int .i64 d2) (by simp [go_sem]); clear hbx)
  have HB0 := BV
  generalize yx = v0 at *
  clear BV
  refine wp_region_st se0 (by kernel_rfl) [mpEq (.agg #[.slice A L cA, .int .i64 d1]), mpCF L xs d1, mpEq (.agg #[.slice A2 M cB, .int .i64 d2]), mpCF M ys d2, mpTC (0) (fun _ => 0) (0) (8), mpTC (0) (fun _ => 0) (0) (8), mpCZ (0) (fun _ => 0) (0), mpTop, mpF0 v0.heap.size, mpTop, mpTop] [(fun _ => True), (fun _ => True), (fun _ => True), (fun _ => True), tcV (0) (0) (8), tcV (0) (0) (8), (fun _ => True), (· = .int .i64 (8)), (fun _ => True), (fun _ => True), (· = .int .i64 (8))] (mpVC v0.heap.size (0) (fun _ => 0) (0)) 9 8 7 (by kernel_rfl) (by kernel_rfl) (by kernel_rfl) (by kernel_rfl) rfl (
        allOps_cons (rs_not (by kernel_rfl) (fun a' w' hb hs hd hp => rs_op fun K hK => by
      have e1 := (hs.get 3 (by kernel_rfl)).trans (show _ = Value.pointer (some ⟨w.heap.size, 0, none⟩) from rfl)
      have c0 := keep hb l0
      have c1 := keep hb l1
      clear hs hd hp
      unfold Oper.wp
      generalize a'.eval = ρ at e1 ⊢
      simp [go_sem, e1, c0, c1]
      exact hK _ _ (Below.refl _ _) rfl trivial)) <|
        allOps_cons (rs_not (by kernel_rfl) (fun a' w' hb hs hd hp => by
      exact rs_fn (φ := (mpCF L xs d1).p) (ψ := (fun _ => True)) (vs := #[.agg #[.slice A L cA, .int .i64 d1]]) rfl (enters_of Try.func58 (by kernel_rfl) rfl) (by simp [(show a'.eval (.tmp 27) = .agg #[.slice A L cA, .int .i64 d1] from RDeps.get (hd (by kernel_rfl)) 0 27 (by kernel_rfl) (by kernel_rfl))]) ((HCF.out w' (belowT HB0.out hb)).mono (by rintro e w1 ⟨A', c', rfl, h1, h2, _⟩; exact ⟨_, rfl, h1, ⟨A', c', rfl, h2⟩, trivial⟩)))) <|
        allOps_cons (rs_not (by kernel_rfl) (fun a' w' hb hs hd hp => rs_op fun K hK => by
      have e1 := (hs.get 4 (by kernel_rfl)).trans (show _ = Value.pointer (some ⟨w.heap.size + 1, 0, none⟩) from rfl)
      have c0 := keep hb m0
      have c1 := keep hb m1
      clear hs hd hp
      unfold Oper.wp
      generalize a'.eval = ρ at e1 ⊢
      simp [go_sem, e1, c0, c1]
      exact hK _ _ (Below.refl _ _) rfl trivial)) <|
        allOps_cons (rs_not (by kernel_rfl) (fun a' w' hb hs hd hp => by
      exact rs_fn (φ := (mpCF M ys d2).p) (ψ := (fun _ => True)) (vs := #[.agg #[.slice A2 M cB, .int .i64 d2]]) rfl (enters_of Try.func58 (by kernel_rfl) rfl) (by simp [(show a'.eval (.tmp 29) = .agg #[.slice A2 M cB, .int .i64 d2] from RDeps.get (hd (by kernel_rfl)) 2 29 (by kernel_rfl) (by kernel_rfl))]) ((HCG.out w' (belowT HB0.out hb)).mono (by rintro e w1 ⟨A', c', rfl, h1, h2, _⟩; exact ⟨_, rfl, h1, ⟨A', c', rfl, h2⟩, trivial⟩)))) <|
        allOps_cons (rs_not (by kernel_rfl) (fun a' w' hb hs hd hp => by
      obtain ⟨X1, c1, e1, k1⟩ := (show (mpCF L xs d1).p (a'.eval (.tmp 28)) w' from RDeps.get (hd (by kernel_rfl)) 1 28 (by kernel_rfl) (by kernel_rfl))
      obtain ⟨X2, c2, e2, k2⟩ := (show (mpCF M ys d2).p (a'.eval (.tmp 30)) w' from RDeps.get (hd (by kernel_rfl)) 3 30 (by kernel_rfl) (by kernel_rfl))
      exact rs_fn (φ := (mpTC (0) (fun _ => 0) (0) (8)).p) (ψ := tcV (0) (0) (8)) (vs := #[.agg #[.slice X1 L c1, .int .i64 d1], .agg #[.slice X2 M c2, .int .i64 d2]]) rfl (enters_of Try.func64 (by kernel_rfl) rfl) (by simp [e1, e2]) ((HCO.out X1 c1 X2 c2 w' k1 k2).mono (by rintro e w1 ⟨A', c', rfl, h1, h2⟩; exact ⟨_, rfl, h1, ⟨A', c', rfl, h2⟩, A', c', rfl⟩)))) <|
        allOps_cons (rs_not (by kernel_rfl) (fun a' w' hb hs hd hp => rs_op fun K hK => by
      obtain ⟨At, ct, e0, ht⟩ := (show (mpTC (0) (fun _ => 0) (0) (8)).p (a'.eval (.tmp 31)) w' from RDeps.get (hd (by kernel_rfl)) 4 31 (by kernel_rfl) (by kernel_rfl))
      clear hs hd hp
      unfold Oper.wp
      generalize a'.eval = ρ at e0 ⊢
      simp [go_sem, e0]
      exact hK _ _ (Below.refl _ _) ⟨At, ct, rfl, ht⟩ ⟨At, ct, rfl⟩)) <|
        allOps_cons (rs_not (by kernel_rfl) (fun a' w' hb hs hd hp => rs_op fun K hK => by
      obtain ⟨At, ct, e0, ht⟩ := (show (mpTC (0) (fun _ => 0) (0) (8)).p (a'.eval (.tmp 26)) w' from RDeps.get (hd (by kernel_rfl)) 5 26 (by kernel_rfl) (by kernel_rfl))
      clear hs hd hp
      unfold Oper.wp
      generalize a'.eval = ρ at e0 ⊢
      simp [go_sem, e0]
      exact hK _ _ (Below.refl _ _) ⟨At, ct, rfl, ht⟩ trivial)) <|
        allOps_cons (rs_not (by kernel_rfl) (fun a' w' hb hs hd hp => rs_op fun K hK => by
      obtain ⟨At, ct, e0⟩ := (show tcV (0) (0) (8) (a'.eval (.tmp 26)) from hp.get 5 26 (by kernel_rfl) (by kernel_rfl))
      clear hs hd hp
      unfold Oper.wp
      generalize a'.eval = ρ at e0 ⊢
      simp [go_sem, e0]
      exact hK _ _ (Below.refl _ _) trivial rfl)) <|
        allOps_cons (rs_not (by kernel_rfl) (fun a' w' hb hs hd hp => rs_op fun K hK => by
      have hz := hb.size
      clear hs hd hp
      unfold Oper.wp
      generalize a'.eval = ρ
      simp [go_sem]
      exact hK _ _ ((Below.refl _ _).alloc (Nat.le_refl _) _) ⟨_, rfl, hz, ⟨by simp [go_sem], by simp [go_sem]⟩, by simp [go_sem], by simp [go_sem]⟩ trivial)) <|
        allOps_cons (rs_is (by kernel_rfl) (fun a' w' hb hs hd => rs_st rfl fun K hK => by
      obtain ⟨q7, e1, zq, ⟨c0, c1⟩, f0, f1⟩ := (show (mpF0 v0.heap.size).p (a'.eval (.tmp 7)) w' from hd.get 8 7 (by kernel_rfl) (by kernel_rfl))
      obtain ⟨At, ct, e2, ht⟩ := (show (mpCZ (0) (fun _ => 0) (0)).p (a'.eval (.tmp 32)) w' from hd.get 6 32 (by kernel_rfl) (by kernel_rfl))
      have hne : ∀ b, At = some ⟨b, 0, none⟩ → 0 < (0) → b ≠ q7 := fun b e hn he => by
        obtain ⟨b2, e3, hc⟩ := ht hn
        rw [e] at e3
        cases e3
        rw [he] at hc
        have := (hc 0 hn).symm.trans c0
        simp at this
      have hz := lt_of c0
      clear hs hd
      unfold Oper.wp
      generalize a'.eval = ρ at e1 e2 hK ⊢
      simp [go_sem, e1, e2, c0, c1, f0, f1]
      exact hK _ (Below.setCell (Below.setCell hb zq _) zq _) ⟨q7, At, ct, e1, zq, by simp [go_sem, c0], by simp [go_sem, c1], (ht.set hne).set hne⟩)) <|
        allOps_cons (rs_not (by kernel_rfl) (fun a' w' hb hs hd hp => rs_op fun K hK => by
      have e1 := (show a'.eval (.tmp 33) = .int .i64 (8) from hp.get 7 33 (by kernel_rfl) (by kernel_rfl))
      clear hs hd hp
      unfold Oper.wp
      generalize a'.eval = ρ at e1 ⊢
      simp [go_sem, e1]
      exact hK _ _ (Below.refl _ _) trivial rfl)) <| allOps_nil) (fun V v1 hv1 hall hv => ?_)
  have h8 : V 8 = .int .i64 (8) := hall.get 10 rfl (by decide)
  obtain ⟨q7, A7, c7, h7, hBq, g0, g1, hZ⟩ := hv
  clear hall
  simp only [se0, maskPut, Nat.reduceAdd]
  rw [h7, h8]
  clear h7 h8 hBq
  have BV := Lib.hid (belowT HB0.out hv1)
  have T7 := Lib.hid hZ
  replace l0 := keep hv1 l0
  replace l1 := keep hv1 l1
  replace m0 := keep hv1 m0
  replace m1 := keep hv1 m1
  clear hv1 hZ HB0 HCO HCG
  go_upto_region 7 with (first
    | (go_at_call 58; (with_reducible refine Calls.mono (HCF.out _ BV.out) ?_); rintro e yx ⟨AF, cF, rfl, hbx, hIF, _⟩; (try replace l0 := keep hbx l0); (try replace l1 := keep hbx l1); (try replace m0 := keep hbx m0); (try replace m1 := keep hbx m1); (try replace g0 := keep hbx g0); (try replace g1 := keep hbx g1); (try replace p0 := keep hbx p0); (try replace p1 := keep hbx p1); (try replace r0 := keep hbx r0); (try replace r1 := keep hbx r1); (try replace T1 := Lib.hid (T1.out.bel hbx)); (try replace T7 := Lib.hid (T7.out.on hbx)); (try replace TW := Lib.hid (TW.out.bel hbx)); (first | replace BV := Lib.hid (belowT (show Below w.heap.size w _ by have Bq := BV.out; have Bz := Bq.size; (repeat (first | with_reducible exact Below.refl _ _ | with_reducible assumption | with_reducible refine Below.alloc ?_ (by first | (simp; done) | (simp; omega) | omega) _ | with_reducible refine Below.setCell ?_ (by first | (simp; done) | (simp; omega) | omega) _ | with_reducible refine Below.drew ?_ | with_reducible refine below_drewN ?_ _))) hbx) | have BV := Lib.hid (belowT (show Below w.heap.size w _ by (repeat (first | with_reducible exact Below.refl _ _ | with_reducible assumption | with_reducible refine Below.alloc ?_ (by first | (simp; done) | (simp; omega) | omega) _ | with_reducible refine Below.setCell ?_ (by first | (simp; done) | (simp; omega) | omega) _ | with_reducible refine Below.drew ?_ | with_reducible refine below_drewN ?_ _))) hbx)); have T1 := Lib.hid hIF; clear hIF; clear hbx)
    | (go_at_call 65; (with_reducible refine Calls.mono (HRA.out _ _ _ T1.out) ?_); rintro e yx ⟨rfl, hbx⟩; (try replace l0 := keep hbx l0); (try replace l1 := keep hbx l1); (try replace m0 := keep hbx m0); (try replace m1 := keep hbx m1); (try replace g0 := keep hbx g0); (try replace g1 := keep hbx g1); (try replace p0 := keep hbx p0); (try replace p1 := keep hbx p1); (try replace r0 := keep hbx r0); (try replace r1 := keep hbx r1); (try replace T1 := Lib.hid (T1.out.bel hbx)); (try replace T7 := Lib.hid (T7.out.on hbx)); (try replace TW := Lib.hid (TW.out.bel hbx)); (first | replace BV := Lib.hid (belowT (show Below w.heap.size w _ by have Bq := BV.out; have Bz := Bq.size; (repeat (first | with_reducible exact Below.refl _ _ | with_reducible assumption | with_reducible refine Below.alloc ?_ (by first | (simp; done) | (simp; omega) | omega) _ | with_reducible refine Below.setCell ?_ (by first | (simp; done) | (simp; omega) | omega) _ | with_reducible refine Below.drew ?_ | with_reducible refine below_drewN ?_ _))) hbx) | have BV := Lib.hid (belowT (show Below w.heap.size w _ by (repeat (first | with_reducible exact Below.refl _ _ | with_reducible assumption | with_reducible refine Below.alloc ?_ (by first | (simp; done) | (simp; omega) | omega) _ | with_reducible refine Below.setCell ?_ (by first | (simp; done) | (simp; omega) | omega) _ | with_reducible refine Below.drew ?_ | with_reducible refine below_drewN ?_ _))) hbx)); clear hbx))
  obtain ⟨b9, hb9⟩ : ∃ b9, yx.heap.size = b9 := ⟨_, rfl⟩
  have hvv : Below yx.heap.size yx (yx.alloc (.cells #[.int .i64 X, .int .i64 Y] 23)) := (Below.refl _ _).alloc (Nat.le_refl _) _
  have p0 : (yx.alloc (.cells #[.int .i64 X, .int .i64 Y] 23)).cell? ⟨b9, 0, none⟩ = some (.int .i64 X) := by rw [← hb9]; simp [go_sem]
  have p1 : (yx.alloc (.cells #[.int .i64 X, .int .i64 Y] 23)).cell? ⟨b9, 1, none⟩ = some (.int .i64 Y) := by rw [← hb9]; simp [go_sem]
  replace l0 := keep hvv l0
  replace l1 := keep hvv l1
  replace m0 := keep hvv m0
  replace m1 := keep hvv m1
  replace g0 := keep hvv g0
  replace g1 := keep hvv g1
  replace T7 := Lib.hid (T7.out.on hvv)
  replace BV := Lib.hid (belowT BV.out hvv)
  clear hvv
  generalize (yx.alloc (.cells #[.int .i64 X, .int .i64 Y] 23)) = v2 at *
  rw [hb9]
  clear hb9
  go_upto_region 11 with (first
    | (go_at_call 60; (with_reducible refine Calls.mono (HFE.out _ BV.out) ?_); rintro e yx ⟨rfl, hbx⟩; (try replace l0 := keep hbx l0); (try replace l1 := keep hbx l1); (try replace m0 := keep hbx m0); (try replace m1 := keep hbx m1); (try replace g0 := keep hbx g0); (try replace g1 := keep hbx g1); (try replace p0 := keep hbx p0); (try replace p1 := keep hbx p1); (try replace r0 := keep hbx r0); (try replace r1 := keep hbx r1); (try replace T1 := Lib.hid (T1.out.bel hbx)); (try replace T7 := Lib.hid (T7.out.on hbx)); (try replace TW := Lib.hid (TW.out.bel hbx)); (first | replace BV := Lib.hid (belowT (show Below w.heap.size w _ by have Bq := BV.out; have Bz := Bq.size; (repeat (first | with_reducible exact Below.refl _ _ | with_reducible assumption | with_reducible refine Below.alloc ?_ (by first | (simp; done) | (simp; omega) | omega) _ | with_reducible refine Below.setCell ?_ (by first | (simp; done) | (simp; omega) | omega) _ | with_reducible refine Below.drew ?_ | with_reducible refine below_drewN ?_ _))) hbx) | have BV := Lib.hid (belowT (show Below w.heap.size w _ by (repeat (first | with_reducible exact Below.refl _ _ | with_reducible assumption | with_reducible refine Below.alloc ?_ (by first | (simp; done) | (simp; omega) | omega) _ | with_reducible refine Below.setCell ?_ (by first | (simp; done) | (simp; omega) | omega) _ | with_reducible refine Below.drew ?_ | with_reducible refine below_drewN ?_ _))) hbx)); clear hbx)
    | (go_at_call 67; (with_reducible refine Calls.mono (HQE.out _) ?_); rintro e yx ⟨rfl, hbx⟩; (try replace l0 := keep hbx l0); (try replace l1 := keep hbx l1); (try replace m0 := keep hbx m0); (try replace m1 := keep hbx m1); (try replace g0 := keep hbx g0); (try replace g1 := keep hbx g1); (try replace p0 := keep hbx p0); (try replace p1 := keep hbx p1); (try replace r0 := keep hbx r0); (try replace r1 := keep hbx r1); (try replace T1 := Lib.hid (T1.out.bel hbx)); (try replace T7 := Lib.hid (T7.out.on hbx)); (try replace TW := Lib.hid (TW.out.bel hbx)); (first | replace BV := Lib.hid (belowT (show Below w.heap.size w _ by have Bq := BV.out; have Bz := Bq.size; (repeat (first | with_reducible exact Below.refl _ _ | with_reducible assumption | with_reducible refine Below.alloc ?_ (by first | (simp; done) | (simp; omega) | omega) _ | with_reducible refine Below.setCell ?_ (by first | (simp; done) | (simp; omega) | omega) _ | with_reducible refine Below.drew ?_ | with_reducible refine below_drewN ?_ _))) hbx) | have BV := Lib.hid (belowT (show Below w.heap.size w _ by (repeat (first | with_reducible exact Below.refl _ _ | with_reducible assumption | with_reducible refine Below.alloc ?_ (by first | (simp; done) | (simp; omega) | omega) _ | with_reducible refine Below.setCell ?_ (by first | (simp; done) | (simp; omega) | omega) _ | with_reducible refine Below.drew ?_ | with_reducible refine below_drewN ?_ _))) hbx)); clear hbx))
  generalize yx = vx at *
  refine wp_region_gd [mpEq (.int .i64 0), mpEq (.bool false), mpEq (.bool false), mpEq undef, mpEq undef, mpEq undef, mpEq undef, mpEq undef, mpEq undef, mpEq undef, mpEq undef, mpEq (.bool false), mpEq (.bool false), mpEq (.int .i64 0), mpEq (.bool true), mpEq (.bool true), mpEq (.int .i64 0), mpEq (.bool false), mpEq (.bool false), mpEq (.agg #[.int .i64 X, .int .i64 Y]), mpEq (.agg #[.slice A L cA, .int .i64 d1]), mpEq (.int .i64 q), mpEq (.agg #[.int .i64 X, .int .i64 Y]), mpEq (.bool false), mpEq (.bool false), mpEq (.bool false), mpEq (.bool false)] se1 (by kernel_rfl) (by kernel_rfl) (by kernel_rfl) (
        allOps_cons (fun a' w' hb hs hd => Or.inl ⟨wanted_n rfl, rg_op fun K hK => by
      have e0 := (hs.get 12 (by kernel_rfl)).trans (show _ = .int .i64 0 from rfl)
      have ec : ∀ v, a'.eval (.const v) = v := fun _ => rfl
      clear hs hd
      unfold Oper.wp
      generalize a'.eval = ρ at e0 ec ⊢
      simp [go_sem, e0]
      exact hK _ _ (Below.refl _ _) rfl⟩) <|
        allOps_cons (fun a' w' hb hs hd => Or.inl ⟨wanted_n rfl, rg_op fun K hK => by
      have e0 := (show a'.eval (.tmp 65) = .int .i64 0 from hd.get 0 65 (by kernel_rfl) (by kernel_rfl))
      have ec : ∀ v, a'.eval (.const v) = v := fun _ => rfl
      clear hs hd
      unfold Oper.wp
      generalize a'.eval = ρ at e0 ec ⊢
      simp [go_sem, e0, ec]
      exact hK _ _ (Below.refl _ _) rfl⟩) <|
        allOps_cons (fun a' w' hb hs hd => Or.inl ⟨wanted_n rfl, rg_op fun K hK => by
      have e0 := (show a'.eval (.tmp 66) = .bool false from hd.get 1 66 (by kernel_rfl) (by kernel_rfl))
      have ec : ∀ v, a'.eval (.const v) = v := fun _ => rfl
      clear hs hd
      unfold Oper.wp
      generalize a'.eval = ρ at e0 ec ⊢
      simp [go_sem, e0]
      exact hK _ _ (Below.refl _ _) rfl⟩) <|
        allOps_cons (fun a' w' hb hs hd => Or.inr ⟨wanted_f (j := 2) (d := 67) rfl (by kernel_rfl) (show a'.eval (.tmp 67) = .bool false from hd.get 2 67 (by kernel_rfl) (by kernel_rfl)) rfl, rfl⟩) <|
        allOps_cons (fun a' w' hb hs hd => Or.inr ⟨wanted_f (j := 2) (d := 67) rfl (by kernel_rfl) (show a'.eval (.tmp 67) = .bool false from hd.get 2 67 (by kernel_rfl) (by kernel_rfl)) rfl, rfl⟩) <|
        allOps_cons (fun a' w' hb hs hd => Or.inr ⟨wanted_f (j := 2) (d := 67) rfl (by kernel_rfl) (show a'.eval (.tmp 67) = .bool false from hd.get 2 67 (by kernel_rfl) (by kernel_rfl)) rfl, rfl⟩) <|
        allOps_cons (fun a' w' hb hs hd => Or.inr ⟨wanted_f (j := 2) (d := 67) rfl (by kernel_rfl) (show a'.eval (.tmp 67) = .bool false from hd.get 2 67 (by kernel_rfl) (by kernel_rfl)) rfl, rfl⟩) <|
        allOps_cons (fun a' w' hb hs hd => Or.inr ⟨wanted_u (j := 6) (d := 71) rfl (by kernel_rfl) (show a'.eval (.tmp 71) = undef from hd.get 6 71 (by kernel_rfl) (by kernel_rfl)), rfl⟩) <|
        allOps_cons (fun a' w' hb hs hd => Or.inr ⟨wanted_u (j := 6) (d := 71) rfl (by kernel_rfl) (show a'.eval (.tmp 71) = undef from hd.get 6 71 (by kernel_rfl) (by kernel_rfl)), rfl⟩) <|
        allOps_cons (fun a' w' hb hs hd => Or.inr ⟨wanted_u (j := 6) (d := 71) rfl (by kernel_rfl) (show a'.eval (.tmp 71) = undef from hd.get 6 71 (by kernel_rfl) (by kernel_rfl)), rfl⟩) <|
        allOps_cons (fun a' w' hb hs hd => Or.inr ⟨wanted_f (j := 2) (d := 67) rfl (by kernel_rfl) (show a'.eval (.tmp 67) = .bool false from hd.get 2 67 (by kernel_rfl) (by kernel_rfl)) rfl, rfl⟩) <|
        allOps_cons (fun a' w' hb hs hd => Or.inl ⟨wanted_n rfl, rg_op fun K hK => by
      have e0 := (show a'.eval (.tmp 67) = .bool false from hd.get 2 67 (by kernel_rfl) (by kernel_rfl))
      have ec : ∀ v, a'.eval (.const v) = v := fun _ => rfl
      clear hs hd
      unfold Oper.wp
      generalize a'.eval = ρ at e0 ec ⊢
      simp [go_sem, e0, ec]
      exact hK _ _ (Below.refl _ _) rfl⟩) <|
        allOps_cons (fun a' w' hb hs hd => Or.inl ⟨wanted_n rfl, rg_op fun K hK => by
      have e0 := (show a'.eval (.tmp 76) = .bool false from hd.get 11 76 (by kernel_rfl) (by kernel_rfl))
      have ec : ∀ v, a'.eval (.const v) = v := fun _ => rfl
      clear hs hd
      unfold Oper.wp
      generalize a'.eval = ρ at e0 ec ⊢
      simp [go_sem, e0]
      exact hK _ _ (Below.refl _ _) rfl⟩) <|
        allOps_cons (fun a' w' hb hs hd => Or.inl ⟨wanted_t (j := 12) (d := 77) rfl (by kernel_rfl) (show a'.eval (.tmp 77) = .bool false from hd.get 12 77 (by kernel_rfl) (by kernel_rfl)), rg_op fun K hK => by
      have e0 := (hs.get 12 (by kernel_rfl)).trans (show _ = .int .i64 0 from rfl)
      have ec : ∀ v, a'.eval (.const v) = v := fun _ => rfl
      clear hs hd
      unfold Oper.wp
      generalize a'.eval = ρ at e0 ec ⊢
      simp [go_sem, e0]
      exact hK _ _ (Below.refl _ _) rfl⟩) <|
        allOps_cons (fun a' w' hb hs hd => Or.inl ⟨wanted_t (j := 12) (d := 77) rfl (by kernel_rfl) (show a'.eval (.tmp 77) = .bool false from hd.get 12 77 (by kernel_rfl) (by kernel_rfl)), rg_op fun K hK => by
      have e0 := (show a'.eval (.tmp 78) = .int .i64 0 from hd.get 13 78 (by kernel_rfl) (by kernel_rfl))
      have ec : ∀ v, a'.eval (.const v) = v := fun _ => rfl
      clear hs hd
      unfold Oper.wp
      generalize a'.eval = ρ at e0 ec ⊢
      simp [go_sem, e0, ec]
      exact hK _ _ (Below.refl _ _) rfl⟩) <|
        allOps_cons (fun a' w' hb hs hd => Or.inl ⟨wanted_t (j := 12) (d := 77) rfl (by kernel_rfl) (show a'.eval (.tmp 77) = .bool false from hd.get 12 77 (by kernel_rfl) (by kernel_rfl)), rg_op fun K hK => by
      have e0 := (show a'.eval (.tmp 79) = .bool true from hd.get 14 79 (by kernel_rfl) (by kernel_rfl))
      have ec : ∀ v, a'.eval (.const v) = v := fun _ => rfl
      clear hs hd
      unfold Oper.wp
      generalize a'.eval = ρ at e0 ec ⊢
      simp [go_sem, e0]
      exact hK _ _ (Below.refl _ _) rfl⟩) <|
        allOps_cons (fun a' w' hb hs hd => Or.inl ⟨wanted_t (j := 15) (d := 80) rfl (by kernel_rfl) (show a'.eval (.tmp 80) = .bool true from hd.get 15 80 (by kernel_rfl) (by kernel_rfl)), rg_op fun K hK => by
      have e0 := (hs.get 10 (by kernel_rfl)).trans (show _ = .int .i64 0 from rfl)
      have ec : ∀ v, a'.eval (.const v) = v := fun _ => rfl
      clear hs hd
      unfold Oper.wp
      generalize a'.eval = ρ at e0 ec ⊢
      simp [go_sem, e0]
      exact hK _ _ (Below.refl _ _) rfl⟩) <|
        allOps_cons (fun a' w' hb hs hd => Or.inl ⟨wanted_t (j := 15) (d := 80) rfl (by kernel_rfl) (show a'.eval (.tmp 80) = .bool true from hd.get 15 80 (by kernel_rfl) (by kernel_rfl)), rg_op fun K hK => by
      have e0 := (show a'.eval (.tmp 81) = .int .i64 0 from hd.get 16 81 (by kernel_rfl) (by kernel_rfl))
      have ec : ∀ v, a'.eval (.const v) = v := fun _ => rfl
      clear hs hd
      unfold Oper.wp
      generalize a'.eval = ρ at e0 ec ⊢
      simp [go_sem, e0, ec]
      exact hK _ _ (Below.refl _ _) rfl⟩) <|
        allOps_cons (fun a' w' hb hs hd => Or.inl ⟨wanted_t (j := 15) (d := 80) rfl (by kernel_rfl) (show a'.eval (.tmp 80) = .bool true from hd.get 15 80 (by kernel_rfl) (by kernel_rfl)), rg_op fun K hK => by
      have e0 := (show a'.eval (.tmp 82) = .bool false from hd.get 17 82 (by kernel_rfl) (by kernel_rfl))
      have ec : ∀ v, a'.eval (.const v) = v := fun _ => rfl
      clear hs hd
      unfold Oper.wp
      generalize a'.eval = ρ at e0 ec ⊢
      simp [go_sem, e0]
      exact hK _ _ (Below.refl _ _) rfl⟩) <|
        allOps_cons (fun a' w' hb hs hd => Or.inl ⟨wanted_t (j := 18) (d := 83) rfl (by kernel_rfl) (show a'.eval (.tmp 83) = .bool false from hd.get 18 83 (by kernel_rfl) (by kernel_rfl)), rg_op fun K hK => by
      have e0 := (hs.get 9 (by kernel_rfl)).trans (show _ = .pointer (some ⟨b9, 0, none⟩) from rfl)
      have ec : ∀ v, a'.eval (.const v) = v := fun _ => rfl
      have c0 := keep hb p0
      have c1 := keep hb p1
      clear hs hd
      unfold Oper.wp
      generalize a'.eval = ρ at e0 ec ⊢
      simp [go_sem, e0, c0, c1]
      exact hK _ _ (Below.refl _ _) rfl⟩) <|
        allOps_cons (fun a' w' hb hs hd => Or.inl ⟨wanted_t (j := 18) (d := 83) rfl (by kernel_rfl) (show a'.eval (.tmp 83) = .bool false from hd.get 18 83 (by kernel_rfl) (by kernel_rfl)), rg_op fun K hK => by
      have e0 := (hs.get 3 (by kernel_rfl)).trans (show _ = .pointer (some ⟨w.heap.size, 0, none⟩) from rfl)
      have ec : ∀ v, a'.eval (.const v) = v := fun _ => rfl
      have c0 := keep hb l0
      have c1 := keep hb l1
      clear hs hd
      unfold Oper.wp
      generalize a'.eval = ρ at e0 ec ⊢
      simp [go_sem, e0, c0, c1]
      exact hK _ _ (Below.refl _ _) rfl⟩) <|
        allOps_cons (fun a' w' hb hs hd => Or.inl ⟨wanted_t (j := 18) (d := 83) rfl (by kernel_rfl) (show a'.eval (.tmp 83) = .bool false from hd.get 18 83 (by kernel_rfl) (by kernel_rfl)), rg_op fun K hK => by
      have e0 := (hs.get 2 (by kernel_rfl)).trans (show _ = .int .i64 q from rfl)
      have ec : ∀ v, a'.eval (.const v) = v := fun _ => rfl
      clear hs hd
      unfold Oper.wp
      generalize a'.eval = ρ at e0 ec ⊢
      simp [go_sem, e0]
      exact hK _ _ (Below.refl _ _) rfl⟩) <|
        allOps_cons (fun a' w' hb hs hd => Or.inl ⟨wanted_t (j := 18) (d := 83) rfl (by kernel_rfl) (show a'.eval (.tmp 83) = .bool false from hd.get 18 83 (by kernel_rfl) (by kernel_rfl)), by
      exact rg_fn (φ := (mpEq (.agg #[.int .i64 X, .int .i64 Y])).p) (vs := #[.agg #[.slice A L cA, .int .i64 d1], .int .i64 q]) rfl (enters_of Try.func68 (by kernel_rfl) rfl) (by simp [(show a'.eval (.tmp 85) = .agg #[.slice A L cA, .int .i64 d1] from hd.get 20 85 (by kernel_rfl) (by kernel_rfl)), (show a'.eval (.tmp 86) = .int .i64 q from hd.get 21 86 (by kernel_rfl) (by kernel_rfl))]) ((HRR.out w' (belowT BV.out hb)).mono (by rintro e w1 ⟨rfl, h1⟩; exact ⟨_, rfl, h1, rfl⟩))⟩) <|
        allOps_cons (fun a' w' hb hs hd => Or.inl ⟨wanted_t (j := 18) (d := 83) rfl (by kernel_rfl) (show a'.eval (.tmp 83) = .bool false from hd.get 18 83 (by kernel_rfl) (by kernel_rfl)), rg_op fun K hK => by
      have e0 := (show a'.eval (.tmp 84) = .agg #[.int .i64 X, .int .i64 Y] from hd.get 19 84 (by kernel_rfl) (by kernel_rfl))
      have e1 := (show a'.eval (.tmp 87) = .agg #[.int .i64 X, .int .i64 Y] from hd.get 22 87 (by kernel_rfl) (by kernel_rfl))
      have ec : ∀ v, a'.eval (.const v) = v := fun _ => rfl
      clear hs hd
      unfold Oper.wp
      generalize a'.eval = ρ at e0 e1 ec ⊢
      simp [go_sem, e0, e1]
      exact hK _ _ (Below.refl _ _) rfl⟩) <|
        allOps_cons (fun a' w' hb hs hd => Or.inl ⟨wanted_t (j := 15) (d := 80) rfl (by kernel_rfl) (show a'.eval (.tmp 80) = .bool true from hd.get 15 80 (by kernel_rfl) (by kernel_rfl)), rg_op fun K hK => by
      have e0 := (show a'.eval (.tmp 83) = .bool false from hd.get 18 83 (by kernel_rfl) (by kernel_rfl))
      have e1 := (show a'.eval (.tmp 88) = .bool false from hd.get 23 88 (by kernel_rfl) (by kernel_rfl))
      have ec : ∀ v, a'.eval (.const v) = v := fun _ => rfl
      clear hs hd
      unfold Oper.wp
      generalize a'.eval = ρ at e0 e1 ec ⊢
      simp [go_sem, e0, e1, ec]
      exact hK _ _ (Below.refl _ _) rfl⟩) <|
        allOps_cons (fun a' w' hb hs hd => Or.inl ⟨wanted_t (j := 12) (d := 77) rfl (by kernel_rfl) (show a'.eval (.tmp 77) = .bool false from hd.get 12 77 (by kernel_rfl) (by kernel_rfl)), rg_op fun K hK => by
      have e0 := (show a'.eval (.tmp 80) = .bool true from hd.get 15 80 (by kernel_rfl) (by kernel_rfl))
      have e1 := (show a'.eval (.tmp 89) = .bool false from hd.get 24 89 (by kernel_rfl) (by kernel_rfl))
      have ec : ∀ v, a'.eval (.const v) = v := fun _ => rfl
      clear hs hd
      unfold Oper.wp
      generalize a'.eval = ρ at e0 e1 ec ⊢
      simp [go_sem, e0, e1, ec]
      exact hK _ _ (Below.refl _ _) rfl⟩) <|
        allOps_cons (fun a' w' hb hs hd => Or.inl ⟨wanted_n rfl, rg_op fun K hK => by
      have e0 := (show a'.eval (.tmp 77) = .bool false from hd.get 12 77 (by kernel_rfl) (by kernel_rfl))
      have e1 := (show a'.eval (.tmp 90) = .bool false from hd.get 25 90 (by kernel_rfl) (by kernel_rfl))
      have ec : ∀ v, a'.eval (.const v) = v := fun _ => rfl
      clear hs hd
      unfold Oper.wp
      generalize a'.eval = ρ at e0 e1 ec ⊢
      simp [go_sem, e0, e1, ec]
      exact hK _ _ (Below.refl _ _) rfl⟩) <| allOps_nil) (fun V v5 hv5 hall => ?_)
  have h91 : V 91 = .bool false := hall.get 26 rfl
  clear hall
  simp only [se1, maskPut, Nat.reduceAdd]
  rw [h91]
  clear h91
  replace BV := Lib.hid (belowT BV.out hv5)
  replace l0 := keep hv5 l0
  replace l1 := keep hv5 l1
  replace m0 := keep hv5 m0
  replace m1 := keep hv5 m1
  replace g0 := keep hv5 g0
  replace g1 := keep hv5 g1
  replace T7 := Lib.hid (T7.out.on hv5)
  clear hv5 p0 p1
  go_upto_region 17 with (first
    | (go_at_call 60; (with_reducible refine Calls.mono (HFG.out _ BV.out) ?_); rintro e yx ⟨rfl, hbx⟩; (try replace l0 := keep hbx l0); (try replace l1 := keep hbx l1); (try replace m0 := keep hbx m0); (try replace m1 := keep hbx m1); (try replace g0 := keep hbx g0); (try replace g1 := keep hbx g1); (try replace p0 := keep hbx p0); (try replace p1 := keep hbx p1); (try replace r0 := keep hbx r0); (try replace r1 := keep hbx r1); (try replace T1 := Lib.hid (T1.out.bel hbx)); (try replace T7 := Lib.hid (T7.out.on hbx)); (try replace TW := Lib.hid (TW.out.bel hbx)); (first | replace BV := Lib.hid (belowT (show Below w.heap.size w _ by have Bq := BV.out; have Bz := Bq.size; (repeat (first | with_reducible exact Below.refl _ _ | with_reducible assumption | with_reducible refine Below.alloc ?_ (by first | (simp; done) | (simp; omega) | omega) _ | with_reducible refine Below.setCell ?_ (by first | (simp; done) | (simp; omega) | omega) _ | with_reducible refine Below.drew ?_ | with_reducible refine below_drewN ?_ _))) hbx) | have BV := Lib.hid (belowT (show Below w.heap.size w _ by (repeat (first | with_reducible exact Below.refl _ _ | with_reducible assumption | with_reducible refine Below.alloc ?_ (by first | (simp; done) | (simp; omega) | omega) _ | with_reducible refine Below.setCell ?_ (by first | (simp; done) | (simp; omega) | omega) _ | with_reducible refine Below.drew ?_ | with_reducible refine below_drewN ?_ _))) hbx)); clear hbx)
    | (go_at_call 69; (with_reducible refine Calls.mono (HCR.out _ BV.out) ?_); rintro e yx ⟨GW, rfl, hbx, hIW⟩; (try replace l0 := keep hbx l0); (try replace l1 := keep hbx l1); (try replace m0 := keep hbx m0); (try replace m1 := keep hbx m1); (try replace g0 := keep hbx g0); (try replace g1 := keep hbx g1); (try replace p0 := keep hbx p0); (try replace p1 := keep hbx p1); (try replace r0 := keep hbx r0); (try replace r1 := keep hbx r1); (try replace T1 := Lib.hid (T1.out.bel hbx)); (try replace T7 := Lib.hid (T7.out.on hbx)); (try replace TW := Lib.hid (TW.out.bel hbx)); (first | replace BV := Lib.hid (belowT (show Below w.heap.size w _ by have Bq := BV.out; have Bz := Bq.size; (repeat (first | with_reducible exact Below.refl _ _ | with_reducible assumption | with_reducible refine Below.alloc ?_ (by first | (simp; done) | (simp; omega) | omega) _ | with_reducible refine Below.setCell ?_ (by first | (simp; done) | (simp; omega) | omega) _ | with_reducible refine Below.drew ?_ | with_reducible refine below_drewN ?_ _))) hbx) | have BV := Lib.hid (belowT (show Below w.heap.size w _ by (repeat (first | with_reducible exact Below.refl _ _ | with_reducible assumption | with_reducible refine Below.alloc ?_ (by first | (simp; done) | (simp; omega) | omega) _ | with_reducible refine Below.setCell ?_ (by first | (simp; done) | (simp; omega) | omega) _ | with_reducible refine Below.drew ?_ | with_reducible refine below_drewN ?_ _))) hbx)); have TW := Lib.hid hIW; clear hIW; clear hbx))
  obtain ⟨b13, hb13⟩ : ∃ b13, yx.heap.size = b13 := ⟨_, rfl⟩
  have hvv : Below yx.heap.size yx (yx.alloc (.cells #[.slice (some ⟨GW, 0, none⟩) N N, .int .i64 dd] 82)) := (Below.refl _ _).alloc (Nat.le_refl _) _
  have r0 : (yx.alloc (.cells #[.slice (some ⟨GW, 0, none⟩) N N, .int .i64 dd] 82)).cell? ⟨b13, 0, none⟩ = some (.slice (some ⟨GW, 0, none⟩) N N) := by rw [← hb13]; simp [go_sem]
  have r1 : (yx.alloc (.cells #[.slice (some ⟨GW, 0, none⟩) N N, .int .i64 dd] 82)).cell? ⟨b13, 1, none⟩ = some (.int .i64 dd) := by rw [← hb13]; simp [go_sem]
  replace g0 := keep hvv g0
  replace g1 := keep hvv g1
  replace T7 := Lib.hid (T7.out.on hvv)
  replace TW := Lib.hid (TW.out.bel hvv)
  replace BV := Lib.hid (belowT BV.out hvv)
  clear hvv
  generalize (yx.alloc (.cells #[.slice (some ⟨GW, 0, none⟩) N N, .int .i64 dd] 82)) = v6 at *
  rw [hb13]
  clear hb13
  go_wp2_with (first
    | (go_at_call 60; (with_reducible refine Calls.mono (HFW.out _ _ TW.out) ?_); rintro e yx ⟨rfl, hbx⟩; (try replace l0 := keep hbx l0); (try replace l1 := keep hbx l1); (try replace m0 := keep hbx m0); (try replace m1 := keep hbx m1); (try replace g0 := keep hbx g0); (try replace g1 := keep hbx g1); (try replace p0 := keep hbx p0); (try replace p1 := keep hbx p1); (try replace r0 := keep hbx r0); (try replace r1 := keep hbx r1); (try replace T1 := Lib.hid (T1.out.bel hbx)); (try replace T7 := Lib.hid (T7.out.on hbx)); (try replace TW := Lib.hid (TW.out.bel hbx)); (first | replace BV := Lib.hid (belowT (show Below w.heap.size w _ by have Bq := BV.out; have Bz := Bq.size; (repeat (first | with_reducible exact Below.refl _ _ | with_reducible assumption | with_reducible refine Below.alloc ?_ (by first | (simp; done) | (simp; omega) | omega) _ | with_reducible refine Below.setCell ?_ (by first | (simp; done) | (simp; omega) | omega) _ | with_reducible refine Below.drew ?_ | with_reducible refine below_drewN ?_ _))) hbx) | have BV := Lib.hid (belowT (show Below w.heap.size w _ by (repeat (first | with_reducible exact Below.refl _ _ | with_reducible assumption | with_reducible refine Below.alloc ?_ (by first | (simp; done) | (simp; omega) | omega) _ | with_reducible refine Below.setCell ?_ (by first | (simp; done) | (simp; omega) | omega) _ | with_reducible refine Below.drew ?_ | with_reducible refine below_drewN ?_ _))) hbx)); clear hbx)
    | (go_at_call 66; (with_reducible refine Calls.mono (HSF.out _ _ _ T7.out.ia) ?_); rintro e yx ⟨rfl, hbx⟩; (try replace l0 := keep hbx l0); (try replace l1 := keep hbx l1); (try replace m0 := keep hbx m0); (try replace m1 := keep hbx m1); (try replace g0 := keep hbx g0); (try replace g1 := keep hbx g1); (try replace p0 := keep hbx p0); (try replace p1 := keep hbx p1); (try replace r0 := keep hbx r0); (try replace r1 := keep hbx r1); (try replace T1 := Lib.hid (T1.out.bel hbx)); (try replace T7 := Lib.hid (T7.out.on hbx)); (try replace TW := Lib.hid (TW.out.bel hbx)); (first | replace BV := Lib.hid (belowT (show Below w.heap.size w _ by have Bq := BV.out; have Bz := Bq.size; (repeat (first | with_reducible exact Below.refl _ _ | with_reducible assumption | with_reducible refine Below.alloc ?_ (by first | (simp; done) | (simp; omega) | omega) _ | with_reducible refine Below.setCell ?_ (by first | (simp; done) | (simp; omega) | omega) _ | with_reducible refine Below.drew ?_ | with_reducible refine below_drewN ?_ _))) hbx) | have BV := Lib.hid (belowT (show Below w.heap.size w _ by (repeat (first | with_reducible exact Below.refl _ _ | with_reducible assumption | with_reducible refine Below.alloc ?_ (by first | (simp; done) | (simp; omega) | omega) _ | with_reducible refine Below.setCell ?_ (by first | (simp; done) | (simp; omega) | omega) _ | with_reducible refine Below.drew ?_ | with_reducible refine below_drewN ?_ _))) hbx)); clear hbx))
  go_ret
  exact ⟨rfl, BV.out⟩
set_option maxRecDepth 100000 in
set_option maxHeartbeats 4000000 in
theorem sc_ook (A A2 : Option Addr) (L cA M cB : Nat) (xs ys : Nat → Int) (d1 d2 q : Int) (w : World) (hL : L ≤ 10) (hM : M ≤ 10) (hF : flE L xs d1 = 0) (hQ : rgE q 0 3 = 0) (hG : flE M ys d2 = 0) (hW : flE (L + M - 1) (cvK xs ys M L) (d1 * d2) = 0) (hI : IS w (.slice A L cA) L xs) (hJ : IS w (.slice A2 M cB) M ys) :
    Calls Try.prog 10 #[.agg #[.slice A L cA, .int .i64 d1], .agg #[.slice A2 M cB, .int .i64 d2], .int .i64 q] w fun e w' => e = .returned (.bool true) ∧ Below w.heap.size w w' := by
  have hL2 : ¬ (L : Int) > 10 := by omega
  have hM2 : ¬ (M : Int) > 10 := by omega
  have hA : IA w A L xs := by obtain ⟨A', c', e, h, _⟩ := hI; cases e; exact h
  have hB : IA w A2 M ys := by obtain ⟨A', c', e, h, _⟩ := hJ; cases e; exact h
  have HCF := Lib.hid (fun W (hW : Below w.heap.size w W) => copyFilter_any A L cA xs d1 W (by omega) (hI.on hW))
  have HCG := Lib.hid (fun W (hW : Below w.heap.size w W) => copyFilter_any A2 M cB ys d2 W (by omega) (hJ.on hW))
  have HFE := Lib.hid (fun W (hW : Below w.heap.size w W) => filterErr_any A L cA xs d1 W (by omega) (hA.bel hW))
  rw [hF] at HFE
  have HFG := Lib.hid (fun W (hW : Below w.heap.size w W) => filterErr_any A2 M cB ys d2 W (by omega) (hB.bel hW))
  rw [hG] at HFG
  have HQE := Lib.hid (fun W => quarterR_any q W)
  rw [hQ] at HQE
  have HRA := Lib.hid (fun A1 c1 W (h : IA W A1 L xs) => responseAt_ok A1 L c1 xs d1 q (by rw [hF, hQ]; rfl) W h)
  have HRR := Lib.hid (fun W (hW : Below w.heap.size w W) => responseR_any A L cA xs d1 q hF hQ W (hA.bel hW))
  generalize (bnS (-q) (re0 xs) L).1 = X at *
  generalize (bnS (-q) (re0 xs) L).2 = Y at *
  have hE : coE L xs d1 M ys d2 = 0 := by unfold coE fs2; rw [hF, if_pos rfl]; exact hG
  have HCR := Lib.hid (fun W (hW : Below w.heap.size w W) => composedR_any A A2 L cA M cB xs ys d1 d2 hE W (hA.bel hW) (hB.bel hW))
  have HCO := Lib.hid (fun A1 c1 A3 c3 W (h1 : IA W A1 L xs) (h2 : IA W A3 M ys) => composedS_k A1 A3 L c1 M c3 xs ys d1 d2 hE hW W h1 h2)
  have HFW := Lib.hid (fun G W (h : IA W (some ⟨G, 0, none⟩) (L + M - 1) (cvK xs ys M L)) => filterErr_any (some ⟨G, 0, none⟩) (L + M - 1) (L + M - 1) (cvK xs ys M L) (d1 * d2) W (by omega) h)
  rw [hW] at HFW
  have HSF := Lib.hid (fun A1 c1 A3 c3 W (h1 : IA W A1 (L + M - 1) (cvK xs ys M L)) (h2 : IA W A3 (L + M - 1) (cvK xs ys M L)) => sameFilter_any A1 A3 (L + M - 1) c1 c3 (cvK xs ys M L) (d1 * d2) W (by omega) h1 h2)
  clear hE hW
  generalize cvK xs ys M L = zs at *
  generalize d1 * d2 = dd at *
  obtain ⟨N, hN⟩ : ∃ N, L + M - 1 = N := ⟨_, rfl⟩
  rw [hN] at HCR HFW HCO HSF
  clear hN
  clear hA hB hI hJ hF hQ hG
  go_enter Try.func10, Try.ntmps10
  go_upto_region 5 with (go_at_call 17; (with_reducible refine Calls.mono (awake_any _) ?_); rintro e yx ⟨rfl, hbx⟩; (try replace l0 := keep hbx l0); (try replace l1 := keep hbx l1); (try replace m0 := keep hbx m0); (try replace m1 := keep hbx m1); (try replace g0 := keep hbx g0); (try replace g1 := keep hbx g1); (try replace p0 := keep hbx p0); (try replace p1 := keep hbx p1); (try replace r0 := keep hbx r0); (try replace r1 := keep hbx r1); (try replace T1 := Lib.hid (T1.out.bel hbx)); (try replace T7 := Lib.hid (T7.out.on hbx)); (try replace TW := Lib.hid (TW.out.bel hbx)); (first | replace BV := Lib.hid (belowT (show Below w.heap.size w _ by have Bq := BV.out; have Bz := Bq.size; (repeat (first | with_reducible exact Below.refl _ _ | with_reducible assumption | with_reducible refine Below.alloc ?_ (by first | (simp; done) | (simp; omega) | omega) _ | with_reducible refine Below.setCell ?_ (by first | (simp; done) | (simp; omega) | omega) _ | with_reducible refine Below.drew ?_ | with_reducible refine below_drewN ?_ _))) hbx) | have BV := Lib.hid (belowT (show Below w.heap.size w _ by (repeat (first | with_reducible exact Below.refl _ _ | with_reducible assumption | with_reducible refine Below.alloc ?_ (by first | (simp; done) | (simp; omega) | omega) _ | with_reducible refine Below.setCell ?_ (by first | (simp; done) | (simp; omega) | omega) _ | with_reducible refine Below.drew ?_ | with_reducible refine below_drewN ?_ _))) hbx)); have l0 := keep hbx (b := w.heap.size) (o := 0) (v := .slice A L cA) (by simp [go_sem]); have l1 := keep hbx (b := w.heap.size) (o := 1) (v := .int .i64 d1) (by simp [go_sem]); have m0 := keep hbx (b := w.heap.size + 1) (o := 0) (v := .slice A2 M cB) (by simp [go_sem]); have m1 := keep hbx (b := w.heap.size + 1) (o := 1) (v := .int .i64 d2) (by simp [go_sem]); clear hbx)
  have HB0 := BV
  generalize yx = v0 at *
  clear BV
  refine wp_region_st se0 (by kernel_rfl) [mpEq (.agg #[.slice A L cA, .int .i64 d1]), mpCF L xs d1, mpEq (.agg #[.slice A2 M cB, .int .i64 d2]), mpCF M ys d2, mpTC (N) (zs) (dd) (0), mpTC (N) (zs) (dd) (0), mpCZ (N) (zs) (dd), mpTop, mpF0 v0.heap.size, mpTop, mpTop] [(fun _ => True), (fun _ => True), (fun _ => True), (fun _ => True), tcV (N) (dd) (0), tcV (N) (dd) (0), (fun _ => True), (· = .int .i64 (0)), (fun _ => True), (fun _ => True), (· = .int .i64 (0))] (mpVC v0.heap.size (N) (zs) (dd)) 9 8 7 (by kernel_rfl) (by kernel_rfl) (by kernel_rfl) (by kernel_rfl) rfl (
        allOps_cons (rs_not (by kernel_rfl) (fun a' w' hb hs hd hp => rs_op fun K hK => by
      have e1 := (hs.get 3 (by kernel_rfl)).trans (show _ = Value.pointer (some ⟨w.heap.size, 0, none⟩) from rfl)
      have c0 := keep hb l0
      have c1 := keep hb l1
      clear hs hd hp
      unfold Oper.wp
      generalize a'.eval = ρ at e1 ⊢
      simp [go_sem, e1, c0, c1]
      exact hK _ _ (Below.refl _ _) rfl trivial)) <|
        allOps_cons (rs_not (by kernel_rfl) (fun a' w' hb hs hd hp => by
      exact rs_fn (φ := (mpCF L xs d1).p) (ψ := (fun _ => True)) (vs := #[.agg #[.slice A L cA, .int .i64 d1]]) rfl (enters_of Try.func58 (by kernel_rfl) rfl) (by simp [(show a'.eval (.tmp 27) = .agg #[.slice A L cA, .int .i64 d1] from RDeps.get (hd (by kernel_rfl)) 0 27 (by kernel_rfl) (by kernel_rfl))]) ((HCF.out w' (belowT HB0.out hb)).mono (by rintro e w1 ⟨A', c', rfl, h1, h2, _⟩; exact ⟨_, rfl, h1, ⟨A', c', rfl, h2⟩, trivial⟩)))) <|
        allOps_cons (rs_not (by kernel_rfl) (fun a' w' hb hs hd hp => rs_op fun K hK => by
      have e1 := (hs.get 4 (by kernel_rfl)).trans (show _ = Value.pointer (some ⟨w.heap.size + 1, 0, none⟩) from rfl)
      have c0 := keep hb m0
      have c1 := keep hb m1
      clear hs hd hp
      unfold Oper.wp
      generalize a'.eval = ρ at e1 ⊢
      simp [go_sem, e1, c0, c1]
      exact hK _ _ (Below.refl _ _) rfl trivial)) <|
        allOps_cons (rs_not (by kernel_rfl) (fun a' w' hb hs hd hp => by
      exact rs_fn (φ := (mpCF M ys d2).p) (ψ := (fun _ => True)) (vs := #[.agg #[.slice A2 M cB, .int .i64 d2]]) rfl (enters_of Try.func58 (by kernel_rfl) rfl) (by simp [(show a'.eval (.tmp 29) = .agg #[.slice A2 M cB, .int .i64 d2] from RDeps.get (hd (by kernel_rfl)) 2 29 (by kernel_rfl) (by kernel_rfl))]) ((HCG.out w' (belowT HB0.out hb)).mono (by rintro e w1 ⟨A', c', rfl, h1, h2, _⟩; exact ⟨_, rfl, h1, ⟨A', c', rfl, h2⟩, trivial⟩)))) <|
        allOps_cons (rs_not (by kernel_rfl) (fun a' w' hb hs hd hp => by
      obtain ⟨X1, c1, e1, k1⟩ := (show (mpCF L xs d1).p (a'.eval (.tmp 28)) w' from RDeps.get (hd (by kernel_rfl)) 1 28 (by kernel_rfl) (by kernel_rfl))
      obtain ⟨X2, c2, e2, k2⟩ := (show (mpCF M ys d2).p (a'.eval (.tmp 30)) w' from RDeps.get (hd (by kernel_rfl)) 3 30 (by kernel_rfl) (by kernel_rfl))
      exact rs_fn (φ := (mpTC (N) (zs) (dd) (0)).p) (ψ := tcV (N) (dd) (0)) (vs := #[.agg #[.slice X1 L c1, .int .i64 d1], .agg #[.slice X2 M c2, .int .i64 d2]]) rfl (enters_of Try.func64 (by kernel_rfl) rfl) (by simp [e1, e2]) ((HCO.out X1 c1 X2 c2 w' k1 k2).mono (by rintro e w1 ⟨A', c', rfl, h1, h2⟩; exact ⟨_, rfl, h1, ⟨A', c', rfl, h2⟩, A', c', rfl⟩)))) <|
        allOps_cons (rs_not (by kernel_rfl) (fun a' w' hb hs hd hp => rs_op fun K hK => by
      obtain ⟨At, ct, e0, ht⟩ := (show (mpTC (N) (zs) (dd) (0)).p (a'.eval (.tmp 31)) w' from RDeps.get (hd (by kernel_rfl)) 4 31 (by kernel_rfl) (by kernel_rfl))
      clear hs hd hp
      unfold Oper.wp
      generalize a'.eval = ρ at e0 ⊢
      simp [go_sem, e0]
      exact hK _ _ (Below.refl _ _) ⟨At, ct, rfl, ht⟩ ⟨At, ct, rfl⟩)) <|
        allOps_cons (rs_not (by kernel_rfl) (fun a' w' hb hs hd hp => rs_op fun K hK => by
      obtain ⟨At, ct, e0, ht⟩ := (show (mpTC (N) (zs) (dd) (0)).p (a'.eval (.tmp 26)) w' from RDeps.get (hd (by kernel_rfl)) 5 26 (by kernel_rfl) (by kernel_rfl))
      clear hs hd hp
      unfold Oper.wp
      generalize a'.eval = ρ at e0 ⊢
      simp [go_sem, e0]
      exact hK _ _ (Below.refl _ _) ⟨At, ct, rfl, ht⟩ trivial)) <|
        allOps_cons (rs_not (by kernel_rfl) (fun a' w' hb hs hd hp => rs_op fun K hK => by
      obtain ⟨At, ct, e0⟩ := (show tcV (N) (dd) (0) (a'.eval (.tmp 26)) from hp.get 5 26 (by kernel_rfl) (by kernel_rfl))
      clear hs hd hp
      unfold Oper.wp
      generalize a'.eval = ρ at e0 ⊢
      simp [go_sem, e0]
      exact hK _ _ (Below.refl _ _) trivial rfl)) <|
        allOps_cons (rs_not (by kernel_rfl) (fun a' w' hb hs hd hp => rs_op fun K hK => by
      have hz := hb.size
      clear hs hd hp
      unfold Oper.wp
      generalize a'.eval = ρ
      simp [go_sem]
      exact hK _ _ ((Below.refl _ _).alloc (Nat.le_refl _) _) ⟨_, rfl, hz, ⟨by simp [go_sem], by simp [go_sem]⟩, by simp [go_sem], by simp [go_sem]⟩ trivial)) <|
        allOps_cons (rs_is (by kernel_rfl) (fun a' w' hb hs hd => rs_st rfl fun K hK => by
      obtain ⟨q7, e1, zq, ⟨c0, c1⟩, f0, f1⟩ := (show (mpF0 v0.heap.size).p (a'.eval (.tmp 7)) w' from hd.get 8 7 (by kernel_rfl) (by kernel_rfl))
      obtain ⟨At, ct, e2, ht⟩ := (show (mpCZ (N) (zs) (dd)).p (a'.eval (.tmp 32)) w' from hd.get 6 32 (by kernel_rfl) (by kernel_rfl))
      have hne : ∀ b, At = some ⟨b, 0, none⟩ → 0 < (N) → b ≠ q7 := fun b e hn he => by
        obtain ⟨b2, e3, hc⟩ := ht hn
        rw [e] at e3
        cases e3
        rw [he] at hc
        have := (hc 0 hn).symm.trans c0
        simp at this
      have hz := lt_of c0
      clear hs hd
      unfold Oper.wp
      generalize a'.eval = ρ at e1 e2 hK ⊢
      simp [go_sem, e1, e2, c0, c1, f0, f1]
      exact hK _ (Below.setCell (Below.setCell hb zq _) zq _) ⟨q7, At, ct, e1, zq, by simp [go_sem, c0], by simp [go_sem, c1], (ht.set hne).set hne⟩)) <|
        allOps_cons (rs_not (by kernel_rfl) (fun a' w' hb hs hd hp => rs_op fun K hK => by
      have e1 := (show a'.eval (.tmp 33) = .int .i64 (0) from hp.get 7 33 (by kernel_rfl) (by kernel_rfl))
      clear hs hd hp
      unfold Oper.wp
      generalize a'.eval = ρ at e1 ⊢
      simp [go_sem, e1]
      exact hK _ _ (Below.refl _ _) trivial rfl)) <| allOps_nil) (fun V v1 hv1 hall hv => ?_)
  have h8 : V 8 = .int .i64 (0) := hall.get 10 rfl (by decide)
  obtain ⟨q7, A7, c7, h7, hBq, g0, g1, hZ⟩ := hv
  clear hall
  simp only [se0, maskPut, Nat.reduceAdd]
  rw [h7, h8]
  clear h7 h8 hBq
  have BV := Lib.hid (belowT HB0.out hv1)
  have T7 := Lib.hid hZ
  replace l0 := keep hv1 l0
  replace l1 := keep hv1 l1
  replace m0 := keep hv1 m0
  replace m1 := keep hv1 m1
  clear hv1 hZ HB0 HCO HCG
  go_upto_region 7 with (first
    | (go_at_call 58; (with_reducible refine Calls.mono (HCF.out _ BV.out) ?_); rintro e yx ⟨AF, cF, rfl, hbx, hIF, _⟩; (try replace l0 := keep hbx l0); (try replace l1 := keep hbx l1); (try replace m0 := keep hbx m0); (try replace m1 := keep hbx m1); (try replace g0 := keep hbx g0); (try replace g1 := keep hbx g1); (try replace p0 := keep hbx p0); (try replace p1 := keep hbx p1); (try replace r0 := keep hbx r0); (try replace r1 := keep hbx r1); (try replace T1 := Lib.hid (T1.out.bel hbx)); (try replace T7 := Lib.hid (T7.out.on hbx)); (try replace TW := Lib.hid (TW.out.bel hbx)); (first | replace BV := Lib.hid (belowT (show Below w.heap.size w _ by have Bq := BV.out; have Bz := Bq.size; (repeat (first | with_reducible exact Below.refl _ _ | with_reducible assumption | with_reducible refine Below.alloc ?_ (by first | (simp; done) | (simp; omega) | omega) _ | with_reducible refine Below.setCell ?_ (by first | (simp; done) | (simp; omega) | omega) _ | with_reducible refine Below.drew ?_ | with_reducible refine below_drewN ?_ _))) hbx) | have BV := Lib.hid (belowT (show Below w.heap.size w _ by (repeat (first | with_reducible exact Below.refl _ _ | with_reducible assumption | with_reducible refine Below.alloc ?_ (by first | (simp; done) | (simp; omega) | omega) _ | with_reducible refine Below.setCell ?_ (by first | (simp; done) | (simp; omega) | omega) _ | with_reducible refine Below.drew ?_ | with_reducible refine below_drewN ?_ _))) hbx)); have T1 := Lib.hid hIF; clear hIF; clear hbx)
    | (go_at_call 65; (with_reducible refine Calls.mono (HRA.out _ _ _ T1.out) ?_); rintro e yx ⟨rfl, hbx⟩; (try replace l0 := keep hbx l0); (try replace l1 := keep hbx l1); (try replace m0 := keep hbx m0); (try replace m1 := keep hbx m1); (try replace g0 := keep hbx g0); (try replace g1 := keep hbx g1); (try replace p0 := keep hbx p0); (try replace p1 := keep hbx p1); (try replace r0 := keep hbx r0); (try replace r1 := keep hbx r1); (try replace T1 := Lib.hid (T1.out.bel hbx)); (try replace T7 := Lib.hid (T7.out.on hbx)); (try replace TW := Lib.hid (TW.out.bel hbx)); (first | replace BV := Lib.hid (belowT (show Below w.heap.size w _ by have Bq := BV.out; have Bz := Bq.size; (repeat (first | with_reducible exact Below.refl _ _ | with_reducible assumption | with_reducible refine Below.alloc ?_ (by first | (simp; done) | (simp; omega) | omega) _ | with_reducible refine Below.setCell ?_ (by first | (simp; done) | (simp; omega) | omega) _ | with_reducible refine Below.drew ?_ | with_reducible refine below_drewN ?_ _))) hbx) | have BV := Lib.hid (belowT (show Below w.heap.size w _ by (repeat (first | with_reducible exact Below.refl _ _ | with_reducible assumption | with_reducible refine Below.alloc ?_ (by first | (simp; done) | (simp; omega) | omega) _ | with_reducible refine Below.setCell ?_ (by first | (simp; done) | (simp; omega) | omega) _ | with_reducible refine Below.drew ?_ | with_reducible refine below_drewN ?_ _))) hbx)); clear hbx))
  obtain ⟨b9, hb9⟩ : ∃ b9, yx.heap.size = b9 := ⟨_, rfl⟩
  have hvv : Below yx.heap.size yx (yx.alloc (.cells #[.int .i64 X, .int .i64 Y] 23)) := (Below.refl _ _).alloc (Nat.le_refl _) _
  have p0 : (yx.alloc (.cells #[.int .i64 X, .int .i64 Y] 23)).cell? ⟨b9, 0, none⟩ = some (.int .i64 X) := by rw [← hb9]; simp [go_sem]
  have p1 : (yx.alloc (.cells #[.int .i64 X, .int .i64 Y] 23)).cell? ⟨b9, 1, none⟩ = some (.int .i64 Y) := by rw [← hb9]; simp [go_sem]
  replace l0 := keep hvv l0
  replace l1 := keep hvv l1
  replace m0 := keep hvv m0
  replace m1 := keep hvv m1
  replace g0 := keep hvv g0
  replace g1 := keep hvv g1
  replace T7 := Lib.hid (T7.out.on hvv)
  replace BV := Lib.hid (belowT BV.out hvv)
  clear hvv
  generalize (yx.alloc (.cells #[.int .i64 X, .int .i64 Y] 23)) = v2 at *
  rw [hb9]
  clear hb9
  go_upto_region 11 with (first
    | (go_at_call 60; (with_reducible refine Calls.mono (HFE.out _ BV.out) ?_); rintro e yx ⟨rfl, hbx⟩; (try replace l0 := keep hbx l0); (try replace l1 := keep hbx l1); (try replace m0 := keep hbx m0); (try replace m1 := keep hbx m1); (try replace g0 := keep hbx g0); (try replace g1 := keep hbx g1); (try replace p0 := keep hbx p0); (try replace p1 := keep hbx p1); (try replace r0 := keep hbx r0); (try replace r1 := keep hbx r1); (try replace T1 := Lib.hid (T1.out.bel hbx)); (try replace T7 := Lib.hid (T7.out.on hbx)); (try replace TW := Lib.hid (TW.out.bel hbx)); (first | replace BV := Lib.hid (belowT (show Below w.heap.size w _ by have Bq := BV.out; have Bz := Bq.size; (repeat (first | with_reducible exact Below.refl _ _ | with_reducible assumption | with_reducible refine Below.alloc ?_ (by first | (simp; done) | (simp; omega) | omega) _ | with_reducible refine Below.setCell ?_ (by first | (simp; done) | (simp; omega) | omega) _ | with_reducible refine Below.drew ?_ | with_reducible refine below_drewN ?_ _))) hbx) | have BV := Lib.hid (belowT (show Below w.heap.size w _ by (repeat (first | with_reducible exact Below.refl _ _ | with_reducible assumption | with_reducible refine Below.alloc ?_ (by first | (simp; done) | (simp; omega) | omega) _ | with_reducible refine Below.setCell ?_ (by first | (simp; done) | (simp; omega) | omega) _ | with_reducible refine Below.drew ?_ | with_reducible refine below_drewN ?_ _))) hbx)); clear hbx)
    | (go_at_call 67; (with_reducible refine Calls.mono (HQE.out _) ?_); rintro e yx ⟨rfl, hbx⟩; (try replace l0 := keep hbx l0); (try replace l1 := keep hbx l1); (try replace m0 := keep hbx m0); (try replace m1 := keep hbx m1); (try replace g0 := keep hbx g0); (try replace g1 := keep hbx g1); (try replace p0 := keep hbx p0); (try replace p1 := keep hbx p1); (try replace r0 := keep hbx r0); (try replace r1 := keep hbx r1); (try replace T1 := Lib.hid (T1.out.bel hbx)); (try replace T7 := Lib.hid (T7.out.on hbx)); (try replace TW := Lib.hid (TW.out.bel hbx)); (first | replace BV := Lib.hid (belowT (show Below w.heap.size w _ by have Bq := BV.out; have Bz := Bq.size; (repeat (first | with_reducible exact Below.refl _ _ | with_reducible assumption | with_reducible refine Below.alloc ?_ (by first | (simp; done) | (simp; omega) | omega) _ | with_reducible refine Below.setCell ?_ (by first | (simp; done) | (simp; omega) | omega) _ | with_reducible refine Below.drew ?_ | with_reducible refine below_drewN ?_ _))) hbx) | have BV := Lib.hid (belowT (show Below w.heap.size w _ by (repeat (first | with_reducible exact Below.refl _ _ | with_reducible assumption | with_reducible refine Below.alloc ?_ (by first | (simp; done) | (simp; omega) | omega) _ | with_reducible refine Below.setCell ?_ (by first | (simp; done) | (simp; omega) | omega) _ | with_reducible refine Below.drew ?_ | with_reducible refine below_drewN ?_ _))) hbx)); clear hbx))
  generalize yx = vx at *
  refine wp_region_gd [mpEq (.int .i64 0), mpEq (.bool false), mpEq (.bool false), mpEq undef, mpEq undef, mpEq undef, mpEq undef, mpEq undef, mpEq undef, mpEq undef, mpEq undef, mpEq (.bool false), mpEq (.bool false), mpEq (.int .i64 0), mpEq (.bool true), mpEq (.bool true), mpEq (.int .i64 0), mpEq (.bool false), mpEq (.bool false), mpEq (.agg #[.int .i64 X, .int .i64 Y]), mpEq (.agg #[.slice A L cA, .int .i64 d1]), mpEq (.int .i64 q), mpEq (.agg #[.int .i64 X, .int .i64 Y]), mpEq (.bool false), mpEq (.bool false), mpEq (.bool false), mpEq (.bool false)] se1 (by kernel_rfl) (by kernel_rfl) (by kernel_rfl) (
        allOps_cons (fun a' w' hb hs hd => Or.inl ⟨wanted_n rfl, rg_op fun K hK => by
      have e0 := (hs.get 12 (by kernel_rfl)).trans (show _ = .int .i64 0 from rfl)
      have ec : ∀ v, a'.eval (.const v) = v := fun _ => rfl
      clear hs hd
      unfold Oper.wp
      generalize a'.eval = ρ at e0 ec ⊢
      simp [go_sem, e0]
      exact hK _ _ (Below.refl _ _) rfl⟩) <|
        allOps_cons (fun a' w' hb hs hd => Or.inl ⟨wanted_n rfl, rg_op fun K hK => by
      have e0 := (show a'.eval (.tmp 65) = .int .i64 0 from hd.get 0 65 (by kernel_rfl) (by kernel_rfl))
      have ec : ∀ v, a'.eval (.const v) = v := fun _ => rfl
      clear hs hd
      unfold Oper.wp
      generalize a'.eval = ρ at e0 ec ⊢
      simp [go_sem, e0, ec]
      exact hK _ _ (Below.refl _ _) rfl⟩) <|
        allOps_cons (fun a' w' hb hs hd => Or.inl ⟨wanted_n rfl, rg_op fun K hK => by
      have e0 := (show a'.eval (.tmp 66) = .bool false from hd.get 1 66 (by kernel_rfl) (by kernel_rfl))
      have ec : ∀ v, a'.eval (.const v) = v := fun _ => rfl
      clear hs hd
      unfold Oper.wp
      generalize a'.eval = ρ at e0 ec ⊢
      simp [go_sem, e0]
      exact hK _ _ (Below.refl _ _) rfl⟩) <|
        allOps_cons (fun a' w' hb hs hd => Or.inr ⟨wanted_f (j := 2) (d := 67) rfl (by kernel_rfl) (show a'.eval (.tmp 67) = .bool false from hd.get 2 67 (by kernel_rfl) (by kernel_rfl)) rfl, rfl⟩) <|
        allOps_cons (fun a' w' hb hs hd => Or.inr ⟨wanted_f (j := 2) (d := 67) rfl (by kernel_rfl) (show a'.eval (.tmp 67) = .bool false from hd.get 2 67 (by kernel_rfl) (by kernel_rfl)) rfl, rfl⟩) <|
        allOps_cons (fun a' w' hb hs hd => Or.inr ⟨wanted_f (j := 2) (d := 67) rfl (by kernel_rfl) (show a'.eval (.tmp 67) = .bool false from hd.get 2 67 (by kernel_rfl) (by kernel_rfl)) rfl, rfl⟩) <|
        allOps_cons (fun a' w' hb hs hd => Or.inr ⟨wanted_f (j := 2) (d := 67) rfl (by kernel_rfl) (show a'.eval (.tmp 67) = .bool false from hd.get 2 67 (by kernel_rfl) (by kernel_rfl)) rfl, rfl⟩) <|
        allOps_cons (fun a' w' hb hs hd => Or.inr ⟨wanted_u (j := 6) (d := 71) rfl (by kernel_rfl) (show a'.eval (.tmp 71) = undef from hd.get 6 71 (by kernel_rfl) (by kernel_rfl)), rfl⟩) <|
        allOps_cons (fun a' w' hb hs hd => Or.inr ⟨wanted_u (j := 6) (d := 71) rfl (by kernel_rfl) (show a'.eval (.tmp 71) = undef from hd.get 6 71 (by kernel_rfl) (by kernel_rfl)), rfl⟩) <|
        allOps_cons (fun a' w' hb hs hd => Or.inr ⟨wanted_u (j := 6) (d := 71) rfl (by kernel_rfl) (show a'.eval (.tmp 71) = undef from hd.get 6 71 (by kernel_rfl) (by kernel_rfl)), rfl⟩) <|
        allOps_cons (fun a' w' hb hs hd => Or.inr ⟨wanted_f (j := 2) (d := 67) rfl (by kernel_rfl) (show a'.eval (.tmp 67) = .bool false from hd.get 2 67 (by kernel_rfl) (by kernel_rfl)) rfl, rfl⟩) <|
        allOps_cons (fun a' w' hb hs hd => Or.inl ⟨wanted_n rfl, rg_op fun K hK => by
      have e0 := (show a'.eval (.tmp 67) = .bool false from hd.get 2 67 (by kernel_rfl) (by kernel_rfl))
      have ec : ∀ v, a'.eval (.const v) = v := fun _ => rfl
      clear hs hd
      unfold Oper.wp
      generalize a'.eval = ρ at e0 ec ⊢
      simp [go_sem, e0, ec]
      exact hK _ _ (Below.refl _ _) rfl⟩) <|
        allOps_cons (fun a' w' hb hs hd => Or.inl ⟨wanted_n rfl, rg_op fun K hK => by
      have e0 := (show a'.eval (.tmp 76) = .bool false from hd.get 11 76 (by kernel_rfl) (by kernel_rfl))
      have ec : ∀ v, a'.eval (.const v) = v := fun _ => rfl
      clear hs hd
      unfold Oper.wp
      generalize a'.eval = ρ at e0 ec ⊢
      simp [go_sem, e0]
      exact hK _ _ (Below.refl _ _) rfl⟩) <|
        allOps_cons (fun a' w' hb hs hd => Or.inl ⟨wanted_t (j := 12) (d := 77) rfl (by kernel_rfl) (show a'.eval (.tmp 77) = .bool false from hd.get 12 77 (by kernel_rfl) (by kernel_rfl)), rg_op fun K hK => by
      have e0 := (hs.get 12 (by kernel_rfl)).trans (show _ = .int .i64 0 from rfl)
      have ec : ∀ v, a'.eval (.const v) = v := fun _ => rfl
      clear hs hd
      unfold Oper.wp
      generalize a'.eval = ρ at e0 ec ⊢
      simp [go_sem, e0]
      exact hK _ _ (Below.refl _ _) rfl⟩) <|
        allOps_cons (fun a' w' hb hs hd => Or.inl ⟨wanted_t (j := 12) (d := 77) rfl (by kernel_rfl) (show a'.eval (.tmp 77) = .bool false from hd.get 12 77 (by kernel_rfl) (by kernel_rfl)), rg_op fun K hK => by
      have e0 := (show a'.eval (.tmp 78) = .int .i64 0 from hd.get 13 78 (by kernel_rfl) (by kernel_rfl))
      have ec : ∀ v, a'.eval (.const v) = v := fun _ => rfl
      clear hs hd
      unfold Oper.wp
      generalize a'.eval = ρ at e0 ec ⊢
      simp [go_sem, e0, ec]
      exact hK _ _ (Below.refl _ _) rfl⟩) <|
        allOps_cons (fun a' w' hb hs hd => Or.inl ⟨wanted_t (j := 12) (d := 77) rfl (by kernel_rfl) (show a'.eval (.tmp 77) = .bool false from hd.get 12 77 (by kernel_rfl) (by kernel_rfl)), rg_op fun K hK => by
      have e0 := (show a'.eval (.tmp 79) = .bool true from hd.get 14 79 (by kernel_rfl) (by kernel_rfl))
      have ec : ∀ v, a'.eval (.const v) = v := fun _ => rfl
      clear hs hd
      unfold Oper.wp
      generalize a'.eval = ρ at e0 ec ⊢
      simp [go_sem, e0]
      exact hK _ _ (Below.refl _ _) rfl⟩) <|
        allOps_cons (fun a' w' hb hs hd => Or.inl ⟨wanted_t (j := 15) (d := 80) rfl (by kernel_rfl) (show a'.eval (.tmp 80) = .bool true from hd.get 15 80 (by kernel_rfl) (by kernel_rfl)), rg_op fun K hK => by
      have e0 := (hs.get 10 (by kernel_rfl)).trans (show _ = .int .i64 0 from rfl)
      have ec : ∀ v, a'.eval (.const v) = v := fun _ => rfl
      clear hs hd
      unfold Oper.wp
      generalize a'.eval = ρ at e0 ec ⊢
      simp [go_sem, e0]
      exact hK _ _ (Below.refl _ _) rfl⟩) <|
        allOps_cons (fun a' w' hb hs hd => Or.inl ⟨wanted_t (j := 15) (d := 80) rfl (by kernel_rfl) (show a'.eval (.tmp 80) = .bool true from hd.get 15 80 (by kernel_rfl) (by kernel_rfl)), rg_op fun K hK => by
      have e0 := (show a'.eval (.tmp 81) = .int .i64 0 from hd.get 16 81 (by kernel_rfl) (by kernel_rfl))
      have ec : ∀ v, a'.eval (.const v) = v := fun _ => rfl
      clear hs hd
      unfold Oper.wp
      generalize a'.eval = ρ at e0 ec ⊢
      simp [go_sem, e0, ec]
      exact hK _ _ (Below.refl _ _) rfl⟩) <|
        allOps_cons (fun a' w' hb hs hd => Or.inl ⟨wanted_t (j := 15) (d := 80) rfl (by kernel_rfl) (show a'.eval (.tmp 80) = .bool true from hd.get 15 80 (by kernel_rfl) (by kernel_rfl)), rg_op fun K hK => by
      have e0 := (show a'.eval (.tmp 82) = .bool false from hd.get 17 82 (by kernel_rfl) (by kernel_rfl))
      have ec : ∀ v, a'.eval (.const v) = v := fun _ => rfl
      clear hs hd
      unfold Oper.wp
      generalize a'.eval = ρ at e0 ec ⊢
      simp [go_sem, e0]
      exact hK _ _ (Below.refl _ _) rfl⟩) <|
        allOps_cons (fun a' w' hb hs hd => Or.inl ⟨wanted_t (j := 18) (d := 83) rfl (by kernel_rfl) (show a'.eval (.tmp 83) = .bool false from hd.get 18 83 (by kernel_rfl) (by kernel_rfl)), rg_op fun K hK => by
      have e0 := (hs.get 9 (by kernel_rfl)).trans (show _ = .pointer (some ⟨b9, 0, none⟩) from rfl)
      have ec : ∀ v, a'.eval (.const v) = v := fun _ => rfl
      have c0 := keep hb p0
      have c1 := keep hb p1
      clear hs hd
      unfold Oper.wp
      generalize a'.eval = ρ at e0 ec ⊢
      simp [go_sem, e0, c0, c1]
      exact hK _ _ (Below.refl _ _) rfl⟩) <|
        allOps_cons (fun a' w' hb hs hd => Or.inl ⟨wanted_t (j := 18) (d := 83) rfl (by kernel_rfl) (show a'.eval (.tmp 83) = .bool false from hd.get 18 83 (by kernel_rfl) (by kernel_rfl)), rg_op fun K hK => by
      have e0 := (hs.get 3 (by kernel_rfl)).trans (show _ = .pointer (some ⟨w.heap.size, 0, none⟩) from rfl)
      have ec : ∀ v, a'.eval (.const v) = v := fun _ => rfl
      have c0 := keep hb l0
      have c1 := keep hb l1
      clear hs hd
      unfold Oper.wp
      generalize a'.eval = ρ at e0 ec ⊢
      simp [go_sem, e0, c0, c1]
      exact hK _ _ (Below.refl _ _) rfl⟩) <|
        allOps_cons (fun a' w' hb hs hd => Or.inl ⟨wanted_t (j := 18) (d := 83) rfl (by kernel_rfl) (show a'.eval (.tmp 83) = .bool false from hd.get 18 83 (by kernel_rfl) (by kernel_rfl)), rg_op fun K hK => by
      have e0 := (hs.get 2 (by kernel_rfl)).trans (show _ = .int .i64 q from rfl)
      have ec : ∀ v, a'.eval (.const v) = v := fun _ => rfl
      clear hs hd
      unfold Oper.wp
      generalize a'.eval = ρ at e0 ec ⊢
      simp [go_sem, e0]
      exact hK _ _ (Below.refl _ _) rfl⟩) <|
        allOps_cons (fun a' w' hb hs hd => Or.inl ⟨wanted_t (j := 18) (d := 83) rfl (by kernel_rfl) (show a'.eval (.tmp 83) = .bool false from hd.get 18 83 (by kernel_rfl) (by kernel_rfl)), by
      exact rg_fn (φ := (mpEq (.agg #[.int .i64 X, .int .i64 Y])).p) (vs := #[.agg #[.slice A L cA, .int .i64 d1], .int .i64 q]) rfl (enters_of Try.func68 (by kernel_rfl) rfl) (by simp [(show a'.eval (.tmp 85) = .agg #[.slice A L cA, .int .i64 d1] from hd.get 20 85 (by kernel_rfl) (by kernel_rfl)), (show a'.eval (.tmp 86) = .int .i64 q from hd.get 21 86 (by kernel_rfl) (by kernel_rfl))]) ((HRR.out w' (belowT BV.out hb)).mono (by rintro e w1 ⟨rfl, h1⟩; exact ⟨_, rfl, h1, rfl⟩))⟩) <|
        allOps_cons (fun a' w' hb hs hd => Or.inl ⟨wanted_t (j := 18) (d := 83) rfl (by kernel_rfl) (show a'.eval (.tmp 83) = .bool false from hd.get 18 83 (by kernel_rfl) (by kernel_rfl)), rg_op fun K hK => by
      have e0 := (show a'.eval (.tmp 84) = .agg #[.int .i64 X, .int .i64 Y] from hd.get 19 84 (by kernel_rfl) (by kernel_rfl))
      have e1 := (show a'.eval (.tmp 87) = .agg #[.int .i64 X, .int .i64 Y] from hd.get 22 87 (by kernel_rfl) (by kernel_rfl))
      have ec : ∀ v, a'.eval (.const v) = v := fun _ => rfl
      clear hs hd
      unfold Oper.wp
      generalize a'.eval = ρ at e0 e1 ec ⊢
      simp [go_sem, e0, e1]
      exact hK _ _ (Below.refl _ _) rfl⟩) <|
        allOps_cons (fun a' w' hb hs hd => Or.inl ⟨wanted_t (j := 15) (d := 80) rfl (by kernel_rfl) (show a'.eval (.tmp 80) = .bool true from hd.get 15 80 (by kernel_rfl) (by kernel_rfl)), rg_op fun K hK => by
      have e0 := (show a'.eval (.tmp 83) = .bool false from hd.get 18 83 (by kernel_rfl) (by kernel_rfl))
      have e1 := (show a'.eval (.tmp 88) = .bool false from hd.get 23 88 (by kernel_rfl) (by kernel_rfl))
      have ec : ∀ v, a'.eval (.const v) = v := fun _ => rfl
      clear hs hd
      unfold Oper.wp
      generalize a'.eval = ρ at e0 e1 ec ⊢
      simp [go_sem, e0, e1, ec]
      exact hK _ _ (Below.refl _ _) rfl⟩) <|
        allOps_cons (fun a' w' hb hs hd => Or.inl ⟨wanted_t (j := 12) (d := 77) rfl (by kernel_rfl) (show a'.eval (.tmp 77) = .bool false from hd.get 12 77 (by kernel_rfl) (by kernel_rfl)), rg_op fun K hK => by
      have e0 := (show a'.eval (.tmp 80) = .bool true from hd.get 15 80 (by kernel_rfl) (by kernel_rfl))
      have e1 := (show a'.eval (.tmp 89) = .bool false from hd.get 24 89 (by kernel_rfl) (by kernel_rfl))
      have ec : ∀ v, a'.eval (.const v) = v := fun _ => rfl
      clear hs hd
      unfold Oper.wp
      generalize a'.eval = ρ at e0 e1 ec ⊢
      simp [go_sem, e0, e1, ec]
      exact hK _ _ (Below.refl _ _) rfl⟩) <|
        allOps_cons (fun a' w' hb hs hd => Or.inl ⟨wanted_n rfl, rg_op fun K hK => by
      have e0 := (show a'.eval (.tmp 77) = .bool false from hd.get 12 77 (by kernel_rfl) (by kernel_rfl))
      have e1 := (show a'.eval (.tmp 90) = .bool false from hd.get 25 90 (by kernel_rfl) (by kernel_rfl))
      have ec : ∀ v, a'.eval (.const v) = v := fun _ => rfl
      clear hs hd
      unfold Oper.wp
      generalize a'.eval = ρ at e0 e1 ec ⊢
      simp [go_sem, e0, e1, ec]
      exact hK _ _ (Below.refl _ _) rfl⟩) <| allOps_nil) (fun V v5 hv5 hall => ?_)
  have h91 : V 91 = .bool false := hall.get 26 rfl
  clear hall
  simp only [se1, maskPut, Nat.reduceAdd]
  rw [h91]
  clear h91
  replace BV := Lib.hid (belowT BV.out hv5)
  replace l0 := keep hv5 l0
  replace l1 := keep hv5 l1
  replace m0 := keep hv5 m0
  replace m1 := keep hv5 m1
  replace g0 := keep hv5 g0
  replace g1 := keep hv5 g1
  replace T7 := Lib.hid (T7.out.on hv5)
  clear hv5 p0 p1
  go_upto_region 17 with (first
    | (go_at_call 60; (with_reducible refine Calls.mono (HFG.out _ BV.out) ?_); rintro e yx ⟨rfl, hbx⟩; (try replace l0 := keep hbx l0); (try replace l1 := keep hbx l1); (try replace m0 := keep hbx m0); (try replace m1 := keep hbx m1); (try replace g0 := keep hbx g0); (try replace g1 := keep hbx g1); (try replace p0 := keep hbx p0); (try replace p1 := keep hbx p1); (try replace r0 := keep hbx r0); (try replace r1 := keep hbx r1); (try replace T1 := Lib.hid (T1.out.bel hbx)); (try replace T7 := Lib.hid (T7.out.on hbx)); (try replace TW := Lib.hid (TW.out.bel hbx)); (first | replace BV := Lib.hid (belowT (show Below w.heap.size w _ by have Bq := BV.out; have Bz := Bq.size; (repeat (first | with_reducible exact Below.refl _ _ | with_reducible assumption | with_reducible refine Below.alloc ?_ (by first | (simp; done) | (simp; omega) | omega) _ | with_reducible refine Below.setCell ?_ (by first | (simp; done) | (simp; omega) | omega) _ | with_reducible refine Below.drew ?_ | with_reducible refine below_drewN ?_ _))) hbx) | have BV := Lib.hid (belowT (show Below w.heap.size w _ by (repeat (first | with_reducible exact Below.refl _ _ | with_reducible assumption | with_reducible refine Below.alloc ?_ (by first | (simp; done) | (simp; omega) | omega) _ | with_reducible refine Below.setCell ?_ (by first | (simp; done) | (simp; omega) | omega) _ | with_reducible refine Below.drew ?_ | with_reducible refine below_drewN ?_ _))) hbx)); clear hbx)
    | (go_at_call 69; (with_reducible refine Calls.mono (HCR.out _ BV.out) ?_); rintro e yx ⟨GW, rfl, hbx, hIW⟩; (try replace l0 := keep hbx l0); (try replace l1 := keep hbx l1); (try replace m0 := keep hbx m0); (try replace m1 := keep hbx m1); (try replace g0 := keep hbx g0); (try replace g1 := keep hbx g1); (try replace p0 := keep hbx p0); (try replace p1 := keep hbx p1); (try replace r0 := keep hbx r0); (try replace r1 := keep hbx r1); (try replace T1 := Lib.hid (T1.out.bel hbx)); (try replace T7 := Lib.hid (T7.out.on hbx)); (try replace TW := Lib.hid (TW.out.bel hbx)); (first | replace BV := Lib.hid (belowT (show Below w.heap.size w _ by have Bq := BV.out; have Bz := Bq.size; (repeat (first | with_reducible exact Below.refl _ _ | with_reducible assumption | with_reducible refine Below.alloc ?_ (by first | (simp; done) | (simp; omega) | omega) _ | with_reducible refine Below.setCell ?_ (by first | (simp; done) | (simp; omega) | omega) _ | with_reducible refine Below.drew ?_ | with_reducible refine below_drewN ?_ _))) hbx) | have BV := Lib.hid (belowT (show Below w.heap.size w _ by (repeat (first | with_reducible exact Below.refl _ _ | with_reducible assumption | with_reducible refine Below.alloc ?_ (by first | (simp; done) | (simp; omega) | omega) _ | with_reducible refine Below.setCell ?_ (by first | (simp; done) | (simp; omega) | omega) _ | with_reducible refine Below.drew ?_ | with_reducible refine below_drewN ?_ _))) hbx)); have TW := Lib.hid hIW; clear hIW; clear hbx))
  obtain ⟨b13, hb13⟩ : ∃ b13, yx.heap.size = b13 := ⟨_, rfl⟩
  have hvv : Below yx.heap.size yx (yx.alloc (.cells #[.slice (some ⟨GW, 0, none⟩) N N, .int .i64 dd] 82)) := (Below.refl _ _).alloc (Nat.le_refl _) _
  have r0 : (yx.alloc (.cells #[.slice (some ⟨GW, 0, none⟩) N N, .int .i64 dd] 82)).cell? ⟨b13, 0, none⟩ = some (.slice (some ⟨GW, 0, none⟩) N N) := by rw [← hb13]; simp [go_sem]
  have r1 : (yx.alloc (.cells #[.slice (some ⟨GW, 0, none⟩) N N, .int .i64 dd] 82)).cell? ⟨b13, 1, none⟩ = some (.int .i64 dd) := by rw [← hb13]; simp [go_sem]
  replace g0 := keep hvv g0
  replace g1 := keep hvv g1
  replace T7 := Lib.hid (T7.out.on hvv)
  replace TW := Lib.hid (TW.out.bel hvv)
  replace BV := Lib.hid (belowT BV.out hvv)
  clear hvv
  generalize (yx.alloc (.cells #[.slice (some ⟨GW, 0, none⟩) N N, .int .i64 dd] 82)) = v6 at *
  rw [hb13]
  clear hb13
  go_wp2_with (first
    | (go_at_call 60; (with_reducible refine Calls.mono (HFW.out _ _ TW.out) ?_); rintro e yx ⟨rfl, hbx⟩; (try replace l0 := keep hbx l0); (try replace l1 := keep hbx l1); (try replace m0 := keep hbx m0); (try replace m1 := keep hbx m1); (try replace g0 := keep hbx g0); (try replace g1 := keep hbx g1); (try replace p0 := keep hbx p0); (try replace p1 := keep hbx p1); (try replace r0 := keep hbx r0); (try replace r1 := keep hbx r1); (try replace T1 := Lib.hid (T1.out.bel hbx)); (try replace T7 := Lib.hid (T7.out.on hbx)); (try replace TW := Lib.hid (TW.out.bel hbx)); (first | replace BV := Lib.hid (belowT (show Below w.heap.size w _ by have Bq := BV.out; have Bz := Bq.size; (repeat (first | with_reducible exact Below.refl _ _ | with_reducible assumption | with_reducible refine Below.alloc ?_ (by first | (simp; done) | (simp; omega) | omega) _ | with_reducible refine Below.setCell ?_ (by first | (simp; done) | (simp; omega) | omega) _ | with_reducible refine Below.drew ?_ | with_reducible refine below_drewN ?_ _))) hbx) | have BV := Lib.hid (belowT (show Below w.heap.size w _ by (repeat (first | with_reducible exact Below.refl _ _ | with_reducible assumption | with_reducible refine Below.alloc ?_ (by first | (simp; done) | (simp; omega) | omega) _ | with_reducible refine Below.setCell ?_ (by first | (simp; done) | (simp; omega) | omega) _ | with_reducible refine Below.drew ?_ | with_reducible refine below_drewN ?_ _))) hbx)); clear hbx)
    | (go_at_call 66; (with_reducible refine Calls.mono (HSF.out _ _ _ _ _ T7.out.ia TW.out) ?_); rintro e yx ⟨rfl, hbx⟩; (try replace l0 := keep hbx l0); (try replace l1 := keep hbx l1); (try replace m0 := keep hbx m0); (try replace m1 := keep hbx m1); (try replace g0 := keep hbx g0); (try replace g1 := keep hbx g1); (try replace p0 := keep hbx p0); (try replace p1 := keep hbx p1); (try replace r0 := keep hbx r0); (try replace r1 := keep hbx r1); (try replace T1 := Lib.hid (T1.out.bel hbx)); (try replace T7 := Lib.hid (T7.out.on hbx)); (try replace TW := Lib.hid (TW.out.bel hbx)); (first | replace BV := Lib.hid (belowT (show Below w.heap.size w _ by have Bq := BV.out; have Bz := Bq.size; (repeat (first | with_reducible exact Below.refl _ _ | with_reducible assumption | with_reducible refine Below.alloc ?_ (by first | (simp; done) | (simp; omega) | omega) _ | with_reducible refine Below.setCell ?_ (by first | (simp; done) | (simp; omega) | omega) _ | with_reducible refine Below.drew ?_ | with_reducible refine below_drewN ?_ _))) hbx) | have BV := Lib.hid (belowT (show Below w.heap.size w _ by (repeat (first | with_reducible exact Below.refl _ _ | with_reducible assumption | with_reducible refine Below.alloc ?_ (by first | (simp; done) | (simp; omega) | omega) _ | with_reducible refine Below.setCell ?_ (by first | (simp; done) | (simp; omega) | omega) _ | with_reducible refine Below.drew ?_ | with_reducible refine below_drewN ?_ _))) hbx)); clear hbx))
  go_ret
  exact ⟨rfl, BV.out⟩
end Go.Proofs.Ytpkacfgmojblbaa
