/- Helpers: the law SampleMixes. No condition but the hypotheses that each theorem names. -/
import Derived.Test.YtpkacfgmojblbaaB18
import Derived.Test.YtpkacfgmojblbaaB11
import Derived.Test.YtpkacfgmojblbaaB12
import Derived.Test.YtpkacfgmojblbaaB10
namespace Go.Proofs.Ytpkacfgmojblbaa
open Go.RowKit
attribute [local go_sem] old1 fro1 old2 fro2 old3 fro3 old4 fro4 old5 fro5 old6 fro6 old7 fro7 old8 fro8 old9 fro9 old10 fro10 old11 fro11 old12 fro12
def pf0 : List Bool := [false, false, false, false, false, true, true, false, false, false, false, false, false, false, false, false, false, false, false, false, true, true, true, true, true, true, true, false, false, false, false, false, false, false, false, false, false, false, false, false, false, false, false, false, false, false, false, false, false, false, false, false, false, false, false, false, false, false, false, false, false, false, false, false, false, false, false, false, false, false, false, false, false, false, false, false, false, false, false, false, false, false, false, false, false, false, false, false, false, false, false, false, false, false, false, false, false, false, false, false, false, false, false, false, false, false, false, false, false, false, false, false, false, false, false, false, false, false, false, false, false, false, false, false, false, false, false, false, false, false, false, false, false, false, false, false, false, false, false]
def pf1 : List Bool := [false, false, false, false, false, false, false, true, true, false, false, false, false, false, false, false, false, false, false, false, false, false, false, false, false, false, false, true, true, true, true, true, true, true, false, false, false, false, false, false, false, false, false, false, false, false, false, false, false, false, false, false, false, false, false, false, false, false, false, false, false, false, false, false, false, false, false, false, false, false, false, false, false, false, false, false, false, false, false, false, false, false, false, false, false, false, false, false, false, false, false, false, false, false, false, false, false, false, false, false, false, false, false, false, false, false, false, false, false, false, false, false, false, false, false, false, false, false, false, false, false, false, false, false, false, false, false, false, false, false, false, false, false, false, false, false, false, false, false]
/-- a pair of a row and a number -/
def mpTG (n : Nat) (h : Nat → Int × Int) (E : Int) : MP := ⟨fun v w => ∃ A c, v = .tuple #[.slice A n c, .int .i64 E] ∧ GA w A n h ∧ (A = none → n = 0 ∧ c = 0), fun _ _ _ ⟨A, c, e, h1, h2⟩ hb => ⟨A, c, e, h1.bel hb, h2⟩⟩
theorem ga_0 (w : World) (A : Option Addr) (g : Nat → Int × Int) : GA w A 0 g := fun h => absurd h (Nat.lt_irrefl 0)
theorem mixedS_all (ph inc ch : Int) (A : Option Addr) (n c : Nat) (g : Nat → Int × Int) (E : Int) (m : Nat) (hE : mxE ph inc ch n g = E) (hm : E = 0 → m = n) (hm' : E ≠ 0 → m = 0) (w : World) (hn : n ≤ 1000000000) (hA : GA w A n g) :
    Calls Try.prog 48 #[.agg #[.int .i64 ph, .int .i64 inc, .int .i64 ch], .slice A n c] w fun e w' => ∃ A' c', e = .returned (.tuple #[.slice A' m c', .int .i64 E]) ∧ Below w.heap.size w w' ∧ GA w' A' m (mxS (-1) ph inc ch g) ∧ (A' = none → m = 0 ∧ c' = 0) := by
  by_cases h0 : E = 0
  · obtain rfl := hm h0
    subst h0
    exact mixedS_ok ph inc ch A m c g hE w hA
  · obtain rfl := hm' h0
    exact (mixedS_err ph inc ch A n c g E hE h0 w hn hA).mono fun e w1 ⟨h1, h2⟩ => ⟨none, 0, h1, h2, ga_0 _ _ _, fun _ => ⟨rfl, rfl⟩⟩
theorem unmixedS_all (ph inc ch : Int) (A : Option Addr) (n c : Nat) (g : Nat → Int × Int) (E : Int) (m : Nat) (hE : mxE ph inc ch n g = E) (hm : E = 0 → m = n) (hm' : E ≠ 0 → m = 0) (w : World) (hn : n ≤ 1000000000) (hA : GA w A n g) :
    Calls Try.prog 50 #[.agg #[.int .i64 ph, .int .i64 inc, .int .i64 ch], .slice A n c] w fun e w' => ∃ A' c', e = .returned (.tuple #[.slice A' m c', .int .i64 E]) ∧ Below w.heap.size w w' ∧ GA w' A' m (mxS 1 ph inc ch g) ∧ (A' = none → m = 0 ∧ c' = 0) := by
  by_cases h0 : E = 0
  · obtain rfl := hm h0
    subst h0
    exact unmixedS_ok ph inc ch A m c g hE w hA
  · obtain rfl := hm' h0
    exact (unmixedS_err ph inc ch A n c g E hE h0 w hn hA).mono fun e w1 ⟨h1, h2⟩ => ⟨none, 0, h1, h2, ga_0 _ _ _, fun _ => ⟨rfl, rfl⟩⟩
theorem saturatedS_all (A : Option Addr) (n c : Nat) (g : Nat → Int × Int) (E : Int) (m : Nat) (hE : smE n g = E) (hm : E = 0 → m = (stL g n).length) (hm' : E ≠ 0 → m = 0) (w : World) (hn : n ≤ 1000000000) (hA : GA w A n g) :
    Calls Try.prog 51 #[.slice A n c] w fun e w' => ∃ A' c', e = .returned (.tuple #[.slice A' m c', .int .i64 E]) ∧ Below w.heap.size w w' ∧ IA w' A' m (fun i => (stL g n).getD i 0) := by
  by_cases h0 : E = 0
  · obtain rfl := hm h0
    subst h0
    exact saturatedS_ok A n c g hE w hA
  · obtain rfl := hm' h0
    exact (saturatedS_err A n c g E hE h0 w hn hA).mono fun e w1 ⟨h1, h2⟩ => ⟨none, 0, h1, h2, fun h => absurd h (Nat.lt_irrefl 0)⟩
theorem gausses_same (A B : Option Addr) (n c c' : Nat) (h : Nat → Int × Int) (w : World) (hn : n ≤ 1000000) (hA : GA w A n h) (hB : GA w B n h) :
    Calls Try.prog 35 #[.slice A n c, .slice B n c'] w fun e w' => e = .returned (.bool true) ∧ Below w.heap.size w w' :=
  (gausses_any A B n c n c' h h w hn hA hB).mono fun e w1 ⟨h1, h2⟩ => ⟨by rw [h1]; simp, h2⟩
theorem ints_same (A B : Option Addr) (n c c' : Nat) (h : Nat → Int) (w : World) (hn : n ≤ 1000000) (hA : IA w A n h) (hB : IA w B n h) :
    Calls Try.prog 30 #[.slice A n c, .slice B n c'] w fun e w' => e = .returned (.bool true) ∧ Below w.heap.size w w' :=
  (ints_any A B n c n c' h h w hn hA hB).mono fun e w1 ⟨h1, h2⟩ => ⟨by rw [h1]; simp, h2⟩
set_option maxRecDepth 100000 in
set_option maxHeartbeats 800000 in
theorem sx_many (ph inc ch : Int) (A : Option Addr) (n c : Nat) (w : World) (hs : shr n = false) :
    Calls Try.prog 7 #[.agg #[.int .i64 ph, .int .i64 inc, .int .i64 ch], .slice A n c] w fun e w' => e = .returned (.bool true) ∧ Below w.heap.size w w' := by
  have HSH := Lib.hid (fun W => short_any A n c W)
  rw [hs] at HSH
  go_enter Try.func7, Try.ntmps7
  go_wp2_with (first
    | (go_at_call 17; (with_reducible refine Calls.mono (awake_any _) ?_); rintro e yx ⟨rfl, hbx⟩; (try replace l0 := keep hbx l0); (try replace l1 := keep hbx l1); (try replace l2 := keep hbx l2); (try replace T5 := Lib.hid (T5.out.bel hbx)); (try replace T7 := Lib.hid (T7.out.bel hbx)); (try replace T9 := Lib.hid (T9.out.bel hbx)); (try replace TS := Lib.hid (TS.out.bel hbx)); (try replace TM := Lib.hid (TM.out.bel hbx)); (first | replace BV := Lib.hid (belowT (show Below w.heap.size w _ by have Bq := BV.out; have Bz := Bq.size; (repeat (first | with_reducible exact Below.refl _ _ | with_reducible assumption | with_reducible refine Below.alloc ?_ (by first | (simp; done) | (simp; omega) | omega) _ | with_reducible refine Below.setCell ?_ (by first | (simp; done) | (simp; omega) | omega) _ | with_reducible refine Below.drew ?_ | with_reducible refine below_drewN ?_ _))) hbx) | have BV := Lib.hid (belowT (show Below w.heap.size w _ by (repeat (first | with_reducible exact Below.refl _ _ | with_reducible assumption | with_reducible refine Below.alloc ?_ (by first | (simp; done) | (simp; omega) | omega) _ | with_reducible refine Below.setCell ?_ (by first | (simp; done) | (simp; omega) | omega) _ | with_reducible refine Below.drew ?_ | with_reducible refine below_drewN ?_ _))) hbx)); have l0 := keep hbx (b := w.heap.size) (o := 0) (v := .int .i64 ph) (by simp [go_sem]); have l1 := keep hbx (b := w.heap.size) (o := 1) (v := .int .i64 inc) (by simp [go_sem]); have l2 := keep hbx (b := w.heap.size) (o := 2) (v := .int .i64 ch) (by simp [go_sem]); clear hbx)
    | (go_at_call 47; (with_reducible refine Calls.mono (HSH.out _) ?_); rintro e yx ⟨rfl, hbx⟩; (try replace l0 := keep hbx l0); (try replace l1 := keep hbx l1); (try replace l2 := keep hbx l2); (try replace T5 := Lib.hid (T5.out.bel hbx)); (try replace T7 := Lib.hid (T7.out.bel hbx)); (try replace T9 := Lib.hid (T9.out.bel hbx)); (try replace TS := Lib.hid (TS.out.bel hbx)); (try replace TM := Lib.hid (TM.out.bel hbx)); (first | replace BV := Lib.hid (belowT (show Below w.heap.size w _ by have Bq := BV.out; have Bz := Bq.size; (repeat (first | with_reducible exact Below.refl _ _ | with_reducible assumption | with_reducible refine Below.alloc ?_ (by first | (simp; done) | (simp; omega) | omega) _ | with_reducible refine Below.setCell ?_ (by first | (simp; done) | (simp; omega) | omega) _ | with_reducible refine Below.drew ?_ | with_reducible refine below_drewN ?_ _))) hbx) | have BV := Lib.hid (belowT (show Below w.heap.size w _ by (repeat (first | with_reducible exact Below.refl _ _ | with_reducible assumption | with_reducible refine Below.alloc ?_ (by first | (simp; done) | (simp; omega) | omega) _ | with_reducible refine Below.setCell ?_ (by first | (simp; done) | (simp; omega) | omega) _ | with_reducible refine Below.drew ?_ | with_reducible refine below_drewN ?_ _))) hbx)); clear hbx))
  go_ret
  exact ⟨rfl, BV.out⟩
set_option maxRecDepth 100000 in
set_option maxHeartbeats 4000000 in
theorem sx_dp (ph inc ch : Int) (A : Option Addr) (n c : Nat) (g : Nat → Int × Int) (D : Int) (D0 : D ≠ 0) (P : Int) (P0 : P ≠ 0) (w : World) (hs : shr n = true) (hD : smE n g = D) (hP : prgE ph inc ch = P) (hG : GS w (.slice A n c) n g) :
    Calls Try.prog 7 #[.agg #[.int .i64 ph, .int .i64 inc, .int .i64 ch], .slice A n c] w fun e w' => e = .returned (.bool true) ∧ Below w.heap.size w w' := by
  have hn : n ≤ 404 := by unfold shr at hs; simp at hs; omega
  have hE : mxE ph inc ch n g = P := by unfold mxE fs2; rw [hP, hD]; rw [if_neg P0]
  have hA : GA w A n g := by obtain ⟨A', c', e, h, _⟩ := hG; cases e; exact h
  have HSH := Lib.hid (fun W => short_any A n c W)
  rw [hs] at HSH
  have HCG := Lib.hid (fun W (hW : Below w.heap.size w W) => copyG_any (.slice A n c) n g W (by omega) (hG.on hW))
  have HMX := Lib.hid (fun A1 c1 W (h : GA W A1 n g) => mixedS_all ph inc ch A1 n c1 g (P) 0 hE (fun h => absurd h P0) (fun _ => rfl) W (by omega) h)
  have HUM := Lib.hid (fun A1 c1 W (h : GA W A1 n g) => unmixedS_all ph inc ch A1 n c1 g (P) 0 hE (fun h => absurd h P0) (fun _ => rfl) W (by omega) h)
  have HST := Lib.hid (fun A1 c1 W (h : GA W A1 n g) => saturatedS_all A1 n c1 g (D) (0) hD (fun h => absurd h D0) (fun _ => rfl) W (by omega) h)
  have HEN := Lib.hid (fun A1 c1 W (h : GA W A1 n g) => energyOfS_any A1 n c1 g W (by omega) h)
  have HSE := Lib.hid (fun W (hW : Below w.heap.size w W) => samplesErr_any A n c g W (by omega) (hA.bel hW))
  have HPE := Lib.hid (fun W => programErr_any ph inc ch W)
  rw [hD] at HSE HEN
  rw [hP] at HPE
  rw [if_neg D0] at HEN
  have d1 : (D == 0) = false := by simpa using D0
  have d2 : (D != 0) = true := by simpa using D0
  have p1 : (P == 0) = false := by simpa using P0
  have p2 : (P != 0) = true := by simpa using P0
  clear hD hP hE hA hG hs D0 P0
  go_enter Try.func7, Try.ntmps7
  go_upto_region 5 with (first
    | (go_at_call 17; (with_reducible refine Calls.mono (awake_any _) ?_); rintro e yx ⟨rfl, hbx⟩; (try replace l0 := keep hbx l0); (try replace l1 := keep hbx l1); (try replace l2 := keep hbx l2); (try replace T5 := Lib.hid (T5.out.bel hbx)); (try replace T7 := Lib.hid (T7.out.bel hbx)); (try replace T9 := Lib.hid (T9.out.bel hbx)); (try replace TS := Lib.hid (TS.out.bel hbx)); (try replace TM := Lib.hid (TM.out.bel hbx)); (first | replace BV := Lib.hid (belowT (show Below w.heap.size w _ by have Bq := BV.out; have Bz := Bq.size; (repeat (first | with_reducible exact Below.refl _ _ | with_reducible assumption | with_reducible refine Below.alloc ?_ (by first | (simp; done) | (simp; omega) | omega) _ | with_reducible refine Below.setCell ?_ (by first | (simp; done) | (simp; omega) | omega) _ | with_reducible refine Below.drew ?_ | with_reducible refine below_drewN ?_ _))) hbx) | have BV := Lib.hid (belowT (show Below w.heap.size w _ by (repeat (first | with_reducible exact Below.refl _ _ | with_reducible assumption | with_reducible refine Below.alloc ?_ (by first | (simp; done) | (simp; omega) | omega) _ | with_reducible refine Below.setCell ?_ (by first | (simp; done) | (simp; omega) | omega) _ | with_reducible refine Below.drew ?_ | with_reducible refine below_drewN ?_ _))) hbx)); have l0 := keep hbx (b := w.heap.size) (o := 0) (v := .int .i64 ph) (by simp [go_sem]); have l1 := keep hbx (b := w.heap.size) (o := 1) (v := .int .i64 inc) (by simp [go_sem]); have l2 := keep hbx (b := w.heap.size) (o := 2) (v := .int .i64 ch) (by simp [go_sem]); clear hbx)
    | (go_at_call 47; (with_reducible refine Calls.mono (HSH.out _) ?_); rintro e yx ⟨rfl, hbx⟩; (try replace l0 := keep hbx l0); (try replace l1 := keep hbx l1); (try replace l2 := keep hbx l2); (try replace T5 := Lib.hid (T5.out.bel hbx)); (try replace T7 := Lib.hid (T7.out.bel hbx)); (try replace T9 := Lib.hid (T9.out.bel hbx)); (try replace TS := Lib.hid (TS.out.bel hbx)); (try replace TM := Lib.hid (TM.out.bel hbx)); (first | replace BV := Lib.hid (belowT (show Below w.heap.size w _ by have Bq := BV.out; have Bz := Bq.size; (repeat (first | with_reducible exact Below.refl _ _ | with_reducible assumption | with_reducible refine Below.alloc ?_ (by first | (simp; done) | (simp; omega) | omega) _ | with_reducible refine Below.setCell ?_ (by first | (simp; done) | (simp; omega) | omega) _ | with_reducible refine Below.drew ?_ | with_reducible refine below_drewN ?_ _))) hbx) | have BV := Lib.hid (belowT (show Below w.heap.size w _ by (repeat (first | with_reducible exact Below.refl _ _ | with_reducible assumption | with_reducible refine Below.alloc ?_ (by first | (simp; done) | (simp; omega) | omega) _ | with_reducible refine Below.setCell ?_ (by first | (simp; done) | (simp; omega) | omega) _ | with_reducible refine Below.drew ?_ | with_reducible refine below_drewN ?_ _))) hbx)); clear hbx))
  have HB0 := BV
  generalize yx = v0 at *
  clear BV
  refine wp_region_mp [mpEq (.agg #[.int .i64 ph, .int .i64 inc, .int .i64 ch]), mpEq (.slice A n c), mpGS (n) (g), mpTG (0) (mxS (-1) ph inc ch g) (P), mpTG (0) (mxS (-1) ph inc ch g) (P), mpGS (0) (mxS (-1) ph inc ch g), mpEq (.int .i64 (P)), mpGS (0) (mxS (-1) ph inc ch g), mpEq (.int .i64 (P))] pf0 (by kernel_rfl) (by kernel_rfl) (by kernel_rfl) (
        allOps_cons (fun a' w' hb hs hd => rg_op fun K hK => by
      have e0 := (hs.get 2 (by kernel_rfl)).trans (show _ = .pointer (some ⟨w.heap.size, 0, none⟩) from rfl)
      have ec : ∀ v, a'.eval (.const v) = v := fun _ => rfl
      have c0 := keep hb l0
      have c1 := keep hb l1
      have c2 := keep hb l2
      clear hs hd
      unfold Oper.wp
      generalize a'.eval = ρ at e0 ec ⊢
      simp [go_sem, e0, c0, c1, c2]
      exact hK _ _ (Below.refl _ _) rfl) <|
        allOps_cons (fun a' w' hb hs hd => rg_op fun K hK => by
      have e0 := (hs.get 1 (by kernel_rfl)).trans (show _ = .slice A n c from rfl)
      have ec : ∀ v, a'.eval (.const v) = v := fun _ => rfl
      clear hs hd
      unfold Oper.wp
      generalize a'.eval = ρ at e0 ec ⊢
      simp [go_sem, e0]
      exact hK _ _ (Below.refl _ _) rfl) <|
        allOps_cons (fun a' w' hb hs hd => by
      exact rg_fn (φ := (mpGS (n) (g)).p) (vs := #[.slice A n c]) rfl (enters_of Try.func49 (by kernel_rfl) rfl) (by simp [(show a'.eval (.tmp 22) = .slice A n c from hd.get 1 22 (by kernel_rfl) (by kernel_rfl))]) ((HCG.out w' (belowT HB0.out hb)).mono (by rintro e w1 ⟨v, rfl, h1, h2⟩; exact ⟨_, rfl, h1, h2⟩))) <|
        allOps_cons (fun a' w' hb hs hd => by
      obtain ⟨A1, c1, e1, hG1, _⟩ := (show (mpGS (n) (g)).p (a'.eval (.tmp 23)) w' from hd.get 2 23 (by kernel_rfl) (by kernel_rfl))
      exact rg_fn (φ := (mpTG (0) (mxS (-1) ph inc ch g) (P)).p) (vs := #[.agg #[.int .i64 ph, .int .i64 inc, .int .i64 ch], .slice A1 n c1]) rfl (enters_of Try.func48 (by kernel_rfl) rfl) (by simp [(show a'.eval (.tmp 21) = .agg #[.int .i64 ph, .int .i64 inc, .int .i64 ch] from hd.get 0 21 (by kernel_rfl) (by kernel_rfl)), e1]) ((HMX.out A1 c1 w' hG1).mono (by rintro e w1 ⟨A2, c2, rfl, h1, h2, h3⟩; exact ⟨_, rfl, h1, A2, c2, rfl, h2, fun q => (by have h4 := h3 q; simpa using h4)⟩))) <|
        allOps_cons (fun a' w' hb hs hd => rg_op fun K hK => by
      have e0 := (show (mpTG (0) (mxS (-1) ph inc ch g) (P)).p (a'.eval (.tmp 24)) w' from hd.get 3 24 (by kernel_rfl) (by kernel_rfl))
      clear hs hd
      unfold Oper.wp
      generalize a'.eval = ρ at e0 ⊢
      simp [go_sem]
      exact hK _ _ (Below.refl _ _) e0) <|
        allOps_cons (fun a' w' hb hs hd => rg_op fun K hK => by
      obtain ⟨At, ct, e0, ht1, ht2⟩ := (show (mpTG (0) (mxS (-1) ph inc ch g) (P)).p (a'.eval (.tmp 20)) w' from hd.get 4 20 (by kernel_rfl) (by kernel_rfl))
      clear hs hd
      unfold Oper.wp
      generalize a'.eval = ρ at e0 ⊢
      simp [go_sem, e0]
      exact hK _ _ (Below.refl _ _) ⟨At, ct, rfl, ht1, ht2⟩) <|
        allOps_cons (fun a' w' hb hs hd => rg_op fun K hK => by
      obtain ⟨At, ct, e0, ht1, ht2⟩ := (show (mpTG (0) (mxS (-1) ph inc ch g) (P)).p (a'.eval (.tmp 20)) w' from hd.get 4 20 (by kernel_rfl) (by kernel_rfl))
      clear hs hd
      unfold Oper.wp
      generalize a'.eval = ρ at e0 ⊢
      simp [go_sem, e0]
      exact hK _ _ (Below.refl _ _) rfl) <|
        allOps_cons (fun a' w' hb hs hd => rg_op fun K hK => by
      have e0 := (show (mpGS (0) (mxS (-1) ph inc ch g)).p (a'.eval (.tmp 25)) w' from hd.get 5 25 (by kernel_rfl) (by kernel_rfl))
      clear hs hd
      unfold Oper.wp
      generalize a'.eval = ρ at e0 ⊢
      simp [go_sem]
      exact hK _ _ (Below.refl _ _) e0) <|
        allOps_cons (fun a' w' hb hs hd => rg_op fun K hK => by
      have e0 := (show a'.eval (.tmp 26) = .int .i64 (P) from hd.get 6 26 (by kernel_rfl) (by kernel_rfl))
      have ec : ∀ v, a'.eval (.const v) = v := fun _ => rfl
      clear hs hd
      unfold Oper.wp
      generalize a'.eval = ρ at e0 ec ⊢
      simp [go_sem, e0]
      exact hK _ _ (Below.refl _ _) rfl) <| allOps_nil) (fun V v1 hv1 hall => ?_)
  have h5 : (mpGS (0) (mxS (-1) ph inc ch g)).p (V 5) _ := hall.get 7 rfl
  have h6 : V 6 = .int .i64 (P) := hall.get 8 rfl
  clear hall
  simp only [pf0, maskPut, Nat.reduceAdd]
  rw [h6]
  clear h6
  obtain ⟨A5, c5, e5, hG5, _⟩ := h5
  rw [e5]
  have HB0 := Lib.hid (belowT HB0.out hv1)
  have T5 := Lib.hid hG5
  replace l0 := keep hv1 l0
  replace l1 := keep hv1 l1
  replace l2 := keep hv1 l2
  clear hv1 hG5 e5
  go_upto_region 6 with fail
  refine wp_region_mp [mpEq (.agg #[.int .i64 ph, .int .i64 inc, .int .i64 ch]), mpEq (.slice A n c), mpGS (n) (g), mpTG (0) (mxS 1 ph inc ch g) (P), mpTG (0) (mxS 1 ph inc ch g) (P), mpGS (0) (mxS 1 ph inc ch g), mpEq (.int .i64 (P)), mpGS (0) (mxS 1 ph inc ch g), mpEq (.int .i64 (P))] pf1 (by kernel_rfl) (by kernel_rfl) (by kernel_rfl) (
        allOps_cons (fun a' w' hb hs hd => rg_op fun K hK => by
      have e0 := (hs.get 2 (by kernel_rfl)).trans (show _ = .pointer (some ⟨w.heap.size, 0, none⟩) from rfl)
      have ec : ∀ v, a'.eval (.const v) = v := fun _ => rfl
      have c0 := keep hb l0
      have c1 := keep hb l1
      have c2 := keep hb l2
      clear hs hd
      unfold Oper.wp
      generalize a'.eval = ρ at e0 ec ⊢
      simp [go_sem, e0, c0, c1, c2]
      exact hK _ _ (Below.refl _ _) rfl) <|
        allOps_cons (fun a' w' hb hs hd => rg_op fun K hK => by
      have e0 := (hs.get 1 (by kernel_rfl)).trans (show _ = .slice A n c from rfl)
      have ec : ∀ v, a'.eval (.const v) = v := fun _ => rfl
      clear hs hd
      unfold Oper.wp
      generalize a'.eval = ρ at e0 ec ⊢
      simp [go_sem, e0]
      exact hK _ _ (Below.refl _ _) rfl) <|
        allOps_cons (fun a' w' hb hs hd => by
      exact rg_fn (φ := (mpGS (n) (g)).p) (vs := #[.slice A n c]) rfl (enters_of Try.func49 (by kernel_rfl) rfl) (by simp [(show a'.eval (.tmp 29) = .slice A n c from hd.get 1 29 (by kernel_rfl) (by kernel_rfl))]) ((HCG.out w' (belowT HB0.out hb)).mono (by rintro e w1 ⟨v, rfl, h1, h2⟩; exact ⟨_, rfl, h1, h2⟩))) <|
        allOps_cons (fun a' w' hb hs hd => by
      obtain ⟨A1, c1, e1, hG1, _⟩ := (show (mpGS (n) (g)).p (a'.eval (.tmp 30)) w' from hd.get 2 30 (by kernel_rfl) (by kernel_rfl))
      exact rg_fn (φ := (mpTG (0) (mxS 1 ph inc ch g) (P)).p) (vs := #[.agg #[.int .i64 ph, .int .i64 inc, .int .i64 ch], .slice A1 n c1]) rfl (enters_of Try.func50 (by kernel_rfl) rfl) (by simp [(show a'.eval (.tmp 28) = .agg #[.int .i64 ph, .int .i64 inc, .int .i64 ch] from hd.get 0 28 (by kernel_rfl) (by kernel_rfl)), e1]) ((HUM.out A1 c1 w' hG1).mono (by rintro e w1 ⟨A2, c2, rfl, h1, h2, h3⟩; exact ⟨_, rfl, h1, A2, c2, rfl, h2, fun q => (by have h4 := h3 q; simpa using h4)⟩))) <|
        allOps_cons (fun a' w' hb hs hd => rg_op fun K hK => by
      have e0 := (show (mpTG (0) (mxS 1 ph inc ch g) (P)).p (a'.eval (.tmp 31)) w' from hd.get 3 31 (by kernel_rfl) (by kernel_rfl))
      clear hs hd
      unfold Oper.wp
      generalize a'.eval = ρ at e0 ⊢
      simp [go_sem]
      exact hK _ _ (Below.refl _ _) e0) <|
        allOps_cons (fun a' w' hb hs hd => rg_op fun K hK => by
      obtain ⟨At, ct, e0, ht1, ht2⟩ := (show (mpTG (0) (mxS 1 ph inc ch g) (P)).p (a'.eval (.tmp 27)) w' from hd.get 4 27 (by kernel_rfl) (by kernel_rfl))
      clear hs hd
      unfold Oper.wp
      generalize a'.eval = ρ at e0 ⊢
      simp [go_sem, e0]
      exact hK _ _ (Below.refl _ _) ⟨At, ct, rfl, ht1, ht2⟩) <|
        allOps_cons (fun a' w' hb hs hd => rg_op fun K hK => by
      obtain ⟨At, ct, e0, ht1, ht2⟩ := (show (mpTG (0) (mxS 1 ph inc ch g) (P)).p (a'.eval (.tmp 27)) w' from hd.get 4 27 (by kernel_rfl) (by kernel_rfl))
      clear hs hd
      unfold Oper.wp
      generalize a'.eval = ρ at e0 ⊢
      simp [go_sem, e0]
      exact hK _ _ (Below.refl _ _) rfl) <|
        allOps_cons (fun a' w' hb hs hd => rg_op fun K hK => by
      have e0 := (show (mpGS (0) (mxS 1 ph inc ch g)).p (a'.eval (.tmp 32)) w' from hd.get 5 32 (by kernel_rfl) (by kernel_rfl))
      clear hs hd
      unfold Oper.wp
      generalize a'.eval = ρ at e0 ⊢
      simp [go_sem]
      exact hK _ _ (Below.refl _ _) e0) <|
        allOps_cons (fun a' w' hb hs hd => rg_op fun K hK => by
      have e0 := (show a'.eval (.tmp 33) = .int .i64 (P) from hd.get 6 33 (by kernel_rfl) (by kernel_rfl))
      have ec : ∀ v, a'.eval (.const v) = v := fun _ => rfl
      clear hs hd
      unfold Oper.wp
      generalize a'.eval = ρ at e0 ec ⊢
      simp [go_sem, e0]
      exact hK _ _ (Below.refl _ _) rfl) <| allOps_nil) (fun V v2 hv2 hall => ?_)
  have h7 : (mpGS (0) (mxS 1 ph inc ch g)).p (V 7) _ := hall.get 7 rfl
  have h8 : V 8 = .int .i64 (P) := hall.get 8 rfl
  clear hall
  simp only [pf1, maskPut, Nat.reduceAdd]
  rw [h8]
  clear h8
  obtain ⟨A7, c7, e7, hG7, _⟩ := h7
  rw [e7]
  have HB0 := Lib.hid (belowT HB0.out hv2)
  have T7 := Lib.hid hG7
  replace l0 := keep hv2 l0
  replace l1 := keep hv2 l1
  replace l2 := keep hv2 l2
  replace T5 := Lib.hid (T5.out.bel hv2)
  clear hv2 hG7 e7
  have BV := HB0
  clear HB0 HMX HUM
  go_wp2_with (first
    | (go_at_call 49; (with_reducible refine Calls.mono (HCG.out _ BV.out) ?_); rintro e yx ⟨vc, rfl, hbx, Ac, cc, rfl, hGc, _⟩; (try replace l0 := keep hbx l0); (try replace l1 := keep hbx l1); (try replace l2 := keep hbx l2); (try replace T5 := Lib.hid (T5.out.bel hbx)); (try replace T7 := Lib.hid (T7.out.bel hbx)); (try replace T9 := Lib.hid (T9.out.bel hbx)); (try replace TS := Lib.hid (TS.out.bel hbx)); (try replace TM := Lib.hid (TM.out.bel hbx)); (first | replace BV := Lib.hid (belowT (show Below w.heap.size w _ by have Bq := BV.out; have Bz := Bq.size; (repeat (first | with_reducible exact Below.refl _ _ | with_reducible assumption | with_reducible refine Below.alloc ?_ (by first | (simp; done) | (simp; omega) | omega) _ | with_reducible refine Below.setCell ?_ (by first | (simp; done) | (simp; omega) | omega) _ | with_reducible refine Below.drew ?_ | with_reducible refine below_drewN ?_ _))) hbx) | have BV := Lib.hid (belowT (show Below w.heap.size w _ by (repeat (first | with_reducible exact Below.refl _ _ | with_reducible assumption | with_reducible refine Below.alloc ?_ (by first | (simp; done) | (simp; omega) | omega) _ | with_reducible refine Below.setCell ?_ (by first | (simp; done) | (simp; omega) | omega) _ | with_reducible refine Below.drew ?_ | with_reducible refine below_drewN ?_ _))) hbx)); have TC := Lib.hid hGc; clear hGc; clear hbx)
    | (go_at_call 51; (with_reducible refine Calls.mono (HST.out _ _ _ TC.out) ?_); rintro e yx ⟨A9, c9, rfl, hbx, hI9⟩; (try replace l0 := keep hbx l0); (try replace l1 := keep hbx l1); (try replace l2 := keep hbx l2); (try replace T5 := Lib.hid (T5.out.bel hbx)); (try replace T7 := Lib.hid (T7.out.bel hbx)); (try replace T9 := Lib.hid (T9.out.bel hbx)); (try replace TS := Lib.hid (TS.out.bel hbx)); (try replace TM := Lib.hid (TM.out.bel hbx)); (first | replace BV := Lib.hid (belowT (show Below w.heap.size w _ by have Bq := BV.out; have Bz := Bq.size; (repeat (first | with_reducible exact Below.refl _ _ | with_reducible assumption | with_reducible refine Below.alloc ?_ (by first | (simp; done) | (simp; omega) | omega) _ | with_reducible refine Below.setCell ?_ (by first | (simp; done) | (simp; omega) | omega) _ | with_reducible refine Below.drew ?_ | with_reducible refine below_drewN ?_ _))) hbx) | have BV := Lib.hid (belowT (show Below w.heap.size w _ by (repeat (first | with_reducible exact Below.refl _ _ | with_reducible assumption | with_reducible refine Below.alloc ?_ (by first | (simp; done) | (simp; omega) | omega) _ | with_reducible refine Below.setCell ?_ (by first | (simp; done) | (simp; omega) | omega) _ | with_reducible refine Below.drew ?_ | with_reducible refine below_drewN ?_ _))) hbx)); have T9 := Lib.hid hI9; clear hI9; clear hbx)
    | (go_at_call 52; (with_reducible refine Calls.mono (HEN.out _ _ _ TC.out) ?_); rintro e yx ⟨rfl, hbx⟩; (try replace l0 := keep hbx l0); (try replace l1 := keep hbx l1); (try replace l2 := keep hbx l2); (try replace T5 := Lib.hid (T5.out.bel hbx)); (try replace T7 := Lib.hid (T7.out.bel hbx)); (try replace T9 := Lib.hid (T9.out.bel hbx)); (try replace TS := Lib.hid (TS.out.bel hbx)); (try replace TM := Lib.hid (TM.out.bel hbx)); (first | replace BV := Lib.hid (belowT (show Below w.heap.size w _ by have Bq := BV.out; have Bz := Bq.size; (repeat (first | with_reducible exact Below.refl _ _ | with_reducible assumption | with_reducible refine Below.alloc ?_ (by first | (simp; done) | (simp; omega) | omega) _ | with_reducible refine Below.setCell ?_ (by first | (simp; done) | (simp; omega) | omega) _ | with_reducible refine Below.drew ?_ | with_reducible refine below_drewN ?_ _))) hbx) | have BV := Lib.hid (belowT (show Below w.heap.size w _ by (repeat (first | with_reducible exact Below.refl _ _ | with_reducible assumption | with_reducible refine Below.alloc ?_ (by first | (simp; done) | (simp; omega) | omega) _ | with_reducible refine Below.setCell ?_ (by first | (simp; done) | (simp; omega) | omega) _ | with_reducible refine Below.drew ?_ | with_reducible refine below_drewN ?_ _))) hbx)); clear hbx)
    | (go_at_call 53; (with_reducible refine Calls.mono (HSE.out _ BV.out) ?_); rintro e yx ⟨rfl, hbx⟩; (try replace l0 := keep hbx l0); (try replace l1 := keep hbx l1); (try replace l2 := keep hbx l2); (try replace T5 := Lib.hid (T5.out.bel hbx)); (try replace T7 := Lib.hid (T7.out.bel hbx)); (try replace T9 := Lib.hid (T9.out.bel hbx)); (try replace TS := Lib.hid (TS.out.bel hbx)); (try replace TM := Lib.hid (TM.out.bel hbx)); (first | replace BV := Lib.hid (belowT (show Below w.heap.size w _ by have Bq := BV.out; have Bz := Bq.size; (repeat (first | with_reducible exact Below.refl _ _ | with_reducible assumption | with_reducible refine Below.alloc ?_ (by first | (simp; done) | (simp; omega) | omega) _ | with_reducible refine Below.setCell ?_ (by first | (simp; done) | (simp; omega) | omega) _ | with_reducible refine Below.drew ?_ | with_reducible refine below_drewN ?_ _))) hbx) | have BV := Lib.hid (belowT (show Below w.heap.size w _ by (repeat (first | with_reducible exact Below.refl _ _ | with_reducible assumption | with_reducible refine Below.alloc ?_ (by first | (simp; done) | (simp; omega) | omega) _ | with_reducible refine Below.setCell ?_ (by first | (simp; done) | (simp; omega) | omega) _ | with_reducible refine Below.drew ?_ | with_reducible refine below_drewN ?_ _))) hbx)); clear hbx)
    | (go_at_call 41; (with_reducible refine Calls.mono (HPE.out _) ?_); rintro e yx ⟨rfl, hbx⟩; (try replace l0 := keep hbx l0); (try replace l1 := keep hbx l1); (try replace l2 := keep hbx l2); (try replace T5 := Lib.hid (T5.out.bel hbx)); (try replace T7 := Lib.hid (T7.out.bel hbx)); (try replace T9 := Lib.hid (T9.out.bel hbx)); (try replace TS := Lib.hid (TS.out.bel hbx)); (try replace TM := Lib.hid (TM.out.bel hbx)); (first | replace BV := Lib.hid (belowT (show Below w.heap.size w _ by have Bq := BV.out; have Bz := Bq.size; (repeat (first | with_reducible exact Below.refl _ _ | with_reducible assumption | with_reducible refine Below.alloc ?_ (by first | (simp; done) | (simp; omega) | omega) _ | with_reducible refine Below.setCell ?_ (by first | (simp; done) | (simp; omega) | omega) _ | with_reducible refine Below.drew ?_ | with_reducible refine below_drewN ?_ _))) hbx) | have BV := Lib.hid (belowT (show Below w.heap.size w _ by (repeat (first | with_reducible exact Below.refl _ _ | with_reducible assumption | with_reducible refine Below.alloc ?_ (by first | (simp; done) | (simp; omega) | omega) _ | with_reducible refine Below.setCell ?_ (by first | (simp; done) | (simp; omega) | omega) _ | with_reducible refine Below.drew ?_ | with_reducible refine below_drewN ?_ _))) hbx)); clear hbx))
  go_ret
  exact ⟨rfl, BV.out⟩
set_option maxRecDepth 100000 in
set_option maxHeartbeats 4000000 in
theorem sx_d (ph inc ch : Int) (A : Option Addr) (n c : Nat) (g : Nat → Int × Int) (D : Int) (D0 : D ≠ 0) (w : World) (hs : shr n = true) (hD : smE n g = D) (hP : prgE ph inc ch = 0) (hG : GS w (.slice A n c) n g) :
    Calls Try.prog 7 #[.agg #[.int .i64 ph, .int .i64 inc, .int .i64 ch], .slice A n c] w fun e w' => e = .returned (.bool true) ∧ Below w.heap.size w w' := by
  have hn : n ≤ 404 := by unfold shr at hs; simp at hs; omega
  have hE : mxE ph inc ch n g = D := by unfold mxE fs2; rw [hP, hD]; rfl
  have hA : GA w A n g := by obtain ⟨A', c', e, h, _⟩ := hG; cases e; exact h
  have HSH := Lib.hid (fun W => short_any A n c W)
  rw [hs] at HSH
  have HCG := Lib.hid (fun W (hW : Below w.heap.size w W) => copyG_any (.slice A n c) n g W (by omega) (hG.on hW))
  have HMX := Lib.hid (fun A1 c1 W (h : GA W A1 n g) => mixedS_all ph inc ch A1 n c1 g (D) 0 hE (fun h => absurd h D0) (fun _ => rfl) W (by omega) h)
  have HUM := Lib.hid (fun A1 c1 W (h : GA W A1 n g) => unmixedS_all ph inc ch A1 n c1 g (D) 0 hE (fun h => absurd h D0) (fun _ => rfl) W (by omega) h)
  have HST := Lib.hid (fun A1 c1 W (h : GA W A1 n g) => saturatedS_all A1 n c1 g (D) (0) hD (fun h => absurd h D0) (fun _ => rfl) W (by omega) h)
  have HEN := Lib.hid (fun A1 c1 W (h : GA W A1 n g) => energyOfS_any A1 n c1 g W (by omega) h)
  have HSE := Lib.hid (fun W (hW : Below w.heap.size w W) => samplesErr_any A n c g W (by omega) (hA.bel hW))
  have HPE := Lib.hid (fun W => programErr_any ph inc ch W)
  rw [hD] at HSE HEN
  rw [hP] at HPE
  rw [if_neg D0] at HEN
  have d1 : (D == 0) = false := by simpa using D0
  have d2 : (D != 0) = true := by simpa using D0
  clear hD hP hE hA hG hs D0
  go_enter Try.func7, Try.ntmps7
  go_upto_region 5 with (first
    | (go_at_call 17; (with_reducible refine Calls.mono (awake_any _) ?_); rintro e yx ⟨rfl, hbx⟩; (try replace l0 := keep hbx l0); (try replace l1 := keep hbx l1); (try replace l2 := keep hbx l2); (try replace T5 := Lib.hid (T5.out.bel hbx)); (try replace T7 := Lib.hid (T7.out.bel hbx)); (try replace T9 := Lib.hid (T9.out.bel hbx)); (try replace TS := Lib.hid (TS.out.bel hbx)); (try replace TM := Lib.hid (TM.out.bel hbx)); (first | replace BV := Lib.hid (belowT (show Below w.heap.size w _ by have Bq := BV.out; have Bz := Bq.size; (repeat (first | with_reducible exact Below.refl _ _ | with_reducible assumption | with_reducible refine Below.alloc ?_ (by first | (simp; done) | (simp; omega) | omega) _ | with_reducible refine Below.setCell ?_ (by first | (simp; done) | (simp; omega) | omega) _ | with_reducible refine Below.drew ?_ | with_reducible refine below_drewN ?_ _))) hbx) | have BV := Lib.hid (belowT (show Below w.heap.size w _ by (repeat (first | with_reducible exact Below.refl _ _ | with_reducible assumption | with_reducible refine Below.alloc ?_ (by first | (simp; done) | (simp; omega) | omega) _ | with_reducible refine Below.setCell ?_ (by first | (simp; done) | (simp; omega) | omega) _ | with_reducible refine Below.drew ?_ | with_reducible refine below_drewN ?_ _))) hbx)); have l0 := keep hbx (b := w.heap.size) (o := 0) (v := .int .i64 ph) (by simp [go_sem]); have l1 := keep hbx (b := w.heap.size) (o := 1) (v := .int .i64 inc) (by simp [go_sem]); have l2 := keep hbx (b := w.heap.size) (o := 2) (v := .int .i64 ch) (by simp [go_sem]); clear hbx)
    | (go_at_call 47; (with_reducible refine Calls.mono (HSH.out _) ?_); rintro e yx ⟨rfl, hbx⟩; (try replace l0 := keep hbx l0); (try replace l1 := keep hbx l1); (try replace l2 := keep hbx l2); (try replace T5 := Lib.hid (T5.out.bel hbx)); (try replace T7 := Lib.hid (T7.out.bel hbx)); (try replace T9 := Lib.hid (T9.out.bel hbx)); (try replace TS := Lib.hid (TS.out.bel hbx)); (try replace TM := Lib.hid (TM.out.bel hbx)); (first | replace BV := Lib.hid (belowT (show Below w.heap.size w _ by have Bq := BV.out; have Bz := Bq.size; (repeat (first | with_reducible exact Below.refl _ _ | with_reducible assumption | with_reducible refine Below.alloc ?_ (by first | (simp; done) | (simp; omega) | omega) _ | with_reducible refine Below.setCell ?_ (by first | (simp; done) | (simp; omega) | omega) _ | with_reducible refine Below.drew ?_ | with_reducible refine below_drewN ?_ _))) hbx) | have BV := Lib.hid (belowT (show Below w.heap.size w _ by (repeat (first | with_reducible exact Below.refl _ _ | with_reducible assumption | with_reducible refine Below.alloc ?_ (by first | (simp; done) | (simp; omega) | omega) _ | with_reducible refine Below.setCell ?_ (by first | (simp; done) | (simp; omega) | omega) _ | with_reducible refine Below.drew ?_ | with_reducible refine below_drewN ?_ _))) hbx)); clear hbx))
  have HB0 := BV
  generalize yx = v0 at *
  clear BV
  refine wp_region_mp [mpEq (.agg #[.int .i64 ph, .int .i64 inc, .int .i64 ch]), mpEq (.slice A n c), mpGS (n) (g), mpTG (0) (mxS (-1) ph inc ch g) (D), mpTG (0) (mxS (-1) ph inc ch g) (D), mpGS (0) (mxS (-1) ph inc ch g), mpEq (.int .i64 (D)), mpGS (0) (mxS (-1) ph inc ch g), mpEq (.int .i64 (D))] pf0 (by kernel_rfl) (by kernel_rfl) (by kernel_rfl) (
        allOps_cons (fun a' w' hb hs hd => rg_op fun K hK => by
      have e0 := (hs.get 2 (by kernel_rfl)).trans (show _ = .pointer (some ⟨w.heap.size, 0, none⟩) from rfl)
      have ec : ∀ v, a'.eval (.const v) = v := fun _ => rfl
      have c0 := keep hb l0
      have c1 := keep hb l1
      have c2 := keep hb l2
      clear hs hd
      unfold Oper.wp
      generalize a'.eval = ρ at e0 ec ⊢
      simp [go_sem, e0, c0, c1, c2]
      exact hK _ _ (Below.refl _ _) rfl) <|
        allOps_cons (fun a' w' hb hs hd => rg_op fun K hK => by
      have e0 := (hs.get 1 (by kernel_rfl)).trans (show _ = .slice A n c from rfl)
      have ec : ∀ v, a'.eval (.const v) = v := fun _ => rfl
      clear hs hd
      unfold Oper.wp
      generalize a'.eval = ρ at e0 ec ⊢
      simp [go_sem, e0]
      exact hK _ _ (Below.refl _ _) rfl) <|
        allOps_cons (fun a' w' hb hs hd => by
      exact rg_fn (φ := (mpGS (n) (g)).p) (vs := #[.slice A n c]) rfl (enters_of Try.func49 (by kernel_rfl) rfl) (by simp [(show a'.eval (.tmp 22) = .slice A n c from hd.get 1 22 (by kernel_rfl) (by kernel_rfl))]) ((HCG.out w' (belowT HB0.out hb)).mono (by rintro e w1 ⟨v, rfl, h1, h2⟩; exact ⟨_, rfl, h1, h2⟩))) <|
        allOps_cons (fun a' w' hb hs hd => by
      obtain ⟨A1, c1, e1, hG1, _⟩ := (show (mpGS (n) (g)).p (a'.eval (.tmp 23)) w' from hd.get 2 23 (by kernel_rfl) (by kernel_rfl))
      exact rg_fn (φ := (mpTG (0) (mxS (-1) ph inc ch g) (D)).p) (vs := #[.agg #[.int .i64 ph, .int .i64 inc, .int .i64 ch], .slice A1 n c1]) rfl (enters_of Try.func48 (by kernel_rfl) rfl) (by simp [(show a'.eval (.tmp 21) = .agg #[.int .i64 ph, .int .i64 inc, .int .i64 ch] from hd.get 0 21 (by kernel_rfl) (by kernel_rfl)), e1]) ((HMX.out A1 c1 w' hG1).mono (by rintro e w1 ⟨A2, c2, rfl, h1, h2, h3⟩; exact ⟨_, rfl, h1, A2, c2, rfl, h2, fun q => (by have h4 := h3 q; simpa using h4)⟩))) <|
        allOps_cons (fun a' w' hb hs hd => rg_op fun K hK => by
      have e0 := (show (mpTG (0) (mxS (-1) ph inc ch g) (D)).p (a'.eval (.tmp 24)) w' from hd.get 3 24 (by kernel_rfl) (by kernel_rfl))
      clear hs hd
      unfold Oper.wp
      generalize a'.eval = ρ at e0 ⊢
      simp [go_sem]
      exact hK _ _ (Below.refl _ _) e0) <|
        allOps_cons (fun a' w' hb hs hd => rg_op fun K hK => by
      obtain ⟨At, ct, e0, ht1, ht2⟩ := (show (mpTG (0) (mxS (-1) ph inc ch g) (D)).p (a'.eval (.tmp 20)) w' from hd.get 4 20 (by kernel_rfl) (by kernel_rfl))
      clear hs hd
      unfold Oper.wp
      generalize a'.eval = ρ at e0 ⊢
      simp [go_sem, e0]
      exact hK _ _ (Below.refl _ _) ⟨At, ct, rfl, ht1, ht2⟩) <|
        allOps_cons (fun a' w' hb hs hd => rg_op fun K hK => by
      obtain ⟨At, ct, e0, ht1, ht2⟩ := (show (mpTG (0) (mxS (-1) ph inc ch g) (D)).p (a'.eval (.tmp 20)) w' from hd.get 4 20 (by kernel_rfl) (by kernel_rfl))
      clear hs hd
      unfold Oper.wp
      generalize a'.eval = ρ at e0 ⊢
      simp [go_sem, e0]
      exact hK _ _ (Below.refl _ _) rfl) <|
        allOps_cons (fun a' w' hb hs hd => rg_op fun K hK => by
      have e0 := (show (mpGS (0) (mxS (-1) ph inc ch g)).p (a'.eval (.tmp 25)) w' from hd.get 5 25 (by kernel_rfl) (by kernel_rfl))
      clear hs hd
      unfold Oper.wp
      generalize a'.eval = ρ at e0 ⊢
      simp [go_sem]
      exact hK _ _ (Below.refl _ _) e0) <|
        allOps_cons (fun a' w' hb hs hd => rg_op fun K hK => by
      have e0 := (show a'.eval (.tmp 26) = .int .i64 (D) from hd.get 6 26 (by kernel_rfl) (by kernel_rfl))
      have ec : ∀ v, a'.eval (.const v) = v := fun _ => rfl
      clear hs hd
      unfold Oper.wp
      generalize a'.eval = ρ at e0 ec ⊢
      simp [go_sem, e0]
      exact hK _ _ (Below.refl _ _) rfl) <| allOps_nil) (fun V v1 hv1 hall => ?_)
  have h5 : (mpGS (0) (mxS (-1) ph inc ch g)).p (V 5) _ := hall.get 7 rfl
  have h6 : V 6 = .int .i64 (D) := hall.get 8 rfl
  clear hall
  simp only [pf0, maskPut, Nat.reduceAdd]
  rw [h6]
  clear h6
  obtain ⟨A5, c5, e5, hG5, _⟩ := h5
  rw [e5]
  have HB0 := Lib.hid (belowT HB0.out hv1)
  have T5 := Lib.hid hG5
  replace l0 := keep hv1 l0
  replace l1 := keep hv1 l1
  replace l2 := keep hv1 l2
  clear hv1 hG5 e5
  go_upto_region 6 with fail
  refine wp_region_mp [mpEq (.agg #[.int .i64 ph, .int .i64 inc, .int .i64 ch]), mpEq (.slice A n c), mpGS (n) (g), mpTG (0) (mxS 1 ph inc ch g) (D), mpTG (0) (mxS 1 ph inc ch g) (D), mpGS (0) (mxS 1 ph inc ch g), mpEq (.int .i64 (D)), mpGS (0) (mxS 1 ph inc ch g), mpEq (.int .i64 (D))] pf1 (by kernel_rfl) (by kernel_rfl) (by kernel_rfl) (
        allOps_cons (fun a' w' hb hs hd => rg_op fun K hK => by
      have e0 := (hs.get 2 (by kernel_rfl)).trans (show _ = .pointer (some ⟨w.heap.size, 0, none⟩) from rfl)
      have ec : ∀ v, a'.eval (.const v) = v := fun _ => rfl
      have c0 := keep hb l0
      have c1 := keep hb l1
      have c2 := keep hb l2
      clear hs hd
      unfold Oper.wp
      generalize a'.eval = ρ at e0 ec ⊢
      simp [go_sem, e0, c0, c1, c2]
      exact hK _ _ (Below.refl _ _) rfl) <|
        allOps_cons (fun a' w' hb hs hd => rg_op fun K hK => by
      have e0 := (hs.get 1 (by kernel_rfl)).trans (show _ = .slice A n c from rfl)
      have ec : ∀ v, a'.eval (.const v) = v := fun _ => rfl
      clear hs hd
      unfold Oper.wp
      generalize a'.eval = ρ at e0 ec ⊢
      simp [go_sem, e0]
      exact hK _ _ (Below.refl _ _) rfl) <|
        allOps_cons (fun a' w' hb hs hd => by
      exact rg_fn (φ := (mpGS (n) (g)).p) (vs := #[.slice A n c]) rfl (enters_of Try.func49 (by kernel_rfl) rfl) (by simp [(show a'.eval (.tmp 29) = .slice A n c from hd.get 1 29 (by kernel_rfl) (by kernel_rfl))]) ((HCG.out w' (belowT HB0.out hb)).mono (by rintro e w1 ⟨v, rfl, h1, h2⟩; exact ⟨_, rfl, h1, h2⟩))) <|
        allOps_cons (fun a' w' hb hs hd => by
      obtain ⟨A1, c1, e1, hG1, _⟩ := (show (mpGS (n) (g)).p (a'.eval (.tmp 30)) w' from hd.get 2 30 (by kernel_rfl) (by kernel_rfl))
      exact rg_fn (φ := (mpTG (0) (mxS 1 ph inc ch g) (D)).p) (vs := #[.agg #[.int .i64 ph, .int .i64 inc, .int .i64 ch], .slice A1 n c1]) rfl (enters_of Try.func50 (by kernel_rfl) rfl) (by simp [(show a'.eval (.tmp 28) = .agg #[.int .i64 ph, .int .i64 inc, .int .i64 ch] from hd.get 0 28 (by kernel_rfl) (by kernel_rfl)), e1]) ((HUM.out A1 c1 w' hG1).mono (by rintro e w1 ⟨A2, c2, rfl, h1, h2, h3⟩; exact ⟨_, rfl, h1, A2, c2, rfl, h2, fun q => (by have h4 := h3 q; simpa using h4)⟩))) <|
        allOps_cons (fun a' w' hb hs hd => rg_op fun K hK => by
      have e0 := (show (mpTG (0) (mxS 1 ph inc ch g) (D)).p (a'.eval (.tmp 31)) w' from hd.get 3 31 (by kernel_rfl) (by kernel_rfl))
      clear hs hd
      unfold Oper.wp
      generalize a'.eval = ρ at e0 ⊢
      simp [go_sem]
      exact hK _ _ (Below.refl _ _) e0) <|
        allOps_cons (fun a' w' hb hs hd => rg_op fun K hK => by
      obtain ⟨At, ct, e0, ht1, ht2⟩ := (show (mpTG (0) (mxS 1 ph inc ch g) (D)).p (a'.eval (.tmp 27)) w' from hd.get 4 27 (by kernel_rfl) (by kernel_rfl))
      clear hs hd
      unfold Oper.wp
      generalize a'.eval = ρ at e0 ⊢
      simp [go_sem, e0]
      exact hK _ _ (Below.refl _ _) ⟨At, ct, rfl, ht1, ht2⟩) <|
        allOps_cons (fun a' w' hb hs hd => rg_op fun K hK => by
      obtain ⟨At, ct, e0, ht1, ht2⟩ := (show (mpTG (0) (mxS 1 ph inc ch g) (D)).p (a'.eval (.tmp 27)) w' from hd.get 4 27 (by kernel_rfl) (by kernel_rfl))
      clear hs hd
      unfold Oper.wp
      generalize a'.eval = ρ at e0 ⊢
      simp [go_sem, e0]
      exact hK _ _ (Below.refl _ _) rfl) <|
        allOps_cons (fun a' w' hb hs hd => rg_op fun K hK => by
      have e0 := (show (mpGS (0) (mxS 1 ph inc ch g)).p (a'.eval (.tmp 32)) w' from hd.get 5 32 (by kernel_rfl) (by kernel_rfl))
      clear hs hd
      unfold Oper.wp
      generalize a'.eval = ρ at e0 ⊢
      simp [go_sem]
      exact hK _ _ (Below.refl _ _) e0) <|
        allOps_cons (fun a' w' hb hs hd => rg_op fun K hK => by
      have e0 := (show a'.eval (.tmp 33) = .int .i64 (D) from hd.get 6 33 (by kernel_rfl) (by kernel_rfl))
      have ec : ∀ v, a'.eval (.const v) = v := fun _ => rfl
      clear hs hd
      unfold Oper.wp
      generalize a'.eval = ρ at e0 ec ⊢
      simp [go_sem, e0]
      exact hK _ _ (Below.refl _ _) rfl) <| allOps_nil) (fun V v2 hv2 hall => ?_)
  have h7 : (mpGS (0) (mxS 1 ph inc ch g)).p (V 7) _ := hall.get 7 rfl
  have h8 : V 8 = .int .i64 (D) := hall.get 8 rfl
  clear hall
  simp only [pf1, maskPut, Nat.reduceAdd]
  rw [h8]
  clear h8
  obtain ⟨A7, c7, e7, hG7, _⟩ := h7
  rw [e7]
  have HB0 := Lib.hid (belowT HB0.out hv2)
  have T7 := Lib.hid hG7
  replace l0 := keep hv2 l0
  replace l1 := keep hv2 l1
  replace l2 := keep hv2 l2
  replace T5 := Lib.hid (T5.out.bel hv2)
  clear hv2 hG7 e7
  have BV := HB0
  clear HB0 HMX HUM
  go_wp2_with (first
    | (go_at_call 49; (with_reducible refine Calls.mono (HCG.out _ BV.out) ?_); rintro e yx ⟨vc, rfl, hbx, Ac, cc, rfl, hGc, _⟩; (try replace l0 := keep hbx l0); (try replace l1 := keep hbx l1); (try replace l2 := keep hbx l2); (try replace T5 := Lib.hid (T5.out.bel hbx)); (try replace T7 := Lib.hid (T7.out.bel hbx)); (try replace T9 := Lib.hid (T9.out.bel hbx)); (try replace TS := Lib.hid (TS.out.bel hbx)); (try replace TM := Lib.hid (TM.out.bel hbx)); (first | replace BV := Lib.hid (belowT (show Below w.heap.size w _ by have Bq := BV.out; have Bz := Bq.size; (repeat (first | with_reducible exact Below.refl _ _ | with_reducible assumption | with_reducible refine Below.alloc ?_ (by first | (simp; done) | (simp; omega) | omega) _ | with_reducible refine Below.setCell ?_ (by first | (simp; done) | (simp; omega) | omega) _ | with_reducible refine Below.drew ?_ | with_reducible refine below_drewN ?_ _))) hbx) | have BV := Lib.hid (belowT (show Below w.heap.size w _ by (repeat (first | with_reducible exact Below.refl _ _ | with_reducible assumption | with_reducible refine Below.alloc ?_ (by first | (simp; done) | (simp; omega) | omega) _ | with_reducible refine Below.setCell ?_ (by first | (simp; done) | (simp; omega) | omega) _ | with_reducible refine Below.drew ?_ | with_reducible refine below_drewN ?_ _))) hbx)); have TC := Lib.hid hGc; clear hGc; clear hbx)
    | (go_at_call 51; (with_reducible refine Calls.mono (HST.out _ _ _ TC.out) ?_); rintro e yx ⟨A9, c9, rfl, hbx, hI9⟩; (try replace l0 := keep hbx l0); (try replace l1 := keep hbx l1); (try replace l2 := keep hbx l2); (try replace T5 := Lib.hid (T5.out.bel hbx)); (try replace T7 := Lib.hid (T7.out.bel hbx)); (try replace T9 := Lib.hid (T9.out.bel hbx)); (try replace TS := Lib.hid (TS.out.bel hbx)); (try replace TM := Lib.hid (TM.out.bel hbx)); (first | replace BV := Lib.hid (belowT (show Below w.heap.size w _ by have Bq := BV.out; have Bz := Bq.size; (repeat (first | with_reducible exact Below.refl _ _ | with_reducible assumption | with_reducible refine Below.alloc ?_ (by first | (simp; done) | (simp; omega) | omega) _ | with_reducible refine Below.setCell ?_ (by first | (simp; done) | (simp; omega) | omega) _ | with_reducible refine Below.drew ?_ | with_reducible refine below_drewN ?_ _))) hbx) | have BV := Lib.hid (belowT (show Below w.heap.size w _ by (repeat (first | with_reducible exact Below.refl _ _ | with_reducible assumption | with_reducible refine Below.alloc ?_ (by first | (simp; done) | (simp; omega) | omega) _ | with_reducible refine Below.setCell ?_ (by first | (simp; done) | (simp; omega) | omega) _ | with_reducible refine Below.drew ?_ | with_reducible refine below_drewN ?_ _))) hbx)); have T9 := Lib.hid hI9; clear hI9; clear hbx)
    | (go_at_call 52; (with_reducible refine Calls.mono (HEN.out _ _ _ TC.out) ?_); rintro e yx ⟨rfl, hbx⟩; (try replace l0 := keep hbx l0); (try replace l1 := keep hbx l1); (try replace l2 := keep hbx l2); (try replace T5 := Lib.hid (T5.out.bel hbx)); (try replace T7 := Lib.hid (T7.out.bel hbx)); (try replace T9 := Lib.hid (T9.out.bel hbx)); (try replace TS := Lib.hid (TS.out.bel hbx)); (try replace TM := Lib.hid (TM.out.bel hbx)); (first | replace BV := Lib.hid (belowT (show Below w.heap.size w _ by have Bq := BV.out; have Bz := Bq.size; (repeat (first | with_reducible exact Below.refl _ _ | with_reducible assumption | with_reducible refine Below.alloc ?_ (by first | (simp; done) | (simp; omega) | omega) _ | with_reducible refine Below.setCell ?_ (by first | (simp; done) | (simp; omega) | omega) _ | with_reducible refine Below.drew ?_ | with_reducible refine below_drewN ?_ _))) hbx) | have BV := Lib.hid (belowT (show Below w.heap.size w _ by (repeat (first | with_reducible exact Below.refl _ _ | with_reducible assumption | with_reducible refine Below.alloc ?_ (by first | (simp; done) | (simp; omega) | omega) _ | with_reducible refine Below.setCell ?_ (by first | (simp; done) | (simp; omega) | omega) _ | with_reducible refine Below.drew ?_ | with_reducible refine below_drewN ?_ _))) hbx)); clear hbx)
    | (go_at_call 53; (with_reducible refine Calls.mono (HSE.out _ BV.out) ?_); rintro e yx ⟨rfl, hbx⟩; (try replace l0 := keep hbx l0); (try replace l1 := keep hbx l1); (try replace l2 := keep hbx l2); (try replace T5 := Lib.hid (T5.out.bel hbx)); (try replace T7 := Lib.hid (T7.out.bel hbx)); (try replace T9 := Lib.hid (T9.out.bel hbx)); (try replace TS := Lib.hid (TS.out.bel hbx)); (try replace TM := Lib.hid (TM.out.bel hbx)); (first | replace BV := Lib.hid (belowT (show Below w.heap.size w _ by have Bq := BV.out; have Bz := Bq.size; (repeat (first | with_reducible exact Below.refl _ _ | with_reducible assumption | with_reducible refine Below.alloc ?_ (by first | (simp; done) | (simp; omega) | omega) _ | with_reducible refine Below.setCell ?_ (by first | (simp; done) | (simp; omega) | omega) _ | with_reducible refine Below.drew ?_ | with_reducible refine below_drewN ?_ _))) hbx) | have BV := Lib.hid (belowT (show Below w.heap.size w _ by (repeat (first | with_reducible exact Below.refl _ _ | with_reducible assumption | with_reducible refine Below.alloc ?_ (by first | (simp; done) | (simp; omega) | omega) _ | with_reducible refine Below.setCell ?_ (by first | (simp; done) | (simp; omega) | omega) _ | with_reducible refine Below.drew ?_ | with_reducible refine below_drewN ?_ _))) hbx)); clear hbx)
    | (go_at_call 41; (with_reducible refine Calls.mono (HPE.out _) ?_); rintro e yx ⟨rfl, hbx⟩; (try replace l0 := keep hbx l0); (try replace l1 := keep hbx l1); (try replace l2 := keep hbx l2); (try replace T5 := Lib.hid (T5.out.bel hbx)); (try replace T7 := Lib.hid (T7.out.bel hbx)); (try replace T9 := Lib.hid (T9.out.bel hbx)); (try replace TS := Lib.hid (TS.out.bel hbx)); (try replace TM := Lib.hid (TM.out.bel hbx)); (first | replace BV := Lib.hid (belowT (show Below w.heap.size w _ by have Bq := BV.out; have Bz := Bq.size; (repeat (first | with_reducible exact Below.refl _ _ | with_reducible assumption | with_reducible refine Below.alloc ?_ (by first | (simp; done) | (simp; omega) | omega) _ | with_reducible refine Below.setCell ?_ (by first | (simp; done) | (simp; omega) | omega) _ | with_reducible refine Below.drew ?_ | with_reducible refine below_drewN ?_ _))) hbx) | have BV := Lib.hid (belowT (show Below w.heap.size w _ by (repeat (first | with_reducible exact Below.refl _ _ | with_reducible assumption | with_reducible refine Below.alloc ?_ (by first | (simp; done) | (simp; omega) | omega) _ | with_reducible refine Below.setCell ?_ (by first | (simp; done) | (simp; omega) | omega) _ | with_reducible refine Below.drew ?_ | with_reducible refine below_drewN ?_ _))) hbx)); clear hbx))
  go_ret
  exact ⟨rfl, BV.out⟩
set_option maxRecDepth 100000 in
set_option maxHeartbeats 4000000 in
theorem sx_p (ph inc ch : Int) (A : Option Addr) (n c : Nat) (g : Nat → Int × Int) (P : Int) (P0 : P ≠ 0) (w : World) (hs : shr n = true) (hD : smE n g = 0) (hP : prgE ph inc ch = P) (hG : GS w (.slice A n c) n g) :
    Calls Try.prog 7 #[.agg #[.int .i64 ph, .int .i64 inc, .int .i64 ch], .slice A n c] w fun e w' => e = .returned (.bool true) ∧ Below w.heap.size w w' := by
  have hn : n ≤ 404 := by unfold shr at hs; simp at hs; omega
  have hE : mxE ph inc ch n g = P := by unfold mxE fs2; rw [hP, hD]; rw [if_neg P0]
  have hA : GA w A n g := by obtain ⟨A', c', e, h, _⟩ := hG; cases e; exact h
  have HSH := Lib.hid (fun W => short_any A n c W)
  rw [hs] at HSH
  have HCG := Lib.hid (fun W (hW : Below w.heap.size w W) => copyG_any (.slice A n c) n g W (by omega) (hG.on hW))
  have HMX := Lib.hid (fun A1 c1 W (h : GA W A1 n g) => mixedS_all ph inc ch A1 n c1 g (P) 0 hE (fun h => absurd h P0) (fun _ => rfl) W (by omega) h)
  have HUM := Lib.hid (fun A1 c1 W (h : GA W A1 n g) => unmixedS_all ph inc ch A1 n c1 g (P) 0 hE (fun h => absurd h P0) (fun _ => rfl) W (by omega) h)
  have HST := Lib.hid (fun A1 c1 W (h : GA W A1 n g) => saturatedS_all A1 n c1 g (0) ((stL g n).length) hD (fun _ => rfl) (fun h => absurd rfl h) W (by omega) h)
  have HEN := Lib.hid (fun A1 c1 W (h : GA W A1 n g) => energyOfS_any A1 n c1 g W (by omega) h)
  have HSE := Lib.hid (fun W (hW : Below w.heap.size w W) => samplesErr_any A n c g W (by omega) (hA.bel hW))
  have HPE := Lib.hid (fun W => programErr_any ph inc ch W)
  have h2000 := (sm_0 hD).2
  have hlen := stL_len g n
  have HSR := Lib.hid (fun W (hW : Below w.heap.size w W) => saturatedR_any A n c g hD W (hA.bel hW))
  have HER := Lib.hid (fun W (hW : Below w.heap.size w W) => energyOfR_any A n c g W (by omega) (hA.bel hW) (fun i hi => by have := h2000 i hi; omega))
  have HIN := Lib.hid (fun A1 A2 c1 c2 W (h1 : IA W A1 (stL g n).length (fun i => (stL g n).getD i 0)) (h2 : IA W A2 (stL g n).length (fun i => (stL g n).getD i 0)) => ints_same A1 A2 (stL g n).length c1 c2 _ W (by omega) h1 h2)
  clear h2000
  rw [hD] at HSE HEN
  rw [hP] at HPE
  rw [if_pos rfl] at HEN
  have p1 : (P == 0) = false := by simpa using P0
  have p2 : (P != 0) = true := by simpa using P0
  clear hD hP hE hA hG hs P0
  generalize hLN : (stL g n).length = N at *
  go_enter Try.func7, Try.ntmps7
  go_upto_region 5 with (first
    | (go_at_call 17; (with_reducible refine Calls.mono (awake_any _) ?_); rintro e yx ⟨rfl, hbx⟩; (try replace l0 := keep hbx l0); (try replace l1 := keep hbx l1); (try replace l2 := keep hbx l2); (try replace T5 := Lib.hid (T5.out.bel hbx)); (try replace T7 := Lib.hid (T7.out.bel hbx)); (try replace T9 := Lib.hid (T9.out.bel hbx)); (try replace TS := Lib.hid (TS.out.bel hbx)); (try replace TM := Lib.hid (TM.out.bel hbx)); (first | replace BV := Lib.hid (belowT (show Below w.heap.size w _ by have Bq := BV.out; have Bz := Bq.size; (repeat (first | with_reducible exact Below.refl _ _ | with_reducible assumption | with_reducible refine Below.alloc ?_ (by first | (simp; done) | (simp; omega) | omega) _ | with_reducible refine Below.setCell ?_ (by first | (simp; done) | (simp; omega) | omega) _ | with_reducible refine Below.drew ?_ | with_reducible refine below_drewN ?_ _))) hbx) | have BV := Lib.hid (belowT (show Below w.heap.size w _ by (repeat (first | with_reducible exact Below.refl _ _ | with_reducible assumption | with_reducible refine Below.alloc ?_ (by first | (simp; done) | (simp; omega) | omega) _ | with_reducible refine Below.setCell ?_ (by first | (simp; done) | (simp; omega) | omega) _ | with_reducible refine Below.drew ?_ | with_reducible refine below_drewN ?_ _))) hbx)); have l0 := keep hbx (b := w.heap.size) (o := 0) (v := .int .i64 ph) (by simp [go_sem]); have l1 := keep hbx (b := w.heap.size) (o := 1) (v := .int .i64 inc) (by simp [go_sem]); have l2 := keep hbx (b := w.heap.size) (o := 2) (v := .int .i64 ch) (by simp [go_sem]); clear hbx)
    | (go_at_call 47; (with_reducible refine Calls.mono (HSH.out _) ?_); rintro e yx ⟨rfl, hbx⟩; (try replace l0 := keep hbx l0); (try replace l1 := keep hbx l1); (try replace l2 := keep hbx l2); (try replace T5 := Lib.hid (T5.out.bel hbx)); (try replace T7 := Lib.hid (T7.out.bel hbx)); (try replace T9 := Lib.hid (T9.out.bel hbx)); (try replace TS := Lib.hid (TS.out.bel hbx)); (try replace TM := Lib.hid (TM.out.bel hbx)); (first | replace BV := Lib.hid (belowT (show Below w.heap.size w _ by have Bq := BV.out; have Bz := Bq.size; (repeat (first | with_reducible exact Below.refl _ _ | with_reducible assumption | with_reducible refine Below.alloc ?_ (by first | (simp; done) | (simp; omega) | omega) _ | with_reducible refine Below.setCell ?_ (by first | (simp; done) | (simp; omega) | omega) _ | with_reducible refine Below.drew ?_ | with_reducible refine below_drewN ?_ _))) hbx) | have BV := Lib.hid (belowT (show Below w.heap.size w _ by (repeat (first | with_reducible exact Below.refl _ _ | with_reducible assumption | with_reducible refine Below.alloc ?_ (by first | (simp; done) | (simp; omega) | omega) _ | with_reducible refine Below.setCell ?_ (by first | (simp; done) | (simp; omega) | omega) _ | with_reducible refine Below.drew ?_ | with_reducible refine below_drewN ?_ _))) hbx)); clear hbx))
  have HB0 := BV
  generalize yx = v0 at *
  clear BV
  refine wp_region_mp [mpEq (.agg #[.int .i64 ph, .int .i64 inc, .int .i64 ch]), mpEq (.slice A n c), mpGS (n) (g), mpTG (0) (mxS (-1) ph inc ch g) (P), mpTG (0) (mxS (-1) ph inc ch g) (P), mpGS (0) (mxS (-1) ph inc ch g), mpEq (.int .i64 (P)), mpGS (0) (mxS (-1) ph inc ch g), mpEq (.int .i64 (P))] pf0 (by kernel_rfl) (by kernel_rfl) (by kernel_rfl) (
        allOps_cons (fun a' w' hb hs hd => rg_op fun K hK => by
      have e0 := (hs.get 2 (by kernel_rfl)).trans (show _ = .pointer (some ⟨w.heap.size, 0, none⟩) from rfl)
      have ec : ∀ v, a'.eval (.const v) = v := fun _ => rfl
      have c0 := keep hb l0
      have c1 := keep hb l1
      have c2 := keep hb l2
      clear hs hd
      unfold Oper.wp
      generalize a'.eval = ρ at e0 ec ⊢
      simp [go_sem, e0, c0, c1, c2]
      exact hK _ _ (Below.refl _ _) rfl) <|
        allOps_cons (fun a' w' hb hs hd => rg_op fun K hK => by
      have e0 := (hs.get 1 (by kernel_rfl)).trans (show _ = .slice A n c from rfl)
      have ec : ∀ v, a'.eval (.const v) = v := fun _ => rfl
      clear hs hd
      unfold Oper.wp
      generalize a'.eval = ρ at e0 ec ⊢
      simp [go_sem, e0]
      exact hK _ _ (Below.refl _ _) rfl) <|
        allOps_cons (fun a' w' hb hs hd => by
      exact rg_fn (φ := (mpGS (n) (g)).p) (vs := #[.slice A n c]) rfl (enters_of Try.func49 (by kernel_rfl) rfl) (by simp [(show a'.eval (.tmp 22) = .slice A n c from hd.get 1 22 (by kernel_rfl) (by kernel_rfl))]) ((HCG.out w' (belowT HB0.out hb)).mono (by rintro e w1 ⟨v, rfl, h1, h2⟩; exact ⟨_, rfl, h1, h2⟩))) <|
        allOps_cons (fun a' w' hb hs hd => by
      obtain ⟨A1, c1, e1, hG1, _⟩ := (show (mpGS (n) (g)).p (a'.eval (.tmp 23)) w' from hd.get 2 23 (by kernel_rfl) (by kernel_rfl))
      exact rg_fn (φ := (mpTG (0) (mxS (-1) ph inc ch g) (P)).p) (vs := #[.agg #[.int .i64 ph, .int .i64 inc, .int .i64 ch], .slice A1 n c1]) rfl (enters_of Try.func48 (by kernel_rfl) rfl) (by simp [(show a'.eval (.tmp 21) = .agg #[.int .i64 ph, .int .i64 inc, .int .i64 ch] from hd.get 0 21 (by kernel_rfl) (by kernel_rfl)), e1]) ((HMX.out A1 c1 w' hG1).mono (by rintro e w1 ⟨A2, c2, rfl, h1, h2, h3⟩; exact ⟨_, rfl, h1, A2, c2, rfl, h2, fun q => (by have h4 := h3 q; simpa using h4)⟩))) <|
        allOps_cons (fun a' w' hb hs hd => rg_op fun K hK => by
      have e0 := (show (mpTG (0) (mxS (-1) ph inc ch g) (P)).p (a'.eval (.tmp 24)) w' from hd.get 3 24 (by kernel_rfl) (by kernel_rfl))
      clear hs hd
      unfold Oper.wp
      generalize a'.eval = ρ at e0 ⊢
      simp [go_sem]
      exact hK _ _ (Below.refl _ _) e0) <|
        allOps_cons (fun a' w' hb hs hd => rg_op fun K hK => by
      obtain ⟨At, ct, e0, ht1, ht2⟩ := (show (mpTG (0) (mxS (-1) ph inc ch g) (P)).p (a'.eval (.tmp 20)) w' from hd.get 4 20 (by kernel_rfl) (by kernel_rfl))
      clear hs hd
      unfold Oper.wp
      generalize a'.eval = ρ at e0 ⊢
      simp [go_sem, e0]
      exact hK _ _ (Below.refl _ _) ⟨At, ct, rfl, ht1, ht2⟩) <|
        allOps_cons (fun a' w' hb hs hd => rg_op fun K hK => by
      obtain ⟨At, ct, e0, ht1, ht2⟩ := (show (mpTG (0) (mxS (-1) ph inc ch g) (P)).p (a'.eval (.tmp 20)) w' from hd.get 4 20 (by kernel_rfl) (by kernel_rfl))
      clear hs hd
      unfold Oper.wp
      generalize a'.eval = ρ at e0 ⊢
      simp [go_sem, e0]
      exact hK _ _ (Below.refl _ _) rfl) <|
        allOps_cons (fun a' w' hb hs hd => rg_op fun K hK => by
      have e0 := (show (mpGS (0) (mxS (-1) ph inc ch g)).p (a'.eval (.tmp 25)) w' from hd.get 5 25 (by kernel_rfl) (by kernel_rfl))
      clear hs hd
      unfold Oper.wp
      generalize a'.eval = ρ at e0 ⊢
      simp [go_sem]
      exact hK _ _ (Below.refl _ _) e0) <|
        allOps_cons (fun a' w' hb hs hd => rg_op fun K hK => by
      have e0 := (show a'.eval (.tmp 26) = .int .i64 (P) from hd.get 6 26 (by kernel_rfl) (by kernel_rfl))
      have ec : ∀ v, a'.eval (.const v) = v := fun _ => rfl
      clear hs hd
      unfold Oper.wp
      generalize a'.eval = ρ at e0 ec ⊢
      simp [go_sem, e0]
      exact hK _ _ (Below.refl _ _) rfl) <| allOps_nil) (fun V v1 hv1 hall => ?_)
  have h5 : (mpGS (0) (mxS (-1) ph inc ch g)).p (V 5) _ := hall.get 7 rfl
  have h6 : V 6 = .int .i64 (P) := hall.get 8 rfl
  clear hall
  simp only [pf0, maskPut, Nat.reduceAdd]
  rw [h6]
  clear h6
  obtain ⟨A5, c5, e5, hG5, _⟩ := h5
  rw [e5]
  have HB0 := Lib.hid (belowT HB0.out hv1)
  have T5 := Lib.hid hG5
  replace l0 := keep hv1 l0
  replace l1 := keep hv1 l1
  replace l2 := keep hv1 l2
  clear hv1 hG5 e5
  go_upto_region 6 with fail
  refine wp_region_mp [mpEq (.agg #[.int .i64 ph, .int .i64 inc, .int .i64 ch]), mpEq (.slice A n c), mpGS (n) (g), mpTG (0) (mxS 1 ph inc ch g) (P), mpTG (0) (mxS 1 ph inc ch g) (P), mpGS (0) (mxS 1 ph inc ch g), mpEq (.int .i64 (P)), mpGS (0) (mxS 1 ph inc ch g), mpEq (.int .i64 (P))] pf1 (by kernel_rfl) (by kernel_rfl) (by kernel_rfl) (
        allOps_cons (fun a' w' hb hs hd => rg_op fun K hK => by
      have e0 := (hs.get 2 (by kernel_rfl)).trans (show _ = .pointer (some ⟨w.heap.size, 0, none⟩) from rfl)
      have ec : ∀ v, a'.eval (.const v) = v := fun _ => rfl
      have c0 := keep hb l0
      have c1 := keep hb l1
      have c2 := keep hb l2
      clear hs hd
      unfold Oper.wp
      generalize a'.eval = ρ at e0 ec ⊢
      simp [go_sem, e0, c0, c1, c2]
      exact hK _ _ (Below.refl _ _) rfl) <|
        allOps_cons (fun a' w' hb hs hd => rg_op fun K hK => by
      have e0 := (hs.get 1 (by kernel_rfl)).trans (show _ = .slice A n c from rfl)
      have ec : ∀ v, a'.eval (.const v) = v := fun _ => rfl
      clear hs hd
      unfold Oper.wp
      generalize a'.eval = ρ at e0 ec ⊢
      simp [go_sem, e0]
      exact hK _ _ (Below.refl _ _) rfl) <|
        allOps_cons (fun a' w' hb hs hd => by
      exact rg_fn (φ := (mpGS (n) (g)).p) (vs := #[.slice A n c]) rfl (enters_of Try.func49 (by kernel_rfl) rfl) (by simp [(show a'.eval (.tmp 29) = .slice A n c from hd.get 1 29 (by kernel_rfl) (by kernel_rfl))]) ((HCG.out w' (belowT HB0.out hb)).mono (by rintro e w1 ⟨v, rfl, h1, h2⟩; exact ⟨_, rfl, h1, h2⟩))) <|
        allOps_cons (fun a' w' hb hs hd => by
      obtain ⟨A1, c1, e1, hG1, _⟩ := (show (mpGS (n) (g)).p (a'.eval (.tmp 30)) w' from hd.get 2 30 (by kernel_rfl) (by kernel_rfl))
      exact rg_fn (φ := (mpTG (0) (mxS 1 ph inc ch g) (P)).p) (vs := #[.agg #[.int .i64 ph, .int .i64 inc, .int .i64 ch], .slice A1 n c1]) rfl (enters_of Try.func50 (by kernel_rfl) rfl) (by simp [(show a'.eval (.tmp 28) = .agg #[.int .i64 ph, .int .i64 inc, .int .i64 ch] from hd.get 0 28 (by kernel_rfl) (by kernel_rfl)), e1]) ((HUM.out A1 c1 w' hG1).mono (by rintro e w1 ⟨A2, c2, rfl, h1, h2, h3⟩; exact ⟨_, rfl, h1, A2, c2, rfl, h2, fun q => (by have h4 := h3 q; simpa using h4)⟩))) <|
        allOps_cons (fun a' w' hb hs hd => rg_op fun K hK => by
      have e0 := (show (mpTG (0) (mxS 1 ph inc ch g) (P)).p (a'.eval (.tmp 31)) w' from hd.get 3 31 (by kernel_rfl) (by kernel_rfl))
      clear hs hd
      unfold Oper.wp
      generalize a'.eval = ρ at e0 ⊢
      simp [go_sem]
      exact hK _ _ (Below.refl _ _) e0) <|
        allOps_cons (fun a' w' hb hs hd => rg_op fun K hK => by
      obtain ⟨At, ct, e0, ht1, ht2⟩ := (show (mpTG (0) (mxS 1 ph inc ch g) (P)).p (a'.eval (.tmp 27)) w' from hd.get 4 27 (by kernel_rfl) (by kernel_rfl))
      clear hs hd
      unfold Oper.wp
      generalize a'.eval = ρ at e0 ⊢
      simp [go_sem, e0]
      exact hK _ _ (Below.refl _ _) ⟨At, ct, rfl, ht1, ht2⟩) <|
        allOps_cons (fun a' w' hb hs hd => rg_op fun K hK => by
      obtain ⟨At, ct, e0, ht1, ht2⟩ := (show (mpTG (0) (mxS 1 ph inc ch g) (P)).p (a'.eval (.tmp 27)) w' from hd.get 4 27 (by kernel_rfl) (by kernel_rfl))
      clear hs hd
      unfold Oper.wp
      generalize a'.eval = ρ at e0 ⊢
      simp [go_sem, e0]
      exact hK _ _ (Below.refl _ _) rfl) <|
        allOps_cons (fun a' w' hb hs hd => rg_op fun K hK => by
      have e0 := (show (mpGS (0) (mxS 1 ph inc ch g)).p (a'.eval (.tmp 32)) w' from hd.get 5 32 (by kernel_rfl) (by kernel_rfl))
      clear hs hd
      unfold Oper.wp
      generalize a'.eval = ρ at e0 ⊢
      simp [go_sem]
      exact hK _ _ (Below.refl _ _) e0) <|
        allOps_cons (fun a' w' hb hs hd => rg_op fun K hK => by
      have e0 := (show a'.eval (.tmp 33) = .int .i64 (P) from hd.get 6 33 (by kernel_rfl) (by kernel_rfl))
      have ec : ∀ v, a'.eval (.const v) = v := fun _ => rfl
      clear hs hd
      unfold Oper.wp
      generalize a'.eval = ρ at e0 ec ⊢
      simp [go_sem, e0]
      exact hK _ _ (Below.refl _ _) rfl) <| allOps_nil) (fun V v2 hv2 hall => ?_)
  have h7 : (mpGS (0) (mxS 1 ph inc ch g)).p (V 7) _ := hall.get 7 rfl
  have h8 : V 8 = .int .i64 (P) := hall.get 8 rfl
  clear hall
  simp only [pf1, maskPut, Nat.reduceAdd]
  rw [h8]
  clear h8
  obtain ⟨A7, c7, e7, hG7, _⟩ := h7
  rw [e7]
  have HB0 := Lib.hid (belowT HB0.out hv2)
  have T7 := Lib.hid hG7
  replace l0 := keep hv2 l0
  replace l1 := keep hv2 l1
  replace l2 := keep hv2 l2
  replace T5 := Lib.hid (T5.out.bel hv2)
  clear hv2 hG7 e7
  have BV := HB0
  clear HB0 HMX HUM
  go_wp2_with (first
    | (go_at_call 49; (with_reducible refine Calls.mono (HCG.out _ BV.out) ?_); rintro e yx ⟨vc, rfl, hbx, Ac, cc, rfl, hGc, _⟩; (try replace l0 := keep hbx l0); (try replace l1 := keep hbx l1); (try replace l2 := keep hbx l2); (try replace T5 := Lib.hid (T5.out.bel hbx)); (try replace T7 := Lib.hid (T7.out.bel hbx)); (try replace T9 := Lib.hid (T9.out.bel hbx)); (try replace TS := Lib.hid (TS.out.bel hbx)); (try replace TM := Lib.hid (TM.out.bel hbx)); (first | replace BV := Lib.hid (belowT (show Below w.heap.size w _ by have Bq := BV.out; have Bz := Bq.size; (repeat (first | with_reducible exact Below.refl _ _ | with_reducible assumption | with_reducible refine Below.alloc ?_ (by first | (simp; done) | (simp; omega) | omega) _ | with_reducible refine Below.setCell ?_ (by first | (simp; done) | (simp; omega) | omega) _ | with_reducible refine Below.drew ?_ | with_reducible refine below_drewN ?_ _))) hbx) | have BV := Lib.hid (belowT (show Below w.heap.size w _ by (repeat (first | with_reducible exact Below.refl _ _ | with_reducible assumption | with_reducible refine Below.alloc ?_ (by first | (simp; done) | (simp; omega) | omega) _ | with_reducible refine Below.setCell ?_ (by first | (simp; done) | (simp; omega) | omega) _ | with_reducible refine Below.drew ?_ | with_reducible refine below_drewN ?_ _))) hbx)); have TC := Lib.hid hGc; clear hGc; clear hbx)
    | (go_at_call 51; (with_reducible refine Calls.mono (HST.out _ _ _ TC.out) ?_); rintro e yx ⟨A9, c9, rfl, hbx, hI9⟩; (try replace l0 := keep hbx l0); (try replace l1 := keep hbx l1); (try replace l2 := keep hbx l2); (try replace T5 := Lib.hid (T5.out.bel hbx)); (try replace T7 := Lib.hid (T7.out.bel hbx)); (try replace T9 := Lib.hid (T9.out.bel hbx)); (try replace TS := Lib.hid (TS.out.bel hbx)); (try replace TM := Lib.hid (TM.out.bel hbx)); (first | replace BV := Lib.hid (belowT (show Below w.heap.size w _ by have Bq := BV.out; have Bz := Bq.size; (repeat (first | with_reducible exact Below.refl _ _ | with_reducible assumption | with_reducible refine Below.alloc ?_ (by first | (simp; done) | (simp; omega) | omega) _ | with_reducible refine Below.setCell ?_ (by first | (simp; done) | (simp; omega) | omega) _ | with_reducible refine Below.drew ?_ | with_reducible refine below_drewN ?_ _))) hbx) | have BV := Lib.hid (belowT (show Below w.heap.size w _ by (repeat (first | with_reducible exact Below.refl _ _ | with_reducible assumption | with_reducible refine Below.alloc ?_ (by first | (simp; done) | (simp; omega) | omega) _ | with_reducible refine Below.setCell ?_ (by first | (simp; done) | (simp; omega) | omega) _ | with_reducible refine Below.drew ?_ | with_reducible refine below_drewN ?_ _))) hbx)); have T9 := Lib.hid hI9; clear hI9; clear hbx)
    | (go_at_call 52; (with_reducible refine Calls.mono (HEN.out _ _ _ TC.out) ?_); rintro e yx ⟨rfl, hbx⟩; (try replace l0 := keep hbx l0); (try replace l1 := keep hbx l1); (try replace l2 := keep hbx l2); (try replace T5 := Lib.hid (T5.out.bel hbx)); (try replace T7 := Lib.hid (T7.out.bel hbx)); (try replace T9 := Lib.hid (T9.out.bel hbx)); (try replace TS := Lib.hid (TS.out.bel hbx)); (try replace TM := Lib.hid (TM.out.bel hbx)); (first | replace BV := Lib.hid (belowT (show Below w.heap.size w _ by have Bq := BV.out; have Bz := Bq.size; (repeat (first | with_reducible exact Below.refl _ _ | with_reducible assumption | with_reducible refine Below.alloc ?_ (by first | (simp; done) | (simp; omega) | omega) _ | with_reducible refine Below.setCell ?_ (by first | (simp; done) | (simp; omega) | omega) _ | with_reducible refine Below.drew ?_ | with_reducible refine below_drewN ?_ _))) hbx) | have BV := Lib.hid (belowT (show Below w.heap.size w _ by (repeat (first | with_reducible exact Below.refl _ _ | with_reducible assumption | with_reducible refine Below.alloc ?_ (by first | (simp; done) | (simp; omega) | omega) _ | with_reducible refine Below.setCell ?_ (by first | (simp; done) | (simp; omega) | omega) _ | with_reducible refine Below.drew ?_ | with_reducible refine below_drewN ?_ _))) hbx)); clear hbx)
    | (go_at_call 53; (with_reducible refine Calls.mono (HSE.out _ BV.out) ?_); rintro e yx ⟨rfl, hbx⟩; (try replace l0 := keep hbx l0); (try replace l1 := keep hbx l1); (try replace l2 := keep hbx l2); (try replace T5 := Lib.hid (T5.out.bel hbx)); (try replace T7 := Lib.hid (T7.out.bel hbx)); (try replace T9 := Lib.hid (T9.out.bel hbx)); (try replace TS := Lib.hid (TS.out.bel hbx)); (try replace TM := Lib.hid (TM.out.bel hbx)); (first | replace BV := Lib.hid (belowT (show Below w.heap.size w _ by have Bq := BV.out; have Bz := Bq.size; (repeat (first | with_reducible exact Below.refl _ _ | with_reducible assumption | with_reducible refine Below.alloc ?_ (by first | (simp; done) | (simp; omega) | omega) _ | with_reducible refine Below.setCell ?_ (by first | (simp; done) | (simp; omega) | omega) _ | with_reducible refine Below.drew ?_ | with_reducible refine below_drewN ?_ _))) hbx) | have BV := Lib.hid (belowT (show Below w.heap.size w _ by (repeat (first | with_reducible exact Below.refl _ _ | with_reducible assumption | with_reducible refine Below.alloc ?_ (by first | (simp; done) | (simp; omega) | omega) _ | with_reducible refine Below.setCell ?_ (by first | (simp; done) | (simp; omega) | omega) _ | with_reducible refine Below.drew ?_ | with_reducible refine below_drewN ?_ _))) hbx)); clear hbx)
    | (go_at_call 41; (with_reducible refine Calls.mono (HPE.out _) ?_); rintro e yx ⟨rfl, hbx⟩; (try replace l0 := keep hbx l0); (try replace l1 := keep hbx l1); (try replace l2 := keep hbx l2); (try replace T5 := Lib.hid (T5.out.bel hbx)); (try replace T7 := Lib.hid (T7.out.bel hbx)); (try replace T9 := Lib.hid (T9.out.bel hbx)); (try replace TS := Lib.hid (TS.out.bel hbx)); (try replace TM := Lib.hid (TM.out.bel hbx)); (first | replace BV := Lib.hid (belowT (show Below w.heap.size w _ by have Bq := BV.out; have Bz := Bq.size; (repeat (first | with_reducible exact Below.refl _ _ | with_reducible assumption | with_reducible refine Below.alloc ?_ (by first | (simp; done) | (simp; omega) | omega) _ | with_reducible refine Below.setCell ?_ (by first | (simp; done) | (simp; omega) | omega) _ | with_reducible refine Below.drew ?_ | with_reducible refine below_drewN ?_ _))) hbx) | have BV := Lib.hid (belowT (show Below w.heap.size w _ by (repeat (first | with_reducible exact Below.refl _ _ | with_reducible assumption | with_reducible refine Below.alloc ?_ (by first | (simp; done) | (simp; omega) | omega) _ | with_reducible refine Below.setCell ?_ (by first | (simp; done) | (simp; omega) | omega) _ | with_reducible refine Below.drew ?_ | with_reducible refine below_drewN ?_ _))) hbx)); clear hbx)
    | (go_at_call 54; (with_reducible refine Calls.mono (HSR.out _ BV.out) ?_); rintro e yx ⟨AS, cS, rfl, hbx, hIS⟩; (try replace l0 := keep hbx l0); (try replace l1 := keep hbx l1); (try replace l2 := keep hbx l2); (try replace T5 := Lib.hid (T5.out.bel hbx)); (try replace T7 := Lib.hid (T7.out.bel hbx)); (try replace T9 := Lib.hid (T9.out.bel hbx)); (try replace TS := Lib.hid (TS.out.bel hbx)); (try replace TM := Lib.hid (TM.out.bel hbx)); (first | replace BV := Lib.hid (belowT (show Below w.heap.size w _ by have Bq := BV.out; have Bz := Bq.size; (repeat (first | with_reducible exact Below.refl _ _ | with_reducible assumption | with_reducible refine Below.alloc ?_ (by first | (simp; done) | (simp; omega) | omega) _ | with_reducible refine Below.setCell ?_ (by first | (simp; done) | (simp; omega) | omega) _ | with_reducible refine Below.drew ?_ | with_reducible refine below_drewN ?_ _))) hbx) | have BV := Lib.hid (belowT (show Below w.heap.size w _ by (repeat (first | with_reducible exact Below.refl _ _ | with_reducible assumption | with_reducible refine Below.alloc ?_ (by first | (simp; done) | (simp; omega) | omega) _ | with_reducible refine Below.setCell ?_ (by first | (simp; done) | (simp; omega) | omega) _ | with_reducible refine Below.drew ?_ | with_reducible refine below_drewN ?_ _))) hbx)); have TS := Lib.hid hIS; clear hIS; clear hbx)
    | (go_at_call 30; (with_reducible refine Calls.mono (HIN.out _ _ _ _ _ T9.out TS.out) ?_); rintro e yx ⟨rfl, hbx⟩; (try replace l0 := keep hbx l0); (try replace l1 := keep hbx l1); (try replace l2 := keep hbx l2); (try replace T5 := Lib.hid (T5.out.bel hbx)); (try replace T7 := Lib.hid (T7.out.bel hbx)); (try replace T9 := Lib.hid (T9.out.bel hbx)); (try replace TS := Lib.hid (TS.out.bel hbx)); (try replace TM := Lib.hid (TM.out.bel hbx)); (first | replace BV := Lib.hid (belowT (show Below w.heap.size w _ by have Bq := BV.out; have Bz := Bq.size; (repeat (first | with_reducible exact Below.refl _ _ | with_reducible assumption | with_reducible refine Below.alloc ?_ (by first | (simp; done) | (simp; omega) | omega) _ | with_reducible refine Below.setCell ?_ (by first | (simp; done) | (simp; omega) | omega) _ | with_reducible refine Below.drew ?_ | with_reducible refine below_drewN ?_ _))) hbx) | have BV := Lib.hid (belowT (show Below w.heap.size w _ by (repeat (first | with_reducible exact Below.refl _ _ | with_reducible assumption | with_reducible refine Below.alloc ?_ (by first | (simp; done) | (simp; omega) | omega) _ | with_reducible refine Below.setCell ?_ (by first | (simp; done) | (simp; omega) | omega) _ | with_reducible refine Below.drew ?_ | with_reducible refine below_drewN ?_ _))) hbx)); clear hbx)
    | (go_at_call 55; (with_reducible refine Calls.mono (HER.out _ BV.out) ?_); rintro e yx ⟨rfl, hbx⟩; (try replace l0 := keep hbx l0); (try replace l1 := keep hbx l1); (try replace l2 := keep hbx l2); (try replace T5 := Lib.hid (T5.out.bel hbx)); (try replace T7 := Lib.hid (T7.out.bel hbx)); (try replace T9 := Lib.hid (T9.out.bel hbx)); (try replace TS := Lib.hid (TS.out.bel hbx)); (try replace TM := Lib.hid (TM.out.bel hbx)); (first | replace BV := Lib.hid (belowT (show Below w.heap.size w _ by have Bq := BV.out; have Bz := Bq.size; (repeat (first | with_reducible exact Below.refl _ _ | with_reducible assumption | with_reducible refine Below.alloc ?_ (by first | (simp; done) | (simp; omega) | omega) _ | with_reducible refine Below.setCell ?_ (by first | (simp; done) | (simp; omega) | omega) _ | with_reducible refine Below.drew ?_ | with_reducible refine below_drewN ?_ _))) hbx) | have BV := Lib.hid (belowT (show Below w.heap.size w _ by (repeat (first | with_reducible exact Below.refl _ _ | with_reducible assumption | with_reducible refine Below.alloc ?_ (by first | (simp; done) | (simp; omega) | omega) _ | with_reducible refine Below.setCell ?_ (by first | (simp; done) | (simp; omega) | omega) _ | with_reducible refine Below.drew ?_ | with_reducible refine below_drewN ?_ _))) hbx)); clear hbx))
  go_ret
  exact ⟨rfl, BV.out⟩
set_option maxRecDepth 100000 in
set_option maxHeartbeats 4000000 in
theorem sx_ok (ph inc ch : Int) (A : Option Addr) (n c : Nat) (g : Nat → Int × Int) (w : World) (hs : shr n = true) (hD : smE n g = 0) (hP : prgE ph inc ch = 0) (hG : GS w (.slice A n c) n g) :
    Calls Try.prog 7 #[.agg #[.int .i64 ph, .int .i64 inc, .int .i64 ch], .slice A n c] w fun e w' => e = .returned (.bool true) ∧ Below w.heap.size w w' := by
  have hn : n ≤ 404 := by unfold shr at hs; simp at hs; omega
  have hE : mxE ph inc ch n g = 0 := by unfold mxE fs2; rw [hP, hD]; rfl
  have hA : GA w A n g := by obtain ⟨A', c', e, h, _⟩ := hG; cases e; exact h
  have HSH := Lib.hid (fun W => short_any A n c W)
  rw [hs] at HSH
  have HCG := Lib.hid (fun W (hW : Below w.heap.size w W) => copyG_any (.slice A n c) n g W (by omega) (hG.on hW))
  have HMX := Lib.hid (fun A1 c1 W (h : GA W A1 n g) => mixedS_all ph inc ch A1 n c1 g (0) n hE (fun _ => rfl) (fun h => absurd rfl h) W (by omega) h)
  have HUM := Lib.hid (fun A1 c1 W (h : GA W A1 n g) => unmixedS_all ph inc ch A1 n c1 g (0) n hE (fun _ => rfl) (fun h => absurd rfl h) W (by omega) h)
  have HST := Lib.hid (fun A1 c1 W (h : GA W A1 n g) => saturatedS_all A1 n c1 g (0) ((stL g n).length) hD (fun _ => rfl) (fun h => absurd rfl h) W (by omega) h)
  have HEN := Lib.hid (fun A1 c1 W (h : GA W A1 n g) => energyOfS_any A1 n c1 g W (by omega) h)
  have HSE := Lib.hid (fun W (hW : Below w.heap.size w W) => samplesErr_any A n c g W (by omega) (hA.bel hW))
  have HPE := Lib.hid (fun W => programErr_any ph inc ch W)
  have h2000 := (sm_0 hD).2
  have hlen := stL_len g n
  have HSR := Lib.hid (fun W (hW : Below w.heap.size w W) => saturatedR_any A n c g hD W (hA.bel hW))
  have HER := Lib.hid (fun W (hW : Below w.heap.size w W) => energyOfR_any A n c g W (by omega) (hA.bel hW) (fun i hi => by have := h2000 i hi; omega))
  have HIN := Lib.hid (fun A1 A2 c1 c2 W (h1 : IA W A1 (stL g n).length (fun i => (stL g n).getD i 0)) (h2 : IA W A2 (stL g n).length (fun i => (stL g n).getD i 0)) => ints_same A1 A2 (stL g n).length c1 c2 _ W (by omega) h1 h2)
  have HM1 := Lib.hid (fun W (hW : Below w.heap.size w W) => mixedR_any ph inc ch A n c g (-1) W hP (by omega) (hA.bel hW) (by omega) (by omega) (fun i hi => by have := h2000 i hi; omega))
  have HM2 := Lib.hid (fun W (hW : Below w.heap.size w W) => mixedR_any ph inc ch A n c g 1 W hP (by omega) (hA.bel hW) (by omega) (by omega) (fun i hi => by have := h2000 i hi; omega))
  have HGS := Lib.hid (fun A1 A2 c1 c2 h W (h1 : GA W A1 n h) (h2 : GA W A2 n h) => gausses_same A1 A2 n c1 c2 h W (by omega) h1 h2)
  clear h2000
  rw [hD] at HSE HEN
  rw [hP] at HPE
  rw [if_pos rfl] at HEN
  clear hD hP hE hA hG hs
  generalize hLN : (stL g n).length = N at *
  go_enter Try.func7, Try.ntmps7
  go_upto_region 5 with (first
    | (go_at_call 17; (with_reducible refine Calls.mono (awake_any _) ?_); rintro e yx ⟨rfl, hbx⟩; (try replace l0 := keep hbx l0); (try replace l1 := keep hbx l1); (try replace l2 := keep hbx l2); (try replace T5 := Lib.hid (T5.out.bel hbx)); (try replace T7 := Lib.hid (T7.out.bel hbx)); (try replace T9 := Lib.hid (T9.out.bel hbx)); (try replace TS := Lib.hid (TS.out.bel hbx)); (try replace TM := Lib.hid (TM.out.bel hbx)); (first | replace BV := Lib.hid (belowT (show Below w.heap.size w _ by have Bq := BV.out; have Bz := Bq.size; (repeat (first | with_reducible exact Below.refl _ _ | with_reducible assumption | with_reducible refine Below.alloc ?_ (by first | (simp; done) | (simp; omega) | omega) _ | with_reducible refine Below.setCell ?_ (by first | (simp; done) | (simp; omega) | omega) _ | with_reducible refine Below.drew ?_ | with_reducible refine below_drewN ?_ _))) hbx) | have BV := Lib.hid (belowT (show Below w.heap.size w _ by (repeat (first | with_reducible exact Below.refl _ _ | with_reducible assumption | with_reducible refine Below.alloc ?_ (by first | (simp; done) | (simp; omega) | omega) _ | with_reducible refine Below.setCell ?_ (by first | (simp; done) | (simp; omega) | omega) _ | with_reducible refine Below.drew ?_ | with_reducible refine below_drewN ?_ _))) hbx)); have l0 := keep hbx (b := w.heap.size) (o := 0) (v := .int .i64 ph) (by simp [go_sem]); have l1 := keep hbx (b := w.heap.size) (o := 1) (v := .int .i64 inc) (by simp [go_sem]); have l2 := keep hbx (b := w.heap.size) (o := 2) (v := .int .i64 ch) (by simp [go_sem]); clear hbx)
    | (go_at_call 47; (with_reducible refine Calls.mono (HSH.out _) ?_); rintro e yx ⟨rfl, hbx⟩; (try replace l0 := keep hbx l0); (try replace l1 := keep hbx l1); (try replace l2 := keep hbx l2); (try replace T5 := Lib.hid (T5.out.bel hbx)); (try replace T7 := Lib.hid (T7.out.bel hbx)); (try replace T9 := Lib.hid (T9.out.bel hbx)); (try replace TS := Lib.hid (TS.out.bel hbx)); (try replace TM := Lib.hid (TM.out.bel hbx)); (first | replace BV := Lib.hid (belowT (show Below w.heap.size w _ by have Bq := BV.out; have Bz := Bq.size; (repeat (first | with_reducible exact Below.refl _ _ | with_reducible assumption | with_reducible refine Below.alloc ?_ (by first | (simp; done) | (simp; omega) | omega) _ | with_reducible refine Below.setCell ?_ (by first | (simp; done) | (simp; omega) | omega) _ | with_reducible refine Below.drew ?_ | with_reducible refine below_drewN ?_ _))) hbx) | have BV := Lib.hid (belowT (show Below w.heap.size w _ by (repeat (first | with_reducible exact Below.refl _ _ | with_reducible assumption | with_reducible refine Below.alloc ?_ (by first | (simp; done) | (simp; omega) | omega) _ | with_reducible refine Below.setCell ?_ (by first | (simp; done) | (simp; omega) | omega) _ | with_reducible refine Below.drew ?_ | with_reducible refine below_drewN ?_ _))) hbx)); clear hbx))
  have HB0 := BV
  generalize yx = v0 at *
  clear BV
  refine wp_region_mp [mpEq (.agg #[.int .i64 ph, .int .i64 inc, .int .i64 ch]), mpEq (.slice A n c), mpGS (n) (g), mpTG (n) (mxS (-1) ph inc ch g) (0), mpTG (n) (mxS (-1) ph inc ch g) (0), mpGS (n) (mxS (-1) ph inc ch g), mpEq (.int .i64 (0)), mpGS (n) (mxS (-1) ph inc ch g), mpEq (.int .i64 (0))] pf0 (by kernel_rfl) (by kernel_rfl) (by kernel_rfl) (
        allOps_cons (fun a' w' hb hs hd => rg_op fun K hK => by
      have e0 := (hs.get 2 (by kernel_rfl)).trans (show _ = .pointer (some ⟨w.heap.size, 0, none⟩) from rfl)
      have ec : ∀ v, a'.eval (.const v) = v := fun _ => rfl
      have c0 := keep hb l0
      have c1 := keep hb l1
      have c2 := keep hb l2
      clear hs hd
      unfold Oper.wp
      generalize a'.eval = ρ at e0 ec ⊢
      simp [go_sem, e0, c0, c1, c2]
      exact hK _ _ (Below.refl _ _) rfl) <|
        allOps_cons (fun a' w' hb hs hd => rg_op fun K hK => by
      have e0 := (hs.get 1 (by kernel_rfl)).trans (show _ = .slice A n c from rfl)
      have ec : ∀ v, a'.eval (.const v) = v := fun _ => rfl
      clear hs hd
      unfold Oper.wp
      generalize a'.eval = ρ at e0 ec ⊢
      simp [go_sem, e0]
      exact hK _ _ (Below.refl _ _) rfl) <|
        allOps_cons (fun a' w' hb hs hd => by
      exact rg_fn (φ := (mpGS (n) (g)).p) (vs := #[.slice A n c]) rfl (enters_of Try.func49 (by kernel_rfl) rfl) (by simp [(show a'.eval (.tmp 22) = .slice A n c from hd.get 1 22 (by kernel_rfl) (by kernel_rfl))]) ((HCG.out w' (belowT HB0.out hb)).mono (by rintro e w1 ⟨v, rfl, h1, h2⟩; exact ⟨_, rfl, h1, h2⟩))) <|
        allOps_cons (fun a' w' hb hs hd => by
      obtain ⟨A1, c1, e1, hG1, _⟩ := (show (mpGS (n) (g)).p (a'.eval (.tmp 23)) w' from hd.get 2 23 (by kernel_rfl) (by kernel_rfl))
      exact rg_fn (φ := (mpTG (n) (mxS (-1) ph inc ch g) (0)).p) (vs := #[.agg #[.int .i64 ph, .int .i64 inc, .int .i64 ch], .slice A1 n c1]) rfl (enters_of Try.func48 (by kernel_rfl) rfl) (by simp [(show a'.eval (.tmp 21) = .agg #[.int .i64 ph, .int .i64 inc, .int .i64 ch] from hd.get 0 21 (by kernel_rfl) (by kernel_rfl)), e1]) ((HMX.out A1 c1 w' hG1).mono (by rintro e w1 ⟨A2, c2, rfl, h1, h2, h3⟩; exact ⟨_, rfl, h1, A2, c2, rfl, h2, fun q => (by have h4 := h3 q; simpa using h4)⟩))) <|
        allOps_cons (fun a' w' hb hs hd => rg_op fun K hK => by
      have e0 := (show (mpTG (n) (mxS (-1) ph inc ch g) (0)).p (a'.eval (.tmp 24)) w' from hd.get 3 24 (by kernel_rfl) (by kernel_rfl))
      clear hs hd
      unfold Oper.wp
      generalize a'.eval = ρ at e0 ⊢
      simp [go_sem]
      exact hK _ _ (Below.refl _ _) e0) <|
        allOps_cons (fun a' w' hb hs hd => rg_op fun K hK => by
      obtain ⟨At, ct, e0, ht1, ht2⟩ := (show (mpTG (n) (mxS (-1) ph inc ch g) (0)).p (a'.eval (.tmp 20)) w' from hd.get 4 20 (by kernel_rfl) (by kernel_rfl))
      clear hs hd
      unfold Oper.wp
      generalize a'.eval = ρ at e0 ⊢
      simp [go_sem, e0]
      exact hK _ _ (Below.refl _ _) ⟨At, ct, rfl, ht1, ht2⟩) <|
        allOps_cons (fun a' w' hb hs hd => rg_op fun K hK => by
      obtain ⟨At, ct, e0, ht1, ht2⟩ := (show (mpTG (n) (mxS (-1) ph inc ch g) (0)).p (a'.eval (.tmp 20)) w' from hd.get 4 20 (by kernel_rfl) (by kernel_rfl))
      clear hs hd
      unfold Oper.wp
      generalize a'.eval = ρ at e0 ⊢
      simp [go_sem, e0]
      exact hK _ _ (Below.refl _ _) rfl) <|
        allOps_cons (fun a' w' hb hs hd => rg_op fun K hK => by
      have e0 := (show (mpGS (n) (mxS (-1) ph inc ch g)).p (a'.eval (.tmp 25)) w' from hd.get 5 25 (by kernel_rfl) (by kernel_rfl))
      clear hs hd
      unfold Oper.wp
      generalize a'.eval = ρ at e0 ⊢
      simp [go_sem]
      exact hK _ _ (Below.refl _ _) e0) <|
        allOps_cons (fun a' w' hb hs hd => rg_op fun K hK => by
      have e0 := (show a'.eval (.tmp 26) = .int .i64 (0) from hd.get 6 26 (by kernel_rfl) (by kernel_rfl))
      have ec : ∀ v, a'.eval (.const v) = v := fun _ => rfl
      clear hs hd
      unfold Oper.wp
      generalize a'.eval = ρ at e0 ec ⊢
      simp [go_sem, e0]
      exact hK _ _ (Below.refl _ _) rfl) <| allOps_nil) (fun V v1 hv1 hall => ?_)
  have h5 : (mpGS (n) (mxS (-1) ph inc ch g)).p (V 5) _ := hall.get 7 rfl
  have h6 : V 6 = .int .i64 (0) := hall.get 8 rfl
  clear hall
  simp only [pf0, maskPut, Nat.reduceAdd]
  rw [h6]
  clear h6
  obtain ⟨A5, c5, e5, hG5, _⟩ := h5
  rw [e5]
  have HB0 := Lib.hid (belowT HB0.out hv1)
  have T5 := Lib.hid hG5
  replace l0 := keep hv1 l0
  replace l1 := keep hv1 l1
  replace l2 := keep hv1 l2
  clear hv1 hG5 e5
  go_upto_region 6 with fail
  refine wp_region_mp [mpEq (.agg #[.int .i64 ph, .int .i64 inc, .int .i64 ch]), mpEq (.slice A n c), mpGS (n) (g), mpTG (n) (mxS 1 ph inc ch g) (0), mpTG (n) (mxS 1 ph inc ch g) (0), mpGS (n) (mxS 1 ph inc ch g), mpEq (.int .i64 (0)), mpGS (n) (mxS 1 ph inc ch g), mpEq (.int .i64 (0))] pf1 (by kernel_rfl) (by kernel_rfl) (by kernel_rfl) (
        allOps_cons (fun a' w' hb hs hd => rg_op fun K hK => by
      have e0 := (hs.get 2 (by kernel_rfl)).trans (show _ = .pointer (some ⟨w.heap.size, 0, none⟩) from rfl)
      have ec : ∀ v, a'.eval (.const v) = v := fun _ => rfl
      have c0 := keep hb l0
      have c1 := keep hb l1
      have c2 := keep hb l2
      clear hs hd
      unfold Oper.wp
      generalize a'.eval = ρ at e0 ec ⊢
      simp [go_sem, e0, c0, c1, c2]
      exact hK _ _ (Below.refl _ _) rfl) <|
        allOps_cons (fun a' w' hb hs hd => rg_op fun K hK => by
      have e0 := (hs.get 1 (by kernel_rfl)).trans (show _ = .slice A n c from rfl)
      have ec : ∀ v, a'.eval (.const v) = v := fun _ => rfl
      clear hs hd
      unfold Oper.wp
      generalize a'.eval = ρ at e0 ec ⊢
      simp [go_sem, e0]
      exact hK _ _ (Below.refl _ _) rfl) <|
        allOps_cons (fun a' w' hb hs hd => by
      exact rg_fn (φ := (mpGS (n) (g)).p) (vs := #[.slice A n c]) rfl (enters_of Try.func49 (by kernel_rfl) rfl) (by simp [(show a'.eval (.tmp 29) = .slice A n c from hd.get 1 29 (by kernel_rfl) (by kernel_rfl))]) ((HCG.out w' (belowT HB0.out hb)).mono (by rintro e w1 ⟨v, rfl, h1, h2⟩; exact ⟨_, rfl, h1, h2⟩))) <|
        allOps_cons (fun a' w' hb hs hd => by
      obtain ⟨A1, c1, e1, hG1, _⟩ := (show (mpGS (n) (g)).p (a'.eval (.tmp 30)) w' from hd.get 2 30 (by kernel_rfl) (by kernel_rfl))
      exact rg_fn (φ := (mpTG (n) (mxS 1 ph inc ch g) (0)).p) (vs := #[.agg #[.int .i64 ph, .int .i64 inc, .int .i64 ch], .slice A1 n c1]) rfl (enters_of Try.func50 (by kernel_rfl) rfl) (by simp [(show a'.eval (.tmp 28) = .agg #[.int .i64 ph, .int .i64 inc, .int .i64 ch] from hd.get 0 28 (by kernel_rfl) (by kernel_rfl)), e1]) ((HUM.out A1 c1 w' hG1).mono (by rintro e w1 ⟨A2, c2, rfl, h1, h2, h3⟩; exact ⟨_, rfl, h1, A2, c2, rfl, h2, fun q => (by have h4 := h3 q; simpa using h4)⟩))) <|
        allOps_cons (fun a' w' hb hs hd => rg_op fun K hK => by
      have e0 := (show (mpTG (n) (mxS 1 ph inc ch g) (0)).p (a'.eval (.tmp 31)) w' from hd.get 3 31 (by kernel_rfl) (by kernel_rfl))
      clear hs hd
      unfold Oper.wp
      generalize a'.eval = ρ at e0 ⊢
      simp [go_sem]
      exact hK _ _ (Below.refl _ _) e0) <|
        allOps_cons (fun a' w' hb hs hd => rg_op fun K hK => by
      obtain ⟨At, ct, e0, ht1, ht2⟩ := (show (mpTG (n) (mxS 1 ph inc ch g) (0)).p (a'.eval (.tmp 27)) w' from hd.get 4 27 (by kernel_rfl) (by kernel_rfl))
      clear hs hd
      unfold Oper.wp
      generalize a'.eval = ρ at e0 ⊢
      simp [go_sem, e0]
      exact hK _ _ (Below.refl _ _) ⟨At, ct, rfl, ht1, ht2⟩) <|
        allOps_cons (fun a' w' hb hs hd => rg_op fun K hK => by
      obtain ⟨At, ct, e0, ht1, ht2⟩ := (show (mpTG (n) (mxS 1 ph inc ch g) (0)).p (a'.eval (.tmp 27)) w' from hd.get 4 27 (by kernel_rfl) (by kernel_rfl))
      clear hs hd
      unfold Oper.wp
      generalize a'.eval = ρ at e0 ⊢
      simp [go_sem, e0]
      exact hK _ _ (Below.refl _ _) rfl) <|
        allOps_cons (fun a' w' hb hs hd => rg_op fun K hK => by
      have e0 := (show (mpGS (n) (mxS 1 ph inc ch g)).p (a'.eval (.tmp 32)) w' from hd.get 5 32 (by kernel_rfl) (by kernel_rfl))
      clear hs hd
      unfold Oper.wp
      generalize a'.eval = ρ at e0 ⊢
      simp [go_sem]
      exact hK _ _ (Below.refl _ _) e0) <|
        allOps_cons (fun a' w' hb hs hd => rg_op fun K hK => by
      have e0 := (show a'.eval (.tmp 33) = .int .i64 (0) from hd.get 6 33 (by kernel_rfl) (by kernel_rfl))
      have ec : ∀ v, a'.eval (.const v) = v := fun _ => rfl
      clear hs hd
      unfold Oper.wp
      generalize a'.eval = ρ at e0 ec ⊢
      simp [go_sem, e0]
      exact hK _ _ (Below.refl _ _) rfl) <| allOps_nil) (fun V v2 hv2 hall => ?_)
  have h7 : (mpGS (n) (mxS 1 ph inc ch g)).p (V 7) _ := hall.get 7 rfl
  have h8 : V 8 = .int .i64 (0) := hall.get 8 rfl
  clear hall
  simp only [pf1, maskPut, Nat.reduceAdd]
  rw [h8]
  clear h8
  obtain ⟨A7, c7, e7, hG7, _⟩ := h7
  rw [e7]
  have HB0 := Lib.hid (belowT HB0.out hv2)
  have T7 := Lib.hid hG7
  replace l0 := keep hv2 l0
  replace l1 := keep hv2 l1
  replace l2 := keep hv2 l2
  replace T5 := Lib.hid (T5.out.bel hv2)
  clear hv2 hG7 e7
  have BV := HB0
  clear HB0 HMX HUM
  go_wp2_with (first
    | (go_at_call 49; (with_reducible refine Calls.mono (HCG.out _ BV.out) ?_); rintro e yx ⟨vc, rfl, hbx, Ac, cc, rfl, hGc, _⟩; (try replace l0 := keep hbx l0); (try replace l1 := keep hbx l1); (try replace l2 := keep hbx l2); (try replace T5 := Lib.hid (T5.out.bel hbx)); (try replace T7 := Lib.hid (T7.out.bel hbx)); (try replace T9 := Lib.hid (T9.out.bel hbx)); (try replace TS := Lib.hid (TS.out.bel hbx)); (try replace TM := Lib.hid (TM.out.bel hbx)); (first | replace BV := Lib.hid (belowT (show Below w.heap.size w _ by have Bq := BV.out; have Bz := Bq.size; (repeat (first | with_reducible exact Below.refl _ _ | with_reducible assumption | with_reducible refine Below.alloc ?_ (by first | (simp; done) | (simp; omega) | omega) _ | with_reducible refine Below.setCell ?_ (by first | (simp; done) | (simp; omega) | omega) _ | with_reducible refine Below.drew ?_ | with_reducible refine below_drewN ?_ _))) hbx) | have BV := Lib.hid (belowT (show Below w.heap.size w _ by (repeat (first | with_reducible exact Below.refl _ _ | with_reducible assumption | with_reducible refine Below.alloc ?_ (by first | (simp; done) | (simp; omega) | omega) _ | with_reducible refine Below.setCell ?_ (by first | (simp; done) | (simp; omega) | omega) _ | with_reducible refine Below.drew ?_ | with_reducible refine below_drewN ?_ _))) hbx)); have TC := Lib.hid hGc; clear hGc; clear hbx)
    | (go_at_call 51; (with_reducible refine Calls.mono (HST.out _ _ _ TC.out) ?_); rintro e yx ⟨A9, c9, rfl, hbx, hI9⟩; (try replace l0 := keep hbx l0); (try replace l1 := keep hbx l1); (try replace l2 := keep hbx l2); (try replace T5 := Lib.hid (T5.out.bel hbx)); (try replace T7 := Lib.hid (T7.out.bel hbx)); (try replace T9 := Lib.hid (T9.out.bel hbx)); (try replace TS := Lib.hid (TS.out.bel hbx)); (try replace TM := Lib.hid (TM.out.bel hbx)); (first | replace BV := Lib.hid (belowT (show Below w.heap.size w _ by have Bq := BV.out; have Bz := Bq.size; (repeat (first | with_reducible exact Below.refl _ _ | with_reducible assumption | with_reducible refine Below.alloc ?_ (by first | (simp; done) | (simp; omega) | omega) _ | with_reducible refine Below.setCell ?_ (by first | (simp; done) | (simp; omega) | omega) _ | with_reducible refine Below.drew ?_ | with_reducible refine below_drewN ?_ _))) hbx) | have BV := Lib.hid (belowT (show Below w.heap.size w _ by (repeat (first | with_reducible exact Below.refl _ _ | with_reducible assumption | with_reducible refine Below.alloc ?_ (by first | (simp; done) | (simp; omega) | omega) _ | with_reducible refine Below.setCell ?_ (by first | (simp; done) | (simp; omega) | omega) _ | with_reducible refine Below.drew ?_ | with_reducible refine below_drewN ?_ _))) hbx)); have T9 := Lib.hid hI9; clear hI9; clear hbx)
    | (go_at_call 52; (with_reducible refine Calls.mono (HEN.out _ _ _ TC.out) ?_); rintro e yx ⟨rfl, hbx⟩; (try replace l0 := keep hbx l0); (try replace l1 := keep hbx l1); (try replace l2 := keep hbx l2); (try replace T5 := Lib.hid (T5.out.bel hbx)); (try replace T7 := Lib.hid (T7.out.bel hbx)); (try replace T9 := Lib.hid (T9.out.bel hbx)); (try replace TS := Lib.hid (TS.out.bel hbx)); (try replace TM := Lib.hid (TM.out.bel hbx)); (first | replace BV := Lib.hid (belowT (show Below w.heap.size w _ by have Bq := BV.out; have Bz := Bq.size; (repeat (first | with_reducible exact Below.refl _ _ | with_reducible assumption | with_reducible refine Below.alloc ?_ (by first | (simp; done) | (simp; omega) | omega) _ | with_reducible refine Below.setCell ?_ (by first | (simp; done) | (simp; omega) | omega) _ | with_reducible refine Below.drew ?_ | with_reducible refine below_drewN ?_ _))) hbx) | have BV := Lib.hid (belowT (show Below w.heap.size w _ by (repeat (first | with_reducible exact Below.refl _ _ | with_reducible assumption | with_reducible refine Below.alloc ?_ (by first | (simp; done) | (simp; omega) | omega) _ | with_reducible refine Below.setCell ?_ (by first | (simp; done) | (simp; omega) | omega) _ | with_reducible refine Below.drew ?_ | with_reducible refine below_drewN ?_ _))) hbx)); clear hbx)
    | (go_at_call 53; (with_reducible refine Calls.mono (HSE.out _ BV.out) ?_); rintro e yx ⟨rfl, hbx⟩; (try replace l0 := keep hbx l0); (try replace l1 := keep hbx l1); (try replace l2 := keep hbx l2); (try replace T5 := Lib.hid (T5.out.bel hbx)); (try replace T7 := Lib.hid (T7.out.bel hbx)); (try replace T9 := Lib.hid (T9.out.bel hbx)); (try replace TS := Lib.hid (TS.out.bel hbx)); (try replace TM := Lib.hid (TM.out.bel hbx)); (first | replace BV := Lib.hid (belowT (show Below w.heap.size w _ by have Bq := BV.out; have Bz := Bq.size; (repeat (first | with_reducible exact Below.refl _ _ | with_reducible assumption | with_reducible refine Below.alloc ?_ (by first | (simp; done) | (simp; omega) | omega) _ | with_reducible refine Below.setCell ?_ (by first | (simp; done) | (simp; omega) | omega) _ | with_reducible refine Below.drew ?_ | with_reducible refine below_drewN ?_ _))) hbx) | have BV := Lib.hid (belowT (show Below w.heap.size w _ by (repeat (first | with_reducible exact Below.refl _ _ | with_reducible assumption | with_reducible refine Below.alloc ?_ (by first | (simp; done) | (simp; omega) | omega) _ | with_reducible refine Below.setCell ?_ (by first | (simp; done) | (simp; omega) | omega) _ | with_reducible refine Below.drew ?_ | with_reducible refine below_drewN ?_ _))) hbx)); clear hbx)
    | (go_at_call 41; (with_reducible refine Calls.mono (HPE.out _) ?_); rintro e yx ⟨rfl, hbx⟩; (try replace l0 := keep hbx l0); (try replace l1 := keep hbx l1); (try replace l2 := keep hbx l2); (try replace T5 := Lib.hid (T5.out.bel hbx)); (try replace T7 := Lib.hid (T7.out.bel hbx)); (try replace T9 := Lib.hid (T9.out.bel hbx)); (try replace TS := Lib.hid (TS.out.bel hbx)); (try replace TM := Lib.hid (TM.out.bel hbx)); (first | replace BV := Lib.hid (belowT (show Below w.heap.size w _ by have Bq := BV.out; have Bz := Bq.size; (repeat (first | with_reducible exact Below.refl _ _ | with_reducible assumption | with_reducible refine Below.alloc ?_ (by first | (simp; done) | (simp; omega) | omega) _ | with_reducible refine Below.setCell ?_ (by first | (simp; done) | (simp; omega) | omega) _ | with_reducible refine Below.drew ?_ | with_reducible refine below_drewN ?_ _))) hbx) | have BV := Lib.hid (belowT (show Below w.heap.size w _ by (repeat (first | with_reducible exact Below.refl _ _ | with_reducible assumption | with_reducible refine Below.alloc ?_ (by first | (simp; done) | (simp; omega) | omega) _ | with_reducible refine Below.setCell ?_ (by first | (simp; done) | (simp; omega) | omega) _ | with_reducible refine Below.drew ?_ | with_reducible refine below_drewN ?_ _))) hbx)); clear hbx)
    | (go_at_call 54; (with_reducible refine Calls.mono (HSR.out _ BV.out) ?_); rintro e yx ⟨AS, cS, rfl, hbx, hIS⟩; (try replace l0 := keep hbx l0); (try replace l1 := keep hbx l1); (try replace l2 := keep hbx l2); (try replace T5 := Lib.hid (T5.out.bel hbx)); (try replace T7 := Lib.hid (T7.out.bel hbx)); (try replace T9 := Lib.hid (T9.out.bel hbx)); (try replace TS := Lib.hid (TS.out.bel hbx)); (try replace TM := Lib.hid (TM.out.bel hbx)); (first | replace BV := Lib.hid (belowT (show Below w.heap.size w _ by have Bq := BV.out; have Bz := Bq.size; (repeat (first | with_reducible exact Below.refl _ _ | with_reducible assumption | with_reducible refine Below.alloc ?_ (by first | (simp; done) | (simp; omega) | omega) _ | with_reducible refine Below.setCell ?_ (by first | (simp; done) | (simp; omega) | omega) _ | with_reducible refine Below.drew ?_ | with_reducible refine below_drewN ?_ _))) hbx) | have BV := Lib.hid (belowT (show Below w.heap.size w _ by (repeat (first | with_reducible exact Below.refl _ _ | with_reducible assumption | with_reducible refine Below.alloc ?_ (by first | (simp; done) | (simp; omega) | omega) _ | with_reducible refine Below.setCell ?_ (by first | (simp; done) | (simp; omega) | omega) _ | with_reducible refine Below.drew ?_ | with_reducible refine below_drewN ?_ _))) hbx)); have TS := Lib.hid hIS; clear hIS; clear hbx)
    | (go_at_call 30; (with_reducible refine Calls.mono (HIN.out _ _ _ _ _ T9.out TS.out) ?_); rintro e yx ⟨rfl, hbx⟩; (try replace l0 := keep hbx l0); (try replace l1 := keep hbx l1); (try replace l2 := keep hbx l2); (try replace T5 := Lib.hid (T5.out.bel hbx)); (try replace T7 := Lib.hid (T7.out.bel hbx)); (try replace T9 := Lib.hid (T9.out.bel hbx)); (try replace TS := Lib.hid (TS.out.bel hbx)); (try replace TM := Lib.hid (TM.out.bel hbx)); (first | replace BV := Lib.hid (belowT (show Below w.heap.size w _ by have Bq := BV.out; have Bz := Bq.size; (repeat (first | with_reducible exact Below.refl _ _ | with_reducible assumption | with_reducible refine Below.alloc ?_ (by first | (simp; done) | (simp; omega) | omega) _ | with_reducible refine Below.setCell ?_ (by first | (simp; done) | (simp; omega) | omega) _ | with_reducible refine Below.drew ?_ | with_reducible refine below_drewN ?_ _))) hbx) | have BV := Lib.hid (belowT (show Below w.heap.size w _ by (repeat (first | with_reducible exact Below.refl _ _ | with_reducible assumption | with_reducible refine Below.alloc ?_ (by first | (simp; done) | (simp; omega) | omega) _ | with_reducible refine Below.setCell ?_ (by first | (simp; done) | (simp; omega) | omega) _ | with_reducible refine Below.drew ?_ | with_reducible refine below_drewN ?_ _))) hbx)); clear hbx)
    | (go_at_call 55; (with_reducible refine Calls.mono (HER.out _ BV.out) ?_); rintro e yx ⟨rfl, hbx⟩; (try replace l0 := keep hbx l0); (try replace l1 := keep hbx l1); (try replace l2 := keep hbx l2); (try replace T5 := Lib.hid (T5.out.bel hbx)); (try replace T7 := Lib.hid (T7.out.bel hbx)); (try replace T9 := Lib.hid (T9.out.bel hbx)); (try replace TS := Lib.hid (TS.out.bel hbx)); (try replace TM := Lib.hid (TM.out.bel hbx)); (first | replace BV := Lib.hid (belowT (show Below w.heap.size w _ by have Bq := BV.out; have Bz := Bq.size; (repeat (first | with_reducible exact Below.refl _ _ | with_reducible assumption | with_reducible refine Below.alloc ?_ (by first | (simp; done) | (simp; omega) | omega) _ | with_reducible refine Below.setCell ?_ (by first | (simp; done) | (simp; omega) | omega) _ | with_reducible refine Below.drew ?_ | with_reducible refine below_drewN ?_ _))) hbx) | have BV := Lib.hid (belowT (show Below w.heap.size w _ by (repeat (first | with_reducible exact Below.refl _ _ | with_reducible assumption | with_reducible refine Below.alloc ?_ (by first | (simp; done) | (simp; omega) | omega) _ | with_reducible refine Below.setCell ?_ (by first | (simp; done) | (simp; omega) | omega) _ | with_reducible refine Below.drew ?_ | with_reducible refine below_drewN ?_ _))) hbx)); clear hbx)
    | (go_at_call 56; (with_reducible refine Calls.mono (HM1.out _ BV.out) ?_); rintro e yx ⟨vm, rfl, hbx, AM, cM, rfl, hGM, _⟩; (try replace l0 := keep hbx l0); (try replace l1 := keep hbx l1); (try replace l2 := keep hbx l2); (try replace T5 := Lib.hid (T5.out.bel hbx)); (try replace T7 := Lib.hid (T7.out.bel hbx)); (try replace T9 := Lib.hid (T9.out.bel hbx)); (try replace TS := Lib.hid (TS.out.bel hbx)); (try replace TM := Lib.hid (TM.out.bel hbx)); (first | replace BV := Lib.hid (belowT (show Below w.heap.size w _ by have Bq := BV.out; have Bz := Bq.size; (repeat (first | with_reducible exact Below.refl _ _ | with_reducible assumption | with_reducible refine Below.alloc ?_ (by first | (simp; done) | (simp; omega) | omega) _ | with_reducible refine Below.setCell ?_ (by first | (simp; done) | (simp; omega) | omega) _ | with_reducible refine Below.drew ?_ | with_reducible refine below_drewN ?_ _))) hbx) | have BV := Lib.hid (belowT (show Below w.heap.size w _ by (repeat (first | with_reducible exact Below.refl _ _ | with_reducible assumption | with_reducible refine Below.alloc ?_ (by first | (simp; done) | (simp; omega) | omega) _ | with_reducible refine Below.setCell ?_ (by first | (simp; done) | (simp; omega) | omega) _ | with_reducible refine Below.drew ?_ | with_reducible refine below_drewN ?_ _))) hbx)); have TM := Lib.hid hGM; clear hGM; clear hbx)
    | (go_at_call 56; (with_reducible refine Calls.mono (HM2.out _ BV.out) ?_); rintro e yx ⟨vm, rfl, hbx, AM, cM, rfl, hGM, _⟩; (try replace l0 := keep hbx l0); (try replace l1 := keep hbx l1); (try replace l2 := keep hbx l2); (try replace T5 := Lib.hid (T5.out.bel hbx)); (try replace T7 := Lib.hid (T7.out.bel hbx)); (try replace T9 := Lib.hid (T9.out.bel hbx)); (try replace TS := Lib.hid (TS.out.bel hbx)); (try replace TM := Lib.hid (TM.out.bel hbx)); (first | replace BV := Lib.hid (belowT (show Below w.heap.size w _ by have Bq := BV.out; have Bz := Bq.size; (repeat (first | with_reducible exact Below.refl _ _ | with_reducible assumption | with_reducible refine Below.alloc ?_ (by first | (simp; done) | (simp; omega) | omega) _ | with_reducible refine Below.setCell ?_ (by first | (simp; done) | (simp; omega) | omega) _ | with_reducible refine Below.drew ?_ | with_reducible refine below_drewN ?_ _))) hbx) | have BV := Lib.hid (belowT (show Below w.heap.size w _ by (repeat (first | with_reducible exact Below.refl _ _ | with_reducible assumption | with_reducible refine Below.alloc ?_ (by first | (simp; done) | (simp; omega) | omega) _ | with_reducible refine Below.setCell ?_ (by first | (simp; done) | (simp; omega) | omega) _ | with_reducible refine Below.drew ?_ | with_reducible refine below_drewN ?_ _))) hbx)); have TM := Lib.hid hGM; clear hGM; clear hbx)
    | (go_at_call 35; (with_reducible refine Calls.mono (HGS.out _ _ _ _ _ _ T5.out TM.out) ?_); rintro e yx ⟨rfl, hbx⟩; (try replace l0 := keep hbx l0); (try replace l1 := keep hbx l1); (try replace l2 := keep hbx l2); (try replace T5 := Lib.hid (T5.out.bel hbx)); (try replace T7 := Lib.hid (T7.out.bel hbx)); (try replace T9 := Lib.hid (T9.out.bel hbx)); (try replace TS := Lib.hid (TS.out.bel hbx)); (try replace TM := Lib.hid (TM.out.bel hbx)); (first | replace BV := Lib.hid (belowT (show Below w.heap.size w _ by have Bq := BV.out; have Bz := Bq.size; (repeat (first | with_reducible exact Below.refl _ _ | with_reducible assumption | with_reducible refine Below.alloc ?_ (by first | (simp; done) | (simp; omega) | omega) _ | with_reducible refine Below.setCell ?_ (by first | (simp; done) | (simp; omega) | omega) _ | with_reducible refine Below.drew ?_ | with_reducible refine below_drewN ?_ _))) hbx) | have BV := Lib.hid (belowT (show Below w.heap.size w _ by (repeat (first | with_reducible exact Below.refl _ _ | with_reducible assumption | with_reducible refine Below.alloc ?_ (by first | (simp; done) | (simp; omega) | omega) _ | with_reducible refine Below.setCell ?_ (by first | (simp; done) | (simp; omega) | omega) _ | with_reducible refine Below.drew ?_ | with_reducible refine below_drewN ?_ _))) hbx)); clear hbx)
    | (go_at_call 35; (with_reducible refine Calls.mono (HGS.out _ _ _ _ _ _ T7.out TM.out) ?_); rintro e yx ⟨rfl, hbx⟩; (try replace l0 := keep hbx l0); (try replace l1 := keep hbx l1); (try replace l2 := keep hbx l2); (try replace T5 := Lib.hid (T5.out.bel hbx)); (try replace T7 := Lib.hid (T7.out.bel hbx)); (try replace T9 := Lib.hid (T9.out.bel hbx)); (try replace TS := Lib.hid (TS.out.bel hbx)); (try replace TM := Lib.hid (TM.out.bel hbx)); (first | replace BV := Lib.hid (belowT (show Below w.heap.size w _ by have Bq := BV.out; have Bz := Bq.size; (repeat (first | with_reducible exact Below.refl _ _ | with_reducible assumption | with_reducible refine Below.alloc ?_ (by first | (simp; done) | (simp; omega) | omega) _ | with_reducible refine Below.setCell ?_ (by first | (simp; done) | (simp; omega) | omega) _ | with_reducible refine Below.drew ?_ | with_reducible refine below_drewN ?_ _))) hbx) | have BV := Lib.hid (belowT (show Below w.heap.size w _ by (repeat (first | with_reducible exact Below.refl _ _ | with_reducible assumption | with_reducible refine Below.alloc ?_ (by first | (simp; done) | (simp; omega) | omega) _ | with_reducible refine Below.setCell ?_ (by first | (simp; done) | (simp; omega) | omega) _ | with_reducible refine Below.drew ?_ | with_reducible refine below_drewN ?_ _))) hbx)); clear hbx))
  go_ret
  exact ⟨rfl, BV.out⟩
end Go.Proofs.Ytpkacfgmojblbaa
