/- Helpers: the law PathMotions, by what its calls answer. No condition but the hypotheses. -/
import Derived.Test.YtmhcmiajikffpaaB23
import Derived.Test.YtmhcmiajikffpaaB18
namespace Go.Proofs.Ytmhcmiajikffpaa
open Go.RowKit Go.Shelf Go.Sort
attribute [local go_sem] idx3_0 idx3_1 idx3_2 old1 fro1 old2 fro2 old3 fro3 old4 fro4 old5 fro5 old6 fro6 old7 fro7 old8 fro8 old9 fro9 old10 fro10 old11 fro11 old12 fro12
def mq0 : List Bool := [false, false, false, false, false, false, true, true, true, false, false, false, false, false, false, false, false, false, false, false, false, false, false, false, false, false, false, false, false, false, false, false, false, false, false, false, false, false, false, true, true, true, true, true, true, true, true, false, false, false, false, false, false, false, false, false, false, false, false, false, false, false, false, false, false, false, false, false, false, false, false, false, false, false, false, false, false, false, false, false, false, false, false, false, false, false, false, false, false, false, false, false, false, false, false, false, false, false, false, false, false, false, false, false, false, false, false, false, false, false, false, false, false, false, false, false, false, false, false, false, false, false, false, false, false, false, false, false, false, false, false, false, false, false, false, false, false, false, false, false, false, false, false, false, false, false, false, false, false, false, false, false, false, false, false]
def mq1 : List Bool := [false, false, false, false, false, false, false, false, false, true, true, false, false, false, false, false, false, false, false, false, false, false, false, false, false, false, false, false, false, false, false, false, false, false, false, false, false, false, false, false, false, false, false, false, false, false, false, true, true, true, true, true, true, true, false, false, false, false, false, false, false, false, false, false, false, false, false, false, false, false, false, false, false, false, false, false, false, false, false, false, false, false, false, false, false, false, false, false, false, false, false, false, false, false, false, false, false, false, false, false, false, false, false, false, false, false, false, false, false, false, false, false, false, false, false, false, false, false, false, false, false, false, false, false, false, false, false, false, false, false, false, false, false, false, false, false, false, false, false, false, false, false, false, false, false, false, false, false, false, false, false, false, false, false, false]
def mpIA (n : Nat) (xs : Nat → Int) : MP := ⟨fun v w => ∃ A c, v = .slice A n c ∧ IA w A n xs, fun _ _ _ ⟨A, c, hv, h⟩ hb => ⟨A, c, hv, h.below hb⟩⟩
def mpTu (m : Nat) (ys : Nat → Int) (T F : Int) : MP := ⟨fun v w => ∃ A c, v = .tuple #[.slice A m c, .int .i64 T, .int .i64 F] ∧ IA w A m ys, fun _ _ _ ⟨A, c, hv, h⟩ hb => ⟨A, c, hv, h.below hb⟩⟩
set_option maxRecDepth 100000 in
set_option maxHeartbeats 2000000 in
theorem pm_e1 (t lo hi st ra : Int) (A : Option Addr) (n c : Nat) (xs : Nat → Int) (w : World) (hA : IA w A n xs) (hRM : ∀ W, Calls Try.prog 17 #[.agg #[.int .i64 t, .int .i64 lo, .int .i64 hi, .int .i64 st, .int .i64 ra]] W fun e w' => e = .returned (.bool false) ∧ Below W.heap.size W w') :
    Calls Try.prog 4 #[.agg #[.int .i64 t, .int .i64 lo, .int .i64 hi, .int .i64 st, .int .i64 ra], .slice A n c] w fun e w' => e = .returned (.bool true) ∧ Below w.heap.size w w' := by
  have HA := Lib.hid hA
  have HRM := Lib.hid hRM
  clear hA hRM
  go_enter Try.func4, Try.ntmps4
  go_wp2_with (first
    | (go_at_call 6; (with_reducible refine Calls.mono (awake_any _) ?_); rintro e w1 ⟨rfl, hb1⟩; have BV := Lib.hid (belowT (show Below w.heap.size w _ by (repeat (first | with_reducible exact Below.refl _ _ | with_reducible assumption | with_reducible refine Below.alloc ?_ (by first | (simp; done) | (simp; omega) | omega) _ | with_reducible refine Below.setCell ?_ (by first | (simp; done) | (simp; omega) | omega) _ | with_reducible refine Below.drew ?_ | with_reducible refine below_drewN ?_ _))) hb1); have d0 := keep hb1 (b := w.heap.size) (o := 0) (v := .int .i64 t) (by simp [go_sem]); have d1 := keep hb1 (b := w.heap.size) (o := 1) (v := .int .i64 lo) (by simp [go_sem]); have d2 := keep hb1 (b := w.heap.size) (o := 2) (v := .int .i64 hi) (by simp [go_sem]); have d3 := keep hb1 (b := w.heap.size) (o := 3) (v := .int .i64 st) (by simp [go_sem]); have d4 := keep hb1 (b := w.heap.size) (o := 4) (v := .int .i64 ra) (by simp [go_sem]); replace HA := Lib.hid (HA.out.below BV.out); clear hb1)
    | (go_at_call 17; (with_reducible refine Calls.mono (HRM.out _) ?_); rintro e w2 ⟨rfl, hb2⟩; replace d0 := keep hb2 d0; replace d1 := keep hb2 d1; replace d2 := keep hb2 d2; replace d3 := keep hb2 d3; replace d4 := keep hb2 d4; replace HA := Lib.hid (HA.out.below hb2); replace BV := Lib.hid (belowT BV.out hb2); clear hb2)
    | fail)
  go_ret
  exact ⟨rfl, BV.out⟩
set_option maxRecDepth 100000 in
set_option maxHeartbeats 2000000 in
theorem pm_e2 (t lo hi st ra : Int) (A : Option Addr) (n c : Nat) (xs : Nat → Int) (w : World) (hA : IA w A n xs) (q1 : 12 < n) (q2 : n ≤ 40) (hRM : ∀ W, Calls Try.prog 17 #[.agg #[.int .i64 t, .int .i64 lo, .int .i64 hi, .int .i64 st, .int .i64 ra]] W fun e w' => e = .returned (.bool true) ∧ Below W.heap.size W w') :
    Calls Try.prog 4 #[.agg #[.int .i64 t, .int .i64 lo, .int .i64 hi, .int .i64 st, .int .i64 ra], .slice A n c] w fun e w' => e = .returned (.bool true) ∧ Below w.heap.size w w' := by
  have HA := Lib.hid hA
  have HRM := Lib.hid hRM
  clear hA hRM
  go_enter Try.func4, Try.ntmps4
  go_wp2_with (first
    | (go_at_call 6; (with_reducible refine Calls.mono (awake_any _) ?_); rintro e w1 ⟨rfl, hb1⟩; have BV := Lib.hid (belowT (show Below w.heap.size w _ by (repeat (first | with_reducible exact Below.refl _ _ | with_reducible assumption | with_reducible refine Below.alloc ?_ (by first | (simp; done) | (simp; omega) | omega) _ | with_reducible refine Below.setCell ?_ (by first | (simp; done) | (simp; omega) | omega) _ | with_reducible refine Below.drew ?_ | with_reducible refine below_drewN ?_ _))) hb1); have d0 := keep hb1 (b := w.heap.size) (o := 0) (v := .int .i64 t) (by simp [go_sem]); have d1 := keep hb1 (b := w.heap.size) (o := 1) (v := .int .i64 lo) (by simp [go_sem]); have d2 := keep hb1 (b := w.heap.size) (o := 2) (v := .int .i64 hi) (by simp [go_sem]); have d3 := keep hb1 (b := w.heap.size) (o := 3) (v := .int .i64 st) (by simp [go_sem]); have d4 := keep hb1 (b := w.heap.size) (o := 4) (v := .int .i64 ra) (by simp [go_sem]); replace HA := Lib.hid (HA.out.below BV.out); clear hb1)
    | (go_at_call 17; (with_reducible refine Calls.mono (HRM.out _) ?_); rintro e w2 ⟨rfl, hb2⟩; replace d0 := keep hb2 d0; replace d1 := keep hb2 d1; replace d2 := keep hb2 d2; replace d3 := keep hb2 d3; replace d4 := keep hb2 d4; replace HA := Lib.hid (HA.out.below hb2); replace BV := Lib.hid (belowT BV.out hb2); clear hb2)
    | fail)
  go_ret
  exact ⟨rfl, BV.out⟩
set_option maxRecDepth 100000 in
set_option maxHeartbeats 2000000 in
theorem pm_e3 (t lo hi st ra : Int) (A : Option Addr) (n c : Nat) (xs : Nat → Int) (w : World) (hA : IA w A n xs) (q1 : 42 < n) (q2 : n ≤ 9223372036854775807) (hRM : ∀ W, Calls Try.prog 17 #[.agg #[.int .i64 t, .int .i64 lo, .int .i64 hi, .int .i64 st, .int .i64 ra]] W fun e w' => e = .returned (.bool true) ∧ Below W.heap.size W w') :
    Calls Try.prog 4 #[.agg #[.int .i64 t, .int .i64 lo, .int .i64 hi, .int .i64 st, .int .i64 ra], .slice A n c] w fun e w' => e = .returned (.bool true) ∧ Below w.heap.size w w' := by
  have HA := Lib.hid hA
  have HRM := Lib.hid hRM
  clear hA hRM
  go_enter Try.func4, Try.ntmps4
  go_wp2_with (first
    | (go_at_call 6; (with_reducible refine Calls.mono (awake_any _) ?_); rintro e w1 ⟨rfl, hb1⟩; have BV := Lib.hid (belowT (show Below w.heap.size w _ by (repeat (first | with_reducible exact Below.refl _ _ | with_reducible assumption | with_reducible refine Below.alloc ?_ (by first | (simp; done) | (simp; omega) | omega) _ | with_reducible refine Below.setCell ?_ (by first | (simp; done) | (simp; omega) | omega) _ | with_reducible refine Below.drew ?_ | with_reducible refine below_drewN ?_ _))) hb1); have d0 := keep hb1 (b := w.heap.size) (o := 0) (v := .int .i64 t) (by simp [go_sem]); have d1 := keep hb1 (b := w.heap.size) (o := 1) (v := .int .i64 lo) (by simp [go_sem]); have d2 := keep hb1 (b := w.heap.size) (o := 2) (v := .int .i64 hi) (by simp [go_sem]); have d3 := keep hb1 (b := w.heap.size) (o := 3) (v := .int .i64 st) (by simp [go_sem]); have d4 := keep hb1 (b := w.heap.size) (o := 4) (v := .int .i64 ra) (by simp [go_sem]); replace HA := Lib.hid (HA.out.below BV.out); clear hb1)
    | (go_at_call 17; (with_reducible refine Calls.mono (HRM.out _) ?_); rintro e w2 ⟨rfl, hb2⟩; replace d0 := keep hb2 d0; replace d1 := keep hb2 d1; replace d2 := keep hb2 d2; replace d3 := keep hb2 d3; replace d4 := keep hb2 d4; replace HA := Lib.hid (HA.out.below hb2); replace BV := Lib.hid (belowT BV.out hb2); clear hb2)
    | fail)
  go_ret
  exact ⟨rfl, BV.out⟩
set_option maxRecDepth 100000 in
set_option maxHeartbeats 4000000 in
theorem pm_d1 (t lo hi st ra : Int) (A : Option Addr) (n c : Nat) (xs : Nat → Int) (w : World) (hA : IA w A n xs) {D : Int} {ys : Nat → Int} (hn : n ≤ 12) (hRM : ∀ W, Calls Try.prog 17 #[.agg #[.int .i64 t, .int .i64 lo, .int .i64 hi, .int .i64 st, .int .i64 ra]] W fun e w' => e = .returned (.bool true) ∧ Below W.heap.size W w') (hCD : ∀ W, Calls Try.prog 18 #[.agg #[.int .i64 t, .int .i64 lo, .int .i64 hi, .int .i64 st, .int .i64 ra]] W fun e w' => e = .returned (.int .i64 D) ∧ Below W.heap.size W w') (hCI : ∀ W, IA W A n xs → Calls Try.prog 20 #[.slice A n c] W fun e w' => ∃ A' c', e = .returned (.slice A' n c') ∧ IA w' A' n xs ∧ Below W.heap.size W w') (hPT : ∀ W A' c', IA W A' n xs → Calls Try.prog 19 #[.agg #[.int .i64 t, .int .i64 lo, .int .i64 hi, .int .i64 st, .int .i64 ra], .slice A' n c'] W fun e w' => ∃ A2 c2, e = .returned (.tuple #[.slice A2 0 c2, .int .i64 0, .int .i64 D]) ∧ IA w' A2 0 ys ∧ Below W.heap.size W w') (hMR : ∀ W A' c', IA W A' n xs → Calls Try.prog 21 #[.agg #[.int .i64 t, .int .i64 lo, .int .i64 hi, .int .i64 st, .int .i64 ra], .slice A' n c'] W fun e w' => e = .returned (.tuple #[.int .i64 0, .int .i64 D]) ∧ Below W.heap.size W w') (hDE : ∀ W, Calls Try.prog 22 #[.agg #[.int .i64 t, .int .i64 lo, .int .i64 hi, .int .i64 st, .int .i64 ra]] W fun e w' => e = .returned (.int .i64 D) ∧ Below W.heap.size W w') (hD : D ≠ 0) :
    Calls Try.prog 4 #[.agg #[.int .i64 t, .int .i64 lo, .int .i64 hi, .int .i64 st, .int .i64 ra], .slice A n c] w fun e w' => e = .returned (.bool true) ∧ Below w.heap.size w w' := by
  have g0 : (D == 0) = false := by simp [hD]
  have g1 : (D != 0) = true := by simp [hD]
  clear hD
  have HA := Lib.hid hA
  have HRM := Lib.hid hRM
  have HCD := Lib.hid hCD
  have HCI := Lib.hid hCI
  have HPT := Lib.hid hPT
  have HMR := Lib.hid hMR
  have HDE := Lib.hid hDE
  clear hA hRM hCD hCI hPT hMR hDE
  go_enter Try.func4, Try.ntmps4
  go_upto_region 6 with (first
    | (go_at_call 6; (with_reducible refine Calls.mono (awake_any _) ?_); rintro e w1 ⟨rfl, hb1⟩; have BV := Lib.hid (belowT (show Below w.heap.size w _ by (repeat (first | with_reducible exact Below.refl _ _ | with_reducible assumption | with_reducible refine Below.alloc ?_ (by first | (simp; done) | (simp; omega) | omega) _ | with_reducible refine Below.setCell ?_ (by first | (simp; done) | (simp; omega) | omega) _ | with_reducible refine Below.drew ?_ | with_reducible refine below_drewN ?_ _))) hb1); have d0 := keep hb1 (b := w.heap.size) (o := 0) (v := .int .i64 t) (by simp [go_sem]); have d1 := keep hb1 (b := w.heap.size) (o := 1) (v := .int .i64 lo) (by simp [go_sem]); have d2 := keep hb1 (b := w.heap.size) (o := 2) (v := .int .i64 hi) (by simp [go_sem]); have d3 := keep hb1 (b := w.heap.size) (o := 3) (v := .int .i64 st) (by simp [go_sem]); have d4 := keep hb1 (b := w.heap.size) (o := 4) (v := .int .i64 ra) (by simp [go_sem]); replace HA := Lib.hid (HA.out.below BV.out); clear hb1)
    | (go_at_call 17; (with_reducible refine Calls.mono (HRM.out _) ?_); rintro e w2 ⟨rfl, hb2⟩; replace d0 := keep hb2 d0; replace d1 := keep hb2 d1; replace d2 := keep hb2 d2; replace d3 := keep hb2 d3; replace d4 := keep hb2 d4; replace HA := Lib.hid (HA.out.below hb2); replace BV := Lib.hid (belowT BV.out hb2); clear hb2)
    | (go_at_call 18; (with_reducible refine Calls.mono (HCD.out _) ?_); rintro e w3 ⟨rfl, hb3⟩; replace d0 := keep hb3 d0; replace d1 := keep hb3 d1; replace d2 := keep hb3 d2; replace d3 := keep hb3 d3; replace d4 := keep hb3 d4; replace HA := Lib.hid (HA.out.below hb3); replace BV := Lib.hid (belowT BV.out hb3); clear hb3)
    | fail)
  refine wp_region_mp [mpEq (.agg #[.int .i64 t, .int .i64 lo, .int .i64 hi, .int .i64 st, .int .i64 ra]), mpEq (.slice A n c), mpIA n xs, mpTu 0 ys 0 D, mpTu 0 ys 0 D, mpIA 0 ys, mpEq (.int .i64 0), mpEq (.int .i64 D), mpIA 0 ys, mpEq (.int .i64 0), mpEq (.int .i64 D)] mq0 (by kernel_rfl) (by kernel_rfl) (by kernel_rfl) (
      allOps_cons (fun a' w' hb hs hd => rg_op fun K hK => by
    have e1 := (hs.get 2 (by kernel_rfl)).trans (show _ = Value.pointer (some ⟨w.heap.size, 0, none⟩) from rfl)
    have c0 := keep hb d0
    have c1 := keep hb d1
    have c2 := keep hb d2
    have c3 := keep hb d3
    have c4 := keep hb d4
    clear hs hd
    unfold Oper.wp
    generalize a'.eval = ρ at e1 ⊢
    simp [go_sem, e1, c0, c1, c2, c3, c4]
    exact hK _ _ (Below.refl _ _) rfl) <|
      allOps_cons (fun a' w' hb hs hd => rg_op fun K hK => by
    have e1 := (hs.get 1 (by kernel_rfl)).trans (show _ = .slice A n c from rfl)
    clear hs hd
    unfold Oper.wp
    generalize a'.eval = ρ at e1 ⊢
    simp [go_sem, e1]
    exact hK _ _ (Below.refl _ _) rfl) <|
      allOps_cons (fun a' w' hb hs hd => by
    exact rg_fn (φ := (mpIA n xs).p) (vs := #[.slice A n c]) rfl (enters_of Try.func20 (by kernel_rfl) rfl) (by simp [(show a'.eval (.tmp 41) = .slice A n c from hd.get 1 41 (by kernel_rfl) (by kernel_rfl))]) ((HCI.out w' (HA.out.below hb)).mono (by rintro e w1 ⟨A1, c1, rfl, h1, h2⟩; exact ⟨_, rfl, h2, A1, c1, rfl, h1⟩))) <|
      allOps_cons (fun a' w' hb hs hd => by
    exact rg_fn (φ := (mpTu 0 ys 0 D).p) (vs := #[.agg #[.int .i64 t, .int .i64 lo, .int .i64 hi, .int .i64 st, .int .i64 ra], a'.eval (.tmp 42)]) rfl (enters_of Try.func19 (by kernel_rfl) rfl) (by simp [(show a'.eval (.tmp 40) = .agg #[.int .i64 t, .int .i64 lo, .int .i64 hi, .int .i64 st, .int .i64 ra] from hd.get 0 40 (by kernel_rfl) (by kernel_rfl))]) (by obtain ⟨A1, c1, hv, h1⟩ := (show (mpIA n xs).p (a'.eval (.tmp 42)) w' from hd.get 2 42 (by kernel_rfl) (by kernel_rfl)); rw [hv]; exact (HPT.out w' A1 c1 h1).mono (by rintro e w1 ⟨A2, c2, rfl, h2, h3⟩; exact ⟨_, rfl, h3, A2, c2, rfl, h2⟩))) <|
      allOps_cons (fun a' w' hb hs hd => rg_op fun K hK => by
    have e1 := (show (mpTu 0 ys 0 D).p (a'.eval (.tmp 43)) w' from hd.get 3 43 (by kernel_rfl) (by kernel_rfl))
    clear hs hd
    unfold Oper.wp
    generalize a'.eval = ρ at e1 ⊢
    obtain ⟨A, c, e2, e3⟩ := e1
    simp [go_sem, e2]
    exact hK _ _ (Below.refl _ _) ⟨A, c, rfl, e3⟩) <|
      allOps_cons (fun a' w' hb hs hd => rg_op fun K hK => by
    have e1 := (show (mpTu 0 ys 0 D).p (a'.eval (.tmp 39)) w' from hd.get 4 39 (by kernel_rfl) (by kernel_rfl))
    clear hs hd
    unfold Oper.wp
    generalize a'.eval = ρ at e1 ⊢
    obtain ⟨A, c, e2, e3⟩ := e1
    simp [go_sem, e2]
    exact hK _ _ (Below.refl _ _) ⟨A, c, rfl, e3⟩) <|
      allOps_cons (fun a' w' hb hs hd => rg_op fun K hK => by
    have e1 := (show (mpTu 0 ys 0 D).p (a'.eval (.tmp 39)) w' from hd.get 4 39 (by kernel_rfl) (by kernel_rfl))
    clear hs hd
    unfold Oper.wp
    generalize a'.eval = ρ at e1 ⊢
    obtain ⟨A, c, e2, e3⟩ := e1
    simp [go_sem, e2]
    exact hK _ _ (Below.refl _ _) rfl) <|
      allOps_cons (fun a' w' hb hs hd => rg_op fun K hK => by
    have e1 := (show (mpTu 0 ys 0 D).p (a'.eval (.tmp 39)) w' from hd.get 4 39 (by kernel_rfl) (by kernel_rfl))
    clear hs hd
    unfold Oper.wp
    generalize a'.eval = ρ at e1 ⊢
    obtain ⟨A, c, e2, e3⟩ := e1
    simp [go_sem, e2]
    exact hK _ _ (Below.refl _ _) rfl) <|
      allOps_cons (fun a' w' hb hs hd => rg_op fun K hK => by
    have e1 := (show (mpIA 0 ys).p (a'.eval (.tmp 44)) w' from hd.get 5 44 (by kernel_rfl) (by kernel_rfl))
    clear hs hd
    unfold Oper.wp
    generalize a'.eval = ρ at e1 ⊢
    obtain ⟨A, c, e2, e3⟩ := e1
    simp [go_sem, e2]
    exact hK _ _ (Below.refl _ _) ⟨A, c, rfl, e3⟩) <|
      allOps_cons (fun a' w' hb hs hd => rg_op fun K hK => by
    have e1 := (show a'.eval (.tmp 45) = .int .i64 0 from hd.get 6 45 (by kernel_rfl) (by kernel_rfl))
    clear hs hd
    unfold Oper.wp
    generalize a'.eval = ρ at e1 ⊢
    simp [go_sem, e1]
    exact hK _ _ (Below.refl _ _) rfl) <|
      allOps_cons (fun a' w' hb hs hd => rg_op fun K hK => by
    have e1 := (show a'.eval (.tmp 46) = .int .i64 D from hd.get 7 46 (by kernel_rfl) (by kernel_rfl))
    clear hs hd
    unfold Oper.wp
    generalize a'.eval = ρ at e1 ⊢
    simp [go_sem, e1]
    exact hK _ _ (Below.refl _ _) rfl) <| allOps_nil) (fun Q w4 hb4 hall => ?_)
  obtain ⟨Am, cm, h6, him⟩ := (show (mpIA 0 ys).p (Q 6) w4 from hall.get 8 rfl)
  have h7 : Q 7 = .int .i64 0 := hall.get 9 rfl
  have h8 : Q 8 = .int .i64 D := hall.get 10 rfl
  have HM := Lib.hid him
  clear hall him
  simp only [mq0, maskPut, Nat.reduceAdd]
  rw [h6, h7, h8]
  clear h6 h7 h8
  replace d0 := keep hb4 d0
  replace d1 := keep hb4 d1
  replace d2 := keep hb4 d2
  replace d3 := keep hb4 d3
  replace d4 := keep hb4 d4
  replace HA := Lib.hid (HA.out.below hb4)
  replace BV := Lib.hid (belowT BV.out hb4)
  clear hb4
  go_wp2_with fail
  refine wp_region_mp [mpEq (.agg #[.int .i64 t, .int .i64 lo, .int .i64 hi, .int .i64 st, .int .i64 ra]), mpEq (.slice A n c), mpIA n xs, mpEq (.tuple #[.int .i64 0, .int .i64 D]), mpEq (.tuple #[.int .i64 0, .int .i64 D]), mpEq (.int .i64 0), mpEq (.int .i64 D), mpEq (.int .i64 0), mpEq (.int .i64 D)] mq1 (by kernel_rfl) (by kernel_rfl) (by kernel_rfl) (
      allOps_cons (fun a' w' hb hs hd => rg_op fun K hK => by
    have e1 := (hs.get 2 (by kernel_rfl)).trans (show _ = Value.pointer (some ⟨w.heap.size, 0, none⟩) from rfl)
    have c0 := keep hb d0
    have c1 := keep hb d1
    have c2 := keep hb d2
    have c3 := keep hb d3
    have c4 := keep hb d4
    clear hs hd
    unfold Oper.wp
    generalize a'.eval = ρ at e1 ⊢
    simp [go_sem, e1, c0, c1, c2, c3, c4]
    exact hK _ _ (Below.refl _ _) rfl) <|
      allOps_cons (fun a' w' hb hs hd => rg_op fun K hK => by
    have e1 := (hs.get 1 (by kernel_rfl)).trans (show _ = .slice A n c from rfl)
    clear hs hd
    unfold Oper.wp
    generalize a'.eval = ρ at e1 ⊢
    simp [go_sem, e1]
    exact hK _ _ (Below.refl _ _) rfl) <|
      allOps_cons (fun a' w' hb hs hd => by
    exact rg_fn (φ := (mpIA n xs).p) (vs := #[.slice A n c]) rfl (enters_of Try.func20 (by kernel_rfl) rfl) (by simp [(show a'.eval (.tmp 49) = .slice A n c from hd.get 1 49 (by kernel_rfl) (by kernel_rfl))]) ((HCI.out w' (HA.out.below hb)).mono (by rintro e w1 ⟨A1, c1, rfl, h1, h2⟩; exact ⟨_, rfl, h2, A1, c1, rfl, h1⟩))) <|
      allOps_cons (fun a' w' hb hs hd => by
    exact rg_fn (φ := (mpEq (.tuple #[.int .i64 0, .int .i64 D])).p) (vs := #[.agg #[.int .i64 t, .int .i64 lo, .int .i64 hi, .int .i64 st, .int .i64 ra], a'.eval (.tmp 50)]) rfl (enters_of Try.func21 (by kernel_rfl) rfl) (by simp [(show a'.eval (.tmp 48) = .agg #[.int .i64 t, .int .i64 lo, .int .i64 hi, .int .i64 st, .int .i64 ra] from hd.get 0 48 (by kernel_rfl) (by kernel_rfl))]) (by obtain ⟨A1, c1, hv, h1⟩ := (show (mpIA n xs).p (a'.eval (.tmp 50)) w' from hd.get 2 50 (by kernel_rfl) (by kernel_rfl)); rw [hv]; exact (HMR.out w' A1 c1 h1).mono (by rintro e w1 ⟨rfl, h1⟩; exact ⟨_, rfl, h1, rfl⟩))) <|
      allOps_cons (fun a' w' hb hs hd => rg_op fun K hK => by
    have e1 := (show a'.eval (.tmp 51) = .tuple #[.int .i64 0, .int .i64 D] from hd.get 3 51 (by kernel_rfl) (by kernel_rfl))
    clear hs hd
    unfold Oper.wp
    generalize a'.eval = ρ at e1 ⊢
    simp [go_sem, e1]
    exact hK _ _ (Below.refl _ _) rfl) <|
      allOps_cons (fun a' w' hb hs hd => rg_op fun K hK => by
    have e1 := (show a'.eval (.tmp 47) = .tuple #[.int .i64 0, .int .i64 D] from hd.get 4 47 (by kernel_rfl) (by kernel_rfl))
    clear hs hd
    unfold Oper.wp
    generalize a'.eval = ρ at e1 ⊢
    simp [go_sem, e1]
    exact hK _ _ (Below.refl _ _) rfl) <|
      allOps_cons (fun a' w' hb hs hd => rg_op fun K hK => by
    have e1 := (show a'.eval (.tmp 47) = .tuple #[.int .i64 0, .int .i64 D] from hd.get 4 47 (by kernel_rfl) (by kernel_rfl))
    clear hs hd
    unfold Oper.wp
    generalize a'.eval = ρ at e1 ⊢
    simp [go_sem, e1]
    exact hK _ _ (Below.refl _ _) rfl) <|
      allOps_cons (fun a' w' hb hs hd => rg_op fun K hK => by
    have e1 := (show a'.eval (.tmp 52) = .int .i64 0 from hd.get 5 52 (by kernel_rfl) (by kernel_rfl))
    clear hs hd
    unfold Oper.wp
    generalize a'.eval = ρ at e1 ⊢
    simp [go_sem, e1]
    exact hK _ _ (Below.refl _ _) rfl) <|
      allOps_cons (fun a' w' hb hs hd => rg_op fun K hK => by
    have e1 := (show a'.eval (.tmp 53) = .int .i64 D from hd.get 6 53 (by kernel_rfl) (by kernel_rfl))
    clear hs hd
    unfold Oper.wp
    generalize a'.eval = ρ at e1 ⊢
    simp [go_sem, e1]
    exact hK _ _ (Below.refl _ _) rfl) <| allOps_nil) (fun Q2 w5 hb5 hall => ?_)
  have h9 : Q2 9 = .int .i64 0 := hall.get 7 rfl
  have h10 : Q2 10 = .int .i64 D := hall.get 8 rfl
  clear hall
  simp only [mq1, maskPut, Nat.reduceAdd]
  rw [h9, h10]
  clear h9 h10
  replace d0 := keep hb5 d0
  replace d1 := keep hb5 d1
  replace d2 := keep hb5 d2
  replace d3 := keep hb5 d3
  replace d4 := keep hb5 d4
  replace HA := Lib.hid (HA.out.below hb5)
  replace HM := Lib.hid (HM.out.below hb5)
  replace BV := Lib.hid (belowT BV.out hb5)
  clear hb5
  go_wp2_with (first
    | (go_at_call 22; (with_reducible refine Calls.mono (HDE.out _) ?_); rintro e w6 ⟨rfl, hb6⟩; replace d0 := keep hb6 d0; replace d1 := keep hb6 d1; replace d2 := keep hb6 d2; replace d3 := keep hb6 d3; replace d4 := keep hb6 d4; replace HA := Lib.hid (HA.out.below hb6); replace HM := Lib.hid (HM.out.below hb6); replace BV := Lib.hid (belowT BV.out hb6); clear hb6)
    | fail)
  go_ret
  exact ⟨ret_bool (by simp), BV.out⟩
set_option maxRecDepth 100000 in
set_option maxHeartbeats 4000000 in
theorem pm_t1 (t lo hi st ra : Int) (A : Option Addr) (n c : Nat) (xs : Nat → Int) (w : World) (hA : IA w A n xs) {D : Int} {ys : Nat → Int} (hn : n ≤ 12) (hRM : ∀ W, Calls Try.prog 17 #[.agg #[.int .i64 t, .int .i64 lo, .int .i64 hi, .int .i64 st, .int .i64 ra]] W fun e w' => e = .returned (.bool true) ∧ Below W.heap.size W w') (hCD : ∀ W, Calls Try.prog 18 #[.agg #[.int .i64 t, .int .i64 lo, .int .i64 hi, .int .i64 st, .int .i64 ra]] W fun e w' => e = .returned (.int .i64 0) ∧ Below W.heap.size W w') (hCI : ∀ W, IA W A n xs → Calls Try.prog 20 #[.slice A n c] W fun e w' => ∃ A' c', e = .returned (.slice A' n c') ∧ IA w' A' n xs ∧ Below W.heap.size W w') (hPT : ∀ W A' c', IA W A' n xs → Calls Try.prog 19 #[.agg #[.int .i64 t, .int .i64 lo, .int .i64 hi, .int .i64 st, .int .i64 ra], .slice A' n c'] W fun e w' => ∃ A2 c2, e = .returned (.tuple #[.slice A2 0 c2, .int .i64 0, .int .i64 D]) ∧ IA w' A2 0 ys ∧ Below W.heap.size W w') (hMR : ∀ W A' c', IA W A' n xs → Calls Try.prog 21 #[.agg #[.int .i64 t, .int .i64 lo, .int .i64 hi, .int .i64 st, .int .i64 ra], .slice A' n c'] W fun e w' => e = .returned (.tuple #[.int .i64 0, .int .i64 D]) ∧ Below W.heap.size W w') (hDE : ∀ W, Calls Try.prog 22 #[.agg #[.int .i64 t, .int .i64 lo, .int .i64 hi, .int .i64 st, .int .i64 ra]] W fun e w' => e = .returned (.int .i64 0) ∧ Below W.heap.size W w') (hTE : ∀ W, IA W A n xs → Calls Try.prog 23 #[.agg #[.int .i64 t, .int .i64 lo, .int .i64 hi, .int .i64 st, .int .i64 ra], .slice A n c] W fun e w' => e = .returned (.int .i64 D) ∧ Below W.heap.size W w') (hD : D ≠ 0) :
    Calls Try.prog 4 #[.agg #[.int .i64 t, .int .i64 lo, .int .i64 hi, .int .i64 st, .int .i64 ra], .slice A n c] w fun e w' => e = .returned (.bool true) ∧ Below w.heap.size w w' := by
  have g0 : (D == 0) = false := by simp [hD]
  have g1 : (D != 0) = true := by simp [hD]
  clear hD
  have HA := Lib.hid hA
  have HRM := Lib.hid hRM
  have HCD := Lib.hid hCD
  have HCI := Lib.hid hCI
  have HPT := Lib.hid hPT
  have HMR := Lib.hid hMR
  have HDE := Lib.hid hDE
  have HTE := Lib.hid hTE
  clear hA hRM hCD hCI hPT hMR hDE hTE
  go_enter Try.func4, Try.ntmps4
  go_upto_region 6 with (first
    | (go_at_call 6; (with_reducible refine Calls.mono (awake_any _) ?_); rintro e w1 ⟨rfl, hb1⟩; have BV := Lib.hid (belowT (show Below w.heap.size w _ by (repeat (first | with_reducible exact Below.refl _ _ | with_reducible assumption | with_reducible refine Below.alloc ?_ (by first | (simp; done) | (simp; omega) | omega) _ | with_reducible refine Below.setCell ?_ (by first | (simp; done) | (simp; omega) | omega) _ | with_reducible refine Below.drew ?_ | with_reducible refine below_drewN ?_ _))) hb1); have d0 := keep hb1 (b := w.heap.size) (o := 0) (v := .int .i64 t) (by simp [go_sem]); have d1 := keep hb1 (b := w.heap.size) (o := 1) (v := .int .i64 lo) (by simp [go_sem]); have d2 := keep hb1 (b := w.heap.size) (o := 2) (v := .int .i64 hi) (by simp [go_sem]); have d3 := keep hb1 (b := w.heap.size) (o := 3) (v := .int .i64 st) (by simp [go_sem]); have d4 := keep hb1 (b := w.heap.size) (o := 4) (v := .int .i64 ra) (by simp [go_sem]); replace HA := Lib.hid (HA.out.below BV.out); clear hb1)
    | (go_at_call 17; (with_reducible refine Calls.mono (HRM.out _) ?_); rintro e w2 ⟨rfl, hb2⟩; replace d0 := keep hb2 d0; replace d1 := keep hb2 d1; replace d2 := keep hb2 d2; replace d3 := keep hb2 d3; replace d4 := keep hb2 d4; replace HA := Lib.hid (HA.out.below hb2); replace BV := Lib.hid (belowT BV.out hb2); clear hb2)
    | (go_at_call 18; (with_reducible refine Calls.mono (HCD.out _) ?_); rintro e w3 ⟨rfl, hb3⟩; replace d0 := keep hb3 d0; replace d1 := keep hb3 d1; replace d2 := keep hb3 d2; replace d3 := keep hb3 d3; replace d4 := keep hb3 d4; replace HA := Lib.hid (HA.out.below hb3); replace BV := Lib.hid (belowT BV.out hb3); clear hb3)
    | fail)
  refine wp_region_mp [mpEq (.agg #[.int .i64 t, .int .i64 lo, .int .i64 hi, .int .i64 st, .int .i64 ra]), mpEq (.slice A n c), mpIA n xs, mpTu 0 ys 0 D, mpTu 0 ys 0 D, mpIA 0 ys, mpEq (.int .i64 0), mpEq (.int .i64 D), mpIA 0 ys, mpEq (.int .i64 0), mpEq (.int .i64 D)] mq0 (by kernel_rfl) (by kernel_rfl) (by kernel_rfl) (
      allOps_cons (fun a' w' hb hs hd => rg_op fun K hK => by
    have e1 := (hs.get 2 (by kernel_rfl)).trans (show _ = Value.pointer (some ⟨w.heap.size, 0, none⟩) from rfl)
    have c0 := keep hb d0
    have c1 := keep hb d1
    have c2 := keep hb d2
    have c3 := keep hb d3
    have c4 := keep hb d4
    clear hs hd
    unfold Oper.wp
    generalize a'.eval = ρ at e1 ⊢
    simp [go_sem, e1, c0, c1, c2, c3, c4]
    exact hK _ _ (Below.refl _ _) rfl) <|
      allOps_cons (fun a' w' hb hs hd => rg_op fun K hK => by
    have e1 := (hs.get 1 (by kernel_rfl)).trans (show _ = .slice A n c from rfl)
    clear hs hd
    unfold Oper.wp
    generalize a'.eval = ρ at e1 ⊢
    simp [go_sem, e1]
    exact hK _ _ (Below.refl _ _) rfl) <|
      allOps_cons (fun a' w' hb hs hd => by
    exact rg_fn (φ := (mpIA n xs).p) (vs := #[.slice A n c]) rfl (enters_of Try.func20 (by kernel_rfl) rfl) (by simp [(show a'.eval (.tmp 41) = .slice A n c from hd.get 1 41 (by kernel_rfl) (by kernel_rfl))]) ((HCI.out w' (HA.out.below hb)).mono (by rintro e w1 ⟨A1, c1, rfl, h1, h2⟩; exact ⟨_, rfl, h2, A1, c1, rfl, h1⟩))) <|
      allOps_cons (fun a' w' hb hs hd => by
    exact rg_fn (φ := (mpTu 0 ys 0 D).p) (vs := #[.agg #[.int .i64 t, .int .i64 lo, .int .i64 hi, .int .i64 st, .int .i64 ra], a'.eval (.tmp 42)]) rfl (enters_of Try.func19 (by kernel_rfl) rfl) (by simp [(show a'.eval (.tmp 40) = .agg #[.int .i64 t, .int .i64 lo, .int .i64 hi, .int .i64 st, .int .i64 ra] from hd.get 0 40 (by kernel_rfl) (by kernel_rfl))]) (by obtain ⟨A1, c1, hv, h1⟩ := (show (mpIA n xs).p (a'.eval (.tmp 42)) w' from hd.get 2 42 (by kernel_rfl) (by kernel_rfl)); rw [hv]; exact (HPT.out w' A1 c1 h1).mono (by rintro e w1 ⟨A2, c2, rfl, h2, h3⟩; exact ⟨_, rfl, h3, A2, c2, rfl, h2⟩))) <|
      allOps_cons (fun a' w' hb hs hd => rg_op fun K hK => by
    have e1 := (show (mpTu 0 ys 0 D).p (a'.eval (.tmp 43)) w' from hd.get 3 43 (by kernel_rfl) (by kernel_rfl))
    clear hs hd
    unfold Oper.wp
    generalize a'.eval = ρ at e1 ⊢
    obtain ⟨A, c, e2, e3⟩ := e1
    simp [go_sem, e2]
    exact hK _ _ (Below.refl _ _) ⟨A, c, rfl, e3⟩) <|
      allOps_cons (fun a' w' hb hs hd => rg_op fun K hK => by
    have e1 := (show (mpTu 0 ys 0 D).p (a'.eval (.tmp 39)) w' from hd.get 4 39 (by kernel_rfl) (by kernel_rfl))
    clear hs hd
    unfold Oper.wp
    generalize a'.eval = ρ at e1 ⊢
    obtain ⟨A, c, e2, e3⟩ := e1
    simp [go_sem, e2]
    exact hK _ _ (Below.refl _ _) ⟨A, c, rfl, e3⟩) <|
      allOps_cons (fun a' w' hb hs hd => rg_op fun K hK => by
    have e1 := (show (mpTu 0 ys 0 D).p (a'.eval (.tmp 39)) w' from hd.get 4 39 (by kernel_rfl) (by kernel_rfl))
    clear hs hd
    unfold Oper.wp
    generalize a'.eval = ρ at e1 ⊢
    obtain ⟨A, c, e2, e3⟩ := e1
    simp [go_sem, e2]
    exact hK _ _ (Below.refl _ _) rfl) <|
      allOps_cons (fun a' w' hb hs hd => rg_op fun K hK => by
    have e1 := (show (mpTu 0 ys 0 D).p (a'.eval (.tmp 39)) w' from hd.get 4 39 (by kernel_rfl) (by kernel_rfl))
    clear hs hd
    unfold Oper.wp
    generalize a'.eval = ρ at e1 ⊢
    obtain ⟨A, c, e2, e3⟩ := e1
    simp [go_sem, e2]
    exact hK _ _ (Below.refl _ _) rfl) <|
      allOps_cons (fun a' w' hb hs hd => rg_op fun K hK => by
    have e1 := (show (mpIA 0 ys).p (a'.eval (.tmp 44)) w' from hd.get 5 44 (by kernel_rfl) (by kernel_rfl))
    clear hs hd
    unfold Oper.wp
    generalize a'.eval = ρ at e1 ⊢
    obtain ⟨A, c, e2, e3⟩ := e1
    simp [go_sem, e2]
    exact hK _ _ (Below.refl _ _) ⟨A, c, rfl, e3⟩) <|
      allOps_cons (fun a' w' hb hs hd => rg_op fun K hK => by
    have e1 := (show a'.eval (.tmp 45) = .int .i64 0 from hd.get 6 45 (by kernel_rfl) (by kernel_rfl))
    clear hs hd
    unfold Oper.wp
    generalize a'.eval = ρ at e1 ⊢
    simp [go_sem, e1]
    exact hK _ _ (Below.refl _ _) rfl) <|
      allOps_cons (fun a' w' hb hs hd => rg_op fun K hK => by
    have e1 := (show a'.eval (.tmp 46) = .int .i64 D from hd.get 7 46 (by kernel_rfl) (by kernel_rfl))
    clear hs hd
    unfold Oper.wp
    generalize a'.eval = ρ at e1 ⊢
    simp [go_sem, e1]
    exact hK _ _ (Below.refl _ _) rfl) <| allOps_nil) (fun Q w4 hb4 hall => ?_)
  obtain ⟨Am, cm, h6, him⟩ := (show (mpIA 0 ys).p (Q 6) w4 from hall.get 8 rfl)
  have h7 : Q 7 = .int .i64 0 := hall.get 9 rfl
  have h8 : Q 8 = .int .i64 D := hall.get 10 rfl
  have HM := Lib.hid him
  clear hall him
  simp only [mq0, maskPut, Nat.reduceAdd]
  rw [h6, h7, h8]
  clear h6 h7 h8
  replace d0 := keep hb4 d0
  replace d1 := keep hb4 d1
  replace d2 := keep hb4 d2
  replace d3 := keep hb4 d3
  replace d4 := keep hb4 d4
  replace HA := Lib.hid (HA.out.below hb4)
  replace BV := Lib.hid (belowT BV.out hb4)
  clear hb4
  go_wp2_with fail
  refine wp_region_mp [mpEq (.agg #[.int .i64 t, .int .i64 lo, .int .i64 hi, .int .i64 st, .int .i64 ra]), mpEq (.slice A n c), mpIA n xs, mpEq (.tuple #[.int .i64 0, .int .i64 D]), mpEq (.tuple #[.int .i64 0, .int .i64 D]), mpEq (.int .i64 0), mpEq (.int .i64 D), mpEq (.int .i64 0), mpEq (.int .i64 D)] mq1 (by kernel_rfl) (by kernel_rfl) (by kernel_rfl) (
      allOps_cons (fun a' w' hb hs hd => rg_op fun K hK => by
    have e1 := (hs.get 2 (by kernel_rfl)).trans (show _ = Value.pointer (some ⟨w.heap.size, 0, none⟩) from rfl)
    have c0 := keep hb d0
    have c1 := keep hb d1
    have c2 := keep hb d2
    have c3 := keep hb d3
    have c4 := keep hb d4
    clear hs hd
    unfold Oper.wp
    generalize a'.eval = ρ at e1 ⊢
    simp [go_sem, e1, c0, c1, c2, c3, c4]
    exact hK _ _ (Below.refl _ _) rfl) <|
      allOps_cons (fun a' w' hb hs hd => rg_op fun K hK => by
    have e1 := (hs.get 1 (by kernel_rfl)).trans (show _ = .slice A n c from rfl)
    clear hs hd
    unfold Oper.wp
    generalize a'.eval = ρ at e1 ⊢
    simp [go_sem, e1]
    exact hK _ _ (Below.refl _ _) rfl) <|
      allOps_cons (fun a' w' hb hs hd => by
    exact rg_fn (φ := (mpIA n xs).p) (vs := #[.slice A n c]) rfl (enters_of Try.func20 (by kernel_rfl) rfl) (by simp [(show a'.eval (.tmp 49) = .slice A n c from hd.get 1 49 (by kernel_rfl) (by kernel_rfl))]) ((HCI.out w' (HA.out.below hb)).mono (by rintro e w1 ⟨A1, c1, rfl, h1, h2⟩; exact ⟨_, rfl, h2, A1, c1, rfl, h1⟩))) <|
      allOps_cons (fun a' w' hb hs hd => by
    exact rg_fn (φ := (mpEq (.tuple #[.int .i64 0, .int .i64 D])).p) (vs := #[.agg #[.int .i64 t, .int .i64 lo, .int .i64 hi, .int .i64 st, .int .i64 ra], a'.eval (.tmp 50)]) rfl (enters_of Try.func21 (by kernel_rfl) rfl) (by simp [(show a'.eval (.tmp 48) = .agg #[.int .i64 t, .int .i64 lo, .int .i64 hi, .int .i64 st, .int .i64 ra] from hd.get 0 48 (by kernel_rfl) (by kernel_rfl))]) (by obtain ⟨A1, c1, hv, h1⟩ := (show (mpIA n xs).p (a'.eval (.tmp 50)) w' from hd.get 2 50 (by kernel_rfl) (by kernel_rfl)); rw [hv]; exact (HMR.out w' A1 c1 h1).mono (by rintro e w1 ⟨rfl, h1⟩; exact ⟨_, rfl, h1, rfl⟩))) <|
      allOps_cons (fun a' w' hb hs hd => rg_op fun K hK => by
    have e1 := (show a'.eval (.tmp 51) = .tuple #[.int .i64 0, .int .i64 D] from hd.get 3 51 (by kernel_rfl) (by kernel_rfl))
    clear hs hd
    unfold Oper.wp
    generalize a'.eval = ρ at e1 ⊢
    simp [go_sem, e1]
    exact hK _ _ (Below.refl _ _) rfl) <|
      allOps_cons (fun a' w' hb hs hd => rg_op fun K hK => by
    have e1 := (show a'.eval (.tmp 47) = .tuple #[.int .i64 0, .int .i64 D] from hd.get 4 47 (by kernel_rfl) (by kernel_rfl))
    clear hs hd
    unfold Oper.wp
    generalize a'.eval = ρ at e1 ⊢
    simp [go_sem, e1]
    exact hK _ _ (Below.refl _ _) rfl) <|
      allOps_cons (fun a' w' hb hs hd => rg_op fun K hK => by
    have e1 := (show a'.eval (.tmp 47) = .tuple #[.int .i64 0, .int .i64 D] from hd.get 4 47 (by kernel_rfl) (by kernel_rfl))
    clear hs hd
    unfold Oper.wp
    generalize a'.eval = ρ at e1 ⊢
    simp [go_sem, e1]
    exact hK _ _ (Below.refl _ _) rfl) <|
      allOps_cons (fun a' w' hb hs hd => rg_op fun K hK => by
    have e1 := (show a'.eval (.tmp 52) = .int .i64 0 from hd.get 5 52 (by kernel_rfl) (by kernel_rfl))
    clear hs hd
    unfold Oper.wp
    generalize a'.eval = ρ at e1 ⊢
    simp [go_sem, e1]
    exact hK _ _ (Below.refl _ _) rfl) <|
      allOps_cons (fun a' w' hb hs hd => rg_op fun K hK => by
    have e1 := (show a'.eval (.tmp 53) = .int .i64 D from hd.get 6 53 (by kernel_rfl) (by kernel_rfl))
    clear hs hd
    unfold Oper.wp
    generalize a'.eval = ρ at e1 ⊢
    simp [go_sem, e1]
    exact hK _ _ (Below.refl _ _) rfl) <| allOps_nil) (fun Q2 w5 hb5 hall => ?_)
  have h9 : Q2 9 = .int .i64 0 := hall.get 7 rfl
  have h10 : Q2 10 = .int .i64 D := hall.get 8 rfl
  clear hall
  simp only [mq1, maskPut, Nat.reduceAdd]
  rw [h9, h10]
  clear h9 h10
  replace d0 := keep hb5 d0
  replace d1 := keep hb5 d1
  replace d2 := keep hb5 d2
  replace d3 := keep hb5 d3
  replace d4 := keep hb5 d4
  replace HA := Lib.hid (HA.out.below hb5)
  replace HM := Lib.hid (HM.out.below hb5)
  replace BV := Lib.hid (belowT BV.out hb5)
  clear hb5
  go_wp2_with (first
    | (go_at_call 22; (with_reducible refine Calls.mono (HDE.out _) ?_); rintro e w6 ⟨rfl, hb6⟩; replace d0 := keep hb6 d0; replace d1 := keep hb6 d1; replace d2 := keep hb6 d2; replace d3 := keep hb6 d3; replace d4 := keep hb6 d4; replace HA := Lib.hid (HA.out.below hb6); replace HM := Lib.hid (HM.out.below hb6); replace BV := Lib.hid (belowT BV.out hb6); clear hb6)
    | (go_at_call 23; (with_reducible refine Calls.mono (HTE.out _ HA.out) ?_); rintro e w7 ⟨rfl, hb7⟩; replace d0 := keep hb7 d0; replace d1 := keep hb7 d1; replace d2 := keep hb7 d2; replace d3 := keep hb7 d3; replace d4 := keep hb7 d4; replace HA := Lib.hid (HA.out.below hb7); replace HM := Lib.hid (HM.out.below hb7); replace BV := Lib.hid (belowT BV.out hb7); clear hb7)
    | fail)
  go_ret
  exact ⟨ret_bool (by simp), BV.out⟩
set_option maxRecDepth 100000 in
set_option maxHeartbeats 4000000 in
theorem pm_d2 (t lo hi st ra : Int) (A : Option Addr) (n c : Nat) (xs : Nat → Int) (w : World) (hA : IA w A n xs) {D : Int} {ys : Nat → Int} (hn : 41 ≤ n) (hn2 : n ≤ 42) (hRM : ∀ W, Calls Try.prog 17 #[.agg #[.int .i64 t, .int .i64 lo, .int .i64 hi, .int .i64 st, .int .i64 ra]] W fun e w' => e = .returned (.bool true) ∧ Below W.heap.size W w') (hCD : ∀ W, Calls Try.prog 18 #[.agg #[.int .i64 t, .int .i64 lo, .int .i64 hi, .int .i64 st, .int .i64 ra]] W fun e w' => e = .returned (.int .i64 D) ∧ Below W.heap.size W w') (hCI : ∀ W, IA W A n xs → Calls Try.prog 20 #[.slice A n c] W fun e w' => ∃ A' c', e = .returned (.slice A' n c') ∧ IA w' A' n xs ∧ Below W.heap.size W w') (hPT : ∀ W A' c', IA W A' n xs → Calls Try.prog 19 #[.agg #[.int .i64 t, .int .i64 lo, .int .i64 hi, .int .i64 st, .int .i64 ra], .slice A' n c'] W fun e w' => ∃ A2 c2, e = .returned (.tuple #[.slice A2 0 c2, .int .i64 0, .int .i64 D]) ∧ IA w' A2 0 ys ∧ Below W.heap.size W w') (hMR : ∀ W A' c', IA W A' n xs → Calls Try.prog 21 #[.agg #[.int .i64 t, .int .i64 lo, .int .i64 hi, .int .i64 st, .int .i64 ra], .slice A' n c'] W fun e w' => e = .returned (.tuple #[.int .i64 0, .int .i64 D]) ∧ Below W.heap.size W w') (hDE : ∀ W, Calls Try.prog 22 #[.agg #[.int .i64 t, .int .i64 lo, .int .i64 hi, .int .i64 st, .int .i64 ra]] W fun e w' => e = .returned (.int .i64 D) ∧ Below W.heap.size W w') (hD : D ≠ 0) :
    Calls Try.prog 4 #[.agg #[.int .i64 t, .int .i64 lo, .int .i64 hi, .int .i64 st, .int .i64 ra], .slice A n c] w fun e w' => e = .returned (.bool true) ∧ Below w.heap.size w w' := by
  have g0 : (D == 0) = false := by simp [hD]
  have g1 : (D != 0) = true := by simp [hD]
  clear hD
  have HA := Lib.hid hA
  have HRM := Lib.hid hRM
  have HCD := Lib.hid hCD
  have HCI := Lib.hid hCI
  have HPT := Lib.hid hPT
  have HMR := Lib.hid hMR
  have HDE := Lib.hid hDE
  clear hA hRM hCD hCI hPT hMR hDE
  go_enter Try.func4, Try.ntmps4
  go_upto_region 6 with (first
    | (go_at_call 6; (with_reducible refine Calls.mono (awake_any _) ?_); rintro e w1 ⟨rfl, hb1⟩; have BV := Lib.hid (belowT (show Below w.heap.size w _ by (repeat (first | with_reducible exact Below.refl _ _ | with_reducible assumption | with_reducible refine Below.alloc ?_ (by first | (simp; done) | (simp; omega) | omega) _ | with_reducible refine Below.setCell ?_ (by first | (simp; done) | (simp; omega) | omega) _ | with_reducible refine Below.drew ?_ | with_reducible refine below_drewN ?_ _))) hb1); have d0 := keep hb1 (b := w.heap.size) (o := 0) (v := .int .i64 t) (by simp [go_sem]); have d1 := keep hb1 (b := w.heap.size) (o := 1) (v := .int .i64 lo) (by simp [go_sem]); have d2 := keep hb1 (b := w.heap.size) (o := 2) (v := .int .i64 hi) (by simp [go_sem]); have d3 := keep hb1 (b := w.heap.size) (o := 3) (v := .int .i64 st) (by simp [go_sem]); have d4 := keep hb1 (b := w.heap.size) (o := 4) (v := .int .i64 ra) (by simp [go_sem]); replace HA := Lib.hid (HA.out.below BV.out); clear hb1)
    | (go_at_call 17; (with_reducible refine Calls.mono (HRM.out _) ?_); rintro e w2 ⟨rfl, hb2⟩; replace d0 := keep hb2 d0; replace d1 := keep hb2 d1; replace d2 := keep hb2 d2; replace d3 := keep hb2 d3; replace d4 := keep hb2 d4; replace HA := Lib.hid (HA.out.below hb2); replace BV := Lib.hid (belowT BV.out hb2); clear hb2)
    | (go_at_call 18; (with_reducible refine Calls.mono (HCD.out _) ?_); rintro e w3 ⟨rfl, hb3⟩; replace d0 := keep hb3 d0; replace d1 := keep hb3 d1; replace d2 := keep hb3 d2; replace d3 := keep hb3 d3; replace d4 := keep hb3 d4; replace HA := Lib.hid (HA.out.below hb3); replace BV := Lib.hid (belowT BV.out hb3); clear hb3)
    | fail)
  refine wp_region_mp [mpEq (.agg #[.int .i64 t, .int .i64 lo, .int .i64 hi, .int .i64 st, .int .i64 ra]), mpEq (.slice A n c), mpIA n xs, mpTu 0 ys 0 D, mpTu 0 ys 0 D, mpIA 0 ys, mpEq (.int .i64 0), mpEq (.int .i64 D), mpIA 0 ys, mpEq (.int .i64 0), mpEq (.int .i64 D)] mq0 (by kernel_rfl) (by kernel_rfl) (by kernel_rfl) (
      allOps_cons (fun a' w' hb hs hd => rg_op fun K hK => by
    have e1 := (hs.get 2 (by kernel_rfl)).trans (show _ = Value.pointer (some ⟨w.heap.size, 0, none⟩) from rfl)
    have c0 := keep hb d0
    have c1 := keep hb d1
    have c2 := keep hb d2
    have c3 := keep hb d3
    have c4 := keep hb d4
    clear hs hd
    unfold Oper.wp
    generalize a'.eval = ρ at e1 ⊢
    simp [go_sem, e1, c0, c1, c2, c3, c4]
    exact hK _ _ (Below.refl _ _) rfl) <|
      allOps_cons (fun a' w' hb hs hd => rg_op fun K hK => by
    have e1 := (hs.get 1 (by kernel_rfl)).trans (show _ = .slice A n c from rfl)
    clear hs hd
    unfold Oper.wp
    generalize a'.eval = ρ at e1 ⊢
    simp [go_sem, e1]
    exact hK _ _ (Below.refl _ _) rfl) <|
      allOps_cons (fun a' w' hb hs hd => by
    exact rg_fn (φ := (mpIA n xs).p) (vs := #[.slice A n c]) rfl (enters_of Try.func20 (by kernel_rfl) rfl) (by simp [(show a'.eval (.tmp 41) = .slice A n c from hd.get 1 41 (by kernel_rfl) (by kernel_rfl))]) ((HCI.out w' (HA.out.below hb)).mono (by rintro e w1 ⟨A1, c1, rfl, h1, h2⟩; exact ⟨_, rfl, h2, A1, c1, rfl, h1⟩))) <|
      allOps_cons (fun a' w' hb hs hd => by
    exact rg_fn (φ := (mpTu 0 ys 0 D).p) (vs := #[.agg #[.int .i64 t, .int .i64 lo, .int .i64 hi, .int .i64 st, .int .i64 ra], a'.eval (.tmp 42)]) rfl (enters_of Try.func19 (by kernel_rfl) rfl) (by simp [(show a'.eval (.tmp 40) = .agg #[.int .i64 t, .int .i64 lo, .int .i64 hi, .int .i64 st, .int .i64 ra] from hd.get 0 40 (by kernel_rfl) (by kernel_rfl))]) (by obtain ⟨A1, c1, hv, h1⟩ := (show (mpIA n xs).p (a'.eval (.tmp 42)) w' from hd.get 2 42 (by kernel_rfl) (by kernel_rfl)); rw [hv]; exact (HPT.out w' A1 c1 h1).mono (by rintro e w1 ⟨A2, c2, rfl, h2, h3⟩; exact ⟨_, rfl, h3, A2, c2, rfl, h2⟩))) <|
      allOps_cons (fun a' w' hb hs hd => rg_op fun K hK => by
    have e1 := (show (mpTu 0 ys 0 D).p (a'.eval (.tmp 43)) w' from hd.get 3 43 (by kernel_rfl) (by kernel_rfl))
    clear hs hd
    unfold Oper.wp
    generalize a'.eval = ρ at e1 ⊢
    obtain ⟨A, c, e2, e3⟩ := e1
    simp [go_sem, e2]
    exact hK _ _ (Below.refl _ _) ⟨A, c, rfl, e3⟩) <|
      allOps_cons (fun a' w' hb hs hd => rg_op fun K hK => by
    have e1 := (show (mpTu 0 ys 0 D).p (a'.eval (.tmp 39)) w' from hd.get 4 39 (by kernel_rfl) (by kernel_rfl))
    clear hs hd
    unfold Oper.wp
    generalize a'.eval = ρ at e1 ⊢
    obtain ⟨A, c, e2, e3⟩ := e1
    simp [go_sem, e2]
    exact hK _ _ (Below.refl _ _) ⟨A, c, rfl, e3⟩) <|
      allOps_cons (fun a' w' hb hs hd => rg_op fun K hK => by
    have e1 := (show (mpTu 0 ys 0 D).p (a'.eval (.tmp 39)) w' from hd.get 4 39 (by kernel_rfl) (by kernel_rfl))
    clear hs hd
    unfold Oper.wp
    generalize a'.eval = ρ at e1 ⊢
    obtain ⟨A, c, e2, e3⟩ := e1
    simp [go_sem, e2]
    exact hK _ _ (Below.refl _ _) rfl) <|
      allOps_cons (fun a' w' hb hs hd => rg_op fun K hK => by
    have e1 := (show (mpTu 0 ys 0 D).p (a'.eval (.tmp 39)) w' from hd.get 4 39 (by kernel_rfl) (by kernel_rfl))
    clear hs hd
    unfold Oper.wp
    generalize a'.eval = ρ at e1 ⊢
    obtain ⟨A, c, e2, e3⟩ := e1
    simp [go_sem, e2]
    exact hK _ _ (Below.refl _ _) rfl) <|
      allOps_cons (fun a' w' hb hs hd => rg_op fun K hK => by
    have e1 := (show (mpIA 0 ys).p (a'.eval (.tmp 44)) w' from hd.get 5 44 (by kernel_rfl) (by kernel_rfl))
    clear hs hd
    unfold Oper.wp
    generalize a'.eval = ρ at e1 ⊢
    obtain ⟨A, c, e2, e3⟩ := e1
    simp [go_sem, e2]
    exact hK _ _ (Below.refl _ _) ⟨A, c, rfl, e3⟩) <|
      allOps_cons (fun a' w' hb hs hd => rg_op fun K hK => by
    have e1 := (show a'.eval (.tmp 45) = .int .i64 0 from hd.get 6 45 (by kernel_rfl) (by kernel_rfl))
    clear hs hd
    unfold Oper.wp
    generalize a'.eval = ρ at e1 ⊢
    simp [go_sem, e1]
    exact hK _ _ (Below.refl _ _) rfl) <|
      allOps_cons (fun a' w' hb hs hd => rg_op fun K hK => by
    have e1 := (show a'.eval (.tmp 46) = .int .i64 D from hd.get 7 46 (by kernel_rfl) (by kernel_rfl))
    clear hs hd
    unfold Oper.wp
    generalize a'.eval = ρ at e1 ⊢
    simp [go_sem, e1]
    exact hK _ _ (Below.refl _ _) rfl) <| allOps_nil) (fun Q w4 hb4 hall => ?_)
  obtain ⟨Am, cm, h6, him⟩ := (show (mpIA 0 ys).p (Q 6) w4 from hall.get 8 rfl)
  have h7 : Q 7 = .int .i64 0 := hall.get 9 rfl
  have h8 : Q 8 = .int .i64 D := hall.get 10 rfl
  have HM := Lib.hid him
  clear hall him
  simp only [mq0, maskPut, Nat.reduceAdd]
  rw [h6, h7, h8]
  clear h6 h7 h8
  replace d0 := keep hb4 d0
  replace d1 := keep hb4 d1
  replace d2 := keep hb4 d2
  replace d3 := keep hb4 d3
  replace d4 := keep hb4 d4
  replace HA := Lib.hid (HA.out.below hb4)
  replace BV := Lib.hid (belowT BV.out hb4)
  clear hb4
  go_wp2_with fail
  refine wp_region_mp [mpEq (.agg #[.int .i64 t, .int .i64 lo, .int .i64 hi, .int .i64 st, .int .i64 ra]), mpEq (.slice A n c), mpIA n xs, mpEq (.tuple #[.int .i64 0, .int .i64 D]), mpEq (.tuple #[.int .i64 0, .int .i64 D]), mpEq (.int .i64 0), mpEq (.int .i64 D), mpEq (.int .i64 0), mpEq (.int .i64 D)] mq1 (by kernel_rfl) (by kernel_rfl) (by kernel_rfl) (
      allOps_cons (fun a' w' hb hs hd => rg_op fun K hK => by
    have e1 := (hs.get 2 (by kernel_rfl)).trans (show _ = Value.pointer (some ⟨w.heap.size, 0, none⟩) from rfl)
    have c0 := keep hb d0
    have c1 := keep hb d1
    have c2 := keep hb d2
    have c3 := keep hb d3
    have c4 := keep hb d4
    clear hs hd
    unfold Oper.wp
    generalize a'.eval = ρ at e1 ⊢
    simp [go_sem, e1, c0, c1, c2, c3, c4]
    exact hK _ _ (Below.refl _ _) rfl) <|
      allOps_cons (fun a' w' hb hs hd => rg_op fun K hK => by
    have e1 := (hs.get 1 (by kernel_rfl)).trans (show _ = .slice A n c from rfl)
    clear hs hd
    unfold Oper.wp
    generalize a'.eval = ρ at e1 ⊢
    simp [go_sem, e1]
    exact hK _ _ (Below.refl _ _) rfl) <|
      allOps_cons (fun a' w' hb hs hd => by
    exact rg_fn (φ := (mpIA n xs).p) (vs := #[.slice A n c]) rfl (enters_of Try.func20 (by kernel_rfl) rfl) (by simp [(show a'.eval (.tmp 49) = .slice A n c from hd.get 1 49 (by kernel_rfl) (by kernel_rfl))]) ((HCI.out w' (HA.out.below hb)).mono (by rintro e w1 ⟨A1, c1, rfl, h1, h2⟩; exact ⟨_, rfl, h2, A1, c1, rfl, h1⟩))) <|
      allOps_cons (fun a' w' hb hs hd => by
    exact rg_fn (φ := (mpEq (.tuple #[.int .i64 0, .int .i64 D])).p) (vs := #[.agg #[.int .i64 t, .int .i64 lo, .int .i64 hi, .int .i64 st, .int .i64 ra], a'.eval (.tmp 50)]) rfl (enters_of Try.func21 (by kernel_rfl) rfl) (by simp [(show a'.eval (.tmp 48) = .agg #[.int .i64 t, .int .i64 lo, .int .i64 hi, .int .i64 st, .int .i64 ra] from hd.get 0 48 (by kernel_rfl) (by kernel_rfl))]) (by obtain ⟨A1, c1, hv, h1⟩ := (show (mpIA n xs).p (a'.eval (.tmp 50)) w' from hd.get 2 50 (by kernel_rfl) (by kernel_rfl)); rw [hv]; exact (HMR.out w' A1 c1 h1).mono (by rintro e w1 ⟨rfl, h1⟩; exact ⟨_, rfl, h1, rfl⟩))) <|
      allOps_cons (fun a' w' hb hs hd => rg_op fun K hK => by
    have e1 := (show a'.eval (.tmp 51) = .tuple #[.int .i64 0, .int .i64 D] from hd.get 3 51 (by kernel_rfl) (by kernel_rfl))
    clear hs hd
    unfold Oper.wp
    generalize a'.eval = ρ at e1 ⊢
    simp [go_sem, e1]
    exact hK _ _ (Below.refl _ _) rfl) <|
      allOps_cons (fun a' w' hb hs hd => rg_op fun K hK => by
    have e1 := (show a'.eval (.tmp 47) = .tuple #[.int .i64 0, .int .i64 D] from hd.get 4 47 (by kernel_rfl) (by kernel_rfl))
    clear hs hd
    unfold Oper.wp
    generalize a'.eval = ρ at e1 ⊢
    simp [go_sem, e1]
    exact hK _ _ (Below.refl _ _) rfl) <|
      allOps_cons (fun a' w' hb hs hd => rg_op fun K hK => by
    have e1 := (show a'.eval (.tmp 47) = .tuple #[.int .i64 0, .int .i64 D] from hd.get 4 47 (by kernel_rfl) (by kernel_rfl))
    clear hs hd
    unfold Oper.wp
    generalize a'.eval = ρ at e1 ⊢
    simp [go_sem, e1]
    exact hK _ _ (Below.refl _ _) rfl) <|
      allOps_cons (fun a' w' hb hs hd => rg_op fun K hK => by
    have e1 := (show a'.eval (.tmp 52) = .int .i64 0 from hd.get 5 52 (by kernel_rfl) (by kernel_rfl))
    clear hs hd
    unfold Oper.wp
    generalize a'.eval = ρ at e1 ⊢
    simp [go_sem, e1]
    exact hK _ _ (Below.refl _ _) rfl) <|
      allOps_cons (fun a' w' hb hs hd => rg_op fun K hK => by
    have e1 := (show a'.eval (.tmp 53) = .int .i64 D from hd.get 6 53 (by kernel_rfl) (by kernel_rfl))
    clear hs hd
    unfold Oper.wp
    generalize a'.eval = ρ at e1 ⊢
    simp [go_sem, e1]
    exact hK _ _ (Below.refl _ _) rfl) <| allOps_nil) (fun Q2 w5 hb5 hall => ?_)
  have h9 : Q2 9 = .int .i64 0 := hall.get 7 rfl
  have h10 : Q2 10 = .int .i64 D := hall.get 8 rfl
  clear hall
  simp only [mq1, maskPut, Nat.reduceAdd]
  rw [h9, h10]
  clear h9 h10
  replace d0 := keep hb5 d0
  replace d1 := keep hb5 d1
  replace d2 := keep hb5 d2
  replace d3 := keep hb5 d3
  replace d4 := keep hb5 d4
  replace HA := Lib.hid (HA.out.below hb5)
  replace HM := Lib.hid (HM.out.below hb5)
  replace BV := Lib.hid (belowT BV.out hb5)
  clear hb5
  go_wp2_with (first
    | (go_at_call 22; (with_reducible refine Calls.mono (HDE.out _) ?_); rintro e w6 ⟨rfl, hb6⟩; replace d0 := keep hb6 d0; replace d1 := keep hb6 d1; replace d2 := keep hb6 d2; replace d3 := keep hb6 d3; replace d4 := keep hb6 d4; replace HA := Lib.hid (HA.out.below hb6); replace HM := Lib.hid (HM.out.below hb6); replace BV := Lib.hid (belowT BV.out hb6); clear hb6)
    | fail)
  go_ret
  exact ⟨ret_bool (by simp), BV.out⟩
set_option maxRecDepth 100000 in
set_option maxHeartbeats 4000000 in
theorem pm_t2 (t lo hi st ra : Int) (A : Option Addr) (n c : Nat) (xs : Nat → Int) (w : World) (hA : IA w A n xs) {D : Int} {ys : Nat → Int} (hn : 41 ≤ n) (hn2 : n ≤ 42) (hRM : ∀ W, Calls Try.prog 17 #[.agg #[.int .i64 t, .int .i64 lo, .int .i64 hi, .int .i64 st, .int .i64 ra]] W fun e w' => e = .returned (.bool true) ∧ Below W.heap.size W w') (hCD : ∀ W, Calls Try.prog 18 #[.agg #[.int .i64 t, .int .i64 lo, .int .i64 hi, .int .i64 st, .int .i64 ra]] W fun e w' => e = .returned (.int .i64 0) ∧ Below W.heap.size W w') (hCI : ∀ W, IA W A n xs → Calls Try.prog 20 #[.slice A n c] W fun e w' => ∃ A' c', e = .returned (.slice A' n c') ∧ IA w' A' n xs ∧ Below W.heap.size W w') (hPT : ∀ W A' c', IA W A' n xs → Calls Try.prog 19 #[.agg #[.int .i64 t, .int .i64 lo, .int .i64 hi, .int .i64 st, .int .i64 ra], .slice A' n c'] W fun e w' => ∃ A2 c2, e = .returned (.tuple #[.slice A2 0 c2, .int .i64 0, .int .i64 D]) ∧ IA w' A2 0 ys ∧ Below W.heap.size W w') (hMR : ∀ W A' c', IA W A' n xs → Calls Try.prog 21 #[.agg #[.int .i64 t, .int .i64 lo, .int .i64 hi, .int .i64 st, .int .i64 ra], .slice A' n c'] W fun e w' => e = .returned (.tuple #[.int .i64 0, .int .i64 D]) ∧ Below W.heap.size W w') (hDE : ∀ W, Calls Try.prog 22 #[.agg #[.int .i64 t, .int .i64 lo, .int .i64 hi, .int .i64 st, .int .i64 ra]] W fun e w' => e = .returned (.int .i64 0) ∧ Below W.heap.size W w') (hTE : ∀ W, IA W A n xs → Calls Try.prog 23 #[.agg #[.int .i64 t, .int .i64 lo, .int .i64 hi, .int .i64 st, .int .i64 ra], .slice A n c] W fun e w' => e = .returned (.int .i64 D) ∧ Below W.heap.size W w') (hD : D ≠ 0) :
    Calls Try.prog 4 #[.agg #[.int .i64 t, .int .i64 lo, .int .i64 hi, .int .i64 st, .int .i64 ra], .slice A n c] w fun e w' => e = .returned (.bool true) ∧ Below w.heap.size w w' := by
  have g0 : (D == 0) = false := by simp [hD]
  have g1 : (D != 0) = true := by simp [hD]
  clear hD
  have HA := Lib.hid hA
  have HRM := Lib.hid hRM
  have HCD := Lib.hid hCD
  have HCI := Lib.hid hCI
  have HPT := Lib.hid hPT
  have HMR := Lib.hid hMR
  have HDE := Lib.hid hDE
  have HTE := Lib.hid hTE
  clear hA hRM hCD hCI hPT hMR hDE hTE
  go_enter Try.func4, Try.ntmps4
  go_upto_region 6 with (first
    | (go_at_call 6; (with_reducible refine Calls.mono (awake_any _) ?_); rintro e w1 ⟨rfl, hb1⟩; have BV := Lib.hid (belowT (show Below w.heap.size w _ by (repeat (first | with_reducible exact Below.refl _ _ | with_reducible assumption | with_reducible refine Below.alloc ?_ (by first | (simp; done) | (simp; omega) | omega) _ | with_reducible refine Below.setCell ?_ (by first | (simp; done) | (simp; omega) | omega) _ | with_reducible refine Below.drew ?_ | with_reducible refine below_drewN ?_ _))) hb1); have d0 := keep hb1 (b := w.heap.size) (o := 0) (v := .int .i64 t) (by simp [go_sem]); have d1 := keep hb1 (b := w.heap.size) (o := 1) (v := .int .i64 lo) (by simp [go_sem]); have d2 := keep hb1 (b := w.heap.size) (o := 2) (v := .int .i64 hi) (by simp [go_sem]); have d3 := keep hb1 (b := w.heap.size) (o := 3) (v := .int .i64 st) (by simp [go_sem]); have d4 := keep hb1 (b := w.heap.size) (o := 4) (v := .int .i64 ra) (by simp [go_sem]); replace HA := Lib.hid (HA.out.below BV.out); clear hb1)
    | (go_at_call 17; (with_reducible refine Calls.mono (HRM.out _) ?_); rintro e w2 ⟨rfl, hb2⟩; replace d0 := keep hb2 d0; replace d1 := keep hb2 d1; replace d2 := keep hb2 d2; replace d3 := keep hb2 d3; replace d4 := keep hb2 d4; replace HA := Lib.hid (HA.out.below hb2); replace BV := Lib.hid (belowT BV.out hb2); clear hb2)
    | (go_at_call 18; (with_reducible refine Calls.mono (HCD.out _) ?_); rintro e w3 ⟨rfl, hb3⟩; replace d0 := keep hb3 d0; replace d1 := keep hb3 d1; replace d2 := keep hb3 d2; replace d3 := keep hb3 d3; replace d4 := keep hb3 d4; replace HA := Lib.hid (HA.out.below hb3); replace BV := Lib.hid (belowT BV.out hb3); clear hb3)
    | fail)
  refine wp_region_mp [mpEq (.agg #[.int .i64 t, .int .i64 lo, .int .i64 hi, .int .i64 st, .int .i64 ra]), mpEq (.slice A n c), mpIA n xs, mpTu 0 ys 0 D, mpTu 0 ys 0 D, mpIA 0 ys, mpEq (.int .i64 0), mpEq (.int .i64 D), mpIA 0 ys, mpEq (.int .i64 0), mpEq (.int .i64 D)] mq0 (by kernel_rfl) (by kernel_rfl) (by kernel_rfl) (
      allOps_cons (fun a' w' hb hs hd => rg_op fun K hK => by
    have e1 := (hs.get 2 (by kernel_rfl)).trans (show _ = Value.pointer (some ⟨w.heap.size, 0, none⟩) from rfl)
    have c0 := keep hb d0
    have c1 := keep hb d1
    have c2 := keep hb d2
    have c3 := keep hb d3
    have c4 := keep hb d4
    clear hs hd
    unfold Oper.wp
    generalize a'.eval = ρ at e1 ⊢
    simp [go_sem, e1, c0, c1, c2, c3, c4]
    exact hK _ _ (Below.refl _ _) rfl) <|
      allOps_cons (fun a' w' hb hs hd => rg_op fun K hK => by
    have e1 := (hs.get 1 (by kernel_rfl)).trans (show _ = .slice A n c from rfl)
    clear hs hd
    unfold Oper.wp
    generalize a'.eval = ρ at e1 ⊢
    simp [go_sem, e1]
    exact hK _ _ (Below.refl _ _) rfl) <|
      allOps_cons (fun a' w' hb hs hd => by
    exact rg_fn (φ := (mpIA n xs).p) (vs := #[.slice A n c]) rfl (enters_of Try.func20 (by kernel_rfl) rfl) (by simp [(show a'.eval (.tmp 41) = .slice A n c from hd.get 1 41 (by kernel_rfl) (by kernel_rfl))]) ((HCI.out w' (HA.out.below hb)).mono (by rintro e w1 ⟨A1, c1, rfl, h1, h2⟩; exact ⟨_, rfl, h2, A1, c1, rfl, h1⟩))) <|
      allOps_cons (fun a' w' hb hs hd => by
    exact rg_fn (φ := (mpTu 0 ys 0 D).p) (vs := #[.agg #[.int .i64 t, .int .i64 lo, .int .i64 hi, .int .i64 st, .int .i64 ra], a'.eval (.tmp 42)]) rfl (enters_of Try.func19 (by kernel_rfl) rfl) (by simp [(show a'.eval (.tmp 40) = .agg #[.int .i64 t, .int .i64 lo, .int .i64 hi, .int .i64 st, .int .i64 ra] from hd.get 0 40 (by kernel_rfl) (by kernel_rfl))]) (by obtain ⟨A1, c1, hv, h1⟩ := (show (mpIA n xs).p (a'.eval (.tmp 42)) w' from hd.get 2 42 (by kernel_rfl) (by kernel_rfl)); rw [hv]; exact (HPT.out w' A1 c1 h1).mono (by rintro e w1 ⟨A2, c2, rfl, h2, h3⟩; exact ⟨_, rfl, h3, A2, c2, rfl, h2⟩))) <|
      allOps_cons (fun a' w' hb hs hd => rg_op fun K hK => by
    have e1 := (show (mpTu 0 ys 0 D).p (a'.eval (.tmp 43)) w' from hd.get 3 43 (by kernel_rfl) (by kernel_rfl))
    clear hs hd
    unfold Oper.wp
    generalize a'.eval = ρ at e1 ⊢
    obtain ⟨A, c, e2, e3⟩ := e1
    simp [go_sem, e2]
    exact hK _ _ (Below.refl _ _) ⟨A, c, rfl, e3⟩) <|
      allOps_cons (fun a' w' hb hs hd => rg_op fun K hK => by
    have e1 := (show (mpTu 0 ys 0 D).p (a'.eval (.tmp 39)) w' from hd.get 4 39 (by kernel_rfl) (by kernel_rfl))
    clear hs hd
    unfold Oper.wp
    generalize a'.eval = ρ at e1 ⊢
    obtain ⟨A, c, e2, e3⟩ := e1
    simp [go_sem, e2]
    exact hK _ _ (Below.refl _ _) ⟨A, c, rfl, e3⟩) <|
      allOps_cons (fun a' w' hb hs hd => rg_op fun K hK => by
    have e1 := (show (mpTu 0 ys 0 D).p (a'.eval (.tmp 39)) w' from hd.get 4 39 (by kernel_rfl) (by kernel_rfl))
    clear hs hd
    unfold Oper.wp
    generalize a'.eval = ρ at e1 ⊢
    obtain ⟨A, c, e2, e3⟩ := e1
    simp [go_sem, e2]
    exact hK _ _ (Below.refl _ _) rfl) <|
      allOps_cons (fun a' w' hb hs hd => rg_op fun K hK => by
    have e1 := (show (mpTu 0 ys 0 D).p (a'.eval (.tmp 39)) w' from hd.get 4 39 (by kernel_rfl) (by kernel_rfl))
    clear hs hd
    unfold Oper.wp
    generalize a'.eval = ρ at e1 ⊢
    obtain ⟨A, c, e2, e3⟩ := e1
    simp [go_sem, e2]
    exact hK _ _ (Below.refl _ _) rfl) <|
      allOps_cons (fun a' w' hb hs hd => rg_op fun K hK => by
    have e1 := (show (mpIA 0 ys).p (a'.eval (.tmp 44)) w' from hd.get 5 44 (by kernel_rfl) (by kernel_rfl))
    clear hs hd
    unfold Oper.wp
    generalize a'.eval = ρ at e1 ⊢
    obtain ⟨A, c, e2, e3⟩ := e1
    simp [go_sem, e2]
    exact hK _ _ (Below.refl _ _) ⟨A, c, rfl, e3⟩) <|
      allOps_cons (fun a' w' hb hs hd => rg_op fun K hK => by
    have e1 := (show a'.eval (.tmp 45) = .int .i64 0 from hd.get 6 45 (by kernel_rfl) (by kernel_rfl))
    clear hs hd
    unfold Oper.wp
    generalize a'.eval = ρ at e1 ⊢
    simp [go_sem, e1]
    exact hK _ _ (Below.refl _ _) rfl) <|
      allOps_cons (fun a' w' hb hs hd => rg_op fun K hK => by
    have e1 := (show a'.eval (.tmp 46) = .int .i64 D from hd.get 7 46 (by kernel_rfl) (by kernel_rfl))
    clear hs hd
    unfold Oper.wp
    generalize a'.eval = ρ at e1 ⊢
    simp [go_sem, e1]
    exact hK _ _ (Below.refl _ _) rfl) <| allOps_nil) (fun Q w4 hb4 hall => ?_)
  obtain ⟨Am, cm, h6, him⟩ := (show (mpIA 0 ys).p (Q 6) w4 from hall.get 8 rfl)
  have h7 : Q 7 = .int .i64 0 := hall.get 9 rfl
  have h8 : Q 8 = .int .i64 D := hall.get 10 rfl
  have HM := Lib.hid him
  clear hall him
  simp only [mq0, maskPut, Nat.reduceAdd]
  rw [h6, h7, h8]
  clear h6 h7 h8
  replace d0 := keep hb4 d0
  replace d1 := keep hb4 d1
  replace d2 := keep hb4 d2
  replace d3 := keep hb4 d3
  replace d4 := keep hb4 d4
  replace HA := Lib.hid (HA.out.below hb4)
  replace BV := Lib.hid (belowT BV.out hb4)
  clear hb4
  go_wp2_with fail
  refine wp_region_mp [mpEq (.agg #[.int .i64 t, .int .i64 lo, .int .i64 hi, .int .i64 st, .int .i64 ra]), mpEq (.slice A n c), mpIA n xs, mpEq (.tuple #[.int .i64 0, .int .i64 D]), mpEq (.tuple #[.int .i64 0, .int .i64 D]), mpEq (.int .i64 0), mpEq (.int .i64 D), mpEq (.int .i64 0), mpEq (.int .i64 D)] mq1 (by kernel_rfl) (by kernel_rfl) (by kernel_rfl) (
      allOps_cons (fun a' w' hb hs hd => rg_op fun K hK => by
    have e1 := (hs.get 2 (by kernel_rfl)).trans (show _ = Value.pointer (some ⟨w.heap.size, 0, none⟩) from rfl)
    have c0 := keep hb d0
    have c1 := keep hb d1
    have c2 := keep hb d2
    have c3 := keep hb d3
    have c4 := keep hb d4
    clear hs hd
    unfold Oper.wp
    generalize a'.eval = ρ at e1 ⊢
    simp [go_sem, e1, c0, c1, c2, c3, c4]
    exact hK _ _ (Below.refl _ _) rfl) <|
      allOps_cons (fun a' w' hb hs hd => rg_op fun K hK => by
    have e1 := (hs.get 1 (by kernel_rfl)).trans (show _ = .slice A n c from rfl)
    clear hs hd
    unfold Oper.wp
    generalize a'.eval = ρ at e1 ⊢
    simp [go_sem, e1]
    exact hK _ _ (Below.refl _ _) rfl) <|
      allOps_cons (fun a' w' hb hs hd => by
    exact rg_fn (φ := (mpIA n xs).p) (vs := #[.slice A n c]) rfl (enters_of Try.func20 (by kernel_rfl) rfl) (by simp [(show a'.eval (.tmp 49) = .slice A n c from hd.get 1 49 (by kernel_rfl) (by kernel_rfl))]) ((HCI.out w' (HA.out.below hb)).mono (by rintro e w1 ⟨A1, c1, rfl, h1, h2⟩; exact ⟨_, rfl, h2, A1, c1, rfl, h1⟩))) <|
      allOps_cons (fun a' w' hb hs hd => by
    exact rg_fn (φ := (mpEq (.tuple #[.int .i64 0, .int .i64 D])).p) (vs := #[.agg #[.int .i64 t, .int .i64 lo, .int .i64 hi, .int .i64 st, .int .i64 ra], a'.eval (.tmp 50)]) rfl (enters_of Try.func21 (by kernel_rfl) rfl) (by simp [(show a'.eval (.tmp 48) = .agg #[.int .i64 t, .int .i64 lo, .int .i64 hi, .int .i64 st, .int .i64 ra] from hd.get 0 48 (by kernel_rfl) (by kernel_rfl))]) (by obtain ⟨A1, c1, hv, h1⟩ := (show (mpIA n xs).p (a'.eval (.tmp 50)) w' from hd.get 2 50 (by kernel_rfl) (by kernel_rfl)); rw [hv]; exact (HMR.out w' A1 c1 h1).mono (by rintro e w1 ⟨rfl, h1⟩; exact ⟨_, rfl, h1, rfl⟩))) <|
      allOps_cons (fun a' w' hb hs hd => rg_op fun K hK => by
    have e1 := (show a'.eval (.tmp 51) = .tuple #[.int .i64 0, .int .i64 D] from hd.get 3 51 (by kernel_rfl) (by kernel_rfl))
    clear hs hd
    unfold Oper.wp
    generalize a'.eval = ρ at e1 ⊢
    simp [go_sem, e1]
    exact hK _ _ (Below.refl _ _) rfl) <|
      allOps_cons (fun a' w' hb hs hd => rg_op fun K hK => by
    have e1 := (show a'.eval (.tmp 47) = .tuple #[.int .i64 0, .int .i64 D] from hd.get 4 47 (by kernel_rfl) (by kernel_rfl))
    clear hs hd
    unfold Oper.wp
    generalize a'.eval = ρ at e1 ⊢
    simp [go_sem, e1]
    exact hK _ _ (Below.refl _ _) rfl) <|
      allOps_cons (fun a' w' hb hs hd => rg_op fun K hK => by
    have e1 := (show a'.eval (.tmp 47) = .tuple #[.int .i64 0, .int .i64 D] from hd.get 4 47 (by kernel_rfl) (by kernel_rfl))
    clear hs hd
    unfold Oper.wp
    generalize a'.eval = ρ at e1 ⊢
    simp [go_sem, e1]
    exact hK _ _ (Below.refl _ _) rfl) <|
      allOps_cons (fun a' w' hb hs hd => rg_op fun K hK => by
    have e1 := (show a'.eval (.tmp 52) = .int .i64 0 from hd.get 5 52 (by kernel_rfl) (by kernel_rfl))
    clear hs hd
    unfold Oper.wp
    generalize a'.eval = ρ at e1 ⊢
    simp [go_sem, e1]
    exact hK _ _ (Below.refl _ _) rfl) <|
      allOps_cons (fun a' w' hb hs hd => rg_op fun K hK => by
    have e1 := (show a'.eval (.tmp 53) = .int .i64 D from hd.get 6 53 (by kernel_rfl) (by kernel_rfl))
    clear hs hd
    unfold Oper.wp
    generalize a'.eval = ρ at e1 ⊢
    simp [go_sem, e1]
    exact hK _ _ (Below.refl _ _) rfl) <| allOps_nil) (fun Q2 w5 hb5 hall => ?_)
  have h9 : Q2 9 = .int .i64 0 := hall.get 7 rfl
  have h10 : Q2 10 = .int .i64 D := hall.get 8 rfl
  clear hall
  simp only [mq1, maskPut, Nat.reduceAdd]
  rw [h9, h10]
  clear h9 h10
  replace d0 := keep hb5 d0
  replace d1 := keep hb5 d1
  replace d2 := keep hb5 d2
  replace d3 := keep hb5 d3
  replace d4 := keep hb5 d4
  replace HA := Lib.hid (HA.out.below hb5)
  replace HM := Lib.hid (HM.out.below hb5)
  replace BV := Lib.hid (belowT BV.out hb5)
  clear hb5
  go_wp2_with (first
    | (go_at_call 22; (with_reducible refine Calls.mono (HDE.out _) ?_); rintro e w6 ⟨rfl, hb6⟩; replace d0 := keep hb6 d0; replace d1 := keep hb6 d1; replace d2 := keep hb6 d2; replace d3 := keep hb6 d3; replace d4 := keep hb6 d4; replace HA := Lib.hid (HA.out.below hb6); replace HM := Lib.hid (HM.out.below hb6); replace BV := Lib.hid (belowT BV.out hb6); clear hb6)
    | (go_at_call 23; (with_reducible refine Calls.mono (HTE.out _ HA.out) ?_); rintro e w7 ⟨rfl, hb7⟩; replace d0 := keep hb7 d0; replace d1 := keep hb7 d1; replace d2 := keep hb7 d2; replace d3 := keep hb7 d3; replace d4 := keep hb7 d4; replace HA := Lib.hid (HA.out.below hb7); replace HM := Lib.hid (HM.out.below hb7); replace BV := Lib.hid (belowT BV.out hb7); clear hb7)
    | fail)
  go_ret
  exact ⟨ret_bool (by simp), BV.out⟩
set_option maxRecDepth 100000 in
set_option maxHeartbeats 4000000 in
theorem pm_yy (t lo hi st ra : Int) (A : Option Addr) (n c : Nat) (xs : Nat → Int) (w : World) (hA : IA w A n xs) {T rr : Int} {ys : Nat → Int} (hn : n ≤ 12) (hRM : ∀ W, Calls Try.prog 17 #[.agg #[.int .i64 t, .int .i64 lo, .int .i64 hi, .int .i64 st, .int .i64 ra]] W fun e w' => e = .returned (.bool true) ∧ Below W.heap.size W w') (hCD : ∀ W, Calls Try.prog 18 #[.agg #[.int .i64 t, .int .i64 lo, .int .i64 hi, .int .i64 st, .int .i64 ra]] W fun e w' => e = .returned (.int .i64 0) ∧ Below W.heap.size W w') (hCI : ∀ W, IA W A n xs → Calls Try.prog 20 #[.slice A n c] W fun e w' => ∃ A' c', e = .returned (.slice A' n c') ∧ IA w' A' n xs ∧ Below W.heap.size W w') (hPT : ∀ W A' c', IA W A' n xs → Calls Try.prog 19 #[.agg #[.int .i64 t, .int .i64 lo, .int .i64 hi, .int .i64 st, .int .i64 ra], .slice A' n c'] W fun e w' => ∃ A2 c2, e = .returned (.tuple #[.slice A2 n c2, .int .i64 T, .int .i64 0]) ∧ IA w' A2 n ys ∧ Below W.heap.size W w') (hMR : ∀ W A' c', IA W A' n xs → Calls Try.prog 21 #[.agg #[.int .i64 t, .int .i64 lo, .int .i64 hi, .int .i64 st, .int .i64 ra], .slice A' n c'] W fun e w' => e = .returned (.tuple #[.int .i64 rr, .int .i64 0]) ∧ Below W.heap.size W w') (hDE : ∀ W, Calls Try.prog 22 #[.agg #[.int .i64 t, .int .i64 lo, .int .i64 hi, .int .i64 st, .int .i64 ra]] W fun e w' => e = .returned (.int .i64 0) ∧ Below W.heap.size W w') (hTE : ∀ W, IA W A n xs → Calls Try.prog 23 #[.agg #[.int .i64 t, .int .i64 lo, .int .i64 hi, .int .i64 st, .int .i64 ra], .slice A n c] W fun e w' => e = .returned (.int .i64 0) ∧ Below W.heap.size W w') (hRP : ∀ W, IA W A n xs → Calls Try.prog 24 #[.agg #[.int .i64 t, .int .i64 lo, .int .i64 hi, .int .i64 st, .int .i64 ra], .slice A n c] W fun e w' => ∃ A3 c3, e = .returned (.tuple #[.slice A3 n c3, .int .i64 T, .bool true]) ∧ IA w' A3 n ys ∧ Below W.heap.size W w') (hRR : ∀ W, IA W A n xs → Calls Try.prog 26 #[.agg #[.int .i64 t, .int .i64 lo, .int .i64 hi, .int .i64 st, .int .i64 ra], .slice A n c] W fun e w' => e = .returned (.tuple #[.int .i64 rr, .bool true]) ∧ Below W.heap.size W w') (hIN : ∀ W A1 c1 A2 c2, IA W A1 n ys → IA W A2 n ys → Calls Try.prog 25 #[.slice A1 n c1, .slice A2 n c2] W fun e w' => e = .returned (.bool true) ∧ Below W.heap.size W w') :
    Calls Try.prog 4 #[.agg #[.int .i64 t, .int .i64 lo, .int .i64 hi, .int .i64 st, .int .i64 ra], .slice A n c] w fun e w' => e = .returned (.bool true) ∧ Below w.heap.size w w' := by
  have HA := Lib.hid hA
  have HRM := Lib.hid hRM
  have HCD := Lib.hid hCD
  have HCI := Lib.hid hCI
  have HPT := Lib.hid hPT
  have HMR := Lib.hid hMR
  have HDE := Lib.hid hDE
  have HTE := Lib.hid hTE
  have HRP := Lib.hid hRP
  have HRR := Lib.hid hRR
  have HIN := Lib.hid hIN
  clear hA hRM hCD hCI hPT hMR hDE hTE hRP hRR hIN
  go_enter Try.func4, Try.ntmps4
  go_upto_region 6 with (first
    | (go_at_call 6; (with_reducible refine Calls.mono (awake_any _) ?_); rintro e w1 ⟨rfl, hb1⟩; have BV := Lib.hid (belowT (show Below w.heap.size w _ by (repeat (first | with_reducible exact Below.refl _ _ | with_reducible assumption | with_reducible refine Below.alloc ?_ (by first | (simp; done) | (simp; omega) | omega) _ | with_reducible refine Below.setCell ?_ (by first | (simp; done) | (simp; omega) | omega) _ | with_reducible refine Below.drew ?_ | with_reducible refine below_drewN ?_ _))) hb1); have d0 := keep hb1 (b := w.heap.size) (o := 0) (v := .int .i64 t) (by simp [go_sem]); have d1 := keep hb1 (b := w.heap.size) (o := 1) (v := .int .i64 lo) (by simp [go_sem]); have d2 := keep hb1 (b := w.heap.size) (o := 2) (v := .int .i64 hi) (by simp [go_sem]); have d3 := keep hb1 (b := w.heap.size) (o := 3) (v := .int .i64 st) (by simp [go_sem]); have d4 := keep hb1 (b := w.heap.size) (o := 4) (v := .int .i64 ra) (by simp [go_sem]); replace HA := Lib.hid (HA.out.below BV.out); clear hb1)
    | (go_at_call 17; (with_reducible refine Calls.mono (HRM.out _) ?_); rintro e w2 ⟨rfl, hb2⟩; replace d0 := keep hb2 d0; replace d1 := keep hb2 d1; replace d2 := keep hb2 d2; replace d3 := keep hb2 d3; replace d4 := keep hb2 d4; replace HA := Lib.hid (HA.out.below hb2); replace BV := Lib.hid (belowT BV.out hb2); clear hb2)
    | (go_at_call 18; (with_reducible refine Calls.mono (HCD.out _) ?_); rintro e w3 ⟨rfl, hb3⟩; replace d0 := keep hb3 d0; replace d1 := keep hb3 d1; replace d2 := keep hb3 d2; replace d3 := keep hb3 d3; replace d4 := keep hb3 d4; replace HA := Lib.hid (HA.out.below hb3); replace BV := Lib.hid (belowT BV.out hb3); clear hb3)
    | fail)
  refine wp_region_mp [mpEq (.agg #[.int .i64 t, .int .i64 lo, .int .i64 hi, .int .i64 st, .int .i64 ra]), mpEq (.slice A n c), mpIA n xs, mpTu n ys T 0, mpTu n ys T 0, mpIA n ys, mpEq (.int .i64 T), mpEq (.int .i64 0), mpIA n ys, mpEq (.int .i64 T), mpEq (.int .i64 0)] mq0 (by kernel_rfl) (by kernel_rfl) (by kernel_rfl) (
      allOps_cons (fun a' w' hb hs hd => rg_op fun K hK => by
    have e1 := (hs.get 2 (by kernel_rfl)).trans (show _ = Value.pointer (some ⟨w.heap.size, 0, none⟩) from rfl)
    have c0 := keep hb d0
    have c1 := keep hb d1
    have c2 := keep hb d2
    have c3 := keep hb d3
    have c4 := keep hb d4
    clear hs hd
    unfold Oper.wp
    generalize a'.eval = ρ at e1 ⊢
    simp [go_sem, e1, c0, c1, c2, c3, c4]
    exact hK _ _ (Below.refl _ _) rfl) <|
      allOps_cons (fun a' w' hb hs hd => rg_op fun K hK => by
    have e1 := (hs.get 1 (by kernel_rfl)).trans (show _ = .slice A n c from rfl)
    clear hs hd
    unfold Oper.wp
    generalize a'.eval = ρ at e1 ⊢
    simp [go_sem, e1]
    exact hK _ _ (Below.refl _ _) rfl) <|
      allOps_cons (fun a' w' hb hs hd => by
    exact rg_fn (φ := (mpIA n xs).p) (vs := #[.slice A n c]) rfl (enters_of Try.func20 (by kernel_rfl) rfl) (by simp [(show a'.eval (.tmp 41) = .slice A n c from hd.get 1 41 (by kernel_rfl) (by kernel_rfl))]) ((HCI.out w' (HA.out.below hb)).mono (by rintro e w1 ⟨A1, c1, rfl, h1, h2⟩; exact ⟨_, rfl, h2, A1, c1, rfl, h1⟩))) <|
      allOps_cons (fun a' w' hb hs hd => by
    exact rg_fn (φ := (mpTu n ys T 0).p) (vs := #[.agg #[.int .i64 t, .int .i64 lo, .int .i64 hi, .int .i64 st, .int .i64 ra], a'.eval (.tmp 42)]) rfl (enters_of Try.func19 (by kernel_rfl) rfl) (by simp [(show a'.eval (.tmp 40) = .agg #[.int .i64 t, .int .i64 lo, .int .i64 hi, .int .i64 st, .int .i64 ra] from hd.get 0 40 (by kernel_rfl) (by kernel_rfl))]) (by obtain ⟨A1, c1, hv, h1⟩ := (show (mpIA n xs).p (a'.eval (.tmp 42)) w' from hd.get 2 42 (by kernel_rfl) (by kernel_rfl)); rw [hv]; exact (HPT.out w' A1 c1 h1).mono (by rintro e w1 ⟨A2, c2, rfl, h2, h3⟩; exact ⟨_, rfl, h3, A2, c2, rfl, h2⟩))) <|
      allOps_cons (fun a' w' hb hs hd => rg_op fun K hK => by
    have e1 := (show (mpTu n ys T 0).p (a'.eval (.tmp 43)) w' from hd.get 3 43 (by kernel_rfl) (by kernel_rfl))
    clear hs hd
    unfold Oper.wp
    generalize a'.eval = ρ at e1 ⊢
    obtain ⟨A, c, e2, e3⟩ := e1
    simp [go_sem, e2]
    exact hK _ _ (Below.refl _ _) ⟨A, c, rfl, e3⟩) <|
      allOps_cons (fun a' w' hb hs hd => rg_op fun K hK => by
    have e1 := (show (mpTu n ys T 0).p (a'.eval (.tmp 39)) w' from hd.get 4 39 (by kernel_rfl) (by kernel_rfl))
    clear hs hd
    unfold Oper.wp
    generalize a'.eval = ρ at e1 ⊢
    obtain ⟨A, c, e2, e3⟩ := e1
    simp [go_sem, e2]
    exact hK _ _ (Below.refl _ _) ⟨A, c, rfl, e3⟩) <|
      allOps_cons (fun a' w' hb hs hd => rg_op fun K hK => by
    have e1 := (show (mpTu n ys T 0).p (a'.eval (.tmp 39)) w' from hd.get 4 39 (by kernel_rfl) (by kernel_rfl))
    clear hs hd
    unfold Oper.wp
    generalize a'.eval = ρ at e1 ⊢
    obtain ⟨A, c, e2, e3⟩ := e1
    simp [go_sem, e2]
    exact hK _ _ (Below.refl _ _) rfl) <|
      allOps_cons (fun a' w' hb hs hd => rg_op fun K hK => by
    have e1 := (show (mpTu n ys T 0).p (a'.eval (.tmp 39)) w' from hd.get 4 39 (by kernel_rfl) (by kernel_rfl))
    clear hs hd
    unfold Oper.wp
    generalize a'.eval = ρ at e1 ⊢
    obtain ⟨A, c, e2, e3⟩ := e1
    simp [go_sem, e2]
    exact hK _ _ (Below.refl _ _) rfl) <|
      allOps_cons (fun a' w' hb hs hd => rg_op fun K hK => by
    have e1 := (show (mpIA n ys).p (a'.eval (.tmp 44)) w' from hd.get 5 44 (by kernel_rfl) (by kernel_rfl))
    clear hs hd
    unfold Oper.wp
    generalize a'.eval = ρ at e1 ⊢
    obtain ⟨A, c, e2, e3⟩ := e1
    simp [go_sem, e2]
    exact hK _ _ (Below.refl _ _) ⟨A, c, rfl, e3⟩) <|
      allOps_cons (fun a' w' hb hs hd => rg_op fun K hK => by
    have e1 := (show a'.eval (.tmp 45) = .int .i64 T from hd.get 6 45 (by kernel_rfl) (by kernel_rfl))
    clear hs hd
    unfold Oper.wp
    generalize a'.eval = ρ at e1 ⊢
    simp [go_sem, e1]
    exact hK _ _ (Below.refl _ _) rfl) <|
      allOps_cons (fun a' w' hb hs hd => rg_op fun K hK => by
    have e1 := (show a'.eval (.tmp 46) = .int .i64 0 from hd.get 7 46 (by kernel_rfl) (by kernel_rfl))
    clear hs hd
    unfold Oper.wp
    generalize a'.eval = ρ at e1 ⊢
    simp [go_sem, e1]
    exact hK _ _ (Below.refl _ _) rfl) <| allOps_nil) (fun Q w4 hb4 hall => ?_)
  obtain ⟨Am, cm, h6, him⟩ := (show (mpIA n ys).p (Q 6) w4 from hall.get 8 rfl)
  have h7 : Q 7 = .int .i64 T := hall.get 9 rfl
  have h8 : Q 8 = .int .i64 0 := hall.get 10 rfl
  have HM := Lib.hid him
  clear hall him
  simp only [mq0, maskPut, Nat.reduceAdd]
  rw [h6, h7, h8]
  clear h6 h7 h8
  replace d0 := keep hb4 d0
  replace d1 := keep hb4 d1
  replace d2 := keep hb4 d2
  replace d3 := keep hb4 d3
  replace d4 := keep hb4 d4
  replace HA := Lib.hid (HA.out.below hb4)
  replace BV := Lib.hid (belowT BV.out hb4)
  clear hb4
  go_wp2_with fail
  refine wp_region_mp [mpEq (.agg #[.int .i64 t, .int .i64 lo, .int .i64 hi, .int .i64 st, .int .i64 ra]), mpEq (.slice A n c), mpIA n xs, mpEq (.tuple #[.int .i64 rr, .int .i64 0]), mpEq (.tuple #[.int .i64 rr, .int .i64 0]), mpEq (.int .i64 rr), mpEq (.int .i64 0), mpEq (.int .i64 rr), mpEq (.int .i64 0)] mq1 (by kernel_rfl) (by kernel_rfl) (by kernel_rfl) (
      allOps_cons (fun a' w' hb hs hd => rg_op fun K hK => by
    have e1 := (hs.get 2 (by kernel_rfl)).trans (show _ = Value.pointer (some ⟨w.heap.size, 0, none⟩) from rfl)
    have c0 := keep hb d0
    have c1 := keep hb d1
    have c2 := keep hb d2
    have c3 := keep hb d3
    have c4 := keep hb d4
    clear hs hd
    unfold Oper.wp
    generalize a'.eval = ρ at e1 ⊢
    simp [go_sem, e1, c0, c1, c2, c3, c4]
    exact hK _ _ (Below.refl _ _) rfl) <|
      allOps_cons (fun a' w' hb hs hd => rg_op fun K hK => by
    have e1 := (hs.get 1 (by kernel_rfl)).trans (show _ = .slice A n c from rfl)
    clear hs hd
    unfold Oper.wp
    generalize a'.eval = ρ at e1 ⊢
    simp [go_sem, e1]
    exact hK _ _ (Below.refl _ _) rfl) <|
      allOps_cons (fun a' w' hb hs hd => by
    exact rg_fn (φ := (mpIA n xs).p) (vs := #[.slice A n c]) rfl (enters_of Try.func20 (by kernel_rfl) rfl) (by simp [(show a'.eval (.tmp 49) = .slice A n c from hd.get 1 49 (by kernel_rfl) (by kernel_rfl))]) ((HCI.out w' (HA.out.below hb)).mono (by rintro e w1 ⟨A1, c1, rfl, h1, h2⟩; exact ⟨_, rfl, h2, A1, c1, rfl, h1⟩))) <|
      allOps_cons (fun a' w' hb hs hd => by
    exact rg_fn (φ := (mpEq (.tuple #[.int .i64 rr, .int .i64 0])).p) (vs := #[.agg #[.int .i64 t, .int .i64 lo, .int .i64 hi, .int .i64 st, .int .i64 ra], a'.eval (.tmp 50)]) rfl (enters_of Try.func21 (by kernel_rfl) rfl) (by simp [(show a'.eval (.tmp 48) = .agg #[.int .i64 t, .int .i64 lo, .int .i64 hi, .int .i64 st, .int .i64 ra] from hd.get 0 48 (by kernel_rfl) (by kernel_rfl))]) (by obtain ⟨A1, c1, hv, h1⟩ := (show (mpIA n xs).p (a'.eval (.tmp 50)) w' from hd.get 2 50 (by kernel_rfl) (by kernel_rfl)); rw [hv]; exact (HMR.out w' A1 c1 h1).mono (by rintro e w1 ⟨rfl, h1⟩; exact ⟨_, rfl, h1, rfl⟩))) <|
      allOps_cons (fun a' w' hb hs hd => rg_op fun K hK => by
    have e1 := (show a'.eval (.tmp 51) = .tuple #[.int .i64 rr, .int .i64 0] from hd.get 3 51 (by kernel_rfl) (by kernel_rfl))
    clear hs hd
    unfold Oper.wp
    generalize a'.eval = ρ at e1 ⊢
    simp [go_sem, e1]
    exact hK _ _ (Below.refl _ _) rfl) <|
      allOps_cons (fun a' w' hb hs hd => rg_op fun K hK => by
    have e1 := (show a'.eval (.tmp 47) = .tuple #[.int .i64 rr, .int .i64 0] from hd.get 4 47 (by kernel_rfl) (by kernel_rfl))
    clear hs hd
    unfold Oper.wp
    generalize a'.eval = ρ at e1 ⊢
    simp [go_sem, e1]
    exact hK _ _ (Below.refl _ _) rfl) <|
      allOps_cons (fun a' w' hb hs hd => rg_op fun K hK => by
    have e1 := (show a'.eval (.tmp 47) = .tuple #[.int .i64 rr, .int .i64 0] from hd.get 4 47 (by kernel_rfl) (by kernel_rfl))
    clear hs hd
    unfold Oper.wp
    generalize a'.eval = ρ at e1 ⊢
    simp [go_sem, e1]
    exact hK _ _ (Below.refl _ _) rfl) <|
      allOps_cons (fun a' w' hb hs hd => rg_op fun K hK => by
    have e1 := (show a'.eval (.tmp 52) = .int .i64 rr from hd.get 5 52 (by kernel_rfl) (by kernel_rfl))
    clear hs hd
    unfold Oper.wp
    generalize a'.eval = ρ at e1 ⊢
    simp [go_sem, e1]
    exact hK _ _ (Below.refl _ _) rfl) <|
      allOps_cons (fun a' w' hb hs hd => rg_op fun K hK => by
    have e1 := (show a'.eval (.tmp 53) = .int .i64 0 from hd.get 6 53 (by kernel_rfl) (by kernel_rfl))
    clear hs hd
    unfold Oper.wp
    generalize a'.eval = ρ at e1 ⊢
    simp [go_sem, e1]
    exact hK _ _ (Below.refl _ _) rfl) <| allOps_nil) (fun Q2 w5 hb5 hall => ?_)
  have h9 : Q2 9 = .int .i64 rr := hall.get 7 rfl
  have h10 : Q2 10 = .int .i64 0 := hall.get 8 rfl
  clear hall
  simp only [mq1, maskPut, Nat.reduceAdd]
  rw [h9, h10]
  clear h9 h10
  replace d0 := keep hb5 d0
  replace d1 := keep hb5 d1
  replace d2 := keep hb5 d2
  replace d3 := keep hb5 d3
  replace d4 := keep hb5 d4
  replace HA := Lib.hid (HA.out.below hb5)
  replace HM := Lib.hid (HM.out.below hb5)
  replace BV := Lib.hid (belowT BV.out hb5)
  clear hb5
  go_wp2_with (first
    | (go_at_call 22; (with_reducible refine Calls.mono (HDE.out _) ?_); rintro e w6 ⟨rfl, hb6⟩; replace d0 := keep hb6 d0; replace d1 := keep hb6 d1; replace d2 := keep hb6 d2; replace d3 := keep hb6 d3; replace d4 := keep hb6 d4; replace HA := Lib.hid (HA.out.below hb6); replace HM := Lib.hid (HM.out.below hb6); replace BV := Lib.hid (belowT BV.out hb6); clear hb6)
    | (go_at_call 23; (with_reducible refine Calls.mono (HTE.out _ HA.out) ?_); rintro e w7 ⟨rfl, hb7⟩; replace d0 := keep hb7 d0; replace d1 := keep hb7 d1; replace d2 := keep hb7 d2; replace d3 := keep hb7 d3; replace d4 := keep hb7 d4; replace HA := Lib.hid (HA.out.below hb7); replace HM := Lib.hid (HM.out.below hb7); replace BV := Lib.hid (belowT BV.out hb7); clear hb7)
    | (go_at_call 24; (with_reducible refine Calls.mono (HRP.out _ HA.out) ?_); rintro e w8 ⟨A3, c3, rfl, hi3, hb8⟩; replace d0 := keep hb8 d0; replace d1 := keep hb8 d1; replace d2 := keep hb8 d2; replace d3 := keep hb8 d3; replace d4 := keep hb8 d4; replace HA := Lib.hid (HA.out.below hb8); replace HM := Lib.hid (HM.out.below hb8); replace BV := Lib.hid (belowT BV.out hb8); have HI3 := Lib.hid hi3; clear hi3; clear hb8)
    | (go_at_call 25; (with_reducible refine Calls.mono (HIN.out _ _ _ _ _ HM.out HI3.out) ?_); rintro e w9 ⟨rfl, hb9⟩; replace d0 := keep hb9 d0; replace d1 := keep hb9 d1; replace d2 := keep hb9 d2; replace d3 := keep hb9 d3; replace d4 := keep hb9 d4; replace HA := Lib.hid (HA.out.below hb9); replace HM := Lib.hid (HM.out.below hb9); replace HI3 := Lib.hid (HI3.out.below hb9); replace BV := Lib.hid (belowT BV.out hb9); clear hb9)
    | (go_at_call 26; (with_reducible refine Calls.mono (HRR.out _ HA.out) ?_); rintro e w10 ⟨rfl, hb10⟩; replace d0 := keep hb10 d0; replace d1 := keep hb10 d1; replace d2 := keep hb10 d2; replace d3 := keep hb10 d3; replace d4 := keep hb10 d4; replace HA := Lib.hid (HA.out.below hb10); replace HM := Lib.hid (HM.out.below hb10); replace HI3 := Lib.hid (HI3.out.below hb10); replace BV := Lib.hid (belowT BV.out hb10); clear hb10)
    | fail)
  go_ret
  exact ⟨ret_bool (by simp), BV.out⟩
set_option maxRecDepth 100000 in
set_option maxHeartbeats 4000000 in
theorem pm_yn (t lo hi st ra : Int) (A : Option Addr) (n c : Nat) (xs : Nat → Int) (w : World) (hA : IA w A n xs) {T : Int} {ys : Nat → Int} (hn : n ≤ 12) (hRM : ∀ W, Calls Try.prog 17 #[.agg #[.int .i64 t, .int .i64 lo, .int .i64 hi, .int .i64 st, .int .i64 ra]] W fun e w' => e = .returned (.bool true) ∧ Below W.heap.size W w') (hCD : ∀ W, Calls Try.prog 18 #[.agg #[.int .i64 t, .int .i64 lo, .int .i64 hi, .int .i64 st, .int .i64 ra]] W fun e w' => e = .returned (.int .i64 0) ∧ Below W.heap.size W w') (hCI : ∀ W, IA W A n xs → Calls Try.prog 20 #[.slice A n c] W fun e w' => ∃ A' c', e = .returned (.slice A' n c') ∧ IA w' A' n xs ∧ Below W.heap.size W w') (hPT : ∀ W A' c', IA W A' n xs → Calls Try.prog 19 #[.agg #[.int .i64 t, .int .i64 lo, .int .i64 hi, .int .i64 st, .int .i64 ra], .slice A' n c'] W fun e w' => ∃ A2 c2, e = .returned (.tuple #[.slice A2 n c2, .int .i64 T, .int .i64 0]) ∧ IA w' A2 n ys ∧ Below W.heap.size W w') (hMR : ∀ W A' c', IA W A' n xs → Calls Try.prog 21 #[.agg #[.int .i64 t, .int .i64 lo, .int .i64 hi, .int .i64 st, .int .i64 ra], .slice A' n c'] W fun e w' => e = .returned (.tuple #[.int .i64 0, .int .i64 12]) ∧ Below W.heap.size W w') (hDE : ∀ W, Calls Try.prog 22 #[.agg #[.int .i64 t, .int .i64 lo, .int .i64 hi, .int .i64 st, .int .i64 ra]] W fun e w' => e = .returned (.int .i64 0) ∧ Below W.heap.size W w') (hTE : ∀ W, IA W A n xs → Calls Try.prog 23 #[.agg #[.int .i64 t, .int .i64 lo, .int .i64 hi, .int .i64 st, .int .i64 ra], .slice A n c] W fun e w' => e = .returned (.int .i64 0) ∧ Below W.heap.size W w') (hRP : ∀ W, IA W A n xs → Calls Try.prog 24 #[.agg #[.int .i64 t, .int .i64 lo, .int .i64 hi, .int .i64 st, .int .i64 ra], .slice A n c] W fun e w' => ∃ A3 c3, e = .returned (.tuple #[.slice A3 n c3, .int .i64 T, .bool true]) ∧ IA w' A3 n ys ∧ Below W.heap.size W w') (hRR : ∀ W, IA W A n xs → Calls Try.prog 26 #[.agg #[.int .i64 t, .int .i64 lo, .int .i64 hi, .int .i64 st, .int .i64 ra], .slice A n c] W fun e w' => e = .returned (.tuple #[.int .i64 0, .bool false]) ∧ Below W.heap.size W w') (hIN : ∀ W A1 c1 A2 c2, IA W A1 n ys → IA W A2 n ys → Calls Try.prog 25 #[.slice A1 n c1, .slice A2 n c2] W fun e w' => e = .returned (.bool true) ∧ Below W.heap.size W w') :
    Calls Try.prog 4 #[.agg #[.int .i64 t, .int .i64 lo, .int .i64 hi, .int .i64 st, .int .i64 ra], .slice A n c] w fun e w' => e = .returned (.bool true) ∧ Below w.heap.size w w' := by
  have HA := Lib.hid hA
  have HRM := Lib.hid hRM
  have HCD := Lib.hid hCD
  have HCI := Lib.hid hCI
  have HPT := Lib.hid hPT
  have HMR := Lib.hid hMR
  have HDE := Lib.hid hDE
  have HTE := Lib.hid hTE
  have HRP := Lib.hid hRP
  have HRR := Lib.hid hRR
  have HIN := Lib.hid hIN
  clear hA hRM hCD hCI hPT hMR hDE hTE hRP hRR hIN
  go_enter Try.func4, Try.ntmps4
  go_upto_region 6 with (first
    | (go_at_call 6; (with_reducible refine Calls.mono (awake_any _) ?_); rintro e w1 ⟨rfl, hb1⟩; have BV := Lib.hid (belowT (show Below w.heap.size w _ by (repeat (first | with_reducible exact Below.refl _ _ | with_reducible assumption | with_reducible refine Below.alloc ?_ (by first | (simp; done) | (simp; omega) | omega) _ | with_reducible refine Below.setCell ?_ (by first | (simp; done) | (simp; omega) | omega) _ | with_reducible refine Below.drew ?_ | with_reducible refine below_drewN ?_ _))) hb1); have d0 := keep hb1 (b := w.heap.size) (o := 0) (v := .int .i64 t) (by simp [go_sem]); have d1 := keep hb1 (b := w.heap.size) (o := 1) (v := .int .i64 lo) (by simp [go_sem]); have d2 := keep hb1 (b := w.heap.size) (o := 2) (v := .int .i64 hi) (by simp [go_sem]); have d3 := keep hb1 (b := w.heap.size) (o := 3) (v := .int .i64 st) (by simp [go_sem]); have d4 := keep hb1 (b := w.heap.size) (o := 4) (v := .int .i64 ra) (by simp [go_sem]); replace HA := Lib.hid (HA.out.below BV.out); clear hb1)
    | (go_at_call 17; (with_reducible refine Calls.mono (HRM.out _) ?_); rintro e w2 ⟨rfl, hb2⟩; replace d0 := keep hb2 d0; replace d1 := keep hb2 d1; replace d2 := keep hb2 d2; replace d3 := keep hb2 d3; replace d4 := keep hb2 d4; replace HA := Lib.hid (HA.out.below hb2); replace BV := Lib.hid (belowT BV.out hb2); clear hb2)
    | (go_at_call 18; (with_reducible refine Calls.mono (HCD.out _) ?_); rintro e w3 ⟨rfl, hb3⟩; replace d0 := keep hb3 d0; replace d1 := keep hb3 d1; replace d2 := keep hb3 d2; replace d3 := keep hb3 d3; replace d4 := keep hb3 d4; replace HA := Lib.hid (HA.out.below hb3); replace BV := Lib.hid (belowT BV.out hb3); clear hb3)
    | fail)
  refine wp_region_mp [mpEq (.agg #[.int .i64 t, .int .i64 lo, .int .i64 hi, .int .i64 st, .int .i64 ra]), mpEq (.slice A n c), mpIA n xs, mpTu n ys T 0, mpTu n ys T 0, mpIA n ys, mpEq (.int .i64 T), mpEq (.int .i64 0), mpIA n ys, mpEq (.int .i64 T), mpEq (.int .i64 0)] mq0 (by kernel_rfl) (by kernel_rfl) (by kernel_rfl) (
      allOps_cons (fun a' w' hb hs hd => rg_op fun K hK => by
    have e1 := (hs.get 2 (by kernel_rfl)).trans (show _ = Value.pointer (some ⟨w.heap.size, 0, none⟩) from rfl)
    have c0 := keep hb d0
    have c1 := keep hb d1
    have c2 := keep hb d2
    have c3 := keep hb d3
    have c4 := keep hb d4
    clear hs hd
    unfold Oper.wp
    generalize a'.eval = ρ at e1 ⊢
    simp [go_sem, e1, c0, c1, c2, c3, c4]
    exact hK _ _ (Below.refl _ _) rfl) <|
      allOps_cons (fun a' w' hb hs hd => rg_op fun K hK => by
    have e1 := (hs.get 1 (by kernel_rfl)).trans (show _ = .slice A n c from rfl)
    clear hs hd
    unfold Oper.wp
    generalize a'.eval = ρ at e1 ⊢
    simp [go_sem, e1]
    exact hK _ _ (Below.refl _ _) rfl) <|
      allOps_cons (fun a' w' hb hs hd => by
    exact rg_fn (φ := (mpIA n xs).p) (vs := #[.slice A n c]) rfl (enters_of Try.func20 (by kernel_rfl) rfl) (by simp [(show a'.eval (.tmp 41) = .slice A n c from hd.get 1 41 (by kernel_rfl) (by kernel_rfl))]) ((HCI.out w' (HA.out.below hb)).mono (by rintro e w1 ⟨A1, c1, rfl, h1, h2⟩; exact ⟨_, rfl, h2, A1, c1, rfl, h1⟩))) <|
      allOps_cons (fun a' w' hb hs hd => by
    exact rg_fn (φ := (mpTu n ys T 0).p) (vs := #[.agg #[.int .i64 t, .int .i64 lo, .int .i64 hi, .int .i64 st, .int .i64 ra], a'.eval (.tmp 42)]) rfl (enters_of Try.func19 (by kernel_rfl) rfl) (by simp [(show a'.eval (.tmp 40) = .agg #[.int .i64 t, .int .i64 lo, .int .i64 hi, .int .i64 st, .int .i64 ra] from hd.get 0 40 (by kernel_rfl) (by kernel_rfl))]) (by obtain ⟨A1, c1, hv, h1⟩ := (show (mpIA n xs).p (a'.eval (.tmp 42)) w' from hd.get 2 42 (by kernel_rfl) (by kernel_rfl)); rw [hv]; exact (HPT.out w' A1 c1 h1).mono (by rintro e w1 ⟨A2, c2, rfl, h2, h3⟩; exact ⟨_, rfl, h3, A2, c2, rfl, h2⟩))) <|
      allOps_cons (fun a' w' hb hs hd => rg_op fun K hK => by
    have e1 := (show (mpTu n ys T 0).p (a'.eval (.tmp 43)) w' from hd.get 3 43 (by kernel_rfl) (by kernel_rfl))
    clear hs hd
    unfold Oper.wp
    generalize a'.eval = ρ at e1 ⊢
    obtain ⟨A, c, e2, e3⟩ := e1
    simp [go_sem, e2]
    exact hK _ _ (Below.refl _ _) ⟨A, c, rfl, e3⟩) <|
      allOps_cons (fun a' w' hb hs hd => rg_op fun K hK => by
    have e1 := (show (mpTu n ys T 0).p (a'.eval (.tmp 39)) w' from hd.get 4 39 (by kernel_rfl) (by kernel_rfl))
    clear hs hd
    unfold Oper.wp
    generalize a'.eval = ρ at e1 ⊢
    obtain ⟨A, c, e2, e3⟩ := e1
    simp [go_sem, e2]
    exact hK _ _ (Below.refl _ _) ⟨A, c, rfl, e3⟩) <|
      allOps_cons (fun a' w' hb hs hd => rg_op fun K hK => by
    have e1 := (show (mpTu n ys T 0).p (a'.eval (.tmp 39)) w' from hd.get 4 39 (by kernel_rfl) (by kernel_rfl))
    clear hs hd
    unfold Oper.wp
    generalize a'.eval = ρ at e1 ⊢
    obtain ⟨A, c, e2, e3⟩ := e1
    simp [go_sem, e2]
    exact hK _ _ (Below.refl _ _) rfl) <|
      allOps_cons (fun a' w' hb hs hd => rg_op fun K hK => by
    have e1 := (show (mpTu n ys T 0).p (a'.eval (.tmp 39)) w' from hd.get 4 39 (by kernel_rfl) (by kernel_rfl))
    clear hs hd
    unfold Oper.wp
    generalize a'.eval = ρ at e1 ⊢
    obtain ⟨A, c, e2, e3⟩ := e1
    simp [go_sem, e2]
    exact hK _ _ (Below.refl _ _) rfl) <|
      allOps_cons (fun a' w' hb hs hd => rg_op fun K hK => by
    have e1 := (show (mpIA n ys).p (a'.eval (.tmp 44)) w' from hd.get 5 44 (by kernel_rfl) (by kernel_rfl))
    clear hs hd
    unfold Oper.wp
    generalize a'.eval = ρ at e1 ⊢
    obtain ⟨A, c, e2, e3⟩ := e1
    simp [go_sem, e2]
    exact hK _ _ (Below.refl _ _) ⟨A, c, rfl, e3⟩) <|
      allOps_cons (fun a' w' hb hs hd => rg_op fun K hK => by
    have e1 := (show a'.eval (.tmp 45) = .int .i64 T from hd.get 6 45 (by kernel_rfl) (by kernel_rfl))
    clear hs hd
    unfold Oper.wp
    generalize a'.eval = ρ at e1 ⊢
    simp [go_sem, e1]
    exact hK _ _ (Below.refl _ _) rfl) <|
      allOps_cons (fun a' w' hb hs hd => rg_op fun K hK => by
    have e1 := (show a'.eval (.tmp 46) = .int .i64 0 from hd.get 7 46 (by kernel_rfl) (by kernel_rfl))
    clear hs hd
    unfold Oper.wp
    generalize a'.eval = ρ at e1 ⊢
    simp [go_sem, e1]
    exact hK _ _ (Below.refl _ _) rfl) <| allOps_nil) (fun Q w4 hb4 hall => ?_)
  obtain ⟨Am, cm, h6, him⟩ := (show (mpIA n ys).p (Q 6) w4 from hall.get 8 rfl)
  have h7 : Q 7 = .int .i64 T := hall.get 9 rfl
  have h8 : Q 8 = .int .i64 0 := hall.get 10 rfl
  have HM := Lib.hid him
  clear hall him
  simp only [mq0, maskPut, Nat.reduceAdd]
  rw [h6, h7, h8]
  clear h6 h7 h8
  replace d0 := keep hb4 d0
  replace d1 := keep hb4 d1
  replace d2 := keep hb4 d2
  replace d3 := keep hb4 d3
  replace d4 := keep hb4 d4
  replace HA := Lib.hid (HA.out.below hb4)
  replace BV := Lib.hid (belowT BV.out hb4)
  clear hb4
  go_wp2_with fail
  refine wp_region_mp [mpEq (.agg #[.int .i64 t, .int .i64 lo, .int .i64 hi, .int .i64 st, .int .i64 ra]), mpEq (.slice A n c), mpIA n xs, mpEq (.tuple #[.int .i64 0, .int .i64 12]), mpEq (.tuple #[.int .i64 0, .int .i64 12]), mpEq (.int .i64 0), mpEq (.int .i64 12), mpEq (.int .i64 0), mpEq (.int .i64 12)] mq1 (by kernel_rfl) (by kernel_rfl) (by kernel_rfl) (
      allOps_cons (fun a' w' hb hs hd => rg_op fun K hK => by
    have e1 := (hs.get 2 (by kernel_rfl)).trans (show _ = Value.pointer (some ⟨w.heap.size, 0, none⟩) from rfl)
    have c0 := keep hb d0
    have c1 := keep hb d1
    have c2 := keep hb d2
    have c3 := keep hb d3
    have c4 := keep hb d4
    clear hs hd
    unfold Oper.wp
    generalize a'.eval = ρ at e1 ⊢
    simp [go_sem, e1, c0, c1, c2, c3, c4]
    exact hK _ _ (Below.refl _ _) rfl) <|
      allOps_cons (fun a' w' hb hs hd => rg_op fun K hK => by
    have e1 := (hs.get 1 (by kernel_rfl)).trans (show _ = .slice A n c from rfl)
    clear hs hd
    unfold Oper.wp
    generalize a'.eval = ρ at e1 ⊢
    simp [go_sem, e1]
    exact hK _ _ (Below.refl _ _) rfl) <|
      allOps_cons (fun a' w' hb hs hd => by
    exact rg_fn (φ := (mpIA n xs).p) (vs := #[.slice A n c]) rfl (enters_of Try.func20 (by kernel_rfl) rfl) (by simp [(show a'.eval (.tmp 49) = .slice A n c from hd.get 1 49 (by kernel_rfl) (by kernel_rfl))]) ((HCI.out w' (HA.out.below hb)).mono (by rintro e w1 ⟨A1, c1, rfl, h1, h2⟩; exact ⟨_, rfl, h2, A1, c1, rfl, h1⟩))) <|
      allOps_cons (fun a' w' hb hs hd => by
    exact rg_fn (φ := (mpEq (.tuple #[.int .i64 0, .int .i64 12])).p) (vs := #[.agg #[.int .i64 t, .int .i64 lo, .int .i64 hi, .int .i64 st, .int .i64 ra], a'.eval (.tmp 50)]) rfl (enters_of Try.func21 (by kernel_rfl) rfl) (by simp [(show a'.eval (.tmp 48) = .agg #[.int .i64 t, .int .i64 lo, .int .i64 hi, .int .i64 st, .int .i64 ra] from hd.get 0 48 (by kernel_rfl) (by kernel_rfl))]) (by obtain ⟨A1, c1, hv, h1⟩ := (show (mpIA n xs).p (a'.eval (.tmp 50)) w' from hd.get 2 50 (by kernel_rfl) (by kernel_rfl)); rw [hv]; exact (HMR.out w' A1 c1 h1).mono (by rintro e w1 ⟨rfl, h1⟩; exact ⟨_, rfl, h1, rfl⟩))) <|
      allOps_cons (fun a' w' hb hs hd => rg_op fun K hK => by
    have e1 := (show a'.eval (.tmp 51) = .tuple #[.int .i64 0, .int .i64 12] from hd.get 3 51 (by kernel_rfl) (by kernel_rfl))
    clear hs hd
    unfold Oper.wp
    generalize a'.eval = ρ at e1 ⊢
    simp [go_sem, e1]
    exact hK _ _ (Below.refl _ _) rfl) <|
      allOps_cons (fun a' w' hb hs hd => rg_op fun K hK => by
    have e1 := (show a'.eval (.tmp 47) = .tuple #[.int .i64 0, .int .i64 12] from hd.get 4 47 (by kernel_rfl) (by kernel_rfl))
    clear hs hd
    unfold Oper.wp
    generalize a'.eval = ρ at e1 ⊢
    simp [go_sem, e1]
    exact hK _ _ (Below.refl _ _) rfl) <|
      allOps_cons (fun a' w' hb hs hd => rg_op fun K hK => by
    have e1 := (show a'.eval (.tmp 47) = .tuple #[.int .i64 0, .int .i64 12] from hd.get 4 47 (by kernel_rfl) (by kernel_rfl))
    clear hs hd
    unfold Oper.wp
    generalize a'.eval = ρ at e1 ⊢
    simp [go_sem, e1]
    exact hK _ _ (Below.refl _ _) rfl) <|
      allOps_cons (fun a' w' hb hs hd => rg_op fun K hK => by
    have e1 := (show a'.eval (.tmp 52) = .int .i64 0 from hd.get 5 52 (by kernel_rfl) (by kernel_rfl))
    clear hs hd
    unfold Oper.wp
    generalize a'.eval = ρ at e1 ⊢
    simp [go_sem, e1]
    exact hK _ _ (Below.refl _ _) rfl) <|
      allOps_cons (fun a' w' hb hs hd => rg_op fun K hK => by
    have e1 := (show a'.eval (.tmp 53) = .int .i64 12 from hd.get 6 53 (by kernel_rfl) (by kernel_rfl))
    clear hs hd
    unfold Oper.wp
    generalize a'.eval = ρ at e1 ⊢
    simp [go_sem, e1]
    exact hK _ _ (Below.refl _ _) rfl) <| allOps_nil) (fun Q2 w5 hb5 hall => ?_)
  have h9 : Q2 9 = .int .i64 0 := hall.get 7 rfl
  have h10 : Q2 10 = .int .i64 12 := hall.get 8 rfl
  clear hall
  simp only [mq1, maskPut, Nat.reduceAdd]
  rw [h9, h10]
  clear h9 h10
  replace d0 := keep hb5 d0
  replace d1 := keep hb5 d1
  replace d2 := keep hb5 d2
  replace d3 := keep hb5 d3
  replace d4 := keep hb5 d4
  replace HA := Lib.hid (HA.out.below hb5)
  replace HM := Lib.hid (HM.out.below hb5)
  replace BV := Lib.hid (belowT BV.out hb5)
  clear hb5
  go_wp2_with (first
    | (go_at_call 22; (with_reducible refine Calls.mono (HDE.out _) ?_); rintro e w6 ⟨rfl, hb6⟩; replace d0 := keep hb6 d0; replace d1 := keep hb6 d1; replace d2 := keep hb6 d2; replace d3 := keep hb6 d3; replace d4 := keep hb6 d4; replace HA := Lib.hid (HA.out.below hb6); replace HM := Lib.hid (HM.out.below hb6); replace BV := Lib.hid (belowT BV.out hb6); clear hb6)
    | (go_at_call 23; (with_reducible refine Calls.mono (HTE.out _ HA.out) ?_); rintro e w7 ⟨rfl, hb7⟩; replace d0 := keep hb7 d0; replace d1 := keep hb7 d1; replace d2 := keep hb7 d2; replace d3 := keep hb7 d3; replace d4 := keep hb7 d4; replace HA := Lib.hid (HA.out.below hb7); replace HM := Lib.hid (HM.out.below hb7); replace BV := Lib.hid (belowT BV.out hb7); clear hb7)
    | (go_at_call 24; (with_reducible refine Calls.mono (HRP.out _ HA.out) ?_); rintro e w8 ⟨A3, c3, rfl, hi3, hb8⟩; replace d0 := keep hb8 d0; replace d1 := keep hb8 d1; replace d2 := keep hb8 d2; replace d3 := keep hb8 d3; replace d4 := keep hb8 d4; replace HA := Lib.hid (HA.out.below hb8); replace HM := Lib.hid (HM.out.below hb8); replace BV := Lib.hid (belowT BV.out hb8); have HI3 := Lib.hid hi3; clear hi3; clear hb8)
    | (go_at_call 25; (with_reducible refine Calls.mono (HIN.out _ _ _ _ _ HM.out HI3.out) ?_); rintro e w9 ⟨rfl, hb9⟩; replace d0 := keep hb9 d0; replace d1 := keep hb9 d1; replace d2 := keep hb9 d2; replace d3 := keep hb9 d3; replace d4 := keep hb9 d4; replace HA := Lib.hid (HA.out.below hb9); replace HM := Lib.hid (HM.out.below hb9); replace HI3 := Lib.hid (HI3.out.below hb9); replace BV := Lib.hid (belowT BV.out hb9); clear hb9)
    | (go_at_call 26; (with_reducible refine Calls.mono (HRR.out _ HA.out) ?_); rintro e w10 ⟨rfl, hb10⟩; replace d0 := keep hb10 d0; replace d1 := keep hb10 d1; replace d2 := keep hb10 d2; replace d3 := keep hb10 d3; replace d4 := keep hb10 d4; replace HA := Lib.hid (HA.out.below hb10); replace HM := Lib.hid (HM.out.below hb10); replace HI3 := Lib.hid (HI3.out.below hb10); replace BV := Lib.hid (belowT BV.out hb10); clear hb10)
    | fail)
  go_ret
  exact ⟨ret_bool (by simp), BV.out⟩
set_option maxRecDepth 100000 in
set_option maxHeartbeats 4000000 in
theorem pm_ny (t lo hi st ra : Int) (A : Option Addr) (n c : Nat) (xs : Nat → Int) (w : World) (hA : IA w A n xs) {rr : Int} {ys : Nat → Int} (hn : n ≤ 12) (hRM : ∀ W, Calls Try.prog 17 #[.agg #[.int .i64 t, .int .i64 lo, .int .i64 hi, .int .i64 st, .int .i64 ra]] W fun e w' => e = .returned (.bool true) ∧ Below W.heap.size W w') (hCD : ∀ W, Calls Try.prog 18 #[.agg #[.int .i64 t, .int .i64 lo, .int .i64 hi, .int .i64 st, .int .i64 ra]] W fun e w' => e = .returned (.int .i64 0) ∧ Below W.heap.size W w') (hCI : ∀ W, IA W A n xs → Calls Try.prog 20 #[.slice A n c] W fun e w' => ∃ A' c', e = .returned (.slice A' n c') ∧ IA w' A' n xs ∧ Below W.heap.size W w') (hPT : ∀ W A' c', IA W A' n xs → Calls Try.prog 19 #[.agg #[.int .i64 t, .int .i64 lo, .int .i64 hi, .int .i64 st, .int .i64 ra], .slice A' n c'] W fun e w' => ∃ A2 c2, e = .returned (.tuple #[.slice A2 0 c2, .int .i64 0, .int .i64 12]) ∧ IA w' A2 0 ys ∧ Below W.heap.size W w') (hMR : ∀ W A' c', IA W A' n xs → Calls Try.prog 21 #[.agg #[.int .i64 t, .int .i64 lo, .int .i64 hi, .int .i64 st, .int .i64 ra], .slice A' n c'] W fun e w' => e = .returned (.tuple #[.int .i64 rr, .int .i64 0]) ∧ Below W.heap.size W w') (hDE : ∀ W, Calls Try.prog 22 #[.agg #[.int .i64 t, .int .i64 lo, .int .i64 hi, .int .i64 st, .int .i64 ra]] W fun e w' => e = .returned (.int .i64 0) ∧ Below W.heap.size W w') (hTE : ∀ W, IA W A n xs → Calls Try.prog 23 #[.agg #[.int .i64 t, .int .i64 lo, .int .i64 hi, .int .i64 st, .int .i64 ra], .slice A n c] W fun e w' => e = .returned (.int .i64 0) ∧ Below W.heap.size W w') (hRP : ∀ W, IA W A n xs → Calls Try.prog 24 #[.agg #[.int .i64 t, .int .i64 lo, .int .i64 hi, .int .i64 st, .int .i64 ra], .slice A n c] W fun e w' => ∃ A3 c3, e = .returned (.tuple #[.slice A3 0 c3, .int .i64 0, .bool false]) ∧ IA w' A3 0 ys ∧ Below W.heap.size W w') (hRR : ∀ W, IA W A n xs → Calls Try.prog 26 #[.agg #[.int .i64 t, .int .i64 lo, .int .i64 hi, .int .i64 st, .int .i64 ra], .slice A n c] W fun e w' => e = .returned (.tuple #[.int .i64 rr, .bool true]) ∧ Below W.heap.size W w') :
    Calls Try.prog 4 #[.agg #[.int .i64 t, .int .i64 lo, .int .i64 hi, .int .i64 st, .int .i64 ra], .slice A n c] w fun e w' => e = .returned (.bool true) ∧ Below w.heap.size w w' := by
  have HA := Lib.hid hA
  have HRM := Lib.hid hRM
  have HCD := Lib.hid hCD
  have HCI := Lib.hid hCI
  have HPT := Lib.hid hPT
  have HMR := Lib.hid hMR
  have HDE := Lib.hid hDE
  have HTE := Lib.hid hTE
  have HRP := Lib.hid hRP
  have HRR := Lib.hid hRR
  clear hA hRM hCD hCI hPT hMR hDE hTE hRP hRR
  go_enter Try.func4, Try.ntmps4
  go_upto_region 6 with (first
    | (go_at_call 6; (with_reducible refine Calls.mono (awake_any _) ?_); rintro e w1 ⟨rfl, hb1⟩; have BV := Lib.hid (belowT (show Below w.heap.size w _ by (repeat (first | with_reducible exact Below.refl _ _ | with_reducible assumption | with_reducible refine Below.alloc ?_ (by first | (simp; done) | (simp; omega) | omega) _ | with_reducible refine Below.setCell ?_ (by first | (simp; done) | (simp; omega) | omega) _ | with_reducible refine Below.drew ?_ | with_reducible refine below_drewN ?_ _))) hb1); have d0 := keep hb1 (b := w.heap.size) (o := 0) (v := .int .i64 t) (by simp [go_sem]); have d1 := keep hb1 (b := w.heap.size) (o := 1) (v := .int .i64 lo) (by simp [go_sem]); have d2 := keep hb1 (b := w.heap.size) (o := 2) (v := .int .i64 hi) (by simp [go_sem]); have d3 := keep hb1 (b := w.heap.size) (o := 3) (v := .int .i64 st) (by simp [go_sem]); have d4 := keep hb1 (b := w.heap.size) (o := 4) (v := .int .i64 ra) (by simp [go_sem]); replace HA := Lib.hid (HA.out.below BV.out); clear hb1)
    | (go_at_call 17; (with_reducible refine Calls.mono (HRM.out _) ?_); rintro e w2 ⟨rfl, hb2⟩; replace d0 := keep hb2 d0; replace d1 := keep hb2 d1; replace d2 := keep hb2 d2; replace d3 := keep hb2 d3; replace d4 := keep hb2 d4; replace HA := Lib.hid (HA.out.below hb2); replace BV := Lib.hid (belowT BV.out hb2); clear hb2)
    | (go_at_call 18; (with_reducible refine Calls.mono (HCD.out _) ?_); rintro e w3 ⟨rfl, hb3⟩; replace d0 := keep hb3 d0; replace d1 := keep hb3 d1; replace d2 := keep hb3 d2; replace d3 := keep hb3 d3; replace d4 := keep hb3 d4; replace HA := Lib.hid (HA.out.below hb3); replace BV := Lib.hid (belowT BV.out hb3); clear hb3)
    | fail)
  refine wp_region_mp [mpEq (.agg #[.int .i64 t, .int .i64 lo, .int .i64 hi, .int .i64 st, .int .i64 ra]), mpEq (.slice A n c), mpIA n xs, mpTu 0 ys 0 12, mpTu 0 ys 0 12, mpIA 0 ys, mpEq (.int .i64 0), mpEq (.int .i64 12), mpIA 0 ys, mpEq (.int .i64 0), mpEq (.int .i64 12)] mq0 (by kernel_rfl) (by kernel_rfl) (by kernel_rfl) (
      allOps_cons (fun a' w' hb hs hd => rg_op fun K hK => by
    have e1 := (hs.get 2 (by kernel_rfl)).trans (show _ = Value.pointer (some ⟨w.heap.size, 0, none⟩) from rfl)
    have c0 := keep hb d0
    have c1 := keep hb d1
    have c2 := keep hb d2
    have c3 := keep hb d3
    have c4 := keep hb d4
    clear hs hd
    unfold Oper.wp
    generalize a'.eval = ρ at e1 ⊢
    simp [go_sem, e1, c0, c1, c2, c3, c4]
    exact hK _ _ (Below.refl _ _) rfl) <|
      allOps_cons (fun a' w' hb hs hd => rg_op fun K hK => by
    have e1 := (hs.get 1 (by kernel_rfl)).trans (show _ = .slice A n c from rfl)
    clear hs hd
    unfold Oper.wp
    generalize a'.eval = ρ at e1 ⊢
    simp [go_sem, e1]
    exact hK _ _ (Below.refl _ _) rfl) <|
      allOps_cons (fun a' w' hb hs hd => by
    exact rg_fn (φ := (mpIA n xs).p) (vs := #[.slice A n c]) rfl (enters_of Try.func20 (by kernel_rfl) rfl) (by simp [(show a'.eval (.tmp 41) = .slice A n c from hd.get 1 41 (by kernel_rfl) (by kernel_rfl))]) ((HCI.out w' (HA.out.below hb)).mono (by rintro e w1 ⟨A1, c1, rfl, h1, h2⟩; exact ⟨_, rfl, h2, A1, c1, rfl, h1⟩))) <|
      allOps_cons (fun a' w' hb hs hd => by
    exact rg_fn (φ := (mpTu 0 ys 0 12).p) (vs := #[.agg #[.int .i64 t, .int .i64 lo, .int .i64 hi, .int .i64 st, .int .i64 ra], a'.eval (.tmp 42)]) rfl (enters_of Try.func19 (by kernel_rfl) rfl) (by simp [(show a'.eval (.tmp 40) = .agg #[.int .i64 t, .int .i64 lo, .int .i64 hi, .int .i64 st, .int .i64 ra] from hd.get 0 40 (by kernel_rfl) (by kernel_rfl))]) (by obtain ⟨A1, c1, hv, h1⟩ := (show (mpIA n xs).p (a'.eval (.tmp 42)) w' from hd.get 2 42 (by kernel_rfl) (by kernel_rfl)); rw [hv]; exact (HPT.out w' A1 c1 h1).mono (by rintro e w1 ⟨A2, c2, rfl, h2, h3⟩; exact ⟨_, rfl, h3, A2, c2, rfl, h2⟩))) <|
      allOps_cons (fun a' w' hb hs hd => rg_op fun K hK => by
    have e1 := (show (mpTu 0 ys 0 12).p (a'.eval (.tmp 43)) w' from hd.get 3 43 (by kernel_rfl) (by kernel_rfl))
    clear hs hd
    unfold Oper.wp
    generalize a'.eval = ρ at e1 ⊢
    obtain ⟨A, c, e2, e3⟩ := e1
    simp [go_sem, e2]
    exact hK _ _ (Below.refl _ _) ⟨A, c, rfl, e3⟩) <|
      allOps_cons (fun a' w' hb hs hd => rg_op fun K hK => by
    have e1 := (show (mpTu 0 ys 0 12).p (a'.eval (.tmp 39)) w' from hd.get 4 39 (by kernel_rfl) (by kernel_rfl))
    clear hs hd
    unfold Oper.wp
    generalize a'.eval = ρ at e1 ⊢
    obtain ⟨A, c, e2, e3⟩ := e1
    simp [go_sem, e2]
    exact hK _ _ (Below.refl _ _) ⟨A, c, rfl, e3⟩) <|
      allOps_cons (fun a' w' hb hs hd => rg_op fun K hK => by
    have e1 := (show (mpTu 0 ys 0 12).p (a'.eval (.tmp 39)) w' from hd.get 4 39 (by kernel_rfl) (by kernel_rfl))
    clear hs hd
    unfold Oper.wp
    generalize a'.eval = ρ at e1 ⊢
    obtain ⟨A, c, e2, e3⟩ := e1
    simp [go_sem, e2]
    exact hK _ _ (Below.refl _ _) rfl) <|
      allOps_cons (fun a' w' hb hs hd => rg_op fun K hK => by
    have e1 := (show (mpTu 0 ys 0 12).p (a'.eval (.tmp 39)) w' from hd.get 4 39 (by kernel_rfl) (by kernel_rfl))
    clear hs hd
    unfold Oper.wp
    generalize a'.eval = ρ at e1 ⊢
    obtain ⟨A, c, e2, e3⟩ := e1
    simp [go_sem, e2]
    exact hK _ _ (Below.refl _ _) rfl) <|
      allOps_cons (fun a' w' hb hs hd => rg_op fun K hK => by
    have e1 := (show (mpIA 0 ys).p (a'.eval (.tmp 44)) w' from hd.get 5 44 (by kernel_rfl) (by kernel_rfl))
    clear hs hd
    unfold Oper.wp
    generalize a'.eval = ρ at e1 ⊢
    obtain ⟨A, c, e2, e3⟩ := e1
    simp [go_sem, e2]
    exact hK _ _ (Below.refl _ _) ⟨A, c, rfl, e3⟩) <|
      allOps_cons (fun a' w' hb hs hd => rg_op fun K hK => by
    have e1 := (show a'.eval (.tmp 45) = .int .i64 0 from hd.get 6 45 (by kernel_rfl) (by kernel_rfl))
    clear hs hd
    unfold Oper.wp
    generalize a'.eval = ρ at e1 ⊢
    simp [go_sem, e1]
    exact hK _ _ (Below.refl _ _) rfl) <|
      allOps_cons (fun a' w' hb hs hd => rg_op fun K hK => by
    have e1 := (show a'.eval (.tmp 46) = .int .i64 12 from hd.get 7 46 (by kernel_rfl) (by kernel_rfl))
    clear hs hd
    unfold Oper.wp
    generalize a'.eval = ρ at e1 ⊢
    simp [go_sem, e1]
    exact hK _ _ (Below.refl _ _) rfl) <| allOps_nil) (fun Q w4 hb4 hall => ?_)
  obtain ⟨Am, cm, h6, him⟩ := (show (mpIA 0 ys).p (Q 6) w4 from hall.get 8 rfl)
  have h7 : Q 7 = .int .i64 0 := hall.get 9 rfl
  have h8 : Q 8 = .int .i64 12 := hall.get 10 rfl
  have HM := Lib.hid him
  clear hall him
  simp only [mq0, maskPut, Nat.reduceAdd]
  rw [h6, h7, h8]
  clear h6 h7 h8
  replace d0 := keep hb4 d0
  replace d1 := keep hb4 d1
  replace d2 := keep hb4 d2
  replace d3 := keep hb4 d3
  replace d4 := keep hb4 d4
  replace HA := Lib.hid (HA.out.below hb4)
  replace BV := Lib.hid (belowT BV.out hb4)
  clear hb4
  go_wp2_with fail
  refine wp_region_mp [mpEq (.agg #[.int .i64 t, .int .i64 lo, .int .i64 hi, .int .i64 st, .int .i64 ra]), mpEq (.slice A n c), mpIA n xs, mpEq (.tuple #[.int .i64 rr, .int .i64 0]), mpEq (.tuple #[.int .i64 rr, .int .i64 0]), mpEq (.int .i64 rr), mpEq (.int .i64 0), mpEq (.int .i64 rr), mpEq (.int .i64 0)] mq1 (by kernel_rfl) (by kernel_rfl) (by kernel_rfl) (
      allOps_cons (fun a' w' hb hs hd => rg_op fun K hK => by
    have e1 := (hs.get 2 (by kernel_rfl)).trans (show _ = Value.pointer (some ⟨w.heap.size, 0, none⟩) from rfl)
    have c0 := keep hb d0
    have c1 := keep hb d1
    have c2 := keep hb d2
    have c3 := keep hb d3
    have c4 := keep hb d4
    clear hs hd
    unfold Oper.wp
    generalize a'.eval = ρ at e1 ⊢
    simp [go_sem, e1, c0, c1, c2, c3, c4]
    exact hK _ _ (Below.refl _ _) rfl) <|
      allOps_cons (fun a' w' hb hs hd => rg_op fun K hK => by
    have e1 := (hs.get 1 (by kernel_rfl)).trans (show _ = .slice A n c from rfl)
    clear hs hd
    unfold Oper.wp
    generalize a'.eval = ρ at e1 ⊢
    simp [go_sem, e1]
    exact hK _ _ (Below.refl _ _) rfl) <|
      allOps_cons (fun a' w' hb hs hd => by
    exact rg_fn (φ := (mpIA n xs).p) (vs := #[.slice A n c]) rfl (enters_of Try.func20 (by kernel_rfl) rfl) (by simp [(show a'.eval (.tmp 49) = .slice A n c from hd.get 1 49 (by kernel_rfl) (by kernel_rfl))]) ((HCI.out w' (HA.out.below hb)).mono (by rintro e w1 ⟨A1, c1, rfl, h1, h2⟩; exact ⟨_, rfl, h2, A1, c1, rfl, h1⟩))) <|
      allOps_cons (fun a' w' hb hs hd => by
    exact rg_fn (φ := (mpEq (.tuple #[.int .i64 rr, .int .i64 0])).p) (vs := #[.agg #[.int .i64 t, .int .i64 lo, .int .i64 hi, .int .i64 st, .int .i64 ra], a'.eval (.tmp 50)]) rfl (enters_of Try.func21 (by kernel_rfl) rfl) (by simp [(show a'.eval (.tmp 48) = .agg #[.int .i64 t, .int .i64 lo, .int .i64 hi, .int .i64 st, .int .i64 ra] from hd.get 0 48 (by kernel_rfl) (by kernel_rfl))]) (by obtain ⟨A1, c1, hv, h1⟩ := (show (mpIA n xs).p (a'.eval (.tmp 50)) w' from hd.get 2 50 (by kernel_rfl) (by kernel_rfl)); rw [hv]; exact (HMR.out w' A1 c1 h1).mono (by rintro e w1 ⟨rfl, h1⟩; exact ⟨_, rfl, h1, rfl⟩))) <|
      allOps_cons (fun a' w' hb hs hd => rg_op fun K hK => by
    have e1 := (show a'.eval (.tmp 51) = .tuple #[.int .i64 rr, .int .i64 0] from hd.get 3 51 (by kernel_rfl) (by kernel_rfl))
    clear hs hd
    unfold Oper.wp
    generalize a'.eval = ρ at e1 ⊢
    simp [go_sem, e1]
    exact hK _ _ (Below.refl _ _) rfl) <|
      allOps_cons (fun a' w' hb hs hd => rg_op fun K hK => by
    have e1 := (show a'.eval (.tmp 47) = .tuple #[.int .i64 rr, .int .i64 0] from hd.get 4 47 (by kernel_rfl) (by kernel_rfl))
    clear hs hd
    unfold Oper.wp
    generalize a'.eval = ρ at e1 ⊢
    simp [go_sem, e1]
    exact hK _ _ (Below.refl _ _) rfl) <|
      allOps_cons (fun a' w' hb hs hd => rg_op fun K hK => by
    have e1 := (show a'.eval (.tmp 47) = .tuple #[.int .i64 rr, .int .i64 0] from hd.get 4 47 (by kernel_rfl) (by kernel_rfl))
    clear hs hd
    unfold Oper.wp
    generalize a'.eval = ρ at e1 ⊢
    simp [go_sem, e1]
    exact hK _ _ (Below.refl _ _) rfl) <|
      allOps_cons (fun a' w' hb hs hd => rg_op fun K hK => by
    have e1 := (show a'.eval (.tmp 52) = .int .i64 rr from hd.get 5 52 (by kernel_rfl) (by kernel_rfl))
    clear hs hd
    unfold Oper.wp
    generalize a'.eval = ρ at e1 ⊢
    simp [go_sem, e1]
    exact hK _ _ (Below.refl _ _) rfl) <|
      allOps_cons (fun a' w' hb hs hd => rg_op fun K hK => by
    have e1 := (show a'.eval (.tmp 53) = .int .i64 0 from hd.get 6 53 (by kernel_rfl) (by kernel_rfl))
    clear hs hd
    unfold Oper.wp
    generalize a'.eval = ρ at e1 ⊢
    simp [go_sem, e1]
    exact hK _ _ (Below.refl _ _) rfl) <| allOps_nil) (fun Q2 w5 hb5 hall => ?_)
  have h9 : Q2 9 = .int .i64 rr := hall.get 7 rfl
  have h10 : Q2 10 = .int .i64 0 := hall.get 8 rfl
  clear hall
  simp only [mq1, maskPut, Nat.reduceAdd]
  rw [h9, h10]
  clear h9 h10
  replace d0 := keep hb5 d0
  replace d1 := keep hb5 d1
  replace d2 := keep hb5 d2
  replace d3 := keep hb5 d3
  replace d4 := keep hb5 d4
  replace HA := Lib.hid (HA.out.below hb5)
  replace HM := Lib.hid (HM.out.below hb5)
  replace BV := Lib.hid (belowT BV.out hb5)
  clear hb5
  go_wp2_with (first
    | (go_at_call 22; (with_reducible refine Calls.mono (HDE.out _) ?_); rintro e w6 ⟨rfl, hb6⟩; replace d0 := keep hb6 d0; replace d1 := keep hb6 d1; replace d2 := keep hb6 d2; replace d3 := keep hb6 d3; replace d4 := keep hb6 d4; replace HA := Lib.hid (HA.out.below hb6); replace HM := Lib.hid (HM.out.below hb6); replace BV := Lib.hid (belowT BV.out hb6); clear hb6)
    | (go_at_call 23; (with_reducible refine Calls.mono (HTE.out _ HA.out) ?_); rintro e w7 ⟨rfl, hb7⟩; replace d0 := keep hb7 d0; replace d1 := keep hb7 d1; replace d2 := keep hb7 d2; replace d3 := keep hb7 d3; replace d4 := keep hb7 d4; replace HA := Lib.hid (HA.out.below hb7); replace HM := Lib.hid (HM.out.below hb7); replace BV := Lib.hid (belowT BV.out hb7); clear hb7)
    | (go_at_call 24; (with_reducible refine Calls.mono (HRP.out _ HA.out) ?_); rintro e w8 ⟨A3, c3, rfl, hi3, hb8⟩; replace d0 := keep hb8 d0; replace d1 := keep hb8 d1; replace d2 := keep hb8 d2; replace d3 := keep hb8 d3; replace d4 := keep hb8 d4; replace HA := Lib.hid (HA.out.below hb8); replace HM := Lib.hid (HM.out.below hb8); replace BV := Lib.hid (belowT BV.out hb8); have HI3 := Lib.hid hi3; clear hi3; clear hb8)
    | (go_at_call 26; (with_reducible refine Calls.mono (HRR.out _ HA.out) ?_); rintro e w9 ⟨rfl, hb9⟩; replace d0 := keep hb9 d0; replace d1 := keep hb9 d1; replace d2 := keep hb9 d2; replace d3 := keep hb9 d3; replace d4 := keep hb9 d4; replace HA := Lib.hid (HA.out.below hb9); replace HM := Lib.hid (HM.out.below hb9); replace HI3 := Lib.hid (HI3.out.below hb9); replace BV := Lib.hid (belowT BV.out hb9); clear hb9)
    | fail)
  go_ret
  exact ⟨ret_bool (by simp), BV.out⟩
set_option maxRecDepth 100000 in
set_option maxHeartbeats 4000000 in
theorem pm_nn (t lo hi st ra : Int) (A : Option Addr) (n c : Nat) (xs : Nat → Int) (w : World) (hA : IA w A n xs) {ys : Nat → Int} (hn : n ≤ 12) (hRM : ∀ W, Calls Try.prog 17 #[.agg #[.int .i64 t, .int .i64 lo, .int .i64 hi, .int .i64 st, .int .i64 ra]] W fun e w' => e = .returned (.bool true) ∧ Below W.heap.size W w') (hCD : ∀ W, Calls Try.prog 18 #[.agg #[.int .i64 t, .int .i64 lo, .int .i64 hi, .int .i64 st, .int .i64 ra]] W fun e w' => e = .returned (.int .i64 0) ∧ Below W.heap.size W w') (hCI : ∀ W, IA W A n xs → Calls Try.prog 20 #[.slice A n c] W fun e w' => ∃ A' c', e = .returned (.slice A' n c') ∧ IA w' A' n xs ∧ Below W.heap.size W w') (hPT : ∀ W A' c', IA W A' n xs → Calls Try.prog 19 #[.agg #[.int .i64 t, .int .i64 lo, .int .i64 hi, .int .i64 st, .int .i64 ra], .slice A' n c'] W fun e w' => ∃ A2 c2, e = .returned (.tuple #[.slice A2 0 c2, .int .i64 0, .int .i64 12]) ∧ IA w' A2 0 ys ∧ Below W.heap.size W w') (hMR : ∀ W A' c', IA W A' n xs → Calls Try.prog 21 #[.agg #[.int .i64 t, .int .i64 lo, .int .i64 hi, .int .i64 st, .int .i64 ra], .slice A' n c'] W fun e w' => e = .returned (.tuple #[.int .i64 0, .int .i64 12]) ∧ Below W.heap.size W w') (hDE : ∀ W, Calls Try.prog 22 #[.agg #[.int .i64 t, .int .i64 lo, .int .i64 hi, .int .i64 st, .int .i64 ra]] W fun e w' => e = .returned (.int .i64 0) ∧ Below W.heap.size W w') (hTE : ∀ W, IA W A n xs → Calls Try.prog 23 #[.agg #[.int .i64 t, .int .i64 lo, .int .i64 hi, .int .i64 st, .int .i64 ra], .slice A n c] W fun e w' => e = .returned (.int .i64 0) ∧ Below W.heap.size W w') (hRP : ∀ W, IA W A n xs → Calls Try.prog 24 #[.agg #[.int .i64 t, .int .i64 lo, .int .i64 hi, .int .i64 st, .int .i64 ra], .slice A n c] W fun e w' => ∃ A3 c3, e = .returned (.tuple #[.slice A3 0 c3, .int .i64 0, .bool false]) ∧ IA w' A3 0 ys ∧ Below W.heap.size W w') (hRR : ∀ W, IA W A n xs → Calls Try.prog 26 #[.agg #[.int .i64 t, .int .i64 lo, .int .i64 hi, .int .i64 st, .int .i64 ra], .slice A n c] W fun e w' => e = .returned (.tuple #[.int .i64 0, .bool false]) ∧ Below W.heap.size W w') :
    Calls Try.prog 4 #[.agg #[.int .i64 t, .int .i64 lo, .int .i64 hi, .int .i64 st, .int .i64 ra], .slice A n c] w fun e w' => e = .returned (.bool true) ∧ Below w.heap.size w w' := by
  have HA := Lib.hid hA
  have HRM := Lib.hid hRM
  have HCD := Lib.hid hCD
  have HCI := Lib.hid hCI
  have HPT := Lib.hid hPT
  have HMR := Lib.hid hMR
  have HDE := Lib.hid hDE
  have HTE := Lib.hid hTE
  have HRP := Lib.hid hRP
  have HRR := Lib.hid hRR
  clear hA hRM hCD hCI hPT hMR hDE hTE hRP hRR
  go_enter Try.func4, Try.ntmps4
  go_upto_region 6 with (first
    | (go_at_call 6; (with_reducible refine Calls.mono (awake_any _) ?_); rintro e w1 ⟨rfl, hb1⟩; have BV := Lib.hid (belowT (show Below w.heap.size w _ by (repeat (first | with_reducible exact Below.refl _ _ | with_reducible assumption | with_reducible refine Below.alloc ?_ (by first | (simp; done) | (simp; omega) | omega) _ | with_reducible refine Below.setCell ?_ (by first | (simp; done) | (simp; omega) | omega) _ | with_reducible refine Below.drew ?_ | with_reducible refine below_drewN ?_ _))) hb1); have d0 := keep hb1 (b := w.heap.size) (o := 0) (v := .int .i64 t) (by simp [go_sem]); have d1 := keep hb1 (b := w.heap.size) (o := 1) (v := .int .i64 lo) (by simp [go_sem]); have d2 := keep hb1 (b := w.heap.size) (o := 2) (v := .int .i64 hi) (by simp [go_sem]); have d3 := keep hb1 (b := w.heap.size) (o := 3) (v := .int .i64 st) (by simp [go_sem]); have d4 := keep hb1 (b := w.heap.size) (o := 4) (v := .int .i64 ra) (by simp [go_sem]); replace HA := Lib.hid (HA.out.below BV.out); clear hb1)
    | (go_at_call 17; (with_reducible refine Calls.mono (HRM.out _) ?_); rintro e w2 ⟨rfl, hb2⟩; replace d0 := keep hb2 d0; replace d1 := keep hb2 d1; replace d2 := keep hb2 d2; replace d3 := keep hb2 d3; replace d4 := keep hb2 d4; replace HA := Lib.hid (HA.out.below hb2); replace BV := Lib.hid (belowT BV.out hb2); clear hb2)
    | (go_at_call 18; (with_reducible refine Calls.mono (HCD.out _) ?_); rintro e w3 ⟨rfl, hb3⟩; replace d0 := keep hb3 d0; replace d1 := keep hb3 d1; replace d2 := keep hb3 d2; replace d3 := keep hb3 d3; replace d4 := keep hb3 d4; replace HA := Lib.hid (HA.out.below hb3); replace BV := Lib.hid (belowT BV.out hb3); clear hb3)
    | fail)
  refine wp_region_mp [mpEq (.agg #[.int .i64 t, .int .i64 lo, .int .i64 hi, .int .i64 st, .int .i64 ra]), mpEq (.slice A n c), mpIA n xs, mpTu 0 ys 0 12, mpTu 0 ys 0 12, mpIA 0 ys, mpEq (.int .i64 0), mpEq (.int .i64 12), mpIA 0 ys, mpEq (.int .i64 0), mpEq (.int .i64 12)] mq0 (by kernel_rfl) (by kernel_rfl) (by kernel_rfl) (
      allOps_cons (fun a' w' hb hs hd => rg_op fun K hK => by
    have e1 := (hs.get 2 (by kernel_rfl)).trans (show _ = Value.pointer (some ⟨w.heap.size, 0, none⟩) from rfl)
    have c0 := keep hb d0
    have c1 := keep hb d1
    have c2 := keep hb d2
    have c3 := keep hb d3
    have c4 := keep hb d4
    clear hs hd
    unfold Oper.wp
    generalize a'.eval = ρ at e1 ⊢
    simp [go_sem, e1, c0, c1, c2, c3, c4]
    exact hK _ _ (Below.refl _ _) rfl) <|
      allOps_cons (fun a' w' hb hs hd => rg_op fun K hK => by
    have e1 := (hs.get 1 (by kernel_rfl)).trans (show _ = .slice A n c from rfl)
    clear hs hd
    unfold Oper.wp
    generalize a'.eval = ρ at e1 ⊢
    simp [go_sem, e1]
    exact hK _ _ (Below.refl _ _) rfl) <|
      allOps_cons (fun a' w' hb hs hd => by
    exact rg_fn (φ := (mpIA n xs).p) (vs := #[.slice A n c]) rfl (enters_of Try.func20 (by kernel_rfl) rfl) (by simp [(show a'.eval (.tmp 41) = .slice A n c from hd.get 1 41 (by kernel_rfl) (by kernel_rfl))]) ((HCI.out w' (HA.out.below hb)).mono (by rintro e w1 ⟨A1, c1, rfl, h1, h2⟩; exact ⟨_, rfl, h2, A1, c1, rfl, h1⟩))) <|
      allOps_cons (fun a' w' hb hs hd => by
    exact rg_fn (φ := (mpTu 0 ys 0 12).p) (vs := #[.agg #[.int .i64 t, .int .i64 lo, .int .i64 hi, .int .i64 st, .int .i64 ra], a'.eval (.tmp 42)]) rfl (enters_of Try.func19 (by kernel_rfl) rfl) (by simp [(show a'.eval (.tmp 40) = .agg #[.int .i64 t, .int .i64 lo, .int .i64 hi, .int .i64 st, .int .i64 ra] from hd.get 0 40 (by kernel_rfl) (by kernel_rfl))]) (by obtain ⟨A1, c1, hv, h1⟩ := (show (mpIA n xs).p (a'.eval (.tmp 42)) w' from hd.get 2 42 (by kernel_rfl) (by kernel_rfl)); rw [hv]; exact (HPT.out w' A1 c1 h1).mono (by rintro e w1 ⟨A2, c2, rfl, h2, h3⟩; exact ⟨_, rfl, h3, A2, c2, rfl, h2⟩))) <|
      allOps_cons (fun a' w' hb hs hd => rg_op fun K hK => by
    have e1 := (show (mpTu 0 ys 0 12).p (a'.eval (.tmp 43)) w' from hd.get 3 43 (by kernel_rfl) (by kernel_rfl))
    clear hs hd
    unfold Oper.wp
    generalize a'.eval = ρ at e1 ⊢
    obtain ⟨A, c, e2, e3⟩ := e1
    simp [go_sem, e2]
    exact hK _ _ (Below.refl _ _) ⟨A, c, rfl, e3⟩) <|
      allOps_cons (fun a' w' hb hs hd => rg_op fun K hK => by
    have e1 := (show (mpTu 0 ys 0 12).p (a'.eval (.tmp 39)) w' from hd.get 4 39 (by kernel_rfl) (by kernel_rfl))
    clear hs hd
    unfold Oper.wp
    generalize a'.eval = ρ at e1 ⊢
    obtain ⟨A, c, e2, e3⟩ := e1
    simp [go_sem, e2]
    exact hK _ _ (Below.refl _ _) ⟨A, c, rfl, e3⟩) <|
      allOps_cons (fun a' w' hb hs hd => rg_op fun K hK => by
    have e1 := (show (mpTu 0 ys 0 12).p (a'.eval (.tmp 39)) w' from hd.get 4 39 (by kernel_rfl) (by kernel_rfl))
    clear hs hd
    unfold Oper.wp
    generalize a'.eval = ρ at e1 ⊢
    obtain ⟨A, c, e2, e3⟩ := e1
    simp [go_sem, e2]
    exact hK _ _ (Below.refl _ _) rfl) <|
      allOps_cons (fun a' w' hb hs hd => rg_op fun K hK => by
    have e1 := (show (mpTu 0 ys 0 12).p (a'.eval (.tmp 39)) w' from hd.get 4 39 (by kernel_rfl) (by kernel_rfl))
    clear hs hd
    unfold Oper.wp
    generalize a'.eval = ρ at e1 ⊢
    obtain ⟨A, c, e2, e3⟩ := e1
    simp [go_sem, e2]
    exact hK _ _ (Below.refl _ _) rfl) <|
      allOps_cons (fun a' w' hb hs hd => rg_op fun K hK => by
    have e1 := (show (mpIA 0 ys).p (a'.eval (.tmp 44)) w' from hd.get 5 44 (by kernel_rfl) (by kernel_rfl))
    clear hs hd
    unfold Oper.wp
    generalize a'.eval = ρ at e1 ⊢
    obtain ⟨A, c, e2, e3⟩ := e1
    simp [go_sem, e2]
    exact hK _ _ (Below.refl _ _) ⟨A, c, rfl, e3⟩) <|
      allOps_cons (fun a' w' hb hs hd => rg_op fun K hK => by
    have e1 := (show a'.eval (.tmp 45) = .int .i64 0 from hd.get 6 45 (by kernel_rfl) (by kernel_rfl))
    clear hs hd
    unfold Oper.wp
    generalize a'.eval = ρ at e1 ⊢
    simp [go_sem, e1]
    exact hK _ _ (Below.refl _ _) rfl) <|
      allOps_cons (fun a' w' hb hs hd => rg_op fun K hK => by
    have e1 := (show a'.eval (.tmp 46) = .int .i64 12 from hd.get 7 46 (by kernel_rfl) (by kernel_rfl))
    clear hs hd
    unfold Oper.wp
    generalize a'.eval = ρ at e1 ⊢
    simp [go_sem, e1]
    exact hK _ _ (Below.refl _ _) rfl) <| allOps_nil) (fun Q w4 hb4 hall => ?_)
  obtain ⟨Am, cm, h6, him⟩ := (show (mpIA 0 ys).p (Q 6) w4 from hall.get 8 rfl)
  have h7 : Q 7 = .int .i64 0 := hall.get 9 rfl
  have h8 : Q 8 = .int .i64 12 := hall.get 10 rfl
  have HM := Lib.hid him
  clear hall him
  simp only [mq0, maskPut, Nat.reduceAdd]
  rw [h6, h7, h8]
  clear h6 h7 h8
  replace d0 := keep hb4 d0
  replace d1 := keep hb4 d1
  replace d2 := keep hb4 d2
  replace d3 := keep hb4 d3
  replace d4 := keep hb4 d4
  replace HA := Lib.hid (HA.out.below hb4)
  replace BV := Lib.hid (belowT BV.out hb4)
  clear hb4
  go_wp2_with fail
  refine wp_region_mp [mpEq (.agg #[.int .i64 t, .int .i64 lo, .int .i64 hi, .int .i64 st, .int .i64 ra]), mpEq (.slice A n c), mpIA n xs, mpEq (.tuple #[.int .i64 0, .int .i64 12]), mpEq (.tuple #[.int .i64 0, .int .i64 12]), mpEq (.int .i64 0), mpEq (.int .i64 12), mpEq (.int .i64 0), mpEq (.int .i64 12)] mq1 (by kernel_rfl) (by kernel_rfl) (by kernel_rfl) (
      allOps_cons (fun a' w' hb hs hd => rg_op fun K hK => by
    have e1 := (hs.get 2 (by kernel_rfl)).trans (show _ = Value.pointer (some ⟨w.heap.size, 0, none⟩) from rfl)
    have c0 := keep hb d0
    have c1 := keep hb d1
    have c2 := keep hb d2
    have c3 := keep hb d3
    have c4 := keep hb d4
    clear hs hd
    unfold Oper.wp
    generalize a'.eval = ρ at e1 ⊢
    simp [go_sem, e1, c0, c1, c2, c3, c4]
    exact hK _ _ (Below.refl _ _) rfl) <|
      allOps_cons (fun a' w' hb hs hd => rg_op fun K hK => by
    have e1 := (hs.get 1 (by kernel_rfl)).trans (show _ = .slice A n c from rfl)
    clear hs hd
    unfold Oper.wp
    generalize a'.eval = ρ at e1 ⊢
    simp [go_sem, e1]
    exact hK _ _ (Below.refl _ _) rfl) <|
      allOps_cons (fun a' w' hb hs hd => by
    exact rg_fn (φ := (mpIA n xs).p) (vs := #[.slice A n c]) rfl (enters_of Try.func20 (by kernel_rfl) rfl) (by simp [(show a'.eval (.tmp 49) = .slice A n c from hd.get 1 49 (by kernel_rfl) (by kernel_rfl))]) ((HCI.out w' (HA.out.below hb)).mono (by rintro e w1 ⟨A1, c1, rfl, h1, h2⟩; exact ⟨_, rfl, h2, A1, c1, rfl, h1⟩))) <|
      allOps_cons (fun a' w' hb hs hd => by
    exact rg_fn (φ := (mpEq (.tuple #[.int .i64 0, .int .i64 12])).p) (vs := #[.agg #[.int .i64 t, .int .i64 lo, .int .i64 hi, .int .i64 st, .int .i64 ra], a'.eval (.tmp 50)]) rfl (enters_of Try.func21 (by kernel_rfl) rfl) (by simp [(show a'.eval (.tmp 48) = .agg #[.int .i64 t, .int .i64 lo, .int .i64 hi, .int .i64 st, .int .i64 ra] from hd.get 0 48 (by kernel_rfl) (by kernel_rfl))]) (by obtain ⟨A1, c1, hv, h1⟩ := (show (mpIA n xs).p (a'.eval (.tmp 50)) w' from hd.get 2 50 (by kernel_rfl) (by kernel_rfl)); rw [hv]; exact (HMR.out w' A1 c1 h1).mono (by rintro e w1 ⟨rfl, h1⟩; exact ⟨_, rfl, h1, rfl⟩))) <|
      allOps_cons (fun a' w' hb hs hd => rg_op fun K hK => by
    have e1 := (show a'.eval (.tmp 51) = .tuple #[.int .i64 0, .int .i64 12] from hd.get 3 51 (by kernel_rfl) (by kernel_rfl))
    clear hs hd
    unfold Oper.wp
    generalize a'.eval = ρ at e1 ⊢
    simp [go_sem, e1]
    exact hK _ _ (Below.refl _ _) rfl) <|
      allOps_cons (fun a' w' hb hs hd => rg_op fun K hK => by
    have e1 := (show a'.eval (.tmp 47) = .tuple #[.int .i64 0, .int .i64 12] from hd.get 4 47 (by kernel_rfl) (by kernel_rfl))
    clear hs hd
    unfold Oper.wp
    generalize a'.eval = ρ at e1 ⊢
    simp [go_sem, e1]
    exact hK _ _ (Below.refl _ _) rfl) <|
      allOps_cons (fun a' w' hb hs hd => rg_op fun K hK => by
    have e1 := (show a'.eval (.tmp 47) = .tuple #[.int .i64 0, .int .i64 12] from hd.get 4 47 (by kernel_rfl) (by kernel_rfl))
    clear hs hd
    unfold Oper.wp
    generalize a'.eval = ρ at e1 ⊢
    simp [go_sem, e1]
    exact hK _ _ (Below.refl _ _) rfl) <|
      allOps_cons (fun a' w' hb hs hd => rg_op fun K hK => by
    have e1 := (show a'.eval (.tmp 52) = .int .i64 0 from hd.get 5 52 (by kernel_rfl) (by kernel_rfl))
    clear hs hd
    unfold Oper.wp
    generalize a'.eval = ρ at e1 ⊢
    simp [go_sem, e1]
    exact hK _ _ (Below.refl _ _) rfl) <|
      allOps_cons (fun a' w' hb hs hd => rg_op fun K hK => by
    have e1 := (show a'.eval (.tmp 53) = .int .i64 12 from hd.get 6 53 (by kernel_rfl) (by kernel_rfl))
    clear hs hd
    unfold Oper.wp
    generalize a'.eval = ρ at e1 ⊢
    simp [go_sem, e1]
    exact hK _ _ (Below.refl _ _) rfl) <| allOps_nil) (fun Q2 w5 hb5 hall => ?_)
  have h9 : Q2 9 = .int .i64 0 := hall.get 7 rfl
  have h10 : Q2 10 = .int .i64 12 := hall.get 8 rfl
  clear hall
  simp only [mq1, maskPut, Nat.reduceAdd]
  rw [h9, h10]
  clear h9 h10
  replace d0 := keep hb5 d0
  replace d1 := keep hb5 d1
  replace d2 := keep hb5 d2
  replace d3 := keep hb5 d3
  replace d4 := keep hb5 d4
  replace HA := Lib.hid (HA.out.below hb5)
  replace HM := Lib.hid (HM.out.below hb5)
  replace BV := Lib.hid (belowT BV.out hb5)
  clear hb5
  go_wp2_with (first
    | (go_at_call 22; (with_reducible refine Calls.mono (HDE.out _) ?_); rintro e w6 ⟨rfl, hb6⟩; replace d0 := keep hb6 d0; replace d1 := keep hb6 d1; replace d2 := keep hb6 d2; replace d3 := keep hb6 d3; replace d4 := keep hb6 d4; replace HA := Lib.hid (HA.out.below hb6); replace HM := Lib.hid (HM.out.below hb6); replace BV := Lib.hid (belowT BV.out hb6); clear hb6)
    | (go_at_call 23; (with_reducible refine Calls.mono (HTE.out _ HA.out) ?_); rintro e w7 ⟨rfl, hb7⟩; replace d0 := keep hb7 d0; replace d1 := keep hb7 d1; replace d2 := keep hb7 d2; replace d3 := keep hb7 d3; replace d4 := keep hb7 d4; replace HA := Lib.hid (HA.out.below hb7); replace HM := Lib.hid (HM.out.below hb7); replace BV := Lib.hid (belowT BV.out hb7); clear hb7)
    | (go_at_call 24; (with_reducible refine Calls.mono (HRP.out _ HA.out) ?_); rintro e w8 ⟨A3, c3, rfl, hi3, hb8⟩; replace d0 := keep hb8 d0; replace d1 := keep hb8 d1; replace d2 := keep hb8 d2; replace d3 := keep hb8 d3; replace d4 := keep hb8 d4; replace HA := Lib.hid (HA.out.below hb8); replace HM := Lib.hid (HM.out.below hb8); replace BV := Lib.hid (belowT BV.out hb8); have HI3 := Lib.hid hi3; clear hi3; clear hb8)
    | (go_at_call 26; (with_reducible refine Calls.mono (HRR.out _ HA.out) ?_); rintro e w9 ⟨rfl, hb9⟩; replace d0 := keep hb9 d0; replace d1 := keep hb9 d1; replace d2 := keep hb9 d2; replace d3 := keep hb9 d3; replace d4 := keep hb9 d4; replace HA := Lib.hid (HA.out.below hb9); replace HM := Lib.hid (HM.out.below hb9); replace HI3 := Lib.hid (HI3.out.below hb9); replace BV := Lib.hid (belowT BV.out hb9); clear hb9)
    | fail)
  go_ret
  exact ⟨ret_bool (by simp), BV.out⟩
end Go.Proofs.Ytmhcmiajikffpaa
