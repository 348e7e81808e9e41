/- Helpers: the law PathWindows where view and grid are valid. No condition but the hypotheses. -/
import Derived.Test.YtnfoagcpgegldaaGreatB30
import Derived.Outline
namespace Go.Proofs.YtnfoagcpgegldaaGreat
open Go.RowKit Go.Shelf Go.Sort
attribute [local go_sem] idx3_0 idx3_1 idx3_2 old1 fro1 old2 fro2 old3 fro3 old4 fro4 old5 fro5 old6 fro6 old7 fro7 old8 fro8 old9 fro9 old10 fro10 old11 fro11 old12 fro12
def my0 : List Bool := [false, false, false, false, false, true, true, false, false, false, false, false, false, false, false, false, false, false, false, false, false, false, false, true, true, true, true, true, true, true, false, false, false, false, false, false, false, false, false, false, false, false, false, false, false, false, false, false, false, false, false, false, false, false, false, false, false, false, false, false, false, false, false, false, false, false, false, false, false, false, false, false, false, false, false, false, false, false, false, false, false, false, false, false, false, false, false, false, false, false, false, false, false, false, false, false, false, false, false, false, false, false, false, false, false, false, false, false, false, false, false, false, false, false, false, false, false, false, false, false, false, false, false, false, false, false, false, false, false, false, false, false, false, false, false, false, false, false, false, false, false, false, false, false, false, false, false, false, false, false, false, false, false, false, false, false, false, false, false, false, false]
def my1 : List Bool := [false, false, false, false, false, false, false, false, false, false, false, true, true, false, false, false, false, false, false, false, false, false, false, false, false, false, false, false, false, false, false, false, false, false, false, false, false, false, false, false, false, false, false, false, false, false, false, false, false, false, false, false, false, false, false, false, false, false, false, false, false, false, false, false, false, false, false, false, false, false, false, false, false, false, false, false, false, false, false, false, false, false, false, false, false, false, false, false, false, false, false, false, false, false, false, false, false, false, false, false, false, false, false, false, false, false, false, false, false, false, false, false, false, false, false, false, false, false, false, false, false, false, false, false, false, false, false, true, true, true, true, true, true, true, true, true, true, true, true, true, false, false, false, false, false, false, false, false, false, false, false, false, false, false, false, false, false, false, false, false, false]
def my2 : List Bool := [false, false, false, false, false, false, false, false, false, false, false, false, false, false, false, false, false, false, false, false, false, false, false, false, false, false, false, false, false, false, false, false, false, false, false, false, false, false, false, false, false, false, false, false, false, false, false, false, false, false, false, false, false, false, false, false, false, false, false, false, false, false, false, false, false, false, false, false, false, false, false, false, false, false, false, true, true, true, true, true, true, true, true, true, true, true, true, true, true, true, true, true, true, true, true, true, true, true, true, true, true, true, true, true, true, true, true, true, true, true, true, true, true, false, false, false, false, false, false, false, false, false, false, false, false, false, false, false, false, false, false, false, false, false, false, false, false, false, false, false, false, false, false, false, false, false, false, false, false, false, false, false, false, false, false, false, false, false, false, false, false]
/-- what the rounds of the law keep -/
def LR (w : World) (ux uy uz : Int) (C SA SB : Option Addr) (n c na ca nb cb : Nat) (da db fr st : Int) (q : Nat) (k : Nat → Cone) (ka kb : Nat → Knot) (f : Nat → Int) (S : WS) (A : Option Addr) (wr : World) : Prop :=
  RW w ux uy uz C SA SB n c na ca nb cb da db fr st q wr ∧ KC wr C n k ∧ KA wr SA na ka ∧ KA wr SB nb kb ∧ WinAt wr A f S
theorem LR.to {w : World} {ux uy uz : Int} {C SA SB : Option Addr} {n c na ca nb cb : Nat} {da db fr st : Int} {q : Nat} {k : Nat → Cone} {ka kb : Nat → Knot} {f : Nat → Int} {S : WS} {A : Option Addr} {wr w1 : World} (h : LR w ux uy uz C SA SB n c na ca nb cb da db fr st q k ka kb f S A wr) (hb : Below wr.heap.size wr w1) : LR w ux uy uz C SA SB n c na ca nb cb da db fr st q k ka kb f S A w1 :=
  ⟨h.1.to (hb.mono h.1.2.1), h.2.1.bel hb, h.2.2.1.bel hb, h.2.2.2.1.bel hb, h.2.2.2.2.below hb⟩
def wnx (S : WS) (q j : Nat) : Nat := if j < S.m then S.F j else q
theorem wnx_s {f : Nat → Int} {q j : Nat} {S : WS} (h : WOk f q S) (hj : j < S.m) : wnx S q (j + 1) = S.L j + 1 := by
  unfold wnx
  by_cases h1 : j + 1 < S.m
  · rw [if_pos h1]
    exact h.nxt j h1
  · rw [if_neg h1]
    exact (h.lst j (by omega)).symm
set_option maxRecDepth 100000 in
set_option maxHeartbeats 8000000 in
theorem pw_m (ux uy uz : Int) (C SA SB : Option Addr) (n c na ca nb cb : Nat) (da db fr st : Int) (q : Nat) (f tt P : Nat → Int) (k : Nat → Cone) (ka kb : Nat → Knot) (w : World) (hC : KC w C n k) (hA : KA w SA na ka) (hB : KA w SB nb kb) (hVW : ∀ W, Calls Tryz.prog 33 #[.agg #[.int .i64 ux, .int .i64 uy, .int .i64 uz, .slice C n c, .slice SA na ca, .int .i64 da, .slice SB nb cb, .int .i64 db]] W fun e w' => e = .returned (.bool true) ∧ Below W.heap.size W w') (hWI : wi ↑q 41 200 = false) (hCX : ∀ W, KC W C n k → KA W SA na ka → KA W SB nb kb → Calls Tryz.prog 37 #[.agg #[.int .i64 ux, .int .i64 uy, .int .i64 uz, .slice C n c, .slice SA na ca, .int .i64 da, .slice SB nb cb, .int .i64 db]] W fun e w' => ∃ X cX Y cY Z cZ, e = .returned (.agg #[.int .i64 ux, .int .i64 uy, .int .i64 uz, .slice X n cX, .slice Y na cY, .int .i64 da, .slice Z nb cZ, .int .i64 db]) ∧ KC w' X n k ∧ (0 < n → ∃ g, X = some ⟨g, 0, none⟩ ∧ n ≤ cX) ∧ KA w' Y na ka ∧ KA w' Z nb kb ∧ Below W.heap.size W w') (hPW : ∀ W X cX Y cY Z cZ, KC W X n k → KA W Y na ka → KA W Z nb kb → Calls Tryz.prog 41 #[.agg #[.int .i64 ux, .int .i64 uy, .int .i64 uz, .slice X n cX, .slice Y na cY, .int .i64 da, .slice Z nb cZ, .int .i64 db], .agg #[.int .i64 fr, .int .i64 st, .int .i64 ↑q]] W fun e w' => ∃ A c, e = .returned (.tuple #[.slice A (ws f q).m c, .int .i64 0]) ∧ WinAt w' A f (ws f q) ∧ Below W.heap.size W w') (hVE : ∀ W, KC W C n k → KA W SA na ka → KA W SB nb kb → Calls Tryz.prog 39 #[.agg #[.int .i64 ux, .int .i64 uy, .int .i64 uz, .slice C n c, .slice SA na ca, .int .i64 da, .slice SB nb cb, .int .i64 db]] W fun e w' => e = .returned (.int .i64 0) ∧ Below W.heap.size W w') (hGE : ∀ W, KA W SA na ka → KA W SB nb kb → Calls Tryz.prog 42 #[.agg #[.int .i64 ux, .int .i64 uy, .int .i64 uz, .slice C n c, .slice SA na ca, .int .i64 da, .slice SB nb cb, .int .i64 db], .agg #[.int .i64 fr, .int .i64 st, .int .i64 ↑q]] W fun e w' => e = .returned (.int .i64 0) ∧ Below W.heap.size W w') (hRW : ∀ W, KC W C n k → KA W SA na ka → KA W SB nb kb → Calls Tryz.prog 44 #[.agg #[.int .i64 ux, .int .i64 uy, .int .i64 uz, .slice C n c, .slice SA na ca, .int .i64 da, .slice SB nb cb, .int .i64 db], .agg #[.int .i64 fr, .int .i64 st, .int .i64 ↑q]] W fun e w' => ∃ A c, e = .returned (.slice A (ws f q).m c) ∧ WinAt w' A f (ws f q) ∧ Below W.heap.size W w') (hVI : ∀ p : Nat, p < q → ∀ W X cX Y cY Z cZ, KC W X n k → KA W Y na ka → KA W Z nb kb → Calls Tryz.prog 36 #[.agg #[.int .i64 ux, .int .i64 uy, .int .i64 uz, .slice X n cX, .slice Y na cY, .int .i64 da, .slice Z nb cZ, .int .i64 db], .int .i64 (tt p)] W fun e w' => e = .returned (.tuple #[.int .i64 (f p), .int .i64 0]) ∧ Below W.heap.size W w') (hq1 : 1 ≤ q) (hq2 : q ≤ 40) (hp : ∀ j : Nat, j < q → IntKind.i64.wrap ((j : Int) * st) = P j) (ht : ∀ j : Nat, j < q → IntKind.i64.wrap (fr + P j) = tt j) :
    Calls Tryz.prog 10 #[.agg #[.int .i64 ux, .int .i64 uy, .int .i64 uz, .slice C n c, .slice SA na ca, .int .i64 da, .slice SB nb cb, .int .i64 db], .agg #[.int .i64 fr, .int .i64 st, .int .i64 ↑q]] w fun e w' => e = .returned (.bool true) ∧ Below w.heap.size w w' := by
  have HWI := fun W => bwithin_any q 41 200 W
  rw [hWI] at HWI
  have HP0 := Lib.hid hp
  have HT0 := Lib.hid ht
  clear hWI hp ht
  have hok := ws_ok f q
  have hm1 : 0 < (ws f q).m := hok.pos (by omega)
  have hm2 : (ws f q).m ≤ q := hok.le
  have hm9 : (ws f q).m ≤ 1000000 := by omega
  have hm3 : (((ws f q).m : Int) == 0) = false := by simp; omega
  have hm4 : ((ws f q).m == 0) = false := by simp; omega
  have hm5 : decide ((q : Int) < ((ws f q).m : Int)) = false := by simp; omega
  have hm6 : decide (q < (ws f q).m) = false := by simp; omega
  have HOK := Lib.hid hok
  clear hok
  have HC := Lib.hid hC
  have HA := Lib.hid hA
  have HB := Lib.hid hB
  have HVW := Lib.hid hVW
  have HCX := Lib.hid hCX
  have HPW := Lib.hid hPW
  have HVE := Lib.hid hVE
  have HGE := Lib.hid hGE
  have HRW := Lib.hid hRW
  have HVI0 := Lib.hid hVI
  clear hC hA hB hVW hCX hPW hVE hGE hRW hVI
  go_enter Tryz.func10, Tryz.ntmps10
  go_upto_region 5 with (first
    | (go_at_call 11; (with_reducible refine Calls.mono (awake_any _) ?_); rintro e w1 ⟨rfl, hb1⟩; have BV := Lib.hid (belowT (show Below w.heap.size w _ by (repeat (first | with_reducible exact Below.refl _ _ | with_reducible assumption | with_reducible refine Below.alloc ?_ (by first | (simp; done) | (simp; omega) | omega) _ | with_reducible refine Below.setCell ?_ (by first | (simp; done) | (simp; omega) | omega) _ | with_reducible refine Below.drew ?_ | with_reducible refine below_drewN ?_ _))) hb1); have l0 := keep hb1 (b := w.heap.size) (o := 0) (v := .int .i64 ux) (by simp [go_sem]); have l1 := keep hb1 (b := w.heap.size) (o := 1) (v := .int .i64 uy) (by simp [go_sem]); have l2 := keep hb1 (b := w.heap.size) (o := 2) (v := .int .i64 uz) (by simp [go_sem]); have l3 := keep hb1 (b := w.heap.size) (o := 3) (v := .slice C n c) (by simp [go_sem]); have l4 := keep hb1 (b := w.heap.size) (o := 4) (v := .slice SA na ca) (by simp [go_sem]); have l5 := keep hb1 (b := w.heap.size) (o := 5) (v := .int .i64 da) (by simp [go_sem]); have l6 := keep hb1 (b := w.heap.size) (o := 6) (v := .slice SB nb cb) (by simp [go_sem]); have l7 := keep hb1 (b := w.heap.size) (o := 7) (v := .int .i64 db) (by simp [go_sem]); have m0 := keep hb1 (b := w.heap.size + 1) (o := 0) (v := .int .i64 fr) (by simp [go_sem]); have m1 := keep hb1 (b := w.heap.size + 1) (o := 1) (v := .int .i64 st) (by simp [go_sem]); have m2 := keep hb1 (b := w.heap.size + 1) (o := 2) (v := .int .i64 ↑q) (by simp [go_sem]); replace HC := Lib.hid (HC.out.bel BV.out); replace HA := Lib.hid (HA.out.bel BV.out); replace HB := Lib.hid (HB.out.bel BV.out); have hsw := (show w.heap.size + 2 ≤ w1.heap.size by have := hb1.size; simp at this; omega); clear hb1)
    | (go_at_call 33; (with_reducible refine Calls.mono (HVW.out _) ?_); rintro e w2 ⟨rfl, hb2⟩; replace l0 := keep hb2 l0; replace l1 := keep hb2 l1; replace l2 := keep hb2 l2; replace l3 := keep hb2 l3; replace l4 := keep hb2 l4; replace l5 := keep hb2 l5; replace l6 := keep hb2 l6; replace l7 := keep hb2 l7; replace m0 := keep hb2 m0; replace m1 := keep hb2 m1; replace m2 := keep hb2 m2; replace HC := Lib.hid (HC.out.bel hb2); replace HA := Lib.hid (HA.out.bel hb2); replace HB := Lib.hid (HB.out.bel hb2); replace BV := Lib.hid (belowT BV.out hb2); have hsw2 := Nat.le_trans hsw hb2.size; clear hb2)
    | (go_at_call 26; (with_reducible refine Calls.mono (HWI _) ?_); rintro e w' ⟨rfl, rfl⟩)
    | fail)
  refine wp_region_mp [mpEq (.agg #[.int .i64 ux, .int .i64 uy, .int .i64 uz, .slice C n c, .slice SA na ca, .int .i64 da, .slice SB nb cb, .int .i64 db]), mpVw ux uy uz n k na ka da nb kb db, mpEq (.agg #[.int .i64 fr, .int .i64 st, .int .i64 ↑q]), mpWin f q, mpWin f q, mpRow f q, mpEq (.int .i64 0), mpRow f q, mpEq (.int .i64 0)] my0 (by kernel_rfl) (by kernel_rfl) (by kernel_rfl) (
      allOps_cons (fun a' w' hb hs hd => rg_op fun K hK => by
    have e1 := (hs.get 2 (by kernel_rfl)).trans (show _ = Value.pointer (some ⟨w.heap.size, 0, none⟩) from rfl)
    have c0 := keep hb l0
    have c1 := keep hb l1
    have c2 := keep hb l2
    have c3 := keep hb l3
    have c4 := keep hb l4
    have c5 := keep hb l5
    have c6 := keep hb l6
    have c7 := keep hb l7
    clear hs hd
    unfold Oper.wp
    generalize a'.eval = ρ at e1 ⊢
    simp [go_sem, e1, c0, c1, c2, c3, c4, c5, c6, c7]
    exact hK _ _ (Below.refl _ _) rfl) <|
      allOps_cons (fun a' w' hb hs hd => by
    exact rg_fn (φ := (mpVw ux uy uz n k na ka da nb kb db).p) (vs := #[.agg #[.int .i64 ux, .int .i64 uy, .int .i64 uz, .slice C n c, .slice SA na ca, .int .i64 da, .slice SB nb cb, .int .i64 db]]) rfl (enters_of Tryz.func37 (by kernel_rfl) rfl) (by simp [(show a'.eval (.tmp 24) = .agg #[.int .i64 ux, .int .i64 uy, .int .i64 uz, .slice C n c, .slice SA na ca, .int .i64 da, .slice SB nb cb, .int .i64 db] from hd.get 0 24 (by kernel_rfl) (by kernel_rfl))]) ((HCX.out _ (HC.out.bel hb) (HA.out.bel hb) (HB.out.bel hb)).mono (by rintro e w1 ⟨X, cX, Y, cY, Z, cZ, rfl, h1, _, h2, h3, h4⟩; exact ⟨_, rfl, h4, X, cX, Y, cY, Z, cZ, rfl, h1, h2, h3⟩))) <|
      allOps_cons (fun a' w' hb hs hd => rg_op fun K hK => by
    have e1 := (hs.get 3 (by kernel_rfl)).trans (show _ = Value.pointer (some ⟨w.heap.size + 1, 0, none⟩) from rfl)
    have c0 := keep hb m0
    have c1 := keep hb m1
    have c2 := keep hb m2
    clear hs hd
    unfold Oper.wp
    generalize a'.eval = ρ at e1 ⊢
    simp [go_sem, e1, c0, c1, c2]
    exact hK _ _ (Below.refl _ _) rfl) <|
      allOps_cons (fun a' w' hb hs hd => by
    exact rg_fn (φ := (mpWin f q).p) (vs := #[a'.eval (.tmp 25), .agg #[.int .i64 fr, .int .i64 st, .int .i64 ↑q]]) rfl (enters_of Tryz.func41 (by kernel_rfl) rfl) (by simp [(show a'.eval (.tmp 26) = .agg #[.int .i64 fr, .int .i64 st, .int .i64 ↑q] from hd.get 2 26 (by kernel_rfl) (by kernel_rfl))]) (by obtain ⟨X, cX, Y, cY, Z, cZ, hv, h1, h2, h3⟩ := (show (mpVw ux uy uz n k na ka da nb kb db).p (a'.eval (.tmp 25)) w' from hd.get 1 25 (by kernel_rfl) (by kernel_rfl)); rw [hv]; exact (HPW.out _ X cX Y cY Z cZ h1 h2 h3).mono (by rintro e w1 ⟨A, c, rfl, h1, h2⟩; exact ⟨_, rfl, h2, A, c, rfl, h1⟩))) <|
      allOps_cons (fun a' w' hb hs hd => rg_op fun K hK => by
    have e1 := (show (mpWin f q).p (a'.eval (.tmp 27)) w' from hd.get 3 27 (by kernel_rfl) (by kernel_rfl))
    clear hs hd
    unfold Oper.wp
    generalize a'.eval = ρ at e1 ⊢
    obtain ⟨A, c, e2, e3⟩ := e1
    simp [go_sem, e2]
    exact hK _ _ (Below.refl _ _) ⟨A, c, rfl, e3⟩) <|
      allOps_cons (fun a' w' hb hs hd => rg_op fun K hK => by
    have e1 := (show (mpWin f q).p (a'.eval (.tmp 23)) w' from hd.get 4 23 (by kernel_rfl) (by kernel_rfl))
    clear hs hd
    unfold Oper.wp
    generalize a'.eval = ρ at e1 ⊢
    obtain ⟨A, c, e2, e3⟩ := e1
    simp [go_sem, e2]
    exact hK _ _ (Below.refl _ _) ⟨A, c, rfl, e3⟩) <|
      allOps_cons (fun a' w' hb hs hd => rg_op fun K hK => by
    have e1 := (show (mpWin f q).p (a'.eval (.tmp 23)) w' from hd.get 4 23 (by kernel_rfl) (by kernel_rfl))
    clear hs hd
    unfold Oper.wp
    generalize a'.eval = ρ at e1 ⊢
    obtain ⟨A, c, e2, e3⟩ := e1
    simp [go_sem, e2]
    exact hK _ _ (Below.refl _ _) rfl) <|
      allOps_cons (fun a' w' hb hs hd => rg_op fun K hK => by
    have e1 := (show (mpRow f q).p (a'.eval (.tmp 28)) w' from hd.get 5 28 (by kernel_rfl) (by kernel_rfl))
    clear hs hd
    unfold Oper.wp
    generalize a'.eval = ρ at e1 ⊢
    obtain ⟨A, c, e2, e3⟩ := e1
    simp [go_sem, e2]
    exact hK _ _ (Below.refl _ _) ⟨A, c, rfl, e3⟩) <|
      allOps_cons (fun a' w' hb hs hd => rg_op fun K hK => by
    have e1 := (show a'.eval (.tmp 29) = .int .i64 0 from hd.get 6 29 (by kernel_rfl) (by kernel_rfl))
    clear hs hd
    unfold Oper.wp
    generalize a'.eval = ρ at e1 ⊢
    simp [go_sem, e1]
    exact hK _ _ (Below.refl _ _) rfl) <| allOps_nil) (fun Q w3 hb3 hall => ?_)
  obtain ⟨Al, cl, h5, hwn⟩ := (show (mpRow f q).p (Q 5) w3 from hall.get 7 rfl)
  have h6 : Q 6 = .int .i64 0 := hall.get 8 rfl
  have HWN := Lib.hid hwn
  clear hall hwn
  simp only [my0, maskPut, Nat.reduceAdd]
  rw [h5, h6]
  clear h5 h6
  replace l0 := keep hb3 l0
  replace l1 := keep hb3 l1
  replace l2 := keep hb3 l2
  replace l3 := keep hb3 l3
  replace l4 := keep hb3 l4
  replace l5 := keep hb3 l5
  replace l6 := keep hb3 l6
  replace l7 := keep hb3 l7
  replace m0 := keep hb3 m0
  replace m1 := keep hb3 m1
  replace m2 := keep hb3 m2
  replace HC := Lib.hid (HC.out.bel hb3)
  replace HA := Lib.hid (HA.out.bel hb3)
  replace HB := Lib.hid (HB.out.bel hb3)
  replace BV := Lib.hid (belowT BV.out hb3)
  have hsw3 := Nat.le_trans hsw2 hb3.size
  clear hb3
  go_wp2_with (first
    | (go_at_call 39; (with_reducible refine Calls.mono (HVE.out _ HC.out HA.out HB.out) ?_); rintro e w4 ⟨rfl, hb4⟩; replace l0 := keep hb4 l0; replace l1 := keep hb4 l1; replace l2 := keep hb4 l2; replace l3 := keep hb4 l3; replace l4 := keep hb4 l4; replace l5 := keep hb4 l5; replace l6 := keep hb4 l6; replace l7 := keep hb4 l7; replace m0 := keep hb4 m0; replace m1 := keep hb4 m1; replace m2 := keep hb4 m2; replace HC := Lib.hid (HC.out.bel hb4); replace HA := Lib.hid (HA.out.bel hb4); replace HB := Lib.hid (HB.out.bel hb4); replace BV := Lib.hid (belowT BV.out hb4); replace HWN := Lib.hid (HWN.out.below hb4); have hsw4 := Nat.le_trans hsw3 hb4.size; clear hb4)
    | (go_at_call 42; (with_reducible refine Calls.mono (HGE.out _ HA.out HB.out) ?_); rintro e w5 ⟨rfl, hb5⟩; replace l0 := keep hb5 l0; replace l1 := keep hb5 l1; replace l2 := keep hb5 l2; replace l3 := keep hb5 l3; replace l4 := keep hb5 l4; replace l5 := keep hb5 l5; replace l6 := keep hb5 l6; replace l7 := keep hb5 l7; replace m0 := keep hb5 m0; replace m1 := keep hb5 m1; replace m2 := keep hb5 m2; replace HC := Lib.hid (HC.out.bel hb5); replace HA := Lib.hid (HA.out.bel hb5); replace HB := Lib.hid (HB.out.bel hb5); replace BV := Lib.hid (belowT BV.out hb5); replace HWN := Lib.hid (HWN.out.below hb5); have hsw5 := Nat.le_trans hsw4 hb5.size; clear hb5)
    | (go_at_call 44; (with_reducible refine Calls.mono (HRW.out _ HC.out HA.out HB.out) ?_); rintro e w6 ⟨A6, c6, rfl, hw6, hb6⟩; replace l0 := keep hb6 l0; replace l1 := keep hb6 l1; replace l2 := keep hb6 l2; replace l3 := keep hb6 l3; replace l4 := keep hb6 l4; replace l5 := keep hb6 l5; replace l6 := keep hb6 l6; replace l7 := keep hb6 l7; replace m0 := keep hb6 m0; replace m1 := keep hb6 m1; replace m2 := keep hb6 m2; replace HC := Lib.hid (HC.out.bel hb6); replace HA := Lib.hid (HA.out.bel hb6); replace HB := Lib.hid (HB.out.bel hb6); replace BV := Lib.hid (belowT BV.out hb6); replace HWN := Lib.hid (HWN.out.below hb6); have hsw6 := Nat.le_trans hsw5 hb6.size; have HW6 := Lib.hid hw6; clear hw6; clear hb6)
    | (go_at_call 43; (with_reducible refine Calls.mono (sameWindows_any _ _ _ _ f (ws f q) _ hm9 HWN.out HW6.out) ?_); rintro e w7 ⟨rfl, hb7⟩; replace l0 := keep hb7 l0; replace l1 := keep hb7 l1; replace l2 := keep hb7 l2; replace l3 := keep hb7 l3; replace l4 := keep hb7 l4; replace l5 := keep hb7 l5; replace l6 := keep hb7 l6; replace l7 := keep hb7 l7; replace m0 := keep hb7 m0; replace m1 := keep hb7 m1; replace m2 := keep hb7 m2; replace HC := Lib.hid (HC.out.bel hb7); replace HA := Lib.hid (HA.out.bel hb7); replace HB := Lib.hid (HB.out.bel hb7); replace BV := Lib.hid (belowT BV.out hb7); replace HWN := Lib.hid (HWN.out.below hb7); have hsw7 := Nat.le_trans hsw6 hb7.size; clear HW6; clear hb7)
    | fail)
  have hLR0 : LR w ux uy uz C SA SB n c na ca nb cb da db fr st q k ka kb f (ws f q) Al w7 := ⟨⟨BV.out, hsw7, ⟨l0, l1, l2, l3, l4, l5, l6, l7⟩, m0, m1, m2⟩, HC.out, HA.out, HB.out, HWN.out⟩
  have HLR0 := Lib.hid hLR0
  clear hLR0 l0 l1 l2 l3 l4 l5 l6 l7 m0 m1 m2 HC HA HB HWN BV hm3 hm4 hm5 hm6 hm9 hsw2 hsw3 hsw4 hsw5 hsw6 hsw7 HVE HGE HRW HPW HVW HWI
  generalize ws f q = S at *
  go_loopw [8, 9] (fun s8 s9 wr => ∃ j : Nat, j ≤ S.m ∧ s9 = .int .i64 j ∧ s8 = .int .i64 (wnx S q j) ∧ LR w ux uy uz C SA SB n c na ca nb cb da db fr st q k ka kb f S Al wr) (fun _ i _ => S.m - (intOf i).toNat)
  case atStart =>
    refine ⟨0, Nat.zero_le _, rfl, ?_, HLR0.out⟩
    have : wnx S q 0 = 0 := by unfold wnx; rw [if_pos hm1]; exact HOK.out.fst hm1
    rw [this]
    rfl
  case round =>
    clear HLR0
    obtain ⟨j, hjm, rfl, rfl, hLR⟩ := hrel
    have HLR := Lib.hid hLR
    obtain ⟨⟨hbw, hsw, ⟨l0, l1, l2, l3, l4, l5, l6, l7⟩, m0, m1, m2⟩, hC, hA, hB, hW⟩ := HLR.out
    have HC := Lib.hid hC
    have HA := Lib.hid hA
    have HB := Lib.hid hB
    have HW := Lib.hid hW
    have HBW := Lib.hid hbw
    clear hC hA hB hW hbw
    clear hLR
    by_cases hlt : j < S.m
    · have hwx : wnx S q j = S.F j := if_pos hlt
      rw [hwx]
      clear hwx
      have hfl := HOK.out.fl j hlt
      have hlk := HOK.out.lk j hlt
      obtain ⟨g, rfl, hcs⟩ := HW.out hm1
      obtain ⟨c0, c1, c2⟩ := hcs j hlt
      have p1 : (0 : Int) ≤ (j : Int) := by omega
      have p2 : (j : Int) < (S.m : Int) := by omega
      obtain ⟨qm, HQM⟩ : ∃ qm : Int, Hid (qm = (q : Int) - 1) := ⟨_, rfl⟩
      have hqm : IntKind.i64.wrap ((q : Int) - 1) = qm := (IntWalk.i64_in _ (by omega)).trans HQM.out.symm
      have HWJ : Hid (∀ W, Calls Tryz.prog 26 #[.int .i64 (S.L j), .int .i64 (S.F j), .int .i64 qm] W fun e w' => e = .returned (.bool true) ∧ Below W.heap.size W w') := fun W => (bwithin_any (S.L j) (S.F j) qm W).mono (by rintro e w' ⟨rfl, rfl⟩; exact ⟨by rw [wi_t.2 ⟨by omega, by rw [HQM.out]; omega⟩], Below.refl _ _⟩)
      by_cases hj0 : j = 0
      · have hj : ¬ 0 < j := by omega
        clear hj0
        clear hcs
        go_wp2_with fail
        refine wp_region_gd [mpEq (.slice (some ⟨g, 0, none⟩) S.m cl), mpEq (.int .i64 ↑j), mpEq (.pointer (some ⟨g, j * 3, none⟩)), mpEq (.pointer (some ⟨g, j * 3 + 1, none⟩)), mpEq (.int .i64 ↑(S.F j)), mpEq (.int .i64 ↑(S.F j)), mpEq (.bool false), mpEq (.bool false), mpEq (.slice (some ⟨g, 0, none⟩) S.m cl), mpEq (.int .i64 ↑j), mpEq (.pointer (some ⟨g, j * 3, none⟩)), mpEq (.pointer (some ⟨g, j * 3 + 2, none⟩)), mpEq (.int .i64 ↑(S.L j)), mpEq (.int .i64 ↑(S.F j)), mpEq (.pointer (some ⟨w.heap.size + 1, 2, none⟩)), mpEq (.int .i64 ↑q), mpEq (.int .i64 qm), mpEq (.bool true), mpEq (.bool false), mpEq (.bool false), mpEq (.bool false), mpEq (.int .i64 ↑j), mpEq (.bool false), mpEq (.bool false), mpTop, mpTop, mpTop, mpTop, mpTop, mpTop, mpTop, mpTop, mpTop, mpTop, mpTop, mpTop, mpEq (.bool false), mpEq (.bool false)] my2 (by kernel_rfl) (by kernel_rfl) (by kernel_rfl) (
            allOps_cons (fun a' w' hb hs hd => Or.inl ⟨wanted_n rfl, by
          exact op1 (φ := (mpEq (.slice (some ⟨g, 0, none⟩) S.m cl)).p) ((hs.get 5 (by kernel_rfl)).trans (show _ = Value.slice (some ⟨g, 0, none⟩) S.m cl from rfl)) (fun ρ e c => by simp [go_sem, e]) rfl⟩) <|
            allOps_cons (fun a' w' hb hs hd => Or.inl ⟨wanted_n rfl, by
          exact op1 (φ := (mpEq (.int .i64 ↑j)).p) ((hs.get 9 (by kernel_rfl)).trans (show _ = Value.int .i64 ↑j from rfl)) (fun ρ e c => by simp [go_sem, e]) rfl⟩) <|
            allOps_cons (fun a' w' hb hs hd => Or.inl ⟨wanted_n rfl, by
          exact op2 (φ := (mpEq (.pointer (some ⟨g, j * 3, none⟩))).p) ((show a'.eval (.tmp 75) = .slice (some ⟨g, 0, none⟩) S.m cl from hd.get 0 75 (by kernel_rfl) (by kernel_rfl))) ((show a'.eval (.tmp 76) = .int .i64 ↑j from hd.get 1 76 (by kernel_rfl) (by kernel_rfl))) (fun ρ e e' c => by simp [go_sem, e, e', p1, p2]) rfl⟩) <|
            allOps_cons (fun a' w' hb hs hd => Or.inl ⟨wanted_n rfl, by
          exact op1 (φ := (mpEq (.pointer (some ⟨g, j * 3 + 1, none⟩))).p) ((show a'.eval (.tmp 77) = .pointer (some ⟨g, j * 3, none⟩) from hd.get 2 77 (by kernel_rfl) (by kernel_rfl))) (fun ρ e c => by simp [go_sem, e]) rfl⟩) <|
            allOps_cons (fun a' w' hb hs hd => Or.inl ⟨wanted_n rfl, by
          exact op1 (φ := (mpEq (.int .i64 ↑(S.F j))).p) ((show a'.eval (.tmp 78) = .pointer (some ⟨g, j * 3 + 1, none⟩) from hd.get 3 78 (by kernel_rfl) (by kernel_rfl))) (fun ρ e c => by simp [go_sem, e, keep hb c1]) rfl⟩) <|
            allOps_cons (fun a' w' hb hs hd => Or.inl ⟨wanted_n rfl, by
          exact op1 (φ := (mpEq (.int .i64 ↑(S.F j))).p) ((hs.get 8 (by kernel_rfl)).trans (show _ = Value.int .i64 ↑(S.F j) from rfl)) (fun ρ e c => by simp [go_sem, e]) rfl⟩) <|
            allOps_cons (fun a' w' hb hs hd => Or.inl ⟨wanted_n rfl, by
          exact op2 (φ := (mpEq (.bool false)).p) ((show a'.eval (.tmp 79) = .int .i64 ↑(S.F j) from hd.get 4 79 (by kernel_rfl) (by kernel_rfl))) ((show a'.eval (.tmp 80) = .int .i64 ↑(S.F j) from hd.get 5 80 (by kernel_rfl) (by kernel_rfl))) (fun ρ e e' c => by simp [go_sem, e, e']) rfl⟩) <|
            allOps_cons (fun a' w' hb hs hd => Or.inl ⟨wanted_n rfl, by
          exact op1 (φ := (mpEq (.bool false)).p) ((show a'.eval (.tmp 81) = .bool false from hd.get 6 81 (by kernel_rfl) (by kernel_rfl))) (fun ρ e c => by simp [go_sem, e]) rfl⟩) <|
            allOps_cons (fun a' w' hb hs hd => Or.inl ⟨wanted_t (j := 7) (d := 82) rfl (by kernel_rfl) (show a'.eval (.tmp 82) = .bool false from hd.get 7 82 (by kernel_rfl) (by kernel_rfl)), by
          exact op1 (φ := (mpEq (.slice (some ⟨g, 0, none⟩) S.m cl)).p) ((hs.get 5 (by kernel_rfl)).trans (show _ = Value.slice (some ⟨g, 0, none⟩) S.m cl from rfl)) (fun ρ e c => by simp [go_sem, e]) rfl⟩) <|
            allOps_cons (fun a' w' hb hs hd => Or.inl ⟨wanted_t (j := 7) (d := 82) rfl (by kernel_rfl) (show a'.eval (.tmp 82) = .bool false from hd.get 7 82 (by kernel_rfl) (by kernel_rfl)), by
          exact op1 (φ := (mpEq (.int .i64 ↑j)).p) ((hs.get 9 (by kernel_rfl)).trans (show _ = Value.int .i64 ↑j from rfl)) (fun ρ e c => by simp [go_sem, e]) rfl⟩) <|
            allOps_cons (fun a' w' hb hs hd => Or.inl ⟨wanted_t (j := 7) (d := 82) rfl (by kernel_rfl) (show a'.eval (.tmp 82) = .bool false from hd.get 7 82 (by kernel_rfl) (by kernel_rfl)), by
          exact op2 (φ := (mpEq (.pointer (some ⟨g, j * 3, none⟩))).p) ((show a'.eval (.tmp 83) = .slice (some ⟨g, 0, none⟩) S.m cl from hd.get 8 83 (by kernel_rfl) (by kernel_rfl))) ((show a'.eval (.tmp 84) = .int .i64 ↑j from hd.get 9 84 (by kernel_rfl) (by kernel_rfl))) (fun ρ e e' c => by simp [go_sem, e, e', p1, p2]) rfl⟩) <|
            allOps_cons (fun a' w' hb hs hd => Or.inl ⟨wanted_t (j := 7) (d := 82) rfl (by kernel_rfl) (show a'.eval (.tmp 82) = .bool false from hd.get 7 82 (by kernel_rfl) (by kernel_rfl)), by
          exact op1 (φ := (mpEq (.pointer (some ⟨g, j * 3 + 2, none⟩))).p) ((show a'.eval (.tmp 85) = .pointer (some ⟨g, j * 3, none⟩) from hd.get 10 85 (by kernel_rfl) (by kernel_rfl))) (fun ρ e c => by simp [go_sem, e]) rfl⟩) <|
            allOps_cons (fun a' w' hb hs hd => Or.inl ⟨wanted_t (j := 7) (d := 82) rfl (by kernel_rfl) (show a'.eval (.tmp 82) = .bool false from hd.get 7 82 (by kernel_rfl) (by kernel_rfl)), by
          exact op1 (φ := (mpEq (.int .i64 ↑(S.L j))).p) ((show a'.eval (.tmp 86) = .pointer (some ⟨g, j * 3 + 2, none⟩) from hd.get 11 86 (by kernel_rfl) (by kernel_rfl))) (fun ρ e c => by simp [go_sem, e, keep hb c2]) rfl⟩) <|
            allOps_cons (fun a' w' hb hs hd => Or.inl ⟨wanted_t (j := 7) (d := 82) rfl (by kernel_rfl) (show a'.eval (.tmp 82) = .bool false from hd.get 7 82 (by kernel_rfl) (by kernel_rfl)), by
          exact op1 (φ := (mpEq (.int .i64 ↑(S.F j))).p) ((hs.get 8 (by kernel_rfl)).trans (show _ = Value.int .i64 ↑(S.F j) from rfl)) (fun ρ e c => by simp [go_sem, e]) rfl⟩) <|
            allOps_cons (fun a' w' hb hs hd => Or.inl ⟨wanted_t (j := 7) (d := 82) rfl (by kernel_rfl) (show a'.eval (.tmp 82) = .bool false from hd.get 7 82 (by kernel_rfl) (by kernel_rfl)), by
          exact op1 (φ := (mpEq (.pointer (some ⟨w.heap.size + 1, 2, none⟩))).p) ((hs.get 3 (by kernel_rfl)).trans (show _ = Value.pointer (some ⟨w.heap.size + 1, 0, none⟩) from rfl)) (fun ρ e c => by simp [go_sem, e]) rfl⟩) <|
            allOps_cons (fun a' w' hb hs hd => Or.inl ⟨wanted_t (j := 7) (d := 82) rfl (by kernel_rfl) (show a'.eval (.tmp 82) = .bool false from hd.get 7 82 (by kernel_rfl) (by kernel_rfl)), by
          exact op1 (φ := (mpEq (.int .i64 ↑q)).p) ((show a'.eval (.tmp 89) = .pointer (some ⟨w.heap.size + 1, 2, none⟩) from hd.get 14 89 (by kernel_rfl) (by kernel_rfl))) (fun ρ e c => by simp [go_sem, e, keep hb m2]) rfl⟩) <|
            allOps_cons (fun a' w' hb hs hd => Or.inl ⟨wanted_t (j := 7) (d := 82) rfl (by kernel_rfl) (show a'.eval (.tmp 82) = .bool false from hd.get 7 82 (by kernel_rfl) (by kernel_rfl)), by
          exact op1 (φ := (mpEq (.int .i64 qm)).p) ((show a'.eval (.tmp 90) = .int .i64 ↑q from hd.get 15 90 (by kernel_rfl) (by kernel_rfl))) (fun ρ e c => by simp [go_sem, e, c, hqm]) rfl⟩) <|
            allOps_cons (fun a' w' hb hs hd => Or.inl ⟨wanted_t (j := 7) (d := 82) rfl (by kernel_rfl) (show a'.eval (.tmp 82) = .bool false from hd.get 7 82 (by kernel_rfl) (by kernel_rfl)), by
          have e0 := (show a'.eval (.tmp 87) = .int .i64 ↑(S.L j) from hd.get 12 87 (by kernel_rfl) (by kernel_rfl))
          have e1 := (show a'.eval (.tmp 88) = .int .i64 ↑(S.F j) from hd.get 13 88 (by kernel_rfl) (by kernel_rfl))
          have e2 := (show a'.eval (.tmp 91) = .int .i64 qm from hd.get 16 91 (by kernel_rfl) (by kernel_rfl))
          exact rg_fn (φ := (mpEq (.bool true)).p) (vs := #[.int .i64 ↑(S.L j), .int .i64 ↑(S.F j), .int .i64 qm]) rfl (enters_of Tryz.func26 (by kernel_rfl) rfl) (by simp [e0, e1, e2]) (((HWJ.out w')).mono (by rintro e w1 ⟨rfl, h1⟩; exact ⟨_, rfl, h1, rfl⟩))⟩) <|
            allOps_cons (fun a' w' hb hs hd => Or.inl ⟨wanted_t (j := 7) (d := 82) rfl (by kernel_rfl) (show a'.eval (.tmp 82) = .bool false from hd.get 7 82 (by kernel_rfl) (by kernel_rfl)), by
          exact op1 (φ := (mpEq (.bool false)).p) ((show a'.eval (.tmp 92) = .bool true from hd.get 17 92 (by kernel_rfl) (by kernel_rfl))) (fun ρ e c => by simp [go_sem, e]) rfl⟩) <|
            allOps_cons (fun a' w' hb hs hd => Or.inl ⟨wanted_n rfl, by
          exact op2 (φ := (mpEq (.bool false)).p) ((show a'.eval (.tmp 82) = .bool false from hd.get 7 82 (by kernel_rfl) (by kernel_rfl))) ((show a'.eval (.tmp 93) = .bool false from hd.get 18 93 (by kernel_rfl) (by kernel_rfl))) (fun ρ e e' c => by simp [go_sem, e, e', c]) rfl⟩) <|
            allOps_cons (fun a' w' hb hs hd => Or.inl ⟨wanted_n rfl, by
          exact op1 (φ := (mpEq (.bool false)).p) ((show a'.eval (.tmp 94) = .bool false from hd.get 19 94 (by kernel_rfl) (by kernel_rfl))) (fun ρ e c => by simp [go_sem, e]) rfl⟩) <|
            allOps_cons (fun a' w' hb hs hd => Or.inl ⟨wanted_t (j := 20) (d := 95) rfl (by kernel_rfl) (show a'.eval (.tmp 95) = .bool false from hd.get 20 95 (by kernel_rfl) (by kernel_rfl)), by
          exact op1 (φ := (mpEq (.int .i64 ↑j)).p) ((hs.get 9 (by kernel_rfl)).trans (show _ = Value.int .i64 ↑j from rfl)) (fun ρ e c => by simp [go_sem, e]) rfl⟩) <|
            allOps_cons (fun a' w' hb hs hd => Or.inl ⟨wanted_t (j := 20) (d := 95) rfl (by kernel_rfl) (show a'.eval (.tmp 95) = .bool false from hd.get 20 95 (by kernel_rfl) (by kernel_rfl)), by
          exact op1 (φ := (mpEq (.bool false)).p) ((show a'.eval (.tmp 96) = .int .i64 ↑j from hd.get 21 96 (by kernel_rfl) (by kernel_rfl))) (fun ρ e c => by simp [go_sem, e, c, hj]) rfl⟩) <|
            allOps_cons (fun a' w' hb hs hd => Or.inl ⟨wanted_t (j := 20) (d := 95) rfl (by kernel_rfl) (show a'.eval (.tmp 95) = .bool false from hd.get 20 95 (by kernel_rfl) (by kernel_rfl)), by
          exact op1 (φ := (mpEq (.bool false)).p) ((show a'.eval (.tmp 97) = .bool false from hd.get 22 97 (by kernel_rfl) (by kernel_rfl))) (fun ρ e c => by simp [go_sem, e]) rfl⟩) <|
            allOps_cons (fun a' w' hb hs hd => Or.inr ⟨wanted_f (j := 23) (d := 98) (b' := false) rfl (by kernel_rfl) (show a'.eval (.tmp 98) = .bool false from hd.get 23 98 (by kernel_rfl) (by kernel_rfl)) rfl, trivial⟩) <|
            allOps_cons (fun a' w' hb hs hd => Or.inr ⟨wanted_f (j := 23) (d := 98) (b' := false) rfl (by kernel_rfl) (show a'.eval (.tmp 98) = .bool false from hd.get 23 98 (by kernel_rfl) (by kernel_rfl)) rfl, trivial⟩) <|
            allOps_cons (fun a' w' hb hs hd => Or.inr ⟨wanted_f (j := 23) (d := 98) (b' := false) rfl (by kernel_rfl) (show a'.eval (.tmp 98) = .bool false from hd.get 23 98 (by kernel_rfl) (by kernel_rfl)) rfl, trivial⟩) <|
            allOps_cons (fun a' w' hb hs hd => Or.inr ⟨wanted_f (j := 23) (d := 98) (b' := false) rfl (by kernel_rfl) (show a'.eval (.tmp 98) = .bool false from hd.get 23 98 (by kernel_rfl) (by kernel_rfl)) rfl, trivial⟩) <|
            allOps_cons (fun a' w' hb hs hd => Or.inr ⟨wanted_f (j := 23) (d := 98) (b' := false) rfl (by kernel_rfl) (show a'.eval (.tmp 98) = .bool false from hd.get 23 98 (by kernel_rfl) (by kernel_rfl)) rfl, trivial⟩) <|
            allOps_cons (fun a' w' hb hs hd => Or.inr ⟨wanted_f (j := 23) (d := 98) (b' := false) rfl (by kernel_rfl) (show a'.eval (.tmp 98) = .bool false from hd.get 23 98 (by kernel_rfl) (by kernel_rfl)) rfl, trivial⟩) <|
            allOps_cons (fun a' w' hb hs hd => Or.inr ⟨wanted_f (j := 23) (d := 98) (b' := false) rfl (by kernel_rfl) (show a'.eval (.tmp 98) = .bool false from hd.get 23 98 (by kernel_rfl) (by kernel_rfl)) rfl, trivial⟩) <|
            allOps_cons (fun a' w' hb hs hd => Or.inr ⟨wanted_f (j := 23) (d := 98) (b' := false) rfl (by kernel_rfl) (show a'.eval (.tmp 98) = .bool false from hd.get 23 98 (by kernel_rfl) (by kernel_rfl)) rfl, trivial⟩) <|
            allOps_cons (fun a' w' hb hs hd => Or.inr ⟨wanted_f (j := 23) (d := 98) (b' := false) rfl (by kernel_rfl) (show a'.eval (.tmp 98) = .bool false from hd.get 23 98 (by kernel_rfl) (by kernel_rfl)) rfl, trivial⟩) <|
            allOps_cons (fun a' w' hb hs hd => Or.inr ⟨wanted_f (j := 23) (d := 98) (b' := false) rfl (by kernel_rfl) (show a'.eval (.tmp 98) = .bool false from hd.get 23 98 (by kernel_rfl) (by kernel_rfl)) rfl, trivial⟩) <|
            allOps_cons (fun a' w' hb hs hd => Or.inr ⟨wanted_f (j := 23) (d := 98) (b' := false) rfl (by kernel_rfl) (show a'.eval (.tmp 98) = .bool false from hd.get 23 98 (by kernel_rfl) (by kernel_rfl)) rfl, trivial⟩) <|
            allOps_cons (fun a' w' hb hs hd => Or.inr ⟨wanted_f (j := 23) (d := 98) (b' := false) rfl (by kernel_rfl) (show a'.eval (.tmp 98) = .bool false from hd.get 23 98 (by kernel_rfl) (by kernel_rfl)) rfl, trivial⟩) <|
            allOps_cons (fun a' w' hb hs hd => Or.inl ⟨wanted_t (j := 20) (d := 95) rfl (by kernel_rfl) (show a'.eval (.tmp 95) = .bool false from hd.get 20 95 (by kernel_rfl) (by kernel_rfl)), by
          exact op1 (φ := (mpEq (.bool false)).p) ((show a'.eval (.tmp 98) = .bool false from hd.get 23 98 (by kernel_rfl) (by kernel_rfl))) (fun ρ e c => by simp [go_sem, e, c]) rfl⟩) <|
            allOps_cons (fun a' w' hb hs hd => Or.inl ⟨wanted_n rfl, by
          exact op2 (φ := (mpEq (.bool false)).p) ((show a'.eval (.tmp 95) = .bool false from hd.get 20 95 (by kernel_rfl) (by kernel_rfl))) ((show a'.eval (.tmp 111) = .bool false from hd.get 36 111 (by kernel_rfl) (by kernel_rfl))) (fun ρ e e' c => by simp [go_sem, e, e', c]) rfl⟩) <| allOps_nil) (fun Q w5 hb5 hall => ?_)
        have hx0 : Q 112 = .bool false := hall.get 37 rfl
        clear hall
        simp only [my2, maskPut, Nat.reduceAdd]
        rw [hx0]
        clear hx0
        have hLR := HLR.out.to hb5
        clear l0 l1 l2 l3 l4 l5 l6 l7 m0 m1 m2 HC HA HB HW HBW hsw HLR hb5 c0 c1 c2
        have HLR := Lib.hid hLR
        obtain ⟨⟨hbw, hsw, ⟨l0, l1, l2, l3, l4, l5, l6, l7⟩, m0, m1, m2⟩, hC, hA, hB, hW⟩ := HLR.out
        have HC := Lib.hid hC
        have HA := Lib.hid hA
        have HB := Lib.hid hB
        have HW := Lib.hid hW
        have HBW := Lib.hid hbw
        clear hC hA hB hW hbw
        clear hLR
        obtain ⟨g', hg', hcs⟩ := HW.out hm1
        obtain rfl : g = g' := by simpa using hg'
        obtain ⟨c0, c1, c2⟩ := hcs j hlt
        clear hcs hg' HW
        go_wp2_with fail
        obtain ⟨wo, rfl⟩ : ∃ wo : World, wo = w5 := ⟨_, rfl⟩
        have HLO := Lib.hid HLR.out
        clear l0 l1 l2 l3 l4 l5 l6 l7 m0 m1 m2 HC HA HB HBW hsw HLR c0 c1 c2
        go_loopw [10] (fun s10 wr => ∃ p : Nat, S.F j ≤ p ∧ p ≤ S.L j + 1 ∧ s10 = .int .i64 p ∧ LR w ux uy uz C SA SB n c na ca nb cb da db fr st q k ka kb f S (some ⟨g, 0, none⟩) wr) (fun i _ => S.L j + 1 - (intOf i).toNat)
        case atStart => exact ⟨S.F j, Nat.le_refl _, by omega, rfl, HLO.out⟩
        case round =>
          clear HLO
          obtain ⟨p, hp1, hp2, rfl, hLR⟩ := hrel
          have HLR := Lib.hid hLR
          obtain ⟨⟨hbw, hsw, ⟨l0, l1, l2, l3, l4, l5, l6, l7⟩, m0, m1, m2⟩, hC, hA, hB, hW⟩ := HLR.out
          have HC := Lib.hid hC
          have HA := Lib.hid hA
          have HB := Lib.hid hB
          have HW := Lib.hid hW
          have HBW := Lib.hid hbw
          clear hC hA hB hW hbw
          clear hLR
          obtain ⟨g', hg', hcs⟩ := HW.out hm1
          obtain rfl : g = g' := by simpa using hg'
          obtain ⟨c0, c1, c2⟩ := hcs j hlt
          clear hcs hg' HW
          by_cases hle : p ≤ S.L j
          · have hpq : p < q := by omega
            have x1 := HP0.out p hpq
            have x2 := HT0.out p hpq
            have HVI := Lib.hid (HVI0.out p hpq)
            have HY := Lib.hid (HOK.out.same j hlt p hp1 hle)
            rw [← HY.out] at c0
            generalize hyq : f p = y at c0 HVI
            generalize P p = pp at x1 x2
            generalize tt p = tp at x2 HVI
            have HYQ := Lib.hid hyq
            clear hyq
            go_wp2_with fail
            refine wp_region_mp [mpEq (.agg #[.int .i64 ux, .int .i64 uy, .int .i64 uz, .slice C n c, .slice SA na ca, .int .i64 da, .slice SB nb cb, .int .i64 db]), mpVw ux uy uz n k na ka da nb kb db, mpEq (.pointer (some ⟨w.heap.size + 1, 0, none⟩)), mpEq (.int .i64 fr), mpEq (.int .i64 ↑p), mpEq (.pointer (some ⟨w.heap.size + 1, 1, none⟩)), mpEq (.int .i64 st), mpEq (.int .i64 pp), mpEq (.int .i64 tp), mpEq (.tuple #[.int .i64 y, .int .i64 0]), mpEq (.tuple #[.int .i64 y, .int .i64 0]), mpEq (.int .i64 y), mpEq (.int .i64 0), mpEq (.int .i64 y), mpEq (.int .i64 0)] my1 (by kernel_rfl) (by kernel_rfl) (by kernel_rfl) (
                allOps_cons (fun a' w' hb hs hd => rg_op fun K hK => by
              have e1 := (hs.get 2 (by kernel_rfl)).trans (show _ = Value.pointer (some ⟨w.heap.size, 0, none⟩) from rfl)
              have c0 := keep hb l0
              have c1 := keep hb l1
              have c2 := keep hb l2
              have c3 := keep hb l3
              have c4 := keep hb l4
              have c5 := keep hb l5
              have c6 := keep hb l6
              have c7 := keep hb l7
              clear hs hd
              unfold Oper.wp
              generalize a'.eval = ρ at e1 ⊢
              simp [go_sem, e1, c0, c1, c2, c3, c4, c5, c6, c7]
              exact hK _ _ (Below.refl _ _) rfl) <|
                allOps_cons (fun a' w' hb hs hd => by
              exact rg_fn (φ := (mpVw ux uy uz n k na ka da nb kb db).p) (vs := #[.agg #[.int .i64 ux, .int .i64 uy, .int .i64 uz, .slice C n c, .slice SA na ca, .int .i64 da, .slice SB nb cb, .int .i64 db]]) rfl (enters_of Tryz.func37 (by kernel_rfl) rfl) (by simp [(show a'.eval (.tmp 128) = .agg #[.int .i64 ux, .int .i64 uy, .int .i64 uz, .slice C n c, .slice SA na ca, .int .i64 da, .slice SB nb cb, .int .i64 db] from hd.get 0 128 (by kernel_rfl) (by kernel_rfl))]) ((HCX.out _ (HC.out.bel hb) (HA.out.bel hb) (HB.out.bel hb)).mono (by rintro e w1 ⟨X, cX, Y, cY, Z, cZ, rfl, h1, _, h2, h3, h4⟩; exact ⟨_, rfl, h4, X, cX, Y, cY, Z, cZ, rfl, h1, h2, h3⟩))) <|
                allOps_cons (fun a' w' hb hs hd => rg_op fun K hK => by
              have e1 := (hs.get 3 (by kernel_rfl)).trans (show _ = Value.pointer (some ⟨w.heap.size + 1, 0, none⟩) from rfl)
              clear hs hd
              unfold Oper.wp
              generalize a'.eval = ρ at e1 ⊢
              simp [go_sem, e1]
              exact hK _ _ (Below.refl _ _) rfl) <|
                allOps_cons (fun a' w' hb hs hd => rg_op fun K hK => by
              have e1 := (show a'.eval (.tmp 130) = .pointer (some ⟨w.heap.size + 1, 0, none⟩) from hd.get 2 130 (by kernel_rfl) (by kernel_rfl))
              have c0 := keep hb m0
              clear hs hd
              unfold Oper.wp
              generalize a'.eval = ρ at e1 ⊢
              simp [go_sem, e1, c0]
              exact hK _ _ (Below.refl _ _) rfl) <|
                allOps_cons (fun a' w' hb hs hd => rg_op fun K hK => by
              have e1 := (hs.get 10 (by kernel_rfl)).trans (show _ = .int .i64 ↑p from rfl)
              clear hs hd
              unfold Oper.wp
              generalize a'.eval = ρ at e1 ⊢
              simp [go_sem, e1]
              exact hK _ _ (Below.refl _ _) rfl) <|
                allOps_cons (fun a' w' hb hs hd => rg_op fun K hK => by
              have e1 := (hs.get 3 (by kernel_rfl)).trans (show _ = Value.pointer (some ⟨w.heap.size + 1, 0, none⟩) from rfl)
              clear hs hd
              unfold Oper.wp
              generalize a'.eval = ρ at e1 ⊢
              simp [go_sem, e1]
              exact hK _ _ (Below.refl _ _) rfl) <|
                allOps_cons (fun a' w' hb hs hd => rg_op fun K hK => by
              have e1 := (show a'.eval (.tmp 133) = .pointer (some ⟨w.heap.size + 1, 1, none⟩) from hd.get 5 133 (by kernel_rfl) (by kernel_rfl))
              have c0 := keep hb m1
              clear hs hd
              unfold Oper.wp
              generalize a'.eval = ρ at e1 ⊢
              simp [go_sem, e1, c0]
              exact hK _ _ (Below.refl _ _) rfl) <|
                allOps_cons (fun a' w' hb hs hd => rg_op fun K hK => by
              have e1 := (show a'.eval (.tmp 132) = .int .i64 ↑p from hd.get 4 132 (by kernel_rfl) (by kernel_rfl))
              have e2 := (show a'.eval (.tmp 134) = .int .i64 st from hd.get 6 134 (by kernel_rfl) (by kernel_rfl))
              clear hs hd
              unfold Oper.wp
              generalize a'.eval = ρ at e1 e2 ⊢
              simp [go_sem, e1, e2, x1]
              exact hK _ _ (Below.refl _ _) rfl) <|
                allOps_cons (fun a' w' hb hs hd => rg_op fun K hK => by
              have e1 := (show a'.eval (.tmp 131) = .int .i64 fr from hd.get 3 131 (by kernel_rfl) (by kernel_rfl))
              have e2 := (show a'.eval (.tmp 135) = .int .i64 pp from hd.get 7 135 (by kernel_rfl) (by kernel_rfl))
              clear hs hd
              unfold Oper.wp
              generalize a'.eval = ρ at e1 e2 ⊢
              simp [go_sem, e1, e2, x2]
              exact hK _ _ (Below.refl _ _) rfl) <|
                allOps_cons (fun a' w' hb hs hd => by
              exact rg_fn (φ := (mpEq (.tuple #[.int .i64 y, .int .i64 0])).p) (vs := #[a'.eval (.tmp 129), .int .i64 tp]) rfl (enters_of Tryz.func36 (by kernel_rfl) rfl) (by simp [(show a'.eval (.tmp 136) = .int .i64 tp from hd.get 8 136 (by kernel_rfl) (by kernel_rfl))]) (by obtain ⟨X, cX, Y, cY, Z, cZ, hv, h1, h2, h3⟩ := (show (mpVw ux uy uz n k na ka da nb kb db).p (a'.eval (.tmp 129)) w' from hd.get 1 129 (by kernel_rfl) (by kernel_rfl)); rw [hv]; exact (HVI.out _ X cX Y cY Z cZ h1 h2 h3).mono (by rintro e w1 ⟨rfl, h1⟩; exact ⟨_, rfl, h1, rfl⟩))) <|
                allOps_cons (fun a' w' hb hs hd => rg_op fun K hK => by
              have e1 := (show a'.eval (.tmp 137) = .tuple #[.int .i64 y, .int .i64 0] from hd.get 9 137 (by kernel_rfl) (by kernel_rfl))
              clear hs hd
              unfold Oper.wp
              generalize a'.eval = ρ at e1 ⊢
              simp [go_sem, e1]
              exact hK _ _ (Below.refl _ _) rfl) <|
                allOps_cons (fun a' w' hb hs hd => rg_op fun K hK => by
              have e1 := (show a'.eval (.tmp 127) = .tuple #[.int .i64 y, .int .i64 0] from hd.get 10 127 (by kernel_rfl) (by kernel_rfl))
              clear hs hd
              unfold Oper.wp
              generalize a'.eval = ρ at e1 ⊢
              simp [go_sem, e1]
              exact hK _ _ (Below.refl _ _) rfl) <|
                allOps_cons (fun a' w' hb hs hd => rg_op fun K hK => by
              have e1 := (show a'.eval (.tmp 127) = .tuple #[.int .i64 y, .int .i64 0] from hd.get 10 127 (by kernel_rfl) (by kernel_rfl))
              clear hs hd
              unfold Oper.wp
              generalize a'.eval = ρ at e1 ⊢
              simp [go_sem, e1]
              exact hK _ _ (Below.refl _ _) rfl) <|
                allOps_cons (fun a' w' hb hs hd => rg_op fun K hK => by
              have e1 := (show a'.eval (.tmp 138) = .int .i64 y from hd.get 11 138 (by kernel_rfl) (by kernel_rfl))
              clear hs hd
              unfold Oper.wp
              generalize a'.eval = ρ at e1 ⊢
              simp [go_sem, e1]
              exact hK _ _ (Below.refl _ _) rfl) <|
                allOps_cons (fun a' w' hb hs hd => rg_op fun K hK => by
              have e1 := (show a'.eval (.tmp 139) = .int .i64 0 from hd.get 12 139 (by kernel_rfl) (by kernel_rfl))
              clear hs hd
              unfold Oper.wp
              generalize a'.eval = ρ at e1 ⊢
              simp [go_sem, e1]
              exact hK _ _ (Below.refl _ _) rfl) <| allOps_nil) (fun Q w6 hb6 hall => ?_)
            have hx0 : Q 11 = .int .i64 y := hall.get 13 rfl
            have hx1 : Q 12 = .int .i64 0 := hall.get 14 rfl
            clear hall
            simp only [my1, maskPut, Nat.reduceAdd]
            rw [hx0, hx1]
            clear hx0 hx1
            have hLR := HLR.out.to hb6
            replace c0 := keep hb6 c0
            replace c1 := keep hb6 c1
            replace c2 := keep hb6 c2
            have HLR6 := Lib.hid hLR
            clear l0 l1 l2 l3 l4 l5 l6 l7 m0 m1 m2 HC HA HB HBW hsw HLR hLR hb6 x1 x2 HVI HY HYQ
            have hyy3 : (y != y) = false := by simp
            go_wp2_with fail
            go_roundw
            case rel => exact ⟨p + 1, by omega, by omega, by go_num, HLR6.out⟩
            case measure => simp [intOf]; omega
          · have HLJ : Hid (p = S.L j + 1) := by unfold Hid; omega
            have w8 : IntKind.i64.wrap ((S.L j : Int) + 1) = (S.L j : Int) + 1 := IntWalk.i64_in _ (by omega)
            go_wp2_with fail
            go_roundw
            case rel => exact ⟨j + 1, by omega, by go_num, by rw [wnx_s HOK.out hlt]; go_num, HLR.out⟩
            case measure => simp [intOf]; omega
      · have hj : 0 < j := by omega
        clear hj0
        obtain ⟨d0, _, _⟩ := hcs (j - 1) (by omega)
        have hdf := HOK.out.diff (j - 1) (by omega)
        rw [show j - 1 + 1 = j by omega] at hdf
        generalize f (S.F j) = y1 at c0 hdf
        generalize f (S.F (j - 1)) = y2 at d0 hdf
        have hyy : (y1 == y2) = false := by simpa using hdf
        have p4 : IntKind.i64.wrap ((j : Int) - 1) = (j : Int) - 1 := IntWalk.i64_in _ (by omega)
        have p5 : (0 : Int) ≤ (j : Int) - 1 := by omega
        have p6 : (j : Int) - 1 < (S.m : Int) := by omega
        have p7 : ((j : Int) - 1).toNat = j - 1 := by omega
        have p8 : ¬ (j : Int) < 1 := by omega
        clear hcs
        go_wp2_with fail
        refine wp_region_gd [mpEq (.slice (some ⟨g, 0, none⟩) S.m cl), mpEq (.int .i64 ↑j), mpEq (.pointer (some ⟨g, j * 3, none⟩)), mpEq (.pointer (some ⟨g, j * 3 + 1, none⟩)), mpEq (.int .i64 ↑(S.F j)), mpEq (.int .i64 ↑(S.F j)), mpEq (.bool false), mpEq (.bool false), mpEq (.slice (some ⟨g, 0, none⟩) S.m cl), mpEq (.int .i64 ↑j), mpEq (.pointer (some ⟨g, j * 3, none⟩)), mpEq (.pointer (some ⟨g, j * 3 + 2, none⟩)), mpEq (.int .i64 ↑(S.L j)), mpEq (.int .i64 ↑(S.F j)), mpEq (.pointer (some ⟨w.heap.size + 1, 2, none⟩)), mpEq (.int .i64 ↑q), mpEq (.int .i64 qm), mpEq (.bool true), mpEq (.bool false), mpEq (.bool false), mpEq (.bool false), mpEq (.int .i64 ↑j), mpEq (.bool true), mpEq (.bool true), mpEq (.slice (some ⟨g, 0, none⟩) S.m cl), mpEq (.int .i64 ↑j), mpEq (.pointer (some ⟨g, j * 3, none⟩)), mpEq (.pointer (some ⟨g, j * 3, none⟩)), mpEq (.int .i64 y1), mpEq (.slice (some ⟨g, 0, none⟩) S.m cl), mpEq (.int .i64 ↑j), mpEq (.int .i64 ((j : Int) - 1)), mpEq (.pointer (some ⟨g, (j - 1) * 3, none⟩)), mpEq (.pointer (some ⟨g, (j - 1) * 3, none⟩)), mpEq (.int .i64 y2), mpEq (.bool false), mpEq (.bool false), mpEq (.bool false)] my2 (by kernel_rfl) (by kernel_rfl) (by kernel_rfl) (
            allOps_cons (fun a' w' hb hs hd => Or.inl ⟨wanted_n rfl, by
          exact op1 (φ := (mpEq (.slice (some ⟨g, 0, none⟩) S.m cl)).p) ((hs.get 5 (by kernel_rfl)).trans (show _ = Value.slice (some ⟨g, 0, none⟩) S.m cl from rfl)) (fun ρ e c => by simp [go_sem, e]) rfl⟩) <|
            allOps_cons (fun a' w' hb hs hd => Or.inl ⟨wanted_n rfl, by
          exact op1 (φ := (mpEq (.int .i64 ↑j)).p) ((hs.get 9 (by kernel_rfl)).trans (show _ = Value.int .i64 ↑j from rfl)) (fun ρ e c => by simp [go_sem, e]) rfl⟩) <|
            allOps_cons (fun a' w' hb hs hd => Or.inl ⟨wanted_n rfl, by
          exact op2 (φ := (mpEq (.pointer (some ⟨g, j * 3, none⟩))).p) ((show a'.eval (.tmp 75) = .slice (some ⟨g, 0, none⟩) S.m cl from hd.get 0 75 (by kernel_rfl) (by kernel_rfl))) ((show a'.eval (.tmp 76) = .int .i64 ↑j from hd.get 1 76 (by kernel_rfl) (by kernel_rfl))) (fun ρ e e' c => by simp [go_sem, e, e', p1, p2]) rfl⟩) <|
            allOps_cons (fun a' w' hb hs hd => Or.inl ⟨wanted_n rfl, by
          exact op1 (φ := (mpEq (.pointer (some ⟨g, j * 3 + 1, none⟩))).p) ((show a'.eval (.tmp 77) = .pointer (some ⟨g, j * 3, none⟩) from hd.get 2 77 (by kernel_rfl) (by kernel_rfl))) (fun ρ e c => by simp [go_sem, e]) rfl⟩) <|
            allOps_cons (fun a' w' hb hs hd => Or.inl ⟨wanted_n rfl, by
          exact op1 (φ := (mpEq (.int .i64 ↑(S.F j))).p) ((show a'.eval (.tmp 78) = .pointer (some ⟨g, j * 3 + 1, none⟩) from hd.get 3 78 (by kernel_rfl) (by kernel_rfl))) (fun ρ e c => by simp [go_sem, e, keep hb c1]) rfl⟩) <|
            allOps_cons (fun a' w' hb hs hd => Or.inl ⟨wanted_n rfl, by
          exact op1 (φ := (mpEq (.int .i64 ↑(S.F j))).p) ((hs.get 8 (by kernel_rfl)).trans (show _ = Value.int .i64 ↑(S.F j) from rfl)) (fun ρ e c => by simp [go_sem, e]) rfl⟩) <|
            allOps_cons (fun a' w' hb hs hd => Or.inl ⟨wanted_n rfl, by
          exact op2 (φ := (mpEq (.bool false)).p) ((show a'.eval (.tmp 79) = .int .i64 ↑(S.F j) from hd.get 4 79 (by kernel_rfl) (by kernel_rfl))) ((show a'.eval (.tmp 80) = .int .i64 ↑(S.F j) from hd.get 5 80 (by kernel_rfl) (by kernel_rfl))) (fun ρ e e' c => by simp [go_sem, e, e']) rfl⟩) <|
            allOps_cons (fun a' w' hb hs hd => Or.inl ⟨wanted_n rfl, by
          exact op1 (φ := (mpEq (.bool false)).p) ((show a'.eval (.tmp 81) = .bool false from hd.get 6 81 (by kernel_rfl) (by kernel_rfl))) (fun ρ e c => by simp [go_sem, e]) rfl⟩) <|
            allOps_cons (fun a' w' hb hs hd => Or.inl ⟨wanted_t (j := 7) (d := 82) rfl (by kernel_rfl) (show a'.eval (.tmp 82) = .bool false from hd.get 7 82 (by kernel_rfl) (by kernel_rfl)), by
          exact op1 (φ := (mpEq (.slice (some ⟨g, 0, none⟩) S.m cl)).p) ((hs.get 5 (by kernel_rfl)).trans (show _ = Value.slice (some ⟨g, 0, none⟩) S.m cl from rfl)) (fun ρ e c => by simp [go_sem, e]) rfl⟩) <|
            allOps_cons (fun a' w' hb hs hd => Or.inl ⟨wanted_t (j := 7) (d := 82) rfl (by kernel_rfl) (show a'.eval (.tmp 82) = .bool false from hd.get 7 82 (by kernel_rfl) (by kernel_rfl)), by
          exact op1 (φ := (mpEq (.int .i64 ↑j)).p) ((hs.get 9 (by kernel_rfl)).trans (show _ = Value.int .i64 ↑j from rfl)) (fun ρ e c => by simp [go_sem, e]) rfl⟩) <|
            allOps_cons (fun a' w' hb hs hd => Or.inl ⟨wanted_t (j := 7) (d := 82) rfl (by kernel_rfl) (show a'.eval (.tmp 82) = .bool false from hd.get 7 82 (by kernel_rfl) (by kernel_rfl)), by
          exact op2 (φ := (mpEq (.pointer (some ⟨g, j * 3, none⟩))).p) ((show a'.eval (.tmp 83) = .slice (some ⟨g, 0, none⟩) S.m cl from hd.get 8 83 (by kernel_rfl) (by kernel_rfl))) ((show a'.eval (.tmp 84) = .int .i64 ↑j from hd.get 9 84 (by kernel_rfl) (by kernel_rfl))) (fun ρ e e' c => by simp [go_sem, e, e', p1, p2]) rfl⟩) <|
            allOps_cons (fun a' w' hb hs hd => Or.inl ⟨wanted_t (j := 7) (d := 82) rfl (by kernel_rfl) (show a'.eval (.tmp 82) = .bool false from hd.get 7 82 (by kernel_rfl) (by kernel_rfl)), by
          exact op1 (φ := (mpEq (.pointer (some ⟨g, j * 3 + 2, none⟩))).p) ((show a'.eval (.tmp 85) = .pointer (some ⟨g, j * 3, none⟩) from hd.get 10 85 (by kernel_rfl) (by kernel_rfl))) (fun ρ e c => by simp [go_sem, e]) rfl⟩) <|
            allOps_cons (fun a' w' hb hs hd => Or.inl ⟨wanted_t (j := 7) (d := 82) rfl (by kernel_rfl) (show a'.eval (.tmp 82) = .bool false from hd.get 7 82 (by kernel_rfl) (by kernel_rfl)), by
          exact op1 (φ := (mpEq (.int .i64 ↑(S.L j))).p) ((show a'.eval (.tmp 86) = .pointer (some ⟨g, j * 3 + 2, none⟩) from hd.get 11 86 (by kernel_rfl) (by kernel_rfl))) (fun ρ e c => by simp [go_sem, e, keep hb c2]) rfl⟩) <|
            allOps_cons (fun a' w' hb hs hd => Or.inl ⟨wanted_t (j := 7) (d := 82) rfl (by kernel_rfl) (show a'.eval (.tmp 82) = .bool false from hd.get 7 82 (by kernel_rfl) (by kernel_rfl)), by
          exact op1 (φ := (mpEq (.int .i64 ↑(S.F j))).p) ((hs.get 8 (by kernel_rfl)).trans (show _ = Value.int .i64 ↑(S.F j) from rfl)) (fun ρ e c => by simp [go_sem, e]) rfl⟩) <|
            allOps_cons (fun a' w' hb hs hd => Or.inl ⟨wanted_t (j := 7) (d := 82) rfl (by kernel_rfl) (show a'.eval (.tmp 82) = .bool false from hd.get 7 82 (by kernel_rfl) (by kernel_rfl)), by
          exact op1 (φ := (mpEq (.pointer (some ⟨w.heap.size + 1, 2, none⟩))).p) ((hs.get 3 (by kernel_rfl)).trans (show _ = Value.pointer (some ⟨w.heap.size + 1, 0, none⟩) from rfl)) (fun ρ e c => by simp [go_sem, e]) rfl⟩) <|
            allOps_cons (fun a' w' hb hs hd => Or.inl ⟨wanted_t (j := 7) (d := 82) rfl (by kernel_rfl) (show a'.eval (.tmp 82) = .bool false from hd.get 7 82 (by kernel_rfl) (by kernel_rfl)), by
          exact op1 (φ := (mpEq (.int .i64 ↑q)).p) ((show a'.eval (.tmp 89) = .pointer (some ⟨w.heap.size + 1, 2, none⟩) from hd.get 14 89 (by kernel_rfl) (by kernel_rfl))) (fun ρ e c => by simp [go_sem, e, keep hb m2]) rfl⟩) <|
            allOps_cons (fun a' w' hb hs hd => Or.inl ⟨wanted_t (j := 7) (d := 82) rfl (by kernel_rfl) (show a'.eval (.tmp 82) = .bool false from hd.get 7 82 (by kernel_rfl) (by kernel_rfl)), by
          exact op1 (φ := (mpEq (.int .i64 qm)).p) ((show a'.eval (.tmp 90) = .int .i64 ↑q from hd.get 15 90 (by kernel_rfl) (by kernel_rfl))) (fun ρ e c => by simp [go_sem, e, c, hqm]) rfl⟩) <|
            allOps_cons (fun a' w' hb hs hd => Or.inl ⟨wanted_t (j := 7) (d := 82) rfl (by kernel_rfl) (show a'.eval (.tmp 82) = .bool false from hd.get 7 82 (by kernel_rfl) (by kernel_rfl)), by
          have e0 := (show a'.eval (.tmp 87) = .int .i64 ↑(S.L j) from hd.get 12 87 (by kernel_rfl) (by kernel_rfl))
          have e1 := (show a'.eval (.tmp 88) = .int .i64 ↑(S.F j) from hd.get 13 88 (by kernel_rfl) (by kernel_rfl))
          have e2 := (show a'.eval (.tmp 91) = .int .i64 qm from hd.get 16 91 (by kernel_rfl) (by kernel_rfl))
          exact rg_fn (φ := (mpEq (.bool true)).p) (vs := #[.int .i64 ↑(S.L j), .int .i64 ↑(S.F j), .int .i64 qm]) rfl (enters_of Tryz.func26 (by kernel_rfl) rfl) (by simp [e0, e1, e2]) (((HWJ.out w')).mono (by rintro e w1 ⟨rfl, h1⟩; exact ⟨_, rfl, h1, rfl⟩))⟩) <|
            allOps_cons (fun a' w' hb hs hd => Or.inl ⟨wanted_t (j := 7) (d := 82) rfl (by kernel_rfl) (show a'.eval (.tmp 82) = .bool false from hd.get 7 82 (by kernel_rfl) (by kernel_rfl)), by
          exact op1 (φ := (mpEq (.bool false)).p) ((show a'.eval (.tmp 92) = .bool true from hd.get 17 92 (by kernel_rfl) (by kernel_rfl))) (fun ρ e c => by simp [go_sem, e]) rfl⟩) <|
            allOps_cons (fun a' w' hb hs hd => Or.inl ⟨wanted_n rfl, by
          exact op2 (φ := (mpEq (.bool false)).p) ((show a'.eval (.tmp 82) = .bool false from hd.get 7 82 (by kernel_rfl) (by kernel_rfl))) ((show a'.eval (.tmp 93) = .bool false from hd.get 18 93 (by kernel_rfl) (by kernel_rfl))) (fun ρ e e' c => by simp [go_sem, e, e', c]) rfl⟩) <|
            allOps_cons (fun a' w' hb hs hd => Or.inl ⟨wanted_n rfl, by
          exact op1 (φ := (mpEq (.bool false)).p) ((show a'.eval (.tmp 94) = .bool false from hd.get 19 94 (by kernel_rfl) (by kernel_rfl))) (fun ρ e c => by simp [go_sem, e]) rfl⟩) <|
            allOps_cons (fun a' w' hb hs hd => Or.inl ⟨wanted_t (j := 20) (d := 95) rfl (by kernel_rfl) (show a'.eval (.tmp 95) = .bool false from hd.get 20 95 (by kernel_rfl) (by kernel_rfl)), by
          exact op1 (φ := (mpEq (.int .i64 ↑j)).p) ((hs.get 9 (by kernel_rfl)).trans (show _ = Value.int .i64 ↑j from rfl)) (fun ρ e c => by simp [go_sem, e]) rfl⟩) <|
            allOps_cons (fun a' w' hb hs hd => Or.inl ⟨wanted_t (j := 20) (d := 95) rfl (by kernel_rfl) (show a'.eval (.tmp 95) = .bool false from hd.get 20 95 (by kernel_rfl) (by kernel_rfl)), by
          exact op1 (φ := (mpEq (.bool true)).p) ((show a'.eval (.tmp 96) = .int .i64 ↑j from hd.get 21 96 (by kernel_rfl) (by kernel_rfl))) (fun ρ e c => by simp [go_sem, e, c, hj]) rfl⟩) <|
            allOps_cons (fun a' w' hb hs hd => Or.inl ⟨wanted_t (j := 20) (d := 95) rfl (by kernel_rfl) (show a'.eval (.tmp 95) = .bool false from hd.get 20 95 (by kernel_rfl) (by kernel_rfl)), by
          exact op1 (φ := (mpEq (.bool true)).p) ((show a'.eval (.tmp 97) = .bool true from hd.get 22 97 (by kernel_rfl) (by kernel_rfl))) (fun ρ e c => by simp [go_sem, e]) rfl⟩) <|
            allOps_cons (fun a' w' hb hs hd => Or.inl ⟨wanted_t (j := 23) (d := 98) rfl (by kernel_rfl) (show a'.eval (.tmp 98) = .bool true from hd.get 23 98 (by kernel_rfl) (by kernel_rfl)), by
          exact op1 (φ := (mpEq (.slice (some ⟨g, 0, none⟩) S.m cl)).p) ((hs.get 5 (by kernel_rfl)).trans (show _ = Value.slice (some ⟨g, 0, none⟩) S.m cl from rfl)) (fun ρ e c => by simp [go_sem, e]) rfl⟩) <|
            allOps_cons (fun a' w' hb hs hd => Or.inl ⟨wanted_t (j := 23) (d := 98) rfl (by kernel_rfl) (show a'.eval (.tmp 98) = .bool true from hd.get 23 98 (by kernel_rfl) (by kernel_rfl)), by
          exact op1 (φ := (mpEq (.int .i64 ↑j)).p) ((hs.get 9 (by kernel_rfl)).trans (show _ = Value.int .i64 ↑j from rfl)) (fun ρ e c => by simp [go_sem, e]) rfl⟩) <|
            allOps_cons (fun a' w' hb hs hd => Or.inl ⟨wanted_t (j := 23) (d := 98) rfl (by kernel_rfl) (show a'.eval (.tmp 98) = .bool true from hd.get 23 98 (by kernel_rfl) (by kernel_rfl)), by
          exact op2 (φ := (mpEq (.pointer (some ⟨g, j * 3, none⟩))).p) ((show a'.eval (.tmp 99) = .slice (some ⟨g, 0, none⟩) S.m cl from hd.get 24 99 (by kernel_rfl) (by kernel_rfl))) ((show a'.eval (.tmp 100) = .int .i64 ↑j from hd.get 25 100 (by kernel_rfl) (by kernel_rfl))) (fun ρ e e' c => by simp [go_sem, e, e', p1, p2]) rfl⟩) <|
            allOps_cons (fun a' w' hb hs hd => Or.inl ⟨wanted_t (j := 23) (d := 98) rfl (by kernel_rfl) (show a'.eval (.tmp 98) = .bool true from hd.get 23 98 (by kernel_rfl) (by kernel_rfl)), by
          exact op1 (φ := (mpEq (.pointer (some ⟨g, j * 3, none⟩))).p) ((show a'.eval (.tmp 101) = .pointer (some ⟨g, j * 3, none⟩) from hd.get 26 101 (by kernel_rfl) (by kernel_rfl))) (fun ρ e c => by simp [go_sem, e]) rfl⟩) <|
            allOps_cons (fun a' w' hb hs hd => Or.inl ⟨wanted_t (j := 23) (d := 98) rfl (by kernel_rfl) (show a'.eval (.tmp 98) = .bool true from hd.get 23 98 (by kernel_rfl) (by kernel_rfl)), by
          exact op1 (φ := (mpEq (.int .i64 y1)).p) ((show a'.eval (.tmp 102) = .pointer (some ⟨g, j * 3, none⟩) from hd.get 27 102 (by kernel_rfl) (by kernel_rfl))) (fun ρ e c => by simp [go_sem, e, keep hb c0]) rfl⟩) <|
            allOps_cons (fun a' w' hb hs hd => Or.inl ⟨wanted_t (j := 23) (d := 98) rfl (by kernel_rfl) (show a'.eval (.tmp 98) = .bool true from hd.get 23 98 (by kernel_rfl) (by kernel_rfl)), by
          exact op1 (φ := (mpEq (.slice (some ⟨g, 0, none⟩) S.m cl)).p) ((hs.get 5 (by kernel_rfl)).trans (show _ = Value.slice (some ⟨g, 0, none⟩) S.m cl from rfl)) (fun ρ e c => by simp [go_sem, e]) rfl⟩) <|
            allOps_cons (fun a' w' hb hs hd => Or.inl ⟨wanted_t (j := 23) (d := 98) rfl (by kernel_rfl) (show a'.eval (.tmp 98) = .bool true from hd.get 23 98 (by kernel_rfl) (by kernel_rfl)), by
          exact op1 (φ := (mpEq (.int .i64 ↑j)).p) ((hs.get 9 (by kernel_rfl)).trans (show _ = Value.int .i64 ↑j from rfl)) (fun ρ e c => by simp [go_sem, e]) rfl⟩) <|
            allOps_cons (fun a' w' hb hs hd => Or.inl ⟨wanted_t (j := 23) (d := 98) rfl (by kernel_rfl) (show a'.eval (.tmp 98) = .bool true from hd.get 23 98 (by kernel_rfl) (by kernel_rfl)), by
          exact op1 (φ := (mpEq (.int .i64 ((j : Int) - 1))).p) ((show a'.eval (.tmp 105) = .int .i64 ↑j from hd.get 30 105 (by kernel_rfl) (by kernel_rfl))) (fun ρ e c => by simp [go_sem, e, c, p4]) rfl⟩) <|
            allOps_cons (fun a' w' hb hs hd => Or.inl ⟨wanted_t (j := 23) (d := 98) rfl (by kernel_rfl) (show a'.eval (.tmp 98) = .bool true from hd.get 23 98 (by kernel_rfl) (by kernel_rfl)), by
          exact op2 (φ := (mpEq (.pointer (some ⟨g, (j - 1) * 3, none⟩))).p) ((show a'.eval (.tmp 104) = .slice (some ⟨g, 0, none⟩) S.m cl from hd.get 29 104 (by kernel_rfl) (by kernel_rfl))) ((show a'.eval (.tmp 106) = .int .i64 ((j : Int) - 1) from hd.get 31 106 (by kernel_rfl) (by kernel_rfl))) (fun ρ e e' c => by simp [go_sem, e, e', p6, p7, p8]) rfl⟩) <|
            allOps_cons (fun a' w' hb hs hd => Or.inl ⟨wanted_t (j := 23) (d := 98) rfl (by kernel_rfl) (show a'.eval (.tmp 98) = .bool true from hd.get 23 98 (by kernel_rfl) (by kernel_rfl)), by
          exact op1 (φ := (mpEq (.pointer (some ⟨g, (j - 1) * 3, none⟩))).p) ((show a'.eval (.tmp 107) = .pointer (some ⟨g, (j - 1) * 3, none⟩) from hd.get 32 107 (by kernel_rfl) (by kernel_rfl))) (fun ρ e c => by simp [go_sem, e]) rfl⟩) <|
            allOps_cons (fun a' w' hb hs hd => Or.inl ⟨wanted_t (j := 23) (d := 98) rfl (by kernel_rfl) (show a'.eval (.tmp 98) = .bool true from hd.get 23 98 (by kernel_rfl) (by kernel_rfl)), by
          exact op1 (φ := (mpEq (.int .i64 y2)).p) ((show a'.eval (.tmp 108) = .pointer (some ⟨g, (j - 1) * 3, none⟩) from hd.get 33 108 (by kernel_rfl) (by kernel_rfl))) (fun ρ e c => by simp [go_sem, e, keep hb d0]) rfl⟩) <|
            allOps_cons (fun a' w' hb hs hd => Or.inl ⟨wanted_t (j := 23) (d := 98) rfl (by kernel_rfl) (show a'.eval (.tmp 98) = .bool true from hd.get 23 98 (by kernel_rfl) (by kernel_rfl)), by
          exact op2 (φ := (mpEq (.bool false)).p) ((show a'.eval (.tmp 103) = .int .i64 y1 from hd.get 28 103 (by kernel_rfl) (by kernel_rfl))) ((show a'.eval (.tmp 109) = .int .i64 y2 from hd.get 34 109 (by kernel_rfl) (by kernel_rfl))) (fun ρ e e' c => by simp [go_sem, e, e', hyy]) rfl⟩) <|
            allOps_cons (fun a' w' hb hs hd => Or.inl ⟨wanted_t (j := 20) (d := 95) rfl (by kernel_rfl) (show a'.eval (.tmp 95) = .bool false from hd.get 20 95 (by kernel_rfl) (by kernel_rfl)), by
          exact op2 (φ := (mpEq (.bool false)).p) ((show a'.eval (.tmp 98) = .bool true from hd.get 23 98 (by kernel_rfl) (by kernel_rfl))) ((show a'.eval (.tmp 110) = .bool false from hd.get 35 110 (by kernel_rfl) (by kernel_rfl))) (fun ρ e e' c => by simp [go_sem, e, e', c]) rfl⟩) <|
            allOps_cons (fun a' w' hb hs hd => Or.inl ⟨wanted_n rfl, by
          exact op2 (φ := (mpEq (.bool false)).p) ((show a'.eval (.tmp 95) = .bool false from hd.get 20 95 (by kernel_rfl) (by kernel_rfl))) ((show a'.eval (.tmp 111) = .bool false from hd.get 36 111 (by kernel_rfl) (by kernel_rfl))) (fun ρ e e' c => by simp [go_sem, e, e', c]) rfl⟩) <| allOps_nil) (fun Q w5 hb5 hall => ?_)
        have hx0 : Q 112 = .bool false := hall.get 37 rfl
        clear hall
        simp only [my2, maskPut, Nat.reduceAdd]
        rw [hx0]
        clear hx0
        have hLR := HLR.out.to hb5
        clear l0 l1 l2 l3 l4 l5 l6 l7 m0 m1 m2 HC HA HB HW HBW hsw HLR hb5 c0 c1 c2 d0 hdf hyy p4 p5 p6 p7 p8
        have HLR := Lib.hid hLR
        obtain ⟨⟨hbw, hsw, ⟨l0, l1, l2, l3, l4, l5, l6, l7⟩, m0, m1, m2⟩, hC, hA, hB, hW⟩ := HLR.out
        have HC := Lib.hid hC
        have HA := Lib.hid hA
        have HB := Lib.hid hB
        have HW := Lib.hid hW
        have HBW := Lib.hid hbw
        clear hC hA hB hW hbw
        clear hLR
        obtain ⟨g', hg', hcs⟩ := HW.out hm1
        obtain rfl : g = g' := by simpa using hg'
        obtain ⟨c0, c1, c2⟩ := hcs j hlt
        clear hcs hg' HW
        go_wp2_with fail
        obtain ⟨wo, rfl⟩ : ∃ wo : World, wo = w5 := ⟨_, rfl⟩
        have HLO := Lib.hid HLR.out
        clear l0 l1 l2 l3 l4 l5 l6 l7 m0 m1 m2 HC HA HB HBW hsw HLR c0 c1 c2
        go_loopw [10] (fun s10 wr => ∃ p : Nat, S.F j ≤ p ∧ p ≤ S.L j + 1 ∧ s10 = .int .i64 p ∧ LR w ux uy uz C SA SB n c na ca nb cb da db fr st q k ka kb f S (some ⟨g, 0, none⟩) wr) (fun i _ => S.L j + 1 - (intOf i).toNat)
        case atStart => exact ⟨S.F j, Nat.le_refl _, by omega, rfl, HLO.out⟩
        case round =>
          clear HLO
          obtain ⟨p, hp1, hp2, rfl, hLR⟩ := hrel
          have HLR := Lib.hid hLR
          obtain ⟨⟨hbw, hsw, ⟨l0, l1, l2, l3, l4, l5, l6, l7⟩, m0, m1, m2⟩, hC, hA, hB, hW⟩ := HLR.out
          have HC := Lib.hid hC
          have HA := Lib.hid hA
          have HB := Lib.hid hB
          have HW := Lib.hid hW
          have HBW := Lib.hid hbw
          clear hC hA hB hW hbw
          clear hLR
          obtain ⟨g', hg', hcs⟩ := HW.out hm1
          obtain rfl : g = g' := by simpa using hg'
          obtain ⟨c0, c1, c2⟩ := hcs j hlt
          clear hcs hg' HW
          by_cases hle : p ≤ S.L j
          · have hpq : p < q := by omega
            have x1 := HP0.out p hpq
            have x2 := HT0.out p hpq
            have HVI := Lib.hid (HVI0.out p hpq)
            have HY := Lib.hid (HOK.out.same j hlt p hp1 hle)
            rw [← HY.out] at c0
            generalize hyq : f p = y at c0 HVI
            generalize P p = pp at x1 x2
            generalize tt p = tp at x2 HVI
            have HYQ := Lib.hid hyq
            clear hyq
            go_wp2_with fail
            refine wp_region_mp [mpEq (.agg #[.int .i64 ux, .int .i64 uy, .int .i64 uz, .slice C n c, .slice SA na ca, .int .i64 da, .slice SB nb cb, .int .i64 db]), mpVw ux uy uz n k na ka da nb kb db, mpEq (.pointer (some ⟨w.heap.size + 1, 0, none⟩)), mpEq (.int .i64 fr), mpEq (.int .i64 ↑p), mpEq (.pointer (some ⟨w.heap.size + 1, 1, none⟩)), mpEq (.int .i64 st), mpEq (.int .i64 pp), mpEq (.int .i64 tp), mpEq (.tuple #[.int .i64 y, .int .i64 0]), mpEq (.tuple #[.int .i64 y, .int .i64 0]), mpEq (.int .i64 y), mpEq (.int .i64 0), mpEq (.int .i64 y), mpEq (.int .i64 0)] my1 (by kernel_rfl) (by kernel_rfl) (by kernel_rfl) (
                allOps_cons (fun a' w' hb hs hd => rg_op fun K hK => by
              have e1 := (hs.get 2 (by kernel_rfl)).trans (show _ = Value.pointer (some ⟨w.heap.size, 0, none⟩) from rfl)
              have c0 := keep hb l0
              have c1 := keep hb l1
              have c2 := keep hb l2
              have c3 := keep hb l3
              have c4 := keep hb l4
              have c5 := keep hb l5
              have c6 := keep hb l6
              have c7 := keep hb l7
              clear hs hd
              unfold Oper.wp
              generalize a'.eval = ρ at e1 ⊢
              simp [go_sem, e1, c0, c1, c2, c3, c4, c5, c6, c7]
              exact hK _ _ (Below.refl _ _) rfl) <|
                allOps_cons (fun a' w' hb hs hd => by
              exact rg_fn (φ := (mpVw ux uy uz n k na ka da nb kb db).p) (vs := #[.agg #[.int .i64 ux, .int .i64 uy, .int .i64 uz, .slice C n c, .slice SA na ca, .int .i64 da, .slice SB nb cb, .int .i64 db]]) rfl (enters_of Tryz.func37 (by kernel_rfl) rfl) (by simp [(show a'.eval (.tmp 128) = .agg #[.int .i64 ux, .int .i64 uy, .int .i64 uz, .slice C n c, .slice SA na ca, .int .i64 da, .slice SB nb cb, .int .i64 db] from hd.get 0 128 (by kernel_rfl) (by kernel_rfl))]) ((HCX.out _ (HC.out.bel hb) (HA.out.bel hb) (HB.out.bel hb)).mono (by rintro e w1 ⟨X, cX, Y, cY, Z, cZ, rfl, h1, _, h2, h3, h4⟩; exact ⟨_, rfl, h4, X, cX, Y, cY, Z, cZ, rfl, h1, h2, h3⟩))) <|
                allOps_cons (fun a' w' hb hs hd => rg_op fun K hK => by
              have e1 := (hs.get 3 (by kernel_rfl)).trans (show _ = Value.pointer (some ⟨w.heap.size + 1, 0, none⟩) from rfl)
              clear hs hd
              unfold Oper.wp
              generalize a'.eval = ρ at e1 ⊢
              simp [go_sem, e1]
              exact hK _ _ (Below.refl _ _) rfl) <|
                allOps_cons (fun a' w' hb hs hd => rg_op fun K hK => by
              have e1 := (show a'.eval (.tmp 130) = .pointer (some ⟨w.heap.size + 1, 0, none⟩) from hd.get 2 130 (by kernel_rfl) (by kernel_rfl))
              have c0 := keep hb m0
              clear hs hd
              unfold Oper.wp
              generalize a'.eval = ρ at e1 ⊢
              simp [go_sem, e1, c0]
              exact hK _ _ (Below.refl _ _) rfl) <|
                allOps_cons (fun a' w' hb hs hd => rg_op fun K hK => by
              have e1 := (hs.get 10 (by kernel_rfl)).trans (show _ = .int .i64 ↑p from rfl)
              clear hs hd
              unfold Oper.wp
              generalize a'.eval = ρ at e1 ⊢
              simp [go_sem, e1]
              exact hK _ _ (Below.refl _ _) rfl) <|
                allOps_cons (fun a' w' hb hs hd => rg_op fun K hK => by
              have e1 := (hs.get 3 (by kernel_rfl)).trans (show _ = Value.pointer (some ⟨w.heap.size + 1, 0, none⟩) from rfl)
              clear hs hd
              unfold Oper.wp
              generalize a'.eval = ρ at e1 ⊢
              simp [go_sem, e1]
              exact hK _ _ (Below.refl _ _) rfl) <|
                allOps_cons (fun a' w' hb hs hd => rg_op fun K hK => by
              have e1 := (show a'.eval (.tmp 133) = .pointer (some ⟨w.heap.size + 1, 1, none⟩) from hd.get 5 133 (by kernel_rfl) (by kernel_rfl))
              have c0 := keep hb m1
              clear hs hd
              unfold Oper.wp
              generalize a'.eval = ρ at e1 ⊢
              simp [go_sem, e1, c0]
              exact hK _ _ (Below.refl _ _) rfl) <|
                allOps_cons (fun a' w' hb hs hd => rg_op fun K hK => by
              have e1 := (show a'.eval (.tmp 132) = .int .i64 ↑p from hd.get 4 132 (by kernel_rfl) (by kernel_rfl))
              have e2 := (show a'.eval (.tmp 134) = .int .i64 st from hd.get 6 134 (by kernel_rfl) (by kernel_rfl))
              clear hs hd
              unfold Oper.wp
              generalize a'.eval = ρ at e1 e2 ⊢
              simp [go_sem, e1, e2, x1]
              exact hK _ _ (Below.refl _ _) rfl) <|
                allOps_cons (fun a' w' hb hs hd => rg_op fun K hK => by
              have e1 := (show a'.eval (.tmp 131) = .int .i64 fr from hd.get 3 131 (by kernel_rfl) (by kernel_rfl))
              have e2 := (show a'.eval (.tmp 135) = .int .i64 pp from hd.get 7 135 (by kernel_rfl) (by kernel_rfl))
              clear hs hd
              unfold Oper.wp
              generalize a'.eval = ρ at e1 e2 ⊢
              simp [go_sem, e1, e2, x2]
              exact hK _ _ (Below.refl _ _) rfl) <|
                allOps_cons (fun a' w' hb hs hd => by
              exact rg_fn (φ := (mpEq (.tuple #[.int .i64 y, .int .i64 0])).p) (vs := #[a'.eval (.tmp 129), .int .i64 tp]) rfl (enters_of Tryz.func36 (by kernel_rfl) rfl) (by simp [(show a'.eval (.tmp 136) = .int .i64 tp from hd.get 8 136 (by kernel_rfl) (by kernel_rfl))]) (by obtain ⟨X, cX, Y, cY, Z, cZ, hv, h1, h2, h3⟩ := (show (mpVw ux uy uz n k na ka da nb kb db).p (a'.eval (.tmp 129)) w' from hd.get 1 129 (by kernel_rfl) (by kernel_rfl)); rw [hv]; exact (HVI.out _ X cX Y cY Z cZ h1 h2 h3).mono (by rintro e w1 ⟨rfl, h1⟩; exact ⟨_, rfl, h1, rfl⟩))) <|
                allOps_cons (fun a' w' hb hs hd => rg_op fun K hK => by
              have e1 := (show a'.eval (.tmp 137) = .tuple #[.int .i64 y, .int .i64 0] from hd.get 9 137 (by kernel_rfl) (by kernel_rfl))
              clear hs hd
              unfold Oper.wp
              generalize a'.eval = ρ at e1 ⊢
              simp [go_sem, e1]
              exact hK _ _ (Below.refl _ _) rfl) <|
                allOps_cons (fun a' w' hb hs hd => rg_op fun K hK => by
              have e1 := (show a'.eval (.tmp 127) = .tuple #[.int .i64 y, .int .i64 0] from hd.get 10 127 (by kernel_rfl) (by kernel_rfl))
              clear hs hd
              unfold Oper.wp
              generalize a'.eval = ρ at e1 ⊢
              simp [go_sem, e1]
              exact hK _ _ (Below.refl _ _) rfl) <|
                allOps_cons (fun a' w' hb hs hd => rg_op fun K hK => by
              have e1 := (show a'.eval (.tmp 127) = .tuple #[.int .i64 y, .int .i64 0] from hd.get 10 127 (by kernel_rfl) (by kernel_rfl))
              clear hs hd
              unfold Oper.wp
              generalize a'.eval = ρ at e1 ⊢
              simp [go_sem, e1]
              exact hK _ _ (Below.refl _ _) rfl) <|
                allOps_cons (fun a' w' hb hs hd => rg_op fun K hK => by
              have e1 := (show a'.eval (.tmp 138) = .int .i64 y from hd.get 11 138 (by kernel_rfl) (by kernel_rfl))
              clear hs hd
              unfold Oper.wp
              generalize a'.eval = ρ at e1 ⊢
              simp [go_sem, e1]
              exact hK _ _ (Below.refl _ _) rfl) <|
                allOps_cons (fun a' w' hb hs hd => rg_op fun K hK => by
              have e1 := (show a'.eval (.tmp 139) = .int .i64 0 from hd.get 12 139 (by kernel_rfl) (by kernel_rfl))
              clear hs hd
              unfold Oper.wp
              generalize a'.eval = ρ at e1 ⊢
              simp [go_sem, e1]
              exact hK _ _ (Below.refl _ _) rfl) <| allOps_nil) (fun Q w6 hb6 hall => ?_)
            have hx0 : Q 11 = .int .i64 y := hall.get 13 rfl
            have hx1 : Q 12 = .int .i64 0 := hall.get 14 rfl
            clear hall
            simp only [my1, maskPut, Nat.reduceAdd]
            rw [hx0, hx1]
            clear hx0 hx1
            have hLR := HLR.out.to hb6
            replace c0 := keep hb6 c0
            replace c1 := keep hb6 c1
            replace c2 := keep hb6 c2
            have HLR6 := Lib.hid hLR
            clear l0 l1 l2 l3 l4 l5 l6 l7 m0 m1 m2 HC HA HB HBW hsw HLR hLR hb6 x1 x2 HVI HY HYQ
            have hyy3 : (y != y) = false := by simp
            go_wp2_with fail
            go_roundw
            case rel => exact ⟨p + 1, by omega, by omega, by go_num, HLR6.out⟩
            case measure => simp [intOf]; omega
          · have HLJ : Hid (p = S.L j + 1) := by unfold Hid; omega
            have w8 : IntKind.i64.wrap ((S.L j : Int) + 1) = (S.L j : Int) + 1 := IntWalk.i64_in _ (by omega)
            go_wp2_with fail
            go_roundw
            case rel => exact ⟨j + 1, by omega, by go_num, by rw [wnx_s HOK.out hlt]; go_num, HLR.out⟩
            case measure => simp [intOf]; omega
    · have hwx : wnx S q j = q := if_neg hlt
      rw [hwx]
      clear hwx
      go_wp2_with fail
      go_ret
      exact ⟨rfl, HBW.out⟩
end Go.Proofs.YtnfoagcpgegldaaGreat
