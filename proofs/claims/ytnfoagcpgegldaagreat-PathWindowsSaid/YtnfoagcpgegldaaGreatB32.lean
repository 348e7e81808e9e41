/- Helpers: Windows of a valid view and grid. No condition but the hypotheses that each theorem names. -/
import Derived.Test.YtnfoagcpgegldaaGreatB25
import Derived.Test.YtnfoagcpgegldaaGreatB00
namespace Go.Proofs.YtnfoagcpgegldaaGreat
open Go.RowKit Go.Shelf Go.Sort
attribute [local go_sem] idx3_0 idx3_1 idx3_2 old1 fro1 old2 fro2 old3 fro3 old4 fro4 old5 fro5 old6 fro6 old7 fro7 old8 fro8 old9 fro9 old10 fro10 old11 fro11 old12 fro12
set_option maxRecDepth 100000 in
set_option maxHeartbeats 8000000 in
theorem windows_ok (ux uy uz : Int) (C SA SB : Option Addr) (n c na ca nb cb : Nat) (k : Nat → Cone) (ka kb : Nat → Knot) (da db fr st cm T0 T1 : Int) (q : Nat) (f tt : Nat → Int) (w : World) (hn : n ≤ 9223372036854775807) (hk : KC w C n k) (hA : TV.At (⟨SA, na, ca, ka, da⟩ : TV) w) (hB : TV.At (⟨SB, nb, cb, kb, db⟩ : TV) w)
    (hcm : IntKind.i64.wrap ((q : Int) - 1) = cm) (hT0 : tAt fr st 0 = T0) (hT1 : tAt fr st cm = T1) (hE : (wnErr (siteRes ux uy uz n k).2 (⟨SA, na, ca, ka, da⟩ : TV) (⟨SB, nb, cb, kb, db⟩ : TV) st ↑q T0 T1) = 0) (hq1 : 1 ≤ q) (hq2 : q ≤ 200) (htt : ∀ j : Nat, j < q → tAt fr st j = tt j)
    (hans : ∀ j : Nat, j < q → ∀ W, Below w.heap.size w W → Calls Tryz.prog 79 #[.agg #[.int .i64 ux, .int .i64 uy, .int .i64 uz, .slice C n c, .slice SA na ca, .int .i64 da, .slice SB nb cb, .int .i64 db], .int .i64 (tt j)] W fun e w' => e = .returned (.int .i64 (f j)) ∧ Below W.heap.size W w') :
    Calls Tryz.prog 41 #[.agg #[.int .i64 ux, .int .i64 uy, .int .i64 uz, .slice C n c, .slice SA na ca, .int .i64 da, .slice SB nb cb, .int .i64 db], .agg #[.int .i64 fr, .int .i64 st, .int .i64 ↑q]] w (SomeWin w f q) := by
  obtain ⟨i0, hi0, hz0, hz1, hz2⟩ := info_parts infoWin
  have HNE := Lib.hid hE
  have HT0 := Lib.hid htt
  have HA0 := Lib.hid hans
  clear hE htt hans
  have HK := Lib.hid hk
  have HVA := Lib.hid hA
  have HVB := Lib.hid hB
  clear hk hA hB
  go_enter Tryz.func41, Tryz.ntmps41
  go_wp2_with fail
  have u0 := (show ((w.alloc (.cells #[.int .i64 ux, .int .i64 uy, .int .i64 uz, .slice C n c, .slice SA na ca, .int .i64 da, .slice SB nb cb, .int .i64 db] 59)).alloc (.cells #[.int .i64 fr, .int .i64 st, .int .i64 ↑q] 73)).cell? ⟨w.heap.size, 0, none⟩ = some (.int .i64 ux) by simp [go_sem])
  have u1 := (show ((w.alloc (.cells #[.int .i64 ux, .int .i64 uy, .int .i64 uz, .slice C n c, .slice SA na ca, .int .i64 da, .slice SB nb cb, .int .i64 db] 59)).alloc (.cells #[.int .i64 fr, .int .i64 st, .int .i64 ↑q] 73)).cell? ⟨w.heap.size, 1, none⟩ = some (.int .i64 uy) by simp [go_sem])
  have u2 := (show ((w.alloc (.cells #[.int .i64 ux, .int .i64 uy, .int .i64 uz, .slice C n c, .slice SA na ca, .int .i64 da, .slice SB nb cb, .int .i64 db] 59)).alloc (.cells #[.int .i64 fr, .int .i64 st, .int .i64 ↑q] 73)).cell? ⟨w.heap.size, 2, none⟩ = some (.int .i64 uz) by simp [go_sem])
  have u3 := (show ((w.alloc (.cells #[.int .i64 ux, .int .i64 uy, .int .i64 uz, .slice C n c, .slice SA na ca, .int .i64 da, .slice SB nb cb, .int .i64 db] 59)).alloc (.cells #[.int .i64 fr, .int .i64 st, .int .i64 ↑q] 73)).cell? ⟨w.heap.size, 3, none⟩ = some (.slice C n c) by simp [go_sem])
  have a0 := (show ((w.alloc (.cells #[.int .i64 ux, .int .i64 uy, .int .i64 uz, .slice C n c, .slice SA na ca, .int .i64 da, .slice SB nb cb, .int .i64 db] 59)).alloc (.cells #[.int .i64 fr, .int .i64 st, .int .i64 ↑q] 73)).cell? ⟨w.heap.size, 4, none⟩ = some (.slice SA na ca) by simp [go_sem])
  have a1 := (show ((w.alloc (.cells #[.int .i64 ux, .int .i64 uy, .int .i64 uz, .slice C n c, .slice SA na ca, .int .i64 da, .slice SB nb cb, .int .i64 db] 59)).alloc (.cells #[.int .i64 fr, .int .i64 st, .int .i64 ↑q] 73)).cell? ⟨w.heap.size, 5, none⟩ = some (.int .i64 da) by simp [go_sem])
  have b0 := (show ((w.alloc (.cells #[.int .i64 ux, .int .i64 uy, .int .i64 uz, .slice C n c, .slice SA na ca, .int .i64 da, .slice SB nb cb, .int .i64 db] 59)).alloc (.cells #[.int .i64 fr, .int .i64 st, .int .i64 ↑q] 73)).cell? ⟨w.heap.size, 6, none⟩ = some (.slice SB nb cb) by simp [go_sem])
  have b1 := (show ((w.alloc (.cells #[.int .i64 ux, .int .i64 uy, .int .i64 uz, .slice C n c, .slice SA na ca, .int .i64 da, .slice SB nb cb, .int .i64 db] 59)).alloc (.cells #[.int .i64 fr, .int .i64 st, .int .i64 ↑q] 73)).cell? ⟨w.heap.size, 7, none⟩ = some (.int .i64 db) by simp [go_sem])
  have g0 := (show ((w.alloc (.cells #[.int .i64 ux, .int .i64 uy, .int .i64 uz, .slice C n c, .slice SA na ca, .int .i64 da, .slice SB nb cb, .int .i64 db] 59)).alloc (.cells #[.int .i64 fr, .int .i64 st, .int .i64 ↑q] 73)).cell? ⟨w.heap.size + 1, 0, none⟩ = some (.int .i64 fr) by simp [go_sem])
  have g1 := (show ((w.alloc (.cells #[.int .i64 ux, .int .i64 uy, .int .i64 uz, .slice C n c, .slice SA na ca, .int .i64 da, .slice SB nb cb, .int .i64 db] 59)).alloc (.cells #[.int .i64 fr, .int .i64 st, .int .i64 ↑q] 73)).cell? ⟨w.heap.size + 1, 1, none⟩ = some (.int .i64 st) by simp [go_sem])
  have g2 := (show ((w.alloc (.cells #[.int .i64 ux, .int .i64 uy, .int .i64 uz, .slice C n c, .slice SA na ca, .int .i64 da, .slice SB nb cb, .int .i64 db] 59)).alloc (.cells #[.int .i64 fr, .int .i64 st, .int .i64 ↑q] 73)).cell? ⟨w.heap.size + 1, 2, none⟩ = some (.int .i64 ↑q) by simp [go_sem])
  have BV := Lib.hid (show Below w.heap.size w ((w.alloc (.cells #[.int .i64 ux, .int .i64 uy, .int .i64 uz, .slice C n c, .slice SA na ca, .int .i64 da, .slice SB nb cb, .int .i64 db] 59)).alloc (.cells #[.int .i64 fr, .int .i64 st, .int .i64 ↑q] 73)) by (repeat (first | with_reducible exact Below.refl _ _ | with_reducible assumption | with_reducible refine Below.alloc ?_ (by first | (simp; done) | (simp; omega) | omega) _ | with_reducible refine Below.setCell ?_ (by first | (simp; done) | (simp; omega) | omega) _ | with_reducible refine Below.drew ?_ | with_reducible refine below_drewN ?_ _)))
  replace HK := Lib.hid (HK.out.bel BV.out)
  replace HVA := Lib.hid (HVA.out.below BV.out)
  replace HVB := Lib.hid (HVB.out.below BV.out)
  generalize ((w.alloc (.cells #[.int .i64 ux, .int .i64 uy, .int .i64 uz, .slice C n c, .slice SA na ca, .int .i64 da, .slice SB nb cb, .int .i64 db] 59)).alloc (.cells #[.int .i64 fr, .int .i64 st, .int .i64 ↑q] 73)) = V at *
  refine wp_region_mp [mpEq (.agg #[.int .i64 ux, .int .i64 uy, .int .i64 uz, .slice C n c, .slice SA na ca, .int .i64 da, .slice SB nb cb, .int .i64 db]), mpChk True (vwErr (siteRes ux uy uz n k).2 (⟨SA, na, ca, ka, da⟩ : TV) (⟨SB, nb, cb, kb, db⟩ : TV)), mpCnd True (wi st 1 10000 && wi ↑q 1 200), mpChk True (grE st ↑q), mpEq (.func (.func 85) #[] #[.pointer (some ⟨w.heap.size + 1, 0, none⟩)]), mpEq (.int .i64 T0), mpEq (.pointer (some ⟨w.heap.size, 4, none⟩)), mpEq (.agg #[.slice SA na ca, .int .i64 da]), mpEq (.pointer (some ⟨w.heap.size, 6, none⟩)), mpEq (.agg #[.slice SB nb cb, .int .i64 db]), mpTwo (⟨SA, na, ca, ka, da⟩ : TV) (⟨SB, nb, cb, kb, db⟩ : TV), mpChk (TV.err (⟨SA, na, ca, ka, da⟩ : TV) = 0 ∧ TV.err (⟨SB, nb, cb, kb, db⟩ : TV) = 0) (timesErr (⟨SA, na, ca, ka, da⟩ : TV) (⟨SB, nb, cb, kb, db⟩ : TV) T0), mpEq (.func (.func 85) #[] #[.pointer (some ⟨w.heap.size + 1, 0, none⟩)]), mpEq (.pointer (some ⟨w.heap.size + 1, 2, none⟩)), mpEq (.int .i64 ↑q), mpEq (.int .i64 cm), mpEq (.int .i64 T1), mpEq (.pointer (some ⟨w.heap.size, 4, none⟩)), mpEq (.agg #[.slice SA na ca, .int .i64 da]), mpEq (.pointer (some ⟨w.heap.size, 6, none⟩)), mpEq (.agg #[.slice SB nb cb, .int .i64 db]), mpTwo (⟨SA, na, ca, ka, da⟩ : TV) (⟨SB, nb, cb, kb, db⟩ : TV), mpChk (TV.err (⟨SA, na, ca, ka, da⟩ : TV) = 0 ∧ TV.err (⟨SB, nb, cb, kb, db⟩ : TV) = 0) (timesErr (⟨SA, na, ca, ka, da⟩ : TV) (⟨SB, nb, cb, kb, db⟩ : TV) T1), mpChks 4 (fun i => if i = 0 then vwErr (siteRes ux uy uz n k).2 (⟨SA, na, ca, ka, da⟩ : TV) (⟨SB, nb, cb, kb, db⟩ : TV) else if i = 1 then grE st ↑q else if i = 2 then timesErr (⟨SA, na, ca, ka, da⟩ : TV) (⟨SB, nb, cb, kb, db⟩ : TV) T0 else timesErr (⟨SA, na, ca, ka, da⟩ : TV) (⟨SB, nb, cb, kb, db⟩ : TV) T1), mpEq (.int .i64 (wnErr (siteRes ux uy uz n k).2 (⟨SA, na, ca, ka, da⟩ : TV) (⟨SB, nb, cb, kb, db⟩ : TV) st ↑q T0 T1)), mpEq (.int .i64 (wnErr (siteRes ux uy uz n k).2 (⟨SA, na, ca, ka, da⟩ : TV) (⟨SB, nb, cb, kb, db⟩ : TV) st ↑q T0 T1))] mw0 (by kernel_rfl) (by kernel_rfl) (by kernel_rfl) (
      allOps_cons (fun a' w' hb hs hd => rg_op fun K hK => by
    have e1 := (hs.get 2 (by kernel_rfl)).trans (show _ = Value.pointer (some ⟨w.heap.size, 0, none⟩) from rfl)
    have c0 := keep hb u0
    have c1 := keep hb u1
    have c2 := keep hb u2
    have c3 := keep hb u3
    have c4 := keep hb a0
    have c5 := keep hb a1
    have c6 := keep hb b0
    have c7 := keep hb b1
    clear hs hd
    unfold Oper.wp
    generalize a'.eval = ρ at e1 ⊢
    simp [go_sem, e1, c0, c1, c2, c3, c4, c5, c6, c7]
    exact hK _ _ (Below.refl _ _) rfl) <|
      allOps_cons (fun a' w' hb hs hd => by
    exact rg_fn (φ := (mpChk True (vwErr (siteRes ux uy uz n k).2 (⟨SA, na, ca, ka, da⟩ : TV) (⟨SB, nb, cb, kb, db⟩ : TV))).p) (vs := #[.agg #[.int .i64 ux, .int .i64 uy, .int .i64 uz, .slice C n c, .slice SA na ca, .int .i64 da, .slice SB nb cb, .int .i64 db]]) rfl (enters_of Tryz.func78 (by kernel_rfl) rfl) (by simp [(show a'.eval (.tmp 12) = .agg #[.int .i64 ux, .int .i64 uy, .int .i64 uz, .slice C n c, .slice SA na ca, .int .i64 da, .slice SB nb cb, .int .i64 db] from hd.get 0 12 (by kernel_rfl) (by kernel_rfl))]) (viewCheck_chk ux uy uz C n c k (⟨SA, na, ca, ka, da⟩ : TV) (⟨SB, nb, cb, kb, db⟩ : TV) w' hn (HK.out.bel hb) (HVA.out.below hb) (HVB.out.below hb))) <|
      allOps_cons (fun a' w' hb hs hd => rg_op fun K hK => by
    have e1 := (hs.get 3 (by kernel_rfl)).trans (show _ = Value.pointer (some ⟨w.heap.size + 1, 0, none⟩) from rfl)
    clear hs hd
    unfold Oper.wp
    generalize a'.eval = ρ at e1 ⊢
    simp [go_sem, e1]
    exact hK _ _ (Below.refl _ _) ⟨_, _, rfl, (enters_of Tryz.func86 (by kernel_rfl) rfl), fun w1 h1 _ => windows2_any (w.heap.size + 1) st ↑q w1 (keep (belowT hb h1) g1) (keep (belowT hb h1) g2)⟩) <|
      allOps_cons (fun a' w' hb hs hd => by
    exact rg_fn (φ := (mpChk True (grE st ↑q)).p) (vs := #[.int .i64 2, a'.eval (.tmp 14)]) rfl (enters_of Tryz.func56 (by kernel_rfl) rfl) (by simp [show a'.eval (.const (.int .i64 2)) = .int .i64 2 from rfl]) (require_chk 2 _ w' (hd.get 2 14 (by kernel_rfl) (by kernel_rfl)))) <|
      allOps_cons (fun a' w' hb hs hd => rg_op fun K hK => by
    have e1 := (hs.get 6 (by kernel_rfl)).trans (show _ = .func (.func 85) #[] #[.pointer (some ⟨w.heap.size + 1, 0, none⟩)] from rfl)
    clear hs hd
    unfold Oper.wp
    generalize a'.eval = ρ at e1 ⊢
    simp [go_sem, e1]
    exact hK _ _ (Below.refl _ _) rfl) <|
      allOps_cons (fun a' w' hb hs hd => by
    exact rg_fn (φ := (mpEq (.int .i64 T0)).p) (vs := #[.int .i64 0, .pointer (some ⟨w.heap.size + 1, 0, none⟩)]) (show a'.eval (.tmp 16) = .func (.func 85) #[] #[.pointer (some ⟨w.heap.size + 1, 0, none⟩)] from hd.get 4 16 (by kernel_rfl) (by kernel_rfl)) (enters_of Tryz.func85 (by kernel_rfl) rfl) (by simp [show a'.eval (.const (.int .i64 0)) = .int .i64 0 from rfl]) ((windows1_any (w.heap.size + 1) 0 fr st w' (keep hb g0) (keep hb g1)).mono (by rintro e w1 ⟨rfl, rfl⟩; exact ⟨_, rfl, Below.refl _ _, congrArg (Value.int .i64) hT0⟩))) <|
      allOps_cons (fun a' w' hb hs hd => rg_op fun K hK => by
    have e1 := (hs.get 2 (by kernel_rfl)).trans (show _ = Value.pointer (some ⟨w.heap.size, 0, none⟩) from rfl)
    clear hs hd
    unfold Oper.wp
    generalize a'.eval = ρ at e1 ⊢
    simp [go_sem, e1]
    exact hK _ _ (Below.refl _ _) rfl) <|
      allOps_cons (fun a' w' hb hs hd => rg_op fun K hK => by
    have e1 := (show a'.eval (.tmp 18) = .pointer (some ⟨w.heap.size, 4, none⟩) from hd.get 6 18 (by kernel_rfl) (by kernel_rfl))
    have c0 := keep hb a0
    have c1 := keep hb a1
    clear hs hd
    unfold Oper.wp
    generalize a'.eval = ρ at e1 ⊢
    simp [go_sem, e1, c0, c1]
    exact hK _ _ (Below.refl _ _) rfl) <|
      allOps_cons (fun a' w' hb hs hd => rg_op fun K hK => by
    have e1 := (hs.get 2 (by kernel_rfl)).trans (show _ = Value.pointer (some ⟨w.heap.size, 0, none⟩) from rfl)
    clear hs hd
    unfold Oper.wp
    generalize a'.eval = ρ at e1 ⊢
    simp [go_sem, e1]
    exact hK _ _ (Below.refl _ _) rfl) <|
      allOps_cons (fun a' w' hb hs hd => rg_op fun K hK => by
    have e1 := (show a'.eval (.tmp 20) = .pointer (some ⟨w.heap.size, 6, none⟩) from hd.get 8 20 (by kernel_rfl) (by kernel_rfl))
    have c0 := keep hb b0
    have c1 := keep hb b1
    clear hs hd
    unfold Oper.wp
    generalize a'.eval = ρ at e1 ⊢
    simp [go_sem, e1, c0, c1]
    exact hK _ _ (Below.refl _ _) rfl) <|
      allOps_cons (fun a' w' hb hs hd => rg_op fun K hK => by
    have e1 := (show a'.eval (.tmp 19) = .agg #[.slice SA na ca, .int .i64 da] from hd.get 7 19 (by kernel_rfl) (by kernel_rfl))
    have e2 := (show a'.eval (.tmp 21) = .agg #[.slice SB nb cb, .int .i64 db] from hd.get 9 21 (by kernel_rfl) (by kernel_rfl))
    clear hs hd
    unfold Oper.wp
    generalize a'.eval = ρ at e1 e2 ⊢
    simp [go_sem, e1, e2]
    exact hK _ _ ((Below.refl _ _).alloc (Nat.le_refl _) _) ⟨_, rfl, by simp [go_sem], by simp [go_sem], by simp [go_sem], by simp [go_sem]⟩) <|
      allOps_cons (fun a' w' hb hs hd => by
    exact rg_fn (φ := (mpChk (TV.err (⟨SA, na, ca, ka, da⟩ : TV) = 0 ∧ TV.err (⟨SB, nb, cb, kb, db⟩ : TV) = 0) (timesErr (⟨SA, na, ca, ka, da⟩ : TV) (⟨SB, nb, cb, kb, db⟩ : TV) T0)).p) (vs := #[.int .i64 T0, a'.eval (.tmp 22)]) rfl (enters_of Tryz.func53 (by kernel_rfl) rfl) (by simp [(show a'.eval (.tmp 17) = .int .i64 T0 from hd.get 5 17 (by kernel_rfl) (by kernel_rfl))]) (timeCheck_chk (⟨SA, na, ca, ka, da⟩ : TV) (⟨SB, nb, cb, kb, db⟩ : TV) T0 _ w' (HVA.out.below hb) (HVB.out.below hb) (hd.get 10 22 (by kernel_rfl) (by kernel_rfl)))) <|
      allOps_cons (fun a' w' hb hs hd => rg_op fun K hK => by
    have e1 := (hs.get 6 (by kernel_rfl)).trans (show _ = .func (.func 85) #[] #[.pointer (some ⟨w.heap.size + 1, 0, none⟩)] from rfl)
    clear hs hd
    unfold Oper.wp
    generalize a'.eval = ρ at e1 ⊢
    simp [go_sem, e1]
    exact hK _ _ (Below.refl _ _) rfl) <|
      allOps_cons (fun a' w' hb hs hd => rg_op fun K hK => by
    have e1 := (hs.get 3 (by kernel_rfl)).trans (show _ = Value.pointer (some ⟨w.heap.size + 1, 0, none⟩) from rfl)
    clear hs hd
    unfold Oper.wp
    generalize a'.eval = ρ at e1 ⊢
    simp [go_sem, e1]
    exact hK _ _ (Below.refl _ _) rfl) <|
      allOps_cons (fun a' w' hb hs hd => rg_op fun K hK => by
    have e1 := (show a'.eval (.tmp 25) = .pointer (some ⟨w.heap.size + 1, 2, none⟩) from hd.get 13 25 (by kernel_rfl) (by kernel_rfl))
    have c0 := keep hb g2
    clear hs hd
    unfold Oper.wp
    generalize a'.eval = ρ at e1 ⊢
    simp [go_sem, e1, c0]
    exact hK _ _ (Below.refl _ _) rfl) <|
      allOps_cons (fun a' w' hb hs hd => rg_op fun K hK => by
    have e1 := (show a'.eval (.tmp 26) = .int .i64 ↑q from hd.get 14 26 (by kernel_rfl) (by kernel_rfl))
    have ec : ∀ v, a'.eval (.const v) = v := fun _ => rfl
    clear hs hd
    unfold Oper.wp
    generalize a'.eval = ρ at e1 ec ⊢
    simp [go_sem, e1, ec, hcm]
    exact hK _ _ (Below.refl _ _) rfl) <|
      allOps_cons (fun a' w' hb hs hd => by
    exact rg_fn (φ := (mpEq (.int .i64 T1)).p) (vs := #[.int .i64 cm, .pointer (some ⟨w.heap.size + 1, 0, none⟩)]) (show a'.eval (.tmp 24) = .func (.func 85) #[] #[.pointer (some ⟨w.heap.size + 1, 0, none⟩)] from hd.get 12 24 (by kernel_rfl) (by kernel_rfl)) (enters_of Tryz.func85 (by kernel_rfl) rfl) (by simp [(show a'.eval (.tmp 27) = .int .i64 cm from hd.get 15 27 (by kernel_rfl) (by kernel_rfl))]) ((windows1_any (w.heap.size + 1) cm fr st w' (keep hb g0) (keep hb g1)).mono (by rintro e w1 ⟨rfl, rfl⟩; exact ⟨_, rfl, Below.refl _ _, congrArg (Value.int .i64) hT1⟩))) <|
      allOps_cons (fun a' w' hb hs hd => rg_op fun K hK => by
    have e1 := (hs.get 2 (by kernel_rfl)).trans (show _ = Value.pointer (some ⟨w.heap.size, 0, none⟩) from rfl)
    clear hs hd
    unfold Oper.wp
    generalize a'.eval = ρ at e1 ⊢
    simp [go_sem, e1]
    exact hK _ _ (Below.refl _ _) rfl) <|
      allOps_cons (fun a' w' hb hs hd => rg_op fun K hK => by
    have e1 := (show a'.eval (.tmp 29) = .pointer (some ⟨w.heap.size, 4, none⟩) from hd.get 17 29 (by kernel_rfl) (by kernel_rfl))
    have c0 := keep hb a0
    have c1 := keep hb a1
    clear hs hd
    unfold Oper.wp
    generalize a'.eval = ρ at e1 ⊢
    simp [go_sem, e1, c0, c1]
    exact hK _ _ (Below.refl _ _) rfl) <|
      allOps_cons (fun a' w' hb hs hd => rg_op fun K hK => by
    have e1 := (hs.get 2 (by kernel_rfl)).trans (show _ = Value.pointer (some ⟨w.heap.size, 0, none⟩) from rfl)
    clear hs hd
    unfold Oper.wp
    generalize a'.eval = ρ at e1 ⊢
    simp [go_sem, e1]
    exact hK _ _ (Below.refl _ _) rfl) <|
      allOps_cons (fun a' w' hb hs hd => rg_op fun K hK => by
    have e1 := (show a'.eval (.tmp 31) = .pointer (some ⟨w.heap.size, 6, none⟩) from hd.get 19 31 (by kernel_rfl) (by kernel_rfl))
    have c0 := keep hb b0
    have c1 := keep hb b1
    clear hs hd
    unfold Oper.wp
    generalize a'.eval = ρ at e1 ⊢
    simp [go_sem, e1, c0, c1]
    exact hK _ _ (Below.refl _ _) rfl) <|
      allOps_cons (fun a' w' hb hs hd => rg_op fun K hK => by
    have e1 := (show a'.eval (.tmp 30) = .agg #[.slice SA na ca, .int .i64 da] from hd.get 18 30 (by kernel_rfl) (by kernel_rfl))
    have e2 := (show a'.eval (.tmp 32) = .agg #[.slice SB nb cb, .int .i64 db] from hd.get 20 32 (by kernel_rfl) (by kernel_rfl))
    clear hs hd
    unfold Oper.wp
    generalize a'.eval = ρ at e1 e2 ⊢
    simp [go_sem, e1, e2]
    exact hK _ _ ((Below.refl _ _).alloc (Nat.le_refl _) _) ⟨_, rfl, by simp [go_sem], by simp [go_sem], by simp [go_sem], by simp [go_sem]⟩) <|
      allOps_cons (fun a' w' hb hs hd => by
    exact rg_fn (φ := (mpChk (TV.err (⟨SA, na, ca, ka, da⟩ : TV) = 0 ∧ TV.err (⟨SB, nb, cb, kb, db⟩ : TV) = 0) (timesErr (⟨SA, na, ca, ka, da⟩ : TV) (⟨SB, nb, cb, kb, db⟩ : TV) T1)).p) (vs := #[.int .i64 T1, a'.eval (.tmp 33)]) rfl (enters_of Tryz.func53 (by kernel_rfl) rfl) (by simp [(show a'.eval (.tmp 28) = .int .i64 T1 from hd.get 16 28 (by kernel_rfl) (by kernel_rfl))]) (timeCheck_chk (⟨SA, na, ca, ka, da⟩ : TV) (⟨SB, nb, cb, kb, db⟩ : TV) T1 _ w' (HVA.out.below hb) (HVB.out.below hb) (hd.get 21 33 (by kernel_rfl) (by kernel_rfl)))) <|
      allOps_cons (fun a' w' hb hs hd => rg_op fun K hK => by
    have k0 : (mpChk (True) (vwErr (siteRes ux uy uz n k).2 (⟨SA, na, ca, ka, da⟩ : TV) (⟨SB, nb, cb, kb, db⟩ : TV))).p (a'.eval (.tmp 13)) w' := hd.get 1 13 (by kernel_rfl) (by kernel_rfl)
    have k1 : (mpChk (True) (grE st ↑q)).p (a'.eval (.tmp 15)) w' := hd.get 3 15 (by kernel_rfl) (by kernel_rfl)
    have k2 : (mpChk (TV.err (⟨SA, na, ca, ka, da⟩ : TV) = 0 ∧ TV.err (⟨SB, nb, cb, kb, db⟩ : TV) = 0) (timesErr (⟨SA, na, ca, ka, da⟩ : TV) (⟨SB, nb, cb, kb, db⟩ : TV) T0)).p (a'.eval (.tmp 23)) w' := hd.get 11 23 (by kernel_rfl) (by kernel_rfl)
    have k3 : (mpChk (TV.err (⟨SA, na, ca, ka, da⟩ : TV) = 0 ∧ TV.err (⟨SB, nb, cb, kb, db⟩ : TV) = 0) (timesErr (⟨SA, na, ca, ka, da⟩ : TV) (⟨SB, nb, cb, kb, db⟩ : TV) T1)).p (a'.eval (.tmp 34)) w' := hd.get 22 34 (by kernel_rfl) (by kernel_rfl)
    clear hs hd
    unfold Oper.wp
    generalize a'.eval = ρ at k0 k1 k2 k3 ⊢
    obtain ⟨g0, f0, e0, h0⟩ := k0
    obtain ⟨g1, f1, e1, h1⟩ := k1
    obtain ⟨g2, f2, e2, h2⟩ := k2
    obtain ⟨g3, f3, e3, h3⟩ := k3
    simp [go_sem, e0, e1, e2, e3]
    have hx := (Below.refl w'.heap.size w').alloc (Nat.le_refl _) (.cells #[.func (.func g0) #[] f0, .func (.func g1) #[] f1, .func (.func g2) #[] f2, .func (.func g3) #[] f3] 93)
    refine hK _ _ hx ⟨_, rfl, fun i => if i = 0 then .func (.func g0) #[] f0 else if i = 1 then .func (.func g1) #[] f1 else if i = 2 then .func (.func g2) #[] f2 else .func (.func g3) #[] f3, fun i hi => ?_, fun i hi => ?_⟩
    · rcases (by omega : i = 0 ∨ i = 1 ∨ i = 2 ∨ i = 3) with rfl | rfl | rfl | rfl <;> simp [go_sem]
    · rcases (by omega : i = 0 ∨ i = 1 ∨ i = 2 ∨ i = 3) with rfl | rfl | rfl | rfl
      · exact Chk.imp (Chk.on (show Chk (True) (vwErr (siteRes ux uy uz n k).2 (⟨SA, na, ca, ka, da⟩ : TV) (⟨SB, nb, cb, kb, db⟩ : TV)) (.func (.func g0) #[] f0) w' from ⟨g0, f0, rfl, h0⟩) hx) (fun _ => trivial)
      · exact Chk.imp (Chk.on (show Chk (True) (grE st ↑q) (.func (.func g1) #[] f1) w' from ⟨g1, f1, rfl, h1⟩) hx) (fun _ => trivial)
      · exact Chk.imp (Chk.on (show Chk (TV.err (⟨SA, na, ca, ka, da⟩ : TV) = 0 ∧ TV.err (⟨SB, nb, cb, kb, db⟩ : TV) = 0) (timesErr (⟨SA, na, ca, ka, da⟩ : TV) (⟨SB, nb, cb, kb, db⟩ : TV) T0) (.func (.func g2) #[] f2) w' from ⟨g2, f2, rfl, h2⟩) hx) (fun hz => (vw_0 (hz 0 (by omega))).2)
      · exact Chk.imp (Chk.on (show Chk (TV.err (⟨SA, na, ca, ka, da⟩ : TV) = 0 ∧ TV.err (⟨SB, nb, cb, kb, db⟩ : TV) = 0) (timesErr (⟨SA, na, ca, ka, da⟩ : TV) (⟨SB, nb, cb, kb, db⟩ : TV) T1) (.func (.func g3) #[] f3) w' from ⟨g3, f3, rfl, h3⟩) hx) (fun hz => (vw_0 (hz 0 (by omega))).2)) <|
      allOps_cons (fun a' w' hb hs hd => by
    exact rg_fn (φ := (mpEq (.int .i64 (wnErr (siteRes ux uy uz n k).2 (⟨SA, na, ca, ka, da⟩ : TV) (⟨SB, nb, cb, kb, db⟩ : TV) st ↑q T0 T1))).p) (vs := #[a'.eval (.tmp 35)]) rfl (enters_of Tryz.func51 (by kernel_rfl) rfl) (by simp) ((first_chks (n := 4) (er := (fun i => if i = 0 then vwErr (siteRes ux uy uz n k).2 (⟨SA, na, ca, ka, da⟩ : TV) (⟨SB, nb, cb, kb, db⟩ : TV) else if i = 1 then grE st ↑q else if i = 2 then timesErr (⟨SA, na, ca, ka, da⟩ : TV) (⟨SB, nb, cb, kb, db⟩ : TV) T0 else timesErr (⟨SA, na, ca, ka, da⟩ : TV) (⟨SB, nb, cb, kb, db⟩ : TV) T1)) (by omega) (by omega) (hd.get 23 35 (by kernel_rfl) (by kernel_rfl))).mono (by rintro e w1 ⟨rfl, h1⟩; exact ⟨_, rfl, h1, congrArg (Value.int .i64) (ferr_wn _ (⟨SA, na, ca, ka, da⟩ : TV) (⟨SB, nb, cb, kb, db⟩ : TV) st ↑q T0 T1)⟩))) <|
      allOps_cons (fun a' w' hb hs hd => rg_op fun K hK => by
    have e1 := (show a'.eval (.tmp 36) = .int .i64 (wnErr (siteRes ux uy uz n k).2 (⟨SA, na, ca, ka, da⟩ : TV) (⟨SB, nb, cb, kb, db⟩ : TV) st ↑q T0 T1) from hd.get 24 36 (by kernel_rfl) (by kernel_rfl))
    clear hs hd
    unfold Oper.wp
    generalize a'.eval = ρ at e1 ⊢
    simp [go_sem, e1]
    exact hK _ _ (Below.refl _ _) rfl) <| allOps_nil) (fun Q w1 hb hall => ?_)
  have h8 : Q 7 = .int .i64 (wnErr (siteRes ux uy uz n k).2 (⟨SA, na, ca, ka, da⟩ : TV) (⟨SB, nb, cb, kb, db⟩ : TV) st ↑q T0 T1) := hall.get 25 rfl
  clear hall
  simp only [mw0, maskPut, Nat.reduceAdd]
  rw [h8]
  clear h8
  replace u0 := keep hb u0
  replace u1 := keep hb u1
  replace u2 := keep hb u2
  replace u3 := keep hb u3
  replace a0 := keep hb a0
  replace a1 := keep hb a1
  replace b0 := keep hb b0
  replace b1 := keep hb b1
  replace g0 := keep hb g0
  replace g1 := keep hb g1
  replace g2 := keep hb g2
  replace BV := Lib.hid (belowT BV.out hb)
  clear hb HK HVA HVB
  rw [HNE.out]
  clear HNE hcm hT0 hT1
  go_wp2_with fail
  go_loopw [8, 42] (fun s8 i wr => ∃ k : Nat, k ≤ q ∧ i = .int .i64 k ∧ Below w1.heap.size w1 wr ∧ Hid (wr.ownsRow w1.heap.size 81 3 s8 (ws f k).m (winL f (ws f k)))) (fun _ i _ => q - (intOf i).toNat)
  case atStart => exact ⟨0, Nat.zero_le _, rfl, Below.refl _ _, World.ownsRow_nil _ _ _ _⟩
  case round =>
    obtain ⟨p, hp, rfl, HB, HO⟩ := hrel
    by_cases hlt : p < q
    · have HTT := Lib.hid (HT0.out p hlt)
      have HAN := Lib.hid (HA0.out p hlt)
      have HN : Hid (ws f (p + 1) = if wsNew f (ws f p) p then wsAdd (ws f p) p else wsExt (ws f p) p) := rfl
      have hok := ws_ok f p
      generalize ws f p = S at HN HO hok
      have hm2 : S.m ≤ 200 := by have := hok.le; omega
      clear hok
      replace u0 := keep HB u0
      replace u1 := keep HB u1
      replace u2 := keep HB u2
      replace u3 := keep HB u3
      replace a0 := keep HB a0
      replace a1 := keep HB a1
      replace b0 := keep HB b0
      replace b1 := keep HB b1
      replace g0 := keep HB g0
      replace g1 := keep HB g1
      replace g2 := keep HB g2
      replace BV := Lib.hid (belowT BV.out HB)
      go_wp2_with fail
      refine wp_region_mp [mpEq (.agg #[.int .i64 ux, .int .i64 uy, .int .i64 uz, .slice C n c, .slice SA na ca, .int .i64 da, .slice SB nb cb, .int .i64 db]), mpEq (.func (.func 85) #[] #[.pointer (some ⟨w.heap.size + 1, 0, none⟩)]), mpEq (.int .i64 ↑p), mpEq (.int .i64 (tt p)), mpEq (.int .i64 (f p)), mpEq (.int .i64 (f p))] mw1 (by kernel_rfl) (by kernel_rfl) (by kernel_rfl) (
          allOps_cons (fun a' w' hb hs hd => rg_op fun K hK => by
        have e1 := (hs.get 2 (by kernel_rfl)).trans (show _ = Value.pointer (some ⟨w.heap.size, 0, none⟩) from rfl)
        have c0 := keep hb u0
        have c1 := keep hb u1
        have c2 := keep hb u2
        have c3 := keep hb u3
        have c4 := keep hb a0
        have c5 := keep hb a1
        have c6 := keep hb b0
        have c7 := keep hb b1
        clear hs hd
        unfold Oper.wp
        generalize a'.eval = ρ at e1 ⊢
        simp [go_sem, e1, c0, c1, c2, c3, c4, c5, c6, c7]
        exact hK _ _ (Below.refl _ _) rfl) <|
          allOps_cons (fun a' w' hb hs hd => rg_op fun K hK => by
        have e1 := (hs.get 6 (by kernel_rfl)).trans (show _ = .func (.func 85) #[] #[.pointer (some ⟨w.heap.size + 1, 0, none⟩)] from rfl)
        clear hs hd
        unfold Oper.wp
        generalize a'.eval = ρ at e1 ⊢
        simp [go_sem, e1]
        exact hK _ _ (Below.refl _ _) rfl) <|
          allOps_cons (fun a' w' hb hs hd => rg_op fun K hK => by
        have e1 := (hs.get 9 (by kernel_rfl)).trans (show _ = .int .i64 ↑p from rfl)
        clear hs hd
        unfold Oper.wp
        generalize a'.eval = ρ at e1 ⊢
        simp [go_sem, e1]
        exact hK _ _ (Below.refl _ _) rfl) <|
          allOps_cons (fun a' w' hb hs hd => by
        exact rg_fn (φ := (mpEq (.int .i64 (tt p))).p) (vs := #[.int .i64 ↑p, .pointer (some ⟨w.heap.size + 1, 0, none⟩)]) (show a'.eval (.tmp 46) = .func (.func 85) #[] #[.pointer (some ⟨w.heap.size + 1, 0, none⟩)] from hd.get 1 46 (by kernel_rfl) (by kernel_rfl)) (enters_of Tryz.func85 (by kernel_rfl) rfl) (by simp [(show a'.eval (.tmp 47) = .int .i64 ↑p from hd.get 2 47 (by kernel_rfl) (by kernel_rfl))]) ((windows1_any (w.heap.size + 1) ↑p fr st w' (keep hb g0) (keep hb g1)).mono (by rintro e w1 ⟨rfl, rfl⟩; exact ⟨_, rfl, Below.refl _ _, congrArg (Value.int .i64) (HTT.out)⟩))) <|
          allOps_cons (fun a' w' hb hs hd => by
        exact rg_fn (φ := (mpEq (.int .i64 (f p))).p) (vs := #[.agg #[.int .i64 ux, .int .i64 uy, .int .i64 uz, .slice C n c, .slice SA na ca, .int .i64 da, .slice SB nb cb, .int .i64 db], .int .i64 (tt p)]) rfl (enters_of Tryz.func79 (by kernel_rfl) rfl) (by simp [(show a'.eval (.tmp 45) = .agg #[.int .i64 ux, .int .i64 uy, .int .i64 uz, .slice C n c, .slice SA na ca, .int .i64 da, .slice SB nb cb, .int .i64 db] from hd.get 0 45 (by kernel_rfl) (by kernel_rfl)), (show a'.eval (.tmp 48) = .int .i64 (tt p) from hd.get 3 48 (by kernel_rfl) (by kernel_rfl))]) ((HAN.out _ (belowT BV.out hb)).mono (by rintro e w1 ⟨rfl, h1⟩; exact ⟨_, rfl, h1, rfl⟩))) <|
          allOps_cons (fun a' w' hb hs hd => rg_op fun K hK => by
        have e1 := (show a'.eval (.tmp 49) = .int .i64 (f p) from hd.get 4 49 (by kernel_rfl) (by kernel_rfl))
        clear hs hd
        unfold Oper.wp
        generalize a'.eval = ρ at e1 ⊢
        simp [go_sem, e1]
        exact hK _ _ (Below.refl _ _) rfl) <| allOps_nil) (fun Q w2 hb hall => ?_)
      have h8 : Q 10 = .int .i64 (f p) := hall.get 5 rfl
      clear hall
      simp only [mw1, maskPut, Nat.reduceAdd]
      rw [h8]
      clear h8
      replace u0 := keep hb u0; replace u1 := keep hb u1; replace u2 := keep hb u2; replace u3 := keep hb u3; replace a0 := keep hb a0; replace a1 := keep hb a1; replace b0 := keep hb b0; replace b1 := keep hb b1; replace g0 := keep hb g0; replace g1 := keep hb g1; replace g2 := keep hb g2; 
      have HBW := Lib.hid (belowT HB hb)
      replace BV := Lib.hid (belowT BV.out hb)
      have HO1 := Lib.hid (own_bel HO.out hb)
      clear HO HB hb HTT HAN
      by_cases hm : S.m = 0
      · obtain ⟨A8, c8, rfl⟩ := own_slice HO1.out
        have HNW : Hid (ws f (p + 1) = wsAdd S p) := by rw [HN.out, if_pos (show wsNew f S p from Or.inl hm)]; exact Lib.hid rfl
        have z : ((S.m : Int) == 0) = true := by simpa using hm
        clear hm HN
        go_wp2_with (first | (at_builtin; go_loud (refine wpList_append_own_at _ rfl _ _ 74 rfl w1.heap.size 81 i0 _ 3 24 undWins hi0 hz0 hz1 hz2 rfl (by decide) (.slice A8 S.m c8) _ _ rfl (HO1.out.alloc _) ⟨w2.heap.size, 0, none⟩ 1 1 [.int .i64 (f p), .int .i64 p, .int .i64 0] rfl rfl (news3 _ _ _ _ _) (by simp [Value.oneCell']) (by unfold maxLen; omega) (by omega) (by have := HBW.out.size; simp; omega) ?_; intro v' w5 hown' hgrow hnil hloc; obtain ⟨g5, c5, M, rfl, hM5, HO5, HB5, l5, f5, q1, q2, q3, q4⟩ := add_own _ HO1.out rfl HBW.out hown' hgrow hm2; clear hown' hgrow hnil hloc)) | fail)
        go_roundw
        case rel => exact ⟨p + 1, by omega, by go_num, HB5.out.setCell (by have := g_ge HO5.out; exact this) _, by rw [HNW.out]; exact step_add hM5.out HO5.out⟩
        case measure => simp [intOf]; omega
      · have h0 : 0 < S.m := by omega
        obtain ⟨g8, c8, rfl, l0, l2, f2, p1, p2, p3, p4⟩ := last_own h0 hm2 HO1.out
        have hg8 : w1.heap.size ≤ g8 := g_ge HO1.out
        have z : ((S.m : Int) == 0) = false := by simpa using hm
        by_cases hy : f (S.F (S.m - 1)) = f p
        · have HNW : Hid (ws f (p + 1) = wsExt S p) := by rw [HN.out, if_neg (show ¬ wsNew f S p by rintro (h | h); exact hm h; exact h hy)]; exact Lib.hid rfl
          rw [hy] at l0
          have hy2 : (f p != f p) = false := by simp
          clear hm HN hy
          go_wp2_with fail
          go_roundw
          case rel => exact ⟨p + 1, by omega, by go_num, HBW.out.setCell (by exact hg8) _, by rw [HNW.out]; exact step_ext h0 HO1.out⟩
          case measure => simp [intOf]; omega
        · have HNW : Hid (ws f (p + 1) = wsAdd S p) := by rw [HN.out, if_pos (show wsNew f S p from Or.inr hy)]; exact Lib.hid rfl
          have hy2 : (f (S.F (S.m - 1)) != f p) = true := by simpa using hy
          generalize f (S.F (S.m - 1)) = y at *
          clear hm HN hy
          go_wp2_with (first | (at_builtin; go_loud (refine wpList_append_own_at _ rfl _ _ 74 rfl w1.heap.size 81 i0 _ 3 24 undWins hi0 hz0 hz1 hz2 rfl (by decide) (.slice (some ⟨g8, 0, none⟩) S.m c8) _ _ rfl (HO1.out.alloc _) ⟨w2.heap.size, 0, none⟩ 1 1 [.int .i64 (f p), .int .i64 p, .int .i64 0] rfl rfl (news3 _ _ _ _ _) (by simp [Value.oneCell']) (by unfold maxLen; omega) (by omega) (by have := HBW.out.size; simp; omega) ?_; intro v' w5 hown' hgrow hnil hloc; obtain ⟨g5, c5, M, rfl, hM5, HO5, HB5, l5, f5, q1, q2, q3, q4⟩ := add_own _ HO1.out rfl HBW.out hown' hgrow hm2; clear hown' hgrow hnil hloc)) | fail)
          go_roundw
          case rel => exact ⟨p + 1, by omega, by go_num, HB5.out.setCell (by have := g_ge HO5.out; exact this) _, by rw [HNW.out]; exact step_add hM5.out HO5.out⟩
          case measure => simp [intOf]; omega
    · obtain rfl : p = q := by omega
      obtain ⟨e1, e2⟩ := own_win HO.out
      generalize sA u8 = A5 at *
      generalize sC u8 = C5 at *
      subst e1
      have HW := Lib.hid e2
      have HBE := Lib.hid (belowT BV.out HB)
      clear e2 HO HB
      go_wp2_with fail
      go_ret2
      exact ⟨A5, C5, rfl, HW.out, HBE.out⟩
end Go.Proofs.YtnfoagcpgegldaaGreat
namespace Go.Proofs.YtnfoagcpgegldaaGreat
def bp (n : Nat) : Int := 1000000000 ^ n
theorem bp_0 : bp 0 = 1 := rfl
theorem bp_s (n : Nat) : bp (n + 1) = bp n * 1000000000 := by unfold bp; rw [Int.pow_succ]
theorem bp_pos (n : Nat) : 0 < bp n := Int.pow_pos (by decide)
theorem bp_add (m n : Nat) : bp (m + n) = bp m * bp n := Int.pow_add _ _ _
theorem bp_mono {m n : Nat} (h : m ≤ n) : bp m ≤ bp n := by
  obtain ⟨k, rfl⟩ := Nat.exists_eq_add_of_le h
  rw [bp_add]
  have := Int.mul_le_mul_of_nonneg_left (show 1 ≤ bp k by have := bp_pos k; omega) (Int.le_of_lt (bp_pos m))
  omega
def dval (xs : Nat → Int) : Nat → Int
  | 0 => 0
  | n + 1 => dval xs n + xs n * bp n
theorem dval_s (xs : Nat → Int) (n : Nat) : dval xs (n + 1) = dval xs n + xs n * bp n := rfl
/-- The first n are digits. -/
def Dig (xs : Nat → Int) (n : Nat) : Prop := ∀ i, i < n → 0 ≤ xs i ∧ xs i < 1000000000
theorem Dig.less {xs : Nat → Int} {m n : Nat} (h : Dig xs n) (hm : m ≤ n) : Dig xs m := fun i hi => h i (by omega)
theorem dval_congr {xs ys : Nat → Int} : ∀ {n : Nat}, (∀ i, i < n → xs i = ys i) → dval xs n = dval ys n
  | 0, _ => rfl
  | n + 1, h => by rw [dval_s, dval_s, dval_congr (fun i hi => h i (by omega)), h n (by omega)]
theorem dval_bd {xs : Nat → Int} : ∀ {n : Nat}, Dig xs n → 0 ≤ dval xs n ∧ dval xs n < bp n
  | 0, _ => ⟨Int.le_refl _, bp_pos 0⟩
  | n + 1, h => by
    obtain ⟨a, b⟩ := dval_bd (n := n) (h.less (by omega))
    obtain ⟨c, d⟩ := h n (by omega)
    have hp := bp_pos n
    have e1 := Int.mul_nonneg c (Int.le_of_lt hp)
    have e2 := Int.mul_le_mul_of_nonneg_right (show xs n ≤ 999999999 by omega) (Int.le_of_lt hp)
    rw [dval_s, bp_s]
    omega
theorem dval_ge {xs : Nat → Int} {n : Nat} (h : Dig xs n) (h0 : 0 < n) (ht : xs (n - 1) ≠ 0) : bp (n - 1) ≤ dval xs n := by
  obtain ⟨m, rfl⟩ : ∃ m, n = m + 1 := ⟨n - 1, by omega⟩
  rw [Nat.add_sub_cancel] at *
  have a := (dval_bd (h.less (Nat.le_succ m))).1
  have b := h m (by omega)
  have := Int.mul_le_mul_of_nonneg_right (show 1 ≤ xs m by omega) (Int.le_of_lt (bp_pos m))
  rw [dval_s]
  omega
theorem dval_from {xs : Nat → Int} {m : Nat} : ∀ {n : Nat}, m ≤ n → (∀ i, m ≤ i → i < n → xs i = 0) → dval xs n = dval xs m
  | 0, h, _ => by rw [show m = 0 from Nat.le_zero.1 h]
  | n + 1, h, hz => by
    by_cases e : m = n + 1
    · rw [e]
    · rw [dval_s, hz n (by omega) (by omega), dval_from (n := n) (by omega) (fun i a b => hz i a (by omega))]
      omega
/-- Digits without noughts at the end. -/
def Trm (xs : Nat → Int) (n : Nat) : Prop := 0 < n → xs (n - 1) ≠ 0
theorem dval_zero {xs : Nat → Int} {n : Nat} (h : Dig xs n) (ht : Trm xs n) : dval xs n = 0 ↔ n = 0 := by
  constructor
  · intro e
    rcases Nat.eq_zero_or_pos n with z | z
    · exact z
    · have := dval_ge h z (ht z)
      have := bp_pos (n - 1)
      omega
  · intro e; subst e; rfl
theorem len_le {xs : Nat → Int} {n k : Nat} (h : Dig xs n) (ht : Trm xs n) (hk : dval xs n < bp k) : n ≤ k := by
  rcases Nat.lt_or_ge k n with z | z
  · have a := dval_ge h (by omega) (ht (by omega))
    have b := bp_mono (show k ≤ n - 1 by omega)
    omega
  · exact z
theorem dval_len_lt {xs ys : Nat → Int} {n m : Nat} (hx : Dig xs n) (hy : Dig ys m) (ty : Trm ys m) (h : n < m) : dval xs n < dval ys m := by
  have a := (dval_bd hx).2
  have b := dval_ge hy (by omega) (ty (by omega))
  have c := bp_mono (show n ≤ m - 1 by omega)
  omega
theorem dval_top_lt {xs ys : Nat → Int} {i : Nat} : ∀ {n : Nat}, Dig xs n → Dig ys n → i < n → xs i < ys i → (∀ j, i < j → j < n → xs j = ys j) → dval xs n < dval ys n
  | 0, _, _, h, _, _ => by omega
  | n + 1, hx, hy, h, hl, he => by
    rw [dval_s, dval_s]
    by_cases e : i = n
    · subst e
      have a := (dval_bd (hx.less (Nat.le_succ i))).2
      have b := (dval_bd (hy.less (Nat.le_succ i))).1
      have c := Int.mul_le_mul_of_nonneg_right (show xs i + 1 ≤ ys i by omega) (Int.le_of_lt (bp_pos i))
      rw [Int.add_mul] at c
      omega
    · have := dval_top_lt (n := n) (hx.less (by omega)) (hy.less (by omega)) (by omega) hl (fun j a b => he j a (by omega))
      rw [he n (by omega) (by omega)]
      omega
def cmpI (a b : Int) : Int := if a < b then -1 else if a = b then 0 else 1
theorem cmpI_lt {a b : Int} (h : a < b) : cmpI a b = -1 := by unfold cmpI; rw [if_pos h]
theorem cmpI_gt {a b : Int} (h : b < a) : cmpI a b = 1 := by unfold cmpI; rw [if_neg (by omega), if_neg (by omega)]
theorem cmpI_eq {a b : Int} (h : a = b) : cmpI a b = 0 := by unfold cmpI; rw [if_neg (by omega), if_pos h]
def sgn (n : Int) : Int := if n < 0 then -1 else if n = 0 then 0 else 1
theorem sgn_p {n : Int} (h : 0 < n) : sgn n = 1 := by unfold sgn; rw [if_neg (by omega), if_neg (by omega)]
theorem sgn_n {n : Int} (h : n < 0) : sgn n = -1 := by unfold sgn; rw [if_pos h]
theorem sgn_0 : sgn 0 = 0 := rfl
theorem sgn_mul (a b : Int) : sgn (a * b) = sgn a * sgn b := by
  rcases Int.lt_trichotomy a 0 with h | h | h <;> rcases Int.lt_trichotomy b 0 with q | q | q
  · rw [sgn_n h, sgn_n q, sgn_p (Int.mul_pos_of_neg_of_neg h q)]; rfl
  · subst q; rw [Int.mul_zero, sgn_0, Int.mul_zero]
  · rw [sgn_n h, sgn_p q, sgn_n (Int.mul_neg_of_neg_of_pos h q)]; rfl
  · subst h; rw [Int.zero_mul, sgn_0, Int.zero_mul]
  · subst h; rw [Int.zero_mul, sgn_0, Int.zero_mul]
  · subst h; rw [Int.zero_mul, sgn_0, Int.zero_mul]
  · rw [sgn_p h, sgn_n q, sgn_n (Int.mul_neg_of_pos_of_neg h q)]; rfl
  · subst q; rw [Int.mul_zero, sgn_0, Int.mul_zero]
  · rw [sgn_p h, sgn_p q, sgn_p (Int.mul_pos h q)]; rfl
theorem sgn_siz (a : Int) : sgn a * siz a = a := by
  unfold siz
  rcases Int.lt_trichotomy a 0 with h | h | h
  · rw [sgn_n h]; omega
  · subst h; rfl
  · rw [sgn_p h]; omega
/-- The digits of a number. -/
def dg (N : Int) (i : Nat) : Int := N / bp i % 1000000000
theorem dg_dig (N : Int) (n : Nat) : Dig (dg N) n := fun i _ => ⟨Int.emod_nonneg _ (by decide), Int.emod_lt_of_pos _ (by decide)⟩
theorem div_bp_s (N : Int) (i : Nat) : N / bp i / 1000000000 = N / bp (i + 1) := by
  rw [bp_s, Int.ediv_ediv_of_nonneg (Int.le_of_lt (bp_pos i))]
theorem dg_val (N : Int) : ∀ n : Nat, dval (dg N) n + N / bp n * bp n = N
  | 0 => by simp [dval, bp_0]
  | n + 1 => by
    have h := dg_val N n
    have e := Int.mul_ediv_add_emod (N / bp n) 1000000000
    rw [dval_s, ← div_bp_s, bp_s]
    have e2 : (N / bp n) * bp n = N / bp n / 1000000000 * (bp n * 1000000000) + dg N n * bp n := by
      have : N / bp n = 1000000000 * (N / bp n / 1000000000) + dg N n := e.symm
      generalize N / bp n / 1000000000 = q at *
      rw [this, Int.add_mul]
      congr 1
      rw [Int.mul_comm 1000000000 q, Int.mul_assoc, Int.mul_comm 1000000000]
    omega
theorem mul_dval (a : Int) (ys : Nat → Int) (k : Nat) : a * dval ys (k + 1) = a * dval ys k + a * ys k * bp k := by rw [dval_s, Int.mul_add, Int.mul_assoc]
/-- One digit put anew. -/
def upd (f : Nat → Int) (i : Nat) (x : Int) : Nat → Int := fun j => if j = i then x else f j
theorem upd_at (f : Nat → Int) (i : Nat) (x : Int) : upd f i x i = x := by simp [upd]
theorem upd_ne {f : Nat → Int} {i j : Nat} (x : Int) (h : j ≠ i) : upd f i x j = f j := by simp [upd, h]
theorem dval_upd {f : Nat → Int} {i : Nat} {x : Int} : ∀ {n : Nat}, i < n → dval (upd f i x) n = dval f n + (x - f i) * bp i
  | 0, h => by omega
  | n + 1, h => by
    rw [dval_s, dval_s]
    by_cases e : i = n
    · subst e
      rw [upd_at, dval_congr (ys := f) (fun j hj => upd_ne x (by omega)), Int.sub_mul]
      omega
    · rw [dval_upd (n := n) (by omega), upd_ne x (by omega)]
      omega
/-- A step of the inner loop of a product: the digit i + k becomes s % B, the carry s / B. -/
theorem mul_step {P V c s x o q : Int} {i k : Nat} (hs : s = o + x + c) (hV : V + c * bp (i + k) = P) (q' : q = V + (s % 1000000000 - o) * bp (i + k)) : q + s / 1000000000 * bp (i + (k + 1)) = P + x * bp (i + k) := by
  have e := Int.mul_ediv_add_emod s 1000000000
  rw [← Nat.add_assoc, bp_s]
  generalize s / 1000000000 = d at *
  generalize s % 1000000000 = r at *
  generalize bp (i + k) = b at *
  subst q'
  have e1 : d * (b * 1000000000) = 1000000000 * d * b := by rw [Int.mul_comm b, ← Int.mul_assoc, Int.mul_comm d]
  have e2 : 1000000000 * d * b + r * b = (o + x + c) * b := by rw [← Int.add_mul, e, hs]
  rw [Int.add_mul, Int.add_mul] at e2
  rw [Int.sub_mul, e1]
  omega
end Go.Proofs.YtnfoagcpgegldaaGreat
