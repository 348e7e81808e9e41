/- Helpers: ChangeOf, its walk. -/
import Derived.Test.YtnfoagcpgegldaaGreatB33
import Derived.Test.YtnfoagcpgegldaaGreatB31
import Derived.ProofKit
import Derived.OpenShut
import Derived.ShutString
import Derived.ChangeOld
import Derived.Below
import Derived.Lib.SmallJoins
import Derived.Deep.Slices
namespace Go.Proofs.YtnfoagcpgegldaaGreat
open Go.RowKit Go.Shelf Go.Sort
attribute [local go_sem] idx3_0 idx3_1 idx3_2 old1 fro1 old2 fro2 old3 fro3 old4 fro4 old5 fro5 old6 fro6 old7 fro7 old8 fro8 old9 fro9 old10 fro10 old11 fro11 old12 fro12
set_option maxRecDepth 100000 in
set_option maxHeartbeats 8000000 in
theorem changeOf_x (sa sb : Option Addr) (na ca nb cb : Nat) (ka kb : Nat → Knot) (da db T0 T1 : Int) (w : World) (hA : TV.At ⟨sa, na, ca, ka, da⟩ w) (hB : TV.At ⟨sb, nb, cb, kb, db⟩ w) :
    Calls Tryz.prog 15 #[.agg #[.slice sa na ca, .int .i64 da], .agg #[.slice sb nb cb, .int .i64 db], .agg #[.int .i64 T0, .int .i64 T1]] w fun e w' => e = .returned (.tuple #[.agg #[.int .i64 (chLo ⟨sa, na, ca, ka, da⟩ ⟨sb, nb, cb, kb, db⟩ T0 T1), .int .i64 (chHi ⟨sa, na, ca, ka, da⟩ ⟨sb, nb, cb, kb, db⟩ T0 T1)], .int .i64 (chE ⟨sa, na, ca, ka, da⟩ ⟨sb, nb, cb, kb, db⟩ T0 T1)]) ∧ Below w.heap.size w w' := by
  have HA := Lib.hid hA
  have HB := Lib.hid hB
  clear hA hB
  go_enter Tryz.func15, Tryz.ntmps15
  go_wp2_with fail
  have HV := Lib.hid (show RC w sa sb na ca nb cb da db T0 T1 ((((w.alloc (.cells #[.slice sa na ca, .int .i64 da] 24)).alloc (.cells #[.slice sb nb cb, .int .i64 db] 24)).alloc (.cells #[.int .i64 T0, .int .i64 T1] 25)).alloc (.cells #[.int .i64 0, .int .i64 0] 29)) from ⟨by (repeat (first | with_reducible exact Below.refl _ _ | with_reducible assumption | with_reducible refine Below.alloc ?_ (by first | (simp; done) | (simp; omega) | omega) _ | with_reducible refine Below.setCell ?_ (by first | (simp; done) | (simp; omega) | omega) _ | with_reducible refine Below.drew ?_ | with_reducible refine below_drewN ?_ _)), ⟨by simp [go_sem], by simp [go_sem], by simp [go_sem], by simp [go_sem], by simp [go_sem], by simp [go_sem]⟩, ⟨by simp [go_sem], by simp [go_sem]⟩, ⟨by simp [go_sem], by simp [go_sem]⟩⟩)
  have HVA := Lib.hid (HA.out.below (show Below w.heap.size w ((((w.alloc (.cells #[.slice sa na ca, .int .i64 da] 24)).alloc (.cells #[.slice sb nb cb, .int .i64 db] 24)).alloc (.cells #[.int .i64 T0, .int .i64 T1] 25)).alloc (.cells #[.int .i64 0, .int .i64 0] 29)) by (repeat (first | with_reducible exact Below.refl _ _ | with_reducible assumption | with_reducible refine Below.alloc ?_ (by first | (simp; done) | (simp; omega) | omega) _ | with_reducible refine Below.setCell ?_ (by first | (simp; done) | (simp; omega) | omega) _ | with_reducible refine Below.drew ?_ | with_reducible refine below_drewN ?_ _))))
  have HVB := Lib.hid (HB.out.below (show Below w.heap.size w ((((w.alloc (.cells #[.slice sa na ca, .int .i64 da] 24)).alloc (.cells #[.slice sb nb cb, .int .i64 db] 24)).alloc (.cells #[.int .i64 T0, .int .i64 T1] 25)).alloc (.cells #[.int .i64 0, .int .i64 0] 29)) by (repeat (first | with_reducible exact Below.refl _ _ | with_reducible assumption | with_reducible refine Below.alloc ?_ (by first | (simp; done) | (simp; omega) | omega) _ | with_reducible refine Below.setCell ?_ (by first | (simp; done) | (simp; omega) | omega) _ | with_reducible refine Below.drew ?_ | with_reducible refine below_drewN ?_ _))))
  go_cut [8] (fun s8 wx => s8 = .int .i64 (chE ⟨sa, na, ca, ka, da⟩ ⟨sb, nb, cb, kb, db⟩ T0 T1) ∧ RC w sa sb na ca nb cb da db T0 T1 wx)
  case first =>
    generalize ((((w.alloc (.cells #[.slice sa na ca, .int .i64 da] 24)).alloc (.cells #[.slice sb nb cb, .int .i64 db] 24)).alloc (.cells #[.int .i64 T0, .int .i64 T1] 25)).alloc (.cells #[.int .i64 0, .int .i64 0] 29)) = V at HV HVA HVB ⊢
    obtain ⟨_, ⟨a0, a1, b0, b1, t0, t1⟩, _, _⟩ := HV.out
    refine wp_region_mp [mpEq (.agg #[.slice sa na ca, .int .i64 da]), mpChk True (TV.err (⟨sa, na, ca, ka, da⟩ : TV)), mpEq (.agg #[.slice sb nb cb, .int .i64 db]), mpChk True (TV.err (⟨sb, nb, cb, kb, db⟩ : TV)), mpEq (.pointer (some ⟨w.heap.size + 1 + 1, 0, none⟩)), mpEq (.int .i64 T0), mpEq (.agg #[.slice sa na ca, .int .i64 da]), mpEq (.agg #[.slice sb nb cb, .int .i64 db]), mpTwo (⟨sa, na, ca, ka, da⟩ : TV) (⟨sb, nb, cb, kb, db⟩ : TV), mpChk (TV.err (⟨sa, na, ca, ka, da⟩ : TV) = 0 ∧ TV.err (⟨sb, nb, cb, kb, db⟩ : TV) = 0) (timesErr (⟨sa, na, ca, ka, da⟩ : TV) (⟨sb, nb, cb, kb, db⟩ : TV) T0), mpEq (.pointer (some ⟨w.heap.size + 1 + 1, 1, none⟩)), mpEq (.int .i64 T1), mpEq (.agg #[.slice sa na ca, .int .i64 da]), mpEq (.agg #[.slice sb nb cb, .int .i64 db]), mpTwo (⟨sa, na, ca, ka, da⟩ : TV) (⟨sb, nb, cb, kb, db⟩ : TV), mpChk (TV.err (⟨sa, na, ca, ka, da⟩ : TV) = 0 ∧ TV.err (⟨sb, nb, cb, kb, db⟩ : TV) = 0) (timesErr (⟨sa, na, ca, ka, da⟩ : TV) (⟨sb, nb, cb, kb, db⟩ : TV) T1), mpCnd True (decide (T0 ≤ T1)), mpChk True (if decide (T0 ≤ T1) = true then 0 else 9), mpChks 5 (fun i => if i = 0 then TV.err (⟨sa, na, ca, ka, da⟩ : TV) else if i = 1 then TV.err (⟨sb, nb, cb, kb, db⟩ : TV) else if i = 2 then timesErr (⟨sa, na, ca, ka, da⟩ : TV) (⟨sb, nb, cb, kb, db⟩ : TV) T0 else if i = 3 then timesErr (⟨sa, na, ca, ka, da⟩ : TV) (⟨sb, nb, cb, kb, db⟩ : TV) T1 else if decide (T0 ≤ T1) = true then 0 else 9), mpEq (.int .i64 (chE (⟨sa, na, ca, ka, da⟩ : TV) (⟨sb, nb, cb, kb, db⟩ : TV) T0 T1)), mpEq (.int .i64 (chE (⟨sa, na, ca, ka, da⟩ : TV) (⟨sb, nb, cb, kb, db⟩ : TV) T0 T1))] [false, false, false, false, false, false, false, false, true, false, false, true, true, true, true, true, true, true, true, true, true, true, true, true, true, true, true, true, true, true, true, false, false, false, false, false, false, false, false, false, false, false, false, false, false, false, false, false, false, false, false, false, false, false, false, false, false, false, false, false, false, false, false, false] (by kernel_rfl) (by kernel_rfl) (by kernel_rfl) (
      allOps_cons (fun a' w' hb hs hd => rg_op fun K hK => by
    have e1 := (hs.get 3 (by kernel_rfl)).trans (show _ = Value.pointer (some ⟨w.heap.size, 0, none⟩) from rfl)
    have c0 := keep hb a0
    have c1 := keep hb a1
    clear hs hd
    unfold Oper.wp
    generalize a'.eval = ρ at e1 ⊢
    simp [go_sem, e1, c0, c1]
    exact hK _ _ (Below.refl _ _) rfl) <|
      allOps_cons (fun a' w' hb hs hd => rg_fn (φ := (mpChk True (TV.err (⟨sa, na, ca, ka, da⟩ : TV))).p) (vs := #[.agg #[.slice sa na ca, .int .i64 da]]) rfl (enters_of Tryz.func52 (by kernel_rfl) rfl) (by simp [(show a'.eval (.tmp 11) = .agg #[.slice sa na ca, .int .i64 da] from hd.get 0 11 (by kernel_rfl) (by kernel_rfl))]) (trackCheck_chk (⟨sa, na, ca, ka, da⟩ : TV) w' (HVA.out.below hb))) <|
      allOps_cons (fun a' w' hb hs hd => rg_op fun K hK => by
    have e1 := (hs.get 4 (by kernel_rfl)).trans (show _ = Value.pointer (some ⟨w.heap.size + 1, 0, none⟩) from rfl)
    have c0 := keep hb b0
    have c1 := keep hb b1
    clear hs hd
    unfold Oper.wp
    generalize a'.eval = ρ at e1 ⊢
    simp [go_sem, e1, c0, c1]
    exact hK _ _ (Below.refl _ _) rfl) <|
      allOps_cons (fun a' w' hb hs hd => rg_fn (φ := (mpChk True (TV.err (⟨sb, nb, cb, kb, db⟩ : TV))).p) (vs := #[.agg #[.slice sb nb cb, .int .i64 db]]) rfl (enters_of Tryz.func52 (by kernel_rfl) rfl) (by simp [(show a'.eval (.tmp 13) = .agg #[.slice sb nb cb, .int .i64 db] from hd.get 2 13 (by kernel_rfl) (by kernel_rfl))]) (trackCheck_chk (⟨sb, nb, cb, kb, db⟩ : TV) w' (HVB.out.below hb))) <|
      allOps_cons (fun a' w' hb hs hd => rg_op fun K hK => by
    have e1 := (hs.get 5 (by kernel_rfl)).trans (show _ = Value.pointer (some ⟨w.heap.size + 1 + 1, 0, none⟩) from rfl)
    have ec : ∀ v, a'.eval (.const v) = v := fun _ => rfl
    clear hs hd
    unfold Oper.wp
    generalize a'.eval = ρ at e1 ec ⊢
    simp [go_sem, e1, ec]
    exact hK _ _ (Below.refl _ _) rfl) <|
      allOps_cons (fun a' w' hb hs hd => rg_op fun K hK => by
    have e1 := (show a'.eval (.tmp 15) = .pointer (some ⟨w.heap.size + 1 + 1, 0, none⟩) from hd.get 4 15 (by kernel_rfl) (by kernel_rfl))
    have c0 := keep hb t0
    clear hs hd
    unfold Oper.wp
    generalize a'.eval = ρ at e1 ⊢
    simp [go_sem, e1, c0]
    exact hK _ _ (Below.refl _ _) rfl) <|
      allOps_cons (fun a' w' hb hs hd => rg_op fun K hK => by
    have e1 := (hs.get 3 (by kernel_rfl)).trans (show _ = Value.pointer (some ⟨w.heap.size, 0, none⟩) from rfl)
    have c0 := keep hb a0
    have c1 := keep hb a1
    clear hs hd
    unfold Oper.wp
    generalize a'.eval = ρ at e1 ⊢
    simp [go_sem, e1, c0, c1]
    exact hK _ _ (Below.refl _ _) rfl) <|
      allOps_cons (fun a' w' hb hs hd => rg_op fun K hK => by
    have e1 := (hs.get 4 (by kernel_rfl)).trans (show _ = Value.pointer (some ⟨w.heap.size + 1, 0, none⟩) from rfl)
    have c0 := keep hb b0
    have c1 := keep hb b1
    clear hs hd
    unfold Oper.wp
    generalize a'.eval = ρ at e1 ⊢
    simp [go_sem, e1, c0, c1]
    exact hK _ _ (Below.refl _ _) rfl) <|
      allOps_cons (fun a' w' hb hs hd => rg_op fun K hK => by
    have e1 := (show a'.eval (.tmp 17) = .agg #[.slice sa na ca, .int .i64 da] from hd.get 6 17 (by kernel_rfl) (by kernel_rfl))
    have e2 := (show a'.eval (.tmp 18) = .agg #[.slice sb nb cb, .int .i64 db] from hd.get 7 18 (by kernel_rfl) (by kernel_rfl))
    clear hs hd
    unfold Oper.wp
    generalize a'.eval = ρ at e1 e2 ⊢
    simp [go_sem, e1, e2]
    exact hK _ _ ((Below.refl _ _).alloc (Nat.le_refl _) _) ⟨_, rfl, by simp [go_sem], by simp [go_sem], by simp [go_sem], by simp [go_sem]⟩) <|
      allOps_cons (fun a' w' hb hs hd => rg_fn (φ := (mpChk (TV.err (⟨sa, na, ca, ka, da⟩ : TV) = 0 ∧ TV.err (⟨sb, nb, cb, kb, db⟩ : TV) = 0) (timesErr (⟨sa, na, ca, ka, da⟩ : TV) (⟨sb, nb, cb, kb, db⟩ : TV) T0)).p) (vs := #[.int .i64 T0, a'.eval (.tmp 19)]) rfl (enters_of Tryz.func53 (by kernel_rfl) rfl) (by simp [(show a'.eval (.tmp 16) = .int .i64 T0 from hd.get 5 16 (by kernel_rfl) (by kernel_rfl))]) (timeCheck_chk (⟨sa, na, ca, ka, da⟩ : TV) (⟨sb, nb, cb, kb, db⟩ : TV) T0 _ w' (HVA.out.below hb) (HVB.out.below hb) (hd.get 8 19 (by kernel_rfl) (by kernel_rfl)))) <|
      allOps_cons (fun a' w' hb hs hd => rg_op fun K hK => by
    have e1 := (hs.get 5 (by kernel_rfl)).trans (show _ = Value.pointer (some ⟨w.heap.size + 1 + 1, 0, none⟩) from rfl)
    have ec : ∀ v, a'.eval (.const v) = v := fun _ => rfl
    clear hs hd
    unfold Oper.wp
    generalize a'.eval = ρ at e1 ec ⊢
    simp [go_sem, e1, ec]
    exact hK _ _ (Below.refl _ _) rfl) <|
      allOps_cons (fun a' w' hb hs hd => rg_op fun K hK => by
    have e1 := (show a'.eval (.tmp 21) = .pointer (some ⟨w.heap.size + 1 + 1, 1, none⟩) from hd.get 10 21 (by kernel_rfl) (by kernel_rfl))
    have c0 := keep hb t1
    clear hs hd
    unfold Oper.wp
    generalize a'.eval = ρ at e1 ⊢
    simp [go_sem, e1, c0]
    exact hK _ _ (Below.refl _ _) rfl) <|
      allOps_cons (fun a' w' hb hs hd => rg_op fun K hK => by
    have e1 := (hs.get 3 (by kernel_rfl)).trans (show _ = Value.pointer (some ⟨w.heap.size, 0, none⟩) from rfl)
    have c0 := keep hb a0
    have c1 := keep hb a1
    clear hs hd
    unfold Oper.wp
    generalize a'.eval = ρ at e1 ⊢
    simp [go_sem, e1, c0, c1]
    exact hK _ _ (Below.refl _ _) rfl) <|
      allOps_cons (fun a' w' hb hs hd => rg_op fun K hK => by
    have e1 := (hs.get 4 (by kernel_rfl)).trans (show _ = Value.pointer (some ⟨w.heap.size + 1, 0, none⟩) from rfl)
    have c0 := keep hb b0
    have c1 := keep hb b1
    clear hs hd
    unfold Oper.wp
    generalize a'.eval = ρ at e1 ⊢
    simp [go_sem, e1, c0, c1]
    exact hK _ _ (Below.refl _ _) rfl) <|
      allOps_cons (fun a' w' hb hs hd => rg_op fun K hK => by
    have e1 := (show a'.eval (.tmp 23) = .agg #[.slice sa na ca, .int .i64 da] from hd.get 12 23 (by kernel_rfl) (by kernel_rfl))
    have e2 := (show a'.eval (.tmp 24) = .agg #[.slice sb nb cb, .int .i64 db] from hd.get 13 24 (by kernel_rfl) (by kernel_rfl))
    clear hs hd
    unfold Oper.wp
    generalize a'.eval = ρ at e1 e2 ⊢
    simp [go_sem, e1, e2]
    exact hK _ _ ((Below.refl _ _).alloc (Nat.le_refl _) _) ⟨_, rfl, by simp [go_sem], by simp [go_sem], by simp [go_sem], by simp [go_sem]⟩) <|
      allOps_cons (fun a' w' hb hs hd => rg_fn (φ := (mpChk (TV.err (⟨sa, na, ca, ka, da⟩ : TV) = 0 ∧ TV.err (⟨sb, nb, cb, kb, db⟩ : TV) = 0) (timesErr (⟨sa, na, ca, ka, da⟩ : TV) (⟨sb, nb, cb, kb, db⟩ : TV) T1)).p) (vs := #[.int .i64 T1, a'.eval (.tmp 25)]) rfl (enters_of Tryz.func53 (by kernel_rfl) rfl) (by simp [(show a'.eval (.tmp 22) = .int .i64 T1 from hd.get 11 22 (by kernel_rfl) (by kernel_rfl))]) (timeCheck_chk (⟨sa, na, ca, ka, da⟩ : TV) (⟨sb, nb, cb, kb, db⟩ : TV) T1 _ w' (HVA.out.below hb) (HVB.out.below hb) (hd.get 14 25 (by kernel_rfl) (by kernel_rfl)))) <|
      allOps_cons (fun a' w' hb hs hd => rg_op fun K hK => by
    have e1 := (hs.get 5 (by kernel_rfl)).trans (show _ = Value.pointer (some ⟨w.heap.size + 1 + 1, 0, none⟩) from rfl)
    have c0 := keep hb t0
    have c1 := keep hb t1
    clear hs hd
    unfold Oper.wp
    generalize a'.eval = ρ at e1 ⊢
    simp [go_sem, e1]
    exact hK _ _ (Below.refl _ _) ⟨_, _, rfl, (enters_of Tryz.func57 (by kernel_rfl) rfl), fun w1 h1 _ => changeOf1_any _ T0 T1 w1 (keep h1 c0) (keep h1 c1)⟩) <|
      allOps_cons (fun a' w' hb hs hd => rg_fn (φ := (mpChk True (if decide (T0 ≤ T1) = true then 0 else 9)).p) (vs := #[.int .i64 9, a'.eval (.tmp 27)]) rfl (enters_of Tryz.func56 (by kernel_rfl) rfl) (by simp [show a'.eval (.const (.int .i64 9)) = .int .i64 9 from rfl]) (require_chk 9 _ w' (hd.get 16 27 (by kernel_rfl) (by kernel_rfl)))) <|
      allOps_cons (fun a' w' hb hs hd => rg_op fun K hK => by
    have k0 : (mpChk True (TV.err (⟨sa, na, ca, ka, da⟩ : TV))).p (a'.eval (.tmp 12)) w' := hd.get 1 12 (by kernel_rfl) (by kernel_rfl)
    have k1 : (mpChk True (TV.err (⟨sb, nb, cb, kb, db⟩ : TV))).p (a'.eval (.tmp 14)) w' := hd.get 3 14 (by kernel_rfl) (by kernel_rfl)
    have k2 : (mpChk (TV.err (⟨sa, na, ca, ka, da⟩ : TV) = 0 ∧ TV.err (⟨sb, nb, cb, kb, db⟩ : TV) = 0) (timesErr (⟨sa, na, ca, ka, da⟩ : TV) (⟨sb, nb, cb, kb, db⟩ : TV) T0)).p (a'.eval (.tmp 20)) w' := hd.get 9 20 (by kernel_rfl) (by kernel_rfl)
    have k3 : (mpChk (TV.err (⟨sa, na, ca, ka, da⟩ : TV) = 0 ∧ TV.err (⟨sb, nb, cb, kb, db⟩ : TV) = 0) (timesErr (⟨sa, na, ca, ka, da⟩ : TV) (⟨sb, nb, cb, kb, db⟩ : TV) T1)).p (a'.eval (.tmp 26)) w' := hd.get 15 26 (by kernel_rfl) (by kernel_rfl)
    have k4 : (mpChk True (if decide (T0 ≤ T1) = true then 0 else 9)).p (a'.eval (.tmp 28)) w' := hd.get 17 28 (by kernel_rfl) (by kernel_rfl)
    clear hs hd
    unfold Oper.wp
    generalize a'.eval = ρ at k0 k1 k2 k3 k4 ⊢
    obtain ⟨g0, f0, e0, h0⟩ := k0
    obtain ⟨g1, f1, e1, h1⟩ := k1
    obtain ⟨g2, f2, e2, h2⟩ := k2
    obtain ⟨g3, f3, e3, h3⟩ := k3
    obtain ⟨g4, f4, e4, h4⟩ := k4
    simp [go_sem, e0, e1, e2, e3, e4]
    have hx := (Below.refl w'.heap.size w').alloc (Nat.le_refl _) (.cells #[.func (.func g0) #[] f0, .func (.func g1) #[] f1, .func (.func g2) #[] f2, .func (.func g3) #[] f3, .func (.func g4) #[] f4] 93)
    refine hK _ _ hx ⟨_, rfl, fun i => if i = 0 then .func (.func g0) #[] f0 else if i = 1 then .func (.func g1) #[] f1 else if i = 2 then .func (.func g2) #[] f2 else if i = 3 then .func (.func g3) #[] f3 else .func (.func g4) #[] f4, fun i hi => ?_, fun i hi => ?_⟩
    · rcases (by omega : i = 0 ∨ i = 1 ∨ i = 2 ∨ i = 3 ∨ i = 4) with rfl | rfl | rfl | rfl | rfl <;> simp [go_sem]
    · rcases (by omega : i = 0 ∨ i = 1 ∨ i = 2 ∨ i = 3 ∨ i = 4) with rfl | rfl | rfl | rfl | rfl
      · exact Chk.imp (Chk.on (show Chk True (TV.err (⟨sa, na, ca, ka, da⟩ : TV)) (.func (.func g0) #[] f0) w' from ⟨g0, f0, rfl, h0⟩) hx) (fun _ => trivial)
      · exact Chk.imp (Chk.on (show Chk True (TV.err (⟨sb, nb, cb, kb, db⟩ : TV)) (.func (.func g1) #[] f1) w' from ⟨g1, f1, rfl, h1⟩) hx) (fun _ => trivial)
      · exact Chk.imp (Chk.on (show Chk (TV.err (⟨sa, na, ca, ka, da⟩ : TV) = 0 ∧ TV.err (⟨sb, nb, cb, kb, db⟩ : TV) = 0) (timesErr (⟨sa, na, ca, ka, da⟩ : TV) (⟨sb, nb, cb, kb, db⟩ : TV) T0) (.func (.func g2) #[] f2) w' from ⟨g2, f2, rfl, h2⟩) hx) (fun hz => ⟨hz 0 (by omega), hz 1 (by omega)⟩)
      · exact Chk.imp (Chk.on (show Chk (TV.err (⟨sa, na, ca, ka, da⟩ : TV) = 0 ∧ TV.err (⟨sb, nb, cb, kb, db⟩ : TV) = 0) (timesErr (⟨sa, na, ca, ka, da⟩ : TV) (⟨sb, nb, cb, kb, db⟩ : TV) T1) (.func (.func g3) #[] f3) w' from ⟨g3, f3, rfl, h3⟩) hx) (fun hz => ⟨hz 0 (by omega), hz 1 (by omega)⟩)
      · exact Chk.imp (Chk.on (show Chk True (if decide (T0 ≤ T1) = true then 0 else 9) (.func (.func g4) #[] f4) w' from ⟨g4, f4, rfl, h4⟩) hx) (fun _ => trivial)) <|
      allOps_cons (fun a' w' hb hs hd => rg_fn (φ := (mpEq (.int .i64 (chE (⟨sa, na, ca, ka, da⟩ : TV) (⟨sb, nb, cb, kb, db⟩ : TV) T0 T1))).p) (vs := #[a'.eval (.tmp 29)]) rfl (enters_of Tryz.func51 (by kernel_rfl) rfl) (by simp) ((first_chks (n := 5) (er := (fun i => if i = 0 then TV.err (⟨sa, na, ca, ka, da⟩ : TV) else if i = 1 then TV.err (⟨sb, nb, cb, kb, db⟩ : TV) else if i = 2 then timesErr (⟨sa, na, ca, ka, da⟩ : TV) (⟨sb, nb, cb, kb, db⟩ : TV) T0 else if i = 3 then timesErr (⟨sa, na, ca, ka, da⟩ : TV) (⟨sb, nb, cb, kb, db⟩ : TV) T1 else if decide (T0 ≤ T1) = true then 0 else 9)) (by omega) (by omega) (hd.get 18 29 (by kernel_rfl) (by kernel_rfl))).mono (by rintro e w1 ⟨rfl, h1⟩; exact ⟨_, rfl, h1, congrArg (Value.int .i64) (ch_ferr (⟨sa, na, ca, ka, da⟩ : TV) (⟨sb, nb, cb, kb, db⟩ : TV) T0 T1)⟩))) <|
      allOps_cons (fun a' w' hb hs hd => rg_op fun K hK => by
    have e1 := (show a'.eval (.tmp 30) = .int .i64 (chE (⟨sa, na, ca, ka, da⟩ : TV) (⟨sb, nb, cb, kb, db⟩ : TV) T0 T1) from hd.get 19 30 (by kernel_rfl) (by kernel_rfl))
    clear hs hd
    unfold Oper.wp
    generalize a'.eval = ρ at e1 ⊢
    simp [go_sem, e1]
    exact hK _ _ (Below.refl _ _) rfl) <| allOps_nil) (fun V w' hb hall => ?_)
    have h20 : V 8 = .int .i64 (chE ⟨sa, na, ca, ka, da⟩ ⟨sb, nb, cb, kb, db⟩ T0 T1) := hall.get 20 rfl
    have HR := Lib.hid (RC.to HV.out hb)
    clear hall
    simp only [maskPut, Nat.reduceAdd]
    go_wp2_with fail
    go_meet
    case rel => exact ⟨h20, HR.out⟩
  case rest =>
    obtain ⟨rfl, p1, ⟨a0, a1, b0, b1, t0, t1⟩, ⟨r0, r1⟩, ⟨q0, q1⟩⟩ := hcut
    by_cases hE : chE ⟨sa, na, ca, ka, da⟩ ⟨sb, nb, cb, kb, db⟩ T0 T1 = 0
    · have hE2 := hE
      unfold chE at hE2
      have d0 : distErr ⟨sa, na, ca, ka, da⟩ ⟨sb, nb, cb, kb, db⟩ T0 = 0 := by
        by_cases h : distErr ⟨sa, na, ca, ka, da⟩ ⟨sb, nb, cb, kb, db⟩ T0 = 0
        · exact h
        · rw [if_neg h] at hE2; exact hE2
      rw [if_pos d0] at hE2
      have d1 : timesErr ⟨sa, na, ca, ka, da⟩ ⟨sb, nb, cb, kb, db⟩ T1 = 0 := by
        by_cases h : timesErr ⟨sa, na, ca, ka, da⟩ ⟨sb, nb, cb, kb, db⟩ T1 = 0
        · exact h
        · rw [if_neg h] at hE2; exact hE2
      clear hE2
      obtain ⟨eA, eB, oA, oB⟩ := distErr_0 d0
      obtain ⟨_, _, oA1, oB1⟩ := distErr_0 (show distErr ⟨sa, na, ca, ka, da⟩ ⟨sb, nb, cb, kb, db⟩ T1 = 0 by unfold distErr bothErr; rw [if_pos eA, if_pos eB]; exact d1)
      obtain ⟨ba, oa, ea, hta⟩ := TV.valid HA.out eA
      obtain ⟨bb, ob, eb, htb⟩ := TV.valid HB.out eB
      simp only at ea eb
      subst ea eb
      have VB0 := Lib.hid (fun W (hb : Below w.heap.size w W) => vectorBetween_e W (⟨ba, oa, na, ca, ka, da⟩ : Trk) (⟨bb, ob, nb, cb, kb, db⟩ : Trk) T0 T0 ⟨hta.below hb, eA, oA⟩ ⟨htb.below hb, eB, oB⟩)
      have VB1 := Lib.hid (fun W (hb : Below w.heap.size w W) => vectorBetween_e W (⟨ba, oa, na, ca, ka, da⟩ : Trk) (⟨bb, ob, nb, cb, kb, db⟩ : Trk) T1 T1 ⟨hta.below hb, eA, oA1⟩ ⟨htb.below hb, eB, oB1⟩)
      have DS0 := Lib.hid (fun W => distances_n (⟨ba, oa, na, ca, ka, da⟩ : Trk) (⟨bb, ob, nb, cb, kb, db⟩ : Trk) T0 W ⟨eA, oA⟩ ⟨eB, oB⟩)
      have DS1 := Lib.hid (fun W => distances_n (⟨ba, oa, na, ca, ka, da⟩ : Trk) (⟨bb, ob, nb, cb, kb, db⟩ : Trk) T1 W ⟨eA, oA1⟩ ⟨eB, oB1⟩)
      have HP : Hid (chE ⟨some ⟨ba, oa, none⟩, na, ca, ka, da⟩ ⟨some ⟨bb, ob, none⟩, nb, cb, kb, db⟩ T0 T1 = 0 ∧ chLo ⟨some ⟨ba, oa, none⟩, na, ca, ka, da⟩ ⟨some ⟨bb, ob, none⟩, nb, cb, kb, db⟩ T0 T1 = dLo (⟨ba, oa, na, ca, ka, da⟩ : Trk) (⟨bb, ob, nb, cb, kb, db⟩ : Trk) T1 - dHi (⟨ba, oa, na, ca, ka, da⟩ : Trk) (⟨bb, ob, nb, cb, kb, db⟩ : Trk) T0 ∧ chHi ⟨some ⟨ba, oa, none⟩, na, ca, ka, da⟩ ⟨some ⟨bb, ob, none⟩, nb, cb, kb, db⟩ T0 T1 = dHi (⟨ba, oa, na, ca, ka, da⟩ : Trk) (⟨bb, ob, nb, cb, kb, db⟩ : Trk) T1 - dLo (⟨ba, oa, na, ca, ka, da⟩ : Trk) (⟨bb, ob, nb, cb, kb, db⟩ : Trk) T0) :=
        ⟨hE, by unfold chLo; rw [if_pos hE]; rfl, by unfold chHi; rw [if_pos hE]; rfl⟩
      have n0 := (dLo_RL (⟨ba, oa, na, ca, ka, da⟩ : Trk) (⟨bb, ob, nb, cb, kb, db⟩ : Trk) T0).1
      have n1 := (dLo_RL (⟨ba, oa, na, ca, ka, da⟩ : Trk) (⟨bb, ob, nb, cb, kb, db⟩ : Trk) T0).2.1
      have n2 := (dHi_RL (⟨ba, oa, na, ca, ka, da⟩ : Trk) (⟨bb, ob, nb, cb, kb, db⟩ : Trk) T0).1
      have n3 := (dHi_RL (⟨ba, oa, na, ca, ka, da⟩ : Trk) (⟨bb, ob, nb, cb, kb, db⟩ : Trk) T0).2.1
      have n4 := (dLo_RL (⟨ba, oa, na, ca, ka, da⟩ : Trk) (⟨bb, ob, nb, cb, kb, db⟩ : Trk) T1).1
      have n5 := (dLo_RL (⟨ba, oa, na, ca, ka, da⟩ : Trk) (⟨bb, ob, nb, cb, kb, db⟩ : Trk) T1).2.1
      have n6 := (dHi_RL (⟨ba, oa, na, ca, ka, da⟩ : Trk) (⟨bb, ob, nb, cb, kb, db⟩ : Trk) T1).1
      have n7 := (dHi_RL (⟨ba, oa, na, ca, ka, da⟩ : Trk) (⟨bb, ob, nb, cb, kb, db⟩ : Trk) T1).2.1
      have hq : (chE ⟨some ⟨ba, oa, none⟩, na, ca, ka, da⟩ ⟨some ⟨bb, ob, none⟩, nb, cb, kb, db⟩ T0 T1 != 0) = false := by simp [hE]
      have P1 := Lib.hid p1
      clear hE d0 d1 eA eB oA oB oA1 oB1 hta htb HA HB p1
      generalize chE ⟨some ⟨ba, oa, none⟩, na, ca, ka, da⟩ ⟨some ⟨bb, ob, none⟩, nb, cb, kb, db⟩ T0 T1 = E0 at hq
      generalize dLo (⟨ba, oa, na, ca, ka, da⟩ : Trk) (⟨bb, ob, nb, cb, kb, db⟩ : Trk) T0 = l0 at *
      generalize dHi (⟨ba, oa, na, ca, ka, da⟩ : Trk) (⟨bb, ob, nb, cb, kb, db⟩ : Trk) T0 = h0 at *
      generalize dLo (⟨ba, oa, na, ca, ka, da⟩ : Trk) (⟨bb, ob, nb, cb, kb, db⟩ : Trk) T1 = l1 at *
      generalize dHi (⟨ba, oa, na, ca, ka, da⟩ : Trk) (⟨bb, ob, nb, cb, kb, db⟩ : Trk) T1 = h1 at *
      have s1 : IntKind.i64.wrap (l1 - h0) = l1 - h0 := IntWalk.i64_in _ (by omega)
      have s2 : IntKind.i64.wrap (h1 - l0) = h1 - l0 := IntWalk.i64_in _ (by omega)
      have zr := lt_of r0
      simp only [Trk.p] at VB0 VB1 DS0 DS1
      generalize vx _ _ = x0 at VB0 DS0
      generalize vy _ _ = y0 at VB0 DS0
      generalize vz _ _ = z0 at VB0 DS0
      generalize vn _ _ = m0 at VB0 DS0
      generalize vd _ _ _ _ = k0 at VB0 DS0
      generalize vx _ _ = x1 at VB1 DS1
      generalize vy _ _ = y1 at VB1 DS1
      generalize vz _ _ = z1 at VB1 DS1
      generalize vn _ _ = m1 at VB1 DS1
      generalize vd _ _ _ _ = k1 at VB1 DS1
      go_wp2_with (first
        | (go_at_call 54; (with_reducible refine Calls.mono (VB0.out _ (show Below w.heap.size w _ by have Bq := P1.out; have Bz := Bq.size; (repeat (first | with_reducible exact Below.refl _ _ | with_reducible assumption | with_reducible refine Below.alloc ?_ (by first | (simp; done) | (simp; omega) | omega) _ | with_reducible refine Below.setCell ?_ (by first | (simp; done) | (simp; omega) | omega) _ | with_reducible refine Below.drew ?_ | with_reducible refine below_drewN ?_ _)))) ?_); rintro e w2 ⟨rfl, hb2⟩; have B2 := Lib.hid (thenB (show Below w.heap.size w _ by have Bq := P1.out; have Bz := Bq.size; (repeat (first | with_reducible exact Below.refl _ _ | with_reducible assumption | with_reducible refine Below.alloc ?_ (by first | (simp; done) | (simp; omega) | omega) _ | with_reducible refine Below.setCell ?_ (by first | (simp; done) | (simp; omega) | omega) _ | with_reducible refine Below.drew ?_ | with_reducible refine below_drewN ?_ _))) hb2); go_must (have a0_2 := keep hb2 (b := w.heap.size) (o := 0) (v := .slice (some ⟨ba, oa, none⟩) na ca) (by simp [go_sem, *])); go_must (have a1_2 := keep hb2 (b := w.heap.size) (o := 1) (v := .int .i64 da) (by simp [go_sem, *])); go_must (have b0_2 := keep hb2 (b := w.heap.size + 1) (o := 0) (v := .slice (some ⟨bb, ob, none⟩) nb cb) (by simp [go_sem, *])); go_must (have b1_2 := keep hb2 (b := w.heap.size + 1) (o := 1) (v := .int .i64 db) (by simp [go_sem, *])); go_must (have t0_2 := keep hb2 (b := w.heap.size + 1 + 1) (o := 0) (v := .int .i64 T0) (by simp [go_sem, *])); go_must (have t1_2 := keep hb2 (b := w.heap.size + 1 + 1) (o := 1) (v := .int .i64 T1) (by simp [go_sem, *])); go_must (have r0_2 := keep hb2 (b := w.heap.size + 1 + 1 + 1) (o := 0) (v := .int .i64 0) (by simp [go_sem, *])); go_must (have r1_2 := keep hb2 (b := w.heap.size + 1 + 1 + 1) (o := 1) (v := .int .i64 0) (by simp [go_sem, *])); go_must (have q0_2 := (hb2.frozen (p := ⟨w.heap.size + 1 + 1 + 1, 0, none⟩) (by first | (simp; done) | (simp; omega) | omega)).trans (show _ = false by simp [go_sem, *])); go_must (have q1_2 := (hb2.frozen (p := ⟨w.heap.size + 1 + 1 + 1, 1, none⟩) (by first | (simp; done) | (simp; omega) | omega)).trans (show _ = false by simp [go_sem, *])); have z2 := lt_of r0_2; clear hb2)
        | (go_at_call 55; (with_reducible refine Calls.mono (DS0.out _) ?_); rintro e w3 ⟨rfl, hb3⟩; have B3 := Lib.hid (thenB (show Below w.heap.size w _ by have Bq := B2.out; have Bz := Bq.size; (repeat (first | with_reducible exact Below.refl _ _ | with_reducible assumption | with_reducible refine Below.alloc ?_ (by first | (simp; done) | (simp; omega) | omega) _ | with_reducible refine Below.setCell ?_ (by first | (simp; done) | (simp; omega) | omega) _ | with_reducible refine Below.drew ?_ | with_reducible refine below_drewN ?_ _))) hb3); go_must (have a0_3 := keep hb3 (b := w.heap.size) (o := 0) (v := .slice (some ⟨ba, oa, none⟩) na ca) (by simp [go_sem, *])); go_must (have a1_3 := keep hb3 (b := w.heap.size) (o := 1) (v := .int .i64 da) (by simp [go_sem, *])); go_must (have b0_3 := keep hb3 (b := w.heap.size + 1) (o := 0) (v := .slice (some ⟨bb, ob, none⟩) nb cb) (by simp [go_sem, *])); go_must (have b1_3 := keep hb3 (b := w.heap.size + 1) (o := 1) (v := .int .i64 db) (by simp [go_sem, *])); go_must (have t0_3 := keep hb3 (b := w.heap.size + 1 + 1) (o := 0) (v := .int .i64 T0) (by simp [go_sem, *])); go_must (have t1_3 := keep hb3 (b := w.heap.size + 1 + 1) (o := 1) (v := .int .i64 T1) (by simp [go_sem, *])); go_must (have r0_3 := keep hb3 (b := w.heap.size + 1 + 1 + 1) (o := 0) (v := .int .i64 0) (by simp [go_sem, *])); go_must (have r1_3 := keep hb3 (b := w.heap.size + 1 + 1 + 1) (o := 1) (v := .int .i64 0) (by simp [go_sem, *])); go_must (have q0_3 := (hb3.frozen (p := ⟨w.heap.size + 1 + 1 + 1, 0, none⟩) (by first | (simp; done) | (simp; omega) | omega)).trans (show _ = false by simp [go_sem, *])); go_must (have q1_3 := (hb3.frozen (p := ⟨w.heap.size + 1 + 1 + 1, 1, none⟩) (by first | (simp; done) | (simp; omega) | omega)).trans (show _ = false by simp [go_sem, *])); have z3 := lt_of r0_3; clear hb3)
        | (go_at_call 54; (with_reducible refine Calls.mono (VB1.out _ (show Below w.heap.size w _ by have Bq := B3.out; have Bz := Bq.size; (repeat (first | with_reducible exact Below.refl _ _ | with_reducible assumption | with_reducible refine Below.alloc ?_ (by first | (simp; done) | (simp; omega) | omega) _ | with_reducible refine Below.setCell ?_ (by first | (simp; done) | (simp; omega) | omega) _ | with_reducible refine Below.drew ?_ | with_reducible refine below_drewN ?_ _)))) ?_); rintro e w4 ⟨rfl, hb4⟩; have B4 := Lib.hid (thenB (show Below w.heap.size w _ by have Bq := B3.out; have Bz := Bq.size; (repeat (first | with_reducible exact Below.refl _ _ | with_reducible assumption | with_reducible refine Below.alloc ?_ (by first | (simp; done) | (simp; omega) | omega) _ | with_reducible refine Below.setCell ?_ (by first | (simp; done) | (simp; omega) | omega) _ | with_reducible refine Below.drew ?_ | with_reducible refine below_drewN ?_ _))) hb4); go_must (have a0_4 := keep hb4 (b := w.heap.size) (o := 0) (v := .slice (some ⟨ba, oa, none⟩) na ca) (by simp [go_sem, *])); go_must (have a1_4 := keep hb4 (b := w.heap.size) (o := 1) (v := .int .i64 da) (by simp [go_sem, *])); go_must (have b0_4 := keep hb4 (b := w.heap.size + 1) (o := 0) (v := .slice (some ⟨bb, ob, none⟩) nb cb) (by simp [go_sem, *])); go_must (have b1_4 := keep hb4 (b := w.heap.size + 1) (o := 1) (v := .int .i64 db) (by simp [go_sem, *])); go_must (have t0_4 := keep hb4 (b := w.heap.size + 1 + 1) (o := 0) (v := .int .i64 T0) (by simp [go_sem, *])); go_must (have t1_4 := keep hb4 (b := w.heap.size + 1 + 1) (o := 1) (v := .int .i64 T1) (by simp [go_sem, *])); go_must (have r0_4 := keep hb4 (b := w.heap.size + 1 + 1 + 1) (o := 0) (v := .int .i64 0) (by simp [go_sem, *])); go_must (have r1_4 := keep hb4 (b := w.heap.size + 1 + 1 + 1) (o := 1) (v := .int .i64 0) (by simp [go_sem, *])); go_must (have g0_4 := keep hb4 (b := w3.heap.size) (o := 0) (v := .int .i64 l0) (by simp [go_sem, *])); go_must (have g1_4 := keep hb4 (b := w3.heap.size) (o := 1) (v := .int .i64 h0) (by simp [go_sem, *])); go_must (have q0_4 := (hb4.frozen (p := ⟨w.heap.size + 1 + 1 + 1, 0, none⟩) (by first | (simp; done) | (simp; omega) | omega)).trans (show _ = false by simp [go_sem, *])); go_must (have q1_4 := (hb4.frozen (p := ⟨w.heap.size + 1 + 1 + 1, 1, none⟩) (by first | (simp; done) | (simp; omega) | omega)).trans (show _ = false by simp [go_sem, *])); have z4 := lt_of r0_4; clear hb4)
        | (go_at_call 55; (with_reducible refine Calls.mono (DS1.out _) ?_); rintro e w5 ⟨rfl, hb5⟩; have B5 := Lib.hid (thenB (show Below w.heap.size w _ by have Bq := B4.out; have Bz := Bq.size; (repeat (first | with_reducible exact Below.refl _ _ | with_reducible assumption | with_reducible refine Below.alloc ?_ (by first | (simp; done) | (simp; omega) | omega) _ | with_reducible refine Below.setCell ?_ (by first | (simp; done) | (simp; omega) | omega) _ | with_reducible refine Below.drew ?_ | with_reducible refine below_drewN ?_ _))) hb5); go_must (have r0_5 := keep hb5 (b := w.heap.size + 1 + 1 + 1) (o := 0) (v := .int .i64 0) (by simp [go_sem, *])); go_must (have r1_5 := keep hb5 (b := w.heap.size + 1 + 1 + 1) (o := 1) (v := .int .i64 0) (by simp [go_sem, *])); go_must (have g0_5 := keep hb5 (b := w3.heap.size) (o := 0) (v := .int .i64 l0) (by simp [go_sem, *])); go_must (have g1_5 := keep hb5 (b := w3.heap.size) (o := 1) (v := .int .i64 h0) (by simp [go_sem, *])); go_must (have q0_5 := (hb5.frozen (p := ⟨w.heap.size + 1 + 1 + 1, 0, none⟩) (by first | (simp; done) | (simp; omega) | omega)).trans (show _ = false by simp [go_sem, *])); go_must (have q1_5 := (hb5.frozen (p := ⟨w.heap.size + 1 + 1 + 1, 1, none⟩) (by first | (simp; done) | (simp; omega) | omega)).trans (show _ = false by simp [go_sem, *])); have z5 := lt_of r0_5; clear hb5)
        | fail)
      refine bodyPost_ret (v := .tuple #[.agg #[.int .i64 (l1 - h0), .int .i64 (h1 - l0)], .int .i64 0]) (by simp [results, Tryz.results15, go_sem, *]) rfl ⟨?_, ?_⟩
      · rw [HP.out.1, HP.out.2.1, HP.out.2.2]
      · have Bq := B5.out
        have Bz := Bq.size
        (repeat (first | with_reducible exact Below.refl _ _ | with_reducible assumption | with_reducible refine Below.alloc ?_ (by first | (simp; done) | (simp; omega) | omega) _ | with_reducible refine Below.setCell ?_ (by first | (simp; done) | (simp; omega) | omega) _ | with_reducible refine Below.drew ?_ | with_reducible refine below_drewN ?_ _))
    · have HP : Hid (chLo ⟨sa, na, ca, ka, da⟩ ⟨sb, nb, cb, kb, db⟩ T0 T1 = 0 ∧ chHi ⟨sa, na, ca, ka, da⟩ ⟨sb, nb, cb, kb, db⟩ T0 T1 = 0) := ⟨by unfold chLo; rw [if_neg hE], by unfold chHi; rw [if_neg hE]⟩
      have hq : (chE ⟨sa, na, ca, ka, da⟩ ⟨sb, nb, cb, kb, db⟩ T0 T1 != 0) = true := by simpa using hE
      clear hE HA HB
      have pw := p1.size
      have P1 := Lib.hid p1
      clear p1
      go_wp2
      refine bodyPost_ret (v := .tuple #[.agg #[.int .i64 0, .int .i64 0], .int .i64 (chE ⟨sa, na, ca, ka, da⟩ ⟨sb, nb, cb, kb, db⟩ T0 T1)]) (by simp [results, Tryz.results15, go_sem, *]) rfl ⟨?_, ?_⟩
      · rw [HP.out.1, HP.out.2]
      · have Bq := P1.out
        (repeat (first | with_reducible exact Below.refl _ _ | with_reducible assumption | with_reducible refine Below.alloc ?_ (by first | (simp; done) | (simp; omega) | omega) _ | with_reducible refine Below.setCell ?_ (by first | (simp; done) | (simp; omega) | omega) _ | with_reducible refine Below.drew ?_ | with_reducible refine below_drewN ?_ _))
end Go.Proofs.YtnfoagcpgegldaaGreat
namespace Go.Proofs.YtnfoagcpgegldaaGreat
open Go.ChangeShapes Go.WideShapes Go.ChangeAt Go.RowKit Go.Joins Go.Deep
theorem owned : ownKnob Tryz.prog.godebug = none := by kernel_rfl
theorem laidAll : laidOutB Tryz.prog = true := by kernel_rfl
theorem cells1 : Tryz.prog.cellsOf 3 = 1 := by kernel_rfl
theorem cells3 : Tryz.prog.cellsOf 114 = 3 := by kernel_rfl
theorem cells4 : Tryz.prog.cellsOf 116 = 4 := by kernel_rfl
theorem cells2 : Tryz.prog.cellsOf 24 = 2 := by kernel_rfl
instance : Inhabited Knot := ⟨⟨0, 0, 0, 0⟩⟩
set_option maxRecDepth 100000 in
theorem read_point {H : Type} {enc : TypeId × Value → H} {w : World} {base : Nat} {sp : Nat → Bool} {held : Bool} {n : Nat} {c0 c1 c2 : Value} {x : DataW H × List MemPlace} (h : DataW.trod enc Tryz.prog w base sp held n 114 [c0, c1, c2] = some x) : ∃ a b c : Int, c0 = .int .i64 a ∧ c1 = .int .i64 b ∧ c2 = .int .i64 c := by
  obtain ⟨xs, m, _, _, hl, hlen, hg⟩ := DataW.trod_struct Tryz.underlying114 h
  match xs, hlen with
  | [y0, y1, y2], _ =>
    have h0 := hg 0 _ rfl
    have h1 := hg 1 _ rfl
    have h2 := hg 2 _ rfl
    simp [cells1] at h0 h1 h2
    obtain ⟨a, e0, _, _⟩ := DataW.trod_int Tryz.underlying3 h0
    obtain ⟨b, e1, _, _⟩ := DataW.trod_int Tryz.underlying3 h1
    obtain ⟨c, e2, _, _⟩ := DataW.trod_int Tryz.underlying3 h2
    simp at e0 e1 e2
    exact ⟨a, b, c, e0, e1, e2⟩
set_option maxRecDepth 100000 in
theorem read_knot {H : Type} {enc : TypeId × Value → H} {w : World} {base : Nat} {sp : Nat → Bool} {held : Bool} {n : Nat} {c0 c1 c2 c3 : Value} {x : DataW H × List MemPlace} (h : DataW.trod enc Tryz.prog w base sp held n 116 [c0, c1, c2, c3] = some x) : ∃ q : Knot, c0 = .int .i64 q.t ∧ c1 = .int .i64 q.x ∧ c2 = .int .i64 q.y ∧ c3 = .int .i64 q.z := by
  obtain ⟨xs, m, _, _, hl, hlen, hg⟩ := DataW.trod_struct Tryz.underlying116 h
  match xs, hlen with
  | [y0, y1], _ =>
    have h0 := hg 0 _ rfl
    have h1 := hg 1 _ rfl
    simp [cells1, cells3] at h0 h1
    obtain ⟨a, e0, _, _⟩ := DataW.trod_int Tryz.underlying3 h0
    obtain ⟨b, c, d, e1, e2, e3⟩ := read_point h1
    simp at e0
    exact ⟨⟨a, b, c, d⟩, e0, e1, e2, e3⟩
set_option maxRecDepth 100000 in
theorem open_track {H : Type} {enc : TypeId × Value → H} {w : World} {base : Nat} {sp : Nat → Bool} {held : Bool} {r : Reach} {b0 : Nat} {v : Value} {d : DataW H} {p : List MemPlace} (hv : Value.okWide Tryz.prog w r b0 24 v) (h : DataW.Trod enc Tryz.prog w base sp held 24 v d p) :
    ∃ (A : Option Addr) (n c : Nat) (k : Nat → Knot) (db : Int), v = .agg #[.slice A n c, .int .i64 db] ∧ n ≤ 9223372036854775807 ∧ (A = none → n = 0 ∧ c = 0) ∧ KA w A n k := by
  obtain ⟨c0, c1, y0, y1, m, rfl, _, _, hy0, hy1⟩ := open_agg2 Tryz.underlying24 (by kernel_rfl) cells2 hv h
  obtain ⟨db, e1, _, _⟩ := DataW.trod_int Tryz.underlying3 hy1
  simp at e1
  subst e1
  rcases open_slice Tryz.underlying22 hy0 with ⟨hcs, _⟩ | ⟨a, len, cap, m', n', D, Pl, hcs, _, hl, hm, hmm, _, hx⟩
  · simp at hcs
    subst hcs
    exact ⟨none, 0, 0, fun _ => default, db, rfl, by omega, fun _ => ⟨rfl, rfl⟩, fun h => absurd h (Nat.lt_irrefl 0)⟩
  · simp at hcs
    subst hcs
    rw [cells4] at hx
    have hlm : len ≤ m' := by rw [hmm]; split <;> omega
    have hq : ∀ i, i < len → ∃ q : Knot, w.cell? (a.add (i * 4)) = some (.int .i64 q.t) ∧ w.cell? ((a.add (i * 4)).add 1) = some (.int .i64 q.x) ∧ w.cell? ((a.add (i * 4)).add 2) = some (.int .i64 q.y) ∧ w.cell? ((a.add (i * 4)).add 3) = some (.int .i64 q.z) := by
      intro i hi
      obtain ⟨cs', g1, g2⟩ := hx i (by omega)
      obtain ⟨_, hlen, hc⟩ := World.cells?_some g1
      match cs', hlen with
      | [v0, v1, v2, v3], _ =>
        obtain ⟨q, rfl, rfl, rfl, rfl⟩ := read_knot g2
        have z0 := hc 0 (by omega)
        have z1 := hc 1 (by omega)
        have z2 := hc 2 (by omega)
        have z3 := hc 3 (by omega)
        refine ⟨q, ?_, z1, z2, z3⟩
        simpa [Addr.add] using z0
    obtain ⟨k, hk⟩ := choose_lt hq
    refine ⟨some a, len, cap, k, db, rfl, by unfold maxLen at hm; omega, fun h => (by cases h), fun h0 => ?_⟩
    obtain ⟨b, off, spot⟩ := a
    have hc := (hk 0 h0).1
    have hspot : spot = none := by simpa [Addr.add] using World.cell?_spot hc
    subst hspot
    have hc2 : w.cell? ⟨b, off, none⟩ = some (.int .i64 (k 0).t) := by simpa [Addr.add] using hc
    refine ⟨b, off, rfl, lt_of hc2, fun i hi => ?_⟩
    obtain ⟨z0, z1, z2, z3⟩ := hk i hi
    rw [addr_add] at z0 z1 z2 z3
    rw [addr_add] at z1 z2 z3
    exact ⟨z0, z1, z2, z3⟩
end Go.Proofs.YtnfoagcpgegldaaGreat
