/- Helpers: the reference's answer of a view at a time. No condition but the hypotheses. -/
import Derived.Test.YtnfoagcpgegldaaGreatB36
import Derived.Test.YtnfoagcpgegldaaGreatB22
namespace Go.Proofs.YtnfoagcpgegldaaGreat
open Go.RowKit Go.Shelf Go.Sort
attribute [local go_sem] idx3_0 idx3_1 idx3_2 old1 fro1 old2 fro2 old3 fro3 old4 fro4 old5 fro5 old6 fro6 old7 fro7 old8 fro8 old9 fro9 old10 fro10 old11 fro11 old12 fro12
def mn0 : List Bool := [false, false, false, false, false, false, false, false, false, false, false, true, true, false, false, false, false, false, false, false, false, false, false, false, false, false, false, false, false, false, false, false, false, false, false, false, false, false, false, false, false, false, false, false, false, false, false, false, false, false, false, true, true, true, true, true, true, true, true, true, true, true, true, true, true, true, true, true, true, false, false, false, false, false, false, false, false, false, false, false, false, false, false, false, false, false, false, false, false, false, false, false, false, false, false, false, false, false, false, false, false, false, false, false, false, false, false, false, false, false, false, false, false, false]
def mn1 : List Bool := [false, false, false, false, false, false, false, false, false, false, false, false, false, false, false, true, true, false, false, false, false, false, false, false, false, false, false, false, false, false, false, false, false, false, false, false, false, false, false, false, false, false, false, false, false, false, false, false, false, false, false, false, false, false, false, false, false, false, false, false, false, false, false, false, false, false, false, false, false, false, false, false, false, false, false, false, false, false, false, false, false, false, false, true, true, true, true, true, true, true, true, true, true, false, false, false, false, false, false, false, false, false, false, false, false, false, false, false, false, false, false, false, false, false]
set_option maxRecDepth 100000 in
set_option maxHeartbeats 8000000 in
theorem rvisibleAt_x (ux uy uz : Int) (C SA SB : Option Addr) (n c na ca nb cb : Nat) (k : Nat → Cone) (da db time x y z m NN FF up su : Int) (dj sj : Nat → Int) (BF BN : Nat → Bool) (w : World) (hn : n ≤ 4) (hk : KC w C n k) (hV : ∀ W, Below w.heap.size w W → Calls Tryz.prog 81 #[.agg #[.slice SA na ca, .int .i64 da], .agg #[.slice SB nb cb, .int .i64 db], .int .i64 time, .int .i64 time] W fun e w' => e = .returned (.agg #[.int .i64 x, .int .i64 y, .int .i64 z, .int .i64 m]) ∧ Below W.heap.size W w')
    (hQ : ∀ W, Below w.heap.size w W → Calls Tryz.prog 60 #[.agg #[.slice SA na ca, .int .i64 da], .agg #[.slice SB nb cb, .int .i64 db], .int .i64 time, .int .i64 time] W fun e w' => ∃ A1 c1 A2 c2, e = .returned (.tuple #[WV NN A1 c1, WV FF A2 c2, .int .i64 m]) ∧ DR w' A1 (ln (siz NN)) c1 (siz NN) ∧ DR w' A2 (ln (siz FF)) c2 (siz FF) ∧ Below W.heap.size W w')
    (hUP : ∀ W, Calls Tryz.prog 82 #[.agg #[.int .i64 ux, .int .i64 uy, .int .i64 uz], .agg #[.int .i64 x, .int .i64 y, .int .i64 z]] W fun e w' => e = .returned (.int .i64 up) ∧ Below W.heap.size W w')
    (hSU : ∀ W, Calls Tryz.prog 83 #[.agg #[.int .i64 ux, .int .i64 uy, .int .i64 uz]] W fun e w' => e = .returned (.int .i64 su) ∧ Below W.heap.size W w')
    (hDJ : ∀ j, j < n → ∀ W, Calls Tryz.prog 82 #[.agg #[.int .i64 (k j).x, .int .i64 (k j).y, .int .i64 (k j).z], .agg #[.int .i64 x, .int .i64 y, .int .i64 z]] W fun e w' => e = .returned (.int .i64 (dj j)) ∧ Below W.heap.size W w')
    (hSJ : ∀ j, j < n → ∀ W, Calls Tryz.prog 83 #[.agg #[.int .i64 (k j).x, .int .i64 (k j).y, .int .i64 (k j).z]] W fun e w' => e = .returned (.int .i64 (sj j)) ∧ Below W.heap.size W w')
    (hH1 : ∀ j, j < n → ∀ W A c, DR W A (ln (siz NN)) c (siz NN) → Calls Tryz.prog 84 #[.agg #[.int .i64 (k j).x, .int .i64 (k j).y, .int .i64 (k j).z, .int .i64 (k j).u, .int .i64 (k j).d], .int .i64 (dj j + (da + db) * m * sj j), WV NN A c] W fun e w' => e = .returned (.bool (BN j)) ∧ Below W.heap.size W w')
    (hH2 : ∀ j, j < n → ∀ W A c, DR W A (ln (siz FF)) c (siz FF) → Calls Tryz.prog 84 #[.agg #[.int .i64 (k j).x, .int .i64 (k j).y, .int .i64 (k j).z, .int .i64 (k j).u, .int .i64 (k j).d], .int .i64 (dj j - (da + db) * m * sj j), WV FF A c] W fun e w' => e = .returned (.bool (BF j)) ∧ Below W.heap.size W w')
    (m1 : IntKind.i64.wrap (da + db) = da + db) (m2 : IntKind.i64.wrap ((da + db) * m) = (da + db) * m) (m3 : IntKind.i64.wrap ((da + db) * m * su) = (da + db) * m * su) (m4 : IntKind.i64.wrap (up - (da + db) * m * su) = up - (da + db) * m * su) (m5 : IntKind.i64.wrap (up + (da + db) * m * su) = up + (da + db) * m * su)
    (m6 : ∀ j, j < n → IntKind.i64.wrap ((da + db) * m * sj j) = (da + db) * m * sj j) (m7 : ∀ j, j < n → IntKind.i64.wrap (dj j + (da + db) * m * sj j) = dj j + (da + db) * m * sj j) (m8 : ∀ j, j < n → IntKind.i64.wrap (dj j - (da + db) * m * sj j) = dj j - (da + db) * m * sj j) :
    Calls Tryz.prog 40 #[.agg #[.int .i64 ux, .int .i64 uy, .int .i64 uz, .slice C n c, .slice SA na ca, .int .i64 da, .slice SB nb cb, .int .i64 db], .int .i64 time] w fun e w' => e = .returned (.int .i64 (ansOf (orB BF (decide (up + (da + db) * m * su < 0)) n) (andB BN (decide ((da + db) * m * su ≤ up)) n))) ∧ Below w.heap.size w w' := by
  have HK := Lib.hid hk
  have HV := Lib.hid hV
  have HQ := Lib.hid hQ
  have HUP := Lib.hid hUP
  have HSU := Lib.hid hSU
  have HDJ0 := Lib.hid hDJ
  have HSJ0 := Lib.hid hSJ
  unfold WV at hH1 hH2
  have HH10 := Lib.hid hH1
  have HH20 := Lib.hid hH2
  have M60 := Lib.hid m6
  have M70 := Lib.hid m7
  have M80 := Lib.hid m8
  clear hk hV hQ hUP hSU hDJ hSJ hH1 hH2 m6 m7 m8
  go_enter Tryz.func40, Tryz.ntmps40
  go_upto_region 3 with (first
    | (go_at_call 81; (with_reducible refine Calls.mono (HV.out _ (by (repeat (first | with_reducible exact Below.refl _ _ | with_reducible assumption | with_reducible refine Below.alloc ?_ (by first | (simp; done) | (simp; omega) | omega) _ | with_reducible refine Below.setCell ?_ (by first | (simp; done) | (simp; omega) | omega) _ | with_reducible refine Below.drew ?_ | with_reducible refine below_drewN ?_ _)))) ?_); rintro e w1 ⟨rfl, hb1⟩; have BV := Lib.hid (belowT (show Below w.heap.size w _ by (repeat (first | with_reducible exact Below.refl _ _ | with_reducible assumption | with_reducible refine Below.alloc ?_ (by first | (simp; done) | (simp; omega) | omega) _ | with_reducible refine Below.setCell ?_ (by first | (simp; done) | (simp; omega) | omega) _ | with_reducible refine Below.drew ?_ | with_reducible refine below_drewN ?_ _))) hb1); have l0 := keep hb1 (b := w.heap.size) (o := 0) (v := .int .i64 ux) (by simp [go_sem]); have l1 := keep hb1 (b := w.heap.size) (o := 1) (v := .int .i64 uy) (by simp [go_sem]); have l2 := keep hb1 (b := w.heap.size) (o := 2) (v := .int .i64 uz) (by simp [go_sem]); have l3 := keep hb1 (b := w.heap.size) (o := 3) (v := .slice C n c) (by simp [go_sem]); have l4 := keep hb1 (b := w.heap.size) (o := 4) (v := .slice SA na ca) (by simp [go_sem]); have l5 := keep hb1 (b := w.heap.size) (o := 5) (v := .int .i64 da) (by simp [go_sem]); have l6 := keep hb1 (b := w.heap.size) (o := 6) (v := .slice SB nb cb) (by simp [go_sem]); have l7 := keep hb1 (b := w.heap.size) (o := 7) (v := .int .i64 db) (by simp [go_sem]); clear hb1)
    | (go_at_call 60; (with_reducible refine Calls.mono (HQ.out _ (by have Bq := BV.out; have Bz := Bq.size; (repeat (first | with_reducible exact Below.refl _ _ | with_reducible assumption | with_reducible refine Below.alloc ?_ (by first | (simp; done) | (simp; omega) | omega) _ | with_reducible refine Below.setCell ?_ (by first | (simp; done) | (simp; omega) | omega) _ | with_reducible refine Below.drew ?_ | with_reducible refine below_drewN ?_ _)))) ?_); rintro e w2 ⟨A1, c1, A2, c2, rfl, hd1, hd2, hb2⟩; unfold WV; have HDN := Lib.hid hd1; have HDF := Lib.hid hd2; clear hd1 hd2; have v0 := keep hb2 (b := w1.heap.size) (o := 0) (v := .int .i64 x) (by simp [go_sem]); have v1 := keep hb2 (b := w1.heap.size) (o := 1) (v := .int .i64 y) (by simp [go_sem]); have v2 := keep hb2 (b := w1.heap.size) (o := 2) (v := .int .i64 z) (by simp [go_sem]); have v3 := keep hb2 (b := w1.heap.size) (o := 3) (v := .int .i64 m) (by simp [go_sem]); replace l0 := keep hb2 (keep ((Below.refl w1.heap.size w1).alloc (Nat.le_refl _) _) l0); replace l1 := keep hb2 (keep ((Below.refl w1.heap.size w1).alloc (Nat.le_refl _) _) l1); replace l2 := keep hb2 (keep ((Below.refl w1.heap.size w1).alloc (Nat.le_refl _) _) l2); replace l3 := keep hb2 (keep ((Below.refl w1.heap.size w1).alloc (Nat.le_refl _) _) l3); replace l4 := keep hb2 (keep ((Below.refl w1.heap.size w1).alloc (Nat.le_refl _) _) l4); replace l5 := keep hb2 (keep ((Below.refl w1.heap.size w1).alloc (Nat.le_refl _) _) l5); replace l6 := keep hb2 (keep ((Below.refl w1.heap.size w1).alloc (Nat.le_refl _) _) l6); replace l7 := keep hb2 (keep ((Below.refl w1.heap.size w1).alloc (Nat.le_refl _) _) l7); replace BV := Lib.hid (belowT (show Below w.heap.size w _ by have Bq := BV.out; have Bz := Bq.size; (repeat (first | with_reducible exact Below.refl _ _ | with_reducible assumption | with_reducible refine Below.alloc ?_ (by first | (simp; done) | (simp; omega) | omega) _ | with_reducible refine Below.setCell ?_ (by first | (simp; done) | (simp; omega) | omega) _ | with_reducible refine Below.drew ?_ | with_reducible refine below_drewN ?_ _))) hb2); clear hb2)
    | fail)
  have hb : Below w2.heap.size w2 ((w2.alloc (.cells #[.int .i64 (sgn NN), .slice A1 (ln (siz NN)) c1] 107)).alloc (.cells #[.int .i64 (sgn FF), .slice A2 (ln (siz FF)) c2] 107)) := by (repeat (first | with_reducible exact Below.refl _ _ | with_reducible assumption | with_reducible refine Below.alloc ?_ (by first | (simp; done) | (simp; omega) | omega) _ | with_reducible refine Below.setCell ?_ (by first | (simp; done) | (simp; omega) | omega) _ | with_reducible refine Below.drew ?_ | with_reducible refine below_drewN ?_ _))
  have wn0 := (show ((w2.alloc (.cells #[.int .i64 (sgn NN), .slice A1 (ln (siz NN)) c1] 107)).alloc (.cells #[.int .i64 (sgn FF), .slice A2 (ln (siz FF)) c2] 107)).cell? ⟨w2.heap.size, 0, none⟩ = some (.int .i64 (sgn NN)) by simp [go_sem])
  have wn1 := (show ((w2.alloc (.cells #[.int .i64 (sgn NN), .slice A1 (ln (siz NN)) c1] 107)).alloc (.cells #[.int .i64 (sgn FF), .slice A2 (ln (siz FF)) c2] 107)).cell? ⟨w2.heap.size, 1, none⟩ = some (.slice A1 (ln (siz NN)) c1) by simp [go_sem])
  have wf0 := (show ((w2.alloc (.cells #[.int .i64 (sgn NN), .slice A1 (ln (siz NN)) c1] 107)).alloc (.cells #[.int .i64 (sgn FF), .slice A2 (ln (siz FF)) c2] 107)).cell? ⟨w2.heap.size + 1, 0, none⟩ = some (.int .i64 (sgn FF)) by simp [go_sem])
  have wf1 := (show ((w2.alloc (.cells #[.int .i64 (sgn NN), .slice A1 (ln (siz NN)) c1] 107)).alloc (.cells #[.int .i64 (sgn FF), .slice A2 (ln (siz FF)) c2] 107)).cell? ⟨w2.heap.size + 1, 1, none⟩ = some (.slice A2 (ln (siz FF)) c2) by simp [go_sem])
  replace l0 := keep hb l0
  replace l1 := keep hb l1
  replace l2 := keep hb l2
  replace l3 := keep hb l3
  replace l4 := keep hb l4
  replace l5 := keep hb l5
  replace l6 := keep hb l6
  replace l7 := keep hb l7
  replace v0 := keep hb v0
  replace v1 := keep hb v1
  replace v2 := keep hb v2
  replace v3 := keep hb v3
  replace HDN := Lib.hid (HDN.out.below hb)
  replace HDF := Lib.hid (HDF.out.below hb)
  replace BV := Lib.hid (belowT BV.out hb)
  clear hb
  generalize ((w2.alloc (.cells #[.int .i64 (sgn NN), .slice A1 (ln (siz NN)) c1] 107)).alloc (.cells #[.int .i64 (sgn FF), .slice A2 (ln (siz FF)) c2] 107)) = V at *
  generalize w2.heap.size = q6 at *
  generalize w1.heap.size = q5 at *
  go_upto_region 5 with (first
    | (go_at_call 82; (with_reducible refine Calls.mono (HUP.out _) ?_); rintro e w3 ⟨rfl, hb⟩; replace l0 := keep hb l0; replace l1 := keep hb l1; replace l2 := keep hb l2; replace l3 := keep hb l3; replace l4 := keep hb l4; replace l5 := keep hb l5; replace l6 := keep hb l6; replace l7 := keep hb l7; replace v0 := keep hb v0; replace v1 := keep hb v1; replace v2 := keep hb v2; replace v3 := keep hb v3; replace wn0 := keep hb wn0; replace wn1 := keep hb wn1; replace wf0 := keep hb wf0; replace wf1 := keep hb wf1; replace HDN := Lib.hid (HDN.out.below hb); replace HDF := Lib.hid (HDF.out.below hb); replace BV := Lib.hid (belowT BV.out hb); clear hb)
    | fail)
  refine wp_region_mp [mpEq (.int .i64 up), mpEq (.int .i64 ((da + db) * m)), mpEq (.pointer (some ⟨w.heap.size, 0, none⟩)), mpEq (.pointer (some ⟨w.heap.size, 0, none⟩)), mpEq (.agg #[.int .i64 ux, .int .i64 uy, .int .i64 uz]), mpEq (.int .i64 su), mpEq (.int .i64 ((da + db) * m * su)), mpEq (.int .i64 (up - (da + db) * m * su)), mpEq (.bool (decide ((da + db) * m * su ≤ up))), mpEq (.int .i64 up), mpEq (.int .i64 ((da + db) * m)), mpEq (.pointer (some ⟨w.heap.size, 0, none⟩)), mpEq (.pointer (some ⟨w.heap.size, 0, none⟩)), mpEq (.agg #[.int .i64 ux, .int .i64 uy, .int .i64 uz]), mpEq (.int .i64 su), mpEq (.int .i64 ((da + db) * m * su)), mpEq (.int .i64 (up + (da + db) * m * su)), mpEq (.bool (decide (up + (da + db) * m * su < 0))), mpEq (.bool (decide ((da + db) * m * su ≤ up))), mpEq (.bool (decide (up + (da + db) * m * su < 0)))] mn0 (by kernel_rfl) (by kernel_rfl) (by kernel_rfl) (
      allOps_cons (fun a' w' hb hs hd => rg_op fun K hK => by
    have e1 := (hs.get 10 (by kernel_rfl)).trans (show _ = .int .i64 up from rfl)
    clear hs hd
    unfold Oper.wp
    generalize a'.eval = ρ at e1 ⊢
    simp [go_sem, e1]
    exact hK _ _ (Below.refl _ _) rfl) <|
      allOps_cons (fun a' w' hb hs hd => rg_op fun K hK => by
    have e1 := (hs.get 9 (by kernel_rfl)).trans (show _ = .int .i64 ((da + db) * m) from rfl)
    clear hs hd
    unfold Oper.wp
    generalize a'.eval = ρ at e1 ⊢
    simp [go_sem, e1]
    exact hK _ _ (Below.refl _ _) rfl) <|
      allOps_cons (fun a' w' hb hs hd => rg_op fun K hK => by
    have e1 := (hs.get 2 (by kernel_rfl)).trans (show _ = Value.pointer (some ⟨w.heap.size, 0, none⟩) from rfl)
    clear hs hd
    unfold Oper.wp
    generalize a'.eval = ρ at e1 ⊢
    simp [go_sem, e1]
    exact hK _ _ (Below.refl _ _) rfl) <|
      allOps_cons (fun a' w' hb hs hd => rg_op fun K hK => by
    have e1 := (show a'.eval (.tmp 53) = .pointer (some ⟨w.heap.size, 0, none⟩) from hd.get 2 53 (by kernel_rfl) (by kernel_rfl))
    clear hs hd
    unfold Oper.wp
    generalize a'.eval = ρ at e1 ⊢
    simp [go_sem, e1]
    exact hK _ _ (Below.refl _ _) rfl) <|
      allOps_cons (fun a' w' hb hs hd => rg_op fun K hK => by
    have e1 := (show a'.eval (.tmp 54) = .pointer (some ⟨w.heap.size, 0, none⟩) from hd.get 3 54 (by kernel_rfl) (by kernel_rfl))
    have c0 := keep hb l0
    have c1 := keep hb l1
    have c2 := keep hb l2
    clear hs hd
    unfold Oper.wp
    generalize a'.eval = ρ at e1 ⊢
    simp [go_sem, e1, c0, c1, c2]
    exact hK _ _ (Below.refl _ _) rfl) <|
      allOps_cons (fun a' w' hb hs hd => by
    exact rg_fn (φ := (mpEq (.int .i64 su)).p) (vs := #[.agg #[.int .i64 ux, .int .i64 uy, .int .i64 uz]]) rfl (enters_of Tryz.func83 (by kernel_rfl) rfl) (by simp [(show a'.eval (.tmp 55) = .agg #[.int .i64 ux, .int .i64 uy, .int .i64 uz] from hd.get 4 55 (by kernel_rfl) (by kernel_rfl))]) ((HSU.out w').mono (by rintro e w1 ⟨rfl, h1⟩; exact ⟨_, rfl, h1, rfl⟩))) <|
      allOps_cons (fun a' w' hb hs hd => rg_op fun K hK => by
    have e1 := (show a'.eval (.tmp 52) = .int .i64 ((da + db) * m) from hd.get 1 52 (by kernel_rfl) (by kernel_rfl))
    have e2 := (show a'.eval (.tmp 56) = .int .i64 su from hd.get 5 56 (by kernel_rfl) (by kernel_rfl))
    clear hs hd
    unfold Oper.wp
    generalize a'.eval = ρ at e1 e2 ⊢
    simp [go_sem, e1, e2, m3]
    exact hK _ _ (Below.refl _ _) rfl) <|
      allOps_cons (fun a' w' hb hs hd => rg_op fun K hK => by
    have e1 := (show a'.eval (.tmp 51) = .int .i64 up from hd.get 0 51 (by kernel_rfl) (by kernel_rfl))
    have e2 := (show a'.eval (.tmp 57) = .int .i64 ((da + db) * m * su) from hd.get 6 57 (by kernel_rfl) (by kernel_rfl))
    clear hs hd
    unfold Oper.wp
    generalize a'.eval = ρ at e1 e2 ⊢
    simp [go_sem, e1, e2, m4]
    exact hK _ _ (Below.refl _ _) rfl) <|
      allOps_cons (fun a' w' hb hs hd => rg_op fun K hK => by
    have e1 := (show a'.eval (.tmp 58) = .int .i64 (up - (da + db) * m * su) from hd.get 7 58 (by kernel_rfl) (by kernel_rfl))
    have ec : ∀ v, a'.eval (.const v) = v := fun _ => rfl
    clear hs hd
    unfold Oper.wp
    generalize a'.eval = ρ at e1 ec ⊢
    simp [go_sem, e1, ec]
    exact hK _ _ (Below.refl _ _) rfl) <|
      allOps_cons (fun a' w' hb hs hd => rg_op fun K hK => by
    have e1 := (hs.get 10 (by kernel_rfl)).trans (show _ = .int .i64 up from rfl)
    clear hs hd
    unfold Oper.wp
    generalize a'.eval = ρ at e1 ⊢
    simp [go_sem, e1]
    exact hK _ _ (Below.refl _ _) rfl) <|
      allOps_cons (fun a' w' hb hs hd => rg_op fun K hK => by
    have e1 := (hs.get 9 (by kernel_rfl)).trans (show _ = .int .i64 ((da + db) * m) from rfl)
    clear hs hd
    unfold Oper.wp
    generalize a'.eval = ρ at e1 ⊢
    simp [go_sem, e1]
    exact hK _ _ (Below.refl _ _) rfl) <|
      allOps_cons (fun a' w' hb hs hd => rg_op fun K hK => by
    have e1 := (hs.get 2 (by kernel_rfl)).trans (show _ = Value.pointer (some ⟨w.heap.size, 0, none⟩) from rfl)
    clear hs hd
    unfold Oper.wp
    generalize a'.eval = ρ at e1 ⊢
    simp [go_sem, e1]
    exact hK _ _ (Below.refl _ _) rfl) <|
      allOps_cons (fun a' w' hb hs hd => rg_op fun K hK => by
    have e1 := (show a'.eval (.tmp 62) = .pointer (some ⟨w.heap.size, 0, none⟩) from hd.get 11 62 (by kernel_rfl) (by kernel_rfl))
    clear hs hd
    unfold Oper.wp
    generalize a'.eval = ρ at e1 ⊢
    simp [go_sem, e1]
    exact hK _ _ (Below.refl _ _) rfl) <|
      allOps_cons (fun a' w' hb hs hd => rg_op fun K hK => by
    have e1 := (show a'.eval (.tmp 63) = .pointer (some ⟨w.heap.size, 0, none⟩) from hd.get 12 63 (by kernel_rfl) (by kernel_rfl))
    have c0 := keep hb l0
    have c1 := keep hb l1
    have c2 := keep hb l2
    clear hs hd
    unfold Oper.wp
    generalize a'.eval = ρ at e1 ⊢
    simp [go_sem, e1, c0, c1, c2]
    exact hK _ _ (Below.refl _ _) rfl) <|
      allOps_cons (fun a' w' hb hs hd => by
    exact rg_fn (φ := (mpEq (.int .i64 su)).p) (vs := #[.agg #[.int .i64 ux, .int .i64 uy, .int .i64 uz]]) rfl (enters_of Tryz.func83 (by kernel_rfl) rfl) (by simp [(show a'.eval (.tmp 64) = .agg #[.int .i64 ux, .int .i64 uy, .int .i64 uz] from hd.get 13 64 (by kernel_rfl) (by kernel_rfl))]) ((HSU.out w').mono (by rintro e w1 ⟨rfl, h1⟩; exact ⟨_, rfl, h1, rfl⟩))) <|
      allOps_cons (fun a' w' hb hs hd => rg_op fun K hK => by
    have e1 := (show a'.eval (.tmp 61) = .int .i64 ((da + db) * m) from hd.get 10 61 (by kernel_rfl) (by kernel_rfl))
    have e2 := (show a'.eval (.tmp 65) = .int .i64 su from hd.get 14 65 (by kernel_rfl) (by kernel_rfl))
    clear hs hd
    unfold Oper.wp
    generalize a'.eval = ρ at e1 e2 ⊢
    simp [go_sem, e1, e2, m3]
    exact hK _ _ (Below.refl _ _) rfl) <|
      allOps_cons (fun a' w' hb hs hd => rg_op fun K hK => by
    have e1 := (show a'.eval (.tmp 60) = .int .i64 up from hd.get 9 60 (by kernel_rfl) (by kernel_rfl))
    have e2 := (show a'.eval (.tmp 66) = .int .i64 ((da + db) * m * su) from hd.get 15 66 (by kernel_rfl) (by kernel_rfl))
    clear hs hd
    unfold Oper.wp
    generalize a'.eval = ρ at e1 e2 ⊢
    simp [go_sem, e1, e2, m5]
    exact hK _ _ (Below.refl _ _) rfl) <|
      allOps_cons (fun a' w' hb hs hd => rg_op fun K hK => by
    have e1 := (show a'.eval (.tmp 67) = .int .i64 (up + (da + db) * m * su) from hd.get 16 67 (by kernel_rfl) (by kernel_rfl))
    have ec : ∀ v, a'.eval (.const v) = v := fun _ => rfl
    clear hs hd
    unfold Oper.wp
    generalize a'.eval = ρ at e1 ec ⊢
    simp [go_sem, e1, ec]
    exact hK _ _ (Below.refl _ _) rfl) <|
      allOps_cons (fun a' w' hb hs hd => rg_op fun K hK => by
    have e1 := (show a'.eval (.tmp 59) = .bool (decide ((da + db) * m * su ≤ up)) from hd.get 8 59 (by kernel_rfl) (by kernel_rfl))
    clear hs hd
    unfold Oper.wp
    generalize a'.eval = ρ at e1 ⊢
    simp [go_sem, e1]
    exact hK _ _ (Below.refl _ _) rfl) <|
      allOps_cons (fun a' w' hb hs hd => rg_op fun K hK => by
    have e1 := (show a'.eval (.tmp 68) = .bool (decide (up + (da + db) * m * su < 0)) from hd.get 17 68 (by kernel_rfl) (by kernel_rfl))
    clear hs hd
    unfold Oper.wp
    generalize a'.eval = ρ at e1 ⊢
    simp [go_sem, e1]
    exact hK _ _ (Below.refl _ _) rfl) <| allOps_nil) (fun Q V1 hb hall => ?_)
  have h8 : Q 11 = .bool (decide ((da + db) * m * su ≤ up)) := hall.get 18 rfl
  have h9 : Q 12 = .bool (decide (up + (da + db) * m * su < 0)) := hall.get 19 rfl
  clear hall
  simp only [mn0, maskPut, Nat.reduceAdd]
  rw [h8, h9]
  clear h8 h9
  replace l3 := keep hb l3
  replace v0 := keep hb v0
  replace v1 := keep hb v1
  replace v2 := keep hb v2
  replace v3 := keep hb v3
  replace wn0 := keep hb wn0
  replace wn1 := keep hb wn1
  replace wf0 := keep hb wf0
  replace wf1 := keep hb wf1
  replace HDN := Lib.hid (HDN.out.below hb)
  replace HDF := Lib.hid (HDF.out.below hb)
  replace BV := Lib.hid (belowT BV.out hb)
  clear hb
  clear l0 l1 l2 l4 l5 l6 l7 m1 m2 m3 m4 m5
  go_wp2_with fail
  go_loopw [11, 12, 13] (fun s11 s12 i wr => ∃ j : Nat, j ≤ n ∧ i = .int .i64 j ∧ s12 = .bool (orB BF (decide (up + (da + db) * m * su < 0)) j) ∧ s11 = .bool (andB BN (decide ((da + db) * m * su ≤ up)) j) ∧ Below w.heap.size w wr ∧ Hid (DR wr A1 (ln (siz NN)) c1 (siz NN)) ∧ Hid (DR wr A2 (ln (siz FF)) c2 (siz FF)) ∧ wr.cell? ⟨w.heap.size, 3, none⟩ = some (.slice C n c) ∧ wr.cell? ⟨q5, 0, none⟩ = some (.int .i64 x) ∧ wr.cell? ⟨q5, 1, none⟩ = some (.int .i64 y) ∧ wr.cell? ⟨q5, 2, none⟩ = some (.int .i64 z) ∧ wr.cell? ⟨q6, 0, none⟩ = some (.int .i64 (sgn NN)) ∧ wr.cell? ⟨q6, 1, none⟩ = some (.slice A1 (ln (siz NN)) c1) ∧ wr.cell? ⟨q6 + 1, 0, none⟩ = some (.int .i64 (sgn FF)) ∧ wr.cell? ⟨q6 + 1, 1, none⟩ = some (.slice A2 (ln (siz FF)) c2)) (fun _ _ i _ => n - (intOf i).toNat)
  case atStart => exact ⟨0, Nat.zero_le _, rfl, rfl, rfl, BV.out, HDN, HDF, l3, v0, v1, v2, wn0, wn1, wf0, wf1⟩
  case round =>
    obtain ⟨j, hj, rfl, rfl, rfl, hbel, hdn, hdf, r3, r0, r1, r2, s0, s1, s2, s3⟩ := hrel
    clear BV HDN HDF l3 v0 v1 v2 v3 wn0 wn1 wf0 wf1
    have BV := Lib.hid hbel
    have HDN := hdn
    have HDF := hdf
    have l3 := r3
    have v0 := r0
    have v1 := r1
    have v2 := r2
    have wn0 := s0
    have wn1 := s1
    have wf0 := s2
    have wf1 := s3
    clear hbel hdn hdf r3 r0 r1 r2 s0 s1 s2 s3
    by_cases hlt : j < n
    · have HDJ := Lib.hid (HDJ0.out j hlt)
      have HSJ := Lib.hid (HSJ0.out j hlt)
      have HH1 := Lib.hid (HH10.out j hlt)
      have HH2 := Lib.hid (HH20.out j hlt)
      have m6 := M60.out j hlt
      have m7 := M70.out j hlt
      have m8 := M80.out j hlt
      obtain ⟨b, off, rfl, hkt⟩ := (HK.out.bel BV.out) (by omega)
      obtain ⟨k0, k1, k2, k3, k4⟩ := hkt.2 j hlt
      have hbl := hkt.1
      clear hkt
      go_wp2_with fail
      clear k0 k1 k2 k3 k4 hbl
      have hb : Below wr.heap.size wr (wr.alloc (.cells #[.int .i64 (k j).x, .int .i64 (k j).y, .int .i64 (k j).z, .int .i64 (k j).u, .int .i64 (k j).d] 122)) := by (repeat (first | with_reducible exact Below.refl _ _ | with_reducible assumption | with_reducible refine Below.alloc ?_ (by first | (simp; done) | (simp; omega) | omega) _ | with_reducible refine Below.setCell ?_ (by first | (simp; done) | (simp; omega) | omega) _ | with_reducible refine Below.drew ?_ | with_reducible refine below_drewN ?_ _))
      have k0 := (show (wr.alloc (.cells #[.int .i64 (k j).x, .int .i64 (k j).y, .int .i64 (k j).z, .int .i64 (k j).u, .int .i64 (k j).d] 122)).cell? ⟨wr.heap.size, 0, none⟩ = some (.int .i64 (k j).x) by simp [go_sem])
      have k1 := (show (wr.alloc (.cells #[.int .i64 (k j).x, .int .i64 (k j).y, .int .i64 (k j).z, .int .i64 (k j).u, .int .i64 (k j).d] 122)).cell? ⟨wr.heap.size, 1, none⟩ = some (.int .i64 (k j).y) by simp [go_sem])
      have k2 := (show (wr.alloc (.cells #[.int .i64 (k j).x, .int .i64 (k j).y, .int .i64 (k j).z, .int .i64 (k j).u, .int .i64 (k j).d] 122)).cell? ⟨wr.heap.size, 2, none⟩ = some (.int .i64 (k j).z) by simp [go_sem])
      have k3 := (show (wr.alloc (.cells #[.int .i64 (k j).x, .int .i64 (k j).y, .int .i64 (k j).z, .int .i64 (k j).u, .int .i64 (k j).d] 122)).cell? ⟨wr.heap.size, 3, none⟩ = some (.int .i64 (k j).u) by simp [go_sem])
      have k4 := (show (wr.alloc (.cells #[.int .i64 (k j).x, .int .i64 (k j).y, .int .i64 (k j).z, .int .i64 (k j).u, .int .i64 (k j).d] 122)).cell? ⟨wr.heap.size, 4, none⟩ = some (.int .i64 (k j).d) by simp [go_sem])
      replace l3 := keep hb l3
      replace v0 := keep hb v0
      replace v1 := keep hb v1
      replace v2 := keep hb v2
      replace wn0 := keep hb wn0
      replace wn1 := keep hb wn1
      replace wf0 := keep hb wf0
      replace wf1 := keep hb wf1
      replace HDN := Lib.hid (HDN.out.below hb)
      replace HDF := Lib.hid (HDF.out.below hb)
      replace BV := Lib.hid (belowT BV.out hb)
      clear hb
      generalize (wr.alloc (.cells #[.int .i64 (k j).x, .int .i64 (k j).y, .int .i64 (k j).z, .int .i64 (k j).u, .int .i64 (k j).d] 122)) = V at *
      generalize wr.heap.size = q14 at *
      refine wp_region_mp [mpEq (.pointer (some ⟨q14, 0, none⟩)), mpEq (.agg #[.int .i64 (k j).x, .int .i64 (k j).y, .int .i64 (k j).z]), mpEq (.pointer (some ⟨q5, 0, none⟩)), mpEq (.agg #[.int .i64 x, .int .i64 y, .int .i64 z]), mpEq (.int .i64 (dj j)), mpEq (.int .i64 ((da + db) * m)), mpEq (.pointer (some ⟨q14, 0, none⟩)), mpEq (.agg #[.int .i64 (k j).x, .int .i64 (k j).y, .int .i64 (k j).z]), mpEq (.int .i64 (sj j)), mpEq (.int .i64 ((da + db) * m * sj j)), mpEq (.int .i64 (dj j)), mpEq (.int .i64 ((da + db) * m * sj j))] mn1 (by kernel_rfl) (by kernel_rfl) (by kernel_rfl) (
          allOps_cons (fun a' w' hb hs hd => rg_op fun K hK => by
        have e1 := (hs.get 14 (by kernel_rfl)).trans (show _ = Value.pointer (some ⟨q14, 0, none⟩) from rfl)
        clear hs hd
        unfold Oper.wp
        generalize a'.eval = ρ at e1 ⊢
        simp [go_sem, e1]
        exact hK _ _ (Below.refl _ _) rfl) <|
          allOps_cons (fun a' w' hb hs hd => rg_op fun K hK => by
        have e1 := (show a'.eval (.tmp 83) = .pointer (some ⟨q14, 0, none⟩) from hd.get 0 83 (by kernel_rfl) (by kernel_rfl))
        have c0 := keep hb k0
        have c1 := keep hb k1
        have c2 := keep hb k2
        clear hs hd
        unfold Oper.wp
        generalize a'.eval = ρ at e1 ⊢
        simp [go_sem, e1, c0, c1, c2]
        exact hK _ _ (Below.refl _ _) rfl) <|
          allOps_cons (fun a' w' hb hs hd => rg_op fun K hK => by
        have e1 := (hs.get 5 (by kernel_rfl)).trans (show _ = Value.pointer (some ⟨q5, 0, none⟩) from rfl)
        clear hs hd
        unfold Oper.wp
        generalize a'.eval = ρ at e1 ⊢
        simp [go_sem, e1]
        exact hK _ _ (Below.refl _ _) rfl) <|
          allOps_cons (fun a' w' hb hs hd => rg_op fun K hK => by
        have e1 := (show a'.eval (.tmp 85) = .pointer (some ⟨q5, 0, none⟩) from hd.get 2 85 (by kernel_rfl) (by kernel_rfl))
        have c0 := keep hb v0
        have c1 := keep hb v1
        have c2 := keep hb v2
        clear hs hd
        unfold Oper.wp
        generalize a'.eval = ρ at e1 ⊢
        simp [go_sem, e1, c0, c1, c2]
        exact hK _ _ (Below.refl _ _) rfl) <|
          allOps_cons (fun a' w' hb hs hd => by
        exact rg_fn (φ := (mpEq (.int .i64 (dj j))).p) (vs := #[.agg #[.int .i64 (k j).x, .int .i64 (k j).y, .int .i64 (k j).z], .agg #[.int .i64 x, .int .i64 y, .int .i64 z]]) rfl (enters_of Tryz.func82 (by kernel_rfl) rfl) (by simp [(show a'.eval (.tmp 84) = .agg #[.int .i64 (k j).x, .int .i64 (k j).y, .int .i64 (k j).z] from hd.get 1 84 (by kernel_rfl) (by kernel_rfl)), (show a'.eval (.tmp 86) = .agg #[.int .i64 x, .int .i64 y, .int .i64 z] from hd.get 3 86 (by kernel_rfl) (by kernel_rfl))]) ((HDJ.out w').mono (by rintro e w1 ⟨rfl, h1⟩; exact ⟨_, rfl, h1, rfl⟩))) <|
          allOps_cons (fun a' w' hb hs hd => rg_op fun K hK => by
        have e1 := (hs.get 9 (by kernel_rfl)).trans (show _ = .int .i64 ((da + db) * m) from rfl)
        clear hs hd
        unfold Oper.wp
        generalize a'.eval = ρ at e1 ⊢
        simp [go_sem, e1]
        exact hK _ _ (Below.refl _ _) rfl) <|
          allOps_cons (fun a' w' hb hs hd => rg_op fun K hK => by
        have e1 := (hs.get 14 (by kernel_rfl)).trans (show _ = Value.pointer (some ⟨q14, 0, none⟩) from rfl)
        clear hs hd
        unfold Oper.wp
        generalize a'.eval = ρ at e1 ⊢
        simp [go_sem, e1]
        exact hK _ _ (Below.refl _ _) rfl) <|
          allOps_cons (fun a' w' hb hs hd => rg_op fun K hK => by
        have e1 := (show a'.eval (.tmp 89) = .pointer (some ⟨q14, 0, none⟩) from hd.get 6 89 (by kernel_rfl) (by kernel_rfl))
        have c0 := keep hb k0
        have c1 := keep hb k1
        have c2 := keep hb k2
        clear hs hd
        unfold Oper.wp
        generalize a'.eval = ρ at e1 ⊢
        simp [go_sem, e1, c0, c1, c2]
        exact hK _ _ (Below.refl _ _) rfl) <|
          allOps_cons (fun a' w' hb hs hd => by
        exact rg_fn (φ := (mpEq (.int .i64 (sj j))).p) (vs := #[.agg #[.int .i64 (k j).x, .int .i64 (k j).y, .int .i64 (k j).z]]) rfl (enters_of Tryz.func83 (by kernel_rfl) rfl) (by simp [(show a'.eval (.tmp 90) = .agg #[.int .i64 (k j).x, .int .i64 (k j).y, .int .i64 (k j).z] from hd.get 7 90 (by kernel_rfl) (by kernel_rfl))]) ((HSJ.out w').mono (by rintro e w1 ⟨rfl, h1⟩; exact ⟨_, rfl, h1, rfl⟩))) <|
          allOps_cons (fun a' w' hb hs hd => rg_op fun K hK => by
        have e1 := (show a'.eval (.tmp 88) = .int .i64 ((da + db) * m) from hd.get 5 88 (by kernel_rfl) (by kernel_rfl))
        have e2 := (show a'.eval (.tmp 91) = .int .i64 (sj j) from hd.get 8 91 (by kernel_rfl) (by kernel_rfl))
        clear hs hd
        unfold Oper.wp
        generalize a'.eval = ρ at e1 e2 ⊢
        simp [go_sem, e1, e2, m6]
        exact hK _ _ (Below.refl _ _) rfl) <|
          allOps_cons (fun a' w' hb hs hd => rg_op fun K hK => by
        have e1 := (show a'.eval (.tmp 87) = .int .i64 (dj j) from hd.get 4 87 (by kernel_rfl) (by kernel_rfl))
        clear hs hd
        unfold Oper.wp
        generalize a'.eval = ρ at e1 ⊢
        simp [go_sem, e1]
        exact hK _ _ (Below.refl _ _) rfl) <|
          allOps_cons (fun a' w' hb hs hd => rg_op fun K hK => by
        have e1 := (show a'.eval (.tmp 92) = .int .i64 ((da + db) * m * sj j) from hd.get 9 92 (by kernel_rfl) (by kernel_rfl))
        clear hs hd
        unfold Oper.wp
        generalize a'.eval = ρ at e1 ⊢
        simp [go_sem, e1]
        exact hK _ _ (Below.refl _ _) rfl) <| allOps_nil) (fun Q V1 hb hall => ?_)
      have h8 : Q 15 = .int .i64 (dj j) := hall.get 10 rfl
      have h9 : Q 16 = .int .i64 ((da + db) * m * sj j) := hall.get 11 rfl
      clear hall
      simp only [mn1, maskPut, Nat.reduceAdd]
      rw [h8, h9]
      clear h8 h9
      replace l3 := keep hb l3
      replace v0 := keep hb v0
      replace v1 := keep hb v1
      replace v2 := keep hb v2
      replace k0 := keep hb k0
      replace k1 := keep hb k1
      replace k2 := keep hb k2
      replace k3 := keep hb k3
      replace k4 := keep hb k4
      replace wn0 := keep hb wn0
      replace wn1 := keep hb wn1
      replace wf0 := keep hb wf0
      replace wf1 := keep hb wf1
      replace HDN := Lib.hid (HDN.out.below hb)
      replace HDF := Lib.hid (HDF.out.below hb)
      replace BV := Lib.hid (belowT BV.out hb)
      clear hb
      rcases Bool.eq_false_or_eq_true (andB BN (decide ((da + db) * m * su ≤ up)) j) with hys | hys
      all_goals rcases Bool.eq_false_or_eq_true (orB BF (decide (up + (da + db) * m * su < 0)) j) with hno | hno
      · rw [hys, hno]
        go_wp2_with (first
        | (go_at_call 84; (with_reducible refine Calls.mono (HH1.out _ A1 c1 HDN.out) ?_); rintro e w7 ⟨rfl, hb⟩; replace l3 := keep hb l3; replace v0 := keep hb v0; replace v1 := keep hb v1; replace v2 := keep hb v2; replace k0 := keep hb k0; replace k1 := keep hb k1; replace k2 := keep hb k2; replace k3 := keep hb k3; replace k4 := keep hb k4; replace wn0 := keep hb wn0; replace wn1 := keep hb wn1; replace wf0 := keep hb wf0; replace wf1 := keep hb wf1; replace HDN := Lib.hid (HDN.out.below hb); replace HDF := Lib.hid (HDF.out.below hb); replace BV := Lib.hid (belowT BV.out hb); clear hb)
        | (go_at_call 84; (with_reducible refine Calls.mono (HH2.out _ A2 c2 HDF.out) ?_); rintro e w8 ⟨rfl, hb⟩; replace l3 := keep hb l3; replace v0 := keep hb v0; replace v1 := keep hb v1; replace v2 := keep hb v2; replace k0 := keep hb k0; replace k1 := keep hb k1; replace k2 := keep hb k2; replace k3 := keep hb k3; replace k4 := keep hb k4; replace wn0 := keep hb wn0; replace wn1 := keep hb wn1; replace wf0 := keep hb wf0; replace wf1 := keep hb wf1; replace HDN := Lib.hid (HDN.out.below hb); replace HDF := Lib.hid (HDF.out.below hb); replace BV := Lib.hid (belowT BV.out hb); clear hb)
        | fail)
        go_roundw
        case rel => exact ⟨j + 1, by omega, by go_num, (by show Value.bool (true) = Value.bool (orB BF (decide (up + (da + db) * m * su < 0)) j || BF j); rw [hno, Bool.true_or]), (by show Value.bool (!BN j) = Value.bool (andB BN (decide ((da + db) * m * su ≤ up)) j && !BN j); rw [hys, Bool.true_and]), BV.out, HDN, HDF, l3, v0, v1, v2, wn0, wn1, wf0, wf1⟩
        case measure => simp [intOf]; omega
      · rw [hys, hno]
        go_wp2_with (first
        | (go_at_call 84; (with_reducible refine Calls.mono (HH1.out _ A1 c1 HDN.out) ?_); rintro e w7 ⟨rfl, hb⟩; replace l3 := keep hb l3; replace v0 := keep hb v0; replace v1 := keep hb v1; replace v2 := keep hb v2; replace k0 := keep hb k0; replace k1 := keep hb k1; replace k2 := keep hb k2; replace k3 := keep hb k3; replace k4 := keep hb k4; replace wn0 := keep hb wn0; replace wn1 := keep hb wn1; replace wf0 := keep hb wf0; replace wf1 := keep hb wf1; replace HDN := Lib.hid (HDN.out.below hb); replace HDF := Lib.hid (HDF.out.below hb); replace BV := Lib.hid (belowT BV.out hb); clear hb)
        | (go_at_call 84; (with_reducible refine Calls.mono (HH2.out _ A2 c2 HDF.out) ?_); rintro e w8 ⟨rfl, hb⟩; replace l3 := keep hb l3; replace v0 := keep hb v0; replace v1 := keep hb v1; replace v2 := keep hb v2; replace k0 := keep hb k0; replace k1 := keep hb k1; replace k2 := keep hb k2; replace k3 := keep hb k3; replace k4 := keep hb k4; replace wn0 := keep hb wn0; replace wn1 := keep hb wn1; replace wf0 := keep hb wf0; replace wf1 := keep hb wf1; replace HDN := Lib.hid (HDN.out.below hb); replace HDF := Lib.hid (HDF.out.below hb); replace BV := Lib.hid (belowT BV.out hb); clear hb)
        | fail)
        go_roundw
        case rel => exact ⟨j + 1, by omega, by go_num, (by show Value.bool (BF j) = Value.bool (orB BF (decide (up + (da + db) * m * su < 0)) j || BF j); rw [hno, Bool.false_or]), (by show Value.bool (!BN j) = Value.bool (andB BN (decide ((da + db) * m * su ≤ up)) j && !BN j); rw [hys, Bool.true_and]), BV.out, HDN, HDF, l3, v0, v1, v2, wn0, wn1, wf0, wf1⟩
        case measure => simp [intOf]; omega
      · rw [hys, hno]
        go_wp2_with (first
        | (go_at_call 84; (with_reducible refine Calls.mono (HH1.out _ A1 c1 HDN.out) ?_); rintro e w7 ⟨rfl, hb⟩; replace l3 := keep hb l3; replace v0 := keep hb v0; replace v1 := keep hb v1; replace v2 := keep hb v2; replace k0 := keep hb k0; replace k1 := keep hb k1; replace k2 := keep hb k2; replace k3 := keep hb k3; replace k4 := keep hb k4; replace wn0 := keep hb wn0; replace wn1 := keep hb wn1; replace wf0 := keep hb wf0; replace wf1 := keep hb wf1; replace HDN := Lib.hid (HDN.out.below hb); replace HDF := Lib.hid (HDF.out.below hb); replace BV := Lib.hid (belowT BV.out hb); clear hb)
        | (go_at_call 84; (with_reducible refine Calls.mono (HH2.out _ A2 c2 HDF.out) ?_); rintro e w8 ⟨rfl, hb⟩; replace l3 := keep hb l3; replace v0 := keep hb v0; replace v1 := keep hb v1; replace v2 := keep hb v2; replace k0 := keep hb k0; replace k1 := keep hb k1; replace k2 := keep hb k2; replace k3 := keep hb k3; replace k4 := keep hb k4; replace wn0 := keep hb wn0; replace wn1 := keep hb wn1; replace wf0 := keep hb wf0; replace wf1 := keep hb wf1; replace HDN := Lib.hid (HDN.out.below hb); replace HDF := Lib.hid (HDF.out.below hb); replace BV := Lib.hid (belowT BV.out hb); clear hb)
        | fail)
        go_roundw
        case rel => exact ⟨j + 1, by omega, by go_num, (by show Value.bool (true) = Value.bool (orB BF (decide (up + (da + db) * m * su < 0)) j || BF j); rw [hno, Bool.true_or]), (by show Value.bool (false) = Value.bool (andB BN (decide ((da + db) * m * su ≤ up)) j && !BN j); rw [hys, Bool.false_and]), BV.out, HDN, HDF, l3, v0, v1, v2, wn0, wn1, wf0, wf1⟩
        case measure => simp [intOf]; omega
      · rw [hys, hno]
        go_wp2_with (first
        | (go_at_call 84; (with_reducible refine Calls.mono (HH1.out _ A1 c1 HDN.out) ?_); rintro e w7 ⟨rfl, hb⟩; replace l3 := keep hb l3; replace v0 := keep hb v0; replace v1 := keep hb v1; replace v2 := keep hb v2; replace k0 := keep hb k0; replace k1 := keep hb k1; replace k2 := keep hb k2; replace k3 := keep hb k3; replace k4 := keep hb k4; replace wn0 := keep hb wn0; replace wn1 := keep hb wn1; replace wf0 := keep hb wf0; replace wf1 := keep hb wf1; replace HDN := Lib.hid (HDN.out.below hb); replace HDF := Lib.hid (HDF.out.below hb); replace BV := Lib.hid (belowT BV.out hb); clear hb)
        | (go_at_call 84; (with_reducible refine Calls.mono (HH2.out _ A2 c2 HDF.out) ?_); rintro e w8 ⟨rfl, hb⟩; replace l3 := keep hb l3; replace v0 := keep hb v0; replace v1 := keep hb v1; replace v2 := keep hb v2; replace k0 := keep hb k0; replace k1 := keep hb k1; replace k2 := keep hb k2; replace k3 := keep hb k3; replace k4 := keep hb k4; replace wn0 := keep hb wn0; replace wn1 := keep hb wn1; replace wf0 := keep hb wf0; replace wf1 := keep hb wf1; replace HDN := Lib.hid (HDN.out.below hb); replace HDF := Lib.hid (HDF.out.below hb); replace BV := Lib.hid (belowT BV.out hb); clear hb)
        | fail)
        go_roundw
        case rel => exact ⟨j + 1, by omega, by go_num, (by show Value.bool (BF j) = Value.bool (orB BF (decide (up + (da + db) * m * su < 0)) j || BF j); rw [hno, Bool.false_or]), (by show Value.bool (false) = Value.bool (andB BN (decide ((da + db) * m * su ≤ up)) j && !BN j); rw [hys, Bool.false_and]), BV.out, HDN, HDF, l3, v0, v1, v2, wn0, wn1, wf0, wf1⟩
        case measure => simp [intOf]; omega
    · obtain rfl : j = n := by omega
      rcases Bool.eq_false_or_eq_true (orB BF (decide (up + (da + db) * m * su < 0)) j) with hno | hno
      · rw [hno]
        go_wp2_with fail
        go_ret
        exact ⟨(show Ending.returned (.int .i64 0) = _ by rw [hno]; rfl), BV.out⟩
      · rw [hno]
        rcases Bool.eq_false_or_eq_true (andB BN (decide ((da + db) * m * su ≤ up)) j) with hys | hys
        · rw [hys]
          go_wp2_with fail
          go_ret
          exact ⟨(show Ending.returned (.int .i64 2) = _ by rw [hno, hys]; rfl), BV.out⟩
        · rw [hys]
          go_wp2_with fail
          go_ret
          exact ⟨(show Ending.returned (.int .i64 1) = _ by rw [hno, hys]; rfl), BV.out⟩
end Go.Proofs.YtnfoagcpgegldaaGreat
