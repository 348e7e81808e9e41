/- Helpers: four samples that are restored from their bins, in package sample. No condition but the hypotheses that each theorem names. -/
import Derived.Test.YtpkacfgmojblbaaB26
namespace Go.Proofs.Ytpkacfgmojblbaa
open Go.RowKit
attribute [local go_sem] old1 fro1 old2 fro2 old3 fro3 old4 fro4 old5 fro5 old6 fro6 old7 fro7 old8 fro8 old9 fro9 old10 fro10 old11 fro11 old12 fro12
def qa0 : List Bool := [false, false, false, false, true, false, false, false, false, true, true, true, true, false, false, false, false, false, false, false, false, false, false, false, false, false, false, false, false, false, false, false, false, false, false, false, false, false, false, false, false, false, false, false, false, false, false, false, false, false, false, false, false, false]
theorem im8g (w : World) (G : Nat) (g : Nat → Int × Int) (hG : G < w.heap.size) (h0 : w.cell? ⟨G, 0, none⟩ = some (.int .i64 (g 0).1)) (h1 : w.cell? ⟨G, 1, none⟩ = some (.int .i64 (g 0).2)) (h2 : w.cell? ⟨G, 2, none⟩ = some (.int .i64 (g 1).1)) (h3 : w.cell? ⟨G, 3, none⟩ = some (.int .i64 (g 1).2)) (h4 : w.cell? ⟨G, 4, none⟩ = some (.int .i64 (g 2).1)) (h5 : w.cell? ⟨G, 5, none⟩ = some (.int .i64 (g 2).2)) (h6 : w.cell? ⟨G, 6, none⟩ = some (.int .i64 (g 3).1)) (h7 : w.cell? ⟨G, 7, none⟩ = some (.int .i64 (g 3).2)) (hz : ∀ i : Nat, w.frozen? ⟨G, i, none⟩ = false) : IM w G 8 (flt g) := by
  refine ⟨hG, fun i hi => ⟨?_, hz i⟩⟩
  rcases (by omega : i = 0 ∨ i = 1 ∨ i = 2 ∨ i = 3 ∨ i = 4 ∨ i = 5 ∨ i = 6 ∨ i = 7) with rfl | rfl | rfl | rfl | rfl | rfl | rfl | rfl <;> assumption
/-- the error of four pairs -/
def b4E (m : Int) (g : Nat → Int × Int) : Int := ferr (fun i => ptE m (g i)) 0 4
theorem b4_bd {m : Int} (_ : 0 ≤ m) {g : Nat → Int × Int} (h : b4E m g = 0) : ∀ i, i < 4 → (-m ≤ (g i).1 ∧ (g i).1 ≤ m) ∧ -m ≤ (g i).2 ∧ (g i).2 ≤ m := fun i hi => pt_0 (ferr_all 4 0 h i (by omega) (by omega))
/-- the fourfold sample can be divided -/
def rsK (g : Nat → Int × Int) (k : Nat) : Prop := (bnS k g 4).1.tmod 4 = 0 ∧ (bnS k g 4).2.tmod 4 = 0
/-- the samples with these bins -/
def rsF (g : Nat → Int × Int) (k : Nat) : Int × Int := ((bnS k g 4).1.tdiv 4, (bnS k g 4).2.tdiv 4)
set_option maxRecDepth 100000 in
set_option maxHeartbeats 4000000 in
theorem restoredS_e0 (g : Nat → Int × Int) (E0 : Int) (w : World) (hE : b4E 8000 g = E0) (h0 : E0 ≠ 0) :
    Calls Try.prog 74 #[.agg #[.int .i64 (g 0).1, .int .i64 (g 0).2, .int .i64 (g 1).1, .int .i64 (g 1).2, .int .i64 (g 2).1, .int .i64 (g 2).2, .int .i64 (g 3).1, .int .i64 (g 3).2]] w fun e w' => e = .returned (.tuple #[.agg #[.int .i64 0, .int .i64 0, .int .i64 0, .int .i64 0, .int .i64 0, .int .i64 0, .int .i64 0, .int .i64 0], .int .i64 E0]) ∧ Below w.heap.size w w' := by
  have hq : (E0 != 0) = true := by simpa using h0
  go_enter Try.func74, Try.ntmps74
  go_upto_region 1 with fail
  have HS : Hid (IM ((w.alloc (.cells #[.int .i64 (g 0).1, .int .i64 (g 0).2, .int .i64 (g 1).1, .int .i64 (g 1).2, .int .i64 (g 2).1, .int .i64 (g 2).2, .int .i64 (g 3).1, .int .i64 (g 3).2] 102)).alloc (.cells #[.int .i64 0, .int .i64 0, .int .i64 0, .int .i64 0, .int .i64 0, .int .i64 0, .int .i64 0, .int .i64 0] 102)) w.heap.size 8 (flt g)) := Lib.hid (im8g _ _ _ (by simp; omega) (by simp [go_sem]) (by simp [go_sem]) (by simp [go_sem]) (by simp [go_sem]) (by simp [go_sem]) (by simp [go_sem]) (by simp [go_sem]) (by simp [go_sem]) (by intro i; simp [go_sem]))
  have HR : Hid (IM ((w.alloc (.cells #[.int .i64 (g 0).1, .int .i64 (g 0).2, .int .i64 (g 1).1, .int .i64 (g 1).2, .int .i64 (g 2).1, .int .i64 (g 2).2, .int .i64 (g 3).1, .int .i64 (g 3).2] 102)).alloc (.cells #[.int .i64 0, .int .i64 0, .int .i64 0, .int .i64 0, .int .i64 0, .int .i64 0, .int .i64 0, .int .i64 0] 102)) (w.heap.size + 1) 8 (fun _ => 0)) := Lib.hid (im8 _ _ (by simp) (by simp [go_sem]) (by simp [go_sem]) (by simp [go_sem]) (by simp [go_sem]) (by simp [go_sem]) (by simp [go_sem]) (by simp [go_sem]) (by simp [go_sem]) (by intro i; simp [go_sem]))
  have BV : Hid (Below w.heap.size w ((w.alloc (.cells #[.int .i64 (g 0).1, .int .i64 (g 0).2, .int .i64 (g 1).1, .int .i64 (g 1).2, .int .i64 (g 2).1, .int .i64 (g 2).2, .int .i64 (g 3).1, .int .i64 (g 3).2] 102)).alloc (.cells #[.int .i64 0, .int .i64 0, .int .i64 0, .int .i64 0, .int .i64 0, .int .i64 0, .int .i64 0, .int .i64 0] 102))) := Lib.hid (by (repeat (first | with_reducible exact Below.refl _ _ | with_reducible assumption | with_reducible refine Below.alloc ?_ (by first | (simp; done) | (simp; omega) | omega) _ | with_reducible refine Below.setCell ?_ (by first | (simp; done) | (simp; omega) | omega) _ | with_reducible refine Below.drew ?_ | with_reducible refine below_drewN ?_ _)))
  generalize ((w.alloc (.cells #[.int .i64 (g 0).1, .int .i64 (g 0).2, .int .i64 (g 1).1, .int .i64 (g 1).2, .int .i64 (g 2).1, .int .i64 (g 2).2, .int .i64 (g 3).1, .int .i64 (g 3).2] 102)).alloc (.cells #[.int .i64 0, .int .i64 0, .int .i64 0, .int .i64 0, .int .i64 0, .int .i64 0, .int .i64 0, .int .i64 0] 102)) = v0 at *
  refine wp_region_mp [mpEq (.slice (some ⟨w.heap.size, 0, none⟩) 4 4), mpItm (gv) (ptE 8000), mpChk (True) (b4E 8000 g), mpEq (.int .i64 (b4E 8000 g)), mpEq (.int .i64 (b4E 8000 g))] qa0 (by kernel_rfl) (by kernel_rfl) (by kernel_rfl) (
        allOps_cons (fun a' w' hb hs hd => rg_op fun K hK => by
      have e0 := (hs.get 1 (by kernel_rfl)).trans (show _ = .pointer (some ⟨w.heap.size, 0, none⟩) from rfl)
      have ec : ∀ v, a'.eval (.const v) = v := fun _ => rfl
      clear hs hd
      unfold Oper.wp
      generalize a'.eval = ρ at e0 ec ⊢
      simp [go_sem, e0]
      exact hK _ _ (Below.refl _ _) rfl) <|
        allOps_cons (fun a' w' hb hs hd => by
      exact rg_fn (φ := (mpItm (gv) (ptE 8000)).p) (vs := #[.int .i64 8000]) rfl (enters_of Try.func91 (by kernel_rfl) rfl) (by simp [(show a'.eval (.const (.int .i64 8000)) = .int .i64 8000 from rfl)]) ((parts_itm 8000 w' (by omega)))) <|
        allOps_cons (fun a' w' hb hs hd => by
      have e0 := (show a'.eval (.tmp 9) = .slice (some ⟨w.heap.size, 0, none⟩) 4 4 from hd.get 0 9 (by kernel_rfl) (by kernel_rfl))
      have hI := (show (mpItm (gv) (ptE 8000)).p (a'.eval (.tmp 10)) w' from hd.get 1 10 (by kernel_rfl) (by kernel_rfl))
      have hGA : GA w' (some ⟨w.heap.size, 0, none⟩) 4 g := (HS.out.on hb).ga (n := 4)
      have hvs : #[] ++ #[Operand.tmp 9, Operand.tmp 10].map a'.eval ++ #[] = #[.slice (some ⟨w.heap.size, 0, none⟩) 4 4, a'.eval (.tmp 10)] := by simp [e0]
      clear hs hd
      exact rg_fn (φ := (mpChk (True) (b4E 8000 g)).p) rfl (enters_of Try.func90 (by kernel_rfl) rfl) hvs (eachG_chk (some ⟨w.heap.size, 0, none⟩) 4 4 g (ptE 8000) _ w' (by omega) hGA hI)) <|
        allOps_cons (fun a' w' hb hs hd => by
      obtain ⟨g0, f0, e11, he, hc⟩ := (show (mpChk (True) (b4E 8000 g)).p (a'.eval (.tmp 11)) w' from hd.get 2 11 (by kernel_rfl) (by kernel_rfl))
      have hcall : Calls Try.prog g0 f0 w' fun e w'' => ∃ v, e = .returned v ∧ Below w'.heap.size w' w'' ∧ (mpEq (.int .i64 (b4E 8000 g))).p v w'' := (hc w' (Below.refl _ _) trivial).mono (fun e w1 h => ⟨_, h.1, h.2, rfl⟩)
      have hvs : #[] ++ #[].map a'.eval ++ f0 = f0 := by simp
      clear hs hd
      exact rg_fn e11 he hvs hcall) <|
        allOps_cons (fun a' w' hb hs hd => rg_op fun K hK => by
      have e0 := (show a'.eval (.tmp 12) = .int .i64 (b4E 8000 g) from hd.get 3 12 (by kernel_rfl) (by kernel_rfl))
      have ec : ∀ v, a'.eval (.const v) = v := fun _ => rfl
      clear hs hd
      unfold Oper.wp
      generalize a'.eval = ρ at e0 ec ⊢
      simp [go_sem, e0]
      exact hK _ _ (Below.refl _ _) rfl) <| allOps_nil) (fun V v1 hv1 hall => ?_)
  have h4 : V 4 = .int .i64 (b4E 8000 g) := hall.get 4 rfl
  clear hall
  simp only [qa0, maskPut, Nat.reduceAdd]
  rw [h4]
  clear h4
  replace HS := Lib.hid (HS.out.on hv1)
  replace HR := Lib.hid (HR.out.on hv1)
  replace BV := Lib.hid (belowT BV.out hv1)
  clear hv1
  rw [hE]
  have r0 := (HR.out.2 0 (by omega)).1; have rz0 := (HR.out.2 0 (by omega)).2; have r1 := (HR.out.2 1 (by omega)).1; have rz1 := (HR.out.2 1 (by omega)).2; have r2 := (HR.out.2 2 (by omega)).1; have rz2 := (HR.out.2 2 (by omega)).2; have r3 := (HR.out.2 3 (by omega)).1; have rz3 := (HR.out.2 3 (by omega)).2; have r4 := (HR.out.2 4 (by omega)).1; have rz4 := (HR.out.2 4 (by omega)).2; have r5 := (HR.out.2 5 (by omega)).1; have rz5 := (HR.out.2 5 (by omega)).2; have r6 := (HR.out.2 6 (by omega)).1; have rz6 := (HR.out.2 6 (by omega)).2; have r7 := (HR.out.2 7 (by omega)).1; have rz7 := (HR.out.2 7 (by omega)).2
  clear HS HR h0
  go_wp2
  refine bodyPost_ret (v := .tuple #[.agg #[.int .i64 0, .int .i64 0, .int .i64 0, .int .i64 0, .int .i64 0, .int .i64 0, .int .i64 0, .int .i64 0], .int .i64 E0]) (by simp [results, Try.results74, go_sem, *]) rfl ⟨rfl, by have Bq := BV.out; (repeat (first | with_reducible exact Below.refl _ _ | with_reducible assumption | with_reducible refine Below.alloc ?_ (by first | (simp; done) | (simp; omega) | omega) _ | with_reducible refine Below.setCell ?_ (by first | (simp; done) | (simp; omega) | omega) _ | with_reducible refine Below.drew ?_ | with_reducible refine below_drewN ?_ _))⟩
set_option maxRecDepth 100000 in
set_option maxHeartbeats 4000000 in
theorem restoredS_e3 (g : Nat → Int × Int) (f : Nat) (w : World) (hE : b4E 8000 g = 0) (hf : f < 4) (hlo : ∀ j, j < f → rsK g j) (hno : ¬ rsK g f) :
    Calls Try.prog 74 #[.agg #[.int .i64 (g 0).1, .int .i64 (g 0).2, .int .i64 (g 1).1, .int .i64 (g 1).2, .int .i64 (g 2).1, .int .i64 (g 2).2, .int .i64 (g 3).1, .int .i64 (g 3).2]] w fun e w' => e = .returned (.tuple #[.agg #[.int .i64 0, .int .i64 0, .int .i64 0, .int .i64 0, .int .i64 0, .int .i64 0, .int .i64 0, .int .i64 0], .int .i64 3]) ∧ Below w.heap.size w w' := by
  have HG := Lib.hid (b4_bd (by decide) hE)
  go_enter Try.func74, Try.ntmps74
  go_upto_region 1 with fail
  have HS : Hid (IM ((w.alloc (.cells #[.int .i64 (g 0).1, .int .i64 (g 0).2, .int .i64 (g 1).1, .int .i64 (g 1).2, .int .i64 (g 2).1, .int .i64 (g 2).2, .int .i64 (g 3).1, .int .i64 (g 3).2] 102)).alloc (.cells #[.int .i64 0, .int .i64 0, .int .i64 0, .int .i64 0, .int .i64 0, .int .i64 0, .int .i64 0, .int .i64 0] 102)) w.heap.size 8 (flt g)) := Lib.hid (im8g _ _ _ (by simp; omega) (by simp [go_sem]) (by simp [go_sem]) (by simp [go_sem]) (by simp [go_sem]) (by simp [go_sem]) (by simp [go_sem]) (by simp [go_sem]) (by simp [go_sem]) (by intro i; simp [go_sem]))
  have HR : Hid (IM ((w.alloc (.cells #[.int .i64 (g 0).1, .int .i64 (g 0).2, .int .i64 (g 1).1, .int .i64 (g 1).2, .int .i64 (g 2).1, .int .i64 (g 2).2, .int .i64 (g 3).1, .int .i64 (g 3).2] 102)).alloc (.cells #[.int .i64 0, .int .i64 0, .int .i64 0, .int .i64 0, .int .i64 0, .int .i64 0, .int .i64 0, .int .i64 0] 102)) (w.heap.size + 1) 8 (fun _ => 0)) := Lib.hid (im8 _ _ (by simp) (by simp [go_sem]) (by simp [go_sem]) (by simp [go_sem]) (by simp [go_sem]) (by simp [go_sem]) (by simp [go_sem]) (by simp [go_sem]) (by simp [go_sem]) (by intro i; simp [go_sem]))
  have BV : Hid (Below w.heap.size w ((w.alloc (.cells #[.int .i64 (g 0).1, .int .i64 (g 0).2, .int .i64 (g 1).1, .int .i64 (g 1).2, .int .i64 (g 2).1, .int .i64 (g 2).2, .int .i64 (g 3).1, .int .i64 (g 3).2] 102)).alloc (.cells #[.int .i64 0, .int .i64 0, .int .i64 0, .int .i64 0, .int .i64 0, .int .i64 0, .int .i64 0, .int .i64 0] 102))) := Lib.hid (by (repeat (first | with_reducible exact Below.refl _ _ | with_reducible assumption | with_reducible refine Below.alloc ?_ (by first | (simp; done) | (simp; omega) | omega) _ | with_reducible refine Below.setCell ?_ (by first | (simp; done) | (simp; omega) | omega) _ | with_reducible refine Below.drew ?_ | with_reducible refine below_drewN ?_ _)))
  generalize ((w.alloc (.cells #[.int .i64 (g 0).1, .int .i64 (g 0).2, .int .i64 (g 1).1, .int .i64 (g 1).2, .int .i64 (g 2).1, .int .i64 (g 2).2, .int .i64 (g 3).1, .int .i64 (g 3).2] 102)).alloc (.cells #[.int .i64 0, .int .i64 0, .int .i64 0, .int .i64 0, .int .i64 0, .int .i64 0, .int .i64 0, .int .i64 0] 102)) = v0 at *
  refine wp_region_mp [mpEq (.slice (some ⟨w.heap.size, 0, none⟩) 4 4), mpItm (gv) (ptE 8000), mpChk (True) (b4E 8000 g), mpEq (.int .i64 (b4E 8000 g)), mpEq (.int .i64 (b4E 8000 g))] qa0 (by kernel_rfl) (by kernel_rfl) (by kernel_rfl) (
        allOps_cons (fun a' w' hb hs hd => rg_op fun K hK => by
      have e0 := (hs.get 1 (by kernel_rfl)).trans (show _ = .pointer (some ⟨w.heap.size, 0, none⟩) from rfl)
      have ec : ∀ v, a'.eval (.const v) = v := fun _ => rfl
      clear hs hd
      unfold Oper.wp
      generalize a'.eval = ρ at e0 ec ⊢
      simp [go_sem, e0]
      exact hK _ _ (Below.refl _ _) rfl) <|
        allOps_cons (fun a' w' hb hs hd => by
      exact rg_fn (φ := (mpItm (gv) (ptE 8000)).p) (vs := #[.int .i64 8000]) rfl (enters_of Try.func91 (by kernel_rfl) rfl) (by simp [(show a'.eval (.const (.int .i64 8000)) = .int .i64 8000 from rfl)]) ((parts_itm 8000 w' (by omega)))) <|
        allOps_cons (fun a' w' hb hs hd => by
      have e0 := (show a'.eval (.tmp 9) = .slice (some ⟨w.heap.size, 0, none⟩) 4 4 from hd.get 0 9 (by kernel_rfl) (by kernel_rfl))
      have hI := (show (mpItm (gv) (ptE 8000)).p (a'.eval (.tmp 10)) w' from hd.get 1 10 (by kernel_rfl) (by kernel_rfl))
      have hGA : GA w' (some ⟨w.heap.size, 0, none⟩) 4 g := (HS.out.on hb).ga (n := 4)
      have hvs : #[] ++ #[Operand.tmp 9, Operand.tmp 10].map a'.eval ++ #[] = #[.slice (some ⟨w.heap.size, 0, none⟩) 4 4, a'.eval (.tmp 10)] := by simp [e0]
      clear hs hd
      exact rg_fn (φ := (mpChk (True) (b4E 8000 g)).p) rfl (enters_of Try.func90 (by kernel_rfl) rfl) hvs (eachG_chk (some ⟨w.heap.size, 0, none⟩) 4 4 g (ptE 8000) _ w' (by omega) hGA hI)) <|
        allOps_cons (fun a' w' hb hs hd => by
      obtain ⟨g0, f0, e11, he, hc⟩ := (show (mpChk (True) (b4E 8000 g)).p (a'.eval (.tmp 11)) w' from hd.get 2 11 (by kernel_rfl) (by kernel_rfl))
      have hcall : Calls Try.prog g0 f0 w' fun e w'' => ∃ v, e = .returned v ∧ Below w'.heap.size w' w'' ∧ (mpEq (.int .i64 (b4E 8000 g))).p v w'' := (hc w' (Below.refl _ _) trivial).mono (fun e w1 h => ⟨_, h.1, h.2, rfl⟩)
      have hvs : #[] ++ #[].map a'.eval ++ f0 = f0 := by simp
      clear hs hd
      exact rg_fn e11 he hvs hcall) <|
        allOps_cons (fun a' w' hb hs hd => rg_op fun K hK => by
      have e0 := (show a'.eval (.tmp 12) = .int .i64 (b4E 8000 g) from hd.get 3 12 (by kernel_rfl) (by kernel_rfl))
      have ec : ∀ v, a'.eval (.const v) = v := fun _ => rfl
      clear hs hd
      unfold Oper.wp
      generalize a'.eval = ρ at e0 ec ⊢
      simp [go_sem, e0]
      exact hK _ _ (Below.refl _ _) rfl) <| allOps_nil) (fun V v1 hv1 hall => ?_)
  have h4 : V 4 = .int .i64 (b4E 8000 g) := hall.get 4 rfl
  clear hall
  simp only [qa0, maskPut, Nat.reduceAdd]
  rw [h4]
  clear h4
  replace HS := Lib.hid (HS.out.on hv1)
  replace HR := Lib.hid (HR.out.on hv1)
  replace BV := Lib.hid (belowT BV.out hv1)
  clear hv1
  have HBN := Lib.hid (fun (k : Nat) (hk : k < 4) W (hW : GA W (some ⟨w.heap.size, 0, none⟩) 4 g) => bin_any (some ⟨w.heap.size, 0, none⟩) 4 4 g (-(k : Int)) W (by omega) hW (by omega) (by omega) (fun i hi => HG.out i hi))
  rw [hE]
  go_upto_region 6 with fail
  have hva : Below v1.heap.size v1 (v1.alloc (.cells #[.int .i64 0, .int .i64 0, .int .i64 0, .int .i64 0, .int .i64 0, .int .i64 0, .int .i64 0, .int .i64 0] 102)) := (Below.refl _ _).alloc (Nat.le_refl _) _
  have HX : Hid (IM (v1.alloc (.cells #[.int .i64 0, .int .i64 0, .int .i64 0, .int .i64 0, .int .i64 0, .int .i64 0, .int .i64 0, .int .i64 0] 102)) v1.heap.size 8 (fun _ => 0)) := Lib.hid (im8 _ _ (by simp) (by simp [go_sem]) (by simp [go_sem]) (by simp [go_sem]) (by simp [go_sem]) (by simp [go_sem]) (by simp [go_sem]) (by simp [go_sem]) (by simp [go_sem]) (by intro i; simp [go_sem]))
  have hG1 : w.heap.size + 1 < v1.heap.size := HR.out.1
  replace HS := Lib.hid (HS.out.on hva)
  replace HR := Lib.hid (HR.out.on hva)
  replace BV := Lib.hid (belowT BV.out hva)
  clear hva
  generalize v1.heap.size = G5 at *
  generalize (v1.alloc (.cells #[.int .i64 0, .int .i64 0, .int .i64 0, .int .i64 0, .int .i64 0, .int .i64 0, .int .i64 0, .int .i64 0] 102)) = v2 at *
  go_loopw [17] (fun s17 wr => ∃ k : Nat, k ≤ f ∧ s17 = .int .i64 k ∧ Hid (Below w.heap.size w wr) ∧ Hid (IM wr w.heap.size 8 (flt g)) ∧ Hid (IM wr (w.heap.size + 1) 8 (fun _ => 0)) ∧ Hid (IM wr G5 8 (upto (k * 2) (flt (rsF g))))) (fun i _ => 4 - (intOf i).toNat)
  case atStart => exact ⟨0, Nat.zero_le _, rfl, BV.out, HS.out, HR.out, HX.out.same (fun i _ => by simp [upto])⟩
  case round =>
    obtain ⟨k, hk, rfl, HB, HS, HR, HX⟩ := hrel
    have HT := Lib.hid (HBN.out k (by omega))
    have wn : IntKind.i64.wrap (-(k : Int)) = -(k : Int) := IntWalk.i64_in _ (by omega)
    rw [show -(-(k : Int)) = (k : Int) by omega] at HT
    have hbk := bn_bd (s := (k : Int)) (M := 8000) (by omega) HG.out 4 (Nat.le_refl _)
    have hd1 := tdiv_bd (bnS k g 4).1 4 (by omega) (by omega) (by omega)
    have hd2 := tdiv_bd (bnS k g 4).2 4 (by omega) (by omega) (by omega)
    have t1 := Int.tdiv_mul_add_tmod (bnS k g 4).1 4
    have t2 := Int.tdiv_mul_add_tmod (bnS k g 4).2 4
    have x1 : IntKind.i64.wrap ((bnS k g 4).1.tdiv 4) = (bnS k g 4).1.tdiv 4 := IntWalk.i64_in _ (by omega)
    have x2 : IntKind.i64.wrap ((bnS k g 4).2.tdiv 4) = (bnS k g 4).2.tdiv 4 := IntWalk.i64_in _ (by omega)
    have tb1 := tmod_plain (bnS k g 4).1 4 (by omega)
    have tb2 := tmod_plain (bnS k g 4).2 4 (by omega)
    have x3 : IntKind.i64.wrap ((bnS k g 4).1.tmod 4) = (bnS k g 4).1.tmod 4 := IntWalk.i64_in _ (by omega)
    have x4 : IntKind.i64.wrap ((bnS k g 4).2.tmod 4) = (bnS k g 4).2.tmod 4 := IntWalk.i64_in _ (by omega)
    have hF0 : Hid (flt (rsF g) (k * 2) = (bnS k g 4).1.tdiv 4 ∧ flt (rsF g) (k * 2 + 1) = (bnS k g 4).2.tdiv 4) := Lib.hid ⟨flt_0 _ k, flt_1 _ k⟩
    have p1 : (0 : Int) ≤ (k : Int) := by omega
    have p2 : (k : Int) < 4 := by omega
    clear hbk hd1 hd2 t1 t2 tb1 tb2
    by_cases hlt : k < f
    · have hok := hlo k hlt
      unfold rsK at hok
      have q1 : ((bnS k g 4).1.tmod 4 != 0) = false := by simpa using hok.1
      have q2 : ((bnS k g 4).2.tmod 4 != 0) = false := by simpa using hok.2
      clear hok
      generalize (bnS k g 4).1 = re at *
      generalize (bnS k g 4).2 = im at *
      generalize hX1 : re.tdiv 4 = X at *
      generalize hY1 : im.tdiv 4 = Y at *
      generalize hrm : re.tmod 4 = rm at *
      generalize hsm : im.tmod 4 = sm at *
      go_upto_region 11 with (go_at_call 121; (with_reducible refine Calls.mono (HT.out _ ((HS.out.on (by first | exact Below.refl _ _ | (repeat (first | with_reducible exact Below.refl _ _ | with_reducible assumption | with_reducible refine Below.alloc ?_ (by first | (simp; done) | (simp; omega) | omega) _ | with_reducible refine Below.setCell ?_ (by first | (simp; done) | (simp; omega) | omega) _ | with_reducible refine Below.drew ?_ | with_reducible refine below_drewN ?_ _)))).ga (n := 4))) ?_); rintro e z1 ⟨rfl, hz⟩; have HS2 := Lib.hid (HS.out.on hz); have HR2 := Lib.hid (HR.out.on hz); have HX2 := Lib.hid (HX.out.on hz); have HB2 := Lib.hid (belowT HB.out hz); clear hz)
      have hva : Below z1.heap.size z1 (z1.alloc (.cells #[.int .i64 re, .int .i64 im] 23)) := (Below.refl _ _).alloc (Nat.le_refl _) _
      have m0 : (z1.alloc (.cells #[.int .i64 re, .int .i64 im] 23)).cell? ⟨z1.heap.size, 0, none⟩ = some (.int .i64 re) := by simp [go_sem]
      have m1 : (z1.alloc (.cells #[.int .i64 re, .int .i64 im] 23)).cell? ⟨z1.heap.size, 1, none⟩ = some (.int .i64 im) := by simp [go_sem]
      have HS3 := Lib.hid (HS2.out.on hva)
      have HR3 := Lib.hid (HR2.out.on hva)
      have HX3 := Lib.hid (HX2.out.on hva)
      have HB3 := Lib.hid (belowT HB2.out hva)
      have c0 := (HX3.out.2 (k * 2) (by omega)).1
      have c1 := (HX3.out.2 (k * 2 + 1) (by omega)).1
      have d0 := (HX3.out.2 (k * 2) (by omega)).2
      have d1 := (HX3.out.2 (k * 2 + 1) (by omega)).2
      clear hva HS2 HR2 HX2 HB2
      generalize z1.heap.size = b7 at *
      generalize (z1.alloc (.cells #[.int .i64 re, .int .i64 im] 23)) = z2 at *
      go_wp2
      go_roundw
      case rel =>
        refine ⟨k + 1, by omega, by go_num, (HB3.out.setCell (by show w.heap.size ≤ G5; omega) _).setCell (by show w.heap.size ≤ G5; omega) _, (HS3.out.far (by show w.heap.size ≠ G5; omega) _).far (by show w.heap.size ≠ G5; omega) _, (HR3.out.far (by show w.heap.size + 1 ≠ G5; omega) _).far (by show w.heap.size + 1 ≠ G5; omega) _, ((HX3.out.set (k := k * 2) (by omega) X).set (k := k * 2 + 1) (by omega) Y).same (fun i _ => ?_)⟩
        rw [← bn_step (flt (rsF g)) k i, hF0.out.1, hF0.out.2]
      case measure => simp [intOf]; omega
    · obtain rfl : k = f := by omega
      unfold rsK at hno
      have r0 := (HR.out.2 0 (by omega)).1; have rz0 := (HR.out.2 0 (by omega)).2; have r1 := (HR.out.2 1 (by omega)).1; have rz1 := (HR.out.2 1 (by omega)).2; have r2 := (HR.out.2 2 (by omega)).1; have rz2 := (HR.out.2 2 (by omega)).2; have r3 := (HR.out.2 3 (by omega)).1; have rz3 := (HR.out.2 3 (by omega)).2; have r4 := (HR.out.2 4 (by omega)).1; have rz4 := (HR.out.2 4 (by omega)).2; have r5 := (HR.out.2 5 (by omega)).1; have rz5 := (HR.out.2 5 (by omega)).2; have r6 := (HR.out.2 6 (by omega)).1; have rz6 := (HR.out.2 6 (by omega)).2; have r7 := (HR.out.2 7 (by omega)).1; have rz7 := (HR.out.2 7 (by omega)).2
      by_cases c1 : (bnS k g 4).1.tmod 4 = 0
      · have q1 : ((bnS k g 4).1.tmod 4 != 0) = false := by simpa using c1
        have q2 : ((bnS k g 4).2.tmod 4 != 0) = true := by simp; exact fun h => hno ⟨c1, h⟩
        clear hno c1 r0 r1 r2 r3 r4 r5 r6 r7 rz0 rz1 rz2 rz3 rz4 rz5 rz6 rz7
        generalize (bnS k g 4).1 = re at *
        generalize (bnS k g 4).2 = im at *
        generalize hrm : re.tmod 4 = rm at *
        generalize hsm : im.tmod 4 = sm at *
        go_upto_region 10 with (go_at_call 121; (with_reducible refine Calls.mono (HT.out _ ((HS.out.on (by first | exact Below.refl _ _ | (repeat (first | with_reducible exact Below.refl _ _ | with_reducible assumption | with_reducible refine Below.alloc ?_ (by first | (simp; done) | (simp; omega) | omega) _ | with_reducible refine Below.setCell ?_ (by first | (simp; done) | (simp; omega) | omega) _ | with_reducible refine Below.drew ?_ | with_reducible refine below_drewN ?_ _)))).ga (n := 4))) ?_); rintro e z1 ⟨rfl, hz⟩; have HS2 := Lib.hid (HS.out.on hz); have HR2 := Lib.hid (HR.out.on hz); have HX2 := Lib.hid (HX.out.on hz); have HB2 := Lib.hid (belowT HB.out hz); clear hz)
        have hva : Below z1.heap.size z1 (z1.alloc (.cells #[.int .i64 re, .int .i64 im] 23)) := (Below.refl _ _).alloc (Nat.le_refl _) _
        have HR3 := Lib.hid (HR2.out.on hva)
        have HB3 := Lib.hid (belowT HB2.out hva)
        clear hva
        generalize (z1.alloc (.cells #[.int .i64 re, .int .i64 im] 23)) = z2 at *
        have r0 := (HR3.out.2 0 (by omega)).1; have rz0 := (HR3.out.2 0 (by omega)).2; have r1 := (HR3.out.2 1 (by omega)).1; have rz1 := (HR3.out.2 1 (by omega)).2; have r2 := (HR3.out.2 2 (by omega)).1; have rz2 := (HR3.out.2 2 (by omega)).2; have r3 := (HR3.out.2 3 (by omega)).1; have rz3 := (HR3.out.2 3 (by omega)).2; have r4 := (HR3.out.2 4 (by omega)).1; have rz4 := (HR3.out.2 4 (by omega)).2; have r5 := (HR3.out.2 5 (by omega)).1; have rz5 := (HR3.out.2 5 (by omega)).2; have r6 := (HR3.out.2 6 (by omega)).1; have rz6 := (HR3.out.2 6 (by omega)).2; have r7 := (HR3.out.2 7 (by omega)).1; have rz7 := (HR3.out.2 7 (by omega)).2
        go_wp2
        refine bodyPost_ret (v := .tuple #[.agg #[.int .i64 0, .int .i64 0, .int .i64 0, .int .i64 0, .int .i64 0, .int .i64 0, .int .i64 0, .int .i64 0], .int .i64 3]) (by simp [results, Try.results74, go_sem, *]) rfl ⟨rfl, by have Bq := HB3.out; (repeat (first | with_reducible exact Below.refl _ _ | with_reducible assumption | with_reducible refine Below.alloc ?_ (by first | (simp; done) | (simp; omega) | omega) _ | with_reducible refine Below.setCell ?_ (by first | (simp; done) | (simp; omega) | omega) _ | with_reducible refine Below.drew ?_ | with_reducible refine below_drewN ?_ _))⟩
      · have q1 : ((bnS k g 4).1.tmod 4 != 0) = true := by simpa using c1
        clear hno c1 r0 r1 r2 r3 r4 r5 r6 r7 rz0 rz1 rz2 rz3 rz4 rz5 rz6 rz7
        generalize (bnS k g 4).1 = re at *
        generalize (bnS k g 4).2 = im at *
        generalize hrm : re.tmod 4 = rm at *
        go_upto_region 10 with (go_at_call 121; (with_reducible refine Calls.mono (HT.out _ ((HS.out.on (by first | exact Below.refl _ _ | (repeat (first | with_reducible exact Below.refl _ _ | with_reducible assumption | with_reducible refine Below.alloc ?_ (by first | (simp; done) | (simp; omega) | omega) _ | with_reducible refine Below.setCell ?_ (by first | (simp; done) | (simp; omega) | omega) _ | with_reducible refine Below.drew ?_ | with_reducible refine below_drewN ?_ _)))).ga (n := 4))) ?_); rintro e z1 ⟨rfl, hz⟩; have HS2 := Lib.hid (HS.out.on hz); have HR2 := Lib.hid (HR.out.on hz); have HX2 := Lib.hid (HX.out.on hz); have HB2 := Lib.hid (belowT HB.out hz); clear hz)
        have hva : Below z1.heap.size z1 (z1.alloc (.cells #[.int .i64 re, .int .i64 im] 23)) := (Below.refl _ _).alloc (Nat.le_refl _) _
        have HR3 := Lib.hid (HR2.out.on hva)
        have HB3 := Lib.hid (belowT HB2.out hva)
        clear hva
        generalize (z1.alloc (.cells #[.int .i64 re, .int .i64 im] 23)) = z2 at *
        have r0 := (HR3.out.2 0 (by omega)).1; have rz0 := (HR3.out.2 0 (by omega)).2; have r1 := (HR3.out.2 1 (by omega)).1; have rz1 := (HR3.out.2 1 (by omega)).2; have r2 := (HR3.out.2 2 (by omega)).1; have rz2 := (HR3.out.2 2 (by omega)).2; have r3 := (HR3.out.2 3 (by omega)).1; have rz3 := (HR3.out.2 3 (by omega)).2; have r4 := (HR3.out.2 4 (by omega)).1; have rz4 := (HR3.out.2 4 (by omega)).2; have r5 := (HR3.out.2 5 (by omega)).1; have rz5 := (HR3.out.2 5 (by omega)).2; have r6 := (HR3.out.2 6 (by omega)).1; have rz6 := (HR3.out.2 6 (by omega)).2; have r7 := (HR3.out.2 7 (by omega)).1; have rz7 := (HR3.out.2 7 (by omega)).2
        go_wp2
        refine bodyPost_ret (v := .tuple #[.agg #[.int .i64 0, .int .i64 0, .int .i64 0, .int .i64 0, .int .i64 0, .int .i64 0, .int .i64 0, .int .i64 0], .int .i64 3]) (by simp [results, Try.results74, go_sem, *]) rfl ⟨rfl, by have Bq := HB3.out; (repeat (first | with_reducible exact Below.refl _ _ | with_reducible assumption | with_reducible refine Below.alloc ?_ (by first | (simp; done) | (simp; omega) | omega) _ | with_reducible refine Below.setCell ?_ (by first | (simp; done) | (simp; omega) | omega) _ | with_reducible refine Below.drew ?_ | with_reducible refine below_drewN ?_ _))⟩
end Go.Proofs.Ytpkacfgmojblbaa
