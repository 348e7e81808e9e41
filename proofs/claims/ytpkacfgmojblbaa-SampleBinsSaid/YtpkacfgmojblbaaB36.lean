/- Helpers: four samples that are restored from their bins, in the reference: where all can be divided. No condition but the hypotheses that each theorem names. -/
import Derived.Test.YtpkacfgmojblbaaB35
namespace Go.Proofs.Ytpkacfgmojblbaa
open Go.RowKit
attribute [local go_sem] old1 fro1 old2 fro2 old3 fro3 old4 fro4 old5 fro5 old6 fro6 old7 fro7 old8 fro8 old9 fro9 old10 fro10 old11 fro11 old12 fro12
def qd0 : List Bool := [false, false, false, false, false, false, false, false, false, false, false, false, false, false, false, false, false, false, false, true, true, true, true, true, true, true, true, true, true, false, false, false, false, false, false, false, false, false, false, false, false, false, false, false, false, false, false, false, false, false, false, false, false, false, false, false, false, false, false, false, false, false]
set_option maxRecDepth 100000 in
set_option maxHeartbeats 8000000 in
theorem restoredR_e1 (g : Nat → Int × Int) (E1 : Int) (w : World) (hE : b4E 8000 g = 0) (hall4 : ∀ j, j < 4 → rsK g j) (hE2 : b4E 2000 (rsF g) = E1) (h0 : E1 ≠ 0) :
    Calls Try.prog 76 #[.agg #[.int .i64 (g 0).1, .int .i64 (g 0).2, .int .i64 (g 1).1, .int .i64 (g 1).2, .int .i64 (g 2).1, .int .i64 (g 2).2, .int .i64 (g 3).1, .int .i64 (g 3).2]] w fun e w' => e = .returned (.tuple #[.agg #[.int .i64 0, .int .i64 0, .int .i64 0, .int .i64 0, .int .i64 0, .int .i64 0, .int .i64 0, .int .i64 0], .int .i64 E1]) ∧ Below w.heap.size w w' := by
  have HGE := Lib.hid (fun x y W => gaussErr_any x y 2000 (by omega) (by omega) W)
  have HG := Lib.hid (b4_bd (by decide) hE)
  have HPW := Lib.hid (fun m W => power_any m W)
  go_enter Try.func76, Try.ntmps76
  go_upto_region 2 with fail
  have HS : Hid (IM (((w.alloc (.cells #[.int .i64 (g 0).1, .int .i64 (g 0).2, .int .i64 (g 1).1, .int .i64 (g 1).2, .int .i64 (g 2).1, .int .i64 (g 2).2, .int .i64 (g 3).1, .int .i64 (g 3).2] 102)).alloc (.cells #[.int .i64 0, .int .i64 0, .int .i64 0, .int .i64 0, .int .i64 0, .int .i64 0, .int .i64 0, .int .i64 0] 102)).alloc (.cells #[.int .i64 0, .int .i64 0, .int .i64 0, .int .i64 0, .int .i64 0, .int .i64 0, .int .i64 0, .int .i64 0] 102)) w.heap.size 8 (flt g)) := Lib.hid (im8g _ _ _ (by first | (simp; done) | (simp; omega) | omega) (by simp [go_sem]) (by simp [go_sem]) (by simp [go_sem]) (by simp [go_sem]) (by simp [go_sem]) (by simp [go_sem]) (by simp [go_sem]) (by simp [go_sem]) (by intro i; simp [go_sem]))
  have HR : Hid (IM (((w.alloc (.cells #[.int .i64 (g 0).1, .int .i64 (g 0).2, .int .i64 (g 1).1, .int .i64 (g 1).2, .int .i64 (g 2).1, .int .i64 (g 2).2, .int .i64 (g 3).1, .int .i64 (g 3).2] 102)).alloc (.cells #[.int .i64 0, .int .i64 0, .int .i64 0, .int .i64 0, .int .i64 0, .int .i64 0, .int .i64 0, .int .i64 0] 102)).alloc (.cells #[.int .i64 0, .int .i64 0, .int .i64 0, .int .i64 0, .int .i64 0, .int .i64 0, .int .i64 0, .int .i64 0] 102)) (w.heap.size + 1) 8 (fun _ => 0)) := Lib.hid (im8 _ _ (by first | (simp; done) | (simp; omega) | omega) (by simp [go_sem]) (by simp [go_sem]) (by simp [go_sem]) (by simp [go_sem]) (by simp [go_sem]) (by simp [go_sem]) (by simp [go_sem]) (by simp [go_sem]) (by intro i; simp [go_sem]))
  have HX : Hid (IM (((w.alloc (.cells #[.int .i64 (g 0).1, .int .i64 (g 0).2, .int .i64 (g 1).1, .int .i64 (g 1).2, .int .i64 (g 2).1, .int .i64 (g 2).2, .int .i64 (g 3).1, .int .i64 (g 3).2] 102)).alloc (.cells #[.int .i64 0, .int .i64 0, .int .i64 0, .int .i64 0, .int .i64 0, .int .i64 0, .int .i64 0, .int .i64 0] 102)).alloc (.cells #[.int .i64 0, .int .i64 0, .int .i64 0, .int .i64 0, .int .i64 0, .int .i64 0, .int .i64 0, .int .i64 0] 102)) (w.heap.size + 2) 8 (fun _ => 0)) := Lib.hid (im8 _ _ (by first | (simp; done) | (simp; omega) | omega) (by simp [go_sem]) (by simp [go_sem]) (by simp [go_sem]) (by simp [go_sem]) (by simp [go_sem]) (by simp [go_sem]) (by simp [go_sem]) (by simp [go_sem]) (by intro i; simp [go_sem]))
  have BV : Hid (Below w.heap.size w (((w.alloc (.cells #[.int .i64 (g 0).1, .int .i64 (g 0).2, .int .i64 (g 1).1, .int .i64 (g 1).2, .int .i64 (g 2).1, .int .i64 (g 2).2, .int .i64 (g 3).1, .int .i64 (g 3).2] 102)).alloc (.cells #[.int .i64 0, .int .i64 0, .int .i64 0, .int .i64 0, .int .i64 0, .int .i64 0, .int .i64 0, .int .i64 0] 102)).alloc (.cells #[.int .i64 0, .int .i64 0, .int .i64 0, .int .i64 0, .int .i64 0, .int .i64 0, .int .i64 0, .int .i64 0] 102))) := Lib.hid (by (repeat (first | with_reducible exact Below.refl _ _ | with_reducible assumption | with_reducible refine Below.alloc ?_ (by first | (simp; done) | (simp; omega) | omega) _ | with_reducible refine Below.setCell ?_ (by first | (simp; done) | (simp; omega) | omega) _ | with_reducible refine Below.drew ?_ | with_reducible refine below_drewN ?_ _)))
  generalize (((w.alloc (.cells #[.int .i64 (g 0).1, .int .i64 (g 0).2, .int .i64 (g 1).1, .int .i64 (g 1).2, .int .i64 (g 2).1, .int .i64 (g 2).2, .int .i64 (g 3).1, .int .i64 (g 3).2] 102)).alloc (.cells #[.int .i64 0, .int .i64 0, .int .i64 0, .int .i64 0, .int .i64 0, .int .i64 0, .int .i64 0, .int .i64 0] 102)).alloc (.cells #[.int .i64 0, .int .i64 0, .int .i64 0, .int .i64 0, .int .i64 0, .int .i64 0, .int .i64 0, .int .i64 0] 102)) = v0 at *
  go_wp2_with fail
  go_loopw [5] (fun s5 wr => ∃ k : Nat, k ≤ 4 ∧ s5 = .int .i64 k ∧ Hid (Below w.heap.size w wr) ∧ Hid (IM wr w.heap.size 8 (flt g)) ∧ Hid (IM wr (w.heap.size + 1) 8 (fun _ => 0)) ∧ Hid (IM wr (w.heap.size + 2) 8 (upto (k * 2) (flt (rsF g))))) (fun i _ => 4 - (intOf i).toNat)
  case atStart => exact ⟨0, Nat.zero_le _, rfl, BV.out, HS.out, HR.out, HX.out.same (fun i _ => by simp [upto])⟩
  case round =>
    obtain ⟨k, hk, rfl, HB, HS, HR, HX⟩ := hrel
    by_cases h4 : k < 4
    · obtain ⟨wo, rfl⟩ : ∃ wo : World, wo = wr := ⟨_, rfl⟩
      have p2 : (k : Int) < 4 := by omega
      go_upto_region 6 with fail
      have hva : Below wo.heap.size wo (wo.alloc (.cells #[.int .i64 0, .int .i64 0] 23)) := (Below.refl _ _).alloc (Nat.le_refl _) _
      have H6 : Hid (IM (wo.alloc (.cells #[.int .i64 0, .int .i64 0] 23)) wo.heap.size 2 (pr2 0 0)) := Lib.hid ⟨by simp, fun i hi => (by rcases (by omega : i = 0 ∨ i = 1) with rfl | rfl <;> exact ⟨by simp [go_sem, pr2], by simp [go_sem]⟩)⟩
      have HV := Lib.hid hva
      clear hva
      generalize (wo.alloc (.cells #[.int .i64 0, .int .i64 0] 23)) = v1 at *
      generalize hb6 : wo.heap.size = b6 at *
      go_wp2_with fail
      go_loopw [7] (fun s7 wi => ∃ m : Nat, m ≤ 4 ∧ s7 = .int .i64 m ∧ Hid (Below b6 wo wi) ∧ Hid (IM wi b6 2 (pr2 (bnS k g m).1 (bnS k g m).2))) (fun i _ => 4 - (intOf i).toNat)
      case atStart => exact ⟨0, Nat.zero_le _, rfl, HV.out, H6.out⟩
      case round =>
        obtain ⟨m, hm, rfl, HI, H6⟩ := hrel
        have c0 := (H6.out.2 0 (by omega)).1
        have c1 := (H6.out.2 1 (by omega)).1
        have z0 := (H6.out.2 0 (by omega)).2
        have z1 := (H6.out.2 1 (by omega)).2
        replace c0 : wr.cell? ⟨b6, 0, none⟩ = some (.int .i64 (bnS k g m).1) := c0
        replace c1 : wr.cell? ⟨b6, 1, none⟩ = some (.int .i64 (bnS k g m).2) := c1
        by_cases hlt : m < 4
        · have HS5 := HS.out.on (hb6.symm ▸ HI.out)
          have x0 := (HS5.2 (m * 2) (by omega)).1
          have x1 := (HS5.2 (m * 2 + 1) (by omega)).1
          rw [flt_0] at x0
          rw [flt_1] at x1
          have hgk := HG.out m hlt
          have HMU := Lib.hid (fun W => gmulQ ((k : Int) * m) (g m) (by omega) W)
          have hsk := mbd (a := (k : Int)) (b := (m : Int)) (A := 4) (B := 4) (by omega) (by omega) (by omega) (by omega)
          have wk : IntKind.i64.wrap ((k : Int) * (m : Int)) = (k : Int) * m := IntWalk.i64_in _ (by omega)
          obtain ⟨⟨⟨t1, t2⟩, t3, t4⟩, _⟩ := rt_bd (m := (k : Int) * m) (M := 8000) hgk.1.1 hgk.1.2 hgk.2.1 hgk.2.2
          obtain ⟨⟨S1, S2⟩, S3, S4⟩ := bn_bd (s := (k : Int)) (M := 8000) (by omega) HG.out m hm
          have HSs : Hid (bnS k g (m + 1) = ((bnS k g m).1 + (rt ((k : Int) * m) (g m)).1, (bnS k g m).2 + (rt ((k : Int) * m) (g m)).2)) := rfl
          have HAD := Lib.hid (fun W => gadd_any (bnS k g m).1 (bnS k g m).2 (rt ((k : Int) * m) (g m)).1 (rt ((k : Int) * m) (g m)).2 (by omega) (by omega) (by omega) (by omega) (by show _ ≤ rtR ((k : Int) * m) (g m); omega) (by show rtR ((k : Int) * m) (g m) ≤ _; omega) (by show _ ≤ rtI ((k : Int) * m) (g m); omega) (by show rtI ((k : Int) * m) (g m) ≤ _; omega) W)
          have g1 : (0 : Int) ≤ (m : Int) := by omega
          have g2 : (m : Int) < 4 := by omega
          clear hgk hsk t1 t2 t3 t4 S1 S2 S3 S4 HS5
          generalize (g m).1 = gx at *
          generalize (g m).2 = gy at *
          generalize hX : (bnS k g m).1 = X at *
          generalize hY : (bnS k g m).2 = Y at *
          generalize hU : (rt ((k : Int) * m) (g m)).1 = U at *
          generalize hV : (rt ((k : Int) * m) (g m)).2 = Z at *
          obtain ⟨wi, rfl⟩ : ∃ wi : World, wi = wr := ⟨_, rfl⟩
          go_wp2_with fail
          refine wp_region_last [mpEq (.agg #[.int .i64 X, .int .i64 Y]), mpEq (.int .i64 m), mpEq (.pointer (some ⟨w.heap.size, m * 2, none⟩)), mpEq (.agg #[.int .i64 gx, .int .i64 gy]), mpEq (.int .i64 k), mpEq (.int .i64 m), mpEq (.int .i64 ((k : Int) * m)), mpEq (.agg #[.int .i64 (qRe ((k : Int) * m)), .int .i64 (qIm ((k : Int) * m))]), mpEq (.agg #[.int .i64 U, .int .i64 Z]), mpEq (.agg #[.int .i64 (X + U), .int .i64 (Y + Z)])] 10 qd0 (by kernel_rfl) (by kernel_rfl) (by kernel_rfl) rfl (by kernel_rfl) (
                allOps_cons (fun _ a' w' hb hs hd => rg_op fun K hK => by
              have e0 := (hs.get 6 (by kernel_rfl)).trans (show _ = .pointer (some ⟨b6, 0, none⟩) from rfl)
              have ec : ∀ v, a'.eval (.const v) = v := fun _ => rfl
              have c0 := keep hb c0
              have c1 := keep hb c1
              clear hs hd
              unfold Oper.wp
              generalize a'.eval = ρ at e0 ec ⊢
              simp [go_sem, e0, c0, c1]
              exact hK _ _ (Below.refl _ _) rfl) <|
                allOps_cons (fun _ a' w' hb hs hd => rg_op fun K hK => by
              have e0 := (hs.get 7 (by kernel_rfl)).trans (show _ = .int .i64 m from rfl)
              have ec : ∀ v, a'.eval (.const v) = v := fun _ => rfl
              clear hs hd
              unfold Oper.wp
              generalize a'.eval = ρ at e0 ec ⊢
              simp [go_sem, e0]
              exact hK _ _ (Below.refl _ _) rfl) <|
                allOps_cons (fun _ a' w' hb hs hd => rg_op fun K hK => by
              have e0 := (hs.get 1 (by kernel_rfl)).trans (show _ = .pointer (some ⟨w.heap.size, 0, none⟩) from rfl)
              have e1 := (show a'.eval (.tmp 20) = .int .i64 m from hd.get 1 20 (by kernel_rfl) (by kernel_rfl))
              have ec : ∀ v, a'.eval (.const v) = v := fun _ => rfl
              clear hs hd
              unfold Oper.wp
              generalize a'.eval = ρ at e0 e1 ec ⊢
              simp [go_sem, e0, e1, g1, g2]
              exact hK _ _ (Below.refl _ _) rfl) <|
                allOps_cons (fun _ a' w' hb hs hd => rg_op fun K hK => by
              have e0 := (show a'.eval (.tmp 21) = .pointer (some ⟨w.heap.size, m * 2, none⟩) from hd.get 2 21 (by kernel_rfl) (by kernel_rfl))
              have ec : ∀ v, a'.eval (.const v) = v := fun _ => rfl
              have c0 := keep hb x0
              have c1 := keep hb x1
              clear hs hd
              unfold Oper.wp
              generalize a'.eval = ρ at e0 ec ⊢
              simp [go_sem, e0, c0, c1]
              exact hK _ _ (Below.refl _ _) rfl) <|
                allOps_cons (fun _ a' w' hb hs hd => rg_op fun K hK => by
              have e0 := (hs.get 5 (by kernel_rfl)).trans (show _ = .int .i64 k from rfl)
              have ec : ∀ v, a'.eval (.const v) = v := fun _ => rfl
              clear hs hd
              unfold Oper.wp
              generalize a'.eval = ρ at e0 ec ⊢
              simp [go_sem, e0]
              exact hK _ _ (Below.refl _ _) rfl) <|
                allOps_cons (fun _ a' w' hb hs hd => rg_op fun K hK => by
              have e0 := (hs.get 7 (by kernel_rfl)).trans (show _ = .int .i64 m from rfl)
              have ec : ∀ v, a'.eval (.const v) = v := fun _ => rfl
              clear hs hd
              unfold Oper.wp
              generalize a'.eval = ρ at e0 ec ⊢
              simp [go_sem, e0]
              exact hK _ _ (Below.refl _ _) rfl) <|
                allOps_cons (fun _ a' w' hb hs hd => rg_op fun K hK => by
              have e0 := (show a'.eval (.tmp 23) = .int .i64 k from hd.get 4 23 (by kernel_rfl) (by kernel_rfl))
              have e1 := (show a'.eval (.tmp 24) = .int .i64 m from hd.get 5 24 (by kernel_rfl) (by kernel_rfl))
              have ec : ∀ v, a'.eval (.const v) = v := fun _ => rfl
              clear hs hd
              unfold Oper.wp
              generalize a'.eval = ρ at e0 e1 ec ⊢
              simp [go_sem, e0, e1, wk]
              exact hK _ _ (Below.refl _ _) rfl) <|
                allOps_cons (fun _ a' w' hb hs hd => by
              exact rg_fn (φ := (mpEq (.agg #[.int .i64 (qRe ((k : Int) * m)), .int .i64 (qIm ((k : Int) * m))])).p) (vs := #[.int .i64 ((k : Int) * m)]) rfl (enters_of Try.func112 (by kernel_rfl) rfl) (by simp [(show a'.eval (.tmp 25) = .int .i64 ((k : Int) * m) from hd.get 6 25 (by kernel_rfl) (by kernel_rfl))]) ((HPW.out ((k : Int) * m) w').mono (by rintro e w1 ⟨rfl, h1⟩; exact ⟨_, rfl, h1, rfl⟩))) <|
                allOps_cons (fun _ a' w' hb hs hd => by
              exact rg_fn (φ := (mpEq (.agg #[.int .i64 U, .int .i64 Z])).p) (vs := #[.agg #[.int .i64 gx, .int .i64 gy], .agg #[.int .i64 (qRe ((k : Int) * m)), .int .i64 (qIm ((k : Int) * m))]]) rfl (enters_of Try.func71 (by kernel_rfl) rfl) (by simp [(show a'.eval (.tmp 22) = .agg #[.int .i64 gx, .int .i64 gy] from hd.get 3 22 (by kernel_rfl) (by kernel_rfl)), (show a'.eval (.tmp 26) = .agg #[.int .i64 (qRe ((k : Int) * m)), .int .i64 (qIm ((k : Int) * m))] from hd.get 7 26 (by kernel_rfl) (by kernel_rfl))]) ((HMU.out w').mono (by rintro e w1 ⟨rfl, h1⟩; exact ⟨_, rfl, h1, rfl⟩))) <|
                allOps_cons (fun _ a' w' hb hs hd => by
              exact rg_fn (φ := (mpEq (.agg #[.int .i64 (X + U), .int .i64 (Y + Z)])).p) (vs := #[.agg #[.int .i64 X, .int .i64 Y], .agg #[.int .i64 U, .int .i64 Z]]) rfl (enters_of Try.func122 (by kernel_rfl) rfl) (by simp [(show a'.eval (.tmp 19) = .agg #[.int .i64 X, .int .i64 Y] from hd.get 0 19 (by kernel_rfl) (by kernel_rfl)), (show a'.eval (.tmp 27) = .agg #[.int .i64 U, .int .i64 Z] from hd.get 8 27 (by kernel_rfl) (by kernel_rfl))]) ((HAD.out w').mono (by rintro e w1 ⟨rfl, h1⟩; exact ⟨_, rfl, h1, rfl⟩))) <| allOps_cons (fun h => absurd rfl h) <| allOps_nil) (fun V v2 hv2 hall K hK => ?_)
          have h28 : V 28 = .agg #[.int .i64 (X + U), .int .i64 (Y + Z)] := hall.get 9 rfl (by decide)
          clear hall
          have H61 := Lib.hid (H6.out.on hv2)
          refine op_stG (q := b6) (o := 0) rfl rfl h28 (H61.out.2 0 (by omega)).1 (H61.out.2 1 (by omega)).1 (H61.out.2 0 (by omega)).2 (H61.out.2 1 (by omega)).2 ?_
          refine hK _ _ ?_
          simp only [qd0, maskPut, Nat.reduceAdd]
          have hbi : b6 ≤ wi.heap.size := by have := HI.out.size; omega
          have HI1 := Lib.hid (HI.out.trans (hv2.mono hbi))
          clear h28 hK hv2
          go_wp2
          go_roundw
          case rel => exact ⟨m + 1, by omega, by go_num, (HI1.out.setCell (Nat.le_refl _) _).setCell (Nat.le_refl _) _, ((H61.out.set (k := 0) (by omega) _).set (k := 1) (by omega) _).same (fun i hi => (by rw [HSs.out]; rcases (by omega : i = 0 ∨ i = 1) with rfl | rfl <;> rfl))⟩
          case measure => simp [intOf]; omega
        · obtain rfl : m = 4 := by omega
          have hBI : Below wo.heap.size wo wr := hb6.symm ▸ HI.out
          have HS2 := Lib.hid (HS.out.on hBI)
          have HR2 := Lib.hid (HR.out.on hBI)
          have HX2 := Lib.hid (HX.out.on hBI)
          have HB2 := Lib.hid (belowT HB.out hBI)
          have hbk := bn_bd (s := (k : Int)) (M := 8000) (by omega) HG.out 4 (Nat.le_refl _)
          have hd1 := tdiv_bd (bnS k g 4).1 4 (by omega) (by omega) (by omega)
          have hd2 := tdiv_bd (bnS k g 4).2 4 (by omega) (by omega) (by omega)
          have t1 := Int.tdiv_mul_add_tmod (bnS k g 4).1 4
          have t2 := Int.tdiv_mul_add_tmod (bnS k g 4).2 4
          have x1 : IntKind.i64.wrap ((bnS k g 4).1.tdiv 4) = (bnS k g 4).1.tdiv 4 := IntWalk.i64_in _ (by omega)
          have x2 : IntKind.i64.wrap ((bnS k g 4).2.tdiv 4) = (bnS k g 4).2.tdiv 4 := IntWalk.i64_in _ (by omega)
          have tb1 := tmod_plain (bnS k g 4).1 4 (by omega)
          have tb2 := tmod_plain (bnS k g 4).2 4 (by omega)
          have x3 : IntKind.i64.wrap ((bnS k g 4).1.tmod 4) = (bnS k g 4).1.tmod 4 := IntWalk.i64_in _ (by omega)
          have x4 : IntKind.i64.wrap ((bnS k g 4).2.tmod 4) = (bnS k g 4).2.tmod 4 := IntWalk.i64_in _ (by omega)
          have hF0 : Hid (flt (rsF g) (k * 2) = (bnS k g 4).1.tdiv 4 ∧ flt (rsF g) (k * 2 + 1) = (bnS k g 4).2.tdiv 4) := Lib.hid ⟨flt_0 _ k, flt_1 _ k⟩
          have c2 := (HX2.out.2 (k * 2) (by omega)).1
          have c3 := (HX2.out.2 (k * 2 + 1) (by omega)).1
          have d2 := (HX2.out.2 (k * 2) (by omega)).2
          have d3 := (HX2.out.2 (k * 2 + 1) (by omega)).2
          have p1 : (0 : Int) ≤ (k : Int) := by omega
          have hbb : w.heap.size + 2 < b6 := hb6 ▸ HX.out.1
          clear hbk hd1 hd2 t1 t2 tb1 tb2 hBI HI HS HR HX HB H6 z0 z1 HV
          have hok := hall4 k h4
          unfold rsK at hok
          have q1 : ((bnS k g 4).1.tmod 4 != 0) = false := by simpa using hok.1
          have q2 : ((bnS k g 4).2.tmod 4 != 0) = false := by simpa using hok.2
          clear hok
          generalize (bnS k g 4).1 = re at *
          generalize (bnS k g 4).2 = im at *
          generalize hX1 : re.tdiv 4 = X at *
          generalize hY1 : im.tdiv 4 = Y at *
          generalize hrm : re.tmod 4 = rm at *
          generalize hsm : im.tmod 4 = sm at *
          go_wp2
          go_roundw
          case rel =>
            refine ⟨k + 1, by omega, by go_num, (HB2.out.setCell (by show w.heap.size ≤ w.heap.size + 2; omega) _).setCell (by show w.heap.size ≤ w.heap.size + 2; omega) _, (HS2.out.far (by show w.heap.size ≠ w.heap.size + 2; omega) _).far (by show w.heap.size ≠ w.heap.size + 2; omega) _, (HR2.out.far (by show w.heap.size + 1 ≠ w.heap.size + 2; omega) _).far (by show w.heap.size + 1 ≠ w.heap.size + 2; omega) _, ((HX2.out.set (k := k * 2) (by omega) X).set (k := k * 2 + 1) (by omega) Y).same (fun i _ => ?_)⟩
            rw [← bn_step (flt (rsF g)) k i, hF0.out.1, hF0.out.2]
          case measure => simp [intOf]; omega
    · have p9 : ¬ (k : Int) < 4 := by omega
      replace HX := Lib.hid (HX.out.same (g := flt (rsF g)) fun i hi => by unfold upto; rw [if_pos (by omega)])
      obtain ⟨wo, rfl⟩ : ∃ wo : World, wo = wr := ⟨_, rfl⟩
      clear HS HG hall4 HPW
      go_wp2_with fail
      go_loopw [8, 9] (fun s8 s9 wr => ∃ i : Nat, i ≤ 4 ∧ s8 = .int .i64 i ∧ Hid (Below w.heap.size w wr) ∧ Hid (IM wr (w.heap.size + 2) 8 (flt (rsF g))) ∧ Hid (IM wr (w.heap.size + 1) 8 (fun _ => 0)) ∧ Hid (b4E 2000 (rsF g) = ferr (fun i => ptE 2000 (rsF g i)) i (4 - i))) (fun i _ _ => 4 - (intOf i).toNat)
      case atStart => exact ⟨0, Nat.zero_le _, rfl, HB.out, HX.out, HR.out, rfl⟩
      case round =>
        obtain ⟨i, hi, rfl, HB, HX, HR, H⟩ := hrel
        by_cases hlt : i < 4
        · have c0 := (HX.out.2 (i * 2) (by omega)).1
          have c1 := (HX.out.2 (i * 2 + 1) (by omega)).1
          rw [flt_0] at c0
          rw [flt_1] at c1
          have g1 : (0 : Int) ≤ (i : Int) := by omega
          have g2 : (i : Int) < 4 := by omega
          have HQ : Hid (ferr (fun i => ptE 2000 (rsF g i)) i (4 - i) = if ptE 2000 (rsF g i) = 0 then ferr (fun i => ptE 2000 (rsF g i)) (i + 1) (4 - (i + 1)) else ptE 2000 (rsF g i)) := by
            rw [show 4 - i = (4 - (i + 1)) + 1 from by omega]; rfl
          obtain ⟨E, hEe⟩ : ∃ E, ptE 2000 ((rsF g i).1, (rsF g i).2) = E := ⟨_, rfl⟩
          have HEE : Hid (ptE 2000 (rsF g i) = E) := Lib.hid hEe
          have HE2 := Lib.hid hE2
          generalize (rsF g i).1 = x at *
          generalize (rsF g i).2 = y at *
          by_cases he : E = 0
          · subst he
            go_wp2_with (go_at_call 70; (with_reducible refine Calls.mono (HGE.out _ _ _) ?_); rintro e w3 ⟨rfl, hb3⟩; rw [hEe]; have HB3 := Lib.hid (belowT HB.out hb3); have HX3 := Lib.hid (HX.out.on hb3); have HR3 := Lib.hid (HR.out.on hb3); clear hb3)
            go_roundw
            case rel => exact ⟨i + 1, by omega, by go_num, HB3.out, HX3.out, HR3.out, by show b4E 2000 (rsF g) = _; rw [H.out, HQ.out, if_pos HEE.out]⟩
            case measure => simp [intOf]; omega
          · have hq : (E != 0) = true := by simpa using he
            have hEE1 : Hid (E1 = E) := Lib.hid (by rw [← HE2.out, H.out, HQ.out, HEE.out, if_neg he])
            clear he hE2
            go_wp2_with (go_at_call 70; (with_reducible refine Calls.mono (HGE.out _ _ _) ?_); rintro e w3 ⟨rfl, hb3⟩; rw [hEe]; have HB3 := Lib.hid (belowT HB.out hb3); have HR3 := Lib.hid (HR.out.on hb3); have r0 := (HR3.out.2 0 (by omega)).1; have rz0 := (HR3.out.2 0 (by omega)).2; have r1 := (HR3.out.2 1 (by omega)).1; have rz1 := (HR3.out.2 1 (by omega)).2; have r2 := (HR3.out.2 2 (by omega)).1; have rz2 := (HR3.out.2 2 (by omega)).2; have r3 := (HR3.out.2 3 (by omega)).1; have rz3 := (HR3.out.2 3 (by omega)).2; have r4 := (HR3.out.2 4 (by omega)).1; have rz4 := (HR3.out.2 4 (by omega)).2; have r5 := (HR3.out.2 5 (by omega)).1; have rz5 := (HR3.out.2 5 (by omega)).2; have r6 := (HR3.out.2 6 (by omega)).1; have rz6 := (HR3.out.2 6 (by omega)).2; have r7 := (HR3.out.2 7 (by omega)).1; have rz7 := (HR3.out.2 7 (by omega)).2; clear hb3 HX HR HR3)
            refine bodyPost_ret (v := .tuple #[.agg #[.int .i64 0, .int .i64 0, .int .i64 0, .int .i64 0, .int .i64 0, .int .i64 0, .int .i64 0, .int .i64 0], .int .i64 E]) (by simp [results, Try.results76, go_sem, *]) rfl ⟨by rw [hEE1.out], by have Bq := HB3.out; (repeat (first | with_reducible exact Below.refl _ _ | with_reducible assumption | with_reducible refine Below.alloc ?_ (by first | (simp; done) | (simp; omega) | omega) _ | with_reducible refine Below.setCell ?_ (by first | (simp; done) | (simp; omega) | omega) _ | with_reducible refine Below.drew ?_ | with_reducible refine below_drewN ?_ _))⟩
        · exfalso
          obtain rfl : i = 4 := by omega
          exact h0 (by rw [← hE2, H.out]; rfl)
set_option maxRecDepth 100000 in
set_option maxHeartbeats 8000000 in
theorem restoredR_ok (g : Nat → Int × Int) (w : World) (hE : b4E 8000 g = 0) (hall4 : ∀ j, j < 4 → rsK g j) (hE2 : b4E 2000 (rsF g) = 0) :
    Calls Try.prog 76 #[.agg #[.int .i64 (g 0).1, .int .i64 (g 0).2, .int .i64 (g 1).1, .int .i64 (g 1).2, .int .i64 (g 2).1, .int .i64 (g 2).2, .int .i64 (g 3).1, .int .i64 (g 3).2]] w fun e w' => e = .returned (.tuple #[.agg #[.int .i64 (rsF g 0).1, .int .i64 (rsF g 0).2, .int .i64 (rsF g 1).1, .int .i64 (rsF g 1).2, .int .i64 (rsF g 2).1, .int .i64 (rsF g 2).2, .int .i64 (rsF g 3).1, .int .i64 (rsF g 3).2], .int .i64 0]) ∧ Below w.heap.size w w' := by
  have HGE := Lib.hid (fun x y W => gaussErr_any x y 2000 (by omega) (by omega) W)
  have HG := Lib.hid (b4_bd (by decide) hE)
  have HPW := Lib.hid (fun m W => power_any m W)
  go_enter Try.func76, Try.ntmps76
  go_upto_region 2 with fail
  have HS : Hid (IM (((w.alloc (.cells #[.int .i64 (g 0).1, .int .i64 (g 0).2, .int .i64 (g 1).1, .int .i64 (g 1).2, .int .i64 (g 2).1, .int .i64 (g 2).2, .int .i64 (g 3).1, .int .i64 (g 3).2] 102)).alloc (.cells #[.int .i64 0, .int .i64 0, .int .i64 0, .int .i64 0, .int .i64 0, .int .i64 0, .int .i64 0, .int .i64 0] 102)).alloc (.cells #[.int .i64 0, .int .i64 0, .int .i64 0, .int .i64 0, .int .i64 0, .int .i64 0, .int .i64 0, .int .i64 0] 102)) w.heap.size 8 (flt g)) := Lib.hid (im8g _ _ _ (by first | (simp; done) | (simp; omega) | omega) (by simp [go_sem]) (by simp [go_sem]) (by simp [go_sem]) (by simp [go_sem]) (by simp [go_sem]) (by simp [go_sem]) (by simp [go_sem]) (by simp [go_sem]) (by intro i; simp [go_sem]))
  have HR : Hid (IM (((w.alloc (.cells #[.int .i64 (g 0).1, .int .i64 (g 0).2, .int .i64 (g 1).1, .int .i64 (g 1).2, .int .i64 (g 2).1, .int .i64 (g 2).2, .int .i64 (g 3).1, .int .i64 (g 3).2] 102)).alloc (.cells #[.int .i64 0, .int .i64 0, .int .i64 0, .int .i64 0, .int .i64 0, .int .i64 0, .int .i64 0, .int .i64 0] 102)).alloc (.cells #[.int .i64 0, .int .i64 0, .int .i64 0, .int .i64 0, .int .i64 0, .int .i64 0, .int .i64 0, .int .i64 0] 102)) (w.heap.size + 1) 8 (fun _ => 0)) := Lib.hid (im8 _ _ (by first | (simp; done) | (simp; omega) | omega) (by simp [go_sem]) (by simp [go_sem]) (by simp [go_sem]) (by simp [go_sem]) (by simp [go_sem]) (by simp [go_sem]) (by simp [go_sem]) (by simp [go_sem]) (by intro i; simp [go_sem]))
  have HX : Hid (IM (((w.alloc (.cells #[.int .i64 (g 0).1, .int .i64 (g 0).2, .int .i64 (g 1).1, .int .i64 (g 1).2, .int .i64 (g 2).1, .int .i64 (g 2).2, .int .i64 (g 3).1, .int .i64 (g 3).2] 102)).alloc (.cells #[.int .i64 0, .int .i64 0, .int .i64 0, .int .i64 0, .int .i64 0, .int .i64 0, .int .i64 0, .int .i64 0] 102)).alloc (.cells #[.int .i64 0, .int .i64 0, .int .i64 0, .int .i64 0, .int .i64 0, .int .i64 0, .int .i64 0, .int .i64 0] 102)) (w.heap.size + 2) 8 (fun _ => 0)) := Lib.hid (im8 _ _ (by first | (simp; done) | (simp; omega) | omega) (by simp [go_sem]) (by simp [go_sem]) (by simp [go_sem]) (by simp [go_sem]) (by simp [go_sem]) (by simp [go_sem]) (by simp [go_sem]) (by simp [go_sem]) (by intro i; simp [go_sem]))
  have BV : Hid (Below w.heap.size w (((w.alloc (.cells #[.int .i64 (g 0).1, .int .i64 (g 0).2, .int .i64 (g 1).1, .int .i64 (g 1).2, .int .i64 (g 2).1, .int .i64 (g 2).2, .int .i64 (g 3).1, .int .i64 (g 3).2] 102)).alloc (.cells #[.int .i64 0, .int .i64 0, .int .i64 0, .int .i64 0, .int .i64 0, .int .i64 0, .int .i64 0, .int .i64 0] 102)).alloc (.cells #[.int .i64 0, .int .i64 0, .int .i64 0, .int .i64 0, .int .i64 0, .int .i64 0, .int .i64 0, .int .i64 0] 102))) := Lib.hid (by (repeat (first | with_reducible exact Below.refl _ _ | with_reducible assumption | with_reducible refine Below.alloc ?_ (by first | (simp; done) | (simp; omega) | omega) _ | with_reducible refine Below.setCell ?_ (by first | (simp; done) | (simp; omega) | omega) _ | with_reducible refine Below.drew ?_ | with_reducible refine below_drewN ?_ _)))
  generalize (((w.alloc (.cells #[.int .i64 (g 0).1, .int .i64 (g 0).2, .int .i64 (g 1).1, .int .i64 (g 1).2, .int .i64 (g 2).1, .int .i64 (g 2).2, .int .i64 (g 3).1, .int .i64 (g 3).2] 102)).alloc (.cells #[.int .i64 0, .int .i64 0, .int .i64 0, .int .i64 0, .int .i64 0, .int .i64 0, .int .i64 0, .int .i64 0] 102)).alloc (.cells #[.int .i64 0, .int .i64 0, .int .i64 0, .int .i64 0, .int .i64 0, .int .i64 0, .int .i64 0, .int .i64 0] 102)) = v0 at *
  go_wp2_with fail
  go_loopw [5] (fun s5 wr => ∃ k : Nat, k ≤ 4 ∧ s5 = .int .i64 k ∧ Hid (Below w.heap.size w wr) ∧ Hid (IM wr w.heap.size 8 (flt g)) ∧ Hid (IM wr (w.heap.size + 1) 8 (fun _ => 0)) ∧ Hid (IM wr (w.heap.size + 2) 8 (upto (k * 2) (flt (rsF g))))) (fun i _ => 4 - (intOf i).toNat)
  case atStart => exact ⟨0, Nat.zero_le _, rfl, BV.out, HS.out, HR.out, HX.out.same (fun i _ => by simp [upto])⟩
  case round =>
    obtain ⟨k, hk, rfl, HB, HS, HR, HX⟩ := hrel
    by_cases h4 : k < 4
    · obtain ⟨wo, rfl⟩ : ∃ wo : World, wo = wr := ⟨_, rfl⟩
      have p2 : (k : Int) < 4 := by omega
      go_upto_region 6 with fail
      have hva : Below wo.heap.size wo (wo.alloc (.cells #[.int .i64 0, .int .i64 0] 23)) := (Below.refl _ _).alloc (Nat.le_refl _) _
      have H6 : Hid (IM (wo.alloc (.cells #[.int .i64 0, .int .i64 0] 23)) wo.heap.size 2 (pr2 0 0)) := Lib.hid ⟨by simp, fun i hi => (by rcases (by omega : i = 0 ∨ i = 1) with rfl | rfl <;> exact ⟨by simp [go_sem, pr2], by simp [go_sem]⟩)⟩
      have HV := Lib.hid hva
      clear hva
      generalize (wo.alloc (.cells #[.int .i64 0, .int .i64 0] 23)) = v1 at *
      generalize hb6 : wo.heap.size = b6 at *
      go_wp2_with fail
      go_loopw [7] (fun s7 wi => ∃ m : Nat, m ≤ 4 ∧ s7 = .int .i64 m ∧ Hid (Below b6 wo wi) ∧ Hid (IM wi b6 2 (pr2 (bnS k g m).1 (bnS k g m).2))) (fun i _ => 4 - (intOf i).toNat)
      case atStart => exact ⟨0, Nat.zero_le _, rfl, HV.out, H6.out⟩
      case round =>
        obtain ⟨m, hm, rfl, HI, H6⟩ := hrel
        have c0 := (H6.out.2 0 (by omega)).1
        have c1 := (H6.out.2 1 (by omega)).1
        have z0 := (H6.out.2 0 (by omega)).2
        have z1 := (H6.out.2 1 (by omega)).2
        replace c0 : wr.cell? ⟨b6, 0, none⟩ = some (.int .i64 (bnS k g m).1) := c0
        replace c1 : wr.cell? ⟨b6, 1, none⟩ = some (.int .i64 (bnS k g m).2) := c1
        by_cases hlt : m < 4
        · have HS5 := HS.out.on (hb6.symm ▸ HI.out)
          have x0 := (HS5.2 (m * 2) (by omega)).1
          have x1 := (HS5.2 (m * 2 + 1) (by omega)).1
          rw [flt_0] at x0
          rw [flt_1] at x1
          have hgk := HG.out m hlt
          have HMU := Lib.hid (fun W => gmulQ ((k : Int) * m) (g m) (by omega) W)
          have hsk := mbd (a := (k : Int)) (b := (m : Int)) (A := 4) (B := 4) (by omega) (by omega) (by omega) (by omega)
          have wk : IntKind.i64.wrap ((k : Int) * (m : Int)) = (k : Int) * m := IntWalk.i64_in _ (by omega)
          obtain ⟨⟨⟨t1, t2⟩, t3, t4⟩, _⟩ := rt_bd (m := (k : Int) * m) (M := 8000) hgk.1.1 hgk.1.2 hgk.2.1 hgk.2.2
          obtain ⟨⟨S1, S2⟩, S3, S4⟩ := bn_bd (s := (k : Int)) (M := 8000) (by omega) HG.out m hm
          have HSs : Hid (bnS k g (m + 1) = ((bnS k g m).1 + (rt ((k : Int) * m) (g m)).1, (bnS k g m).2 + (rt ((k : Int) * m) (g m)).2)) := rfl
          have HAD := Lib.hid (fun W => gadd_any (bnS k g m).1 (bnS k g m).2 (rt ((k : Int) * m) (g m)).1 (rt ((k : Int) * m) (g m)).2 (by omega) (by omega) (by omega) (by omega) (by show _ ≤ rtR ((k : Int) * m) (g m); omega) (by show rtR ((k : Int) * m) (g m) ≤ _; omega) (by show _ ≤ rtI ((k : Int) * m) (g m); omega) (by show rtI ((k : Int) * m) (g m) ≤ _; omega) W)
          have g1 : (0 : Int) ≤ (m : Int) := by omega
          have g2 : (m : Int) < 4 := by omega
          clear hgk hsk t1 t2 t3 t4 S1 S2 S3 S4 HS5
          generalize (g m).1 = gx at *
          generalize (g m).2 = gy at *
          generalize hX : (bnS k g m).1 = X at *
          generalize hY : (bnS k g m).2 = Y at *
          generalize hU : (rt ((k : Int) * m) (g m)).1 = U at *
          generalize hV : (rt ((k : Int) * m) (g m)).2 = Z at *
          obtain ⟨wi, rfl⟩ : ∃ wi : World, wi = wr := ⟨_, rfl⟩
          go_wp2_with fail
          refine wp_region_last [mpEq (.agg #[.int .i64 X, .int .i64 Y]), mpEq (.int .i64 m), mpEq (.pointer (some ⟨w.heap.size, m * 2, none⟩)), mpEq (.agg #[.int .i64 gx, .int .i64 gy]), mpEq (.int .i64 k), mpEq (.int .i64 m), mpEq (.int .i64 ((k : Int) * m)), mpEq (.agg #[.int .i64 (qRe ((k : Int) * m)), .int .i64 (qIm ((k : Int) * m))]), mpEq (.agg #[.int .i64 U, .int .i64 Z]), mpEq (.agg #[.int .i64 (X + U), .int .i64 (Y + Z)])] 10 qd0 (by kernel_rfl) (by kernel_rfl) (by kernel_rfl) rfl (by kernel_rfl) (
                allOps_cons (fun _ a' w' hb hs hd => rg_op fun K hK => by
              have e0 := (hs.get 6 (by kernel_rfl)).trans (show _ = .pointer (some ⟨b6, 0, none⟩) from rfl)
              have ec : ∀ v, a'.eval (.const v) = v := fun _ => rfl
              have c0 := keep hb c0
              have c1 := keep hb c1
              clear hs hd
              unfold Oper.wp
              generalize a'.eval = ρ at e0 ec ⊢
              simp [go_sem, e0, c0, c1]
              exact hK _ _ (Below.refl _ _) rfl) <|
                allOps_cons (fun _ a' w' hb hs hd => rg_op fun K hK => by
              have e0 := (hs.get 7 (by kernel_rfl)).trans (show _ = .int .i64 m from rfl)
              have ec : ∀ v, a'.eval (.const v) = v := fun _ => rfl
              clear hs hd
              unfold Oper.wp
              generalize a'.eval = ρ at e0 ec ⊢
              simp [go_sem, e0]
              exact hK _ _ (Below.refl _ _) rfl) <|
                allOps_cons (fun _ a' w' hb hs hd => rg_op fun K hK => by
              have e0 := (hs.get 1 (by kernel_rfl)).trans (show _ = .pointer (some ⟨w.heap.size, 0, none⟩) from rfl)
              have e1 := (show a'.eval (.tmp 20) = .int .i64 m from hd.get 1 20 (by kernel_rfl) (by kernel_rfl))
              have ec : ∀ v, a'.eval (.const v) = v := fun _ => rfl
              clear hs hd
              unfold Oper.wp
              generalize a'.eval = ρ at e0 e1 ec ⊢
              simp [go_sem, e0, e1, g1, g2]
              exact hK _ _ (Below.refl _ _) rfl) <|
                allOps_cons (fun _ a' w' hb hs hd => rg_op fun K hK => by
              have e0 := (show a'.eval (.tmp 21) = .pointer (some ⟨w.heap.size, m * 2, none⟩) from hd.get 2 21 (by kernel_rfl) (by kernel_rfl))
              have ec : ∀ v, a'.eval (.const v) = v := fun _ => rfl
              have c0 := keep hb x0
              have c1 := keep hb x1
              clear hs hd
              unfold Oper.wp
              generalize a'.eval = ρ at e0 ec ⊢
              simp [go_sem, e0, c0, c1]
              exact hK _ _ (Below.refl _ _) rfl) <|
                allOps_cons (fun _ a' w' hb hs hd => rg_op fun K hK => by
              have e0 := (hs.get 5 (by kernel_rfl)).trans (show _ = .int .i64 k from rfl)
              have ec : ∀ v, a'.eval (.const v) = v := fun _ => rfl
              clear hs hd
              unfold Oper.wp
              generalize a'.eval = ρ at e0 ec ⊢
              simp [go_sem, e0]
              exact hK _ _ (Below.refl _ _) rfl) <|
                allOps_cons (fun _ a' w' hb hs hd => rg_op fun K hK => by
              have e0 := (hs.get 7 (by kernel_rfl)).trans (show _ = .int .i64 m from rfl)
              have ec : ∀ v, a'.eval (.const v) = v := fun _ => rfl
              clear hs hd
              unfold Oper.wp
              generalize a'.eval = ρ at e0 ec ⊢
              simp [go_sem, e0]
              exact hK _ _ (Below.refl _ _) rfl) <|
                allOps_cons (fun _ a' w' hb hs hd => rg_op fun K hK => by
              have e0 := (show a'.eval (.tmp 23) = .int .i64 k from hd.get 4 23 (by kernel_rfl) (by kernel_rfl))
              have e1 := (show a'.eval (.tmp 24) = .int .i64 m from hd.get 5 24 (by kernel_rfl) (by kernel_rfl))
              have ec : ∀ v, a'.eval (.const v) = v := fun _ => rfl
              clear hs hd
              unfold Oper.wp
              generalize a'.eval = ρ at e0 e1 ec ⊢
              simp [go_sem, e0, e1, wk]
              exact hK _ _ (Below.refl _ _) rfl) <|
                allOps_cons (fun _ a' w' hb hs hd => by
              exact rg_fn (φ := (mpEq (.agg #[.int .i64 (qRe ((k : Int) * m)), .int .i64 (qIm ((k : Int) * m))])).p) (vs := #[.int .i64 ((k : Int) * m)]) rfl (enters_of Try.func112 (by kernel_rfl) rfl) (by simp [(show a'.eval (.tmp 25) = .int .i64 ((k : Int) * m) from hd.get 6 25 (by kernel_rfl) (by kernel_rfl))]) ((HPW.out ((k : Int) * m) w').mono (by rintro e w1 ⟨rfl, h1⟩; exact ⟨_, rfl, h1, rfl⟩))) <|
                allOps_cons (fun _ a' w' hb hs hd => by
              exact rg_fn (φ := (mpEq (.agg #[.int .i64 U, .int .i64 Z])).p) (vs := #[.agg #[.int .i64 gx, .int .i64 gy], .agg #[.int .i64 (qRe ((k : Int) * m)), .int .i64 (qIm ((k : Int) * m))]]) rfl (enters_of Try.func71 (by kernel_rfl) rfl) (by simp [(show a'.eval (.tmp 22) = .agg #[.int .i64 gx, .int .i64 gy] from hd.get 3 22 (by kernel_rfl) (by kernel_rfl)), (show a'.eval (.tmp 26) = .agg #[.int .i64 (qRe ((k : Int) * m)), .int .i64 (qIm ((k : Int) * m))] from hd.get 7 26 (by kernel_rfl) (by kernel_rfl))]) ((HMU.out w').mono (by rintro e w1 ⟨rfl, h1⟩; exact ⟨_, rfl, h1, rfl⟩))) <|
                allOps_cons (fun _ a' w' hb hs hd => by
              exact rg_fn (φ := (mpEq (.agg #[.int .i64 (X + U), .int .i64 (Y + Z)])).p) (vs := #[.agg #[.int .i64 X, .int .i64 Y], .agg #[.int .i64 U, .int .i64 Z]]) rfl (enters_of Try.func122 (by kernel_rfl) rfl) (by simp [(show a'.eval (.tmp 19) = .agg #[.int .i64 X, .int .i64 Y] from hd.get 0 19 (by kernel_rfl) (by kernel_rfl)), (show a'.eval (.tmp 27) = .agg #[.int .i64 U, .int .i64 Z] from hd.get 8 27 (by kernel_rfl) (by kernel_rfl))]) ((HAD.out w').mono (by rintro e w1 ⟨rfl, h1⟩; exact ⟨_, rfl, h1, rfl⟩))) <| allOps_cons (fun h => absurd rfl h) <| allOps_nil) (fun V v2 hv2 hall K hK => ?_)
          have h28 : V 28 = .agg #[.int .i64 (X + U), .int .i64 (Y + Z)] := hall.get 9 rfl (by decide)
          clear hall
          have H61 := Lib.hid (H6.out.on hv2)
          refine op_stG (q := b6) (o := 0) rfl rfl h28 (H61.out.2 0 (by omega)).1 (H61.out.2 1 (by omega)).1 (H61.out.2 0 (by omega)).2 (H61.out.2 1 (by omega)).2 ?_
          refine hK _ _ ?_
          simp only [qd0, maskPut, Nat.reduceAdd]
          have hbi : b6 ≤ wi.heap.size := by have := HI.out.size; omega
          have HI1 := Lib.hid (HI.out.trans (hv2.mono hbi))
          clear h28 hK hv2
          go_wp2
          go_roundw
          case rel => exact ⟨m + 1, by omega, by go_num, (HI1.out.setCell (Nat.le_refl _) _).setCell (Nat.le_refl _) _, ((H61.out.set (k := 0) (by omega) _).set (k := 1) (by omega) _).same (fun i hi => (by rw [HSs.out]; rcases (by omega : i = 0 ∨ i = 1) with rfl | rfl <;> rfl))⟩
          case measure => simp [intOf]; omega
        · obtain rfl : m = 4 := by omega
          have hBI : Below wo.heap.size wo wr := hb6.symm ▸ HI.out
          have HS2 := Lib.hid (HS.out.on hBI)
          have HR2 := Lib.hid (HR.out.on hBI)
          have HX2 := Lib.hid (HX.out.on hBI)
          have HB2 := Lib.hid (belowT HB.out hBI)
          have hbk := bn_bd (s := (k : Int)) (M := 8000) (by omega) HG.out 4 (Nat.le_refl _)
          have hd1 := tdiv_bd (bnS k g 4).1 4 (by omega) (by omega) (by omega)
          have hd2 := tdiv_bd (bnS k g 4).2 4 (by omega) (by omega) (by omega)
          have t1 := Int.tdiv_mul_add_tmod (bnS k g 4).1 4
          have t2 := Int.tdiv_mul_add_tmod (bnS k g 4).2 4
          have x1 : IntKind.i64.wrap ((bnS k g 4).1.tdiv 4) = (bnS k g 4).1.tdiv 4 := IntWalk.i64_in _ (by omega)
          have x2 : IntKind.i64.wrap ((bnS k g 4).2.tdiv 4) = (bnS k g 4).2.tdiv 4 := IntWalk.i64_in _ (by omega)
          have tb1 := tmod_plain (bnS k g 4).1 4 (by omega)
          have tb2 := tmod_plain (bnS k g 4).2 4 (by omega)
          have x3 : IntKind.i64.wrap ((bnS k g 4).1.tmod 4) = (bnS k g 4).1.tmod 4 := IntWalk.i64_in _ (by omega)
          have x4 : IntKind.i64.wrap ((bnS k g 4).2.tmod 4) = (bnS k g 4).2.tmod 4 := IntWalk.i64_in _ (by omega)
          have hF0 : Hid (flt (rsF g) (k * 2) = (bnS k g 4).1.tdiv 4 ∧ flt (rsF g) (k * 2 + 1) = (bnS k g 4).2.tdiv 4) := Lib.hid ⟨flt_0 _ k, flt_1 _ k⟩
          have c2 := (HX2.out.2 (k * 2) (by omega)).1
          have c3 := (HX2.out.2 (k * 2 + 1) (by omega)).1
          have d2 := (HX2.out.2 (k * 2) (by omega)).2
          have d3 := (HX2.out.2 (k * 2 + 1) (by omega)).2
          have p1 : (0 : Int) ≤ (k : Int) := by omega
          have hbb : w.heap.size + 2 < b6 := hb6 ▸ HX.out.1
          clear hbk hd1 hd2 t1 t2 tb1 tb2 hBI HI HS HR HX HB H6 z0 z1 HV
          have hok := hall4 k h4
          unfold rsK at hok
          have q1 : ((bnS k g 4).1.tmod 4 != 0) = false := by simpa using hok.1
          have q2 : ((bnS k g 4).2.tmod 4 != 0) = false := by simpa using hok.2
          clear hok
          generalize (bnS k g 4).1 = re at *
          generalize (bnS k g 4).2 = im at *
          generalize hX1 : re.tdiv 4 = X at *
          generalize hY1 : im.tdiv 4 = Y at *
          generalize hrm : re.tmod 4 = rm at *
          generalize hsm : im.tmod 4 = sm at *
          go_wp2
          go_roundw
          case rel =>
            refine ⟨k + 1, by omega, by go_num, (HB2.out.setCell (by show w.heap.size ≤ w.heap.size + 2; omega) _).setCell (by show w.heap.size ≤ w.heap.size + 2; omega) _, (HS2.out.far (by show w.heap.size ≠ w.heap.size + 2; omega) _).far (by show w.heap.size ≠ w.heap.size + 2; omega) _, (HR2.out.far (by show w.heap.size + 1 ≠ w.heap.size + 2; omega) _).far (by show w.heap.size + 1 ≠ w.heap.size + 2; omega) _, ((HX2.out.set (k := k * 2) (by omega) X).set (k := k * 2 + 1) (by omega) Y).same (fun i _ => ?_)⟩
            rw [← bn_step (flt (rsF g)) k i, hF0.out.1, hF0.out.2]
          case measure => simp [intOf]; omega
    · have p9 : ¬ (k : Int) < 4 := by omega
      replace HX := Lib.hid (HX.out.same (g := flt (rsF g)) fun i hi => by unfold upto; rw [if_pos (by omega)])
      obtain ⟨wo, rfl⟩ : ∃ wo : World, wo = wr := ⟨_, rfl⟩
      clear HS HG hall4 HPW
      go_wp2_with fail
      go_loopw [8, 9] (fun s8 s9 wr => ∃ i : Nat, i ≤ 4 ∧ s8 = .int .i64 i ∧ Hid (Below w.heap.size w wr) ∧ Hid (IM wr (w.heap.size + 2) 8 (flt (rsF g))) ∧ Hid (IM wr (w.heap.size + 1) 8 (fun _ => 0)) ∧ Hid (b4E 2000 (rsF g) = ferr (fun i => ptE 2000 (rsF g i)) i (4 - i))) (fun i _ _ => 4 - (intOf i).toNat)
      case atStart => exact ⟨0, Nat.zero_le _, rfl, HB.out, HX.out, HR.out, rfl⟩
      case round =>
        obtain ⟨i, hi, rfl, HB, HX, HR, H⟩ := hrel
        by_cases hlt : i < 4
        · have c0 := (HX.out.2 (i * 2) (by omega)).1
          have c1 := (HX.out.2 (i * 2 + 1) (by omega)).1
          rw [flt_0] at c0
          rw [flt_1] at c1
          have g1 : (0 : Int) ≤ (i : Int) := by omega
          have g2 : (i : Int) < 4 := by omega
          have HQ : Hid (ferr (fun i => ptE 2000 (rsF g i)) i (4 - i) = if ptE 2000 (rsF g i) = 0 then ferr (fun i => ptE 2000 (rsF g i)) (i + 1) (4 - (i + 1)) else ptE 2000 (rsF g i)) := by
            rw [show 4 - i = (4 - (i + 1)) + 1 from by omega]; rfl
          obtain ⟨E, hEe⟩ : ∃ E, ptE 2000 ((rsF g i).1, (rsF g i).2) = E := ⟨_, rfl⟩
          have HEE : Hid (ptE 2000 (rsF g i) = E) := Lib.hid hEe
          have HE2 := Lib.hid hE2
          generalize (rsF g i).1 = x at *
          generalize (rsF g i).2 = y at *
          by_cases he : E = 0
          · subst he
            go_wp2_with (go_at_call 70; (with_reducible refine Calls.mono (HGE.out _ _ _) ?_); rintro e w3 ⟨rfl, hb3⟩; rw [hEe]; have HB3 := Lib.hid (belowT HB.out hb3); have HX3 := Lib.hid (HX.out.on hb3); have HR3 := Lib.hid (HR.out.on hb3); clear hb3)
            go_roundw
            case rel => exact ⟨i + 1, by omega, by go_num, HB3.out, HX3.out, HR3.out, by show b4E 2000 (rsF g) = _; rw [H.out, HQ.out, if_pos HEE.out]⟩
            case measure => simp [intOf]; omega
          · have hq : (E != 0) = true := by simpa using he
            exact absurd (show E = 0 by rw [← HEE.out, ← (show b4E 2000 (rsF g) = ptE 2000 (rsF g i) by rw [H.out, HQ.out, HEE.out, if_neg he]), HE2.out]) he
        · obtain rfl : i = 4 := by omega
          have r0 := (HR.out.2 0 (by omega)).1; have rz0 := (HR.out.2 0 (by omega)).2; have r1 := (HR.out.2 1 (by omega)).1; have rz1 := (HR.out.2 1 (by omega)).2; have r2 := (HR.out.2 2 (by omega)).1; have rz2 := (HR.out.2 2 (by omega)).2; have r3 := (HR.out.2 3 (by omega)).1; have rz3 := (HR.out.2 3 (by omega)).2; have r4 := (HR.out.2 4 (by omega)).1; have rz4 := (HR.out.2 4 (by omega)).2; have r5 := (HR.out.2 5 (by omega)).1; have rz5 := (HR.out.2 5 (by omega)).2; have r6 := (HR.out.2 6 (by omega)).1; have rz6 := (HR.out.2 6 (by omega)).2; have r7 := (HR.out.2 7 (by omega)).1; have rz7 := (HR.out.2 7 (by omega)).2
          have x0 := (HX.out.2 0 (by omega)).1; have x1 := (HX.out.2 1 (by omega)).1; have x2 := (HX.out.2 2 (by omega)).1; have x3 := (HX.out.2 3 (by omega)).1; have x4 := (HX.out.2 4 (by omega)).1; have x5 := (HX.out.2 5 (by omega)).1; have x6 := (HX.out.2 6 (by omega)).1; have x7 := (HX.out.2 7 (by omega)).1
          rw [show flt (rsF g) 0 = (rsF g 0).1 from rfl] at x0; rw [show flt (rsF g) 1 = (rsF g 0).2 from rfl] at x1; rw [show flt (rsF g) 2 = (rsF g 1).1 from rfl] at x2; rw [show flt (rsF g) 3 = (rsF g 1).2 from rfl] at x3; rw [show flt (rsF g) 4 = (rsF g 2).1 from rfl] at x4; rw [show flt (rsF g) 5 = (rsF g 2).2 from rfl] at x5; rw [show flt (rsF g) 6 = (rsF g 3).1 from rfl] at x6; rw [show flt (rsF g) 7 = (rsF g 3).2 from rfl] at x7
          clear H hE2
          generalize hv0 : (rsF g 0).1 = q0 at *; generalize hv1 : (rsF g 0).2 = q1 at *; generalize hv2 : (rsF g 1).1 = q2 at *; generalize hv3 : (rsF g 1).2 = q3 at *; generalize hv4 : (rsF g 2).1 = q4 at *; generalize hv5 : (rsF g 2).2 = q5 at *; generalize hv6 : (rsF g 3).1 = q6 at *; generalize hv7 : (rsF g 3).2 = q7 at *
          clear HX HR
          go_wp2
          refine bodyPost_ret (v := .tuple #[.agg #[.int .i64 q0, .int .i64 q1, .int .i64 q2, .int .i64 q3, .int .i64 q4, .int .i64 q5, .int .i64 q6, .int .i64 q7], .int .i64 0]) (by simp [results, Try.results76, go_sem, *]) rfl ⟨rfl, by have Bq := HB.out; (repeat (first | with_reducible exact Below.refl _ _ | with_reducible assumption | with_reducible refine Below.alloc ?_ (by first | (simp; done) | (simp; omega) | omega) _ | with_reducible refine Below.setCell ?_ (by first | (simp; done) | (simp; omega) | omega) _ | with_reducible refine Below.drew ?_ | with_reducible refine below_drewN ?_ _))⟩
end Go.Proofs.Ytpkacfgmojblbaa
