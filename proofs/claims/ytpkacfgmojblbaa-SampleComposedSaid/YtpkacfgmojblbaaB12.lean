/- Helpers: the program that begins later. No condition but the hypotheses that each theorem names. -/
import Derived.Test.YtpkacfgmojblbaaB11
import Derived.Test.YtpkacfgmojblbaaB00
namespace Go.Proofs.Ytpkacfgmojblbaa
open Go.RowKit
attribute [local go_sem] old1 fro1 old2 fro2 old3 fro3 old4 fro4 old5 fro5 old6 fro6 old7 fro7 old8 fro8 old9 fro9 old10 fro10 old11 fro11 old12 fro12
def mz0 : List Bool := [false, false, false, false, false, true, false, false, false, false, false, false, false, false, false, false, false, true, true, true, true, true, true, true, true, true, true, true, true, true, true]
set_option maxRecDepth 100000 in
set_option maxHeartbeats 2000000 in
theorem advancedS_any (ph inc ch n : Int) (w : World) :
    Calls Try.prog 39 #[.agg #[.int .i64 ph, .int .i64 inc, .int .i64 ch], .int .i64 n] w fun e w' => e = .returned (.tuple #[if ixE ph inc ch n = 0 then .agg #[.int .i64 (phs ph inc ch n), .int .i64 (adv inc ch n), .int .i64 ch] else .agg #[.int .i64 0, .int .i64 0, .int .i64 0], .int .i64 (ixE ph inc ch n)]) ∧ Below w.heap.size w w' := by
  have HPC := Lib.hid (fun W => programCheck_chk ph inc ch W)
  have HRG := Lib.hid (fun W => indexCheck_chk n W)
  obtain ⟨E, hE⟩ : ∃ E, fs2 (prgE ph inc ch) (rgE n 0 1000000) = E := ⟨_, rfl⟩
  have hm : ixE ph inc ch n = E := hE
  rw [hm]
  by_cases h0 : E = 0
  · rw [if_pos h0]
    subst h0
    obtain ⟨q1, q2⟩ := fs2_0 hE
    obtain ⟨n0, n1⟩ := rg_0 q2
    have HP := Lib.hid (fun W => phaseAt_any ph inc ch n (prg_0 q1) n0 n1 W)
    obtain ⟨k0, k1⟩ := adv_facts (prg_0 q1).2.1 (prg_0 q1).2.2 n0 n1
    have hi := (prg_0 q1).2.1
    have HM := Lib.hid (fun W => modulo_any (inc + n * ch) 4096 (by omega) (by omega) (by omega) (by omega) W)
    have m1 : IntKind.i64.wrap (n * ch) = n * ch := IntWalk.i64_in _ (by omega)
    have m2 : IntKind.i64.wrap (inc + n * ch) = inc + n * ch := IntWalk.i64_in _ (by omega)
    have hy : adv inc ch n = (inc + n * ch) % 4096 := rfl
    rw [← hy] at HM
    clear q1 q2 n0 n1 hm k0 k1 hy hi
    generalize phs ph inc ch n = x at *
    generalize adv inc ch n = y at *
    go_enter Try.func39, Try.ntmps39
    go_upto_region 4 with (first
      | (go_at_call 99; (with_reducible refine Calls.mono (HPC.out _) ?_); rintro e y1 ⟨v0, rfl, hb1, g0, f0, rfl, hg0, hh0⟩; have BV := Lib.hid (belowT (show Below w.heap.size w _ by (repeat (first | with_reducible exact Below.refl _ _ | with_reducible assumption | with_reducible refine Below.alloc ?_ (by first | (simp; done) | (simp; omega) | omega) _ | with_reducible refine Below.setCell ?_ (by first | (simp; done) | (simp; omega) | omega) _ | with_reducible refine Below.drew ?_ | with_reducible refine below_drewN ?_ _))) hb1); have l0 := keep hb1 (b := w.heap.size) (o := 0) (v := .int .i64 ph) (by simp [go_sem]); have l1 := keep hb1 (b := w.heap.size) (o := 1) (v := .int .i64 inc) (by simp [go_sem]); have l2 := keep hb1 (b := w.heap.size) (o := 2) (v := .int .i64 ch) (by simp [go_sem]); have r0 := keep hb1 (b := w.heap.size + 1) (o := 0) (v := .int .i64 0) (by simp [go_sem]); have r1 := keep hb1 (b := w.heap.size + 1) (o := 1) (v := .int .i64 0) (by simp [go_sem]); have r2 := keep hb1 (b := w.heap.size + 1) (o := 2) (v := .int .i64 0) (by simp [go_sem]); have z0 : y1.frozen? ⟨w.heap.size + 1, 0, none⟩ = false := (hb1.frozen (p := ⟨w.heap.size + 1, 0, none⟩) (by simp)).trans (by simp [go_sem]); have z1 : y1.frozen? ⟨w.heap.size + 1, 1, none⟩ = false := (hb1.frozen (p := ⟨w.heap.size + 1, 1, none⟩) (by simp)).trans (by simp [go_sem]); have z2 : y1.frozen? ⟨w.heap.size + 1, 2, none⟩ = false := (hb1.frozen (p := ⟨w.heap.size + 1, 2, none⟩) (by simp)).trans (by simp [go_sem]); have K0 := Lib.hid (show Chk True _ (.func (.func g0) #[] f0) y1 from ⟨g0, f0, rfl, hg0, hh0⟩); clear hg0 hh0; clear hb1)
      | (go_at_call 100; (with_reducible refine Calls.mono (HRG.out _) ?_); rintro e y2 ⟨v1, rfl, hb2, g1, f1, rfl, hg1, hh1⟩; replace z0 := (hb2.frozen (p := ⟨w.heap.size + 1, 0, none⟩) (by have := lt_of r0; first | omega | (simp; omega))).trans z0; replace z1 := (hb2.frozen (p := ⟨w.heap.size + 1, 1, none⟩) (by have := lt_of r1; first | omega | (simp; omega))).trans z1; replace z2 := (hb2.frozen (p := ⟨w.heap.size + 1, 2, none⟩) (by have := lt_of r2; first | omega | (simp; omega))).trans z2; replace l0 := keep hb2 l0; replace l1 := keep hb2 l1; replace l2 := keep hb2 l2; replace r0 := keep hb2 r0; replace r1 := keep hb2 r1; replace r2 := keep hb2 r2; replace BV := Lib.hid (belowT (show Below w.heap.size w _ by have Bq := BV.out; (repeat (first | with_reducible exact Below.refl _ _ | with_reducible assumption | with_reducible refine Below.alloc ?_ (by first | (simp; done) | (simp; omega) | omega) _ | with_reducible refine Below.setCell ?_ (by first | (simp; done) | (simp; omega) | omega) _ | with_reducible refine Below.drew ?_ | with_reducible refine below_drewN ?_ _))) hb2); have K1 := Lib.hid (show Chk True _ (.func (.func g1) #[] f1) y2 from ⟨g1, f1, rfl, hg1, hh1⟩); replace K0 := Lib.hid (K0.out.on hb2); clear hg1 hh1; clear hb2)
      | (go_at_call 87; (with_reducible refine Calls.mono (hE ▸ first_2 _ K0.out K1.out trivial (fun _ => trivial)) ?_); rintro e y3 ⟨rfl, hb3⟩; replace z0 := (hb3.frozen (p := ⟨w.heap.size + 1, 0, none⟩) (by have := lt_of r0; first | omega | (simp; omega))).trans z0; replace z1 := (hb3.frozen (p := ⟨w.heap.size + 1, 1, none⟩) (by have := lt_of r1; first | omega | (simp; omega))).trans z1; replace z2 := (hb3.frozen (p := ⟨w.heap.size + 1, 2, none⟩) (by have := lt_of r2; first | omega | (simp; omega))).trans z2; replace l0 := keep hb3 l0; replace l1 := keep hb3 l1; replace l2 := keep hb3 l2; replace r0 := keep hb3 r0; replace r1 := keep hb3 r1; replace r2 := keep hb3 r2; replace BV := Lib.hid (belowT (show Below w.heap.size w _ by have Bq := BV.out; (repeat (first | with_reducible exact Below.refl _ _ | with_reducible assumption | with_reducible refine Below.alloc ?_ (by first | (simp; done) | (simp; omega) | omega) _ | with_reducible refine Below.setCell ?_ (by first | (simp; done) | (simp; omega) | omega) _ | with_reducible refine Below.drew ?_ | with_reducible refine below_drewN ?_ _))) hb3); clear hb3))
    clear K0 K1 HPC HRG
    refine wp_region_two [mpEq (.agg #[.int .i64 ph, .int .i64 inc, .int .i64 ch]), mpEq (.int .i64 n), mpEq (.int .i64 x), mpEq (.pointer (some ⟨w.heap.size, 1, none⟩)), mpEq (.int .i64 inc), mpEq (.int .i64 n), mpEq (.pointer (some ⟨w.heap.size, 2, none⟩)), mpEq (.int .i64 ch), mpEq (.int .i64 (n * ch)), mpEq (.int .i64 (inc + n * ch)), mpEq (.int .i64 y), mpEq (.pointer (some ⟨w.heap.size, 2, none⟩)), mpEq (.int .i64 ch), mpEq (.agg #[.int .i64 x, .int .i64 y, .int .i64 ch])] 14 15 mz0 (by kernel_rfl) (by kernel_rfl) (by kernel_rfl) rfl rfl rfl (by kernel_rfl) (by kernel_rfl) (
          allOps_cons (fun _ _ a' w' hb hs hd => rg_op fun K hK => by
        have e0 := (hs.get 2 (by kernel_rfl)).trans (show _ = .pointer (some ⟨w.heap.size, 0, none⟩) from rfl)
        have ec : ∀ v, a'.eval (.const v) = v := fun _ => rfl
        have c0 := keep hb l0
        have c1 := keep hb l1
        have c2 := keep hb l2
        clear hs hd
        unfold Oper.wp
        generalize a'.eval = ρ at e0 ec ⊢
        simp [go_sem, e0, c0, c1, c2]
        exact hK _ _ (Below.refl _ _) rfl) <|
          allOps_cons (fun _ _ a' w' hb hs hd => rg_op fun K hK => by
        have e0 := (hs.get 1 (by kernel_rfl)).trans (show _ = .int .i64 n from rfl)
        have ec : ∀ v, a'.eval (.const v) = v := fun _ => rfl
        clear hs hd
        unfold Oper.wp
        generalize a'.eval = ρ at e0 ec ⊢
        simp [go_sem, e0]
        exact hK _ _ (Below.refl _ _) rfl) <|
          allOps_cons (fun _ _ a' w' hb hs hd => by
        exact rg_fn (φ := (mpEq (.int .i64 x)).p) (vs := #[.agg #[.int .i64 ph, .int .i64 inc, .int .i64 ch], .int .i64 n]) rfl (enters_of Try.func101 (by kernel_rfl) rfl) (by simp [(show a'.eval (.tmp 17) = .agg #[.int .i64 ph, .int .i64 inc, .int .i64 ch] from hd.get 0 17 (by kernel_rfl) (by kernel_rfl)), (show a'.eval (.tmp 18) = .int .i64 n from hd.get 1 18 (by kernel_rfl) (by kernel_rfl))]) ((HP.out w').mono (by rintro e w1 ⟨rfl, h1⟩; exact ⟨_, rfl, h1, rfl⟩))) <|
          allOps_cons (fun _ _ a' w' hb hs hd => rg_op fun K hK => by
        have e0 := (hs.get 2 (by kernel_rfl)).trans (show _ = .pointer (some ⟨w.heap.size, 0, none⟩) from rfl)
        have ec : ∀ v, a'.eval (.const v) = v := fun _ => rfl
        clear hs hd
        unfold Oper.wp
        generalize a'.eval = ρ at e0 ec ⊢
        simp [go_sem, e0]
        exact hK _ _ (Below.refl _ _) rfl) <|
          allOps_cons (fun _ _ a' w' hb hs hd => rg_op fun K hK => by
        have e0 := (show a'.eval (.tmp 20) = .pointer (some ⟨w.heap.size, 1, none⟩) from hd.get 3 20 (by kernel_rfl) (by kernel_rfl))
        have ec : ∀ v, a'.eval (.const v) = v := fun _ => rfl
        have c0 := keep hb l1
        clear hs hd
        unfold Oper.wp
        generalize a'.eval = ρ at e0 ec ⊢
        simp [go_sem, e0, c0]
        exact hK _ _ (Below.refl _ _) rfl) <|
          allOps_cons (fun _ _ a' w' hb hs hd => rg_op fun K hK => by
        have e0 := (hs.get 1 (by kernel_rfl)).trans (show _ = .int .i64 n from rfl)
        have ec : ∀ v, a'.eval (.const v) = v := fun _ => rfl
        clear hs hd
        unfold Oper.wp
        generalize a'.eval = ρ at e0 ec ⊢
        simp [go_sem, e0]
        exact hK _ _ (Below.refl _ _) rfl) <|
          allOps_cons (fun _ _ a' w' hb hs hd => rg_op fun K hK => by
        have e0 := (hs.get 2 (by kernel_rfl)).trans (show _ = .pointer (some ⟨w.heap.size, 0, none⟩) from rfl)
        have ec : ∀ v, a'.eval (.const v) = v := fun _ => rfl
        clear hs hd
        unfold Oper.wp
        generalize a'.eval = ρ at e0 ec ⊢
        simp [go_sem, e0]
        exact hK _ _ (Below.refl _ _) rfl) <|
          allOps_cons (fun _ _ a' w' hb hs hd => rg_op fun K hK => by
        have e0 := (show a'.eval (.tmp 23) = .pointer (some ⟨w.heap.size, 2, none⟩) from hd.get 6 23 (by kernel_rfl) (by kernel_rfl))
        have ec : ∀ v, a'.eval (.const v) = v := fun _ => rfl
        have c0 := keep hb l2
        clear hs hd
        unfold Oper.wp
        generalize a'.eval = ρ at e0 ec ⊢
        simp [go_sem, e0, c0]
        exact hK _ _ (Below.refl _ _) rfl) <|
          allOps_cons (fun _ _ a' w' hb hs hd => rg_op fun K hK => by
        have e0 := (show a'.eval (.tmp 22) = .int .i64 n from hd.get 5 22 (by kernel_rfl) (by kernel_rfl))
        have e1 := (show a'.eval (.tmp 24) = .int .i64 ch from hd.get 7 24 (by kernel_rfl) (by kernel_rfl))
        have ec : ∀ v, a'.eval (.const v) = v := fun _ => rfl
        clear hs hd
        unfold Oper.wp
        generalize a'.eval = ρ at e0 e1 ec ⊢
        simp [go_sem, e0, e1, m1]
        exact hK _ _ (Below.refl _ _) rfl) <|
          allOps_cons (fun _ _ a' w' hb hs hd => rg_op fun K hK => by
        have e0 := (show a'.eval (.tmp 21) = .int .i64 inc from hd.get 4 21 (by kernel_rfl) (by kernel_rfl))
        have e1 := (show a'.eval (.tmp 25) = .int .i64 (n * ch) from hd.get 8 25 (by kernel_rfl) (by kernel_rfl))
        have ec : ∀ v, a'.eval (.const v) = v := fun _ => rfl
        clear hs hd
        unfold Oper.wp
        generalize a'.eval = ρ at e0 e1 ec ⊢
        simp [go_sem, e0, e1, m2]
        exact hK _ _ (Below.refl _ _) rfl) <|
          allOps_cons (fun _ _ a' w' hb hs hd => by
        exact rg_fn (φ := (mpEq (.int .i64 y)).p) (vs := #[.int .i64 (inc + n * ch), .int .i64 4096]) rfl (enters_of Try.func102 (by kernel_rfl) rfl) (by simp [(show a'.eval (.tmp 26) = .int .i64 (inc + n * ch) from hd.get 9 26 (by kernel_rfl) (by kernel_rfl)), (show a'.eval (.const (.int .i64 4096)) = .int .i64 4096 from rfl)]) ((HM.out w').mono (by rintro e w1 ⟨rfl, rfl⟩; exact ⟨_, rfl, Below.refl _ _, rfl⟩))) <|
          allOps_cons (fun _ _ a' w' hb hs hd => rg_op fun K hK => by
        have e0 := (hs.get 2 (by kernel_rfl)).trans (show _ = .pointer (some ⟨w.heap.size, 0, none⟩) from rfl)
        have ec : ∀ v, a'.eval (.const v) = v := fun _ => rfl
        clear hs hd
        unfold Oper.wp
        generalize a'.eval = ρ at e0 ec ⊢
        simp [go_sem, e0]
        exact hK _ _ (Below.refl _ _) rfl) <|
          allOps_cons (fun _ _ a' w' hb hs hd => rg_op fun K hK => by
        have e0 := (show a'.eval (.tmp 28) = .pointer (some ⟨w.heap.size, 2, none⟩) from hd.get 11 28 (by kernel_rfl) (by kernel_rfl))
        have ec : ∀ v, a'.eval (.const v) = v := fun _ => rfl
        have c0 := keep hb l2
        clear hs hd
        unfold Oper.wp
        generalize a'.eval = ρ at e0 ec ⊢
        simp [go_sem, e0, c0]
        exact hK _ _ (Below.refl _ _) rfl) <|
          allOps_cons (fun _ _ a' w' hb hs hd => rg_op fun K hK => by
        have e0 := (show a'.eval (.tmp 19) = .int .i64 x from hd.get 2 19 (by kernel_rfl) (by kernel_rfl))
        have e1 := (show a'.eval (.tmp 27) = .int .i64 y from hd.get 10 27 (by kernel_rfl) (by kernel_rfl))
        have e2 := (show a'.eval (.tmp 29) = .int .i64 ch from hd.get 12 29 (by kernel_rfl) (by kernel_rfl))
        have ec : ∀ v, a'.eval (.const v) = v := fun _ => rfl
        clear hs hd
        unfold Oper.wp
        generalize a'.eval = ρ at e0 e1 e2 ec ⊢
        simp [go_sem, e0, e1, e2]
        exact hK _ _ (Below.refl _ _) rfl) <| allOps_cons (fun h => absurd rfl h) <| allOps_cons (fun _ h => absurd rfl h) <| allOps_nil) (fun V w2 hb2 hall K hK => ?_)
    have h30 : V 30 = .agg #[.int .i64 x, .int .i64 y, .int .i64 ch] := hall.get 13 rfl (by decide) (by decide)
    clear hall
    refine op_st3 (q := w.heap.size + 1) rfl rfl h30 (keep hb2 r0) (keep hb2 r1) (keep hb2 r2) ((hb2.frozen (p := ⟨w.heap.size + 1, 0, none⟩) (lt_of r0)).trans z0) ((hb2.frozen (p := ⟨w.heap.size + 1, 1, none⟩) (lt_of r1)).trans z1) ((hb2.frozen (p := ⟨w.heap.size + 1, 2, none⟩) (lt_of r2)).trans z2) ?_
    refine hK _ _ ?_
    simp only [mz0, maskPut, Nat.reduceAdd]
    have c0 := keep hb2 r0
    have c1 := keep hb2 r1
    have c2 := keep hb2 r2
    have HB := Lib.hid (belowT BV.out hb2)
    clear h30 hK hb2 BV
    go_wp2_with fail
    refine bodyPost_ret (v := .tuple #[.agg #[.int .i64 x, .int .i64 y, .int .i64 ch], .int .i64 0]) (by simp [results, Try.results39, go_sem, *]) rfl ⟨rfl, by have Bq := HB.out; (repeat (first | with_reducible exact Below.refl _ _ | with_reducible assumption | with_reducible refine Below.alloc ?_ (by first | (simp; done) | (simp; omega) | omega) _ | with_reducible refine Below.setCell ?_ (by first | (simp; done) | (simp; omega) | omega) _ | with_reducible refine Below.drew ?_ | with_reducible refine below_drewN ?_ _))⟩
  · rw [if_neg h0]
    have hq : (E != 0) = true := by simpa using h0
    clear h0 hm
    go_enter Try.func39, Try.ntmps39
    go_wp2_with (first
      | (go_at_call 99; (with_reducible refine Calls.mono (HPC.out _) ?_); rintro e y1 ⟨v0, rfl, hb1, g0, f0, rfl, hg0, hh0⟩; have BV := Lib.hid (belowT (show Below w.heap.size w _ by (repeat (first | with_reducible exact Below.refl _ _ | with_reducible assumption | with_reducible refine Below.alloc ?_ (by first | (simp; done) | (simp; omega) | omega) _ | with_reducible refine Below.setCell ?_ (by first | (simp; done) | (simp; omega) | omega) _ | with_reducible refine Below.drew ?_ | with_reducible refine below_drewN ?_ _))) hb1); have l0 := keep hb1 (b := w.heap.size) (o := 0) (v := .int .i64 ph) (by simp [go_sem]); have l1 := keep hb1 (b := w.heap.size) (o := 1) (v := .int .i64 inc) (by simp [go_sem]); have l2 := keep hb1 (b := w.heap.size) (o := 2) (v := .int .i64 ch) (by simp [go_sem]); have r0 := keep hb1 (b := w.heap.size + 1) (o := 0) (v := .int .i64 0) (by simp [go_sem]); have r1 := keep hb1 (b := w.heap.size + 1) (o := 1) (v := .int .i64 0) (by simp [go_sem]); have r2 := keep hb1 (b := w.heap.size + 1) (o := 2) (v := .int .i64 0) (by simp [go_sem]); have z0 : y1.frozen? ⟨w.heap.size + 1, 0, none⟩ = false := (hb1.frozen (p := ⟨w.heap.size + 1, 0, none⟩) (by simp)).trans (by simp [go_sem]); have z1 : y1.frozen? ⟨w.heap.size + 1, 1, none⟩ = false := (hb1.frozen (p := ⟨w.heap.size + 1, 1, none⟩) (by simp)).trans (by simp [go_sem]); have z2 : y1.frozen? ⟨w.heap.size + 1, 2, none⟩ = false := (hb1.frozen (p := ⟨w.heap.size + 1, 2, none⟩) (by simp)).trans (by simp [go_sem]); have K0 := Lib.hid (show Chk True _ (.func (.func g0) #[] f0) y1 from ⟨g0, f0, rfl, hg0, hh0⟩); clear hg0 hh0; clear hb1)
      | (go_at_call 100; (with_reducible refine Calls.mono (HRG.out _) ?_); rintro e y2 ⟨v1, rfl, hb2, g1, f1, rfl, hg1, hh1⟩; replace z0 := (hb2.frozen (p := ⟨w.heap.size + 1, 0, none⟩) (by have := lt_of r0; first | omega | (simp; omega))).trans z0; replace z1 := (hb2.frozen (p := ⟨w.heap.size + 1, 1, none⟩) (by have := lt_of r1; first | omega | (simp; omega))).trans z1; replace z2 := (hb2.frozen (p := ⟨w.heap.size + 1, 2, none⟩) (by have := lt_of r2; first | omega | (simp; omega))).trans z2; replace l0 := keep hb2 l0; replace l1 := keep hb2 l1; replace l2 := keep hb2 l2; replace r0 := keep hb2 r0; replace r1 := keep hb2 r1; replace r2 := keep hb2 r2; replace BV := Lib.hid (belowT (show Below w.heap.size w _ by have Bq := BV.out; (repeat (first | with_reducible exact Below.refl _ _ | with_reducible assumption | with_reducible refine Below.alloc ?_ (by first | (simp; done) | (simp; omega) | omega) _ | with_reducible refine Below.setCell ?_ (by first | (simp; done) | (simp; omega) | omega) _ | with_reducible refine Below.drew ?_ | with_reducible refine below_drewN ?_ _))) hb2); have K1 := Lib.hid (show Chk True _ (.func (.func g1) #[] f1) y2 from ⟨g1, f1, rfl, hg1, hh1⟩); replace K0 := Lib.hid (K0.out.on hb2); clear hg1 hh1; clear hb2)
      | (go_at_call 87; (with_reducible refine Calls.mono (hE ▸ first_2 _ K0.out K1.out trivial (fun _ => trivial)) ?_); rintro e y3 ⟨rfl, hb3⟩; replace z0 := (hb3.frozen (p := ⟨w.heap.size + 1, 0, none⟩) (by have := lt_of r0; first | omega | (simp; omega))).trans z0; replace z1 := (hb3.frozen (p := ⟨w.heap.size + 1, 1, none⟩) (by have := lt_of r1; first | omega | (simp; omega))).trans z1; replace z2 := (hb3.frozen (p := ⟨w.heap.size + 1, 2, none⟩) (by have := lt_of r2; first | omega | (simp; omega))).trans z2; replace l0 := keep hb3 l0; replace l1 := keep hb3 l1; replace l2 := keep hb3 l2; replace r0 := keep hb3 r0; replace r1 := keep hb3 r1; replace r2 := keep hb3 r2; replace BV := Lib.hid (belowT (show Below w.heap.size w _ by have Bq := BV.out; (repeat (first | with_reducible exact Below.refl _ _ | with_reducible assumption | with_reducible refine Below.alloc ?_ (by first | (simp; done) | (simp; omega) | omega) _ | with_reducible refine Below.setCell ?_ (by first | (simp; done) | (simp; omega) | omega) _ | with_reducible refine Below.drew ?_ | with_reducible refine below_drewN ?_ _))) hb3); clear hb3))
    refine bodyPost_ret (v := .tuple #[.agg #[.int .i64 0, .int .i64 0, .int .i64 0], .int .i64 E]) (by simp [results, Try.results39, go_sem, *]) rfl ⟨rfl, by have Bq := BV.out; (repeat (first | with_reducible exact Below.refl _ _ | with_reducible assumption | with_reducible refine Below.alloc ?_ (by first | (simp; done) | (simp; omega) | omega) _ | with_reducible refine Below.setCell ?_ (by first | (simp; done) | (simp; omega) | omega) _ | with_reducible refine Below.drew ?_ | with_reducible refine below_drewN ?_ _))⟩

end Go.Proofs.Ytpkacfgmojblbaa
namespace Go.Proofs.Ytpkacfgmojblbaa
open Go.RowKit
def ghLow (ops : Array Oper) (n : Nat) : Prop := ∀ (i : Nat) (o : Oper), ops[i]? = some o → (∀ e ∈ o.after, Region.binds .any e = true → e.on < i) ∧ ∃ d, o.dst = some d ∧ d < n ∧ ∀ (j : Nat) (o' : Oper), ops[j]? = some o' → j ≠ i → o'.dst ≠ some d
theorem wpAny_gd {P : Program} {ops : Array Oper} {Q : Exit → Act → World → Prop} (φ : Nat → Value → World → Prop) (a : Act) (w : World) (hl : ghLow ops a.tmps.size)
    (hmono : ∀ i v w1 w2, φ i v w1 → Below w1.heap.size w1 w2 → φ i v w2)
    (hstep : ∀ (i : Nat) (o : Oper), ops[i]? = some o → ∀ a' w', Below w.heap.size w w' → RSame ops a a' → RDeps ops φ a' w' o → (Region.wanted o (yielded ops a'.tmps) = true ∧ o.wp P a' w' (fun a'' w'' => ∃ v, a'' = a'.put o.dst v ∧ Below w'.heap.size w' w'' ∧ φ i v w'') Q) ∨ (Region.wanted o (yielded ops a'.tmps) = false ∧ φ i undef w'))
    (hend : ∀ a' w', Below w.heap.size w w' → RSame ops a a' → (∀ (i : Nat) (o : Oper) (d : Nat), ops[i]? = some o → o.dst = some d → φ i (a'.tmps.getD d undef) w') → Q .normal a' w') :
    ∀ (fuel : Nat) (listed : Array Bool) (a' : Act) (w' : World), RInv ops φ a w listed a' w' → rgMissing listed ops.size ≤ fuel → wpAny P .any ops Q fuel listed a' w' := by
  have full : ∀ (listed : Array Bool) (a' : Act) (w' : World), RInv ops φ a w listed a' w' → Region.ready .any ops listed = [] → Q .normal a' w' := by
    intro listed a' w' h hr
    have all : ∀ n i, i < n → i < ops.size → listed.getD i false = true := by
      intro n
      induction n with
      | zero => intro i hi; omega
      | succ n ih =>
        intro i hi hs
        rcases Nat.lt_or_eq_of_le (Nat.le_of_lt_succ hi) with h1 | rfl
        · exact ih i h1 hs
        · have ho : ops[i]? = some ops[i] := Array.getElem?_eq_getElem hs
          cases hc : listed.getD i false with
          | true => rfl
          | false =>
            exfalso
            have hm : i ∈ Region.ready .any ops listed := by
              unfold Region.ready
              refine List.mem_filter.2 ⟨List.mem_range.2 hs, ?_⟩
              have h2 : listed.getD i true = false := by
                have hsz : i < listed.size := by rw [h.sz]; exact hs
                simp [Array.getD, hsz] at hc ⊢
                exact hc
              rw [h2, ho]
              simp only [Bool.not_false, Bool.true_and, Option.map_some, Option.getD_some]
              rw [Array.all_eq_true_iff_forall_mem]
              intro e he
              cases hbd : Region.binds .any e with
              | false => simp
              | true =>
                have := ih e.on ((hl i _ ho).1 e he hbd) (by have := (hl i _ ho).1 e he hbd; omega)
                simp [this]
            rw [hr] at hm
            cases hm
    refine hend a' w' h.below ⟨h.tsize, h.defs, h.rest⟩ fun i o d ho hd => h.facts i o d ho hd ?_
    have hs : i < ops.size := by
      rcases Nat.lt_or_ge i ops.size with q | q
      · exact q
      · rw [Array.getElem?_eq_none q] at ho; cases ho
    exact all (i + 1) i (by omega) hs
  intro fuel
  induction fuel with
  | zero =>
    intro listed a' w' h hm
    have hr : Region.ready .any ops listed = [] := by
      rcases hq : Region.ready .any ops listed with _ | ⟨i, l⟩
      · rfl
      · exfalso
        have hi : i ∈ Region.ready .any ops listed := by rw [hq]; simp
        unfold Region.ready at hi
        obtain ⟨h1, h2⟩ := List.mem_filter.1 hi
        have h3 : (!listed.getD i true) = true := by
          simp only [Bool.and_eq_true] at h2
          exact h2.1
        have : i ∈ (List.range ops.size).filter fun i => !listed.getD i true := List.mem_filter.2 ⟨h1, h3⟩
        have := List.length_pos_of_mem this
        unfold rgMissing at hm
        omega
    exact ⟨hr, full _ _ _ h hr⟩
  | succ fuel ih =>
    intro listed a' w' h hm
    refine ⟨fun hr => full _ _ _ h hr, fun i hi => ?_⟩
    unfold Region.ready at hi
    obtain ⟨h1, h2⟩ := List.mem_filter.1 hi
    simp only [Bool.and_eq_true] at h2
    obtain ⟨h3, h4⟩ := h2
    have hs : i < ops.size := List.mem_range.1 h1
    have ho : ops[i]? = some ops[i] := Array.getElem?_eq_getElem hs
    obtain ⟨hlow, d, hd, hdn, hdi⟩ := hl i _ ho
    rw [ho] at h4
    simp only [Option.map_some, Option.getD_some] at h4
    rw [Array.all_eq_true_iff_forall_mem] at h4
    have hdeps : RDeps ops φ a' w' ops[i] := by
      intro e he hb o' d' ho' hd'
      have := h4 e he
      rw [hb] at this
      exact h.facts _ _ _ ho' hd' (by simpa using this)
    have hstp := hstep i _ ho a' w' h.below ⟨h.tsize, h.defs, h.rest⟩ hdeps
    rw [hd] at hstp
    have hsz : i < listed.size := by rw [h.sz]; exact hs
    have key : ∀ v w'', Below w'.heap.size w' w'' → φ i v w'' → wpAny P .any ops Q fuel (listed.setIfInBounds i true) (a'.put (some d) v) w'' := by
      intro v w'' hb hv
      refine ih _ _ _ ⟨by simp [h.sz], belowT h.below hb, by rw [← h.tsize]; simp [Act.put], by rw [← h.defs]; rfl, ?_, ?_⟩ ?_
      · intro t ht
        rw [rg_put_get (by intro e; exact ht i _ ho (by rw [hd, e]))]
        exact h.rest t ht
      · intro j o' d' ho' hd' hj
        by_cases hji : j = i
        · subst hji
          rw [ho] at ho'
          cases ho'
          rw [hd] at hd'
          cases hd'
          rw [rg_put_own (by rw [h.tsize]; exact hdn)]
          exact hv
        · have hne : d ≠ d' := by
            intro e
            exact hdi j o' ho' hji (by rw [hd', e])
          rw [rg_put_getD hne]
          refine hmono _ _ _ _ (h.facts j o' d' ho' hd' ?_) hb
          simp only [Array.getD_eq_getD_getElem?, Array.getElem?_setIfInBounds] at hj ⊢
          rw [if_neg (fun e => hji e.symm)] at hj
          exact hj
      · have : rgMissing (listed.setIfInBounds i true) ops.size < rgMissing listed ops.size := by
          refine filter_len_lt (i := i) ?_ h3 ?_ h1
          · intro x hx
            simp only [Array.getD_eq_getD_getElem?, Array.getElem?_setIfInBounds] at hx ⊢
            by_cases hxi : i = x
            · subst hxi
              simp [hsz] at hx
            · rw [if_neg hxi] at hx
              exact hx
          · simp [Array.getD_eq_getD_getElem?, hsz]
        omega
    unfold wpOp
    rw [ho]
    rcases hstp with ⟨hwant, hw⟩ | ⟨hwant, hv⟩
    · simp only [hwant, if_true]
      refine .inl (Oper.wp_mono ?_ hw)
      rintro a'' w'' ⟨v, rfl, hb, hv⟩
      exact key v w'' hb hv
    · simp only [hwant]
      rw [hd]
      exact key undef w' (Below.refl _ _) hv
def noGuard (o : Oper) : Oper := { o with guard := none }
theorem ghLow_of {ops : Array Oper} {n : Nat} (h : rgCheck n 0 (ops.toList.map noGuard) = true) : ghLow ops n := by
  have low := rgLow_of (ops := (ops.toList.map noGuard).toArray) (n := n) (by simpa using h)
  have get : ∀ (i : Nat) (o : Oper), ops[i]? = some o → (ops.toList.map noGuard).toArray[i]? = some (noGuard o) := by
    intro i o ho
    rw [List.getElem?_toArray, List.getElem?_map, Array.getElem?_toList, ho]
    rfl
  intro i o ho
  obtain ⟨_, h2, d, h3, h4, h5⟩ := low i _ (get i o ho)
  exact ⟨h2, d, h3, h4, fun j o' hj hne e => h5 j (noGuard o') (get j o' hj) hne e⟩
theorem wpOps_any {P : Program} {ops : Array Oper} {Q : Exit → Act → World → Prop} (hlow : ∀ (i : Nat) (o : Oper), ops[i]? = some o → ∀ e ∈ o.after, Region.binds .any e = true → e.on < i) : ∀ (f k : Nat) (listed : Array Bool) (a : Act) (w : World), f + k = ops.size → listed.size = ops.size → (∀ j, j < ops.size → (listed.getD j true = true ↔ j < k)) →
    wpAny P .any ops Q f listed a w → wpOps P ops Q ((List.range ops.size).drop k) a w
  | 0, k, listed, a, w, hk, _, _, h => by
    rw [List.drop_eq_nil_of_le (by simp; omega)]
    exact h.2
  | f + 1, k, listed, a, w, hk, hz, hl, h => by
    have hks : k < ops.size := by omega
    have hd : (List.range ops.size).drop k = k :: (List.range ops.size).drop (k + 1) := by
      rw [List.drop_eq_getElem_cons (by simpa using hks)]
      simp
    rw [hd, wpOps_cons]
    have ho : ops[k]? = some ops[k] := Array.getElem?_eq_getElem hks
    have hr : k ∈ Region.ready .any ops listed := by
      unfold Region.ready
      refine List.mem_filter.2 ⟨List.mem_range.2 hks, ?_⟩
      have h1 : listed.getD k true = false := by
        cases hc : listed.getD k true with
        | false => rfl
        | true => have := (hl k hks).1 hc; omega
      rw [h1, ho]
      simp only [Bool.not_false, Bool.true_and, Option.map_some, Option.getD_some]
      rw [Array.all_eq_true_iff_forall_mem]
      intro e he
      cases hbd : Region.binds .any e with
      | false => simp
      | true =>
        have hlt := hlow k _ ho e he hbd
        have h2 := (hl e.on (by omega)).2 hlt
        have hez : e.on < listed.size := by omega
        have h3 : listed.getD e.on false = true := by
          simp [Array.getD, hez] at h2 ⊢
          exact h2
        simp [h3]
    refine wpOp_mono (fun a w hq => wpOps_any hlow f (k + 1) _ a w (by omega) (by simp [hz]) ?_ hq) (h.2 k hr)
    intro j hj
    by_cases hjk : j = k
    · subst hjk
      have : j < listed.size := by omega
      simp [Array.getD_eq_getD_getElem?, this]
    · have : (listed.setIfInBounds k true).getD j true = listed.getD j true := by
        simp only [Array.getD_eq_getD_getElem?, Array.getElem?_setIfInBounds]
        rw [if_neg (fun e => hjk e.symm)]
      rw [this, hl j hj]
      omega
/-- The law. -/
theorem wp_region_gd {P : Program} {id : Nat} {draw : Bool} {ops : Array Oper} {Q : Exit → Act → World → Prop} {a : Act} {w : World} (Φ : List MP) (m : List Bool) (hmask : maskOf (rgDsts ops.toList) a.tmps.size = m) (hm : P.follows .mixedOrders = true) (hl : rgCheck a.tmps.size 0 (ops.toList.map noGuard) = true)
    (hstep : AllOps (fun i o => ∀ a' w', Below w.heap.size w w' → RSame ops a a' → RDeps ops (fun i => (mpAt Φ i).p) a' w' o → (Region.wanted o (yielded ops a'.tmps) = true ∧ o.wp P a' w' (fun a'' w'' => ∃ v, a'' = a'.put o.dst v ∧ Below w'.heap.size w' w'' ∧ (mpAt Φ i).p v w'') Q) ∨ (Region.wanted o (yielded ops a'.tmps) = false ∧ (mpAt Φ i).p undef w')) 0 ops.toList)
    (hend : ∀ (V : Nat → Value) (w' : World), Below w.heap.size w w' → AllOps (fun i o => (mpAt Φ i).p (V (o.dst.getD 0)) w') 0 ops.toList → Q .normal ⟨(maskPut V 0 m a.tmps.toList).toArray, a.defers⟩ w') :
    (Code.region id ops draw).wp P Q a w := by
  have low := ghLow_of hl
  have main : ∀ w0 : World, Below w.heap.size w w0 → wpAny P .any ops Q ops.size (Array.replicate ops.size false) a w0 := by
    intro w0 hb0
    refine wpAny_gd (fun i => (mpAt Φ i).p) a w low (fun i v w1 w2 => (mpAt Φ i).on v w1 w2) (allOps_of hstep) ?_ ops.size _ a w0 ⟨by simp, hb0, rfl, rfl, fun _ _ => rfl, ?_⟩ ?_
    · intro a' w' hb hs hf
      have := hend (fun d => a'.tmps.getD d undef) w' hb (allOps_mk fun i o ho => by
        obtain ⟨_, d, hd, _⟩ := low i o ho
        rw [hd]
        exact hf i o d ho hd)
      rw [act_of hs, act_mask _ _ a m hmask]
      exact this
    · intro i o d ho _ h
      exfalso
      simp only [Array.getD_eq_getD_getElem?, Array.getElem?_replicate] at h
      split at h <;> cases h
    · unfold rgMissing
      refine Nat.le_trans (List.length_filter_le _ _) ?_
      simp
  cases draw with
  | true => exact wp_region_any hm (main _ ((Below.refl _ _).drew))
  | false =>
    refine wp_region ?_
    have := wpOps_any (fun i o ho => (low i o ho).1) ops.size 0 (Array.replicate ops.size false) a w (by omega) (by simp) (fun j hj => by simp [Array.getD_eq_getD_getElem?, hj]) (main w (Below.refl _ _))
    simpa using this
/-- a word that holds the value if the condition holds, and nothing otherwise -/
def mpIf (c : Prop) [Decidable c] (x : Value) : MP := ⟨fun v _ => v = if c then x else undef, fun _ _ _ h _ => h⟩
section
variable {P : Program} {φ : Value → World → Prop} {Q : Exit → Act → World → Prop} {o : Oper} {a : Act} {w : World} {x x' y : Value} {t t' : Nat}
theorem op0 (hr : ∀ ρ : Operand → Value, (∀ v, ρ (.const v) = v) → (execOp ρ o).run P w = .ok (.value y) w) (hy : φ y w) : o.wp P a w (fun a'' w'' => ∃ v, a'' = a.put o.dst v ∧ Below w.heap.size w w'' ∧ φ v w'') Q := by
  unfold Oper.wp
  rw [hr a.eval (fun _ => rfl)]
  exact ⟨y, rfl, Below.refl _ _, hy⟩
theorem op1 (h : a.eval (.tmp t) = x) (hr : ∀ ρ : Operand → Value, ρ (.tmp t) = x → (∀ v, ρ (.const v) = v) → (execOp ρ o).run P w = .ok (.value y) w) (hy : φ y w) : o.wp P a w (fun a'' w'' => ∃ v, a'' = a.put o.dst v ∧ Below w.heap.size w w'' ∧ φ v w'') Q :=
  by
  unfold Oper.wp
  rw [hr a.eval h (fun _ => rfl)]
  exact ⟨y, rfl, Below.refl _ _, hy⟩
theorem op2 (h : a.eval (.tmp t) = x) (h' : a.eval (.tmp t') = x') (hr : ∀ ρ : Operand → Value, ρ (.tmp t) = x → ρ (.tmp t') = x' → (∀ v, ρ (.const v) = v) → (execOp ρ o).run P w = .ok (.value y) w) (hy : φ y w) : o.wp P a w (fun a'' w'' => ∃ v, a'' = a.put o.dst v ∧ Below w.heap.size w w'' ∧ φ v w'') Q := by
  unfold Oper.wp
  rw [hr a.eval h h' (fun _ => rfl)]
  exact ⟨y, rfl, Below.refl _ _, hy⟩
end
theorem yielded_of {ops : Array Oper} {a : Act} {j d : Nat} {b : Bool} (hd : (ops[j]?).bind (·.dst) = some d) (h : a.eval (.tmp d) = .bool b) : yielded ops a.tmps j = some b := by
  unfold yielded
  rw [hd]
  have h' : (a.tmps[d]?).getD undef = .bool b := by rw [← rg_getD]; exact h
  cases hq : a.tmps[d]? with
  | none => rw [hq] at h'; cases h'
  | some x =>
    rw [hq] at h'
    simp only [Option.bind_some]
    rw [hq]
    simp only [Option.getD_some] at h'
    rw [h']
theorem wanted_n {ops : Array Oper} {a : Act} {o : Oper} (hg : o.guard = none) : Region.wanted o (yielded ops a.tmps) = true := by simp [Region.wanted, hg]
theorem wanted_t {ops : Array Oper} {a : Act} {o : Oper} {j d : Nat} {b : Bool} (hg : o.guard = some (j, b)) (hd : (ops[j]?).bind (·.dst) = some d) (h : a.eval (.tmp d) = .bool b) : Region.wanted o (yielded ops a.tmps) = true := by
  simp [Region.wanted, hg, yielded_of hd h]
theorem wanted_f {ops : Array Oper} {a : Act} {o : Oper} {j d : Nat} {b b' : Bool} (hg : o.guard = some (j, b)) (hd : (ops[j]?).bind (·.dst) = some d) (h : a.eval (.tmp d) = .bool b') (hne : (b' == b) = false) : Region.wanted o (yielded ops a.tmps) = false := by
  simp only [Region.wanted, hg, yielded_of hd h]
  cases b <;> cases b' <;> first | rfl | cases hne
theorem wanted_u {ops : Array Oper} {a : Act} {o : Oper} {j d : Nat} {b : Bool} (hg : o.guard = some (j, b)) (hd : (ops[j]?).bind (·.dst) = some d) (h : a.eval (.tmp d) = undef) : Region.wanted o (yielded ops a.tmps) = false := by
  have hy : yielded ops a.tmps j = none := by
    unfold yielded
    rw [hd]
    have h' : (a.tmps[d]?).getD undef = undef := by rw [← rg_getD]; exact h
    simp only [Option.bind_some]
    cases hq : a.tmps[d]? with
    | none => rfl
    | some x =>
      rw [hq] at h'
      simp only [Option.getD_some] at h'
      rw [h']
      rfl
  simp [Region.wanted, hg, hy]
end Go.Proofs.Ytpkacfgmojblbaa
