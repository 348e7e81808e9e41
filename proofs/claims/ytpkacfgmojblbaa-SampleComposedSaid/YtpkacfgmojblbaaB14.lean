/- The statement SampleProgramsSaid: whatever the program and the numbers, the law SamplePrograms returns true, and its arguments read afterwards as before. -/
import Derived.Test.YtpkacfgmojblbaaB13
import Derived.Test.YtpkacfgmojblbaaB10
namespace Go.Proofs.Ytpkacfgmojblbaa
open Go.RowKit
attribute [local go_sem] old1 fro1 old2 fro2 old3 fro3 old4 fro4 old5 fro5 old6 fro6 old7 fro7 old8 fro8 old9 fro9 old10 fro10 old11 fro11 old12 fro12
theorem news1 (w : World) (x : Value) (t : TypeId) : ∀ j u, [x][j]? = some u → (w.alloc (.cells #[x] t)).cell? ((⟨w.heap.size, 0, none⟩ : Addr).add j) = some u := by
  intro j u hj
  match j, hj with
  | 0, hj => simp at hj; subst hj; simp [Addr.add]
  | j + 1, hj => simp at hj

set_option maxRecDepth 100000 in
set_option maxHeartbeats 2000000 in
theorem sp_nearX (ph inc ch n X : Int) (m : Nat) (w : World) (hm : m ≤ 60) (hD : prgE ph inc ch = 0) (hX : rgE n 0 1000000 = X) (h0 : X ≠ 0) : Calls Try.prog 6 #[.agg #[.int .i64 ph, .int .i64 inc, .int .i64 ch], .int .i64 n, .int .i64 m] w fun e w' => e = .returned (.bool true) ∧ Below w.heap.size w w' := by
  have h : wi (m : Int) 61 400 = false := wi_f.2 (by omega)
  have h4 : wi (m : Int) 0 400 = true := wi_t.2 (by omega)
  have HPE := Lib.hid (fun W => programErr_any ph inc ch W)
  have HCP := Lib.hid (fun W => checkProgram_any ph inc ch W)
  have HPA := Lib.hid (fun W => phaseAtS_any ph inc ch n W)
  have HAD := Lib.hid (fun W => advancedS_any ph inc ch n W)
  have HIX := Lib.hid (fun W => indexErr_any n W)
  have hx : ixE ph inc ch n = X := by unfold ixE fs2; rw [hD, if_pos rfl]; exact hX
  rw [hx, if_neg h0] at HPA HAD
  rw [hX] at HIX
  have g1 : (X == 0) = false := by simpa using h0
  have g2 : (X != 0) = true := by simpa using h0
  have HTN := Lib.hid (fun W => turnsOf_ok ph inc ch m hD (by omega) W)
  have HTA := Lib.hid (fun (j : Nat) (hj : j < m) W => turnAtR_any ph inc ch j (prg_0 hD) (by omega) (by omega) W)
  obtain ⟨i0, hi0, hz0, hz1, hz2⟩ := info_parts infoInt
  rw [hD] at HPE HCP
  clear hD hx hX h0
  obtain ⟨f, hf⟩ : ∃ f : Nat → Int, ∀ i : Nat, trn ph inc ch i = f i := ⟨fun i => trn ph inc ch i, fun _ => rfl⟩
  have hf2 : (fun i : Nat => trn ph inc ch i) = f := funext hf
  rw [hf2] at HTN
  simp only [hf] at HTA
  clear hf hf2
  go_enter Try.func6, Try.ntmps6
  go_wp2_with (first
      | (go_at_call 17; (with_reducible refine Calls.mono (awake_any _) ?_); rintro e y1 ⟨rfl, hb1⟩; have BV := Lib.hid (belowT (show Below w.heap.size w _ by (repeat (first | with_reducible exact Below.refl _ _ | with_reducible assumption | with_reducible refine Below.alloc ?_ (by first | (simp; done) | (simp; omega) | omega) _ | with_reducible refine Below.setCell ?_ (by first | (simp; done) | (simp; omega) | omega) _ | with_reducible refine Below.drew ?_ | with_reducible refine below_drewN ?_ _))) hb1); have l0 := keep hb1 (b := w.heap.size) (o := 0) (v := .int .i64 ph) (by simp [go_sem]); have l1 := keep hb1 (b := w.heap.size) (o := 1) (v := .int .i64 inc) (by simp [go_sem]); have l2 := keep hb1 (b := w.heap.size) (o := 2) (v := .int .i64 ch) (by simp [go_sem]); clear hb1)
      | (go_at_call 21; (with_reducible refine Calls.mono (bwithin_any _ _ _ _) ?_); rintro e v9 ⟨rfl, rfl⟩)
      | (go_at_call 38; (with_reducible refine Calls.mono (HPA.out _) ?_); rintro e y2 ⟨rfl, hb2⟩; replace l0 := keep hb2 l0; replace l1 := keep hb2 l1; replace l2 := keep hb2 l2; replace BV := Lib.hid (belowT (show Below w.heap.size w _ by have Bq := BV.out; (repeat (first | with_reducible exact Below.refl _ _ | with_reducible assumption | with_reducible refine Below.alloc ?_ (by first | (simp; done) | (simp; omega) | omega) _ | with_reducible refine Below.setCell ?_ (by first | (simp; done) | (simp; omega) | omega) _ | with_reducible refine Below.drew ?_ | with_reducible refine below_drewN ?_ _))) hb2); clear hb2)
      | (go_at_call 39; (with_reducible refine Calls.mono (HAD.out _) ?_); rintro e y3 ⟨rfl, hb3⟩; replace l0 := keep hb3 l0; replace l1 := keep hb3 l1; replace l2 := keep hb3 l2; replace BV := Lib.hid (belowT (show Below w.heap.size w _ by have Bq := BV.out; (repeat (first | with_reducible exact Below.refl _ _ | with_reducible assumption | with_reducible refine Below.alloc ?_ (by first | (simp; done) | (simp; omega) | omega) _ | with_reducible refine Below.setCell ?_ (by first | (simp; done) | (simp; omega) | omega) _ | with_reducible refine Below.drew ?_ | with_reducible refine below_drewN ?_ _))) hb3); clear hb3)
      | (go_at_call 40; (with_reducible refine Calls.mono (HTN.out _) ?_); rintro e y4 ⟨A4, c4, rfl, t4, _, hb4⟩; replace l0 := keep hb4 (keepA _ l0); replace l1 := keep hb4 (keepA _ l1); replace l2 := keep hb4 (keepA _ l2); replace BV := Lib.hid (belowT (show Below w.heap.size w _ by have Bq := BV.out; have Bz := Bq.size; (repeat (first | with_reducible exact Below.refl _ _ | with_reducible assumption | with_reducible refine Below.alloc ?_ (by first | (simp; done) | (simp; omega) | omega) _ | with_reducible refine Below.setCell ?_ (by first | (simp; done) | (simp; omega) | omega) _ | with_reducible refine Below.drew ?_ | with_reducible refine below_drewN ?_ _))) hb4); have q0 := keep hb4 (b := y3.heap.size) (o := 0) (v := .int .i64 0) (by simp [go_sem]); have q1 := keep hb4 (b := y3.heap.size) (o := 1) (v := .int .i64 0) (by simp [go_sem]); have q2 := keep hb4 (b := y3.heap.size) (o := 2) (v := .int .i64 0) (by simp [go_sem]); have T4 := Lib.hid t4; clear t4; clear hb4)
      | (go_at_call 41; (with_reducible refine Calls.mono (HPE.out _) ?_); rintro e y5 ⟨rfl, hb5⟩; replace l0 := keep hb5 l0; replace l1 := keep hb5 l1; replace l2 := keep hb5 l2; replace q0 := keep hb5 q0; replace q1 := keep hb5 q1; replace q2 := keep hb5 q2; replace T4 := Lib.hid (T4.out.bel hb5); replace BV := Lib.hid (belowT (show Below w.heap.size w _ by have Bq := BV.out; (repeat (first | with_reducible exact Below.refl _ _ | with_reducible assumption | with_reducible refine Below.alloc ?_ (by first | (simp; done) | (simp; omega) | omega) _ | with_reducible refine Below.setCell ?_ (by first | (simp; done) | (simp; omega) | omega) _ | with_reducible refine Below.drew ?_ | with_reducible refine below_drewN ?_ _))) hb5); clear hb5)
      | (go_at_call 42; (with_reducible refine Calls.mono (HCP.out _) ?_); rintro e y6 ⟨rfl, hb6⟩; replace l0 := keep hb6 l0; replace l1 := keep hb6 l1; replace l2 := keep hb6 l2; replace q0 := keep hb6 q0; replace q1 := keep hb6 q1; replace q2 := keep hb6 q2; replace T4 := Lib.hid (T4.out.bel hb6); replace BV := Lib.hid (belowT (show Below w.heap.size w _ by have Bq := BV.out; (repeat (first | with_reducible exact Below.refl _ _ | with_reducible assumption | with_reducible refine Below.alloc ?_ (by first | (simp; done) | (simp; omega) | omega) _ | with_reducible refine Below.setCell ?_ (by first | (simp; done) | (simp; omega) | omega) _ | with_reducible refine Below.drew ?_ | with_reducible refine below_drewN ?_ _))) hb6); clear hb6))
  have hB9 : y3.heap.size < y6.heap.size := lt_of q0
  have hB0 : w.heap.size < y6.heap.size := lt_of l0
  generalize hB6 : y6.heap.size = B6 at *
  go_loopw [14, 15] (fun s14 s15 wr => ∃ j : Nat, j ≤ m ∧ s15 = .int .i64 j ∧ Hid (Below B6 y6 wr) ∧ Hid (wr.ownsRow B6 3 1 s14 j (intsV j f))) (fun _ i _ => m - (intOf i).toNat)
  case atStart => exact ⟨0, Nat.zero_le _, rfl, Below.refl _ _, World.ownsRow_nil _ _ _ _⟩
  case round =>
    obtain ⟨j, hj, rfl, HB, HO⟩ := hrel
    have hbel : Below y6.heap.size y6 wr := hB6.symm ▸ HB.out
    have l0' := keep hbel l0
    have l1' := keep hbel l1
    have l2' := keep hbel l2
    have hws := HB.out.size
    rw [hB6] at hws
    by_cases hlt : j < m
    · have HT := Lib.hid (HTA.out j hlt)
      have HS : Hid (intsV (j + 1) f = intsV j f ++ [.int .i64 (f j)]) := Lib.hid (intsV_s j f)
      generalize f j = X5 at *
      clear hbel
      go_wp2_with (first
        | (go_at_call 43; (with_reducible refine Calls.mono (HT.out _) ?_); rintro e z5 ⟨rfl, hz5⟩; have HO5 := Lib.hid (own_bel HO.out hz5); have HB5 := Lib.hid (HB.out.trans (hz5.mono hws)); have hz := hz5.size; clear hz5)
        | (at_builtin; go_loud (refine wpList_append_own_at _ rfl _ _ 38 rfl B6 3 i0 _ 1 8 undInts hi0 hz0 hz1 hz2 rfl (by decide) u14 _ _ rfl (HO5.out.alloc _) ⟨z5.heap.size, 0, none⟩ 1 1 [.int .i64 X5] rfl rfl (news1 _ _ _) (by simp [Value.oneCell']) (by unfold maxLen; omega) (by omega) (by simp; omega) ?_; intro v' z6 hown' hgrow hnil hloc; rw [← HS.out] at hown'; have HO6 := Lib.hid hown'; have BW := app_bel (by omega) HO5.out hgrow; have HB6 := Lib.hid (HB5.out.trans BW); clear hown' hgrow hnil hloc BW)))
      go_roundw
      case rel => exact ⟨j + 1, by omega, by go_num, HB6.out, HO6.out⟩
      case measure => simp [intOf]; omega
    · obtain rfl : j = m := by omega
      obtain ⟨e14, h14⟩ := own_intsV HO.out
      have HW := Lib.hid h14
      generalize sA u14 = A5 at *
      generalize sC u14 = C5 at *
      subst e14
      clear h14
      have T5 := Lib.hid (T4.out.bel hbel)
      have q0' := keep hbel q0
      have q1' := keep hbel q1
      have q2' := keep hbel q2
      have HI5 := Lib.hid ((ints_any A4 A5 j c4 j C5 f f wr (by omega) T5.out HW.out).mono (R' := fun e w' => e = .returned (.bool true) ∧ Below wr.heap.size wr w') (by rintro e w' ⟨rfl, hb⟩; exact ⟨by simp, hb⟩))
      have BV7 := Lib.hid (belowT BV.out hbel)
      clear hbel BV HB
      go_wp2_with (first
        | (go_at_call 30; (with_reducible refine Calls.mono HI5.out ?_); rintro e y7 ⟨rfl, hb7⟩; replace l0 := keep hb7 l0'; replace l1 := keep hb7 l1'; replace l2 := keep hb7 l2'; replace q0 := keep hb7 q0'; replace q1 := keep hb7 q1'; replace q2 := keep hb7 q2'; replace BV7 := Lib.hid (belowT BV7.out hb7); clear hb7 l0' l1' l2' q0' q1' q2')
        | (go_at_call 44; (with_reducible refine Calls.mono (HIX.out _) ?_); rintro e v8 ⟨rfl, rfl⟩))
      go_ret
      exact ⟨rfl, BV7.out⟩

set_option maxRecDepth 100000 in
set_option maxHeartbeats 2000000 in
theorem sp_near0 (ph inc ch n : Int) (m : Nat) (w : World) (hm : m ≤ 60) (hD : prgE ph inc ch = 0) (hX : rgE n 0 1000000 = 0) : Calls Try.prog 6 #[.agg #[.int .i64 ph, .int .i64 inc, .int .i64 ch], .int .i64 n, .int .i64 m] w fun e w' => e = .returned (.bool true) ∧ Below w.heap.size w w' := by
  have h : wi (m : Int) 61 400 = false := wi_f.2 (by omega)
  have h4 : wi (m : Int) 0 400 = true := wi_t.2 (by omega)
  have HPE := Lib.hid (fun W => programErr_any ph inc ch W)
  have HCP := Lib.hid (fun W => checkProgram_any ph inc ch W)
  have HPA := Lib.hid (fun W => phaseAtS_any ph inc ch n W)
  have HAD := Lib.hid (fun W => advancedS_any ph inc ch n W)
  have HIX := Lib.hid (fun W => indexErr_any n W)
  obtain ⟨n0, n1⟩ := rg_0 hX
  have HRP := Lib.hid (fun W => phaseAtR_any ph inc ch n (prg_0 hD) n0 n1 W)
  have HRA := Lib.hid (fun W => advancedR_any ph inc ch n (prg_0 hD) n0 n1 W)
  have hx : ixE ph inc ch n = 0 := by unfold ixE fs2; rw [hD, if_pos rfl]; exact hX
  rw [hx, if_pos rfl] at HPA HAD
  rw [hX] at HIX
  have HTN := Lib.hid (fun W => turnsOf_ok ph inc ch m hD (by omega) W)
  have HTA := Lib.hid (fun (j : Nat) (hj : j < m) W => turnAtR_any ph inc ch j (prg_0 hD) (by omega) (by omega) W)
  obtain ⟨i0, hi0, hz0, hz1, hz2⟩ := info_parts infoInt
  rw [hD] at HPE HCP
  clear hD hx hX n0 n1
  obtain ⟨f, hf⟩ : ∃ f : Nat → Int, ∀ i : Nat, trn ph inc ch i = f i := ⟨fun i => trn ph inc ch i, fun _ => rfl⟩
  have hf2 : (fun i : Nat => trn ph inc ch i) = f := funext hf
  rw [hf2] at HTN
  simp only [hf] at HTA
  clear hf hf2
  generalize phs ph inc ch n = x at *
  generalize adv inc ch n = y at *
  go_enter Try.func6, Try.ntmps6
  go_wp2_with (first
      | (go_at_call 17; (with_reducible refine Calls.mono (awake_any _) ?_); rintro e y1 ⟨rfl, hb1⟩; have BV := Lib.hid (belowT (show Below w.heap.size w _ by (repeat (first | with_reducible exact Below.refl _ _ | with_reducible assumption | with_reducible refine Below.alloc ?_ (by first | (simp; done) | (simp; omega) | omega) _ | with_reducible refine Below.setCell ?_ (by first | (simp; done) | (simp; omega) | omega) _ | with_reducible refine Below.drew ?_ | with_reducible refine below_drewN ?_ _))) hb1); have l0 := keep hb1 (b := w.heap.size) (o := 0) (v := .int .i64 ph) (by simp [go_sem]); have l1 := keep hb1 (b := w.heap.size) (o := 1) (v := .int .i64 inc) (by simp [go_sem]); have l2 := keep hb1 (b := w.heap.size) (o := 2) (v := .int .i64 ch) (by simp [go_sem]); clear hb1)
      | (go_at_call 21; (with_reducible refine Calls.mono (bwithin_any _ _ _ _) ?_); rintro e v9 ⟨rfl, rfl⟩)
      | (go_at_call 38; (with_reducible refine Calls.mono (HPA.out _) ?_); rintro e y2 ⟨rfl, hb2⟩; replace l0 := keep hb2 l0; replace l1 := keep hb2 l1; replace l2 := keep hb2 l2; replace BV := Lib.hid (belowT (show Below w.heap.size w _ by have Bq := BV.out; (repeat (first | with_reducible exact Below.refl _ _ | with_reducible assumption | with_reducible refine Below.alloc ?_ (by first | (simp; done) | (simp; omega) | omega) _ | with_reducible refine Below.setCell ?_ (by first | (simp; done) | (simp; omega) | omega) _ | with_reducible refine Below.drew ?_ | with_reducible refine below_drewN ?_ _))) hb2); clear hb2)
      | (go_at_call 39; (with_reducible refine Calls.mono (HAD.out _) ?_); rintro e y3 ⟨rfl, hb3⟩; replace l0 := keep hb3 l0; replace l1 := keep hb3 l1; replace l2 := keep hb3 l2; replace BV := Lib.hid (belowT (show Below w.heap.size w _ by have Bq := BV.out; (repeat (first | with_reducible exact Below.refl _ _ | with_reducible assumption | with_reducible refine Below.alloc ?_ (by first | (simp; done) | (simp; omega) | omega) _ | with_reducible refine Below.setCell ?_ (by first | (simp; done) | (simp; omega) | omega) _ | with_reducible refine Below.drew ?_ | with_reducible refine below_drewN ?_ _))) hb3); clear hb3)
      | (go_at_call 40; (with_reducible refine Calls.mono (HTN.out _) ?_); rintro e y4 ⟨A4, c4, rfl, t4, _, hb4⟩; replace l0 := keep hb4 (keepA _ l0); replace l1 := keep hb4 (keepA _ l1); replace l2 := keep hb4 (keepA _ l2); replace BV := Lib.hid (belowT (show Below w.heap.size w _ by have Bq := BV.out; have Bz := Bq.size; (repeat (first | with_reducible exact Below.refl _ _ | with_reducible assumption | with_reducible refine Below.alloc ?_ (by first | (simp; done) | (simp; omega) | omega) _ | with_reducible refine Below.setCell ?_ (by first | (simp; done) | (simp; omega) | omega) _ | with_reducible refine Below.drew ?_ | with_reducible refine below_drewN ?_ _))) hb4); have q0 := keep hb4 (b := y3.heap.size) (o := 0) (v := .int .i64 x) (by simp [go_sem]); have q1 := keep hb4 (b := y3.heap.size) (o := 1) (v := .int .i64 y) (by simp [go_sem]); have q2 := keep hb4 (b := y3.heap.size) (o := 2) (v := .int .i64 ch) (by simp [go_sem]); have T4 := Lib.hid t4; clear t4; clear hb4)
      | (go_at_call 41; (with_reducible refine Calls.mono (HPE.out _) ?_); rintro e y5 ⟨rfl, hb5⟩; replace l0 := keep hb5 l0; replace l1 := keep hb5 l1; replace l2 := keep hb5 l2; replace q0 := keep hb5 q0; replace q1 := keep hb5 q1; replace q2 := keep hb5 q2; replace T4 := Lib.hid (T4.out.bel hb5); replace BV := Lib.hid (belowT (show Below w.heap.size w _ by have Bq := BV.out; (repeat (first | with_reducible exact Below.refl _ _ | with_reducible assumption | with_reducible refine Below.alloc ?_ (by first | (simp; done) | (simp; omega) | omega) _ | with_reducible refine Below.setCell ?_ (by first | (simp; done) | (simp; omega) | omega) _ | with_reducible refine Below.drew ?_ | with_reducible refine below_drewN ?_ _))) hb5); clear hb5)
      | (go_at_call 42; (with_reducible refine Calls.mono (HCP.out _) ?_); rintro e y6 ⟨rfl, hb6⟩; replace l0 := keep hb6 l0; replace l1 := keep hb6 l1; replace l2 := keep hb6 l2; replace q0 := keep hb6 q0; replace q1 := keep hb6 q1; replace q2 := keep hb6 q2; replace T4 := Lib.hid (T4.out.bel hb6); replace BV := Lib.hid (belowT (show Below w.heap.size w _ by have Bq := BV.out; (repeat (first | with_reducible exact Below.refl _ _ | with_reducible assumption | with_reducible refine Below.alloc ?_ (by first | (simp; done) | (simp; omega) | omega) _ | with_reducible refine Below.setCell ?_ (by first | (simp; done) | (simp; omega) | omega) _ | with_reducible refine Below.drew ?_ | with_reducible refine below_drewN ?_ _))) hb6); clear hb6))
  have hB9 : y3.heap.size < y6.heap.size := lt_of q0
  have hB0 : w.heap.size < y6.heap.size := lt_of l0
  generalize hB6 : y6.heap.size = B6 at *
  go_loopw [14, 15] (fun s14 s15 wr => ∃ j : Nat, j ≤ m ∧ s15 = .int .i64 j ∧ Hid (Below B6 y6 wr) ∧ Hid (wr.ownsRow B6 3 1 s14 j (intsV j f))) (fun _ i _ => m - (intOf i).toNat)
  case atStart => exact ⟨0, Nat.zero_le _, rfl, Below.refl _ _, World.ownsRow_nil _ _ _ _⟩
  case round =>
    obtain ⟨j, hj, rfl, HB, HO⟩ := hrel
    have hbel : Below y6.heap.size y6 wr := hB6.symm ▸ HB.out
    have l0' := keep hbel l0
    have l1' := keep hbel l1
    have l2' := keep hbel l2
    have hws := HB.out.size
    rw [hB6] at hws
    by_cases hlt : j < m
    · have HT := Lib.hid (HTA.out j hlt)
      have HS : Hid (intsV (j + 1) f = intsV j f ++ [.int .i64 (f j)]) := Lib.hid (intsV_s j f)
      generalize f j = X5 at *
      clear hbel
      go_wp2_with (first
        | (go_at_call 43; (with_reducible refine Calls.mono (HT.out _) ?_); rintro e z5 ⟨rfl, hz5⟩; have HO5 := Lib.hid (own_bel HO.out hz5); have HB5 := Lib.hid (HB.out.trans (hz5.mono hws)); have hz := hz5.size; clear hz5)
        | (at_builtin; go_loud (refine wpList_append_own_at _ rfl _ _ 38 rfl B6 3 i0 _ 1 8 undInts hi0 hz0 hz1 hz2 rfl (by decide) u14 _ _ rfl (HO5.out.alloc _) ⟨z5.heap.size, 0, none⟩ 1 1 [.int .i64 X5] rfl rfl (news1 _ _ _) (by simp [Value.oneCell']) (by unfold maxLen; omega) (by omega) (by simp; omega) ?_; intro v' z6 hown' hgrow hnil hloc; rw [← HS.out] at hown'; have HO6 := Lib.hid hown'; have BW := app_bel (by omega) HO5.out hgrow; have HB6 := Lib.hid (HB5.out.trans BW); clear hown' hgrow hnil hloc BW)))
      go_roundw
      case rel => exact ⟨j + 1, by omega, by go_num, HB6.out, HO6.out⟩
      case measure => simp [intOf]; omega
    · obtain rfl : j = m := by omega
      obtain ⟨e14, h14⟩ := own_intsV HO.out
      have HW := Lib.hid h14
      generalize sA u14 = A5 at *
      generalize sC u14 = C5 at *
      subst e14
      clear h14
      have T5 := Lib.hid (T4.out.bel hbel)
      have q0' := keep hbel q0
      have q1' := keep hbel q1
      have q2' := keep hbel q2
      have HI5 := Lib.hid ((ints_any A4 A5 j c4 j C5 f f wr (by omega) T5.out HW.out).mono (R' := fun e w' => e = .returned (.bool true) ∧ Below wr.heap.size wr w') (by rintro e w' ⟨rfl, hb⟩; exact ⟨by simp, hb⟩))
      have BV7 := Lib.hid (belowT BV.out hbel)
      clear hbel BV HB
      go_upto_region 28 with (first
        | (go_at_call 30; (with_reducible refine Calls.mono HI5.out ?_); rintro e y7 ⟨rfl, hb7⟩; replace l0 := keep hb7 l0'; replace l1 := keep hb7 l1'; replace l2 := keep hb7 l2'; replace q0 := keep hb7 q0'; replace q1 := keep hb7 q1'; replace q2 := keep hb7 q2'; replace BV7 := Lib.hid (belowT BV7.out hb7); clear hb7 l0' l1' l2' q0' q1' q2')
        | (go_at_call 44; (with_reducible refine Calls.mono (HIX.out _) ?_); rintro e v8 ⟨rfl, rfl⟩))
      have BV0 := BV7.out
      generalize y3.heap.size = b9 at *
      generalize y7 = v0 at *
      clear BV7
      refine wp_region_gd [mpEq (.int .i64 0), mpEq (.bool true), mpEq (.bool true), mpEq (.int .i64 x), mpEq (.agg #[.int .i64 ph, .int .i64 inc, .int .i64 ch]), mpEq (.int .i64 n), mpEq (.int .i64 x), mpEq (.bool true), mpEq (.bool true), mpEq (.bool true), mpEq (.int .i64 0), mpEq (.bool true), mpEq (.bool true), mpEq (.bool true), mpEq (.agg #[.int .i64 x, .int .i64 y, .int .i64 ch]), mpEq (.agg #[.int .i64 ph, .int .i64 inc, .int .i64 ch]), mpEq (.int .i64 n), mpEq (.agg #[.int .i64 x, .int .i64 y, .int .i64 ch]), mpEq (.bool true), mpEq (.bool true), mpEq (.bool true)] nz0 (by kernel_rfl) (by kernel_rfl) (by kernel_rfl) (
            allOps_cons (fun a' w' hb hs hd => Or.inl ⟨wanted_n rfl, rg_op fun K hK => by
          have e0 := (hs.get 8 (by kernel_rfl)).trans (show _ = .int .i64 0 from rfl)
          have ec : ∀ v, a'.eval (.const v) = v := fun _ => rfl
          clear hs hd
          unfold Oper.wp
          generalize a'.eval = ρ at e0 ec ⊢
          simp [go_sem, e0]
          exact hK _ _ (Below.refl _ _) rfl⟩) <|
            allOps_cons (fun a' w' hb hs hd => Or.inl ⟨wanted_n rfl, rg_op fun K hK => by
          have e0 := (show a'.eval (.tmp 110) = .int .i64 0 from hd.get 0 110 (by kernel_rfl) (by kernel_rfl))
          have ec : ∀ v, a'.eval (.const v) = v := fun _ => rfl
          clear hs hd
          unfold Oper.wp
          generalize a'.eval = ρ at e0 ec ⊢
          simp [go_sem, e0, ec]
          exact hK _ _ (Below.refl _ _) rfl⟩) <|
            allOps_cons (fun a' w' hb hs hd => Or.inl ⟨wanted_n rfl, rg_op fun K hK => by
          have e0 := (show a'.eval (.tmp 111) = .bool true from hd.get 1 111 (by kernel_rfl) (by kernel_rfl))
          have ec : ∀ v, a'.eval (.const v) = v := fun _ => rfl
          clear hs hd
          unfold Oper.wp
          generalize a'.eval = ρ at e0 ec ⊢
          simp [go_sem, e0]
          exact hK _ _ (Below.refl _ _) rfl⟩) <|
            allOps_cons (fun a' w' hb hs hd => Or.inl ⟨wanted_t (j := 2) (d := 112) rfl (by kernel_rfl) (show a'.eval (.tmp 112) = .bool true from hd.get 2 112 (by kernel_rfl) (by kernel_rfl)), rg_op fun K hK => by
          have e0 := (hs.get 7 (by kernel_rfl)).trans (show _ = .int .i64 x from rfl)
          have ec : ∀ v, a'.eval (.const v) = v := fun _ => rfl
          clear hs hd
          unfold Oper.wp
          generalize a'.eval = ρ at e0 ec ⊢
          simp [go_sem, e0]
          exact hK _ _ (Below.refl _ _) rfl⟩) <|
            allOps_cons (fun a' w' hb hs hd => Or.inl ⟨wanted_t (j := 2) (d := 112) rfl (by kernel_rfl) (show a'.eval (.tmp 112) = .bool true from hd.get 2 112 (by kernel_rfl) (by kernel_rfl)), rg_op fun K hK => by
          have e0 := (hs.get 3 (by kernel_rfl)).trans (show _ = .pointer (some ⟨w.heap.size, 0, none⟩) from rfl)
          have ec : ∀ v, a'.eval (.const v) = v := fun _ => rfl
          have c0 := keep hb l0
          have c1 := keep hb l1
          have c2 := keep hb l2
          clear hs hd
          unfold Oper.wp
          generalize a'.eval = ρ at e0 ec ⊢
          simp [go_sem, e0, c0, c1, c2]
          exact hK _ _ (Below.refl _ _) rfl⟩) <|
            allOps_cons (fun a' w' hb hs hd => Or.inl ⟨wanted_t (j := 2) (d := 112) rfl (by kernel_rfl) (show a'.eval (.tmp 112) = .bool true from hd.get 2 112 (by kernel_rfl) (by kernel_rfl)), rg_op fun K hK => by
          have e0 := (hs.get 1 (by kernel_rfl)).trans (show _ = .int .i64 n from rfl)
          have ec : ∀ v, a'.eval (.const v) = v := fun _ => rfl
          clear hs hd
          unfold Oper.wp
          generalize a'.eval = ρ at e0 ec ⊢
          simp [go_sem, e0]
          exact hK _ _ (Below.refl _ _) rfl⟩) <|
            allOps_cons (fun a' w' hb hs hd => Or.inl ⟨wanted_t (j := 2) (d := 112) rfl (by kernel_rfl) (show a'.eval (.tmp 112) = .bool true from hd.get 2 112 (by kernel_rfl) (by kernel_rfl)), by
          exact rg_fn (φ := (mpEq (.int .i64 x)).p) (vs := #[.agg #[.int .i64 ph, .int .i64 inc, .int .i64 ch], .int .i64 n]) rfl (enters_of Try.func45 (by kernel_rfl) rfl) (by simp [(show a'.eval (.tmp 114) = .agg #[.int .i64 ph, .int .i64 inc, .int .i64 ch] from hd.get 4 114 (by kernel_rfl) (by kernel_rfl)), (show a'.eval (.tmp 115) = .int .i64 n from hd.get 5 115 (by kernel_rfl) (by kernel_rfl))]) ((HRP.out w').mono (by rintro e w1 ⟨rfl, h1⟩; exact ⟨_, rfl, h1, rfl⟩))⟩) <|
            allOps_cons (fun a' w' hb hs hd => Or.inl ⟨wanted_t (j := 2) (d := 112) rfl (by kernel_rfl) (show a'.eval (.tmp 112) = .bool true from hd.get 2 112 (by kernel_rfl) (by kernel_rfl)), rg_op fun K hK => by
          have e0 := (show a'.eval (.tmp 113) = .int .i64 x from hd.get 3 113 (by kernel_rfl) (by kernel_rfl))
          have e1 := (show a'.eval (.tmp 116) = .int .i64 x from hd.get 6 116 (by kernel_rfl) (by kernel_rfl))
          have ec : ∀ v, a'.eval (.const v) = v := fun _ => rfl
          clear hs hd
          unfold Oper.wp
          generalize a'.eval = ρ at e0 e1 ec ⊢
          simp [go_sem, e0, e1]
          exact hK _ _ (Below.refl _ _) rfl⟩) <|
            allOps_cons (fun a' w' hb hs hd => Or.inl ⟨wanted_n rfl, rg_op fun K hK => by
          have e0 := (show a'.eval (.tmp 112) = .bool true from hd.get 2 112 (by kernel_rfl) (by kernel_rfl))
          have e1 := (show a'.eval (.tmp 117) = .bool true from hd.get 7 117 (by kernel_rfl) (by kernel_rfl))
          have ec : ∀ v, a'.eval (.const v) = v := fun _ => rfl
          clear hs hd
          unfold Oper.wp
          generalize a'.eval = ρ at e0 e1 ec ⊢
          simp [go_sem, e0, e1, ec]
          exact hK _ _ (Below.refl _ _) rfl⟩) <|
            allOps_cons (fun a' w' hb hs hd => Or.inl ⟨wanted_n rfl, rg_op fun K hK => by
          have e0 := (show a'.eval (.tmp 118) = .bool true from hd.get 8 118 (by kernel_rfl) (by kernel_rfl))
          have ec : ∀ v, a'.eval (.const v) = v := fun _ => rfl
          clear hs hd
          unfold Oper.wp
          generalize a'.eval = ρ at e0 ec ⊢
          simp [go_sem, e0]
          exact hK _ _ (Below.refl _ _) rfl⟩) <|
            allOps_cons (fun a' w' hb hs hd => Or.inl ⟨wanted_t (j := 9) (d := 119) rfl (by kernel_rfl) (show a'.eval (.tmp 119) = .bool true from hd.get 9 119 (by kernel_rfl) (by kernel_rfl)), rg_op fun K hK => by
          have e0 := (hs.get 10 (by kernel_rfl)).trans (show _ = .int .i64 0 from rfl)
          have ec : ∀ v, a'.eval (.const v) = v := fun _ => rfl
          clear hs hd
          unfold Oper.wp
          generalize a'.eval = ρ at e0 ec ⊢
          simp [go_sem, e0]
          exact hK _ _ (Below.refl _ _) rfl⟩) <|
            allOps_cons (fun a' w' hb hs hd => Or.inl ⟨wanted_t (j := 9) (d := 119) rfl (by kernel_rfl) (show a'.eval (.tmp 119) = .bool true from hd.get 9 119 (by kernel_rfl) (by kernel_rfl)), rg_op fun K hK => by
          have e0 := (show a'.eval (.tmp 120) = .int .i64 0 from hd.get 10 120 (by kernel_rfl) (by kernel_rfl))
          have ec : ∀ v, a'.eval (.const v) = v := fun _ => rfl
          clear hs hd
          unfold Oper.wp
          generalize a'.eval = ρ at e0 ec ⊢
          simp [go_sem, e0, ec]
          exact hK _ _ (Below.refl _ _) rfl⟩) <|
            allOps_cons (fun a' w' hb hs hd => Or.inl ⟨wanted_n rfl, rg_op fun K hK => by
          have e0 := (show a'.eval (.tmp 119) = .bool true from hd.get 9 119 (by kernel_rfl) (by kernel_rfl))
          have e1 := (show a'.eval (.tmp 121) = .bool true from hd.get 11 121 (by kernel_rfl) (by kernel_rfl))
          have ec : ∀ v, a'.eval (.const v) = v := fun _ => rfl
          clear hs hd
          unfold Oper.wp
          generalize a'.eval = ρ at e0 e1 ec ⊢
          simp [go_sem, e0, e1, ec]
          exact hK _ _ (Below.refl _ _) rfl⟩) <|
            allOps_cons (fun a' w' hb hs hd => Or.inl ⟨wanted_n rfl, rg_op fun K hK => by
          have e0 := (show a'.eval (.tmp 122) = .bool true from hd.get 12 122 (by kernel_rfl) (by kernel_rfl))
          have ec : ∀ v, a'.eval (.const v) = v := fun _ => rfl
          clear hs hd
          unfold Oper.wp
          generalize a'.eval = ρ at e0 ec ⊢
          simp [go_sem, e0]
          exact hK _ _ (Below.refl _ _) rfl⟩) <|
            allOps_cons (fun a' w' hb hs hd => Or.inl ⟨wanted_t (j := 13) (d := 123) rfl (by kernel_rfl) (show a'.eval (.tmp 123) = .bool true from hd.get 13 123 (by kernel_rfl) (by kernel_rfl)), rg_op fun K hK => by
          have e0 := (hs.get 9 (by kernel_rfl)).trans (show _ = .pointer (some ⟨b9, 0, none⟩) from rfl)
          have ec : ∀ v, a'.eval (.const v) = v := fun _ => rfl
          have c0 := keep hb q0
          have c1 := keep hb q1
          have c2 := keep hb q2
          clear hs hd
          unfold Oper.wp
          generalize a'.eval = ρ at e0 ec ⊢
          simp [go_sem, e0, c0, c1, c2]
          exact hK _ _ (Below.refl _ _) rfl⟩) <|
            allOps_cons (fun a' w' hb hs hd => Or.inl ⟨wanted_t (j := 13) (d := 123) rfl (by kernel_rfl) (show a'.eval (.tmp 123) = .bool true from hd.get 13 123 (by kernel_rfl) (by kernel_rfl)), rg_op fun K hK => by
          have e0 := (hs.get 3 (by kernel_rfl)).trans (show _ = .pointer (some ⟨w.heap.size, 0, none⟩) from rfl)
          have ec : ∀ v, a'.eval (.const v) = v := fun _ => rfl
          have c0 := keep hb l0
          have c1 := keep hb l1
          have c2 := keep hb l2
          clear hs hd
          unfold Oper.wp
          generalize a'.eval = ρ at e0 ec ⊢
          simp [go_sem, e0, c0, c1, c2]
          exact hK _ _ (Below.refl _ _) rfl⟩) <|
            allOps_cons (fun a' w' hb hs hd => Or.inl ⟨wanted_t (j := 13) (d := 123) rfl (by kernel_rfl) (show a'.eval (.tmp 123) = .bool true from hd.get 13 123 (by kernel_rfl) (by kernel_rfl)), rg_op fun K hK => by
          have e0 := (hs.get 1 (by kernel_rfl)).trans (show _ = .int .i64 n from rfl)
          have ec : ∀ v, a'.eval (.const v) = v := fun _ => rfl
          clear hs hd
          unfold Oper.wp
          generalize a'.eval = ρ at e0 ec ⊢
          simp [go_sem, e0]
          exact hK _ _ (Below.refl _ _) rfl⟩) <|
            allOps_cons (fun a' w' hb hs hd => Or.inl ⟨wanted_t (j := 13) (d := 123) rfl (by kernel_rfl) (show a'.eval (.tmp 123) = .bool true from hd.get 13 123 (by kernel_rfl) (by kernel_rfl)), by
          exact rg_fn (φ := (mpEq (.agg #[.int .i64 x, .int .i64 y, .int .i64 ch])).p) (vs := #[.agg #[.int .i64 ph, .int .i64 inc, .int .i64 ch], .int .i64 n]) rfl (enters_of Try.func46 (by kernel_rfl) rfl) (by simp [(show a'.eval (.tmp 125) = .agg #[.int .i64 ph, .int .i64 inc, .int .i64 ch] from hd.get 15 125 (by kernel_rfl) (by kernel_rfl)), (show a'.eval (.tmp 126) = .int .i64 n from hd.get 16 126 (by kernel_rfl) (by kernel_rfl))]) ((HRA.out w').mono (by rintro e w1 ⟨rfl, h1⟩; exact ⟨_, rfl, h1, rfl⟩))⟩) <|
            allOps_cons (fun a' w' hb hs hd => Or.inl ⟨wanted_t (j := 13) (d := 123) rfl (by kernel_rfl) (show a'.eval (.tmp 123) = .bool true from hd.get 13 123 (by kernel_rfl) (by kernel_rfl)), rg_op fun K hK => by
          have e0 := (show a'.eval (.tmp 124) = .agg #[.int .i64 x, .int .i64 y, .int .i64 ch] from hd.get 14 124 (by kernel_rfl) (by kernel_rfl))
          have e1 := (show a'.eval (.tmp 127) = .agg #[.int .i64 x, .int .i64 y, .int .i64 ch] from hd.get 17 127 (by kernel_rfl) (by kernel_rfl))
          have ec : ∀ v, a'.eval (.const v) = v := fun _ => rfl
          clear hs hd
          unfold Oper.wp
          generalize a'.eval = ρ at e0 e1 ec ⊢
          simp [go_sem, e0, e1]
          exact hK _ _ (Below.refl _ _) rfl⟩) <|
            allOps_cons (fun a' w' hb hs hd => Or.inl ⟨wanted_n rfl, rg_op fun K hK => by
          have e0 := (show a'.eval (.tmp 123) = .bool true from hd.get 13 123 (by kernel_rfl) (by kernel_rfl))
          have e1 := (show a'.eval (.tmp 128) = .bool true from hd.get 18 128 (by kernel_rfl) (by kernel_rfl))
          have ec : ∀ v, a'.eval (.const v) = v := fun _ => rfl
          clear hs hd
          unfold Oper.wp
          generalize a'.eval = ρ at e0 e1 ec ⊢
          simp [go_sem, e0, e1, ec]
          exact hK _ _ (Below.refl _ _) rfl⟩) <|
            allOps_cons (fun a' w' hb hs hd => Or.inl ⟨wanted_n rfl, rg_op fun K hK => by
          have e0 := (show a'.eval (.tmp 129) = .bool true from hd.get 19 129 (by kernel_rfl) (by kernel_rfl))
          have ec : ∀ v, a'.eval (.const v) = v := fun _ => rfl
          clear hs hd
          unfold Oper.wp
          generalize a'.eval = ρ at e0 ec ⊢
          simp [go_sem, e0]
          exact hK _ _ (Below.refl _ _) rfl⟩) <| allOps_nil) (fun V v1 hv1 hall => ?_)
      have h6 : V 6 = .bool true := hall.get 20 rfl
      clear hall
      simp only [nz0, maskPut, Nat.reduceAdd]
      rw [h6]
      clear h6
      have BV1 := Lib.hid (belowT BV0 hv1)
      clear hv1 BV0
      go_wp2_with fail
      go_ret
      exact ⟨rfl, BV1.out⟩

end Go.Proofs.Ytpkacfgmojblbaa
namespace Go.Proofs.Ytpkacfgmojblbaa
open Go.ChangeShapes Go.WideShapes Go.ChangeAt Go.RowKit
theorem samplePrograms_any (ph inc ch n ct : Int) (w : World) : Calls Try.prog 6 #[.agg #[.int .i64 ph, .int .i64 inc, .int .i64 ch], .int .i64 n, .int .i64 ct] w fun e w' => e = .returned (.bool true) ∧ Below w.heap.size w w' := by
  cases h : wi ct 61 400
  · by_cases h0 : prgE ph inc ch = 0
    · cases h4 : wi ct 0 400
      · by_cases hX : rgE n 0 1000000 = 0
        · exact sp_far0 ph inc ch n ct w h h4 h0 hX
        · exact sp_farX ph inc ch n ct _ w h h4 h0 rfl hX
      · have h5 := wi_t.1 h4
        have h6 := wi_f.1 h
        obtain ⟨m, rfl⟩ : ∃ m : Nat, ct = m := ⟨ct.toNat, by omega⟩
        by_cases hX : rgE n 0 1000000 = 0
        · exact sp_near0 ph inc ch n m w (by omega) h0 hX
        · exact sp_nearX ph inc ch n _ m w (by omega) h0 rfl hX
    · exact sp_bad ph inc ch n ct _ w h rfl h0
  · exact sp_many ph inc ch n ct w h
theorem cellsPrg : Try.prog.cellsOf 59 = 3 := by kernel_rfl
set_option maxRecDepth 100000 in
theorem open_program {H : Type} {enc : TypeId × Value → H} {w : World} {base : Nat} {sp : Nat → Bool} {held : Bool} {r : Reach} {b0 : Nat} {v : Value} {d : DataW H} {p : List MemPlace} (hv : Value.okWide Try.prog w r b0 59 v) (h : DataW.Trod enc Try.prog w base sp held 59 v d p) :
    ∃ a b c : Int, v = .agg #[.int .i64 a, .int .i64 b, .int .i64 c] := by
  obtain ⟨cs, rfl, hsz⟩ := okWide_struct Try.underlying59 hv
  rw [cellsPrg] at hsz
  obtain ⟨fuel, hf⟩ := h
  obtain ⟨xs, n, _, hx, hl, hlen, hg⟩ := DataW.trod_struct Try.underlying59 hf
  match xs, hlen with
  | [y0, y1, y2], _ =>
    have h0 := hg 0 _ rfl
    have h1 := hg 1 _ rfl
    have h2 := hg 2 _ rfl
    change DataW.trod enc Try.prog w base sp held n 3 ((cs.toList.drop 0).take (Try.prog.cellsOf 3)) = some y0 at h0
    change DataW.trod enc Try.prog w base sp held n 3 ((cs.toList.drop 1).take (Try.prog.cellsOf 3)) = some y1 at h1
    change DataW.trod enc Try.prog w base sp held n 3 ((cs.toList.drop 2).take (Try.prog.cellsOf 3)) = some y2 at h2
    rw [cellsInt] at h0 h1 h2
    obtain ⟨a, e0, _, _⟩ := DataW.trod_int Try.underlying3 h0
    obtain ⟨b, e1, _, _⟩ := DataW.trod_int Try.underlying3 h1
    obtain ⟨c, e2, _, _⟩ := DataW.trod_int Try.underlying3 h2
    replace e0 := take1 e0
    replace e1 := take1 e1
    replace e2 := take1 e2
    refine ⟨a, b, c, congrArg Value.agg (Array.ext_getElem? fun j => ?_)⟩
    match j with
    | 0 => rw [← Array.getElem?_toList, e0]; rfl
    | 1 => rw [← Array.getElem?_toList, e1]; rfl
    | 2 => rw [← Array.getElem?_toList, e2]; rfl
    | j + 3 => rw [Array.getElem?_eq_none (by omega), Array.getElem?_eq_none (by simp)]
set_option maxRecDepth 100000 in
theorem samplePrograms_lifted (os : Os) (started : os.Started) (H : Type) (enc : TypeId × Value → H) :
    ReturnsInHanded {} Try.checked os 6 .any (Rows.sampleProgramsSpec.pre6 enc Try.prog Try.f6 Rows.sampleProgramsRow.domain false) (Rows.sampleProgramsSpec.post enc Try.prog Try.f6 false true false false) := by
  refine returnsInHanded_of_change (C := Try.checked) own started (by kernel_rfl) Try.func6
    (ChangeSpec.witness6 (enc := enc) (C := Try.checked) false ⟨#[], #[.agg #[.int .i64 0, .int .i64 0, .int .i64 0], .int .i64 0, .int .i64 0], []⟩ 8 (by kernel_rfl) (by kernel_rfl) (by kernel_rfl) (by kernel_rfl)) ?_
  intro W base args ds gs before hval0 hW hcnd _
  have hval : ∀ (j : Nat) t v, Try.f6.params[j]? = some t → args[j]? = some v → Value.okWide Try.prog W .any base t v := hval0
  have hW' := hW
  obtain ⟨p, q, hA0, hV, rfl, hfz, hnd⟩ := hW
  have hA : DataW.TrodAll enc Try.prog W 0 (fun _ => true) true Try.f6.params.toList args.toList ds p := hA0
  rw [Try.params6] at hA hval
  obtain ⟨v0, vs0, d0, ds0, p0, q0, hargs, rfl, rfl, h0, r0⟩ := trodAll_cons hA
  obtain ⟨v1, vs1, d1, ds1, p1, q1, rfl, rfl, rfl, h1, r1⟩ := trodAll_cons r0
  obtain ⟨v2, vs2, d2, ds2, p2, q2, rfl, rfl, rfl, h2, r2⟩ := trodAll_cons r1
  obtain ⟨rfl, rfl, rfl⟩ := trodAll_nil r2
  obtain rfl : args = #[v0, v1, v2] := by cases args; simp_all
  obtain ⟨rfl, rfl⟩ := trodVars_none hV
  have k0 := h0
  have k1 := h1
  have k2 := h2
  have lt0 : ∀ x ∈ p0, x.block < W.heap.size := by obtain ⟨m, hm⟩ := k0; exact DataW.trod_lt m _ _ _ hm
  have lt1 : ∀ x ∈ p1, x.block < W.heap.size := by obtain ⟨m, hm⟩ := k1; exact DataW.trod_lt m _ _ _ hm
  have lt2 : ∀ x ∈ p2, x.block < W.heap.size := by obtain ⟨m, hm⟩ := k2; exact DataW.trod_lt m _ _ _ hm
  obtain ⟨ph, inc, ch, rfl⟩ := open_program (hval 0 59 v0 rfl rfl) h0
  obtain ⟨near, rfl⟩ := okWide_int Try.underlying3 (hval 1 3 v1 rfl rfl)
  obtain ⟨c, rfl⟩ := okWide_int Try.underlying3 (hval 2 3 v2 rfl rfl)
  clear hA0 hval0
  refine (samplePrograms_any ph inc ch near c W).mono fun e W' ⟨he, bel⟩ => ?_
  subst he
  exact ⟨_, rfl, _, _, _, [], _, [], hW', trodAll_mk1 (shut_bool Try.underlying4 _), (trodAll_cons_mk (Below.trod laidOut (by kernel_rfl) (of_decide_eq_true (by kernel_rfl)) k0 bel lt0) (trodAll_cons_mk (Below.trod laidOut (by kernel_rfl) (of_decide_eq_true (by kernel_rfl)) k1 bel lt1) (trodAll_cons_mk (Below.trod laidOut (by kernel_rfl) (of_decide_eq_true (by kernel_rfl)) k2 bel lt2) trodAll_mk0))), rfl, bel.frame _, fun h => by cases h⟩
theorem samplePrograms_over : Rows.sampleProgramsRow.holds Try.pinned (OpenSpec.ofChange Rows.sampleProgramsSpec) :=
  OpenClaim.holds_of_wide 6 Try.f6 rfl rfl rfl rfl rfl rfl rfl ⟨by kernel_rfl, by kernel_rfl, by kernel_rfl, by kernel_rfl, by kernel_rfl⟩ rfl rfl rfl rfl rfl (by kernel_rfl) Try.func6 (by kernel_rfl)
    (of_decide_eq_true (by kernel_rfl)) (by unfold Func.isWrapper; first | (rw [if_pos (by decide +kernel)]; kernel_rfl) | (rw [if_neg (by decide +kernel)]; exact ⟨rfl, rfl⟩))
    (fun os started H enc _ => samplePrograms_lifted os started H enc)
/-- THE STATEMENT. -/
theorem samplePrograms_holds : Rows.SampleProgramsSaid := samplePrograms_over
end Go.Proofs.Ytpkacfgmojblbaa
