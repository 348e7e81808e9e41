/- The statement PathBothWaysSaid: whatever the two tracks and the time, the law PathBothWays returns true, and its arguments read afterwards as before. -/
import Derived.Test.YtnfoagcpgegldaaGreatB36
import Derived.Test.YtnfoagcpgegldaaGreatB37
import Derived.Test.YtnfoagcpgegldaaGreatB39
import Derived.Test.YtnfoagcpgegldaaGreatB40
import Derived.Test.YtnfoagcpgegldaaGreatB31
import Derived.Test.YtnfoagcpgegldaaGreatB30
namespace Go.Proofs.YtnfoagcpgegldaaGreat
open Go.ChangeShapes Go.WideShapes Go.ChangeAt Go.RowKit Go.Joins Go.Deep Go.Shelf Go.Sort
attribute [local go_sem] idx3_0 idx3_1 idx3_2 old1 fro1 old2 fro2 old3 fro3 old4 fro4 old5 fro5 old6 fro6 old7 fro7 old8 fro8 old9 fro9 old10 fro10 old11 fro11 old12 fro12
set_option maxRecDepth 100000 in
set_option maxHeartbeats 800000 in
theorem both_few (A B : Option Addr) (na nb ca cb : Nat) (da db s : Int) (ka kb : Nat → Knot) (w : World) (hAA : KA w A na ka) (hBB : KA w B nb kb)
    (hFW : ∀ W, Calls Tryz.prog 12 #[.agg #[.slice A na ca, .int .i64 da], .agg #[.slice B nb cb, .int .i64 db]] W fun e w' => e = .returned (.bool false) ∧ Below W.heap.size W w') :
    Calls Tryz.prog 6 #[.agg #[.slice A na ca, .int .i64 da], .agg #[.slice B nb cb, .int .i64 db], .int .i64 s] w fun e w' => e = .returned (.bool true) ∧ Below w.heap.size w w' := by
  have HA := Lib.hid hAA
  have HB := Lib.hid hBB
  have KFW := Lib.hid hFW
  clear hAA hBB hFW
  go_enter Tryz.func6, Tryz.ntmps6
  go_wp2_with (first
    | (go_at_call 11; (with_reducible refine Calls.mono (awake_any _) ?_); rintro e w1 ⟨rfl, hb1⟩; have B_1 := Lib.hid (thenB (show Below w.heap.size w _ by (repeat (first | with_reducible exact Below.refl _ _ | with_reducible assumption | with_reducible refine Below.alloc ?_ (by first | (simp; done) | (simp; omega) | omega) _ | with_reducible refine Below.setCell ?_ (by first | (simp; done) | (simp; omega) | omega) _ | with_reducible refine Below.drew ?_ | with_reducible refine below_drewN ?_ _))) hb1); go_must (have a0_1 := keep hb1 (b := w.heap.size) (o := 0) (v := .slice A na ca) (by simp [go_sem, *])); go_must (have a1_1 := keep hb1 (b := w.heap.size) (o := 1) (v := .int .i64 da) (by simp [go_sem, *])); go_must (have b0_1 := keep hb1 (b := w.heap.size + 1) (o := 0) (v := .slice B nb cb) (by simp [go_sem, *])); go_must (have b1_1 := keep hb1 (b := w.heap.size + 1) (o := 1) (v := .int .i64 db) (by simp [go_sem, *])); have HA_1 := Lib.hid (HA.out.bel B_1.out); have HB_1 := Lib.hid (HB.out.bel B_1.out); clear hb1)
    | (go_at_call 12; (with_reducible refine Calls.mono (KFW.out _) ?_); rintro e w2 ⟨rfl, hb2⟩; have B_2 := Lib.hid (thenB (show Below w.heap.size w _ by have Bq := B_1.out; have Bz := Bq.size; (repeat (first | with_reducible exact Below.refl _ _ | with_reducible assumption | with_reducible refine Below.alloc ?_ (by first | (simp; done) | (simp; omega) | omega) _ | with_reducible refine Below.setCell ?_ (by first | (simp; done) | (simp; omega) | omega) _ | with_reducible refine Below.drew ?_ | with_reducible refine below_drewN ?_ _))) hb2); go_must (have a0_2 := keep hb2 (b := w.heap.size) (o := 0) (v := .slice A na ca) (by simp [go_sem, *])); go_must (have a1_2 := keep hb2 (b := w.heap.size) (o := 1) (v := .int .i64 da) (by simp [go_sem, *])); go_must (have b0_2 := keep hb2 (b := w.heap.size + 1) (o := 0) (v := .slice B nb cb) (by simp [go_sem, *])); go_must (have b1_2 := keep hb2 (b := w.heap.size + 1) (o := 1) (v := .int .i64 db) (by simp [go_sem, *])); have HA_2 := Lib.hid (HA.out.bel B_2.out); have HB_2 := Lib.hid (HB.out.bel B_2.out); clear hb2)
    | fail)
  go_ret
  exact ⟨ret_bool (by simp), B_2.out⟩
set_option maxRecDepth 100000 in
set_option maxHeartbeats 800000 in
theorem both_D (A B : Option Addr) (na nb ca cb : Nat) (da db s D : Int) (ka kb : Nat → Knot) (w : World) (hAA : KA w A na ka) (hBB : KA w B nb kb)
    (hFW : ∀ W, Calls Tryz.prog 12 #[.agg #[.slice A na ca, .int .i64 da], .agg #[.slice B nb cb, .int .i64 db]] W fun e w' => e = .returned (.bool true) ∧ Below W.heap.size W w') (hBE : ∀ W, KA W A na ka → KA W B nb kb → Calls Tryz.prog 16 #[.agg #[.slice A na ca, .int .i64 da], .agg #[.slice B nb cb, .int .i64 db]] W fun e w' => e = .returned (.int .i64 D) ∧ Below W.heap.size W w') (hD : (D != 0) = true) :
    Calls Tryz.prog 6 #[.agg #[.slice A na ca, .int .i64 da], .agg #[.slice B nb cb, .int .i64 db], .int .i64 s] w fun e w' => e = .returned (.bool true) ∧ Below w.heap.size w w' := by
  have HA := Lib.hid hAA
  have HB := Lib.hid hBB
  have KFW := Lib.hid hFW
  have KBE := Lib.hid hBE
  clear hAA hBB hFW hBE
  go_enter Tryz.func6, Tryz.ntmps6
  go_wp2_with (first
    | (go_at_call 11; (with_reducible refine Calls.mono (awake_any _) ?_); rintro e w1 ⟨rfl, hb1⟩; have B_1 := Lib.hid (thenB (show Below w.heap.size w _ by (repeat (first | with_reducible exact Below.refl _ _ | with_reducible assumption | with_reducible refine Below.alloc ?_ (by first | (simp; done) | (simp; omega) | omega) _ | with_reducible refine Below.setCell ?_ (by first | (simp; done) | (simp; omega) | omega) _ | with_reducible refine Below.drew ?_ | with_reducible refine below_drewN ?_ _))) hb1); go_must (have a0_1 := keep hb1 (b := w.heap.size) (o := 0) (v := .slice A na ca) (by simp [go_sem, *])); go_must (have a1_1 := keep hb1 (b := w.heap.size) (o := 1) (v := .int .i64 da) (by simp [go_sem, *])); go_must (have b0_1 := keep hb1 (b := w.heap.size + 1) (o := 0) (v := .slice B nb cb) (by simp [go_sem, *])); go_must (have b1_1 := keep hb1 (b := w.heap.size + 1) (o := 1) (v := .int .i64 db) (by simp [go_sem, *])); have HA_1 := Lib.hid (HA.out.bel B_1.out); have HB_1 := Lib.hid (HB.out.bel B_1.out); clear hb1)
    | (go_at_call 12; (with_reducible refine Calls.mono (KFW.out _) ?_); rintro e w2 ⟨rfl, hb2⟩; have B_2 := Lib.hid (thenB (show Below w.heap.size w _ by have Bq := B_1.out; have Bz := Bq.size; (repeat (first | with_reducible exact Below.refl _ _ | with_reducible assumption | with_reducible refine Below.alloc ?_ (by first | (simp; done) | (simp; omega) | omega) _ | with_reducible refine Below.setCell ?_ (by first | (simp; done) | (simp; omega) | omega) _ | with_reducible refine Below.drew ?_ | with_reducible refine below_drewN ?_ _))) hb2); go_must (have a0_2 := keep hb2 (b := w.heap.size) (o := 0) (v := .slice A na ca) (by simp [go_sem, *])); go_must (have a1_2 := keep hb2 (b := w.heap.size) (o := 1) (v := .int .i64 da) (by simp [go_sem, *])); go_must (have b0_2 := keep hb2 (b := w.heap.size + 1) (o := 0) (v := .slice B nb cb) (by simp [go_sem, *])); go_must (have b1_2 := keep hb2 (b := w.heap.size + 1) (o := 1) (v := .int .i64 db) (by simp [go_sem, *])); have HA_2 := Lib.hid (HA.out.bel B_2.out); have HB_2 := Lib.hid (HB.out.bel B_2.out); clear hb2)
    | (go_at_call 16; (with_reducible refine Calls.mono (KBE.out _ HA_2.out HB_2.out) ?_); rintro e w3 ⟨rfl, hb3⟩; have B_3 := Lib.hid (thenB (show Below w.heap.size w _ by have Bq := B_2.out; have Bz := Bq.size; (repeat (first | with_reducible exact Below.refl _ _ | with_reducible assumption | with_reducible refine Below.alloc ?_ (by first | (simp; done) | (simp; omega) | omega) _ | with_reducible refine Below.setCell ?_ (by first | (simp; done) | (simp; omega) | omega) _ | with_reducible refine Below.drew ?_ | with_reducible refine below_drewN ?_ _))) hb3); go_must (have a0_3 := keep hb3 (b := w.heap.size) (o := 0) (v := .slice A na ca) (by simp [go_sem, *])); go_must (have a1_3 := keep hb3 (b := w.heap.size) (o := 1) (v := .int .i64 da) (by simp [go_sem, *])); go_must (have b0_3 := keep hb3 (b := w.heap.size + 1) (o := 0) (v := .slice B nb cb) (by simp [go_sem, *])); go_must (have b1_3 := keep hb3 (b := w.heap.size + 1) (o := 1) (v := .int .i64 db) (by simp [go_sem, *])); have HA_3 := Lib.hid (HA.out.bel B_3.out); have HB_3 := Lib.hid (HB.out.bel B_3.out); clear hb3)
    | fail)
  go_ret
  exact ⟨ret_bool (by simp), B_3.out⟩
set_option maxRecDepth 100000 in
set_option maxHeartbeats 800000 in
theorem both_T (A B : Option Addr) (na nb ca cb : Nat) (da db s T : Int) (ka kb : Nat → Knot) (w : World) (hAA : KA w A na ka) (hBB : KA w B nb kb)
    (hFW : ∀ W, Calls Tryz.prog 12 #[.agg #[.slice A na ca, .int .i64 da], .agg #[.slice B nb cb, .int .i64 db]] W fun e w' => e = .returned (.bool true) ∧ Below W.heap.size W w') (hBE : ∀ W, KA W A na ka → KA W B nb kb → Calls Tryz.prog 16 #[.agg #[.slice A na ca, .int .i64 da], .agg #[.slice B nb cb, .int .i64 db]] W fun e w' => e = .returned (.int .i64 0) ∧ Below W.heap.size W w') (hTE : ∀ W, KA W A na ka → KA W B nb kb → Calls Tryz.prog 17 #[.agg #[.slice A na ca, .int .i64 da], .agg #[.slice B nb cb, .int .i64 db], .int .i64 s] W fun e w' => e = .returned (.int .i64 T) ∧ Below W.heap.size W w') (hT : (T != 0) = true) :
    Calls Tryz.prog 6 #[.agg #[.slice A na ca, .int .i64 da], .agg #[.slice B nb cb, .int .i64 db], .int .i64 s] w fun e w' => e = .returned (.bool true) ∧ Below w.heap.size w w' := by
  have HA := Lib.hid hAA
  have HB := Lib.hid hBB
  have KFW := Lib.hid hFW
  have KBE := Lib.hid hBE
  have KTE := Lib.hid hTE
  clear hAA hBB hFW hBE hTE
  go_enter Tryz.func6, Tryz.ntmps6
  go_wp2_with (first
    | (go_at_call 11; (with_reducible refine Calls.mono (awake_any _) ?_); rintro e w1 ⟨rfl, hb1⟩; have B_1 := Lib.hid (thenB (show Below w.heap.size w _ by (repeat (first | with_reducible exact Below.refl _ _ | with_reducible assumption | with_reducible refine Below.alloc ?_ (by first | (simp; done) | (simp; omega) | omega) _ | with_reducible refine Below.setCell ?_ (by first | (simp; done) | (simp; omega) | omega) _ | with_reducible refine Below.drew ?_ | with_reducible refine below_drewN ?_ _))) hb1); go_must (have a0_1 := keep hb1 (b := w.heap.size) (o := 0) (v := .slice A na ca) (by simp [go_sem, *])); go_must (have a1_1 := keep hb1 (b := w.heap.size) (o := 1) (v := .int .i64 da) (by simp [go_sem, *])); go_must (have b0_1 := keep hb1 (b := w.heap.size + 1) (o := 0) (v := .slice B nb cb) (by simp [go_sem, *])); go_must (have b1_1 := keep hb1 (b := w.heap.size + 1) (o := 1) (v := .int .i64 db) (by simp [go_sem, *])); have HA_1 := Lib.hid (HA.out.bel B_1.out); have HB_1 := Lib.hid (HB.out.bel B_1.out); clear hb1)
    | (go_at_call 12; (with_reducible refine Calls.mono (KFW.out _) ?_); rintro e w2 ⟨rfl, hb2⟩; have B_2 := Lib.hid (thenB (show Below w.heap.size w _ by have Bq := B_1.out; have Bz := Bq.size; (repeat (first | with_reducible exact Below.refl _ _ | with_reducible assumption | with_reducible refine Below.alloc ?_ (by first | (simp; done) | (simp; omega) | omega) _ | with_reducible refine Below.setCell ?_ (by first | (simp; done) | (simp; omega) | omega) _ | with_reducible refine Below.drew ?_ | with_reducible refine below_drewN ?_ _))) hb2); go_must (have a0_2 := keep hb2 (b := w.heap.size) (o := 0) (v := .slice A na ca) (by simp [go_sem, *])); go_must (have a1_2 := keep hb2 (b := w.heap.size) (o := 1) (v := .int .i64 da) (by simp [go_sem, *])); go_must (have b0_2 := keep hb2 (b := w.heap.size + 1) (o := 0) (v := .slice B nb cb) (by simp [go_sem, *])); go_must (have b1_2 := keep hb2 (b := w.heap.size + 1) (o := 1) (v := .int .i64 db) (by simp [go_sem, *])); have HA_2 := Lib.hid (HA.out.bel B_2.out); have HB_2 := Lib.hid (HB.out.bel B_2.out); clear hb2)
    | (go_at_call 16; (with_reducible refine Calls.mono (KBE.out _ HA_2.out HB_2.out) ?_); rintro e w3 ⟨rfl, hb3⟩; have B_3 := Lib.hid (thenB (show Below w.heap.size w _ by have Bq := B_2.out; have Bz := Bq.size; (repeat (first | with_reducible exact Below.refl _ _ | with_reducible assumption | with_reducible refine Below.alloc ?_ (by first | (simp; done) | (simp; omega) | omega) _ | with_reducible refine Below.setCell ?_ (by first | (simp; done) | (simp; omega) | omega) _ | with_reducible refine Below.drew ?_ | with_reducible refine below_drewN ?_ _))) hb3); go_must (have a0_3 := keep hb3 (b := w.heap.size) (o := 0) (v := .slice A na ca) (by simp [go_sem, *])); go_must (have a1_3 := keep hb3 (b := w.heap.size) (o := 1) (v := .int .i64 da) (by simp [go_sem, *])); go_must (have b0_3 := keep hb3 (b := w.heap.size + 1) (o := 0) (v := .slice B nb cb) (by simp [go_sem, *])); go_must (have b1_3 := keep hb3 (b := w.heap.size + 1) (o := 1) (v := .int .i64 db) (by simp [go_sem, *])); have HA_3 := Lib.hid (HA.out.bel B_3.out); have HB_3 := Lib.hid (HB.out.bel B_3.out); clear hb3)
    | (go_at_call 17; (with_reducible refine Calls.mono (KTE.out _ HA_3.out HB_3.out) ?_); rintro e w4 ⟨rfl, hb4⟩; have B_4 := Lib.hid (thenB (show Below w.heap.size w _ by have Bq := B_3.out; have Bz := Bq.size; (repeat (first | with_reducible exact Below.refl _ _ | with_reducible assumption | with_reducible refine Below.alloc ?_ (by first | (simp; done) | (simp; omega) | omega) _ | with_reducible refine Below.setCell ?_ (by first | (simp; done) | (simp; omega) | omega) _ | with_reducible refine Below.drew ?_ | with_reducible refine below_drewN ?_ _))) hb4); go_must (have a0_4 := keep hb4 (b := w.heap.size) (o := 0) (v := .slice A na ca) (by simp [go_sem, *])); go_must (have a1_4 := keep hb4 (b := w.heap.size) (o := 1) (v := .int .i64 da) (by simp [go_sem, *])); go_must (have b0_4 := keep hb4 (b := w.heap.size + 1) (o := 0) (v := .slice B nb cb) (by simp [go_sem, *])); go_must (have b1_4 := keep hb4 (b := w.heap.size + 1) (o := 1) (v := .int .i64 db) (by simp [go_sem, *])); have HA_4 := Lib.hid (HA.out.bel B_4.out); have HB_4 := Lib.hid (HB.out.bel B_4.out); clear hb4)
    | fail)
  go_ret
  exact ⟨ret_bool (by simp), B_4.out⟩
theorem pathBothWays_any (A B : Option Addr) (na nb ca cb : Nat) (da db s : Int) (ka kb : Nat → Knot) (w : World) (hn : na ≤ 9223372036854775807) (hm : nb ≤ 9223372036854775807) (hA0 : A = none → na = 0 ∧ ca = 0) (hB0 : B = none → nb = 0 ∧ cb = 0) (hA : KA w A na ka) (hB : KA w B nb kb) :
    Calls Tryz.prog 6 #[.agg #[.slice A na ca, .int .i64 da], .agg #[.slice B nb cb, .int .i64 db], .int .i64 s] w fun e w' => e = .returned (.bool true) ∧ Below w.heap.size w w' := by
  have hF := fun W => few2_any A B na ca nb cb da db W hn hm
  by_cases h : na ≤ 14 ∧ nb ≤ 14
  case neg =>
    have q : (decide ((na : Int) ≤ 14) && decide ((nb : Int) ≤ 14)) = false := by simp; omega
    rw [q] at hF
    exact both_few A B na nb ca cb da db s ka kb w hA hB hF
  obtain ⟨na1, nb1⟩ := h
  have q : (decide ((na : Int) ≤ 14) && decide ((nb : Int) ≤ 14)) = true := by simp; omega
  rw [q] at hF
  have hBE := fun W (h1 : KA W A na ka) (h2 : KA W B nb kb) => bothErr_any A B na ca nb cb da db ka kb W hn hm h1 h2
  change ∀ W, _ → _ → Calls _ _ _ _ (fun e w' => e = .returned (.int .i64 (bothErr (⟨A, na, ca, ka, da⟩ : TV) (⟨B, nb, cb, kb, db⟩ : TV))) ∧ _) at hBE
  by_cases hD : bothErr (⟨A, na, ca, ka, da⟩ : TV) (⟨B, nb, cb, kb, db⟩ : TV) = 0
  case neg => exact both_D A B na nb ca cb da db s _ ka kb w hA hB hF hBE (by simpa using hD)
  rw [hD] at hBE
  have eA : ctErr ka na da = 0 := by
    by_cases e : ctErr ka na da = 0
    · exact e
    · exact absurd (show ctErr ka na da = 0 by unfold bothErr TV.err at hD; rwa [if_neg e] at hD) e
  have eB : ctErr kb nb db = 0 := by unfold bothErr TV.err at hD; rwa [if_pos eA] at hD
  obtain ⟨va1, va2, _, _⟩ := valid_of eA
  obtain ⟨vb1, vb2, _, _⟩ := valid_of eB
  have at0 : ∀ W, KA W A na ka → KA W B nb kb → ∃ ba oa bb ob, A = some ⟨ba, oa, none⟩ ∧ B = some ⟨bb, ob, none⟩ ∧ (Trk.mk ba oa na ca ka da).At W ∧ (Trk.mk bb ob nb cb kb db).At W := by
    intro W h1 h2
    obtain ⟨ba, oa, e1, hta⟩ := TV.valid (t := (⟨A, na, ca, ka, da⟩ : TV)) (w := W) ⟨h1, by show na ≤ _; omega⟩ eA
    obtain ⟨bb, ob, e2, htb⟩ := TV.valid (t := (⟨B, nb, cb, kb, db⟩ : TV)) (w := W) ⟨h2, by show nb ≤ _; omega⟩ eB
    exact ⟨ba, oa, bb, ob, e1, e2, hta, htb⟩
  have hTX : ∀ x W, KA W A na ka → KA W B nb kb → Calls Tryz.prog 17 #[.agg #[.slice A na ca, .int .i64 da], .agg #[.slice B nb cb, .int .i64 db], .int .i64 x] W fun e w' => e = .returned (.int .i64 (timesErr (⟨A, na, ca, ka, da⟩ : TV) (⟨B, nb, cb, kb, db⟩ : TV) x)) ∧ Below W.heap.size W w' := by
    intro x W h1 h2
    obtain ⟨ba, oa, bb, ob, rfl, rfl, hta, htb⟩ := at0 W h1 h2
    exact timesErr_any ba oa bb ob na ca nb cb da db x ka kb W va1 (by omega) vb1 (by omega) hta.2.2 htb.2.2
  have hTE := hTX s
  by_cases hT : timesErr (⟨A, na, ca, ka, da⟩ : TV) (⟨B, nb, cb, kb, db⟩ : TV) s = 0
  case neg => exact both_T A B na nb ca cb da db s _ ka kb w hA hB hF hBE hTE (by simpa using hT)
  rw [hT] at hTE
  have hd := rv_0 (A := (⟨A, na, ca, ka, da⟩ : TV)) (B := (⟨B, nb, cb, kb, db⟩ : TV)) eA eB hT
  obtain ⟨tA, tB⟩ := distErr_in hd
  have cArr : ∀ x y, TIn (TV.t (⟨A, na, ca, ka, da⟩ : TV)) x → TIn (TV.t (⟨B, nb, cb, kb, db⟩ : TV)) y → x ≤ y → y - x ≤ 20000000000 → ∀ W, KA W A na ka → KA W B nb kb → Calls Tryz.prog 28 #[.agg #[.slice A na ca, .int .i64 da], .agg #[.slice B nb cb, .int .i64 db], .int .i64 x, .int .i64 y] W fun e w' => e = .returned (.bool (arrB (TV.t (⟨A, na, ca, ka, da⟩ : TV)) (TV.t (⟨B, nb, cb, kb, db⟩ : TV)) x y)) ∧ Below W.heap.size W w' := by
    intro x y hx hy hxy hs W h1 h2
    obtain ⟨ba, oa, bb, ob, rfl, rfl, hta, htb⟩ := at0 W h1 h2
    exact rarrived_any W ⟨ba, oa, na, ca, ka, da⟩ ⟨bb, ob, nb, cb, kb, db⟩ x y ⟨hta, hx.1, hx.2⟩ ⟨htb, hy.1, hy.2⟩ hxy hs
  have cAway : ∀ x y, TIn (TV.t (⟨A, na, ca, ka, da⟩ : TV)) x → TIn (TV.t (⟨B, nb, cb, kb, db⟩ : TV)) y → x ≤ y → y - x ≤ 20000000000 → ∀ W, KA W A na ka → KA W B nb kb → Calls Tryz.prog 29 #[.agg #[.slice A na ca, .int .i64 da], .agg #[.slice B nb cb, .int .i64 db], .int .i64 x, .int .i64 y] W fun e w' => e = .returned (.bool (awayB (TV.t (⟨A, na, ca, ka, da⟩ : TV)) (TV.t (⟨B, nb, cb, kb, db⟩ : TV)) x y)) ∧ Below W.heap.size W w' := by
    intro x y hx hy hxy hs W h1 h2
    obtain ⟨ba, oa, bb, ob, rfl, rfl, hta, htb⟩ := at0 W h1 h2
    exact raway_any W ⟨ba, oa, na, ca, ka, da⟩ ⟨bb, ob, nb, cb, kb, db⟩ x y ⟨hta, hx.1, hx.2⟩ ⟨htb, hy.1, hy.2⟩ hxy hs
  have hLT : ∀ W, KA W A na ka → KA W B nb kb → Calls Tryz.prog 27 #[.agg #[.slice B nb cb, .int .i64 db]] W fun e w' => e = .returned (.int .i64 (lastT (TV.t (⟨B, nb, cb, kb, db⟩ : TV)))) ∧ Below W.heap.size W w' := by
    intro W h1 h2
    obtain ⟨ba, oa, bb, ob, rfl, rfl, hta, htb⟩ := at0 W h1 h2
    have hc := (htb.2.2.2 (nb - 1) (by show nb - 1 < nb; omega)).1
    refine (rlast_any bb ob nb cb db _ W vb1 (by omega) hc).mono ?_
    rintro e w' ⟨rfl, o1, rfl⟩
    exact ⟨rfl, (Below.refl _ _).alloc (Nat.le_refl _) _⟩
  have hFT : ∀ W, KA W A na ka → KA W B nb kb → Calls Tryz.prog 30 #[.agg #[.slice A na ca, .int .i64 da]] W fun e w' => e = .returned (.int .i64 (firstT (TV.t (⟨A, na, ca, ka, da⟩ : TV)))) ∧ Below W.heap.size W w' := by
    intro W h1 h2
    obtain ⟨ba, oa, bb, ob, rfl, rfl, hta, htb⟩ := at0 W h1 h2
    have hc := (hta.2.2.2 0 va1).1
    rw [show oa + 0 * 4 = oa by omega] at hc
    refine (rfirst_any ba oa na ca da _ W va1 (by omega) hc).mono ?_
    rintro e w' ⟨rfl, o1, rfl⟩
    exact ⟨rfl, (Below.refl _ _).alloc (Nat.le_refl _) _⟩
  have hRX : ∀ x W X cx Y cy, KA W X na ka → KA W Y nb kb → Calls Tryz.prog 20 #[.agg #[.slice X na cx, .int .i64 da], .agg #[.slice Y nb cy, .int .i64 db], .int .i64 x] W fun e w' => e = .returned (.tuple #[.agg #[.int .i64 (rvLo (⟨A, na, ca, ka, da⟩ : TV) (⟨B, nb, cb, kb, db⟩ : TV) x), .int .i64 (rvHi (⟨A, na, ca, ka, da⟩ : TV) (⟨B, nb, cb, kb, db⟩ : TV) x)], .int .i64 (rvE (⟨A, na, ca, ka, da⟩ : TV) (⟨B, nb, cb, kb, db⟩ : TV) x)]) ∧ Below W.heap.size W w' :=
    fun x W X cx Y cy h1 h2 => receivedAt_n ⟨X, na, cx, ka, da⟩ ⟨Y, nb, cy, kb, db⟩ x W ⟨h1, by show na ≤ _; omega⟩ ⟨h2, by show nb ≤ _; omega⟩
  have hRA := hRX s
  have hSA : ∀ W X cx Y cy, KA W X na ka → KA W Y nb kb → Calls Tryz.prog 21 #[.agg #[.slice X na cx, .int .i64 da], .agg #[.slice Y nb cy, .int .i64 db], .int .i64 s] W fun e w' => e = .returned (.tuple #[.agg #[.int .i64 (stLo (⟨A, na, ca, ka, da⟩ : TV) (⟨B, nb, cb, kb, db⟩ : TV) s), .int .i64 (stHi (⟨A, na, ca, ka, da⟩ : TV) (⟨B, nb, cb, kb, db⟩ : TV) s)], .int .i64 (stE (⟨A, na, ca, ka, da⟩ : TV) (⟨B, nb, cb, kb, db⟩ : TV) s)]) ∧ Below W.heap.size W w' :=
    fun W X cx Y cy h1 h2 => sentAt_n X Y na cx nb cy ka kb da db s W ⟨h1, by show na ≤ _; omega⟩ ⟨h2, by show nb ≤ _; omega⟩
  have hRT : ∀ W X cx Y cy, KA W X na ka → KA W Y nb kb → Calls Tryz.prog 31 #[.agg #[.slice X na cx, .int .i64 da], .agg #[.slice Y nb cy, .int .i64 db], .int .i64 s] W fun e w' => e = .returned (.tuple #[.agg #[.int .i64 (tripLo (⟨A, na, ca, ka, da⟩ : TV) (⟨B, nb, cb, kb, db⟩ : TV) s), .int .i64 (tripHi (⟨A, na, ca, ka, da⟩ : TV) (⟨B, nb, cb, kb, db⟩ : TV) s)], .int .i64 (tripE (⟨A, na, ca, ka, da⟩ : TV) (⟨B, nb, cb, kb, db⟩ : TV) s)]) ∧ Below W.heap.size W w' :=
    fun W X cx Y cy h1 h2 => roundTrip_n ⟨X, na, cx, ka, da⟩ ⟨Y, nb, cy, kb, db⟩ s W ⟨h1, by show na ≤ _; omega⟩ ⟨h2, by show nb ≤ _; omega⟩
  have hRR : ∀ W, KA W A na ka → KA W B nb kb → Calls Tryz.prog 32 #[.agg #[.slice A na ca, .int .i64 da], .agg #[.slice B nb cb, .int .i64 db], .int .i64 s] W fun e w' => e = .returned (.tuple #[.agg #[.int .i64 (tripLo (⟨A, na, ca, ka, da⟩ : TV) (⟨B, nb, cb, kb, db⟩ : TV) s), .int .i64 (tripHi (⟨A, na, ca, ka, da⟩ : TV) (⟨B, nb, cb, kb, db⟩ : TV) s)], .int .i64 (tripE (⟨A, na, ca, ka, da⟩ : TV) (⟨B, nb, cb, kb, db⟩ : TV) s)]) ∧ Below W.heap.size W w' := by
    intro W h1 h2
    obtain ⟨ba, oa, bb, ob, rfl, rfl, hta, htb⟩ := at0 W h1 h2
    exact rroundTrip_n ⟨ba, oa, na, ca, ka, da⟩ ⟨bb, ob, nb, cb, kb, db⟩ s W hta htb eA eB
  have lB := tB.last
  have fA : firstT (TV.t (⟨A, na, ca, ka, da⟩ : TV)) ≤ s := tA.first
  have tBl := tB.to lB (Int.le_refl _)
  have tAf := tA.back (Int.le_refl _) fA
  have bs := time_bd tA
  have bT := time_bd tBl
  have bF := time_bd tAf
  have spB : ∀ y, TIn (TV.t (⟨B, nb, cb, kb, db⟩ : TV)) y → y - s ≤ 120000 := fun y hy => span_t tB.1 tB.2 hy.2
  have spA : ∀ x, TIn (TV.t (⟨A, na, ca, ka, da⟩ : TV)) x → s - x ≤ 120000 := fun x hx => span_t tA.1 hx.2 tA.2
  have rt0 := fun e => trip_sound (A := (⟨A, na, ca, ka, da⟩ : TV)) (B := (⟨B, nb, cb, kb, db⟩ : TV)) (s := s) e
  -- the sending
  have hG : stE (⟨A, na, ca, ka, da⟩ : TV) (⟨B, nb, cb, kb, db⟩ : TV) s ≠ 0 → stE (⟨A, na, ca, ka, da⟩ : TV) (⟨B, nb, cb, kb, db⟩ : TV) s = 12 := fun z => (by
    cases q2 : arrB (TV.t (⟨A, na, ca, ka, da⟩ : TV)) (TV.t (⟨B, nb, cb, kb, db⟩ : TV)) (firstT (TV.t (⟨A, na, ca, ka, da⟩ : TV))) s
    · exact st_2 hd q2
    · exact absurd (st_3 hd q2).1 z)
  have gs : stE (⟨A, na, ca, ka, da⟩ : TV) (⟨B, nb, cb, kb, db⟩ : TV) s = 0 → arrB (TV.t (⟨A, na, ca, ka, da⟩ : TV)) (TV.t (⟨B, nb, cb, kb, db⟩ : TV)) (firstT (TV.t (⟨A, na, ca, ka, da⟩ : TV))) s = true := fun z => (by
    cases q2 : arrB (TV.t (⟨A, na, ca, ka, da⟩ : TV)) (TV.t (⟨B, nb, cb, kb, db⟩ : TV)) (firstT (TV.t (⟨A, na, ca, ka, da⟩ : TV))) s
    · rw [st_2 hd q2] at z; cases z
    · rfl)
  have hS0 : stE (⟨A, na, ca, ka, da⟩ : TV) (⟨B, nb, cb, kb, db⟩ : TV) s ≠ 0 → ∀ W, KA W A na ka → KA W B nb kb → Calls Tryz.prog 28 #[.agg #[.slice A na ca, .int .i64 da], .agg #[.slice B nb cb, .int .i64 db], .int .i64 (firstT (TV.t (⟨A, na, ca, ka, da⟩ : TV))), .int .i64 s] W fun e w' => e = .returned (.bool false) ∧ Below W.heap.size W w' := fun z W h1 h2 => (by
    have q2 : arrB (TV.t (⟨A, na, ca, ka, da⟩ : TV)) (TV.t (⟨B, nb, cb, kb, db⟩ : TV)) (firstT (TV.t (⟨A, na, ca, ka, da⟩ : TV))) s = false := by
      cases q2 : arrB (TV.t (⟨A, na, ca, ka, da⟩ : TV)) (TV.t (⟨B, nb, cb, kb, db⟩ : TV)) (firstT (TV.t (⟨A, na, ca, ka, da⟩ : TV))) s
      · rfl
      · exact absurd (st_3 hd q2).1 z
    have y := cArr (firstT (TV.t (⟨A, na, ca, ka, da⟩ : TV))) s tAf tB fA (by have := spA _ tAf; omega) W h1 h2
    rw [q2] at y
    exact y)
  have gn : stE (⟨A, na, ca, ka, da⟩ : TV) (⟨B, nb, cb, kb, db⟩ : TV) s = 0 → firstT (TV.t (⟨A, na, ca, ka, da⟩ : TV)) < snD (TV.t (⟨A, na, ca, ka, da⟩ : TV)) (TV.t (⟨B, nb, cb, kb, db⟩ : TV)) s ∧ stLo (⟨A, na, ca, ka, da⟩ : TV) (⟨B, nb, cb, kb, db⟩ : TV) s = snD (TV.t (⟨A, na, ca, ka, da⟩ : TV)) (TV.t (⟨B, nb, cb, kb, db⟩ : TV)) s - 1 ∧ stHi (⟨A, na, ca, ka, da⟩ : TV) (⟨B, nb, cb, kb, db⟩ : TV) s = min s (snL (TV.t (⟨A, na, ca, ka, da⟩ : TV)) (TV.t (⟨B, nb, cb, kb, db⟩ : TV)) s) := fun z => ⟨sn_some (B := (TV.t (⟨B, nb, cb, kb, db⟩ : TV))) tA (gs z), (st_3 hd (gs z)).2⟩
  have sr := snD_RL (B := (TV.t (⟨B, nb, cb, kb, db⟩ : TV))) tA
  have sl := (snL_RL (B := (TV.t (⟨B, nb, cb, kb, db⟩ : TV))) tA).1
  have s2 := sr.2.1
  have f0 : stE (⟨A, na, ca, ka, da⟩ : TV) (⟨B, nb, cb, kb, db⟩ : TV) s = 0 → firstT (TV.t (⟨A, na, ca, ka, da⟩ : TV)) ≤ stLo (⟨A, na, ca, ka, da⟩ : TV) (⟨B, nb, cb, kb, db⟩ : TV) s ∧ stLo (⟨A, na, ca, ka, da⟩ : TV) (⟨B, nb, cb, kb, db⟩ : TV) s ≤ stHi (⟨A, na, ca, ka, da⟩ : TV) (⟨B, nb, cb, kb, db⟩ : TV) s ∧ stHi (⟨A, na, ca, ka, da⟩ : TV) (⟨B, nb, cb, kb, db⟩ : TV) s ≤ s := fun z => (by
    obtain ⟨g1, g2, g3⟩ := gn z
    rw [g2, g3]
    omega)
  have hq1 : stE (⟨A, na, ca, ka, da⟩ : TV) (⟨B, nb, cb, kb, db⟩ : TV) s = 0 → TIn (TV.t (⟨A, na, ca, ka, da⟩ : TV)) (stLo (⟨A, na, ca, ka, da⟩ : TV) (⟨B, nb, cb, kb, db⟩ : TV) s) ∧ arrB (TV.t (⟨A, na, ca, ka, da⟩ : TV)) (TV.t (⟨B, nb, cb, kb, db⟩ : TV)) (stLo (⟨A, na, ca, ka, da⟩ : TV) (⟨B, nb, cb, kb, db⟩ : TV) s) s = true := fun z => (by
    obtain ⟨g1, g2, g3⟩ := gn z
    rw [g2]
    exact ⟨tA.back (by omega) (by omega), sn_lo_arr tA g1⟩)
  have hS1 : stE (⟨A, na, ca, ka, da⟩ : TV) (⟨B, nb, cb, kb, db⟩ : TV) s = 0 → ∀ W, KA W A na ka → KA W B nb kb → Calls Tryz.prog 28 #[.agg #[.slice A na ca, .int .i64 da], .agg #[.slice B nb cb, .int .i64 db], .int .i64 (stLo (⟨A, na, ca, ka, da⟩ : TV) (⟨B, nb, cb, kb, db⟩ : TV) s), .int .i64 s] W fun e w' => e = .returned (.bool true) ∧ Below W.heap.size W w' := fun z W h1 h2 => (by
    obtain ⟨g4, g5⟩ := hq1 z
    have y := cArr (stLo (⟨A, na, ca, ka, da⟩ : TV) (⟨B, nb, cb, kb, db⟩ : TV) s) s g4 tB (by have := f0 z; omega) (by have := spA _ g4; omega) W h1 h2
    rw [g5] at y
    exact y)
  have hS2 : stE (⟨A, na, ca, ka, da⟩ : TV) (⟨B, nb, cb, kb, db⟩ : TV) s = 0 → (stLo (⟨A, na, ca, ka, da⟩ : TV) (⟨B, nb, cb, kb, db⟩ : TV) s) < s → ∀ W, KA W A na ka → KA W B nb kb → Calls Tryz.prog 28 #[.agg #[.slice A na ca, .int .i64 da], .agg #[.slice B nb cb, .int .i64 db], .int .i64 ((stLo (⟨A, na, ca, ka, da⟩ : TV) (⟨B, nb, cb, kb, db⟩ : TV) s) + 1), .int .i64 s] W fun e w' => e = .returned (.bool false) ∧ Below W.heap.size W w' := fun z hl W h1 h2 => (by
    obtain ⟨g1, g2, g3⟩ := gn z
    rw [g2] at hl ⊢
    have tS2 := tA.back (s := snD (TV.t (⟨A, na, ca, ka, da⟩ : TV)) (TV.t (⟨B, nb, cb, kb, db⟩ : TV)) s - 1 + 1) (by omega) (by omega)
    have y := cArr (snD (TV.t (⟨A, na, ca, ka, da⟩ : TV)) (TV.t (⟨B, nb, cb, kb, db⟩ : TV)) s - 1 + 1) s tS2 tB (by omega) (by have := spA _ tS2; omega) W h1 h2
    rw [sn_next tA hl] at y
    exact y)
  have hTS : stE (⟨A, na, ca, ka, da⟩ : TV) (⟨B, nb, cb, kb, db⟩ : TV) s = 0 → ∀ W, KA W A na ka → KA W B nb kb → Calls Tryz.prog 17 #[.agg #[.slice A na ca, .int .i64 da], .agg #[.slice B nb cb, .int .i64 db], .int .i64 (stLo (⟨A, na, ca, ka, da⟩ : TV) (⟨B, nb, cb, kb, db⟩ : TV) s)] W fun e w' => e = .returned (.int .i64 (timesErr (⟨A, na, ca, ka, da⟩ : TV) (⟨B, nb, cb, kb, db⟩ : TV) (stLo (⟨A, na, ca, ka, da⟩ : TV) (⟨B, nb, cb, kb, db⟩ : TV) s))) ∧ Below W.heap.size W w' := fun _ => hTX (stLo (⟨A, na, ca, ka, da⟩ : TV) (⟨B, nb, cb, kb, db⟩ : TV) s)
  have hback : stE (⟨A, na, ca, ka, da⟩ : TV) (⟨B, nb, cb, kb, db⟩ : TV) s = 0 → timesErr (⟨A, na, ca, ka, da⟩ : TV) (⟨B, nb, cb, kb, db⟩ : TV) (stLo (⟨A, na, ca, ka, da⟩ : TV) (⟨B, nb, cb, kb, db⟩ : TV) s) = 0 → rvE (⟨A, na, ca, ka, da⟩ : TV) (⟨B, nb, cb, kb, db⟩ : TV) (stLo (⟨A, na, ca, ka, da⟩ : TV) (⟨B, nb, cb, kb, db⟩ : TV) s) = 0 ∧ rvLo (⟨A, na, ca, ka, da⟩ : TV) (⟨B, nb, cb, kb, db⟩ : TV) (stLo (⟨A, na, ca, ka, da⟩ : TV) (⟨B, nb, cb, kb, db⟩ : TV) s) = rcLo (TV.t (⟨A, na, ca, ka, da⟩ : TV)) (TV.t (⟨B, nb, cb, kb, db⟩ : TV)) (stLo (⟨A, na, ca, ka, da⟩ : TV) (⟨B, nb, cb, kb, db⟩ : TV) s) ∧ rvHi (⟨A, na, ca, ka, da⟩ : TV) (⟨B, nb, cb, kb, db⟩ : TV) (stLo (⟨A, na, ca, ka, da⟩ : TV) (⟨B, nb, cb, kb, db⟩ : TV) s) = rcHi (TV.t (⟨A, na, ca, ka, da⟩ : TV)) (TV.t (⟨B, nb, cb, kb, db⟩ : TV)) (stLo (⟨A, na, ca, ka, da⟩ : TV) (⟨B, nb, cb, kb, db⟩ : TV) s) ∧ rcHi (TV.t (⟨A, na, ca, ka, da⟩ : TV)) (TV.t (⟨B, nb, cb, kb, db⟩ : TV)) (stLo (⟨A, na, ca, ka, da⟩ : TV) (⟨B, nb, cb, kb, db⟩ : TV) s) ≤ s := fun z hZ => (by
    obtain ⟨g4, g5⟩ := hq1 z
    have d2 := rv_0 (A := (⟨A, na, ca, ka, da⟩ : TV)) (B := (⟨B, nb, cb, kb, db⟩ : TV)) eA eB hZ
    obtain ⟨u1, u2⟩ := distErr_in d2
    have arl := arr_mono u1 (by have := f0 z; omega) tB tBl lB g5
    obtain ⟨i1, i2, i3⟩ := rv_3 d2 arl
    exact ⟨i1, i2, i3, rcHi_le u1 u2 (by have := f0 z; omega) lB g5⟩)
  have hRB : stE (⟨A, na, ca, ka, da⟩ : TV) (⟨B, nb, cb, kb, db⟩ : TV) s = 0 → timesErr (⟨A, na, ca, ka, da⟩ : TV) (⟨B, nb, cb, kb, db⟩ : TV) (stLo (⟨A, na, ca, ka, da⟩ : TV) (⟨B, nb, cb, kb, db⟩ : TV) s) = 0 → ∀ W X cx Y cy, KA W X na ka → KA W Y nb kb → Calls Tryz.prog 20 #[.agg #[.slice X na cx, .int .i64 da], .agg #[.slice Y nb cy, .int .i64 db], .int .i64 (stLo (⟨A, na, ca, ka, da⟩ : TV) (⟨B, nb, cb, kb, db⟩ : TV) s)] W fun e w' => e = .returned (.tuple #[.agg #[.int .i64 (rcLo (TV.t (⟨A, na, ca, ka, da⟩ : TV)) (TV.t (⟨B, nb, cb, kb, db⟩ : TV)) (stLo (⟨A, na, ca, ka, da⟩ : TV) (⟨B, nb, cb, kb, db⟩ : TV) s)), .int .i64 (rcHi (TV.t (⟨A, na, ca, ka, da⟩ : TV)) (TV.t (⟨B, nb, cb, kb, db⟩ : TV)) (stLo (⟨A, na, ca, ka, da⟩ : TV) (⟨B, nb, cb, kb, db⟩ : TV) s))], .int .i64 0]) ∧ Below W.heap.size W w' := fun z hZ W X cx Y cy h1 h2 => (by
    obtain ⟨i1, i2, i3, _⟩ := hback z hZ
    have y := hRX (stLo (⟨A, na, ca, ka, da⟩ : TV) (⟨B, nb, cb, kb, db⟩ : TV) s) W X cx Y cy h1 h2
    rw [i1, i2, i3] at y
    exact y)
  have b1 : stE (⟨A, na, ca, ka, da⟩ : TV) (⟨B, nb, cb, kb, db⟩ : TV) s = 0 → timesErr (⟨A, na, ca, ka, da⟩ : TV) (⟨B, nb, cb, kb, db⟩ : TV) (stLo (⟨A, na, ca, ka, da⟩ : TV) (⟨B, nb, cb, kb, db⟩ : TV) s) = 0 → rcHi (TV.t (⟨A, na, ca, ka, da⟩ : TV)) (TV.t (⟨B, nb, cb, kb, db⟩ : TV)) (stLo (⟨A, na, ca, ka, da⟩ : TV) (⟨B, nb, cb, kb, db⟩ : TV) s) ≤ s := fun z hZ => (hback z hZ).2.2.2
  -- the receipt
  cases q1 : arrB (TV.t (⟨A, na, ca, ka, da⟩ : TV)) (TV.t (⟨B, nb, cb, kb, db⟩ : TV)) s (lastT (TV.t (⟨B, nb, cb, kb, db⟩ : TV)))
  · have e1 := rv_2 hd q1
    unfold rvLo rvHi at hRA
    rw [e1] at hRA
    change ∀ W X cx Y cy, _ → _ → Calls _ _ _ _ (fun e w' => e = .returned (.tuple #[.agg #[.int .i64 0, .int .i64 0], .int .i64 12]) ∧ _) at hRA
    have hA9 := cArr s (lastT (TV.t (⟨B, nb, cb, kb, db⟩ : TV))) tA tBl lB (by have := spB _ tBl; omega)
    rw [q1] at hA9
    have hi : tripE (⟨A, na, ca, ka, da⟩ : TV) (⟨B, nb, cb, kb, db⟩ : TV) s ≠ 0 := fun z => (by rw [(rt0 z).1] at e1; cases e1)
    exact both_n A B na nb ca cb da db s (lastT (TV.t (⟨B, nb, cb, kb, db⟩ : TV))) (firstT (TV.t (⟨A, na, ca, ka, da⟩ : TV))) (stE (⟨A, na, ca, ka, da⟩ : TV) (⟨B, nb, cb, kb, db⟩ : TV) s) (stLo (⟨A, na, ca, ka, da⟩ : TV) (⟨B, nb, cb, kb, db⟩ : TV) s) (stHi (⟨A, na, ca, ka, da⟩ : TV) (⟨B, nb, cb, kb, db⟩ : TV) s) (timesErr (⟨A, na, ca, ka, da⟩ : TV) (⟨B, nb, cb, kb, db⟩ : TV) (stLo (⟨A, na, ca, ka, da⟩ : TV) (⟨B, nb, cb, kb, db⟩ : TV) s)) (rcLo (TV.t (⟨A, na, ca, ka, da⟩ : TV)) (TV.t (⟨B, nb, cb, kb, db⟩ : TV)) (stLo (⟨A, na, ca, ka, da⟩ : TV) (⟨B, nb, cb, kb, db⟩ : TV) s)) (rcHi (TV.t (⟨A, na, ca, ka, da⟩ : TV)) (TV.t (⟨B, nb, cb, kb, db⟩ : TV)) (stLo (⟨A, na, ca, ka, da⟩ : TV) (⟨B, nb, cb, kb, db⟩ : TV) s)) (tripE (⟨A, na, ca, ka, da⟩ : TV) (⟨B, nb, cb, kb, db⟩ : TV) s) (tripLo (⟨A, na, ca, ka, da⟩ : TV) (⟨B, nb, cb, kb, db⟩ : TV) s) (tripHi (⟨A, na, ca, ka, da⟩ : TV) (⟨B, nb, cb, kb, db⟩ : TV) s) ka kb w hA0 hB0 hA hB na1 nb1 bs.1 bT.2 hG f0 bF.1 bs.2 b1 hi hF hBE hTE hRA hSA hRT hRR hLT hFT hA9 hS1 hS2 hTS hRB hS0
  · obtain ⟨f1, f2, f3⟩ := rv_3 hd q1
    rw [f1, f2, f3] at hRA
    have hl := rc_some tB q1
    have bd := rc_bounds (A := (TV.t (⟨A, na, ca, ka, da⟩ : TV))) tB
    have tH := tB.to (r := rcHi (TV.t (⟨A, na, ca, ka, da⟩ : TV)) (TV.t (⟨B, nb, cb, kb, db⟩ : TV)) s) (by omega) hl
    have tL := tB.to (r := rcLo (TV.t (⟨A, na, ca, ka, da⟩ : TV)) (TV.t (⟨B, nb, cb, kb, db⟩ : TV)) s) (by omega) (by omega)
    have hA1 := cArr s (rcHi (TV.t (⟨A, na, ca, ka, da⟩ : TV)) (TV.t (⟨B, nb, cb, kb, db⟩ : TV)) s) tA tH (by omega) (by have := spB _ tH; omega)
    rw [rc_arr tB hl] at hA1
    have hA2 : s < rcHi (TV.t (⟨A, na, ca, ka, da⟩ : TV)) (TV.t (⟨B, nb, cb, kb, db⟩ : TV)) s → ∀ W, KA W A na ka → KA W B nb kb → Calls Tryz.prog 28 #[.agg #[.slice A na ca, .int .i64 da], .agg #[.slice B nb cb, .int .i64 db], .int .i64 s, .int .i64 (rcHi (TV.t (⟨A, na, ca, ka, da⟩ : TV)) (TV.t (⟨B, nb, cb, kb, db⟩ : TV)) s - 1)] W fun e w' => e = .returned (.bool false) ∧ Below W.heap.size W w' := fun hl2 W h1 h2 => (by
      have tH2 := tB.to (r := rcHi (TV.t (⟨A, na, ca, ka, da⟩ : TV)) (TV.t (⟨B, nb, cb, kb, db⟩ : TV)) s - 1) (by omega) (by omega)
      have z := cArr s (rcHi (TV.t (⟨A, na, ca, ka, da⟩ : TV)) (TV.t (⟨B, nb, cb, kb, db⟩ : TV)) s - 1) tA tH2 (by omega) (by have := spB _ tH2; omega) W h1 h2
      rw [rc_hi_before tB hl2] at z
      exact z)
    have hW1 : s < rcLo (TV.t (⟨A, na, ca, ka, da⟩ : TV)) (TV.t (⟨B, nb, cb, kb, db⟩ : TV)) s → ∀ W, KA W A na ka → KA W B nb kb → Calls Tryz.prog 29 #[.agg #[.slice A na ca, .int .i64 da], .agg #[.slice B nb cb, .int .i64 db], .int .i64 s, .int .i64 (rcLo (TV.t (⟨A, na, ca, ka, da⟩ : TV)) (TV.t (⟨B, nb, cb, kb, db⟩ : TV)) s)] W fun e w' => e = .returned (.bool true) ∧ Below W.heap.size W w' := fun hl2 W h1 h2 => (by
      have z := cAway s (rcLo (TV.t (⟨A, na, ca, ka, da⟩ : TV)) (TV.t (⟨B, nb, cb, kb, db⟩ : TV)) s) tA tL (by omega) (by have := spB _ tL; omega) W h1 h2
      rw [rc_lo_away tB hl2] at z
      exact z)
    have hW2 : rcLo (TV.t (⟨A, na, ca, ka, da⟩ : TV)) (TV.t (⟨B, nb, cb, kb, db⟩ : TV)) s < lastT (TV.t (⟨B, nb, cb, kb, db⟩ : TV)) → ∀ W, KA W A na ka → KA W B nb kb → Calls Tryz.prog 29 #[.agg #[.slice A na ca, .int .i64 da], .agg #[.slice B nb cb, .int .i64 db], .int .i64 s, .int .i64 (rcLo (TV.t (⟨A, na, ca, ka, da⟩ : TV)) (TV.t (⟨B, nb, cb, kb, db⟩ : TV)) s + 1)] W fun e w' => e = .returned (.bool false) ∧ Below W.heap.size W w' := fun hl2 W h1 h2 => (by
      have tL2 := tB.to (r := rcLo (TV.t (⟨A, na, ca, ka, da⟩ : TV)) (TV.t (⟨B, nb, cb, kb, db⟩ : TV)) s + 1) (by omega) (by omega)
      have z := cAway s (rcLo (TV.t (⟨A, na, ca, ka, da⟩ : TV)) (TV.t (⟨B, nb, cb, kb, db⟩ : TV)) s + 1) tA tL2 (by omega) (by have := spB _ tL2; omega) W h1 h2
      rw [rc_lo_next tA tB hl hl2] at z
      exact z)
    have hCR : ∀ W X cx Y cy, KA W X na ka → KA W Y nb kb → Calls Tryz.prog 24 #[.agg #[.slice X na cx, .int .i64 da], .agg #[.slice Y nb cy, .int .i64 db], .agg #[.int .i64 s, .int .i64 (rcLo (TV.t (⟨A, na, ca, ka, da⟩ : TV)) (TV.t (⟨B, nb, cb, kb, db⟩ : TV)) s), .int .i64 (rcHi (TV.t (⟨A, na, ca, ka, da⟩ : TV)) (TV.t (⟨B, nb, cb, kb, db⟩ : TV)) s)]] W fun e w' => e = .returned (.int .i64 (crE (⟨A, na, ca, ka, da⟩ : TV) (⟨B, nb, cb, kb, db⟩ : TV) s (rcLo (TV.t (⟨A, na, ca, ka, da⟩ : TV)) (TV.t (⟨B, nb, cb, kb, db⟩ : TV)) s) (rcHi (TV.t (⟨A, na, ca, ka, da⟩ : TV)) (TV.t (⟨B, nb, cb, kb, db⟩ : TV)) s))) ∧ Below W.heap.size W w' :=
      fun W X cx Y cy h1 h2 => checkReceived_n X Y na cx nb cy ka kb da db s _ _ W ⟨h1, by show na ≤ _; omega⟩ ⟨h2, by show nb ≤ _; omega⟩
    have hTH : crE (⟨A, na, ca, ka, da⟩ : TV) (⟨B, nb, cb, kb, db⟩ : TV) s (rcLo (TV.t (⟨A, na, ca, ka, da⟩ : TV)) (TV.t (⟨B, nb, cb, kb, db⟩ : TV)) s) (rcHi (TV.t (⟨A, na, ca, ka, da⟩ : TV)) (TV.t (⟨B, nb, cb, kb, db⟩ : TV)) s) ≠ 0 → ∀ W, KA W A na ka → KA W B nb kb → Calls Tryz.prog 17 #[.agg #[.slice A na ca, .int .i64 da], .agg #[.slice B nb cb, .int .i64 db], .int .i64 (rcHi (TV.t (⟨A, na, ca, ka, da⟩ : TV)) (TV.t (⟨B, nb, cb, kb, db⟩ : TV)) s)] W fun e w' => e = .returned (.int .i64 2) ∧ Below W.heap.size W w' := fun hc W h1 h2 => (by
      have z := hTX (rcHi (TV.t (⟨A, na, ca, ka, da⟩ : TV)) (TV.t (⟨B, nb, cb, kb, db⟩ : TV)) s) W h1 h2
      rw [(cr_sound hd hl hc).2] at z
      exact z)
    have t0 : tripE (⟨A, na, ca, ka, da⟩ : TV) (⟨B, nb, cb, kb, db⟩ : TV) s = 0 → s ≤ tripLo (⟨A, na, ca, ka, da⟩ : TV) (⟨B, nb, cb, kb, db⟩ : TV) s ∧ tripLo (⟨A, na, ca, ka, da⟩ : TV) (⟨B, nb, cb, kb, db⟩ : TV) s ≤ tripHi (⟨A, na, ca, ka, da⟩ : TV) (⟨B, nb, cb, kb, db⟩ : TV) s ∧ rcLo (TV.t (⟨A, na, ca, ka, da⟩ : TV)) (TV.t (⟨B, nb, cb, kb, db⟩ : TV)) s ≤ tripLo (⟨A, na, ca, ka, da⟩ : TV) (⟨B, nb, cb, kb, db⟩ : TV) s ∧ rcHi (TV.t (⟨A, na, ca, ka, da⟩ : TV)) (TV.t (⟨B, nb, cb, kb, db⟩ : TV)) s ≤ tripHi (⟨A, na, ca, ka, da⟩ : TV) (⟨B, nb, cb, kb, db⟩ : TV) s := fun z => (by
      obtain ⟨_, m1, m2, m3⟩ := rt0 z
      rw [f2] at m1
      rw [f3] at m2
      exact ⟨by omega, m3, m1, m2⟩)
    exact both_y A B na nb ca cb da db s (lastT (TV.t (⟨B, nb, cb, kb, db⟩ : TV))) (firstT (TV.t (⟨A, na, ca, ka, da⟩ : TV))) (rcLo (TV.t (⟨A, na, ca, ka, da⟩ : TV)) (TV.t (⟨B, nb, cb, kb, db⟩ : TV)) s) (rcHi (TV.t (⟨A, na, ca, ka, da⟩ : TV)) (TV.t (⟨B, nb, cb, kb, db⟩ : TV)) s) (crE (⟨A, na, ca, ka, da⟩ : TV) (⟨B, nb, cb, kb, db⟩ : TV) s (rcLo (TV.t (⟨A, na, ca, ka, da⟩ : TV)) (TV.t (⟨B, nb, cb, kb, db⟩ : TV)) s) (rcHi (TV.t (⟨A, na, ca, ka, da⟩ : TV)) (TV.t (⟨B, nb, cb, kb, db⟩ : TV)) s)) (stE (⟨A, na, ca, ka, da⟩ : TV) (⟨B, nb, cb, kb, db⟩ : TV) s) (stLo (⟨A, na, ca, ka, da⟩ : TV) (⟨B, nb, cb, kb, db⟩ : TV) s) (stHi (⟨A, na, ca, ka, da⟩ : TV) (⟨B, nb, cb, kb, db⟩ : TV) s) (timesErr (⟨A, na, ca, ka, da⟩ : TV) (⟨B, nb, cb, kb, db⟩ : TV) (stLo (⟨A, na, ca, ka, da⟩ : TV) (⟨B, nb, cb, kb, db⟩ : TV) s)) (rcLo (TV.t (⟨A, na, ca, ka, da⟩ : TV)) (TV.t (⟨B, nb, cb, kb, db⟩ : TV)) (stLo (⟨A, na, ca, ka, da⟩ : TV) (⟨B, nb, cb, kb, db⟩ : TV) s)) (rcHi (TV.t (⟨A, na, ca, ka, da⟩ : TV)) (TV.t (⟨B, nb, cb, kb, db⟩ : TV)) (stLo (⟨A, na, ca, ka, da⟩ : TV) (⟨B, nb, cb, kb, db⟩ : TV) s)) (tripE (⟨A, na, ca, ka, da⟩ : TV) (⟨B, nb, cb, kb, db⟩ : TV) s) (tripLo (⟨A, na, ca, ka, da⟩ : TV) (⟨B, nb, cb, kb, db⟩ : TV) s) (tripHi (⟨A, na, ca, ka, da⟩ : TV) (⟨B, nb, cb, kb, db⟩ : TV) s) ka kb w hA0 hB0 hA hB na1 nb1 bd.1 bd.2 hl bs.1 bT.2 (fun z => (cr_sound hd hl z).1) hG f0 bF.1 bs.2 b1 t0 hF hBE hTE hRA hSA hRT hRR hLT hFT hA1 hA2 hW1 hW2 hCR hTH hS1 hS2 hTS hRB hS0
set_option maxRecDepth 100000 in
theorem pathBothWays_lifted (os : Os) (started : os.Started) (H : Type) (enc : TypeId × Value → H) :
    ReturnsInHanded {} Tryz.checked os 6 .any (Rows.pathBothWaysSpec.pre6 enc Tryz.prog Tryz.f6 Rows.pathBothWaysRow.domain false) (Rows.pathBothWaysSpec.post enc Tryz.prog Tryz.f6 false true false false) := by
  refine returnsInHanded_of_change (C := Tryz.checked) owned started (by kernel_rfl) Tryz.func6
    (ChangeSpec.witness6 (enc := enc) (C := Tryz.checked) false ⟨#[], #[.agg #[.slice none 0 0, .int .i64 0], .agg #[.slice none 0 0, .int .i64 0], .int .i64 0], []⟩ 8 (by kernel_rfl) (by kernel_rfl) (by kernel_rfl) (by kernel_rfl)) ?_
  intro W base args ds gs before hval0 hW hcnd _
  have hval : ∀ (j : Nat) t v, Tryz.f6.params[j]? = some t → args[j]? = some v → Value.okWide Tryz.prog W .any base t v := hval0
  have hW' := hW
  obtain ⟨p, q, hA0, hV, rfl, hfz, hnd⟩ := hW
  have hA : DataW.TrodAll enc Tryz.prog W 0 (fun _ => true) true Tryz.f6.params.toList args.toList ds p := hA0
  rw [Tryz.params6] at hA hval
  obtain ⟨v0, vs0, d0, ds0, p0, q0, hargs, rfl, rfl, h0, r0⟩ := trodAll_cons hA
  obtain ⟨v1, vs1, d1, ds1, p1, q1, rfl, rfl, rfl, h1, r1⟩ := trodAll_cons r0
  obtain ⟨v2, vs2, d2, ds2, p2, q2, rfl, rfl, rfl, h2, r2⟩ := trodAll_cons r1
  obtain ⟨rfl, rfl, rfl⟩ := trodAll_nil r2
  obtain rfl : args = #[v0, v1, v2] := by cases args; simp_all
  obtain ⟨rfl, rfl⟩ := trodVars_none hV
  have k0 := h0
  have k1 := h1
  have lt0 : ∀ x ∈ p0, x.block < W.heap.size := by obtain ⟨m, hm⟩ := k0; exact DataW.trod_lt m _ _ _ hm
  have lt1 : ∀ x ∈ p1, x.block < W.heap.size := by obtain ⟨m, hm⟩ := k1; exact DataW.trod_lt m _ _ _ hm
  obtain ⟨A, n, c, k, db, rfl, hn, hA1, hA2⟩ := open_track (hval 0 24 v0 rfl rfl) h0
  obtain ⟨B, m, c', k', db', rfl, hm, hB1, hB2⟩ := open_track (hval 1 24 v1 rfl rfl) h1
  obtain ⟨a1, rfl, rfl, rfl, w1⟩ := open_int Tryz.underlying3 (hval 2 3 v2 rfl rfl) h2
  clear hA0 hval0
  refine (pathBothWays_any A B n m c c' db db' a1 k k' W hn hm hA1 hB1 hA2 hB2).mono fun e W' ⟨he, bel⟩ => ?_
  subst he
  exact ⟨_, rfl, _, _, _, [], _, [], hW', trodAll_mk1 (shut_bool Tryz.underlying4 _), (trodAll_cons_mk (Below.trod laidAll (by kernel_rfl) (of_decide_eq_true (by kernel_rfl)) k0 bel lt0) (trodAll_cons_mk (Below.trod laidAll (by kernel_rfl) (of_decide_eq_true (by kernel_rfl)) k1 bel lt1) (trodAll_cons_mk (shut_int Tryz.underlying3 w1) trodAll_mk0))), rfl, bel.frame _, fun h => by cases h⟩
theorem pathBothWays_over : Rows.pathBothWaysRow.holds Tryz.pinned (OpenSpec.ofChange Rows.pathBothWaysSpec) :=
  OpenClaim.holds_of_wide 6 Tryz.f6 rfl rfl rfl rfl rfl rfl rfl ⟨by kernel_rfl, by kernel_rfl, by kernel_rfl, by kernel_rfl, by kernel_rfl⟩ rfl rfl rfl rfl rfl (by kernel_rfl) Tryz.func6 (by kernel_rfl)
    (of_decide_eq_true (by kernel_rfl)) (by unfold Func.isWrapper; first | (rw [if_pos (by decide +kernel)]; kernel_rfl) | (rw [if_neg (by decide +kernel)]; exact ⟨rfl, rfl⟩))
    (fun os started H enc _ => pathBothWays_lifted os started H enc)
/-- THE STATEMENT. -/
theorem pathBothWays_holds : Rows.PathBothWaysSaid := pathBothWays_over
end Go.Proofs.YtnfoagcpgegldaaGreat
